import PyProof.Rows.All
import Wide.All
import OpenK.AllK
import Wide.FinOn
import PyProof.EqAt
import PyProof.EqKinds
import PyProof.TupleCall
import HandS.ForMost
import HandS.Codes
import HandS.IsInst
import HandS.Conv
import HandS.Style
import HandS.SetFor
import KE.KEqSeq
import PySem.Challenge.RW_freesets_k01_threads
set_option Elab.async false
set_option linter.all false
set_option maxRecDepth 100000
set_option maxHeartbeats 2000000
namespace TM
abbrev Edge := Nat × Nat
/-- a walk over some of the ties leads from a to b -/
def Conn : List Edge → Nat → Nat → Prop
  | [], a, b => a = b
  | e :: l, a, b => Conn l a b ∨ (Conn l a e.1 ∧ Conn l e.2 b) ∨ (Conn l a e.2 ∧ Conn l e.1 b)
theorem Conn.refl : ∀ (l : List Edge) (a : Nat), Conn l a a
  | [], _ => rfl
  | _ :: l, a => .inl (Conn.refl l a)
theorem Conn.symm : ∀ {l : List Edge} {a b : Nat}, Conn l a b → Conn l b a
  | [], _, _, h => (show _ = _ from h).symm
  | _ :: l, _, _, h => by
    rcases h with h | ⟨h, k⟩ | ⟨h, k⟩
    · exact .inl h.symm
    · exact .inr (.inr ⟨k.symm, h.symm⟩)
    · exact .inr (.inl ⟨k.symm, h.symm⟩)
theorem Conn.trans : ∀ {l : List Edge} {a b c : Nat}, Conn l a b → Conn l b c → Conn l a c
  | [], _, _, _, h, k => (show _ = _ from h).trans k
  | _ :: l, _, _, _, h, k => by
    rcases h with h | ⟨h, h'⟩ | ⟨h, h'⟩ <;> rcases k with k | ⟨k, k'⟩ | ⟨k, k'⟩
    · exact .inl (h.trans k)
    · exact .inr (.inl ⟨h.trans k, k'⟩)
    · exact .inr (.inr ⟨h.trans k, k'⟩)
    · exact .inr (.inl ⟨h, h'.trans k⟩)
    · exact .inr (.inl ⟨h, k'⟩)
    · exact .inl (h.trans k')
    · exact .inr (.inr ⟨h, h'.trans k⟩)
    · exact .inl (h.trans k')
    · exact .inr (.inr ⟨h, k'⟩)
theorem Conn.cons {e : Edge} {l : List Edge} {a b : Nat} (h : Conn l a b) : Conn (e :: l) a b := .inl h
theorem Conn.tie {e : Edge} {l : List Edge} : Conn (e :: l) e.1 e.2 := .inr (.inl ⟨.refl _ _, .refl _ _⟩)
/-- the closing: any equivalence that holds l's walks and e -/
theorem Conn.lift {e : Edge} {l m : List Edge} (s : ∀ a b, Conn l a b → Conn m a b) (h : Conn m e.1 e.2) : ∀ a b, Conn (e :: l) a b → Conn m a b := by
  rintro a b (k | ⟨k, k'⟩ | ⟨k, k'⟩)
  · exact s _ _ k
  · exact ((s _ _ k).trans h).trans (s _ _ k')
  · exact ((s _ _ k).trans h.symm).trans (s _ _ k')
theorem Conn.perm {l m : List Edge} (p : l.Perm m) : ∀ a b, Conn l a b ↔ Conn m a b := by
  induction p with
  | nil => exact fun _ _ => Iff.rfl
  | cons x _ ih => exact fun a b => ⟨Conn.lift (fun _ _ k => ((ih _ _).mp k).cons) .tie a b, Conn.lift (fun _ _ k => ((ih _ _).mpr k).cons) .tie a b⟩
  | swap x y l =>
    exact fun a b => ⟨Conn.lift (Conn.lift (fun _ _ k => k.cons.cons) .tie) (Conn.tie.cons) a b, Conn.lift (Conn.lift (fun _ _ k => k.cons.cons) .tie) (Conn.tie.cons) a b⟩
  | trans _ _ h1 h2 => exact fun a b => (h1 a b).trans (h2 a b)
/-- no tie closes a walk of those behind it -/
def Ind : List Edge → Prop
  | [] => True
  | e :: l => ¬ Conn l e.1 e.2 ∧ Ind l
theorem exch {x y : Edge} {l : List Edge} (nx : ¬ Conn l x.1 x.2) (h : Conn (y :: l) x.1 x.2) : Conn (x :: l) y.1 y.2 := by
  rcases h with h | ⟨h, k⟩ | ⟨h, k⟩
  · exact absurd h nx
  · exact .inr (.inl ⟨h.symm, k.symm⟩)
  · exact .inr (.inr ⟨k, h⟩)
theorem ind_swap {x y : Edge} {l : List Edge} (h : Ind (x :: y :: l)) : Ind (y :: x :: l) :=
  ⟨fun k => h.1 (exch h.2.1 k), fun k => h.1 k.cons, h.2.2⟩
theorem Ind.perm {l m : List Edge} (p : l.Perm m) : Ind l ↔ Ind m := by
  induction p with
  | nil => exact Iff.rfl
  | cons x q ih => exact and_congr (not_congr (Conn.perm q _ _)) ih
  | swap x y l => exact ⟨ind_swap, ind_swap⟩
  | trans _ _ h1 h2 => exact h1.trans h2
theorem Conn.sub {l m : List Edge} (s : l.Sublist m) : ∀ a b, Conn l a b → Conn m a b := by
  induction s with
  | slnil => exact fun _ _ h => h
  | cons _ _ ih => exact fun a b h => (ih a b h).cons
  | cons_cons _ _ ih => exact Conn.lift (fun _ _ k => (ih _ _ k).cons) .tie
theorem Ind.sub {l m : List Edge} (s : l.Sublist m) : Ind m → Ind l := by
  induction s with
  | slnil => exact fun h => h
  | cons _ _ ih => exact fun h => ih h.2
  | cons_cons a q ih => exact fun h => ⟨fun k => h.1 (Conn.sub q _ _ k), ih h.2⟩
/-! ### marks -/
def Mk (P : Nat) (m : Nat → Nat) (zs : List Edge) : Prop := ∀ a b, a < P → b < P → (m a = m b ↔ Conn zs a b)
def re (m : Nat → Nat) (e : Edge) : Nat → Nat := fun a => if m a = m e.2 then m e.1 else m a
theorem mk_re {P : Nat} {m : Nat → Nat} {zs : List Edge} {e : Edge} (h : Mk P m zs) (h1 : e.1 < P) (h2 : e.2 < P) (ne : ¬ m e.1 = m e.2) : Mk P (re m e) (e :: zs) := by
  intro a b ha hb
  show (re m e a = re m e b) ↔ (Conn zs a b ∨ (Conn zs a e.1 ∧ Conn zs e.2 b) ∨ (Conn zs a e.2 ∧ Conn zs e.1 b))
  rw [← h a b ha hb, ← h a _ ha h1, ← h _ b h2 hb, ← h a _ ha h2, ← h _ b h1 hb]
  unfold re
  by_cases ca : m a = m e.2 <;> by_cases cb : m b = m e.2
  · rw [if_pos ca, if_pos cb, ca, cb]
    simp
  · rw [if_pos ca, if_neg cb, ca]
    constructor
    · intro k
      exact .inr (.inr ⟨rfl, k⟩)
    · rintro (k | ⟨_, k⟩ | ⟨_, k⟩)
      · exact absurd k.symm cb
      · exact absurd k.symm cb
      · exact k
  · rw [if_neg ca, if_pos cb, cb]
    constructor
    · intro k
      exact .inr (.inl ⟨k, rfl⟩)
    · rintro (k | ⟨k, _⟩ | ⟨k, _⟩)
      · exact absurd k ca
      · exact k
      · exact absurd k ca
  · rw [if_neg ca, if_neg cb]
    constructor
    · intro k
      exact .inl k
    · rintro (k | ⟨_, k⟩ | ⟨k, _⟩)
      · exact k
      · exact absurd k.symm cb
      · exact absurd k ca
/-- the program's walk: marks so far, the ties to come -/
def freeF : (Nat → Nat) → List Edge → Bool
  | _, [] => true
  | m, e :: es => if m e.1 = m e.2 then false else freeF (re m e) es
theorem ind_tail : ∀ {as : List Edge} {y : Edge} {zs : List Edge}, Ind (as ++ ([y] ++ zs)) → Ind (y :: zs)
  | [], _, _, h => h
  | _ :: as, _, _, h => ind_tail (as := as) h.2
theorem freeF_iff {P : Nat} : ∀ (es zs : List Edge) (m : Nat → Nat), Mk P m zs → (∀ e ∈ es, e.1 < P ∧ e.2 < P) → Ind zs → (freeF m es = true ↔ Ind (es.reverse ++ zs))
  | [], zs, m, _, _, iz => by
    show (true = true) ↔ Ind zs
    exact ⟨fun _ => iz, fun _ => rfl⟩
  | e :: es, zs, m, h, hb, iz => by
    obtain ⟨b1, b2⟩ := hb e (List.mem_cons_self ..)
    show ((if m e.1 = m e.2 then false else freeF (re m e) es) = true) ↔ _
    rw [List.reverse_cons, List.append_assoc]
    by_cases c : m e.1 = m e.2
    · rw [if_pos c]
      refine ⟨fun k => (by cases k), fun k => ?_⟩
      exact absurd ((h _ _ b1 b2).mp c) (ind_tail k).1
    · rw [if_neg c]
      exact freeF_iff es (e :: zs) _ (mk_re h b1 b2 c) (fun e' he' => hb e' (List.mem_cons_of_mem _ he')) ⟨fun k => c ((h _ _ b1 b2).mpr k), iz⟩
theorem freeF_ind {P : Nat} (es : List Edge) (hb : ∀ e ∈ es, e.1 < P ∧ e.2 < P) : freeF id es = true ↔ Ind es.reverse := by
  have := freeF_iff (P := P) es [] id (fun a b _ _ => Iff.rfl) hb True.intro
  rw [List.append_nil] at this
  exact this
/-! ### ties with a loose end, taken off -/
def ends : List Edge → List Nat
  | [] => []
  | e :: es => e.1 :: e.2 :: ends es
theorem ends_append : ∀ l m : List Edge, ends (l ++ m) = ends l ++ ends m
  | [], _ => rfl
  | e :: l, m => by
    show e.1 :: e.2 :: ends (l ++ m) = e.1 :: e.2 :: (ends l ++ ends m)
    rw [ends_append l m]
def deg (l : List Edge) (v : Nat) : Nat := (ends l).count v
def keep (l : List Edge) (e : Edge) : Bool := decide (1 < deg l e.1) && decide (1 < deg l e.2)
def strip (l : List Edge) : List Edge := l.filter (keep l)
def iter : Nat → List Edge → List Edge
  | 0, l => l
  | n + 1, l => iter n (strip l)
theorem deg_cons (e : Edge) (l : List Edge) (v : Nat) : deg (e :: l) v = (if e.1 = v then 1 else 0) + (if e.2 = v then 1 else 0) + deg l v := by
  unfold deg
  show (e.1 :: e.2 :: ends l).count v = _
  rw [List.count_cons, List.count_cons]
  by_cases h1 : e.1 = v <;> by_cases h2 : e.2 = v <;> simp [h1, h2] <;> omega
theorem deg_append (l m : List Edge) (v : Nat) : deg (l ++ m) v = deg l v + deg m v := by
  unfold deg
  rw [ends_append, List.count_append]
theorem deg_mem : ∀ {l : List Edge} {e : Edge}, e ∈ l → 1 ≤ deg l e.1 ∧ 1 ≤ deg l e.2
  | d :: l, e, h => by
    rw [deg_cons, deg_cons]
    rcases List.mem_cons.mp h with q | q
    · subst q
      simp
      omega
    · have := deg_mem q
      omega
theorem deg_of : ∀ {l : List Edge} {v : Nat}, 1 ≤ deg l v → ∃ e ∈ l, e.1 = v ∨ e.2 = v
  | [], v, h => by
    have : deg [] v = 0 := rfl
    omega
  | d :: l, v, h => by
    rw [deg_cons] at h
    by_cases h1 : d.1 = v
    · exact ⟨d, List.mem_cons_self .., .inl h1⟩
    by_cases h2 : d.2 = v
    · exact ⟨d, List.mem_cons_self .., .inr h2⟩
    rw [if_neg h1, if_neg h2] at h
    obtain ⟨e, he, k⟩ := deg_of (l := l) (v := v) (by omega)
    exact ⟨e, List.mem_cons_of_mem _ he, k⟩
theorem lone : ∀ {l : List Edge} {u x : Nat}, deg l u = 0 → Conn l u x → x = u
  | [], _, _, _, h => (show _ = _ from h).symm
  | e :: l, u, x, h, k => by
    rw [deg_cons] at h
    have h1 : ¬ e.1 = u := fun c => by rw [if_pos c] at h; omega
    have h2 : ¬ e.2 = u := fun c => by rw [if_pos c] at h; omega
    have h0 : deg l u = 0 := by omega
    rcases k with k | ⟨k, _⟩ | ⟨k, _⟩
    · exact lone h0 k
    · exact absurd (lone h0 k) h1
    · exact absurd (lone h0 k) h2
/-- every touched place has another one with it that one tie alone touches -/
theorem leaves : ∀ {l : List Edge}, Ind l → ∀ a, 1 ≤ deg l a → ∃ b, b ≠ a ∧ Conn l a b ∧ deg l b = 1
  | [], _, a, h => by
    have : deg [] a = 0 := rfl
    omega
  | e :: l, ⟨nc, il⟩, a, h => by
    have ih := leaves il
    have ne : e.1 ≠ e.2 := fun c => nc (by rw [c]; exact .refl _ _)
    have two : ∀ x y, (x = e.1 ∧ y = e.2) ∨ (x = e.2 ∧ y = e.1) → ∃ b, Conn l x b ∧ deg (e :: l) b = 1 := by
      intro x y hxy
      have nxy : ¬ Conn l x y := by
        rcases hxy with ⟨rfl, rfl⟩ | ⟨rfl, rfl⟩
        · exact nc
        · exact fun k => nc k.symm
      by_cases z : deg l x = 0
      · refine ⟨x, .refl _ _, ?_⟩
        rw [deg_cons, z]
        rcases hxy with ⟨rfl, rfl⟩ | ⟨rfl, rfl⟩
        · rw [if_pos rfl, if_neg ne.symm]
        · rw [if_neg ne, if_pos rfl]
      · obtain ⟨b, nb, cb, db⟩ := ih x (by omega)
        refine ⟨b, cb, ?_⟩
        have ny : b ≠ y := fun c => nxy (c ▸ cb)
        rw [deg_cons, db]
        rcases hxy with ⟨rfl, rfl⟩ | ⟨rfl, rfl⟩
        · rw [if_neg nb.symm, if_neg ny.symm]
        · rw [if_neg ny.symm, if_neg nb.symm]
    obtain ⟨bu, cu, du⟩ := two e.1 e.2 (.inl ⟨rfl, rfl⟩)
    obtain ⟨bv, cv, dv⟩ := two e.2 e.1 (.inr ⟨rfl, rfl⟩)
    by_cases c1 : Conn l a e.1
    · refine ⟨bv, fun q => ?_, .inr (.inl ⟨c1, cv⟩), dv⟩
      exact nc (c1.symm.trans (q ▸ cv.symm))
    by_cases c2 : Conn l a e.2
    · refine ⟨bu, fun q => ?_, .inr (.inr ⟨c2, cu⟩), du⟩
      exact nc ((q ▸ cu : Conn l e.1 a).trans c2)
    have a1 : e.1 ≠ a := fun c => c1 (c ▸ .refl _ _)
    have a2 : e.2 ≠ a := fun c => c2 (c ▸ .refl _ _)
    rw [deg_cons, if_neg a1, if_neg a2] at h
    obtain ⟨b, nb, cb, db⟩ := ih a (by omega)
    refine ⟨b, nb, cb.cons, ?_⟩
    have b1 : e.1 ≠ b := fun c => c1 (c ▸ cb)
    have b2 : e.2 ≠ b := fun c => c2 (c ▸ cb)
    rw [deg_cons, if_neg b1, if_neg b2, db]
theorem shorter {l : List Edge} (h : Ind l) (ne : l ≠ []) : (strip l).length < l.length := by
  obtain ⟨e, r, rfl⟩ : ∃ e r, l = e :: r := by
    cases l with
    | nil => exact absurd rfl ne
    | cons e r => exact ⟨e, r, rfl⟩
  obtain ⟨b, _, _, db⟩ := leaves h e.1 (deg_mem (List.mem_cons_self ..)).1
  obtain ⟨d, hd, q⟩ := deg_of (l := e :: r) (v := b) (by omega)
  refine Nat.lt_of_le_of_ne (List.length_filter_le _ _) fun c => ?_
  have k := List.length_filter_eq_length_iff.mp c d hd
  unfold keep at k
  rw [Bool.and_eq_true] at k
  have k1 := of_decide_eq_true k.1
  have k2 := of_decide_eq_true k.2
  rcases q with q | q
  · rw [q] at k1
    omega
  · rw [q] at k2
    omega
theorem strip_nil : ∀ n, iter n [] = []
  | 0 => rfl
  | n + 1 => strip_nil n
theorem iter_of_ind : ∀ (n : Nat) (l : List Edge), Ind l → l.length ≤ n → iter n l = []
  | 0, l, _, h => List.eq_nil_of_length_eq_zero (Nat.le_zero.mp h)
  | n + 1, l, i, h => by
    by_cases c : l = []
    · rw [c]
      exact strip_nil _
    · have := shorter i c
      exact iter_of_ind n _ (i.sub (List.filter_sublist ..)) (by omega)
theorem ind_add {l : List Edge} : ∀ (m s : List Edge), (∀ v, deg (m ++ s) v ≤ deg l v) → (∀ e ∈ m, deg l e.1 ≤ 1 ∨ deg l e.2 ≤ 1) → Ind s → Ind (m ++ s)
  | [], _, _, _, i => i
  | e :: m, s, hd, hl, i => by
    have ih := ind_add m s (fun v => by
      have := hd v
      rw [List.cons_append, deg_cons] at this
      omega) (fun e' he' => hl e' (List.mem_cons_of_mem _ he')) i
    refine ⟨fun c => ?_, ih⟩
    have c : Conn (m ++ s) e.1 e.2 := c
    have d1 := hd e.1
    have d2 := hd e.2
    rw [List.cons_append, deg_cons] at d1 d2
    rw [if_pos rfl] at d1
    rw [if_pos rfl] at d2
    rcases hl e (List.mem_cons_self ..) with q | q
    · have ne : ¬ e.2 = e.1 := fun z => by rw [if_pos z] at d1; omega
      exact ne (lone (by omega) c)
    · have ne : ¬ e.1 = e.2 := fun z => by rw [if_pos z] at d2; omega
      exact ne (lone (by omega) c.symm)
theorem deg_perm {l m : List Edge} (p : l.Perm m) (v : Nat) : deg l v = deg m v := by
  induction p with
  | nil => rfl
  | cons x _ ih => rw [deg_cons, deg_cons, ih]
  | swap x y l => rw [deg_cons, deg_cons, deg_cons, deg_cons]; omega
  | trans _ _ h1 h2 => exact h1.trans h2
theorem ind_of_strip {l : List Edge} (h : Ind (strip l)) : Ind l := by
  have p : ((l.filter fun e => !keep l e) ++ strip l).Perm l := (List.perm_append_comm).trans (List.filter_append_perm (keep l) l)
  refine (Ind.perm p).mp (ind_add (l := l) _ _ (fun v => Nat.le_of_eq (deg_perm p v)) (fun e he => ?_) h)
  have k := (List.mem_filter.mp he).2
  have k' : keep l e = false := by simpa using k
  unfold keep at k'
  rw [Bool.and_eq_false_iff] at k'
  rcases k' with q | q
  · exact .inl (Nat.le_of_not_lt (of_decide_eq_false q))
  · exact .inr (Nat.le_of_not_lt (of_decide_eq_false q))
theorem ind_of_iter : ∀ (n : Nat) (l : List Edge), iter n l = [] → Ind l
  | 0, l, h => by
    have h : l = [] := h
    rw [h]
    exact True.intro
  | n + 1, l, h => ind_of_strip (ind_of_iter n (strip l) h)
theorem iter_iff (l : List Edge) : iter l.length l = [] ↔ Ind l := ⟨ind_of_iter _ _, fun i => iter_of_ind _ _ i (Nat.le_refl _)⟩
def noRing (l : List Edge) : Bool := decide (iter l.length l = [])
theorem agree {P : Nat} (l : List Edge) (hb : ∀ e ∈ l, e.1 < P ∧ e.2 < P) : freeF id l.reverse = noRing l := by
  unfold noRing
  rw [Bool.eq_iff_iff, decide_eq_true_eq, iter_iff, freeF_ind (P := P) _ fun e he => hb e (List.mem_reverse.mp he), List.reverse_reverse]
end TM
namespace Fs
open PySem L2
def top (i : Nat) : Stmt := PySem.Challenge.pw_freesets_k01_threads.main.body.getD i (.Pass ⟨0, 0, 0, 0⟩)
abbrev s_is_number : Stmt := top 6
abbrev n_is_number : List Str := ["value"]
theorem sc_is_number : FnScope n_is_number ["value"] (defScope s_is_number) :=
  ⟨rfl, rfl, rfl, by decide +kernel, rfl, by decide +kernel, by decide +kernel⟩
abbrev s_is_within : Stmt := top 7
abbrev n_is_within : List Str := ["value", "low", "high"]
theorem sc_is_within : FnScope n_is_within ["value", "low", "high"] (defScope s_is_within) :=
  ⟨rfl, rfl, rfl, by decide +kernel, rfl, by decide +kernel, by decide +kernel⟩
abbrev s_check_thing : Stmt := top 8
abbrev n_check_thing : List Str := ["thing", "many"]
theorem sc_check_thing : FnScope n_check_thing ["thing", "many"] (defScope s_check_thing) :=
  ⟨rfl, rfl, rfl, by decide +kernel, rfl, by decide +kernel, by decide +kernel⟩
abbrev s_check_set : Stmt := top 9
abbrev n_check_set : List Str := ["some", "many", "seen", "thing"]
theorem sc_check_set : FnScope n_check_set ["some", "many"] (defScope s_check_set) :=
  ⟨rfl, rfl, rfl, by decide +kernel, rfl, by decide +kernel, by decide +kernel⟩
abbrev s_Threads___init__ : Stmt := inClass (top 14) 0
abbrev n_Threads___init__ : List Str := ["self", "places", "ties", "tie"]
theorem sc_Threads___init__ : FnScope n_Threads___init__ ["self", "places", "ties"] (defScope s_Threads___init__) :=
  ⟨rfl, rfl, rfl, by decide +kernel, rfl, by decide +kernel, by decide +kernel⟩
abbrev s_Threads_many : Stmt := inClass (top 14) 1
abbrev n_Threads_many : List Str := ["self"]
theorem sc_Threads_many : FnScope n_Threads_many ["self"] (defScope s_Threads_many) :=
  ⟨rfl, rfl, rfl, by decide +kernel, rfl, by decide +kernel, by decide +kernel⟩
abbrev s_Threads_free : Stmt := inClass (top 14) 2
abbrev n_Threads_free : List Str := ["self", "some", "marks", "thing", "near", "far", "stays", "goes", "mark"]
theorem sc_Threads_free : FnScope n_Threads_free ["self", "some"] (defScope s_Threads_free) :=
  ⟨rfl, rfl, rfl, by decide +kernel, rfl, by decide +kernel, by decide +kernel⟩
abbrev s_check_ground : Stmt := top 15
abbrev n_check_ground : List Str := ["things"]
theorem sc_check_ground : FnScope n_check_ground ["things"] (defScope s_check_ground) :=
  ⟨rfl, rfl, rfl, by decide +kernel, rfl, by decide +kernel, by decide +kernel⟩
abbrev s_is_tie : Stmt := top 16
abbrev n_is_tie : List Str := ["tie", "places", "place"]
theorem sc_is_tie : FnScope n_is_tie ["tie", "places"] (defScope s_is_tie) :=
  ⟨rfl, rfl, rfl, by decide +kernel, rfl, by decide +kernel, by decide +kernel⟩
abbrev s__law_cell_at : Stmt := top 18
abbrev n__law_cell_at : List Str := ["_law_script", "_law_k"]
theorem sc__law_cell_at : FnScope n__law_cell_at ["_law_script", "_law_k"] (defScope s__law_cell_at) :=
  ⟨rfl, rfl, rfl, by decide +kernel, rfl, by decide +kernel, by decide +kernel⟩
abbrev s__law_draw : Stmt := top 19
abbrev n__law_draw : List Str := ["_law_cell", "_law_k", "_law_many", "_law_mixed"]
theorem sc__law_draw : FnScope n__law_draw ["_law_cell", "_law_k", "_law_many"] (defScope s__law_draw) :=
  ⟨rfl, rfl, rfl, by decide +kernel, rfl, by decide +kernel, by decide +kernel⟩
abbrev s__law_no_ring : Stmt := top 20
abbrev n__law_no_ring : List Str := ["_law_ties", "_law_left", "_law_turn", "_law_ends", "_law_tie"]
theorem sc__law_no_ring : FnScope n__law_no_ring ["_law_ties"] (defScope s__law_no_ring) :=
  ⟨rfl, rfl, rfl, by decide +kernel, rfl, by decide +kernel, by decide +kernel⟩
abbrev s_law : Stmt := top 21
abbrev n_law : List Str := ["_law_script", "_law_n", "_law_places", "_law_ties", "_law_k", "_law_cell", "_law_handed", "_law_rule", "_law_at", "_law_some", "_law_asked", "_law_found"]
theorem sc_law : FnScope n_law ["_law_script"] (defScope s_law) :=
  ⟨rfl, rfl, rfl, by decide +kernel, rfl, by decide +kernel, by decide +kernel⟩

/-! ### words of our own, for any of the program's laws -/
section
/-- which names of the built-ins are still theirs -/
structure Bl (mg : Str → Option Value) : Prop where
  isinstance_ : mg "isinstance" = none
  int_ : mg "int" = none
  bool_ : mg "bool" = none
  list_ : mg "list" = none
  tuple_ : mg "tuple" = none
  len_ : mg "len" = none
  all_ : mg "all" = none
  range_ : mg "range" = none
  min_ : mg "min" = none
  sorted_ : mg "sorted" = none
  set_ : mg "set" = none
theorem room65 {k : Nat} {A : Around} (hr : Room k A) : A.units + 65 < cLine := by
  have := hr.un
  omega
theorem yesT {σ : St} {H : Hp} {A B : Hp → Prop} (h : A H) : tYes σ H (fun b H3 => if b = true then A H3 else B H3) := by
  show (if true = true then A H else B H)
  exact iteT h
theorem take_more {α : Type} {l : List α} {i : Nat} {x : α} (h : l[i]? = some x) : l.take (i + 1) = l.take i ++ [x] := by
  rw [List.take_add_one, h]
  rfl
theorem map_at {α β : Type} {f : α → β} {l : List α} {i : Nat} {y : β} (h : (l.map f)[i]? = some y) : ∃ x, l[i]? = some x ∧ y = f x := by
  rw [List.getElem?_map] at h
  cases e : l[i]? with
  | none => rw [e] at h; cases h
  | some x => rw [e] at h; exact ⟨x, rfl, (Option.some.inj h).symm⟩
theorem flat_ints : ∀ xs : List Int, (xs.map V.int).all flatV = true
  | [] => rfl
  | _ :: xs => flat_ints xs
theorem in_ints (x : Int) : ∀ xs : List Int, inV (.int x) (xs.map V.int) = decide (x ∈ xs)
  | [] => rfl
  | y :: xs => by
    have ih := in_ints x xs
    show ((y == x) || inV (.int x) (xs.map V.int)) = decide (x ∈ y :: xs)
    rw [ih]
    by_cases e : y = x
    · subst e; simp
    · have e' : ¬ x = y := fun z => e z.symm
      simp [e, e']
theorem flat_nats : ∀ xs : List Nat, (xs.map (fun n : Nat => V.int (n : Int))).all flatV = true
  | [] => rfl
  | _ :: xs => flat_nats xs
theorem in_nats (x : Nat) : ∀ xs : List Nat, inV (.int (x : Int)) (xs.map (fun n : Nat => V.int (n : Int))) = decide (x ∈ xs)
  | [] => rfl
  | y :: xs => by
    have ih := in_nats x xs
    show (((y : Int) == (x : Int)) || inV (.int (x : Int)) (xs.map (fun n : Nat => V.int (n : Int)))) = decide (x ∈ y :: xs)
    rw [ih]
    by_cases e : y = x
    · subst e; simp
    · have e' : ¬ x = y := fun z => e z.symm
      have e2 : ((y : Int) == (x : Int)) = false := beq_false_of_ne (by omega)
      rw [e2]
      simp [e']
/-- two lists of numbers are data -/
theorem dp_ints {K : PySem.W.Frag} {H : Hp} : ∀ xs : List Int, DpAll K H (xs.map V.int) (xs.map PyData.int)
  | [] => .nil
  | x :: xs => .cons (.int x) (dp_ints xs)
theorem eqv_ints (xs : List Int) : PyData.eqv (.list (xs.map PyData.int)) (.list (xs.map PyData.int)) = true := SeqAt.eqv_refl _ (SeqAt.canLay_of_shaped (PySem.W.ke_shaped_ints xs))
/-- a number that is not negative -/
abbrev nv (n : Nat) : V := .int (n : Int)
theorem nv_ints (l : List Nat) : l.map nv = (l.map (fun n : Nat => (n : Int))).map V.int := by
  rw [List.map_map]
  rfl
theorem nd_cast : ∀ {xs : List Nat}, xs.Nodup → (xs.map (fun n : Nat => (n : Int))).Nodup
  | [], _ => List.nodup_nil
  | x :: xs, h => by
    have h' := List.nodup_cons.mp h
    rw [List.map_cons, List.nodup_cons]
    refine ⟨fun hm => ?_, nd_cast h'.2⟩
    obtain ⟨y, hy, e⟩ := List.mem_map.mp hm
    have : y = x := by omega
    rw [this] at hy
    exact h'.1 hy
theorem dec_nv (n : Nat) : decide (nv n = V.int 0) = decide (n = 0) := by
  rw [Bool.eq_iff_iff, decide_eq_true_eq, decide_eq_true_eq]
  constructor
  · intro e
    have := V.int.inj e
    omega
  · intro e
    rw [e]
    rfl
theorem dp_nats {K : PySem.W.Frag} {H : Hp} (xs : List Nat) : DpAll K H (xs.map nv) ((xs.map (fun n : Nat => (n : Int))).map PyData.int) := by
  rw [nv_ints]
  exact dp_ints _
theorem same_upd {H : Hp} {l : Addr} {o : HO} (h : H l = none) : Same H (upd H l o) := fun b u e => by
  rw [upd_ne (ne_of_none e h)]
  exact e
theorem same_to {H H1 : Hp} {l : Addr} {o : HO} (s : Same H H1) (h : H l = none) : Same H (upd H1 l o) := fun b u e => by
  rw [upd_ne (ne_of_none e h)]
  exact s b u e
end
section
variable {P : Program} {w : World} {K : PySem.W.Frag} {mg : Str → Option Value} {base : Heap} {f : Addr} {fd : FuncData}
/-- tuple(x), list(x), len(x), where they may stand in a comprehension -/
def rTupOf (K : PySem.W.Frag) : List V → Hp → VK → Prop := fun xs H Q => ∃ p ys, xs = [.ref p] ∧ ((SqL K H p ys ∧ ∀ l, H l = none → Q (.ref l) (upd H l (.tup ys))) ∨ (SqT K H p ys ∧ Q (.ref p) H))
def rLstOf (K : PySem.W.Frag) : List V → Hp → VK → Prop := fun xs H Q => ∃ p ys, xs = [.ref p] ∧ (SqL K H p ys ∨ SqT K H p ys) ∧ ∀ l, H l = none → Q (.ref l) (upd H l (.lst ys))
def rLenOf (K : PySem.W.Frag) : List V → Hp → VK → Prop := fun xs H Q => ∃ p ys, xs = [.ref p] ∧ (SqL K H p ys ∨ SqT K H p ys) ∧ Q (.int ys.length) H
theorem call_tupK {X : Cx} {K : PySem.W.Frag} (eK : X.K = K) : CallR X (.type "tuple") (rTupOf K) := by subst eK; exact call_tuple_of
theorem call_lstK {X : Cx} {K : PySem.W.Frag} (eK : X.K = K) : CallR X (.type "list") (rLstOf K) := by subst eK; exact call_list_of
theorem call_lenK {X : Cx} {K : PySem.W.Frag} (eK : X.K = K) : CallR X (.builtin "len") (rLenOf K) := by subst eK; exact call_len_seq
theorem call_isiK {X : Cx} {K : PySem.W.Frag} (eK : X.K = K) : CallR X (.builtin "isinstance") (rIsi K) := by subst eK; exact call_isi
/-- a tuple as a target, where it may stand in a comprehension -/
theorem pg_tupK {X : Cx} {K : PySem.W.Frag} {es : List Expr} {k : Nat} {t : TGs} {n : Nat} {pos : Pos} (eK : X.K = K) (hc : X.calm = true) (h : PGs X es t)
    (hn : (assignEach es X.env).length = n := by rfl) (hst : (assignEach es X.env).findIdx? (·.1) = none := by rfl) : PG X (.Tuple es k pos) (gTup K n t) := by
  subst eK
  exact pg_tup hc h hn hst
/-- xs.count(e), where it may stand in a comprehension -/
theorem pe_cntK {X : Cx} {K : PySem.W.Frag} {o e : Expr} {to : TE} {t : TA} {apos cpos : Pos} (eK : X.K = K) (ho : PE X o to) (ha : PA X [e] t)
    (hbase : attributeBase o "count" X.env (eval o X.env) = eval o X.env := by rfl)
    (hfew : ((backTo cpos (starEach [e] X.env)).all (fun x => !x.1) && (backToKw cpos (keywordEach [] X.env)).all (fun x => x.1.isSome)
      && decide ([e].length + ([] : List Keyword).length + (if ([] : List Keyword).isEmpty then 0 else 1) < 30)) = true := by rfl)
    (hline : (apos.endLine == cpos.line) = true := by rfl) (hs : starEach [e] X.env = [(false, eval e X.env)] := by rfl) :
    PE X (.Call (.Attribute o "count" apos) [e] [] cpos) (tBM K "list" (rCntI K) to t) := by
  subst eK
  exact pe_bm PySem.F.plainAttrs_list PySem.F.slot_list_count PySem.F.type_list_count mt_lcount ho ha hbase hfew hline hs rfl
/-! ### is_number, is_within, check_thing, check_set -/
def spNum : Sp := fun vs H Q _ => ∃ i : Int, vs = [.int i] ∧ Q (.bl true) H
theorem ok_num (B : Bl mg) (F : L2.Fun K "is_number" "is_number" s_is_number f fd) (g : mg "is_number" = some (.ref f)) : C8.Cal P w K mg base 1 "is_number" spNum [] := by
  refine ⟨f, fd, ["value"], [], F.ok sc_is_number (fun vs H Q E h => ?_) (fun cdv A outer s H vs Q E hr h => ?_), g, F.kp, F.binds (ps := ["value"]) (fun _ _ _ _ _ _ us hl => match us, hl with | [_], _ => rfl), .nil⟩
  · obtain ⟨i, rfl, _⟩ := h
    rfl
  · obtain ⟨i, rfl, q⟩ := h
    refine ⟨_, (pss_one (ps_ret (pe_and (pe_callB (call_isiK (K := K) rfl) (by rfl) B.isinstance_ (by decide +kernel) (pa_cons (pv 0) (pa_cons (pe_bltn (v := .ty "int") (u := .type "int") (by rfl) B.int_ (by decide +kernel) rfl) pa_nil))) (pe_one (pe_not (pe_callB (call_isiK (K := K) rfl) (by rfl) B.isinstance_ (by decide +kernel) (pa_cons (pv 0) (pa_cons (pe_bltn (v := .ty "bool") (u := .type "bool") (by rfl) B.bool_ (by decide +kernel) rfl) pa_nil)))))))), ?_⟩
    exact ⟨_, rfl, _, _, _, _, true, rfl, ClsV.ty _, TyX.base (TyOf.int i), kit_ty (by decide +kernel), true, rfl, iteT ⟨_, rfl, _, _, _, _, false, rfl, ClsV.ty _, TyX.base (TyOf.int i), kit_ty (by decide +kernel), false, rfl, q⟩⟩
def spWithin : Sp := fun vs H Q _ => ∃ i lo hi : Int, vs = [.int i, .int lo, .int hi] ∧ Q (.bl (decide (lo ≤ i) && decide (i ≤ hi))) H
theorem ok_within (F : L2.Fun K "is_within" "is_within" s_is_within f fd) (g : mg "is_within" = some (.ref f)) (c_is_number : C8.Cal P w K mg base 1 "is_number" spNum []) : C8.Cal P w K mg base 2 "is_within" spWithin [] := by
  refine ⟨f, fd, ["value", "low", "high"], [], F.ok sc_is_within (fun vs H Q E h => ?_) (fun cdv A outer s H vs Q E hr h => ?_), g, F.kp, F.binds (ps := ["value", "low", "high"]) (fun _ _ _ _ _ _ us hl => match us, hl with | [_, _, _], _ => rfl), .nil⟩
  · obtain ⟨i, lo, hi, rfl, _⟩ := h
    rfl
  · obtain ⟨i, lo, hi, rfl, q⟩ := h
    refine ⟨_, (pss_one (ps_ret (pe_and (C8.pe_c c_is_number hr (by first | decide | exact Nat.le_refl _ | omega) rfl (pa_cons (pv 0) pa_nil)) (pe_one (pe_chain op_le op_le (pv 1) (pv 0) (pv 2)))))), ?_⟩
    refine ⟨_, rfl, i, rfl, true, rfl, iteT ⟨_, rfl, _, rfl, lo, i, rfl, rfl, decide (lo ≤ i), rfl, ?_⟩⟩
    cases e : decide (lo ≤ i) with
    | true =>
      rw [e] at q
      exact iteT ⟨_, rfl, i, hi, rfl, rfl, q⟩
    | false =>
      rw [e] at q
      exact iteF q
def spThing : Sp := fun vs H Q _ => ∃ i n : Int, vs = [.int i, .int n] ∧ 0 ≤ i ∧ i < n ∧ Q .non H
theorem ok_thing (F : L2.Fun K "check_thing" "check_thing" s_check_thing f fd) (g : mg "check_thing" = some (.ref f)) (c_is_within : C8.Cal P w K mg base 2 "is_within" spWithin []) : C8.Cal P w K mg base 3 "check_thing" spThing [] := by
  refine ⟨f, fd, ["thing", "many"], [], F.ok sc_check_thing (fun vs H Q E h => ?_) (fun cdv A outer s H vs Q E hr h => ?_), g, F.kp, F.binds (ps := ["thing", "many"]) (fun _ _ _ _ _ _ us hl => match us, hl with | [_, _], _ => rfl), .nil⟩
  · obtain ⟨i, n, rfl, _⟩ := h
    rfl
  · obtain ⟨i, n, rfl, h0, h1, q⟩ := h
    refine ⟨_, (pss_one (ps_if (pt_not (pt_val (C8.pe_c c_is_within hr (by first | decide | exact Nat.le_refl _ | omega) rfl (pa_cons (pv 0) (pa_cons pe_int (pa_cons (pe_op op_sub (pv 1) pe_int) pa_nil)))))) (pss_one ps_never) pss_nil)), ?_⟩
    have e : (decide ((0 : Int) ≤ i) && decide (i ≤ n - 1)) = true := by
      rw [Bool.and_eq_true]
      exact ⟨decide_eq_true h0, decide_eq_true (by omega)⟩
    exact ⟨_, rfl, _, rfl, _, _, rfl, rfl, i, 0, n - 1, rfl, true, by rw [e], iteF q⟩
def spSet : Sp := fun vs H Q _ => ∃ (a : Addr) (xs : List Int) (n : Int), vs = [.ref a, .int n] ∧ H a = some (.lst (xs.map V.int)) ∧ (∀ x ∈ xs, 0 ≤ x ∧ x < n) ∧ xs.Nodup ∧ xs.length ≤ 1000 ∧ ∀ H', Same H H' → Q .non H'
theorem ok_set (B : Bl mg) (F : L2.Fun K "check_set" "check_set" s_check_set f fd) (g : mg "check_set" = some (.ref f)) (c_check_thing : C8.Cal P w K mg base 3 "check_thing" spThing []) : C8.Cal P w K mg base 4 "check_set" spSet [] := by
  refine ⟨f, fd, ["some", "many"], [], F.ok sc_check_set (fun vs H Q E h => ?_) (fun cdv A outer s H vs Q E hr h => ?_), g, F.kp, F.binds (ps := ["some", "many"]) (fun _ _ _ _ _ _ us hl => match us, hl with | [_, _], _ => rfl), .nil⟩
  · obtain ⟨a, xs, n, rfl, _⟩ := h
    rfl
  · obtain ⟨a, xs, n, rfl, ha, hx, hnd, hlen, q⟩ := h
    refine ⟨_, (pss_cons (ps_if (pt_not (pt_val (pe_callB (call_isiK (K := K) rfl) (by rfl) B.isinstance_ (by decide +kernel) (pa_cons (pv 0) (pa_cons (pe_bltn (v := .ty "list") (u := .type "list") (by rfl) B.list_ (by decide +kernel) rfl) pa_nil))))) (pss_one ps_never) pss_nil)
      (pss_cons (ps_set (i := 2) sc_check_set.nd rfl (Or.inl rfl) (pe_lst pa_nil))
      (pss_one (ps_for PassesOwn.never rfl (pi_list (pv 0)) (pg_name (i := 3) sc_check_set.nd rfl (Or.inl rfl)) (pss_cons (ps_expr (C8.pe_c c_check_thing hr (by first | decide | exact Nat.le_refl _ | omega) rfl (pa_cons (pv 3) (pa_cons (pv 1) pa_nil))))
      (pss_cons (ps_if (pt_cmpR op_in_seq (pv 3) (pv 2) (by rfl)) (pss_one ps_never) pss_nil)
      (pss_one (ps_expr (pe_bm PySem.F.plainAttrs_list PySem.F.slot_list_append PySem.F.type_list_append mt_append (pv 2) (pa_cons (pv 3) pa_nil)))))))))), ?_⟩
    refine ⟨_, rfl, _, _, _, _, true, rfl, ClsV.ty _, TyX.base (TyOf.lst ha), kit_ty (by decide +kernel), true, rfl, iteF ?_⟩
    refine ⟨Nat.zero_le _, fun l hl => ?_⟩
    refine ⟨_, rfl, a, rfl, ⟨_, SqL.of (same_upd hl _ _ ha)⟩, for_list (K := K) (a := a) (xs := xs.map V.int) (fun i σ H' => ∃ v : Option V, σ = [some (.ref a), some (.int n), some (.ref l), v] ∧ Same H H' ∧ H' l = some (.lst ((xs.take i).map V.int)))
      ⟨none, rfl, same_upd hl, upd_same⟩ (fun i σ H' _ ⟨_, _, s5, _⟩ => SqL.of (s5 _ _ ha)) ?_ ?_⟩
    · rintro i y σ H' hi ⟨v, rfl, s5, hL⟩
      obtain ⟨x, hx', rfl⟩ := map_at hi
      obtain ⟨x0, x1⟩ := hx x (List.mem_of_getElem? hx')
      have hin : inV (.int x) ((xs.take i).map V.int) = false := by
        rw [in_ints]
        refine decide_eq_false fun hm => ?_
        obtain ⟨j, hj⟩ := List.getElem?_of_mem hm
        have hji : j < i := Nat.lt_of_not_le fun le => by
          rw [List.getElem?_take, if_neg (by omega)] at hj
          cases hj
        rw [List.getElem?_take, if_pos hji] at hj
        have := nd_ix hnd hj hx'
        omega
      have hl' : (xs.take i).length ≤ 1000 := Nat.le_trans (by rw [List.length_take]; omega) hlen
      refine ⟨_, rfl, _, rfl, x, n, rfl, x0, x1, ?_⟩
      refine ⟨_, rfl, _, rfl, l, _, rfl, .inl (SqL.of hL), rfl, flat_ints _, false, by rw [if_neg Bool.false_ne_true, hin], iteF ?_⟩
      refine ⟨_, rfl, .inl ⟨rfl, _, SqL.of hL⟩, _, rfl, l, _, _, rfl, rfl, hL, by rw [List.length_map]; exact small1000 hl', ?_⟩
      refine ⟨_, rfl, same_to s5 hl, ?_⟩
      rw [take_more hx', List.map_append]
      exact upd_same
    · rintro σ H' ⟨v, rfl, s5, hL⟩
      exact q _ s5
end
/-! ### the law's own readers: a cell of the script, a draw -/
def cellAt (ns : List Int) (k : Nat) : Int := ns.getD k 0
def drawF (c k m : Int) : Int :=
  let x := (c % 1000000007 * 48271 + k * 69621 + 7) % 1000000007
  x * x / 1013 % 1000003 % m
theorem drawF_lo {c k m : Int} (h : 0 < m) : 0 ≤ drawF c k m := Int.emod_nonneg _ (by omega)
theorem drawF_hi {c k m : Int} (h : 0 < m) : drawF c k m < m := Int.emod_lt_of_pos _ h
section
variable {P : Program} {w : World} {K : PySem.W.Frag} {mg : Str → Option Value} {base : Heap} {f : Addr} {fd : FuncData}
def spCellAt (K : PySem.W.Frag) : Sp := fun vs H Q _ => ∃ (a : Addr) (ns : List Int) (k : Nat), vs = [.ref a, .int (k : Int)] ∧ SqL K H a (ns.map V.int) ∧ Q (.int (cellAt ns k)) H
theorem ok_cellAt (B : Bl mg) (F : L2.Fun K "_law_cell_at" "_law_cell_at" s__law_cell_at f fd) (g : mg "_law_cell_at" = some (.ref f)) : C8.Cal P w K mg base 1 "_law_cell_at" (spCellAt K) [] := by
  refine ⟨f, fd, ["_law_script", "_law_k"], [], F.ok sc__law_cell_at (fun vs H Q E h => ?_) (fun cdv A outer s H vs Q E hr h => ?_), g, F.kp, F.binds (ps := ["_law_script", "_law_k"]) (fun _ _ _ _ _ _ us hl => match us, hl with | [_, _], _ => rfl), .nil⟩
  · obtain ⟨a, ns, k, rfl, _⟩ := h
    rfl
  · obtain ⟨a, ns, k, rfl, ha, q⟩ := h
    refine ⟨_, (pss_cons (ps_if (pt_cmpR op_lt (pv 1) (pe_callB (call_lenK (K := K) rfl) (by rfl) B.len_ (by decide +kernel) (pa_cons (pv 0) pa_nil)) (nomark _)) (pss_one (ps_ret (pe_ix (r := rIxL K) ix_list (pv 0) (pv 1) (fun _ _ => rfl)))) pss_nil)
      (pss_one (ps_ret pe_int))), ?_⟩
    refine ⟨_, rfl, _, rfl, a, _, rfl, .inl ha, (k : Int), ((ns.map V.int).length : Int), rfl, rfl, _, rfl, ?_⟩
    rw [List.length_map]
    by_cases c : (k : Int) < (ns.length : Int)
    · have hk : k < ns.length := by omega
      rw [decide_eq_true c]
      have e : cellAt ns k = ns[k] := by
        unfold cellAt
        rw [List.getD_eq_getElem?_getD, List.getElem?_eq_getElem hk]
        rfl
      rw [e] at q
      refine iteT ⟨_, rfl, _, rfl, a, _, _, _, rfl, rfl, ha, atI_nat (v := V.int ns[k]) ?_, q⟩
      rw [List.getElem?_map, List.getElem?_eq_getElem hk]
      rfl
    · rw [decide_eq_false c]
      have e : cellAt ns k = 0 := by
        unfold cellAt
        rw [List.getD_eq_getElem?_getD, List.getElem?_eq_none (by omega)]
        rfl
      rw [e] at q
      exact iteF q
def spDraw : Sp := fun vs H Q _ => ∃ c k m : Int, vs = [.int c, .int k, .int m] ∧ 0 < m ∧ -1000 < k ∧ k < 1000 ∧ Q (.int (drawF c k m)) H
theorem ok_draw (F : L2.Fun K "_law_draw" "_law_draw" s__law_draw f fd) (g : mg "_law_draw" = some (.ref f)) : C8.Cal P w K mg base 1 "_law_draw" spDraw [] := by
  refine ⟨f, fd, ["_law_cell", "_law_k", "_law_many"], [], F.ok sc__law_draw (fun vs H Q E h => ?_) (fun cdv A outer s H vs Q E hr h => ?_), g, F.kp, F.binds (ps := ["_law_cell", "_law_k", "_law_many"]) (fun _ _ _ _ _ _ us hl => match us, hl with | [_, _, _], _ => rfl), .nil⟩
  · obtain ⟨c, k, m, rfl, _⟩ := h
    rfl
  · obtain ⟨c, k, m, rfl, hm, k0, k1, q⟩ := h
    refine ⟨_, (pss_cons (ps_set (i := 3) sc__law_draw.nd rfl (Or.inl rfl) (pe_op op_mod (pe_op op_add (pe_op op_add (pe_op op_mul (pe_op op_mod (pv 0) pe_int) pe_int) (pe_op op_mul (pv 1) pe_int)) pe_int) pe_int))
      (pss_one (ps_ret (pe_op op_mod (pe_op op_mod (pe_op op_fdiv (pe_op op_mul (pv 3) (pv 3)) pe_int) pe_int) (pv 2))))), ?_⟩
    have x0 : 0 ≤ (c % 1000000007 * 48271 + k * 69621 + 7) % 1000000007 := Int.emod_nonneg _ (by decide)
    have x1 : (c % 1000000007 * 48271 + k * 69621 + 7) % 1000000007 < 1000000007 := Int.emod_lt_of_pos _ (by decide)
    have bx : ∀ x : Int, 0 ≤ x → x < 1000000007 → -(2 ^ 64) < x ∧ x < 2 ^ 64 := fun x a b => ⟨by omega, by omega⟩
    refine ⟨_, rfl, _, _, rfl, rfl, (by show (0 : Int) < 1000000007; decide), _, _, rfl, rfl, .inr ⟨by decide, by decide⟩,
      _, rfl, _, _, rfl, rfl, .inr ⟨by decide, by decide⟩, _, _, rfl, rfl, _, _, rfl, rfl, _, _, rfl, rfl, (by show (0 : Int) < 1000000007; decide), ?_⟩
    refine ⟨_, rfl, _, rfl, _, _, rfl, rfl, .inl (bx _ x0 x1), _, _, rfl, rfl, ⟨by decide, by decide⟩, _, _, rfl, rfl, (by show (0 : Int) < 1000003; decide), _, rfl, _, _, rfl, rfl, hm, q⟩
end
/-! ### check_ground -/
section
variable {P : Program} {w : World} {K : PySem.W.Frag} {mg : Str → Option Value} {base : Heap} {f : Addr} {fd : FuncData}
/-- what stands under the program's own names of numbers -/
def Num (mg : Str → Option Value) (x : Str) (i : Int) : Prop := ∃ u, mg x = some u ∧ RelV (.int i) u
/-- a class under its name -/
def Own (mg : Str → Option Value) (x : Str) (C : Addr) : Prop := ∃ u, mg x = some u ∧ RelV (.ref C) u
/-- what isinstance asks of a class of the program, and of the one above it -/
structure Isi (K : PySem.W.Frag) (C CR : Addr) : Prop where
  ha : PySem.W.findIn K (.ref C) "__class__" = some (some (.builtin "object.__class__"))
  hn : PySem.W.specialIn K (.builtin "object.__class__") "__get__" = some (some (.builtin "getset_descriptor.__get__"))
  htk : PySem.W.takesIn K (.builtin "object.__class__") = some true
  hm : PySem.W.mroIn K C (.type "object") = some true
  up : PySem.W.kitOne K (.ref C) (.ref CR) = some true
theorem kit_up {C CR : Addr} (h2 : PySem.W.isClsIn K CR = true) (h3 : PySem.W.typeIn K (.ref CR) = some (.type "type")) (h4 : PySem.W.subIn K (.ref C) (.ref CR) = some true) : PySem.W.kitOne K (.ref C) (.ref CR) = some true := by
  unfold PySem.W.kitOne
  by_cases c : (Value.ref C == Value.ref CR) = true
  · rw [if_pos c]
  · rw [if_neg c]
    have h2' : (PySem.W.clsIn K CR).isSome = true := h2
    have e2 : ((PySem.W.clsIn K CR).isSome && PySem.W.typeIn K (.ref CR) == some (.type "type")) = true := by
      rw [h2', h3] <;> rfl
    show (if ((PySem.W.clsIn K CR).isSome && PySem.W.typeIn K (.ref CR) == some (.type "type")) = true then PySem.W.subIn K (.ref C) (.ref CR) else none) = some true
    rw [if_pos e2]
    exact h4
def spGround : Sp := fun vs H Q _ => ∃ (a : Addr) (xs : List V), vs = [.ref a] ∧ H a = some (.lst xs) ∧ xs.length ≤ 16 ∧ Q .non H
structure Gl_ (mg : Str → Option Value) (CR : Addr) : Prop where
  Rule : Own mg "Rule" CR
def spLaw (K : PySem.W.Frag) : Sp := fun vs H Q _ => ∃ (a : Addr) (ns : List Int), vs = [.ref a] ∧ SqL K H a (ns.map V.int) ∧ ns.length ≤ 63 ∧ ∀ H', Q (.bl true) H'
structure Gg (mg : Str → Option Value) : Prop where
  MOST_THINGS : Num mg "MOST_THINGS" 16
theorem ok_ground (B : Bl mg) (G : Gg mg) (F : L2.Fun K "check_ground" "check_ground" s_check_ground f fd) (g : mg "check_ground" = some (.ref f)) : C8.Cal P w K mg base 1 "check_ground" spGround [] := by
  refine ⟨f, fd, ["things"], [], F.ok sc_check_ground (fun vs H Q E h => ?_) (fun cdv A outer s H vs Q E hr h => ?_), g, F.kp, F.binds (ps := ["things"]) (fun _ _ _ _ _ _ us hl => match us, hl with | [_], _ => rfl), .nil⟩
  · obtain ⟨a, xs, rfl, _⟩ := h
    rfl
  · obtain ⟨a, xs, rfl, ha, hl, q⟩ := h
    refine ⟨_, (pss_cons (ps_if (pt_not (pt_val (pe_callB (call_isiK (K := K) rfl) (by rfl) B.isinstance_ (by decide +kernel) (pa_cons (pv 0) (pa_cons (pe_bltn (v := .ty "list") (u := .type "list") (by rfl) B.list_ (by decide +kernel) rfl) pa_nil))))) (pss_one ps_never) pss_nil)
      (pss_one (ps_if (pt_cmpR op_gt (pe_callB (call_lenK (K := K) rfl) (by rfl) B.len_ (by decide +kernel) (pa_cons (pv 0) pa_nil)) (C8.pe_gc rfl G.MOST_THINGS) (nomark _)) (pss_one ps_never) pss_nil))), ?_⟩
    refine ⟨_, rfl, _, _, _, _, true, rfl, ClsV.ty _, TyX.base (TyOf.lst ha), kit_ty (by decide +kernel), true, rfl, iteF ?_⟩
    refine ⟨_, rfl, a, _, rfl, .inl (SqL.of ha), _, _, rfl, rfl, false, ?_, iteF q⟩
    have : ¬ ((16 : Int) < (xs.length : Int)) := by omega
    show V.bl (decide ((16 : Int) < (xs.length : Int))) = V.bl false
    rw [decide_eq_false this]
end
/-! ### lists of pairs of numbers -/
section
/-- at these addresses stand tuples of these pairs -/
def prs (H : Hp) : List Addr → List (Nat × Nat) → Prop
  | [], [] => True
  | t :: ts, e :: es => H t = some (.tup [nv e.1, nv e.2]) ∧ prs H ts es
  | _, _ => False
theorem prs.len {H : Hp} : ∀ {ts : List Addr} {es : List (Nat × Nat)}, prs H ts es → ts.length = es.length
  | [], [], _ => rfl
  | _ :: _, _ :: _, h => congrArg (· + 1) h.2.len
  | [], _ :: _, h => False.elim h
  | _ :: _, [], h => False.elim h
theorem prs.keep {H H' : Hp} : ∀ {ts : List Addr} {es : List (Nat × Nat)}, prs H ts es → (∀ t xs, H t = some (.tup xs) → H' t = some (.tup xs)) → prs H' ts es
  | [], [], _, _ => True.intro
  | _ :: _, _ :: _, h, k => ⟨k _ _ h.1, h.2.keep k⟩
  | [], _ :: _, h, _ => False.elim h
  | _ :: _, [], h, _ => False.elim h
theorem prs.same {H H' : Hp} {ts : List Addr} {es : List (Nat × Nat)} (h : prs H ts es) (s : Same H H') : prs H' ts es := h.keep fun t xs e => s _ _ e
theorem prs.at {H : Hp} : ∀ {ts : List Addr} {es : List (Nat × Nat)} {i : Nat} {t : Addr}, prs H ts es → ts[i]? = some t → ∃ e, es[i]? = some e ∧ H t = some (.tup [nv e.1, nv e.2])
  | t :: ts, e :: es, 0, u, h, q => by
    have z : t = u := Option.some.inj q
    subst z
    exact ⟨e, rfl, h.1⟩
  | t :: ts, e :: es, i + 1, u, h, q => prs.at (ts := ts) (es := es) h.2 q
  | [], _, _, _, _, q => by simp at q
  | _ :: _, [], _, _, h, _ => False.elim h
theorem prs.put {H : Hp} {t : Addr} {e : Nat × Nat} (ht : H t = some (.tup [nv e.1, nv e.2])) : ∀ {ts : List Addr} {es : List (Nat × Nat)}, prs H ts es → prs H (ts ++ [t]) (es ++ [e])
  | [], [], _ => ⟨ht, True.intro⟩
  | _ :: _, _ :: _, h => ⟨h.1, h.2.put ht⟩
  | [], _ :: _, h => False.elim h
  | _ :: _, [], h => False.elim h
/-- a list that is no tuple is written: the pairs stay -/
theorem prs.upd {H : Hp} {ts : List Addr} {es : List (Nat × Nat)} {l : Addr} {o u : HO} (h : prs H ts es) (hl : H l = some o) (n : ∀ xs, o ≠ .tup xs) : prs (upd H l u) ts es := h.keep fun t xs e => by
  have : t ≠ l := fun z => by
    rw [z, hl] at e
    exact n xs (Option.some.inj e)
  rw [upd_ne this]
  exact e
def pd (e : Nat × Nat) : PyData := .tuple [.int (e.1 : Int), .int (e.2 : Int)]
theorem dp_prs {K : PySem.W.Frag} {H : Hp} : ∀ {ts : List Addr} {es : List (Nat × Nat)}, prs H ts es → DpAll K H (ts.map V.ref) (es.map pd)
  | [], [], _ => .nil
  | _ :: _, _ :: _, h => .cons (.tup (SqT.of h.1) (.cons (.int _) (.cons (.int _) .nil))) (dp_prs h.2)
  | [], _ :: _, h => False.elim h
  | _ :: _, [], h => False.elim h
theorem pd_lay : ∀ es : List (Nat × Nat), PyData.canLayAll0 (es.map pd) = true
  | [] => rfl
  | e :: es => by simp [PyData.canLayAll0, PyData.canLay0, pd_lay es, pd]
theorem pd_depth : ∀ es : List (Nat × Nat), PyData.depthAll (es.map pd) ≤ 1
  | [] => by simp [PyData.depthAll]
  | e :: es => by
    have h1 := pd_depth es
    have h2 : (pd e).depth = 1 := by simp [pd, PyData.depth, PyData.depthAll]
    simp only [List.map_cons, PyData.depthAll]
    omega
theorem pd_shaped (es : List (Nat × Nat)) : SeqAt.shaped (.list (es.map pd)) = true := by
  have h1 := pd_depth es
  have h2 : PyData.depth (.list (es.map pd)) ≤ 64 := by
    simp only [PyData.depth]
    omega
  show (PyData.canLay0 (.list (es.map pd)) && decide (PyData.depth (.list (es.map pd)) ≤ 64)) = true
  rw [Bool.and_eq_true]
  exact ⟨by simp only [PyData.canLay0]; exact pd_lay es, decide_eq_true h2⟩
theorem pd_same (es : List (Nat × Nat)) : PyData.eqv (.list (es.map pd)) (.list (es.map pd)) = true := SeqAt.eqv_refl _ (SeqAt.canLay_of_shaped (pd_shaped es))
theorem count_cast (k : Nat) : ∀ l : List Nat, (l.map (fun n : Nat => (n : Int))).count (k : Int) = l.count k
  | [] => rfl
  | x :: l => by
    rw [List.map_cons, List.count_cons, List.count_cons, count_cast k l]
    by_cases e : x = k
    · subst e; simp
    · have e2 : ((x : Int) == (k : Int)) = false := beq_false_of_ne (by omega)
      rw [e2]
      simp [e]
end
section
variable {P : Program} {w : World} {K : PySem.W.Frag} {mg : Str → Option Value} {base : Heap} {f C CR : Addr} {fd : FuncData}
/-! ### is_tie -/
def spTie : Sp := fun vs H Q _ => ∃ (t : Addr) (N : Nat) (e : Nat × Nat), vs = [.ref t, nv N] ∧ H t = some (.tup [nv e.1, nv e.2]) ∧ e.1 < N ∧ e.2 < N ∧ ∀ H', Same H H' → Q (.bl true) H'
theorem all_true : ∀ n, (List.replicate n true).all id = true
  | 0 => rfl
  | n + 1 => all_true n
theorem ok_tie (B : Bl mg) (F : L2.Fun K "is_tie" "is_tie" s_is_tie f fd) (g : mg "is_tie" = some (.ref f)) (c_is_within : C8.Cal P w K mg base 2 "is_within" spWithin []) : C8.Cal P w K mg base 3 "is_tie" spTie [] := by
  refine ⟨f, fd, ["tie", "places"], [], F.ok sc_is_tie (fun vs H Q E h => ?_) (fun cdv A outer s H vs Q E hr h => ?_), g, F.kp, F.binds (ps := ["tie", "places"]) (fun _ _ _ _ _ _ us hl => match us, hl with | [_, _], _ => rfl), .nil⟩
  · obtain ⟨t, N, e, rfl, _⟩ := h
    rfl
  · obtain ⟨t, N, e, rfl, ht, h1, h2, q⟩ := h
    refine ⟨_, (pss_cons (ps_if (PW.pt (pw_or (pt_not (pt_val (pe_callB (call_isiK (K := K) rfl) (by rfl) B.isinstance_ (by decide +kernel) (pa_cons (pv 0) (pa_cons (pe_bltn (v := .ty "tuple") (u := .type "tuple") (by rfl) B.tuple_ (by decide +kernel) rfl) pa_nil))))) (pw_or1 (pt_cmpR op_ne (pe_callB (call_lenK (K := K) rfl) (by rfl) B.len_ (by decide +kernel) (pa_cons (pv 0) pa_nil)) pe_int (nomark _))))) (pss_one (ps_ret pe_bl)) pss_nil)
      (pss_one (ps_ret (pe_callB (cr_all rfl) (by rfl) B.all_ (by decide +kernel) (pa_cons (pe_lc (own := [("place", 2)]) rfl sc_is_tie.nd (pi_tup (pv 0)) (blkOk_by (own := [("place", 2)]) (N := n_is_tie) (sc := defScope s_is_tie) (by decide +kernel)) (fun _ _ _ _ _ => (pg_name (i := 2) sc_is_tie.nd rfl (Or.inl rfl))) (fun _ _ _ _ _ => pts_nil) (fun _ _ _ _ _ => (C8.pe_c c_is_within hr (by first | decide | exact Nat.le_refl _ | omega) rfl (pa_cons (pv 2) (pa_cons pe_int (pa_cons (pe_op op_sub (pv 1) pe_int) pa_nil)))))) pa_nil))))), ?_⟩
    refine ⟨_, rfl, _, _, _, _, true, rfl, ClsV.ty _, TyX.base (TyOf.tup ht), kit_ty (by decide +kernel), true, rfl, iteF ?_⟩
    refine ⟨_, rfl, t, _, rfl, .inr (SqT.of ht), rfl, false, rfl, iteF ?_⟩
    refine ⟨_, rfl, t, rfl, ⟨_, SqT.of ht⟩, fun D hD => lc_tup (K := K) (a := t) (xs := [nv e.1, nv e.2]) (fun i H' => Same H H' ∧ H' D = some (.lst ((List.replicate i true).map V.bl)))
      ⟨same_upd hD, upd_same⟩ (fun i H' _ p => SqT.of (p.1 _ _ ht)) ?_ ?_⟩
    · rintro i y H' hi ⟨s5, hL⟩
      obtain ⟨n, hn, rfl⟩ : ∃ n : Nat, n < N ∧ y = nv n := by
        have hm : y ∈ [nv e.1, nv e.2] := List.mem_of_getElem? hi
        rcases List.mem_cons.mp hm with z | z
        · exact ⟨_, h1, z⟩
        · exact ⟨_, h2, List.mem_singleton.mp z⟩
      have i2 : i < 2 := (List.getElem?_eq_some_iff.mp hi).1
      have eB : (decide ((0 : Int) ≤ (n : Int)) && decide ((n : Int) ≤ (N : Int) - 1)) = true := by
        rw [Bool.and_eq_true]
        exact ⟨decide_eq_true (by omega), decide_eq_true (by omega)⟩
      refine ⟨rfl, yesT ?_⟩
      refine ⟨_, rfl, _, rfl, _, _, rfl, rfl, n, 0, (N : Int) - 1, rfl, _, hL, ?_, same_to s5 hD, ?_⟩
      · rw [List.length_map, List.length_replicate]
        exact small1000 (by omega)
      · rw [eB, List.replicate_succ', List.map_append]
        exact upd_same
    · rintro H' ⟨s5, hL⟩
      refine ⟨D, _, rfl, SqL.of hL, ?_⟩
      rw [all_true]
      exact q _ s5
/-! ### Threads -/
abbrev pk : Str := "places"
abbrev tk : Str := "ties"
theorem ne_pt : ¬ (pk = tk) := by decide +kernel
theorem ne_tp : ¬ (tk = pk) := by decide +kernel
/-- the fields of a Threads of N places whose tuple stands at t -/
def tf (N : Nat) (t : Addr) : List (Str × V) := putF tk (.ref t) (putF pk (nv N) [])
theorem tf_places (N : Nat) (t : Addr) : (tf N t).lookup pk = some (nv N) := by
  unfold tf
  rw [lookup_putF, if_neg ne_pt, lookup_putF, if_pos rfl]
theorem tf_ties (N : Nat) (t : Addr) : (tf N t).lookup tk = some (.ref t) := by
  unfold tf
  rw [lookup_putF, if_pos rfl]
theorem tf_no (N : Nat) (t : Addr) {m : Str} (h1 : ¬ m = tk) (h2 : ¬ m = pk) : (tf N t).lookup m = none := by
  unfold tf
  rw [lookup_putF, if_neg h1, lookup_putF, if_neg h2]
  rfl
theorem tf_many (N : Nat) (t : Addr) : (tf N t).lookup ("many" : Str) = none := tf_no N t (by decide +kernel) (by decide +kernel)
theorem tf_free (N : Nat) (t : Addr) : (tf N t).lookup ("free" : Str) = none := tf_no N t (by decide +kernel) (by decide +kernel)
def Bnd (N : Nat) (es : List (Nat × Nat)) : Prop := ∀ e ∈ es, e.1 < N ∧ e.2 < N
/-- a Threads of these ties stands at p -/
def ThAt (C : Addr) (H : Hp) (p : Addr) (N : Nat) (es : List (Nat × Nat)) : Prop := ∃ dx t ts, H p = some (.ins C dx (tf N t)) ∧ H t = some (.tup (ts.map V.ref)) ∧ prs H ts es
theorem ThAt.same {H H' : Hp} {p : Addr} {N : Nat} {es : List (Nat × Nat)} (h : ThAt C H p N es) (s : Same H H') : ThAt C H' p N es := by
  obtain ⟨dx, t, ts, h1, h2, h3⟩ := h
  exact ⟨dx, t, ts, s _ _ h1, s _ _ h2, h3.same s⟩
structure Gt (K : PySem.W.Frag) (mg : Str → Option Value) (C : Addr) : Prop where
  cl : Cls K C
  nP : NoAttr K C "places"
  nT : NoAttr K C "ties"
  MOST_PLACES : Num mg "MOST_PLACES" 20
def spInit (C : Addr) : Sp := fun vs H Q _ => ∃ (p dx a : Addr) (N : Nat) (ts : List Addr) (es : List (Nat × Nat)), vs = [.ref p, nv N, .ref a] ∧ H p = some (.ins C dx []) ∧ H a = some (.lst (ts.map V.ref)) ∧ prs H ts es ∧ 1 ≤ N ∧ N ≤ 20 ∧ es.length ≤ 16 ∧ Bnd N es ∧
  ∀ H', (∀ b o, b ≠ p → H b = some o → H' b = some o) → ThAt C H' p N es → Q .non H'
theorem ok_init (B : Bl mg) (G : Gt K mg C) (F : L2.Fun K "__init__" "Threads.__init__" s_Threads___init__ f fd) (M : L2.Mk K C f) (g : mg "Threads" = some (.ref C)) (c_is_within : C8.Cal P w K mg base 2 "is_within" spWithin []) (c_check_ground : C8.Cal P w K mg base 1 "check_ground" spGround [])
    (c_is_tie : C8.Cal P w K mg base 3 "is_tie" spTie []) : C8.Mak P w K mg base 4 "Threads" C (spInit C) [] := by
  refine ⟨f, fd, ["self", "places", "ties"], [], M, F.ok sc_Threads___init__ (fun vs H Q E h => ?_) (fun cdv A outer s H vs Q E hr h => ?_), g, F.binds (ps := ["self", "places", "ties"]) (fun _ _ _ _ _ _ us hl => match us, hl with | [_, _, _], _ => rfl), .nil⟩
  · obtain ⟨p, dx, a, N, ts, es, rfl, _⟩ := h
    rfl
  · obtain ⟨p, dx, a, N, ts, es, rfl, hp, ha, hpr, N1, N2, hl, hb, q⟩ := h
    refine ⟨_, (pss_cons (ps_if (pt_not (pt_val (C8.pe_c c_is_within hr (by first | decide | exact Nat.le_refl _ | omega) rfl (pa_cons (pv 1) (pa_cons pe_int (pa_cons (C8.pe_gc rfl G.MOST_PLACES) pa_nil)))))) (pss_one ps_never) pss_nil)
      (pss_cons (ps_expr (C8.pe_c c_check_ground hr (by first | decide | exact Nat.le_refl _ | omega) rfl (pa_cons (pv 2) pa_nil)))
      (pss_cons (ps_if (pt_not (pt_val (pe_callB (cr_all rfl) (by rfl) B.all_ (by decide +kernel) (pa_cons (pe_lc (own := [("tie", 3)]) rfl sc_Threads___init__.nd (pi_list (pv 2)) (blkOk_by (own := [("tie", 3)]) (N := n_Threads___init__) (sc := defScope s_Threads___init__) (by decide +kernel)) (fun _ _ _ _ _ => (pg_name (i := 3) sc_Threads___init__.nd rfl (Or.inl rfl))) (fun _ _ _ _ _ => pts_nil) (fun _ _ _ _ _ => (C8.pe_c c_is_tie hr (by first | decide | exact Nat.le_refl _ | omega) rfl (pa_cons (pv 3) (pa_cons (pv 1) pa_nil))))) pa_nil)))) (pss_one ps_never) pss_nil)
      (pss_cons (ps_fld (pv 0) (pv 1) rfl)
      (pss_one (ps_fld (pv 0) (pe_callTy (call_tupK (K := K) rfl) (by rfl) B.tuple_ (by decide +kernel) (pa_cons (pe_lc (own := [("tie", 3)]) rfl sc_Threads___init__.nd (pi_list (pv 2)) (blkOk_by (own := [("tie", 3)]) (N := n_Threads___init__) (sc := defScope s_Threads___init__) (by decide +kernel)) (fun _ _ _ _ _ => (pg_name (i := 3) sc_Threads___init__.nd rfl (Or.inl rfl))) (fun _ _ _ _ _ => pts_nil) (fun _ _ _ _ _ => (pe_tup (pa_cons (pe_ix (r := rIxT K) ix_tup (pv 3) pe_int (fun _ _ => rfl)) (pa_cons (pe_ix (r := rIxT K) ix_tup (pv 3) pe_int (fun _ _ => rfl)) pa_nil))))) pa_nil)) rfl)))))), ?_⟩
    have eB : (decide ((1 : Int) ≤ (N : Int)) && decide ((N : Int) ≤ 20)) = true := by
      rw [Bool.and_eq_true]
      exact ⟨decide_eq_true (by omega), decide_eq_true (by omega)⟩
    have tl : ts.length ≤ 16 := by rw [hpr.len]; exact hl
    refine ⟨_, rfl, N, 1, 20, rfl, true, by rw [eB], iteF ?_⟩
    refine ⟨_, rfl, a, _, rfl, ha, by rw [List.length_map]; exact tl, ?_⟩
    -- all([is_tie(tie, places) for tie in ties])
    refine ⟨_, rfl, a, rfl, ⟨_, SqL.of ha⟩, fun D hD => lc_list (K := K) (a := a) (xs := ts.map V.ref) (fun i H' => Same H H' ∧ H' D = some (.lst ((List.replicate i true).map V.bl)))
      ⟨same_upd hD, upd_same⟩ (fun i H' _ p => SqL.of (p.1 _ _ ha)) ?_ ?_⟩
    · rintro i y H' hi ⟨s5, hL⟩
      obtain ⟨t, ht, rfl⟩ := map_at hi
      obtain ⟨e, he, hte⟩ := hpr.at ht
      obtain ⟨b1, b2⟩ := hb e (List.mem_of_getElem? he)
      have il : i < ts.length := (List.getElem?_eq_some_iff.mp ht).1
      refine ⟨rfl, yesT ?_⟩
      refine ⟨_, rfl, _, rfl, t, N, e, rfl, s5 _ _ hte, b1, b2, fun H2 s6 => ⟨_, s6 _ _ hL, ?_, same_to (s5.trans s6) hD, ?_⟩⟩
      · rw [List.length_map, List.length_replicate]
        exact small1000 (by omega)
      · rw [List.replicate_succ', List.map_append]
        exact upd_same
    rintro H1 ⟨s1, hL⟩
    refine ⟨D, _, rfl, SqL.of hL, true, by rw [all_true], iteF ?_⟩
    -- self.places = places
    have npD : p ≠ D := ne_of_none hp hD
    refine ⟨_, rfl, _, rfl, p, C, dx, [], rfl, s1 _ _ hp, G.cl, G.nP, (by show 0 < 1000; decide), ?_⟩
    have k2 : ∀ b o, b ≠ p → H b = some o → (upd H1 p (.ins C dx (putF pk (nv N) []))) b = some o := fun b o nb e => by
      rw [upd_ne nb]
      exact s1 _ _ e
    have hp2 : (upd H1 p (.ins C dx (putF pk (nv N) []))) p = some (.ins C dx (putF pk (nv N) [])) := upd_same
    generalize upd H1 p (.ins C dx (putF pk (nv N) [])) = H2 at k2 hp2
    have nap : a ≠ p := ne_of ha hp (by intro z; cases z)
    have ha2 := k2 _ _ nap ha
    have hpr2 : prs H2 ts es := hpr.keep fun t xs e => k2 _ _ (ne_of e hp (by intro z; cases z)) e
    -- self.ties = tuple([(tie[0], tie[1]) for tie in ties])
    refine ⟨_, rfl, a, rfl, ⟨_, SqL.of ha2⟩, fun D2 hD2 => lc_list (K := K) (a := a) (xs := ts.map V.ref) (fun i H' => Same H2 H' ∧ ∃ ds, H' D2 = some (.lst (ds.map V.ref)) ∧ prs H' ds (es.take i))
      ⟨same_upd hD2, [], upd_same, True.intro⟩ (fun i H' _ p => SqL.of (p.1 _ _ ha2)) ?_ ?_⟩
    · rintro i y H' hi ⟨s5, ds, hL2, hds⟩
      obtain ⟨t, ht, rfl⟩ := map_at hi
      obtain ⟨e, he, hte⟩ := hpr2.at ht
      have il : i < ts.length := (List.getElem?_eq_some_iff.mp ht).1
      have hte' := s5 _ _ hte
      refine ⟨rfl, yesT ?_⟩
      refine ⟨_, rfl, t, _, _, _, rfl, rfl, SqT.of hte', atI_nat (j := 0) rfl, _, rfl, t, _, _, _, rfl, rfl, SqT.of hte', atI_nat (j := 1) rfl, (by show 2 ≤ sizeLine; decide), fun u hu => ?_⟩
      have nDu : D2 ≠ u := ne_of_none hL2 hu
      have dl : ds.length ≤ 16 := by
        rw [hds.len, List.length_take]
        omega
      have su : Same H' (upd H' u (.tup [nv e.1, nv e.2])) := same_upd hu
      refine ⟨_, su _ _ hL2, by rw [List.length_map]; exact small1000 (by omega), same_to (s5.trans su) hD2, ds ++ [u], ?_, ?_⟩
      · rw [List.map_append]
        exact upd_same
      · rw [take_more he]
        have pu : prs (upd H' u (.tup [nv e.1, nv e.2])) (ds ++ [u]) (es.take i ++ [e]) := prs.put upd_same (hds.same su)
        exact pu.upd (su _ _ hL2) (by intro xs z; cases z)
    · rintro H3 ⟨s3, ds, hL3, hds⟩
      rw [List.length_map, hpr.len, List.take_length] at hds
      refine ⟨D2, _, rfl, .inl ⟨SqL.of hL3, fun t ht => ?_⟩⟩
      have npt : p ≠ t := ne_of_none (s3 _ _ hp2) ht
      have st : Same H3 (upd H3 t (.tup (ds.map V.ref))) := same_upd ht
      refine ⟨_, rfl, p, C, dx, _, rfl, st _ _ (s3 _ _ hp2), G.cl, G.nT, (by show 1 < 1000; decide), ?_⟩
      refine q _ (fun b o nb e => ?_) ⟨dx, t, ds, upd_same, ?_, ?_⟩
      · rw [upd_ne nb]
        exact st _ _ (s3 _ _ (k2 _ _ nb e))
      · rw [upd_ne npt.symm]
        exact upd_same
      · exact (hds.same st).upd (st _ _ (s3 _ _ hp2)) (by intro xs z; cases z)
def spMany (C : Addr) : Sp := fun vs H Q _ => ∃ (p : Addr) (N : Nat) (es : List (Nat × Nat)), vs = [.ref p] ∧ ThAt C H p N es ∧ Q (nv es.length) H
theorem ok_many (B : Bl mg) (G : Gt K mg C) (F : L2.Fun K "many" "Threads.many" s_Threads_many f fd) (M : Meth K C "many" f) : C8.Met P w K mg base 1 C "many" (spMany C) [] := by
  refine ⟨f, fd, ["self"], [], G.cl, M, F.ok sc_Threads_many (fun vs H Q E h => ?_) (fun cdv A outer s H vs Q E hr h => ?_), F.binds (ps := ["self"]) (fun _ _ _ _ _ _ us hl => match us, hl with | [_], _ => rfl), .nil⟩
  · obtain ⟨p, N, es, rfl, _⟩ := h
    rfl
  · obtain ⟨p, N, es, rfl, ⟨dx, t, ts, hp, ht, hts⟩, q⟩ := h
    refine ⟨_, (pss_one (ps_ret (pe_callB (call_lenK (K := K) rfl) (by rfl) B.len_ (by decide +kernel) (pa_cons (pe_fld (pv 0) rfl) pa_nil)))), ?_⟩
    refine ⟨_, rfl, p, C, dx, _, _, rfl, hp, G.cl, G.nT, tf_ties _ _, t, _, rfl, .inr (SqT.of ht), ?_⟩
    rw [List.length_map, hts.len]
    exact q
def edAt (es : List (Nat × Nat)) (k : Nat) : Nat × Nat := es.getD k (0, 0)
theorem edAt_of {es : List (Nat × Nat)} {k : Nat} (h : k < es.length) : es[k]? = some (edAt es k) := by
  unfold edAt
  rw [List.getD_eq_getElem?_getD, List.getElem?_eq_getElem h]
  rfl
def spFree (C : Addr) : Sp := fun vs H Q _ => ∃ (p a : Addr) (N : Nat) (es : List (Nat × Nat)) (xs : List Nat), vs = [.ref p, .ref a] ∧ ThAt C H p N es ∧ H a = some (.lst (xs.map nv)) ∧ N ≤ 20 ∧ Bnd N es ∧ (∀ x ∈ xs, x < es.length) ∧ xs.Nodup ∧ xs.length ≤ 1000 ∧
  ∀ H', Same H H' → Q (.bl (TM.freeF id (xs.map (edAt es)))) H'
theorem rg_nats (N : Nat) : rgV 0 (N : Int) = (List.range N).map fun a => nv (id a) := by
  unfold rgV
  rw [show ((N : Int) - 0).toNat = N by omega]
  refine List.map_congr_left fun a _ => ?_
  show V.int (0 + (a : Int)) = V.int (a : Int)
  rw [Int.zero_add]
theorem dec_nv2 (n m : Nat) : V.bl (decide (nv n = nv m)) = V.bl (decide (n = m)) := by
  congr 1
  rw [Bool.eq_iff_iff, decide_eq_true_eq, decide_eq_true_eq]
  constructor
  · intro e
    have := V.int.inj e
    omega
  · intro e
    rw [e]
theorem ok_free (B : Bl mg) (G : Gt K mg C) (F : L2.Fun K "free" "Threads.free" s_Threads_free f fd) (M : Meth K C "free" f) (m_many : C8.Met P w K mg base 1 C "many" (spMany C) []) (c_check_set : C8.Cal P w K mg base 4 "check_set" spSet []) :
    C8.Met P w K mg base 5 C "free" (spFree C) [] := by
  refine ⟨f, fd, ["self", "some"], [], G.cl, M, F.ok sc_Threads_free (fun vs H Q E h => ?_) (fun cdv A outer s H vs Q E hr h => ?_), F.binds (ps := ["self", "some"]) (fun _ _ _ _ _ _ us hl => match us, hl with | [_, _], _ => rfl), .nil⟩
  · obtain ⟨p, a, N, es, xs, rfl, _⟩ := h
    rfl
  · obtain ⟨p, a, N, es, xs, rfl, hb, ha, hN, hbd, hx, hnd, hlen, q⟩ := h
    refine ⟨_, (pss_cons (ps_expr (C8.pe_c c_check_set hr (by first | decide | exact Nat.le_refl _ | omega) rfl (pa_cons (pv 1) (pa_cons (C8.pe_mt0 (pl := _) m_many hr (by decide) (pv 0)) pa_nil))))
      (pss_cons (ps_set (i := 2) sc_Threads_free.nd rfl (Or.inl rfl) (pe_listRg rfl (by rfl) B.list_ (prg_1 (by rfl) B.range_ (pe_fld (pv 0) rfl))))
      (pss_cons (ps_for PassesOwn.never rfl (pi_list (pv 1)) (pg_name (i := 3) sc_Threads_free.nd rfl (Or.inl rfl)) (pss_cons (ps_asg (pe_ix (r := rIxT K) ix_tup (pe_fld (pv 0) rfl) (pv 3) (fun _ _ => rfl)) (pg_tupK (K := K) (n := 2) rfl (by rfl) (pgs_cons (pg_name (i := 4) sc_Threads_free.nd rfl (Or.inl rfl)) (pgs_cons (pg_name (i := 5) sc_Threads_free.nd rfl (Or.inl rfl)) pgs_nil))))
      (pss_cons (ps_set (i := 6) sc_Threads_free.nd rfl (Or.inr rfl) (pe_ix (r := rIxL K) ix_list (pv 2) (pv 4) (fun _ _ => rfl)))
      (pss_cons (ps_set (i := 7) sc_Threads_free.nd rfl (Or.inr rfl) (pe_ix (r := rIxL K) ix_list (pv 2) (pv 5) (fun _ _ => rfl)))
      (pss_cons (ps_if (pt_cmpR op_eq (pv 6) (pv 7) (nomark _)) (pss_one (ps_ret pe_bl)) pss_nil)
      (pss_one (ps_setLc (i := 2) (own := [("mark", 8)]) rfl sc_Threads_free.nd rfl rfl (sw_true rfl rfl rfl (by decide +kernel)) (pi_list (pv 2)) (blkOk_by (own := [("mark", 8)]) (N := n_Threads_free) (sc := defScope s_Threads_free) (by decide +kernel)) (fun _ _ _ _ _ => (pg_name (i := 8) sc_Threads_free.nd rfl (Or.inl rfl))) (fun _ _ _ _ _ => pts_nil) (fun _ _ _ _ _ => (pe_ifExp (pt_cmpR op_eq (pv 8) (pv 7) (nomark _)) (pv 6) (pv 8))))))))))
      (pss_one (ps_ret pe_bl))))), ?_⟩
    obtain ⟨dx, t, ts, hp, ht, hts⟩ := id hb
    have ha' := ha
    rw [nv_ints] at ha'
    refine ⟨_, rfl, _, rfl, p, dx, _, rfl, hp, tf_many _ _, p, N, es, rfl, hb, a, _, _, rfl, ha', fun x hx' => ?_, nd_cast hnd, by rw [List.length_map]; exact hlen, fun H1 s1 => ?_⟩
    · obtain ⟨n, hn, rfl⟩ := List.mem_map.mp hx'
      have := hx n hn
      omega
    -- marks = list(range(self.places))
    refine ⟨_, rfl, p, C, dx, _, _, rfl, s1 _ _ hp, G.cl, G.nP, tf_places _ _, (N : Int), rfl, RgOk.of_le (by omega) (by omega) (by omega) (by omega), fun l0 hl0 => ?_⟩
    refine ⟨_, rfl, a, rfl, ⟨_, SqL.of (same_upd hl0 _ _ (s1 _ _ ha))⟩, for_list (K := K) (a := a) (xs := xs.map nv) (fun i σ H' => ∃ (v3 v4 v5 v6 v7 : Option V) (l : Addr) (m : Nat → Nat), σ = [some (.ref p), some (.ref a), some (.ref l), v3, v4, v5, v6, v7, none] ∧ Same H H' ∧
        H' l = some (.lst ((List.range N).map fun a => nv (m a))) ∧ TM.freeF m ((xs.drop i).map (edAt es)) = TM.freeF id (xs.map (edAt es)))
      ⟨none, none, none, none, none, l0, id, rfl, s1.trans (same_upd hl0), ?_, rfl⟩ (fun i σ H' _ ⟨_, _, _, _, _, _, _, _, s5, _⟩ => SqL.of (s5 _ _ ha)) ?_ ?_⟩
    · rw [← rg_nats]
      exact upd_same
    · rintro i y σ H' hi ⟨v3, v4, v5, v6, v7, l, m, rfl, s5, hL, inv⟩
      obtain ⟨x, hx', rfl⟩ := map_at hi
      have xlt := hx x (List.mem_of_getElem? hx')
      have ilt : i < xs.length := (List.getElem?_eq_some_iff.mp hx').1
      have hed := edAt_of xlt
      have tlt : x < ts.length := by rw [hts.len]; exact xlt
      obtain ⟨e, he, hte⟩ := hts.at (List.getElem?_eq_getElem tlt)
      have ee : e = edAt es x := Option.some.inj (he.symm.trans hed)
      obtain ⟨b1, b2⟩ := hbd e (List.mem_of_getElem? he)
      have hrow : (ts.map V.ref)[x]? = some (V.ref ts[x]) := by
        rw [List.getElem?_map, List.getElem?_eq_getElem tlt]
        rfl
      have edrop : xs.drop i = x :: xs.drop (i + 1) := by
        have e2 := (List.getElem?_eq_some_iff.mp hx').2
        rw [List.drop_eq_getElem_cons ilt, e2]
      have st : TM.freeF m (e :: (xs.drop (i + 1)).map (edAt es)) = TM.freeF id (xs.map (edAt es)) := by
        rw [← inv, edrop, List.map_cons, ee]
      have mk : ∀ k, k < N → ((List.range N).map fun a => nv (m a))[k]? = some (nv (m k)) := fun k hk => by
        rw [List.getElem?_map, List.getElem?_range hk]
        rfl
      -- near, far = self.ties[thing]
      refine ⟨_, rfl, p, C, dx, _, _, rfl, s5 _ _ hp, G.cl, G.nT, tf_ties _ _, _, rfl, t, _, _, _, rfl, rfl, SqT.of (s5 _ _ ht), atI_nat hrow, ?_⟩
      refine ⟨_, _, rfl, SqT.of (s5 _ _ hte), rfl, _, _, rfl, _, _, rfl, rfl, ?_⟩
      -- stays = marks[near]; goes = marks[far]
      refine ⟨_, rfl, _, rfl, l, _, _, _, rfl, rfl, SqL.of hL, atI_nat (mk _ b1), ?_⟩
      refine ⟨_, rfl, _, rfl, l, _, _, _, rfl, rfl, SqL.of hL, atI_nat (mk _ b2), ?_⟩
      refine ⟨_, rfl, _, rfl, rfl, _, dec_nv2 _ _, ?_⟩
      by_cases c : m e.1 = m e.2
      · rw [decide_eq_true c]
        have e' : TM.freeF m (e :: (xs.drop (i + 1)).map (edAt es)) = false := if_pos c
        rw [e'] at st
        refine iteT ?_
        have qq := q H' s5
        rw [← st] at qq
        exact qq
      · rw [decide_eq_false c]
        have e' : TM.freeF m (e :: (xs.drop (i + 1)).map (edAt es)) = TM.freeF (TM.re m e) ((xs.drop (i + 1)).map (edAt es)) := if_neg c
        rw [e'] at st
        refine iteF ⟨_, rfl, l, rfl, ⟨_, SqL.of hL⟩, fun D hD => lc_list (K := K) (a := l) (xs := (List.range N).map fun a => nv (m a)) (fun j H2 => Same H' H2 ∧ H2 D = some (.lst (((List.range N).take j).map fun a => nv (TM.re m e a))))
          ⟨same_upd hD, upd_same⟩ (fun j H2 _ p => SqL.of (p.1 _ _ hL)) ?_ ?_⟩
        · rintro j z H2 hj ⟨s6, hA⟩
          obtain ⟨o, ho, rfl⟩ := map_at hj
          have jl : j < N := by
            have := (List.getElem?_eq_some_iff.mp ho).1
            rw [List.length_range] at this
            exact this
          refine ⟨rfl, yesT ?_⟩
          have fin : ∀ v, v = nv (TM.re m e o) → ∃ acc, H2 D = some (.lst acc) ∧ acc.length < sizeLine ∧ Same H' (upd H2 D (.lst (acc ++ [v]))) ∧ (upd H2 D (.lst (acc ++ [v]))) D = some (.lst (((List.range N).take (j + 1)).map fun a => nv (TM.re m e a))) := fun v hv => by
            refine ⟨_, hA, ?_, same_to s6 hD, ?_⟩
            · rw [List.length_map, List.length_take]
              exact small1000 (by omega)
            · rw [take_more ho, List.map_append, hv]
              exact upd_same
          refine ⟨_, rfl, _, rfl, rfl, _, dec_nv2 _ _, ?_⟩
          by_cases c2 : m o = m e.2
          · rw [decide_eq_true c2]
            exact iteT ⟨_, rfl, fin _ (congrArg nv (if_pos c2).symm)⟩
          · rw [decide_eq_false c2]
            exact iteF ⟨_, rfl, fin _ (congrArg nv (if_neg c2).symm)⟩
        · rintro H2 ⟨s6, hA⟩
          rw [List.length_map, List.take_length] at hA
          exact ⟨_, _, _, _, _, D, TM.re m e, rfl, s5.trans s6, hA, st⟩
    · rintro σ H' ⟨v3, v4, v5, v6, v7, l, m, rfl, s5, hL, inv⟩
      rw [List.length_map, List.drop_length] at inv
      have qq := q H' s5
      rw [← inv] at qq
      exact qq
end
section
variable {P : Program} {w : World} {K : PySem.W.Frag} {mg : Str → Option Value} {base : Heap} {f C CR : Addr} {fd : FuncData}
/-! ### the law's own walk -/
theorem ends_more {l : List (Nat × Nat)} {j : Nat} {e : Nat × Nat} (h : l[j]? = some e) : TM.ends (l.take (j + 1)) = TM.ends (l.take j) ++ [e.1, e.2] := by
  rw [take_more h, TM.ends_append]
  rfl
theorem ends_len : ∀ l : List (Nat × Nat), (TM.ends l).length = 2 * l.length
  | [] => rfl
  | e :: l => by
    show (TM.ends l).length + 1 + 1 = 2 * (l.length + 1)
    rw [ends_len l]
    omega
theorem eqv_nil (es : List (Nat × Nat)) : PyData.eqv (.list (es.map pd)) (.list []) = decide (es = []) := by
  cases es with
  | nil => rfl
  | cons e es =>
    rw [decide_eq_false (by intro z; cases z)]
    simp [PyData.eqv, PyData.eqvAll]
def spRing : Sp := fun vs H Q _ => ∃ (a : Addr) (ts : List Addr) (es : List (Nat × Nat)), vs = [.ref a] ∧ H a = some (.lst (ts.map V.ref)) ∧ prs H ts es ∧ es.length ≤ 16 ∧ ∀ H', Same H H' → Q (.bl (TM.noRing es)) H'
theorem ok_ring (B : Bl mg) (F : L2.Fun K "_law_no_ring" "_law_no_ring" s__law_no_ring f fd) (g : mg "_law_no_ring" = some (.ref f)) : C8.Cal P w K mg base 1 "_law_no_ring" spRing [] := by
  refine ⟨f, fd, ["_law_ties"], [], F.ok sc__law_no_ring (fun vs H Q E h => ?_) (fun cdv A outer s H vs Q E hr h => ?_), g, F.kp, F.binds (ps := ["_law_ties"]) (fun _ _ _ _ _ _ us hl => match us, hl with | [_], _ => rfl), .nil⟩
  · obtain ⟨a, ts, es, rfl, _⟩ := h
    rfl
  · obtain ⟨a, ts, es, rfl, ha, hts, hlen, q⟩ := h
    refine ⟨_, (pss_cons (ps_set (i := 1) sc__law_no_ring.nd rfl (Or.inl rfl) (pe_callTy (call_lstK (K := K) rfl) (by rfl) B.list_ (by decide +kernel) (pa_cons (pv 0) pa_nil)))
      (pss_cons (ps_for PassesOwn.never rfl (pi_list (pv 0)) (pg_name (i := 2) sc__law_no_ring.nd rfl (Or.inl rfl)) (pss_cons (ps_set (i := 3) sc__law_no_ring.nd rfl (Or.inr rfl) (pe_lst pa_nil))
      (pss_cons (ps_for PassesOwn.never rfl (pi_list (pv 1)) (pg_name (i := 4) sc__law_no_ring.nd rfl (Or.inl rfl)) (pss_one (ps_set (i := 3) sc__law_no_ring.nd rfl (Or.inr rfl) (pe_op op_cat (pv 3) (pe_lst (pa_cons (pe_ix (r := rIxT K) ix_tup (pv 4) pe_int (fun _ _ => rfl)) (pa_cons (pe_ix (r := rIxT K) ix_tup (pv 4) pe_int (fun _ _ => rfl)) pa_nil)))))))
      (pss_one (ps_setLc (i := 1) (own := [("_law_tie", 4)]) rfl sc__law_no_ring.nd rfl rfl (sw_true rfl rfl rfl (by decide +kernel)) (pi_list (pv 1)) (blkOk_by (own := [("_law_tie", 4)]) (N := n__law_no_ring) (sc := defScope s__law_no_ring) (by decide +kernel)) (fun _ _ _ _ _ => (pg_name (i := 4) sc__law_no_ring.nd rfl (Or.inl rfl))) (fun _ _ _ _ _ => (pts_one (PW.pt (pw_and (pt_cmpR op_gt (pe_cntK (K := K) rfl (pv 3) (pa_cons (pe_ix (r := rIxT K) ix_tup (pv 4) pe_int (fun _ _ => rfl)) pa_nil)) pe_int (nomark _)) (pw_and1 (pt_cmpR op_gt (pe_cntK (K := K) rfl (pv 3) (pa_cons (pe_ix (r := rIxT K) ix_tup (pv 4) pe_int (fun _ _ => rfl)) pa_nil)) pe_int (nomark _))))))) (fun _ _ _ _ _ => (pv 4)))))))
      (pss_one (ps_ret (pe_cmpR (op_eqD hr.units) (pv 1) (pe_lst pa_nil) (nomark _)))))), ?_⟩
    have tl : ts.length = es.length := hts.len
    refine ⟨_, rfl, a, _, rfl, .inl (SqL.of ha), fun l0 hl0 => ?_⟩
    refine ⟨_, rfl, a, rfl, ⟨_, SqL.of (same_upd hl0 _ _ ha)⟩, for_list (K := K) (a := a) (xs := ts.map V.ref) (fun i σ H' => ∃ (v2 v3 v4 : Option V) (l : Addr) (ls : List Addr) (left : List (Nat × Nat)), σ = [some (.ref a), some (.ref l), v2, v3, v4] ∧ Same H H' ∧
        H' l = some (.lst (ls.map V.ref)) ∧ prs H' ls left ∧ left.length ≤ 16 ∧ TM.iter (es.length - i) left = TM.iter es.length es)
      ⟨none, none, none, l0, ts, es, rfl, same_upd hl0, upd_same, hts.same (same_upd hl0), hlen, rfl⟩ (fun i σ H' _ ⟨_, _, _, _, _, _, _, s5, _⟩ => SqL.of (s5 _ _ ha)) ?_ ?_⟩
    · rintro i y σ H' hi ⟨v2, v3, v4, l, ls, left, rfl, s5, hL, hls, hle, inv⟩
      have ilt : i < es.length := by
        have := (List.getElem?_eq_some_iff.mp hi).1
        rw [List.length_map, tl] at this
        exact this
      have ll : ls.length = left.length := hls.len
      -- ends = []
      refine ⟨Nat.zero_le _, fun q0 hq0 => ?_⟩
      have sq : Same H' (upd H' q0 (.lst [])) := same_upd hq0
      refine ⟨_, rfl, l, rfl, ⟨_, SqL.of (sq _ _ hL)⟩, for_list (K := K) (a := l) (xs := ls.map V.ref) (fun j σ H2 => ∃ (v4 : Option V) (qa : Addr), σ = [some (.ref a), some (.ref l), some y, some (.ref qa), v4] ∧ Same H' H2 ∧ H2 qa = some (.lst ((TM.ends (left.take j)).map nv)))
        ⟨v4, q0, rfl, sq, upd_same⟩ (fun j σ H2 _ ⟨_, _, _, s6, _⟩ => SqL.of (s6 _ _ hL)) ?_ ?_⟩
      · rintro j z σ H2 hj ⟨v4, qa, rfl, s6, hqa⟩
        obtain ⟨t, ht, rfl⟩ := map_at hj
        obtain ⟨e, he, hte⟩ := hls.at ht
        have hte2 := s6 _ _ hte
        refine ⟨_, rfl, _, rfl, t, _, _, _, rfl, rfl, SqT.of hte2, atI_nat (j := 0) rfl, _, rfl, t, _, _, _, rfl, rfl, SqT.of hte2, atI_nat (j := 1) rfl, (by show 2 ≤ sizeLine; decide), fun u hu => ?_⟩
        have su : Same H2 (upd H2 u (.lst [nv e.1, nv e.2])) := same_upd hu
        refine ⟨qa, u, _, _, rfl, rfl, su _ _ hqa, upd_same, ?_, fun q1 hq1 => ?_⟩
        · rw [List.length_map, ends_len, List.length_take]
          show _ + 2 ≤ _
          exact Nat.le_of_lt (small1000 (by omega))
        · refine ⟨_, q1, rfl, s6.trans (su.trans (same_upd hq1)), ?_⟩
          rw [ends_more he, List.map_append]
          exact upd_same
      · rintro σ H2 ⟨v4, qa, rfl, s6, hqa⟩
        rw [List.length_map, ll, List.take_length] at hqa
        have hL2 := s6 _ _ hL
        have hls2 := hls.same s6
        have hqi := hqa
        rw [nv_ints] at hqi
        -- left = [tie for tie in left if ..]
        refine ⟨_, rfl, l, rfl, ⟨_, SqL.of hL2⟩, fun D hD => lc_list (K := K) (a := l) (xs := ls.map V.ref) (fun j H3 => Same H2 H3 ∧ ∃ ds, H3 D = some (.lst (ds.map V.ref)) ∧ prs H3 ds ((left.take j).filter (TM.keep left)))
          ⟨same_upd hD, [], upd_same, True.intro⟩ (fun j H3 _ p => SqL.of (p.1 _ _ hL2)) ?_ ?_⟩
        · rintro j z H3 hj ⟨s7, ds, hA, hds⟩
          obtain ⟨t, ht, rfl⟩ := map_at hj
          obtain ⟨e, he, hte⟩ := hls2.at ht
          have hte3 := s7 _ _ hte
          have hq3 := s7 _ _ hqi
          have jl : j < left.length := (List.getElem?_eq_some_iff.mp he).1
          have dl : ds.length ≤ 16 := by
            rw [hds.len]
            refine Nat.le_trans (List.length_filter_le _ _) ?_
            rw [List.length_take]
            omega
          have e1 : ((TM.ends left).map (fun n : Nat => (n : Int))).count ((e.1 : Nat) : Int) = TM.deg left e.1 := count_cast _ _
          have e2 : ((TM.ends left).map (fun n : Nat => (n : Int))).count ((e.2 : Nat) : Int) = TM.deg left e.2 := count_cast _ _
          have no : TM.keep left e = false → Same H2 H3 ∧ ∃ ds, H3 D = some (.lst (ds.map V.ref)) ∧ prs H3 ds ((left.take (j + 1)).filter (TM.keep left)) := fun z => by
            refine ⟨s7, ds, hA, ?_⟩
            rw [take_more he, List.filter_append, List.filter_cons_of_neg (by rw [z]; decide), List.filter_nil, List.append_nil]
            exact hds
          refine ⟨rfl, ?_⟩
          refine ⟨_, rfl, .inl ⟨rfl, _, SqL.of hq3⟩, _, rfl, t, _, _, _, rfl, rfl, SqT.of hte3, atI_nat (j := 0) rfl, qa, _, _, rfl, rfl, SqL.of hq3, _, _, rfl, rfl, decide (1 < TM.deg left e.1), ?_, ?_⟩
          · show V.bl (decide ((1 : Int) < ((((TM.ends left).map (fun n : Nat => (n : Int))).count ((e.1 : Nat) : Int) : Nat) : Int))) = _
            rw [e1]
            congr 1
            rw [Bool.eq_iff_iff, decide_eq_true_eq, decide_eq_true_eq]
            omega
          by_cases c1 : 1 < TM.deg left e.1
          · rw [decide_eq_true c1]
            refine iteT ⟨_, rfl, .inl ⟨rfl, _, SqL.of hq3⟩, _, rfl, t, _, _, _, rfl, rfl, SqT.of hte3, atI_nat (j := 1) rfl, qa, _, _, rfl, rfl, SqL.of hq3, _, _, rfl, rfl, decide (1 < TM.deg left e.2), ?_, ?_⟩
            · show V.bl (decide ((1 : Int) < ((((TM.ends left).map (fun n : Nat => (n : Int))).count ((e.2 : Nat) : Int) : Nat) : Int))) = _
              rw [e2]
              congr 1
              rw [Bool.eq_iff_iff, decide_eq_true_eq, decide_eq_true_eq]
              omega
            by_cases c2 : 1 < TM.deg left e.2
            · rw [decide_eq_true c2]
              refine iteT ⟨_, rfl, _, hA, by rw [List.length_map]; exact small1000 (by omega), same_to s7 hD, ds ++ [t], ?_, ?_⟩
              · rw [List.map_append]
                exact upd_same
              · have z : TM.keep left e = true := by
                  unfold TM.keep
                  rw [decide_eq_true c1, decide_eq_true c2]
                  rfl
                rw [take_more he, List.filter_append, List.filter_cons_of_pos z, List.filter_nil]
                exact (prs.put hte3 hds).upd hA (by intro xs w; cases w)
            · rw [decide_eq_false c2]
              refine iteF (no ?_)
              unfold TM.keep
              rw [decide_eq_false c2, Bool.and_false]
          · rw [decide_eq_false c1]
            refine iteF (iteF (no ?_))
            unfold TM.keep
            rw [decide_eq_false c1, Bool.false_and]
        · rintro H3 ⟨s7, ds, hA, hds⟩
          rw [List.length_map, ll, List.take_length] at hds
          refine ⟨_, _, _, D, ds, TM.strip left, rfl, s5.trans (s6.trans s7), hA, hds, Nat.le_trans (List.length_filter_le _ _) hle, ?_⟩
          rw [← inv, show es.length - i = (es.length - (i + 1)) + 1 by omega]
          rfl
    · rintro σ H' ⟨v2, v3, v4, l, ls, left, rfl, s5, hL, hls, hle, inv⟩
      rw [List.length_map, tl, Nat.sub_self] at inv
      have inv : left = TM.iter es.length es := inv
      refine ⟨_, rfl, Nat.zero_le _, fun p hp => ?_⟩
      have sp : Same H' (upd H' p (.lst [])) := same_upd hp
      refine ⟨_, _, Dp.lst (SqL.of (sp _ _ hL)) (dp_prs (hls.same sp)), Dp.lst (SqL.of upd_same) .nil, pd_shaped _, by decide +kernel, ?_⟩
      rw [eqv_nil, inv]
      exact q _ (s5.trans sp)
end
/-! ### the law -/
section
variable {P : Program} {w : World} {K : PySem.W.Frag} {mg : Str → Option Value} {base : Heap} {f C CR : Addr} {fd : FuncData}
theorem draw_nat {c k : Int} {N : Nat} (h : 1 ≤ N) : ∃ m : Nat, m < N ∧ drawF c k (N : Int) = (m : Int) := by
  have h0 := drawF_lo (c := c) (k := k) (m := (N : Int)) (by omega)
  have h1 := drawF_hi (c := c) (k := k) (m := (N : Int)) (by omega)
  exact ⟨(drawF c k (N : Int)).toNat, by omega, by omega⟩
theorem ok_law (B : Bl mg) (G : Gl_ mg CR) (GT : Gt K mg C) (I : Isi K C CR) (F : L2.Fun K "law" "law" s_law f fd) (c__law_cell_at : C8.Cal P w K mg base 1 "_law_cell_at" (spCellAt K) []) (c__law_draw : C8.Cal P w K mg base 1 "_law_draw" spDraw [])
    (c__law_no_ring : C8.Cal P w K mg base 1 "_law_no_ring" spRing []) (k_Threads : C8.Mak P w K mg base 4 "Threads" C (spInit C) []) (m_many : C8.Met P w K mg base 1 C "many" (spMany C) []) (m_free : C8.Met P w K mg base 5 C "free" (spFree C) []) :
    FnOk P w K mg base CX0 6 f fd ["_law_script"] (spLaw K) := by
  refine F.ok sc_law (fun vs H Q E h => ?_) (fun cdv A outer s H vs Q E hr h => ?_)
  · obtain ⟨a, ns, rfl, _⟩ := h
    rfl
  · obtain ⟨a, ns, rfl, hS, hlen, k⟩ := h
    refine ⟨_, (C8.pss_cut (ps_set (i := 1) sc_law.nd rfl (Or.inl rfl) (pe_op op_mod (C8.pe_c c__law_cell_at hr (by first | decide | exact Nat.le_refl _ | omega) rfl (pa_cons (pv 0) (pa_cons pe_int pa_nil))) pe_int))
      (C8.pss_cut (ps_set (i := 2) sc_law.nd rfl (Or.inl rfl) (pe_op op_add pe_int (pe_op op_mod (C8.pe_c c__law_cell_at hr (by first | decide | exact Nat.le_refl _ | omega) rfl (pa_cons (pv 0) (pa_cons pe_int pa_nil))) pe_int)))
      (pss_cons (ps_set (i := 3) sc_law.nd rfl (Or.inr rfl) (pe_lst pa_nil))
      (pss_cons (ps_for PassesOwn.never rfl (pi_range1 rfl B.range_ (pa_cons (pv 1) pa_nil)) (pg_name (i := 4) sc_law.nd rfl (Or.inl rfl)) (C8.pss_cut (ps_set (i := 5) sc_law.nd rfl (Or.inr rfl) (pe_op op_add (C8.pe_c c__law_cell_at hr (by first | decide | exact Nat.le_refl _ | omega) rfl (pa_cons (pv 0) (pa_cons (pe_op op_add pe_int (pe_op op_mod (pv 4) pe_int)) pa_nil))) (pe_op op_mul pe_int (pv 4))))
      (pss_cons (ps_expr (pe_bm PySem.F.plainAttrs_list PySem.F.slot_list_append PySem.F.type_list_append mt_append (pv 3) (pa_cons (pe_tup (pa_cons (C8.pe_c c__law_draw hr (by first | decide | exact Nat.le_refl _ | omega) rfl (pa_cons (pv 5) (pa_cons pe_int (pa_cons (pv 2) pa_nil)))) (pa_cons (C8.pe_c c__law_draw hr (by first | decide | exact Nat.le_refl _ | omega) rfl (pa_cons (pv 5) (pa_cons pe_int (pa_cons (pv 2) pa_nil)))) pa_nil))) pa_nil)))
      (pss_one (ps_if (PW.pt (pw_and (pt_cmpR op_gt (pv 4) pe_int (nomark _)) (pw_and1 (pt_cmpR op_eq (C8.pe_c c__law_draw hr (by first | decide | exact Nat.le_refl _ | omega) rfl (pa_cons (pv 5) (pa_cons pe_int (pa_cons pe_int pa_nil)))) pe_int (nomark _))))) (pss_one (ps_asg (pe_tup (pa_cons (pe_ix (r := rIxT K) ix_tup (pe_ix (r := rIxL K) ix_list (pv 3) (pe_op op_sub (pv 4) pe_int) (fun _ _ => rfl)) pe_int (fun _ _ => rfl)) (pa_cons (pe_ix (r := rIxT K) ix_tup (pe_ix (r := rIxL K) ix_list (pv 3) (pe_op op_sub (pv 4) pe_int) (fun _ _ => rfl)) pe_int (fun _ _ => rfl)) pa_nil))) (pg_sub (pv 3) (pv 4) set_list))) pss_nil)))))
      (pss_cons (ps_set (i := 6) sc_law.nd rfl (Or.inl rfl) (pe_callTy (call_lstK (K := K) rfl) (by rfl) B.list_ (by decide +kernel) (pa_cons (pv 3) pa_nil)))
      (pss_cons (ps_set (i := 7) sc_law.nd rfl (Or.inl rfl) (C8.pe_mk k_Threads hr (by decide) rfl (pa_cons (pv 2) (pa_cons (pv 6) pa_nil))))
      (pss_cons (ps_if (PW.pt (pw_or (pt_cmpR (op_neD hr.units) (pv 6) (pv 3) (nomark _)) (pw_or (pt_not (pt_val (pe_callB (call_isiK (K := K) rfl) (by rfl) B.isinstance_ (by decide +kernel) (pa_cons (pv 7) (pa_cons (C8.pe_gc rfl G.Rule) pa_nil))))) (pw_or1 (pt_cmpR op_ne (C8.pe_mt0 (pl := _) m_many hr (by decide) (pv 7)) (pv 1) (nomark _)))))) (pss_one (ps_ret pe_bl)) pss_nil)
      (pss_cons (ps_expr (pe_bm PySem.F.plainAttrs_list PySem.F.slot_list_append PySem.F.type_list_append mt_append (pv 6) (pa_cons (pe_tup (pa_cons pe_int (pa_cons pe_int pa_nil))) pa_nil)))
      (pss_cons (ps_for PassesOwn.never rfl (pi_range1 rfl B.range_ (pa_cons pe_int pa_nil)) (pg_name (i := 8) sc_law.nd rfl (Or.inr rfl)) (C8.pss_cut (ps_set (i := 5) sc_law.nd rfl (Or.inr rfl) (pe_op op_add (C8.pe_c c__law_cell_at hr (by first | decide | exact Nat.le_refl _ | omega) rfl (pa_cons (pv 0) (pa_cons (pv 8) pa_nil))) (pe_op op_mul pe_int (pv 8))))
      (C8.pss_cut (ps_setLc (i := 9) (own := [("_law_k", 4)]) rfl sc_law.nd rfl rfl (sw_true rfl rfl rfl (by decide +kernel)) (pi_range1 rfl B.range_ (pa_cons (pv 1) pa_nil)) (blkOk_by (own := [("_law_k", 4)]) (N := n_law) (sc := defScope s_law) (by decide +kernel)) (fun _ _ _ _ _ => (pg_name (i := 4) sc_law.nd rfl (Or.inl rfl))) (fun _ _ _ _ _ => (pts_one (pt_cmpR op_eq (C8.pe_c c__law_draw hr (by first | decide | exact Nat.le_refl _ | omega) rfl (pa_cons (pe_op op_add (pv 5) (pe_op op_mul pe_int (pv 4))) (pa_cons pe_int (pa_cons (pe_op op_add pe_int (pe_op op_mod (pv 8) pe_int)) pa_nil)))) pe_int (nomark _)))) (fun _ _ _ _ _ => (pv 4)))
      (pss_cons (ps_set (i := 10) sc_law.nd rfl (Or.inl rfl) (pe_revL (pv 9)))
      (pss_cons (ps_set (i := 11) sc_law.nd rfl (Or.inl rfl) (C8.pe_mt (pl := _) m_free hr (by decide) (pv 7) (pa_cons (pv 10) pa_nil)))
      (pss_one (ps_if (PW.pt (pw_or (pt_not (pt_val (pe_callB (call_isiK (K := K) rfl) (by rfl) B.isinstance_ (by decide +kernel) (pa_cons (pv 11) (pa_cons (pe_bltn (v := .ty "bool") (u := .type "bool") (by rfl) B.bool_ (by decide +kernel) rfl) pa_nil))))) (pw_or (pt_cmpR op_ne (pv 11) (C8.pe_c c__law_no_ring hr (by first | decide | exact Nat.le_refl _ | omega) rfl (pa_cons (pe_lc (own := [("_law_k", 4)]) rfl sc_law.nd (pi_list (pv 9)) (blkOk_by (own := [("_law_k", 4)]) (N := n_law) (sc := defScope s_law) (by decide +kernel)) (fun _ _ _ _ _ => (pg_name (i := 4) sc_law.nd rfl (Or.inl rfl))) (fun _ _ _ _ _ => pts_nil) (fun _ _ _ _ _ => (pe_ix (r := rIxL K) ix_list (pv 3) (pv 4) (fun _ _ => rfl)))) pa_nil)) (nomark _)) (pw_or1 (pt_cmpR (op_neD hr.units) (pv 10) (pe_revL (pv 9)) (nomark _)))))) (pss_one (ps_ret pe_bl)) pss_nil)))))))
      (pss_one (ps_ret (pe_cmpR op_isBl (C8.pe_mt (pl := _) m_free hr (by decide) (pv 7) (pa_cons (pe_lst pa_nil) pa_nil)) pe_bl (nomark _))))))))))))), ?_⟩
    -- the count of things, the count of places
    have n0 : 0 ≤ cellAt ns 0 % 17 := Int.emod_nonneg _ (by decide)
    have n1 : cellAt ns 0 % 17 < 17 := Int.emod_lt_of_pos _ (by decide)
    obtain ⟨n, en⟩ : ∃ n : Nat, cellAt ns 0 % 17 = (n : Int) := ⟨(cellAt ns 0 % 17).toNat, by omega⟩
    have n17 : n < 17 := by omega
    refine ⟨fun σ' H1 => σ' = [some (.ref a), some (nv n), none, none, none, none, none, none, none, none, none, none] ∧ H = H1, ?_, ?_⟩
    · refine ⟨_, rfl, a, ns, 0, rfl, hS, _, _, rfl, rfl, (by show (0 : Int) < 17; decide), ?_, rfl⟩
      show [some (V.ref a), some (V.int (cellAt ns 0 % 17)), none, none, none, none, none, none, none, none, none, none] = _
      rw [en]
    rintro _ _ ⟨rfl, rfl⟩
    have p0 : 0 ≤ cellAt ns 1 % 20 := Int.emod_nonneg _ (by decide)
    have p1 : cellAt ns 1 % 20 < 20 := Int.emod_lt_of_pos _ (by decide)
    obtain ⟨N, eN⟩ : ∃ N : Nat, 1 + cellAt ns 1 % 20 = (N : Int) := ⟨(1 + cellAt ns 1 % 20).toNat, by omega⟩
    have N1 : 1 ≤ N := by omega
    have N2 : N ≤ 20 := by omega
    refine ⟨fun σ' H1 => σ' = [some (.ref a), some (nv n), some (nv N), none, none, none, none, none, none, none, none, none] ∧ H = H1, ?_, ?_⟩
    · refine ⟨_, rfl, a, ns, 1, rfl, hS, _, _, rfl, rfl, (by show (0 : Int) < 20; decide), _, _, rfl, rfl, ?_, rfl⟩
      show [some (V.ref a), some (nv n), some (V.int (1 + cellAt ns 1 % 20)), none, none, none, none, none, none, none, none, none] = _
      rw [eN]
    rintro _ _ ⟨rfl, rfl⟩
    -- ties = []
    refine ⟨Nat.zero_le _, fun R hR => ?_⟩
    refine ⟨_, rfl, _, rfl, by omega, by omega, for_range (lo := 0) (n := (n : Int).toNat) (fun i σ H' => ∃ (vk vc : Option V) (ts : List Addr) (es : List (Nat × Nat)), σ = [some (.ref a), some (nv n), some (nv N), some (.ref R), vk, vc, none, none, none, none, none, none] ∧ Same H H' ∧
        H' R = some (.lst (ts.map V.ref)) ∧ prs H' ts es ∧ es.length = i ∧ Bnd N es) ⟨none, none, [], [], rfl, same_upd hR, upd_same, True.intro, rfl, fun r h => by cases h⟩ ?_ ?_⟩
    · rintro i σ H' hi ⟨vk, vc, ts, es, rfl, s5, hL, hts, hes, hb⟩
      have hi' : i < n := by omega
      have tl : ts.length = i := by rw [hts.len, hes]
      -- the cell
      refine ⟨fun σ' H1 => ∃ cell : Int, σ' = [some (.ref a), some (nv n), some (nv N), some (.ref R), some (.int (0 + (i : Int))), some (.int cell), none, none, none, none, none, none] ∧ H' = H1, ?_, ?_⟩
      · refine ⟨_, rfl, _, rfl, _, _, rfl, rfl, (by show (0 : Int) < 9; decide), _, _, rfl, rfl, a, ns, 2 + i % 9, ?_, s5.seq hS, _, rfl, _, _, rfl, rfl, .inl ⟨by decide, by decide⟩, _, _, rfl, rfl, _, rfl, rfl⟩
        show [V.ref a, V.int (2 + (0 + (i : Int)) % 9)] = _
        rw [show (2 + (0 + (i : Int)) % 9) = ((2 + i % 9 : Nat) : Int) by omega]
      rintro _ _ ⟨cell, rfl, rfl⟩
      -- ties.append((draw, draw))
      obtain ⟨m1, hm1, e1⟩ := draw_nat (c := cell) (k := 0) N1
      obtain ⟨m2, hm2, e2⟩ := draw_nat (c := cell) (k := 1) N1
      refine ⟨_, rfl, .inl ⟨rfl, _, SqL.of hL⟩, _, rfl, _, rfl, cell, 0, N, rfl, by omega, by decide, by decide, _, rfl, _, rfl, cell, 1, N, rfl, by omega, by decide, by decide, (by show 2 ≤ sizeLine; decide), fun t ht => ?_⟩
      have eT : HO.tup [V.int (drawF cell 0 (N : Int)), V.int (drawF cell 1 (N : Int))] = HO.tup [nv m1, nv m2] := by rw [e1, e2]
      have st : Same H' (upd H' t (.tup [V.int (drawF cell 0 (N : Int)), V.int (drawF cell 1 (N : Int))])) := same_upd ht
      have hT : (upd H' t (HO.tup [V.int (drawF cell 0 (N : Int)), V.int (drawF cell 1 (N : Int))])) t = some (.tup [nv m1, nv m2]) := by
        rw [eT]
        exact upd_same
      refine ⟨R, _, _, rfl, rfl, st _ _ hL, by rw [List.length_map]; exact small1000 (by omega), ?_⟩
      generalize upd H' t (HO.tup [V.int (drawF cell 0 (N : Int)), V.int (drawF cell 1 (N : Int))]) = H2 at st hT
      have hL2 := st _ _ hL
      have s6 : Same H (upd H2 R (.lst (ts.map V.ref ++ [.ref t]))) := same_to (s5.trans st) hR
      have hL3 : (upd H2 R (.lst (ts.map V.ref ++ [.ref t]))) R = some (.lst ((ts ++ [t]).map V.ref)) := by
        rw [List.map_append]
        exact upd_same
      have hts3 : prs (upd H2 R (.lst (ts.map V.ref ++ [.ref t]))) (ts ++ [t]) (es ++ [(m1, m2)]) := (prs.put (e := (m1, m2)) hT (hts.same st)).upd hL2 (by intro xs z; cases z)
      have hb3 : Bnd N (es ++ [(m1, m2)]) := fun e he => by
        rcases List.mem_append.mp he with q | q
        · exact hb e q
        · rw [List.mem_singleton.mp q]
          exact ⟨hm1, hm2⟩
      have keep : ∀ b o, b ≠ R → H2 b = some o → (upd H2 R (.lst (ts.map V.ref ++ [.ref t]))) b = some o := fun b o nb e => by
        rw [upd_ne nb]
        exact e
      generalize upd H2 R (.lst (ts.map V.ref ++ [.ref t])) = H3 at s6 hL3 hts3 keep
      -- if k > 0 and draw(cell, 2, 6) == 0
      refine ⟨_, rfl, _, _, rfl, rfl, decide ((0 : Int) < 0 + (i : Int)), rfl, ?_⟩
      have no : ∃ (vk vc : Option V) (ts : List Addr) (es : List (Nat × Nat)), [some (V.ref a), some (nv n), some (nv N), some (V.ref R), some (V.int (0 + (i : Int))), some (V.int cell), none, none, none, none, none, none] = [some (.ref a), some (nv n), some (nv N), some (.ref R), vk, vc, none, none, none, none, none, none] ∧ Same H H3 ∧
          H3 R = some (.lst (ts.map V.ref)) ∧ prs H3 ts es ∧ es.length = i + 1 ∧ Bnd N es := ⟨_, _, _, _, rfl, s6, hL3, hts3, by rw [List.length_append, hes]; rfl, hb3⟩
      by_cases c : (0 : Int) < 0 + (i : Int)
      · rw [decide_eq_true c]
        refine iteT ⟨_, rfl, cell, 2, 6, rfl, by decide, by decide, by decide, rfl, _, rfl, ?_⟩
        refine ite2 (fun _ => ?_) (fun _ => ?_)
        · have l1 : i - 1 < ts.length := by omega
          obtain ⟨e, he, hte⟩ := hts.at (List.getElem?_eq_getElem l1)
          have nR : ts[i - 1] ≠ R := ne_of hte hL (by intro z; cases z)
          have hte3 := keep _ _ nR (st _ _ hte)
          have hat : ((ts ++ [t]).map V.ref)[i - 1]? = some (V.ref ts[i - 1]) := by
            rw [List.getElem?_map, List.getElem?_append_left l1, List.getElem?_eq_getElem l1]
            rfl
          refine ⟨_, rfl, _, rfl, _, _, rfl, rfl, R, _, _, _, rfl, rfl, SqL.of hL3, at_of (j := i - 1) (by omega) hat, _, _, _, _, rfl, rfl, SqT.of hte3, atI_nat (j := 1) rfl,
            _, rfl, _, rfl, _, _, rfl, rfl, R, _, _, _, rfl, rfl, SqL.of hL3, at_of (j := i - 1) (by omega) hat, _, _, _, _, rfl, rfl, SqT.of hte3, atI_nat (j := 0) rfl, (by show 2 ≤ sizeLine; decide), fun u hu => ?_⟩
          have su : Same H3 (upd H3 u (.tup [nv e.2, nv e.1])) := same_upd hu
          have hU : (upd H3 u (HO.tup [nv e.2, nv e.1])) u = some (.tup [nv e.2, nv e.1]) := upd_same
          have hU0 := s6.free hu
          refine ⟨_, rfl, _, rfl, R, _, _, i, rfl, rfl, su _ _ hL3, ?_, ?_⟩
          · show ixN ((ts ++ [t]).map V.ref).length (0 + (i : Int)) = some i
            rw [List.length_map, List.length_append, tl]
            show ixN (i + 1) (0 + (i : Int)) = some i
            unfold ixN
            rw [if_pos (by omega), if_pos (by omega), Int.zero_add]
            rfl
          generalize upd H3 u (HO.tup [nv e.2, nv e.1]) = H4 at su hU
          have hs : ((ts ++ [t]).map V.ref).set i (V.ref u) = (ts ++ [u]).map V.ref := by
            rw [List.map_append, List.map_append, List.set_append_right _ _ (by rw [List.length_map]; omega), List.length_map, tl, Nat.sub_self]
            rfl
          obtain ⟨b1, b2⟩ := hb e (List.mem_of_getElem? he)
          have ht4 : prs H4 ts es := (hts.keep (H' := H3) fun z xs q => keep _ _ (ne_of q hL (by intro y; cases y)) (st _ _ q)).same su
          refine ⟨_, _, ts ++ [u], es ++ [(e.2, e.1)], rfl, same_to (s6.trans su) hR, ?_, ?_, by rw [List.length_append, hes]; rfl, fun e' he' => ?_⟩
          · rw [hs]
            exact upd_same
          · exact (prs.put (e := (e.2, e.1)) hU ht4).upd (su _ _ hL3) (by intro xs z; cases z)
          · rcases List.mem_append.mp he' with q | q
            · exact hb e' q
            · rw [List.mem_singleton.mp q]
              exact ⟨b2, b1⟩
        · exact no
      · rw [decide_eq_false c]
        exact iteF (iteF no)
    · rintro σ H1 ⟨vk, vc, ts, es, rfl, s5, hL, hts, hes, hb⟩
      rw [Int.toNat_natCast] at hes
      have tl : ts.length = n := by rw [hts.len, hes]
      -- handed = list(ties); rule = Threads(places, handed)
      refine ⟨_, rfl, R, _, rfl, .inl (SqL.of hL), fun l hl => ?_⟩
      refine ⟨_, rfl, _, rfl, fun x dx nx ndx ne => ?_⟩
      have hl0 : H l = none := s5.free hl
      have e2 : Same H1 (upd H1 l (.lst (ts.map V.ref))) := same_upd hl
      have hl2 : (upd H1 l (HO.lst (ts.map V.ref))) l = some (.lst (ts.map V.ref)) := upd_same
      generalize upd H1 l (HO.lst (ts.map V.ref)) = H2 at e2 hl2 nx ndx
      have e2x : Same H2 (upd (upd H2 dx (.own x)) x (.ins C dx [])) := fun b o e => by
        rw [upd_ne (ne_of_none e nx), upd_ne (ne_of_none e ndx)]
        exact e
      refine ⟨x, dx, l, N, ts, es, rfl, upd_same, e2x _ _ hl2, (hts.same e2).same e2x, N1, N2, by omega, hb, fun H3 keep at3 => ⟨rfl, ?_⟩⟩
      have e3 : Same H2 H3 := Same.made nx ndx fun b o e nb => keep b o nb e
      have hR3 := e3 _ _ (e2 _ _ hL)
      have hl3 := e3 _ _ hl2
      have hts3 := (hts.same e2).same e3
      obtain ⟨d3, t3, ts3, hx3, ht3, hp3⟩ := id at3
      -- if handed != ties or not isinstance(rule, Rule) or rule.many() != n
      refine ⟨_, rfl, _, rfl, _, _, Dp.lst (SqL.of hl3) (dp_prs hts3), Dp.lst (SqL.of hR3) (dp_prs hts3), pd_shaped _, pd_shaped _, false, by rw [pd_same]; rfl, iteF ?_⟩
      refine ⟨_, rfl, _, _, _, _, true, rfl, ClsV.own CR, TyX.base (TyOf.ins hx3 GT.cl I.ha I.hn I.htk I.hm), I.up, true, rfl, iteF ?_⟩
      refine ⟨_, rfl, x, d3, _, rfl, hx3, tf_many _ _, x, N, es, rfl, at3, _, rfl, rfl, false, ?_, iteF ?_⟩
      · show V.bl (!decide (nv es.length = nv n)) = _
        rw [hes, decide_eq_true rfl]
        rfl
      -- handed.append((0, 0))
      refine ⟨_, rfl, .inl ⟨rfl, _, SqL.of hl3⟩, (by show 2 ≤ sizeLine; decide), fun z hz => ?_⟩
      have sz : Same H3 (upd H3 z (.tup [.int 0, .int 0])) := same_upd hz
      generalize upd H3 z (.tup [.int 0, .int 0]) = H3z at sz
      refine ⟨l, _, _, rfl, rfl, sz _ _ hl3, by rw [List.length_map]; exact small1000 (by omega), ?_⟩
      have nRl : R ≠ l := ne_of_none hL hl
      have nxl : x ≠ l := ne_of hx3 hl3 (by intro z; cases z)
      have ntl : t3 ≠ l := ne_of ht3 hl3 (by intro z; cases z)
      have sH : Same H (upd H3z l (.lst (ts.map V.ref ++ [.ref z]))) := same_to (s5.trans (e2.trans (e3.trans sz))) hl0
      have hR4 : (upd H3z l (.lst (ts.map V.ref ++ [.ref z]))) R = some (.lst (ts.map V.ref)) := by rw [upd_ne nRl]; exact sz _ _ hR3
      have hts4 : prs (upd H3z l (.lst (ts.map V.ref ++ [.ref z]))) ts es := (hts3.same sz).upd (sz _ _ hl3) (by intro xs q; cases q)
      have at4 : ThAt C (upd H3z l (.lst (ts.map V.ref ++ [.ref z]))) x N es := ⟨d3, t3, ts3, by rw [upd_ne nxl]; exact sz _ _ hx3, by rw [upd_ne ntl]; exact sz _ _ ht3, (hp3.same sz).upd (sz _ _ hl3) (by intro xs q; cases q)⟩
      generalize upd H3z l (.lst (ts.map V.ref ++ [.ref z])) = H4 at sH hR4 at4 hts4
      refine ⟨8, rfl, by decide, by decide, for_range (lo := 0) (n := (8 : Int).toNat) (fun i σ H' => ∃ v4 v5 v8 v9 v10 v11 : Option V, σ = [some (.ref a), some (nv n), some (nv N), some (.ref R), v4, v5, some (.ref l), some (.ref x), v8, v9, v10, v11] ∧ Same H4 H')
        ⟨_, _, _, _, _, _, rfl, Same.refl _⟩ ?_ ?_⟩
      · rintro i σ H' hi ⟨v4, v5, v8, v9, v10, v11, rfl, s6⟩
        -- the cell
        refine ⟨fun σ' H5 => ∃ cell : Int, σ' = [some (.ref a), some (nv n), some (nv N), some (.ref R), v4, some (.int cell), some (.ref l), some (.ref x), some (.int (0 + (i : Int))), v9, v10, v11] ∧ H' = H5, ?_, ?_⟩
        · refine ⟨_, rfl, _, rfl, a, ns, i, ?_, (sH.trans s6).seq hS, _, rfl, _, _, rfl, rfl, .inl ⟨by decide, by decide⟩, _, _, rfl, rfl, _, rfl, rfl⟩
          show [V.ref a, V.int (0 + (i : Int))] = _
          rw [Int.zero_add]
        rintro _ _ ⟨cell, rfl, rfl⟩
        -- some
        refine ⟨fun σ' H5 => ∃ (S : Addr) (ks : List Nat), σ' = [some (.ref a), some (nv n), some (nv N), some (.ref R), v4, some (.int cell), some (.ref l), some (.ref x), some (.int (0 + (i : Int))), some (.ref S), v10, v11] ∧ Same H' H5 ∧
            H5 S = some (.lst (ks.map nv)) ∧ ks.Nodup ∧ (∀ k ∈ ks, k < n) ∧ ks.length ≤ n, ?_, ?_⟩
        · refine ⟨_, rfl, _, rfl, by omega, by omega, fun D hD => lc_range (lo := 0) (n := (n : Int).toNat) (fun j H5 => ∃ ks : List Nat, Same H' H5 ∧ H5 D = some (.lst (ks.map nv)) ∧ ks.Nodup ∧ (∀ k ∈ ks, k < j) ∧ ks.length ≤ j)
            ⟨[], same_upd hD, upd_same, List.nodup_nil, fun k h => (by cases h), Nat.le_refl _⟩ ?_ ?_⟩
          · rintro j H5 hj ⟨ks, s7, hK, knd, klt, klen⟩
            refine ⟨rfl, ?_⟩
            refine ⟨_, rfl, _, rfl, _, _, rfl, rfl, .inl ⟨by decide, by decide⟩, _, _, rfl, rfl, _, rfl, _, _, rfl, rfl, (by show (0 : Int) < 4; decide), _, _, rfl, rfl, _, 3, _, rfl, ?_, by decide, by decide, rfl, _, rfl, ?_⟩
            · show (0 : Int) < 1 + (0 + (i : Int)) % 4
              omega
            refine ite2 (fun _ => ?_) (fun _ => ?_)
            · refine ⟨_, rfl, _, hK, by rw [List.length_map]; exact small1000 (by omega), ks ++ [j], same_to s7 hD, ?_, ?_, fun k hk => ?_, ?_⟩
              · rw [List.map_append]
                refine upd_same.trans ?_
                show some (HO.lst (_ ++ [V.int (0 + (j : Int))])) = _
                rw [Int.zero_add]
                rfl
              · rw [List.nodup_append]
                refine ⟨knd, by simp, fun p hp q hq => ?_⟩
                rw [List.mem_singleton.mp hq]
                have := klt p hp
                omega
              · rcases List.mem_append.mp hk with e | e
                · have := klt k e
                  omega
                · rw [List.mem_singleton.mp e]
                  omega
              · rw [List.length_append]
                show ks.length + 1 ≤ j + 1
                omega
            · exact ⟨ks, s7, hK, knd, fun k hk => Nat.lt_succ_of_lt (klt k hk), by omega⟩
          · rintro H5 ⟨ks, s7, hK, knd, klt, klen⟩
            refine ⟨D, ks, rfl, s7, hK, knd, fun k hk => ?_, by omega⟩
            have := klt k hk
            omega
        rintro _ H5 ⟨S, ks, rfl, s7, hK, knd, klt, klen⟩
        -- asked = some[::-1]
        refine ⟨_, rfl, S, _, rfl, SqL.of hK, fun p hp => ?_⟩
        have s8 : Same H5 (upd H5 p (.lst (ks.map nv).reverse)) := same_upd hp
        have hp8 : (upd H5 p (.lst (ks.map nv).reverse)) p = some (.lst (ks.reverse.map nv)) := by
          rw [List.map_reverse]
          exact upd_same
        generalize upd H5 p (.lst (ks.map nv).reverse) = H6 at s8 hp8
        have sX : Same H4 H6 := (s6.trans s7).trans s8
        have at6 := at4.same sX
        obtain ⟨d6, t6, ts6, hx6, ht6, hp6⟩ := id at6
        -- found = rule.free(asked)
        refine ⟨_, rfl, x, d6, _, rfl, hx6, tf_free _ _, _, rfl, x, p, N, es, ks.reverse, rfl, at6, hp8, N2, hb, fun k hk => ?_, (List.reverse_perm ks).nodup_iff.mpr knd, by rw [List.length_reverse]; omega, fun H7 s9 => ?_⟩
        · have := klt k (List.mem_reverse.mp hk)
          omega
        have hK7 := s9 _ _ (s8 _ _ hK)
        have hR7 := s9 _ _ (sX _ _ hR4)
        have hp9 := s9 _ _ hp8
        have hts7 := (hts4.same sX).same s9
        refine ⟨_, rfl, _, _, _, _, true, rfl, ClsV.ty _, TyX.base (TyOf.bl _), kit_ty (by decide +kernel), true, rfl, iteF ?_⟩
        refine ⟨_, rfl, _, rfl, S, rfl, ⟨_, SqL.of hK7⟩, fun D hD => lc_list (K := K) (a := S) (xs := ks.map nv) (fun j H8 => Same H7 H8 ∧ ∃ ds, H8 D = some (.lst (ds.map V.ref)) ∧ prs H8 ds ((ks.take j).map (edAt es)))
          ⟨same_upd hD, [], upd_same, True.intro⟩ (fun j H8 _ p => SqL.of (p.1 _ _ hK7)) ?_ ?_⟩
        · rintro j z H8 hj ⟨s10, ds, hA, hds⟩
          obtain ⟨o, ho, rfl⟩ := map_at hj
          have olt : o < ts.length := by
            have := klt o (List.mem_of_getElem? ho)
            omega
          obtain ⟨e, he, hte⟩ := hts7.at (List.getElem?_eq_getElem olt)
          have ee : e = edAt es o := Option.some.inj (he.symm.trans (edAt_of (by rw [← hts.len]; exact olt)))
          have hrow : (ts.map V.ref)[o]? = some (V.ref ts[o]) := by
            rw [List.getElem?_map, List.getElem?_eq_getElem olt]
            rfl
          have dl : ds.length ≤ 16 := by
            rw [hds.len, List.length_map, List.length_take]
            omega
          refine ⟨rfl, yesT ?_⟩
          refine ⟨_, rfl, _, rfl, R, _, _, _, rfl, rfl, SqL.of (s10 _ _ hR7), atI_nat hrow, _, hA, ?_, same_to s10 hD, ds ++ [ts[o]], ?_, ?_⟩
          · rw [List.length_map]
            exact small1000 (by omega)
          · rw [List.map_append]
            exact upd_same
          · rw [take_more ho, List.map_append]
            have pu := prs.put (s10 _ _ hte) hds
            rw [ee] at pu
            exact pu.upd hA (by intro xs q; cases q)
        · rintro H8 ⟨s10, ds, hA, hds⟩
          rw [List.length_map, List.take_length] at hds
          have hbk : ∀ e ∈ ks.map (edAt es), e.1 < N ∧ e.2 < N := fun e he => by
            obtain ⟨o, ho, rfl⟩ := List.mem_map.mp he
            exact hb _ (List.mem_of_getElem? (edAt_of (by rw [hes]; exact klt o ho)))
          refine ⟨D, ds, ks.map (edAt es), rfl, hA, hds, by rw [List.length_map]; omega, fun H9 s11 => ⟨rfl, false, ?_, iteF ?_⟩⟩
          · show V.bl (!decide (V.bl (TM.freeF id (ks.reverse.map (edAt es))) = V.bl (TM.noRing (ks.map (edAt es))))) = V.bl false
            rw [List.map_reverse, TM.agree _ hbk, decide_eq_true rfl]
            rfl
          have sZ : Same H7 H9 := s10.trans s11
          refine ⟨_, rfl, _, rfl, S, _, rfl, SqL.of (sZ _ _ hK7), fun p2 hp2 => ?_⟩
          have ev2 := eqv_ints (ks.reverse.map (fun n : Nat => (n : Int)))
          have h2 : (upd H9 p2 (HO.lst (ks.map nv).reverse)) p2 = some (.lst (ks.reverse.map nv)) := by
            rw [List.map_reverse]
            exact upd_same
          refine ⟨_, _, Dp.lst (SqL.of (same_upd hp2 _ _ (sZ _ _ hp9))) (dp_nats _), Dp.lst (SqL.of h2) (dp_nats _), PySem.W.ke_shaped_ints _, PySem.W.ke_shaped_ints _, false, by rw [ev2]; rfl, iteF ?_⟩
          exact ⟨_, _, _, _, _, _, rfl, (sX.trans s9).trans (sZ.trans (same_upd hp2))⟩
      · rintro σ H' ⟨v4, v5, v8, v9, v10, v11, rfl, s6⟩
        have at6 := at4.same s6
        obtain ⟨d6, t6, ts6, hx6, ht6, hp6⟩ := id at6
        refine ⟨_, rfl, x, d6, _, rfl, hx6, tf_free _ _, Nat.zero_le _, fun p hp => ?_⟩
        exact ⟨x, p, N, es, [], rfl, at6.same (same_upd hp), upd_same, N2, hb, fun k hk => (by cases hk), List.nodup_nil, Nat.zero_le _, fun H7 s9 => ⟨_, _, rfl, rfl, k _⟩⟩
end
theorem all_mk {l : PySem.W.OpenLaw} {w : World} {K : PySem.W.Frag} {h : Heap} {mg : Str → Option Value} {fa f_is_number f_is_within f_check_thing f_check_set f_check_ground f_is_tie f__law_cell_at f__law_draw f__law_no_ring f_law f_Threads___init__ f_Threads_many f_Threads_free C_Threads C_Rule : Addr}
    {od_is_number an_is_number : Option Addr} {sl_is_number : Array (Option Value)} {oc_is_number kV_is_number dc_is_number pm_is_number cd_is_number ct_is_number : Value}
    {od_is_within an_is_within : Option Addr} {sl_is_within : Array (Option Value)} {oc_is_within kV_is_within dc_is_within pm_is_within cd_is_within ct_is_within : Value}
    {od_check_thing an_check_thing : Option Addr} {sl_check_thing : Array (Option Value)} {oc_check_thing kV_check_thing dc_check_thing pm_check_thing cd_check_thing ct_check_thing : Value}
    {od_check_set an_check_set : Option Addr} {sl_check_set : Array (Option Value)} {oc_check_set kV_check_set dc_check_set pm_check_set cd_check_set ct_check_set : Value}
    {od_check_ground an_check_ground : Option Addr} {sl_check_ground : Array (Option Value)} {oc_check_ground kV_check_ground dc_check_ground pm_check_ground cd_check_ground ct_check_ground : Value}
    {od_is_tie an_is_tie : Option Addr} {sl_is_tie : Array (Option Value)} {oc_is_tie kV_is_tie dc_is_tie pm_is_tie cd_is_tie ct_is_tie : Value}
    {od__law_cell_at an__law_cell_at : Option Addr} {sl__law_cell_at : Array (Option Value)} {oc__law_cell_at kV__law_cell_at dc__law_cell_at pm__law_cell_at cd__law_cell_at ct__law_cell_at : Value}
    {od__law_draw an__law_draw : Option Addr} {sl__law_draw : Array (Option Value)} {oc__law_draw kV__law_draw dc__law_draw pm__law_draw cd__law_draw ct__law_draw : Value}
    {od__law_no_ring an__law_no_ring : Option Addr} {sl__law_no_ring : Array (Option Value)} {oc__law_no_ring kV__law_no_ring dc__law_no_ring pm__law_no_ring cd__law_no_ring ct__law_no_ring : Value}
    {od_law an_law : Option Addr} {sl_law : Array (Option Value)} {oc_law kV_law dc_law pm_law cd_law ct_law : Value}
    {od_Threads___init__ an_Threads___init__ : Option Addr} {sl_Threads___init__ : Array (Option Value)} {oc_Threads___init__ kV_Threads___init__ dc_Threads___init__ pm_Threads___init__ cd_Threads___init__ ct_Threads___init__ : Value}
    {od_Threads_many an_Threads_many : Option Addr} {sl_Threads_many : Array (Option Value)} {oc_Threads_many kV_Threads_many dc_Threads_many pm_Threads_many cd_Threads_many ct_Threads_many : Value}
    {od_Threads_free an_Threads_free : Option Addr} {sl_Threads_free : Array (Option Value)} {oc_Threads_free kV_Threads_free dc_Threads_free pm_Threads_free cd_Threads_free ct_Threads_free : Value}
    {t_MOST_THINGS : Tok}
    {t_MOST_PLACES : Tok} (X : K.In h) (G : h.Ns mainGlobals mg) (hfa : mg "law" = some (.ref fa))
    (aC_Threads : PySem.W.nsIn K mainGlobals "Threads" = some (some (.ref C_Threads)))
    (aC_Rule : PySem.W.nsIn K mainGlobals "Rule" = some (some (.ref C_Rule)))
    (a_is_number : PySem.W.nsIn K mainGlobals "is_number" = some (some (.ref f_is_number)))
    (l_is_number : K.lookup f_is_number = some ⟨oc_is_number, od_is_number, .func (PySem.W.fnOf "is_number" "is_number" (defArgs s_is_number) (defBody s_is_number) (defScope s_is_number) .none kV_is_number dc_is_number pm_is_number an_is_number cd_is_number ct_is_number), sl_is_number⟩)
    (c_is_number : PySem.W.codeIn K cd_is_number "is_number" = true)
    (k_is_number : PySem.W.keepIn K (.ref f_is_number) = true)
    (a_is_within : PySem.W.nsIn K mainGlobals "is_within" = some (some (.ref f_is_within)))
    (l_is_within : K.lookup f_is_within = some ⟨oc_is_within, od_is_within, .func (PySem.W.fnOf "is_within" "is_within" (defArgs s_is_within) (defBody s_is_within) (defScope s_is_within) .none kV_is_within dc_is_within pm_is_within an_is_within cd_is_within ct_is_within), sl_is_within⟩)
    (c_is_within : PySem.W.codeIn K cd_is_within "is_within" = true)
    (k_is_within : PySem.W.keepIn K (.ref f_is_within) = true)
    (a_check_thing : PySem.W.nsIn K mainGlobals "check_thing" = some (some (.ref f_check_thing)))
    (l_check_thing : K.lookup f_check_thing = some ⟨oc_check_thing, od_check_thing, .func (PySem.W.fnOf "check_thing" "check_thing" (defArgs s_check_thing) (defBody s_check_thing) (defScope s_check_thing) .none kV_check_thing dc_check_thing pm_check_thing an_check_thing cd_check_thing ct_check_thing), sl_check_thing⟩)
    (c_check_thing : PySem.W.codeIn K cd_check_thing "check_thing" = true)
    (k_check_thing : PySem.W.keepIn K (.ref f_check_thing) = true)
    (a_check_set : PySem.W.nsIn K mainGlobals "check_set" = some (some (.ref f_check_set)))
    (l_check_set : K.lookup f_check_set = some ⟨oc_check_set, od_check_set, .func (PySem.W.fnOf "check_set" "check_set" (defArgs s_check_set) (defBody s_check_set) (defScope s_check_set) .none kV_check_set dc_check_set pm_check_set an_check_set cd_check_set ct_check_set), sl_check_set⟩)
    (c_check_set : PySem.W.codeIn K cd_check_set "check_set" = true)
    (k_check_set : PySem.W.keepIn K (.ref f_check_set) = true)
    (a_check_ground : PySem.W.nsIn K mainGlobals "check_ground" = some (some (.ref f_check_ground)))
    (l_check_ground : K.lookup f_check_ground = some ⟨oc_check_ground, od_check_ground, .func (PySem.W.fnOf "check_ground" "check_ground" (defArgs s_check_ground) (defBody s_check_ground) (defScope s_check_ground) .none kV_check_ground dc_check_ground pm_check_ground an_check_ground cd_check_ground ct_check_ground), sl_check_ground⟩)
    (c_check_ground : PySem.W.codeIn K cd_check_ground "check_ground" = true)
    (k_check_ground : PySem.W.keepIn K (.ref f_check_ground) = true)
    (a_is_tie : PySem.W.nsIn K mainGlobals "is_tie" = some (some (.ref f_is_tie)))
    (l_is_tie : K.lookup f_is_tie = some ⟨oc_is_tie, od_is_tie, .func (PySem.W.fnOf "is_tie" "is_tie" (defArgs s_is_tie) (defBody s_is_tie) (defScope s_is_tie) .none kV_is_tie dc_is_tie pm_is_tie an_is_tie cd_is_tie ct_is_tie), sl_is_tie⟩)
    (c_is_tie : PySem.W.codeIn K cd_is_tie "is_tie" = true)
    (k_is_tie : PySem.W.keepIn K (.ref f_is_tie) = true)
    (a__law_cell_at : PySem.W.nsIn K mainGlobals "_law_cell_at" = some (some (.ref f__law_cell_at)))
    (l__law_cell_at : K.lookup f__law_cell_at = some ⟨oc__law_cell_at, od__law_cell_at, .func (PySem.W.fnOf "_law_cell_at" "_law_cell_at" (defArgs s__law_cell_at) (defBody s__law_cell_at) (defScope s__law_cell_at) .none kV__law_cell_at dc__law_cell_at pm__law_cell_at an__law_cell_at cd__law_cell_at ct__law_cell_at), sl__law_cell_at⟩)
    (c__law_cell_at : PySem.W.codeIn K cd__law_cell_at "_law_cell_at" = true)
    (k__law_cell_at : PySem.W.keepIn K (.ref f__law_cell_at) = true)
    (a__law_draw : PySem.W.nsIn K mainGlobals "_law_draw" = some (some (.ref f__law_draw)))
    (l__law_draw : K.lookup f__law_draw = some ⟨oc__law_draw, od__law_draw, .func (PySem.W.fnOf "_law_draw" "_law_draw" (defArgs s__law_draw) (defBody s__law_draw) (defScope s__law_draw) .none kV__law_draw dc__law_draw pm__law_draw an__law_draw cd__law_draw ct__law_draw), sl__law_draw⟩)
    (c__law_draw : PySem.W.codeIn K cd__law_draw "_law_draw" = true)
    (k__law_draw : PySem.W.keepIn K (.ref f__law_draw) = true)
    (a__law_no_ring : PySem.W.nsIn K mainGlobals "_law_no_ring" = some (some (.ref f__law_no_ring)))
    (l__law_no_ring : K.lookup f__law_no_ring = some ⟨oc__law_no_ring, od__law_no_ring, .func (PySem.W.fnOf "_law_no_ring" "_law_no_ring" (defArgs s__law_no_ring) (defBody s__law_no_ring) (defScope s__law_no_ring) .none kV__law_no_ring dc__law_no_ring pm__law_no_ring an__law_no_ring cd__law_no_ring ct__law_no_ring), sl__law_no_ring⟩)
    (c__law_no_ring : PySem.W.codeIn K cd__law_no_ring "_law_no_ring" = true)
    (k__law_no_ring : PySem.W.keepIn K (.ref f__law_no_ring) = true)
    (a_law : PySem.W.nsIn K mainGlobals "law" = some (some (.ref f_law)))
    (l_law : K.lookup f_law = some ⟨oc_law, od_law, .func (PySem.W.fnOf "law" "law" (defArgs s_law) (defBody s_law) (defScope s_law) .none kV_law dc_law pm_law an_law cd_law ct_law), sl_law⟩)
    (c_law : PySem.W.codeIn K cd_law "law" = true)
    (k_law : PySem.W.keepIn K (.ref f_law) = true)
    (a_Threads___init__ : PySem.W.findIn K (.ref C_Threads) "__init__" = some (some (.ref f_Threads___init__)))
    (i_Threads___init__ : PySem.W.isFn K (.ref f_Threads___init__) = true)
    (l_Threads___init__ : K.lookup f_Threads___init__ = some ⟨oc_Threads___init__, od_Threads___init__, .func (PySem.W.fnOf "__init__" "Threads.__init__" (defArgs s_Threads___init__) (defBody s_Threads___init__) (defScope s_Threads___init__) .none kV_Threads___init__ dc_Threads___init__ pm_Threads___init__ an_Threads___init__ cd_Threads___init__ ct_Threads___init__), sl_Threads___init__⟩)
    (c_Threads___init__ : PySem.W.codeIn K cd_Threads___init__ "Threads.__init__" = true)
    (k_Threads___init__ : PySem.W.keepIn K (.ref f_Threads___init__) = true)
    (a_Threads_many : PySem.W.findIn K (.ref C_Threads) "many" = some (some (.ref f_Threads_many)))
    (i_Threads_many : PySem.W.isFn K (.ref f_Threads_many) = true)
    (l_Threads_many : K.lookup f_Threads_many = some ⟨oc_Threads_many, od_Threads_many, .func (PySem.W.fnOf "many" "Threads.many" (defArgs s_Threads_many) (defBody s_Threads_many) (defScope s_Threads_many) .none kV_Threads_many dc_Threads_many pm_Threads_many an_Threads_many cd_Threads_many ct_Threads_many), sl_Threads_many⟩)
    (c_Threads_many : PySem.W.codeIn K cd_Threads_many "Threads.many" = true)
    (k_Threads_many : PySem.W.keepIn K (.ref f_Threads_many) = true)
    (a_Threads_free : PySem.W.findIn K (.ref C_Threads) "free" = some (some (.ref f_Threads_free)))
    (i_Threads_free : PySem.W.isFn K (.ref f_Threads_free) = true)
    (l_Threads_free : K.lookup f_Threads_free = some ⟨oc_Threads_free, od_Threads_free, .func (PySem.W.fnOf "free" "Threads.free" (defArgs s_Threads_free) (defBody s_Threads_free) (defScope s_Threads_free) .none kV_Threads_free dc_Threads_free pm_Threads_free an_Threads_free cd_Threads_free ct_Threads_free), sl_Threads_free⟩)
    (c_Threads_free : PySem.W.codeIn K cd_Threads_free "Threads.free" = true)
    (k_Threads_free : PySem.W.keepIn K (.ref f_Threads_free) = true)
    (pg_Threads : PySem.W.plainGet K C_Threads Str.empty = true)
    (hd_Threads : PySem.W.hasDictIn K C_Threads = true)
    (po_Threads : PySem.W.plainOver K C_Threads = true)
    (sa_Threads : PySem.W.findIn K (.ref C_Threads) "__setattr__" = some (some (.builtin "object.__setattr__")))
    (mk_Threads : PySem.W.makesIn K C_Threads = true)
    (kc_Threads : PySem.W.keepIn K (.ref C_Threads) = true)
    (n_Threads_places : PySem.W.findIn K (.ref C_Threads) "places" = some none)
    (n_Threads_ties : PySem.W.findIn K (.ref C_Threads) "ties" = some none)
    (ha_Threads : PySem.W.findIn K (.ref C_Threads) "__class__" = some (some (.builtin "object.__class__")))
    (hn_Threads : PySem.W.specialIn K (.builtin "object.__class__") "__get__" = some (some (.builtin "getset_descriptor.__get__")))
    (ht_Threads : PySem.W.takesIn K (.builtin "object.__class__") = some true)
    (hm_Threads : PySem.W.mroIn K C_Threads (.type "object") = some true)
    (ua_Threads : PySem.W.isClsIn K C_Rule = true)
    (ub_Threads : PySem.W.typeIn K (.ref C_Rule) = some (.type "type"))
    (uc_Threads : PySem.W.subIn K (.ref C_Threads) (.ref C_Rule) = some true)
    (v_MOST_THINGS : PySem.W.nsIn K mainGlobals "MOST_THINGS" = some (some (.int 16 t_MOST_THINGS)))
    (v_MOST_PLACES : PySem.W.nsIn K mainGlobals "MOST_PLACES" = some (some (.int 20 t_MOST_PLACES)))
    (z_isinstance : PySem.W.nsIn K mainGlobals "isinstance" = some none)
    (z_int : PySem.W.nsIn K mainGlobals "int" = some none)
    (z_bool : PySem.W.nsIn K mainGlobals "bool" = some none)
    (z_list : PySem.W.nsIn K mainGlobals "list" = some none)
    (z_tuple : PySem.W.nsIn K mainGlobals "tuple" = some none)
    (z_len : PySem.W.nsIn K mainGlobals "len" = some none)
    (z_all : PySem.W.nsIn K mainGlobals "all" = some none)
    (z_range : PySem.W.nsIn K mainGlobals "range" = some none)
    (z_min : PySem.W.nsIn K mainGlobals "min" = some none)
    (z_sorted : PySem.W.nsIn K mainGlobals "sorted" = some none)
    (z_set : PySem.W.nsIn K mainGlobals "set" = some none)
    : ∃ fd : FuncData, (∀ (s : Shared) (v : Value), BindsTo s fd ⟨[v], []⟩ [("_law_script", v)]) ∧ ∀ base : Heap, K.In base → base.Ns mainGlobals mg → FnOk l.prog w K mg base CX0 6 fa fd ["_law_script"] (spLaw K) := by
  have e := hfa.symm.trans (PySem.W.mg_of X G a_law)
  cases e
  have F_is_number := fun_mk (st := s_is_number) l_is_number c_is_number k_is_number
  have g_is_number := PySem.W.mg_of X G a_is_number
  have F_is_within := fun_mk (st := s_is_within) l_is_within c_is_within k_is_within
  have g_is_within := PySem.W.mg_of X G a_is_within
  have F_check_thing := fun_mk (st := s_check_thing) l_check_thing c_check_thing k_check_thing
  have g_check_thing := PySem.W.mg_of X G a_check_thing
  have F_check_set := fun_mk (st := s_check_set) l_check_set c_check_set k_check_set
  have g_check_set := PySem.W.mg_of X G a_check_set
  have F_check_ground := fun_mk (st := s_check_ground) l_check_ground c_check_ground k_check_ground
  have g_check_ground := PySem.W.mg_of X G a_check_ground
  have F_is_tie := fun_mk (st := s_is_tie) l_is_tie c_is_tie k_is_tie
  have g_is_tie := PySem.W.mg_of X G a_is_tie
  have F__law_cell_at := fun_mk (st := s__law_cell_at) l__law_cell_at c__law_cell_at k__law_cell_at
  have g__law_cell_at := PySem.W.mg_of X G a__law_cell_at
  have F__law_draw := fun_mk (st := s__law_draw) l__law_draw c__law_draw k__law_draw
  have g__law_draw := PySem.W.mg_of X G a__law_draw
  have F__law_no_ring := fun_mk (st := s__law_no_ring) l__law_no_ring c__law_no_ring k__law_no_ring
  have g__law_no_ring := PySem.W.mg_of X G a__law_no_ring
  have F_law := fun_mk (st := s_law) l_law c_law k_law
  have g_law := PySem.W.mg_of X G a_law
  have F_Threads___init__ := fun_mk (st := s_Threads___init__) l_Threads___init__ c_Threads___init__ k_Threads___init__
  have M_Threads___init__ : Meth K C_Threads "__init__" f_Threads___init__ := ⟨a_Threads___init__, i_Threads___init__, k_Threads___init__⟩
  have F_Threads_many := fun_mk (st := s_Threads_many) l_Threads_many c_Threads_many k_Threads_many
  have M_Threads_many : Meth K C_Threads "many" f_Threads_many := ⟨a_Threads_many, i_Threads_many, k_Threads_many⟩
  have F_Threads_free := fun_mk (st := s_Threads_free) l_Threads_free c_Threads_free k_Threads_free
  have M_Threads_free : Meth K C_Threads "free" f_Threads_free := ⟨a_Threads_free, i_Threads_free, k_Threads_free⟩
  have gC_Threads := PySem.W.mg_of X G aC_Threads
  have o_Threads : Own mg "Threads" C_Threads := ⟨_, gC_Threads, rfl⟩
  have gC_Rule := PySem.W.mg_of X G aC_Rule
  have o_Rule : Own mg "Rule" C_Rule := ⟨_, gC_Rule, rfl⟩
  have cl_Threads : Cls K C_Threads := ⟨pg_Threads, hd_Threads, po_Threads, sa_Threads⟩
  have I_Threads : Isi K C_Threads C_Rule := ⟨ha_Threads, hn_Threads, ht_Threads, hm_Threads, kit_up ua_Threads ub_Threads uc_Threads⟩
  have N_MOST_THINGS : Num mg "MOST_THINGS" 16 := ⟨_, PySem.W.mg_of X G v_MOST_THINGS, ⟨_, rfl⟩⟩
  have N_MOST_PLACES : Num mg "MOST_PLACES" 20 := ⟨_, PySem.W.mg_of X G v_MOST_PLACES, ⟨_, rfl⟩⟩
  have B_isinstance := PySem.W.mg_none_of X G z_isinstance
  have B_int := PySem.W.mg_none_of X G z_int
  have B_bool := PySem.W.mg_none_of X G z_bool
  have B_list := PySem.W.mg_none_of X G z_list
  have B_tuple := PySem.W.mg_none_of X G z_tuple
  have B_len := PySem.W.mg_none_of X G z_len
  have B_all := PySem.W.mg_none_of X G z_all
  have B_range := PySem.W.mg_none_of X G z_range
  have B_min := PySem.W.mg_none_of X G z_min
  have B_sorted := PySem.W.mg_none_of X G z_sorted
  have B_set := PySem.W.mg_none_of X G z_set
  refine ⟨PySem.W.fnOf "law" "law" (defArgs s_law) (defBody s_law) (defScope s_law) .none kV_law dc_law pm_law an_law cd_law ct_law, fun s v => .of_eq rfl, fun base _ _ => ?_⟩
  have B : Bl mg := ⟨B_isinstance, B_int, B_bool, B_list, B_tuple, B_len, B_all, B_range, B_min, B_sorted, B_set⟩
  have GT : Gt K mg C_Threads := ⟨cl_Threads, n_Threads_places, n_Threads_ties, N_MOST_PLACES⟩
  have r1 := ok_num (P := l.prog) (w := w) (base := base) B F_is_number g_is_number
  have r2 := ok_within F_is_within g_is_within r1
  have r3 := ok_thing F_check_thing g_check_thing r2
  have r4 := ok_set B F_check_set g_check_set r3
  have r5 := ok_ground (P := l.prog) (w := w) (base := base) B ⟨N_MOST_THINGS⟩ F_check_ground g_check_ground
  have r6 := ok_tie B F_is_tie g_is_tie r2
  have q1 := ok_init B GT F_Threads___init__ ⟨mk_Threads, a_Threads___init__, i_Threads___init__, kc_Threads⟩ gC_Threads r2 r5 r6
  have q2 := ok_many (P := l.prog) (w := w) (base := base) B GT F_Threads_many M_Threads_many
  have q3 := ok_free B GT F_Threads_free M_Threads_free q2 r4
  have l1 := ok_cellAt (P := l.prog) (w := w) (base := base) B F__law_cell_at g__law_cell_at
  have l2 := ok_draw (P := l.prog) (w := w) (base := base) F__law_draw g__law_draw
  have l3 := ok_ring (P := l.prog) (w := w) (base := base) B F__law_no_ring g__law_no_ring
  exact ok_law B ⟨o_Rule⟩ GT I_Threads F_law l1 l2 l3 q1 q2 q3
theorem walk {l : PySem.W.OpenLaw} {q : Program} {loose : List Str} {XP : (Str → Option Value) → Heap → Prop} {YP : World → Heap → Prop} {d : DefRec} {K : Params → PySem.W.Frag} (hn : l.most = some 63) (hdf : d.params.defaults = [])
    (hY : ∀ (w : World) (h : Heap), YP w h → (K w.params).In h)
    (F : ∀ (w : World) (mg : Str → Option Value) (fa : Addr) (h : Heap), (K w.params).In h → h.Ns mainGlobals mg → mg d.name = some (.ref fa) →
      ∃ fd : FuncData, (∀ (s : Shared) (u : Value), BindsTo s fd ⟨[u], []⟩ [("_law_script", u)]) ∧ ∀ base : Heap, (K w.params).In base → base.Ns mainGlobals mg → FnOk l.prog w (K w.params) mg base CX0 6 fa fd ["_law_script"] (spLaw (K w.params))) :
    PySem.W.WalkO q loose XP YP l.row.toRowW d [] (fun f vs => PySem.call f vs) :=
  L2.walk_of (n := 63) (k := 6) (x := "_law_script") (CX := fun _ => CX0) (sp := fun w => spLaw (K w.params)) hn (by decide) hdf ⟨rfl, by decide, by decide⟩ hY F (fun _ _ a ns hl _ hS => ⟨a, ns, rfl, hS, hl, fun _ => rfl⟩) fun _ _ _ _ _ z => z
end Fs
open PySem PySem.W PyProof.Rows in
set_option maxRecDepth 100000 in
set_option maxHeartbeats 0 in
theorem PySem.Challenge.cw_freesets_k01_threads_holds : PySem.Challenge.rw_freesets_k01_threads.Holds := by
  w_on; o_law; k_head; (case hw => w_witness2)
  k_fill
  refine Fs.walk (l := PySem.Challenge.rw_freesets_k01_threads) rfl rfl (fun w h Y => PySem.W.kIn_of Y) ?F
  case F =>
    intro w mg fa h KX G hmg
    refine' Fs.all_mk KX G hmg ?aC_Threads ?aC_Rule ?a_is_number ?l_is_number ?c_is_number ?k_is_number ?a_is_within ?l_is_within ?c_is_within ?k_is_within ?a_check_thing ?l_check_thing ?c_check_thing ?k_check_thing ?a_check_set ?l_check_set ?c_check_set ?k_check_set ?a_check_ground ?l_check_ground ?c_check_ground ?k_check_ground ?a_is_tie ?l_is_tie ?c_is_tie ?k_is_tie ?a__law_cell_at ?l__law_cell_at ?c__law_cell_at ?k__law_cell_at ?a__law_draw ?l__law_draw ?c__law_draw ?k__law_draw ?a__law_no_ring ?l__law_no_ring ?c__law_no_ring ?k__law_no_ring ?a_law ?l_law ?c_law ?k_law ?a_Threads___init__ ?i_Threads___init__ ?l_Threads___init__ ?c_Threads___init__ ?k_Threads___init__ ?a_Threads_many ?i_Threads_many ?l_Threads_many ?c_Threads_many ?k_Threads_many ?a_Threads_free ?i_Threads_free ?l_Threads_free ?c_Threads_free ?k_Threads_free ?pg_Threads ?hd_Threads ?po_Threads ?sa_Threads ?mk_Threads ?kc_Threads ?n_Threads_places ?n_Threads_ties ?ha_Threads ?hn_Threads ?ht_Threads ?hm_Threads ?ua_Threads ?ub_Threads ?uc_Threads ?v_MOST_THINGS ?v_MOST_PLACES ?z_isinstance ?z_int ?z_bool ?z_list ?z_tuple ?z_len ?z_all ?z_range ?z_min ?z_sorted ?z_set
    (case aC_Threads => k_is)
    (case aC_Rule => k_is)
    (case a_is_number => k_is)
    (case l_is_number => k_is)
    (case c_is_number => k_is)
    (case k_is_number => k_is)
    (case a_is_within => k_is)
    (case l_is_within => k_is)
    (case c_is_within => k_is)
    (case k_is_within => k_is)
    (case a_check_thing => k_is)
    (case l_check_thing => k_is)
    (case c_check_thing => k_is)
    (case k_check_thing => k_is)
    (case a_check_set => k_is)
    (case l_check_set => k_is)
    (case c_check_set => k_is)
    (case k_check_set => k_is)
    (case a_check_ground => k_is)
    (case l_check_ground => k_is)
    (case c_check_ground => k_is)
    (case k_check_ground => k_is)
    (case a_is_tie => k_is)
    (case l_is_tie => k_is)
    (case c_is_tie => k_is)
    (case k_is_tie => k_is)
    (case a__law_cell_at => k_is)
    (case l__law_cell_at => k_is)
    (case c__law_cell_at => k_is)
    (case k__law_cell_at => k_is)
    (case a__law_draw => k_is)
    (case l__law_draw => k_is)
    (case c__law_draw => k_is)
    (case k__law_draw => k_is)
    (case a__law_no_ring => k_is)
    (case l__law_no_ring => k_is)
    (case c__law_no_ring => k_is)
    (case k__law_no_ring => k_is)
    (case a_law => k_is)
    (case l_law => k_is)
    (case c_law => k_is)
    (case k_law => k_is)
    (case a_Threads___init__ => k_is)
    (case i_Threads___init__ => k_is)
    (case l_Threads___init__ => k_is)
    (case c_Threads___init__ => k_is)
    (case k_Threads___init__ => k_is)
    (case a_Threads_many => k_is)
    (case i_Threads_many => k_is)
    (case l_Threads_many => k_is)
    (case c_Threads_many => k_is)
    (case k_Threads_many => k_is)
    (case a_Threads_free => k_is)
    (case i_Threads_free => k_is)
    (case l_Threads_free => k_is)
    (case c_Threads_free => k_is)
    (case k_Threads_free => k_is)
    (case pg_Threads => k_is)
    (case hd_Threads => k_is)
    (case po_Threads => k_is)
    (case sa_Threads => k_is)
    (case mk_Threads => k_is)
    (case kc_Threads => k_is)
    (case n_Threads_places => k_is)
    (case n_Threads_ties => k_is)
    (case ha_Threads => k_is)
    (case hn_Threads => k_is)
    (case ht_Threads => k_is)
    (case hm_Threads => k_is)
    (case ua_Threads => k_is)
    (case ub_Threads => k_is)
    (case uc_Threads => k_is)
    (case v_MOST_THINGS => k_is)
    (case v_MOST_PLACES => k_is)
    (case z_isinstance => k_is)
    (case z_int => k_is)
    (case z_bool => k_is)
    (case z_list => k_is)
    (case z_tuple => k_is)
    (case z_len => k_is)
    (case z_all => k_is)
    (case z_range => k_is)
    (case z_min => k_is)
    (case z_sorted => k_is)
    (case z_set => k_is)
