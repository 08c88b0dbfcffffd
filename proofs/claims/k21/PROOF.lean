import PyProof.Rows.All
import Wide.All
import OpenK.AllK
import Wide.FinOn
import PyProof.EqAt
import PyProof.EqKinds
import PyProof.TupleCall
import HandS.ForMost
import HandS.Codes
import HandS.IsInst
import HandS.Conv
import HandS.Style
import HandS.SetFor
import KE.KEqSeq
import HandS.Deep
import HandS.Zip
import HandS.TryOnly
import PySem.Challenge.RW_freesets_k21_whole_posts_in_a_row
set_option Elab.async false
set_option linter.all false
set_option maxRecDepth 100000
set_option maxHeartbeats 2000000
namespace BM

/-- bit h decides, all higher bits alike -/
theorem lt_of_bit {a b h : Nat} (e : a >>> (h + 1) = b >>> (h + 1)) (ha : a.testBit h = false) (hb : b.testBit h = true) : a < b := by
  rw [Nat.shiftRight_eq_div_pow, Nat.shiftRight_eq_div_pow, Nat.pow_succ, ← Nat.div_div_eq_div_mul, ← Nat.div_div_eq_div_mul] at e
  rw [Nat.testBit_eq_decide_div_mod_eq] at ha hb
  have ha' := of_decide_eq_false ha
  have hb' := of_decide_eq_true hb
  have lt : a / 2 ^ h < b / 2 ^ h := by omega
  exact Nat.lt_of_not_le fun le => Nat.lt_irrefl _ (Nat.lt_of_lt_of_le lt (Nat.div_le_div_right le))

def top (t : Nat) : Nat := t.log2

theorem high {r t : Nat} : (r ^^^ t) >>> (top t + 1) = r >>> (top t + 1) := by
  rw [Nat.shiftRight_xor_distrib]
  have : t >>> (top t + 1) = 0 := by
    rw [Nat.shiftRight_eq_div_pow]
    exact Nat.div_eq_of_lt Nat.lt_log2_self
  rw [this, Nat.xor_zero]

theorem xor_top {r t : Nat} (h : t ≠ 0) : (r ^^^ t).testBit (top t) = !(r.testBit (top t)) := by
  rw [Nat.testBit_xor, show t.testBit (top t) = true from Nat.testBit_log2 h]
  cases r.testBit (top t) <;> rfl

theorem lt_iff {r t : Nat} (h : t ≠ 0) : r ^^^ t < r ↔ r.testBit (top t) = true := by
  constructor
  · intro lt
    cases e : r.testBit (top t) with
    | true => rfl
    | false =>
      have : r < r ^^^ t := lt_of_bit high.symm e (by rw [xor_top h, e]; rfl)
      omega
  · intro e
    exact lt_of_bit high (by rw [xor_top h, e]; rfl) e

/-- one step of the lessening -/
def less1 (r t : Nat) : Nat := if r ^^^ t < r then r ^^^ t else r
def less (r : Nat) (ts : List Nat) : Nat := ts.foldl less1 r

theorem less1_top {r t : Nat} (h : t ≠ 0) : (less1 r t).testBit (top t) = false := by
  unfold less1
  by_cases c : r ^^^ t < r
  · rw [if_pos c, xor_top h, (lt_iff h).mp c]; rfl
  · rw [if_neg c]
    cases e : r.testBit (top t) with
    | false => rfl
    | true => exact absurd ((lt_iff h).mpr e) c

/-- the sums of some of them -/
def Spn : List Nat → Nat → Prop
  | [], v => v = 0
  | x :: xs, v => Spn xs v ∨ Spn xs (v ^^^ x)

theorem xx (a b : Nat) : a ^^^ b ^^^ b = a := by rw [Nat.xor_assoc, Nat.xor_self, Nat.xor_zero]
theorem sw (a b c : Nat) : a ^^^ b ^^^ c = a ^^^ c ^^^ b := by rw [Nat.xor_assoc, Nat.xor_comm b c, ← Nat.xor_assoc]

theorem Spn.zero : ∀ xs, Spn xs 0
  | [] => rfl
  | _ :: xs => .inl (Spn.zero xs)

theorem Spn.add : ∀ {xs : List Nat} {u v : Nat}, Spn xs u → Spn xs v → Spn xs (u ^^^ v)
  | [], u, v, hu, hv => by
    have hu : u = 0 := hu
    have hv : v = 0 := hv
    subst hu hv
    rfl
  | x :: xs, u, v, hu, hv => by
    rcases hu with hu | hu <;> rcases hv with hv | hv
    · exact .inl (hu.add hv)
    · refine .inr ?_
      rw [Nat.xor_assoc]
      exact hu.add hv
    · refine .inr ?_
      rw [sw]
      exact hu.add hv
    · refine .inl ?_
      have := hu.add hv
      rw [← Nat.xor_assoc, sw u x v, xx] at this
      exact this

theorem Spn.cons {x : Nat} {xs : List Nat} {v : Nat} (h : Spn xs v) : Spn (x :: xs) v := .inl h
theorem Spn.head {x : Nat} {xs : List Nat} : Spn (x :: xs) x := .inr (by rw [Nat.xor_self]; exact Spn.zero _)
theorem Spn.mem {t : Nat} : ∀ {xs : List Nat}, t ∈ xs → Spn xs t
  | _ :: xs, h => by
    rcases List.mem_cons.mp h with e | e
    · subst e; exact .head
    · exact (Spn.mem e).cons
theorem Spn.iff_of {xs : List Nat} {u v : Nat} (h : Spn xs u) : Spn xs (v ^^^ u) ↔ Spn xs v := by
  constructor
  · intro k
    have := k.add h
    rw [xx] at this
    exact this
  · intro k
    exact k.add h

theorem Spn.perm {xs ys : List Nat} (p : xs.Perm ys) : ∀ v, Spn xs v ↔ Spn ys v := by
  induction p with
  | nil => exact fun v => Iff.rfl
  | cons x _ ih => exact fun v => or_congr (ih _) (ih _)
  | swap x y l =>
    intro v
    show ((Spn l v ∨ Spn l (v ^^^ x)) ∨ (Spn l (v ^^^ y) ∨ Spn l (v ^^^ y ^^^ x))) ↔ ((Spn l v ∨ Spn l (v ^^^ y)) ∨ (Spn l (v ^^^ x) ∨ Spn l (v ^^^ x ^^^ y)))
    rw [sw v y x]
    constructor
    · rintro ((h | h) | (h | h))
      · exact .inl (.inl h)
      · exact .inr (.inl h)
      · exact .inl (.inr h)
      · exact .inr (.inr h)
    · rintro ((h | h) | (h | h))
      · exact .inl (.inl h)
      · exact .inr (.inl h)
      · exact .inl (.inr h)
      · exact .inr (.inr h)
  | trans _ _ h1 h2 => exact fun v => (h1 v).trans (h2 v)

/-- none is a sum of those behind it -/
def Ind : List Nat → Prop
  | [] => True
  | x :: xs => ¬ Spn xs x ∧ Ind xs

theorem Ind.perm {xs ys : List Nat} (p : xs.Perm ys) : Ind xs ↔ Ind ys := by
  induction p with
  | nil => exact Iff.rfl
  | cons x q ih => exact and_congr (not_congr (Spn.perm q x)) ih
  | swap x y l =>
    show (¬ (Spn l y ∨ Spn l (y ^^^ x)) ∧ ¬ Spn l x ∧ Ind l) ↔ (¬ (Spn l x ∨ Spn l (x ^^^ y)) ∧ ¬ Spn l y ∧ Ind l)
    rw [Nat.xor_comm y x, not_or, not_or]
    constructor
    · rintro ⟨⟨a, b⟩, c, d⟩
      exact ⟨⟨c, b⟩, a, d⟩
    · rintro ⟨⟨a, b⟩, c, d⟩
      exact ⟨⟨c, b⟩, a, d⟩
  | trans _ _ h1 h2 => exact h1.trans h2

/-! the taken rows -/
/-- all are not 0, and a later one has not the highest bit of an earlier one -/
def Good (ts : List Nat) : Prop := (∀ t ∈ ts, t ≠ 0) ∧ ts.Pairwise (fun a b => b.testBit (top a) = false)

theorem less_span : ∀ (ts : List Nat) (r : Nat), Spn ts (r ^^^ less r ts)
  | [], r => by show r ^^^ r = 0; exact Nat.xor_self _
  | t :: ts, r => by
    show Spn (t :: ts) (r ^^^ less (less1 r t) ts)
    have ih := less_span ts (less1 r t)
    unfold less1 at ih ⊢
    by_cases c : r ^^^ t < r
    · rw [if_pos c] at ih ⊢
      refine .inr ?_
      rw [sw]
      exact ih
    · rw [if_neg c] at ih ⊢
      exact .inl ih

theorem bit_keep {r t h : Nat} (hr : r.testBit h = false) (ht : t.testBit h = false) : (less1 r t).testBit h = false := by
  unfold less1
  by_cases c : r ^^^ t < r
  · rw [if_pos c, Nat.testBit_xor, hr, ht]; rfl
  · rw [if_neg c]; exact hr
theorem bits_keep {h : Nat} : ∀ (ts : List Nat) (r : Nat), r.testBit h = false → (∀ t ∈ ts, t.testBit h = false) → (less r ts).testBit h = false
  | [], _, hr, _ => hr
  | t :: ts, r, hr, ht => bits_keep ts (less1 r t) (bit_keep hr (ht t (List.mem_cons_self ..))) fun u hu => ht u (List.mem_cons_of_mem _ hu)
theorem less_tops : ∀ (ts : List Nat) (r : Nat), Good ts → ∀ t ∈ ts, (less r ts).testBit (top t) = false
  | [], _, _, t, h => by cases h
  | u :: ts, r, ⟨nz, pw⟩, t, h => by
    have pw' := List.pairwise_cons.mp pw
    rcases List.mem_cons.mp h with e | e
    · subst e
      exact bits_keep ts _ (less1_top (nz t (List.mem_cons_self ..))) fun v hv => pw'.1 v hv
    · exact less_tops ts _ ⟨fun v hv => nz v (List.mem_cons_of_mem _ hv), pw'.2⟩ t e

theorem spn_bit {h : Nat} : ∀ {ts : List Nat} {v : Nat}, (∀ t ∈ ts, t.testBit h = false) → Spn ts v → v.testBit h = false
  | [], v, _, k => by
    have k : v = 0 := k
    rw [k, Nat.zero_testBit]
  | t :: ts, v, ht, k => by
    have ht' : ∀ u ∈ ts, u.testBit h = false := fun u hu => ht u (List.mem_cons_of_mem _ hu)
    rcases k with k | k
    · exact spn_bit ht' k
    · have := spn_bit ht' k
      rw [Nat.testBit_xor, ht t (List.mem_cons_self ..)] at this
      simpa using this
theorem spn_zero : ∀ {ts : List Nat} {v : Nat}, Good ts → Spn ts v → (∀ t ∈ ts, v.testBit (top t) = false) → v = 0
  | [], _, _, k, _ => k
  | t :: ts, v, ⟨nz, pw⟩, k, hv => by
    have pw' := List.pairwise_cons.mp pw
    have G : Good ts := ⟨fun v hv => nz v (List.mem_cons_of_mem _ hv), pw'.2⟩
    have hv' : ∀ u ∈ ts, v.testBit (top u) = false := fun u hu => hv u (List.mem_cons_of_mem _ hu)
    rcases k with k | k
    · exact spn_zero G k hv'
    · have b := spn_bit pw'.1 k
      rw [xor_top (nz t (List.mem_cons_self ..)), hv t (List.mem_cons_self ..)] at b
      cases b

theorem less_zero {ts : List Nat} {r : Nat} (G : Good ts) : less r ts = 0 ↔ Spn ts r := by
  constructor
  · intro e
    have := less_span ts r
    rw [e, Nat.xor_zero] at this
    exact this
  · intro k
    have : Spn ts (less r ts) := by
      have := (less_span ts r).add k
      rw [sw, Nat.xor_self, Nat.zero_xor] at this
      exact this
    exact spn_zero G this (less_tops ts r G)

theorem Good.snoc {ts : List Nat} {r : Nat} (G : Good ts) (h : less r ts ≠ 0) : Good (ts ++ [less r ts]) := by
  refine ⟨fun t ht => ?_, ?_⟩
  · rcases List.mem_append.mp ht with e | e
    · exact G.1 t e
    · rw [List.mem_singleton.mp e]; exact h
  · rw [List.pairwise_append]
    refine ⟨G.2, List.pairwise_singleton _ _, fun a ha b hb => ?_⟩
    rw [List.mem_singleton.mp hb]
    exact less_tops ts r G a ha

theorem spn_snoc {ts : List Nat} {y v : Nat} : Spn (ts ++ [y]) v ↔ Spn (y :: ts) v := Spn.perm (by simp) v

theorem spn_less {ts : List Nat} {r v : Nat} : Spn (less r ts :: ts) v ↔ Spn (r :: ts) v := by
  show (Spn ts v ∨ Spn ts (v ^^^ less r ts)) ↔ (Spn ts v ∨ Spn ts (v ^^^ r))
  have s := less_span ts r
  have e1 : v ^^^ r = v ^^^ less r ts ^^^ (r ^^^ less r ts) := by
    rw [← Nat.xor_assoc, sw v (less r ts) r, xx]
  rw [e1, s.iff_of]

/-- the program's walk: taken so far, the rows to come -/
def freeF : List Nat → List Nat → Bool
  | _, [] => true
  | ts, y :: ys => if less y ts = 0 then false else freeF (ts ++ [less y ts]) ys

theorem freeF_iff : ∀ (ys zs ts : List Nat), Good ts → (∀ v, Spn ts v ↔ Spn zs v) → Ind zs → (freeF ts ys = true ↔ Ind (ys.reverse ++ zs))
  | [], zs, ts, _, _, iz => by
    show (true = true) ↔ Ind zs
    exact ⟨fun _ => iz, fun _ => rfl⟩
  | y :: ys, zs, ts, G, e, iz => by
    show ((if less y ts = 0 then false else freeF (ts ++ [less y ts]) ys) = true) ↔ _
    rw [List.reverse_cons, List.append_assoc]
    by_cases c : less y ts = 0
    · rw [if_pos c]
      refine ⟨fun h => (by cases h), fun h => ?_⟩
      have : Ind (([y] ++ zs) ++ ys.reverse) := (Ind.perm List.perm_append_comm).mp h
      have sy : Spn zs y := (e y).mp ((less_zero G).mp c)
      have h2 : Ind (ys.reverse ++ ([y] ++ zs)) := h
      exact absurd sy (ind_tail h2).1
    · rw [if_neg c]
      have ny : ¬ Spn zs y := fun k => c ((less_zero G).mpr ((e y).mpr k))
      refine freeF_iff ys (y :: zs) (ts ++ [less y ts]) (G.snoc c) (fun v => ?_) ⟨ny, iz⟩
      rw [spn_snoc, spn_less]
      exact or_congr (e _) (e _)
where
  ind_tail : ∀ {as : List Nat} {y : Nat} {zs : List Nat}, Ind (as ++ ([y] ++ zs)) → Ind (y :: zs)
    | [], _, _, h => h
    | _ :: as, _, _, h => ind_tail (as := as) h.2

theorem freeF_ind (ys : List Nat) : freeF [] ys = true ↔ Ind ys.reverse := by
  have := freeF_iff ys [] [] ⟨fun t h => (by cases h), List.Pairwise.nil⟩ (fun v => Iff.rfl) True.intro
  rw [List.append_nil] at this
  exact this

/-- the law's walk: all sums so far, the rows to come -/
def bitsF : List Nat → List Nat → Bool
  | _, [] => true
  | ss, y :: ys => if 0 ∈ ss.map (· ^^^ y) then false else bitsF (ss ++ ss.map (· ^^^ y)) ys

theorem mem_map_xor {ss : List Nat} {y v : Nat} : v ∈ ss.map (· ^^^ y) ↔ (v ^^^ y) ∈ ss := by
  rw [List.mem_map]
  constructor
  · rintro ⟨a, h, rfl⟩
    rw [xx]
    exact h
  · intro h
    exact ⟨_, h, xx _ _⟩

theorem bitsF_iff : ∀ (ys zs ss : List Nat), (∀ v, v ∈ ss ↔ Spn zs v) → Ind zs → (bitsF ss ys = true ↔ Ind (ys.reverse ++ zs))
  | [], zs, ss, _, iz => by
    show (true = true) ↔ Ind zs
    exact ⟨fun _ => iz, fun _ => rfl⟩
  | y :: ys, zs, ss, e, iz => by
    show ((if 0 ∈ ss.map (· ^^^ y) then false else bitsF (ss ++ ss.map (· ^^^ y)) ys) = true) ↔ _
    rw [List.reverse_cons, List.append_assoc]
    by_cases c : 0 ∈ ss.map (· ^^^ y)
    · rw [if_pos c]
      refine ⟨fun h => (by cases h), fun h => ?_⟩
      rw [mem_map_xor, Nat.zero_xor] at c
      exact absurd ((e y).mp c) (freeF_iff.ind_tail h).1
    · rw [if_neg c]
      rw [mem_map_xor, Nat.zero_xor] at c
      refine bitsF_iff ys (y :: zs) _ (fun v => ?_) ⟨fun k => c ((e y).mpr k), iz⟩
      rw [List.mem_append, mem_map_xor]
      exact or_congr (e _) (e _)
theorem bitsF_ind (ys : List Nat) : bitsF [0] ys = true ↔ Ind ys.reverse := by
  have := bitsF_iff ys [] [0] (fun v => by rw [List.mem_singleton]; exact Iff.rfl) True.intro
  rw [List.append_nil] at this
  exact this

theorem agree (xs : List Nat) : freeF [] xs.reverse = bitsF [0] xs := by
  rw [Bool.eq_iff_iff, freeF_ind, bitsF_ind, List.reverse_reverse]
  exact Ind.perm (List.reverse_perm xs).symm
end BM
namespace TM
abbrev Edge := Nat × Nat
/-- a walk over some of the ties leads from a to b -/
def Conn : List Edge → Nat → Nat → Prop
  | [], a, b => a = b
  | e :: l, a, b => Conn l a b ∨ (Conn l a e.1 ∧ Conn l e.2 b) ∨ (Conn l a e.2 ∧ Conn l e.1 b)
theorem Conn.refl : ∀ (l : List Edge) (a : Nat), Conn l a a
  | [], _ => rfl
  | _ :: l, a => .inl (Conn.refl l a)
theorem Conn.symm : ∀ {l : List Edge} {a b : Nat}, Conn l a b → Conn l b a
  | [], _, _, h => (show _ = _ from h).symm
  | _ :: l, _, _, h => by
    rcases h with h | ⟨h, k⟩ | ⟨h, k⟩
    · exact .inl h.symm
    · exact .inr (.inr ⟨k.symm, h.symm⟩)
    · exact .inr (.inl ⟨k.symm, h.symm⟩)
theorem Conn.trans : ∀ {l : List Edge} {a b c : Nat}, Conn l a b → Conn l b c → Conn l a c
  | [], _, _, _, h, k => (show _ = _ from h).trans k
  | _ :: l, _, _, _, h, k => by
    rcases h with h | ⟨h, h'⟩ | ⟨h, h'⟩ <;> rcases k with k | ⟨k, k'⟩ | ⟨k, k'⟩
    · exact .inl (h.trans k)
    · exact .inr (.inl ⟨h.trans k, k'⟩)
    · exact .inr (.inr ⟨h.trans k, k'⟩)
    · exact .inr (.inl ⟨h, h'.trans k⟩)
    · exact .inr (.inl ⟨h, k'⟩)
    · exact .inl (h.trans k')
    · exact .inr (.inr ⟨h, h'.trans k⟩)
    · exact .inl (h.trans k')
    · exact .inr (.inr ⟨h, k'⟩)
theorem Conn.cons {e : Edge} {l : List Edge} {a b : Nat} (h : Conn l a b) : Conn (e :: l) a b := .inl h
theorem Conn.tie {e : Edge} {l : List Edge} : Conn (e :: l) e.1 e.2 := .inr (.inl ⟨.refl _ _, .refl _ _⟩)
/-- the closing: any equivalence that holds l's walks and e -/
theorem Conn.lift {e : Edge} {l m : List Edge} (s : ∀ a b, Conn l a b → Conn m a b) (h : Conn m e.1 e.2) : ∀ a b, Conn (e :: l) a b → Conn m a b := by
  rintro a b (k | ⟨k, k'⟩ | ⟨k, k'⟩)
  · exact s _ _ k
  · exact ((s _ _ k).trans h).trans (s _ _ k')
  · exact ((s _ _ k).trans h.symm).trans (s _ _ k')
theorem Conn.perm {l m : List Edge} (p : l.Perm m) : ∀ a b, Conn l a b ↔ Conn m a b := by
  induction p with
  | nil => exact fun _ _ => Iff.rfl
  | cons x _ ih => exact fun a b => ⟨Conn.lift (fun _ _ k => ((ih _ _).mp k).cons) .tie a b, Conn.lift (fun _ _ k => ((ih _ _).mpr k).cons) .tie a b⟩
  | swap x y l =>
    exact fun a b => ⟨Conn.lift (Conn.lift (fun _ _ k => k.cons.cons) .tie) (Conn.tie.cons) a b, Conn.lift (Conn.lift (fun _ _ k => k.cons.cons) .tie) (Conn.tie.cons) a b⟩
  | trans _ _ h1 h2 => exact fun a b => (h1 a b).trans (h2 a b)
/-- no tie closes a walk of those behind it -/
def Ind : List Edge → Prop
  | [] => True
  | e :: l => ¬ Conn l e.1 e.2 ∧ Ind l
theorem exch {x y : Edge} {l : List Edge} (nx : ¬ Conn l x.1 x.2) (h : Conn (y :: l) x.1 x.2) : Conn (x :: l) y.1 y.2 := by
  rcases h with h | ⟨h, k⟩ | ⟨h, k⟩
  · exact absurd h nx
  · exact .inr (.inl ⟨h.symm, k.symm⟩)
  · exact .inr (.inr ⟨k, h⟩)
theorem ind_swap {x y : Edge} {l : List Edge} (h : Ind (x :: y :: l)) : Ind (y :: x :: l) :=
  ⟨fun k => h.1 (exch h.2.1 k), fun k => h.1 k.cons, h.2.2⟩
theorem Ind.perm {l m : List Edge} (p : l.Perm m) : Ind l ↔ Ind m := by
  induction p with
  | nil => exact Iff.rfl
  | cons x q ih => exact and_congr (not_congr (Conn.perm q _ _)) ih
  | swap x y l => exact ⟨ind_swap, ind_swap⟩
  | trans _ _ h1 h2 => exact h1.trans h2
theorem Conn.sub {l m : List Edge} (s : l.Sublist m) : ∀ a b, Conn l a b → Conn m a b := by
  induction s with
  | slnil => exact fun _ _ h => h
  | cons _ _ ih => exact fun a b h => (ih a b h).cons
  | cons_cons _ _ ih => exact Conn.lift (fun _ _ k => (ih _ _ k).cons) .tie
theorem Ind.sub {l m : List Edge} (s : l.Sublist m) : Ind m → Ind l := by
  induction s with
  | slnil => exact fun h => h
  | cons _ _ ih => exact fun h => ih h.2
  | cons_cons a q ih => exact fun h => ⟨fun k => h.1 (Conn.sub q _ _ k), ih h.2⟩
/-! ### marks -/
def Mk (P : Nat) (m : Nat → Nat) (zs : List Edge) : Prop := ∀ a b, a < P → b < P → (m a = m b ↔ Conn zs a b)
def re (m : Nat → Nat) (e : Edge) : Nat → Nat := fun a => if m a = m e.2 then m e.1 else m a
theorem mk_re {P : Nat} {m : Nat → Nat} {zs : List Edge} {e : Edge} (h : Mk P m zs) (h1 : e.1 < P) (h2 : e.2 < P) (ne : ¬ m e.1 = m e.2) : Mk P (re m e) (e :: zs) := by
  intro a b ha hb
  show (re m e a = re m e b) ↔ (Conn zs a b ∨ (Conn zs a e.1 ∧ Conn zs e.2 b) ∨ (Conn zs a e.2 ∧ Conn zs e.1 b))
  rw [← h a b ha hb, ← h a _ ha h1, ← h _ b h2 hb, ← h a _ ha h2, ← h _ b h1 hb]
  unfold re
  by_cases ca : m a = m e.2 <;> by_cases cb : m b = m e.2
  · rw [if_pos ca, if_pos cb, ca, cb]
    simp
  · rw [if_pos ca, if_neg cb, ca]
    constructor
    · intro k
      exact .inr (.inr ⟨rfl, k⟩)
    · rintro (k | ⟨_, k⟩ | ⟨_, k⟩)
      · exact absurd k.symm cb
      · exact absurd k.symm cb
      · exact k
  · rw [if_neg ca, if_pos cb, cb]
    constructor
    · intro k
      exact .inr (.inl ⟨k, rfl⟩)
    · rintro (k | ⟨k, _⟩ | ⟨k, _⟩)
      · exact absurd k ca
      · exact k
      · exact absurd k ca
  · rw [if_neg ca, if_neg cb]
    constructor
    · intro k
      exact .inl k
    · rintro (k | ⟨_, k⟩ | ⟨k, _⟩)
      · exact k
      · exact absurd k.symm cb
      · exact absurd k ca
/-- the program's walk: marks so far, the ties to come -/
def freeF : (Nat → Nat) → List Edge → Bool
  | _, [] => true
  | m, e :: es => if m e.1 = m e.2 then false else freeF (re m e) es
theorem ind_tail : ∀ {as : List Edge} {y : Edge} {zs : List Edge}, Ind (as ++ ([y] ++ zs)) → Ind (y :: zs)
  | [], _, _, h => h
  | _ :: as, _, _, h => ind_tail (as := as) h.2
theorem freeF_iff {P : Nat} : ∀ (es zs : List Edge) (m : Nat → Nat), Mk P m zs → (∀ e ∈ es, e.1 < P ∧ e.2 < P) → Ind zs → (freeF m es = true ↔ Ind (es.reverse ++ zs))
  | [], zs, m, _, _, iz => by
    show (true = true) ↔ Ind zs
    exact ⟨fun _ => iz, fun _ => rfl⟩
  | e :: es, zs, m, h, hb, iz => by
    obtain ⟨b1, b2⟩ := hb e (List.mem_cons_self ..)
    show ((if m e.1 = m e.2 then false else freeF (re m e) es) = true) ↔ _
    rw [List.reverse_cons, List.append_assoc]
    by_cases c : m e.1 = m e.2
    · rw [if_pos c]
      refine ⟨fun k => (by cases k), fun k => ?_⟩
      exact absurd ((h _ _ b1 b2).mp c) (ind_tail k).1
    · rw [if_neg c]
      exact freeF_iff es (e :: zs) _ (mk_re h b1 b2 c) (fun e' he' => hb e' (List.mem_cons_of_mem _ he')) ⟨fun k => c ((h _ _ b1 b2).mpr k), iz⟩
theorem freeF_ind {P : Nat} (es : List Edge) (hb : ∀ e ∈ es, e.1 < P ∧ e.2 < P) : freeF id es = true ↔ Ind es.reverse := by
  have := freeF_iff (P := P) es [] id (fun a b _ _ => Iff.rfl) hb True.intro
  rw [List.append_nil] at this
  exact this
/-! ### ties with a loose end, taken off -/
def ends : List Edge → List Nat
  | [] => []
  | e :: es => e.1 :: e.2 :: ends es
theorem ends_append : ∀ l m : List Edge, ends (l ++ m) = ends l ++ ends m
  | [], _ => rfl
  | e :: l, m => by
    show e.1 :: e.2 :: ends (l ++ m) = e.1 :: e.2 :: (ends l ++ ends m)
    rw [ends_append l m]
def deg (l : List Edge) (v : Nat) : Nat := (ends l).count v
def keep (l : List Edge) (e : Edge) : Bool := decide (1 < deg l e.1) && decide (1 < deg l e.2)
def strip (l : List Edge) : List Edge := l.filter (keep l)
def iter : Nat → List Edge → List Edge
  | 0, l => l
  | n + 1, l => iter n (strip l)
theorem deg_cons (e : Edge) (l : List Edge) (v : Nat) : deg (e :: l) v = (if e.1 = v then 1 else 0) + (if e.2 = v then 1 else 0) + deg l v := by
  unfold deg
  show (e.1 :: e.2 :: ends l).count v = _
  rw [List.count_cons, List.count_cons]
  by_cases h1 : e.1 = v <;> by_cases h2 : e.2 = v <;> simp [h1, h2] <;> omega
theorem deg_append (l m : List Edge) (v : Nat) : deg (l ++ m) v = deg l v + deg m v := by
  unfold deg
  rw [ends_append, List.count_append]
theorem deg_mem : ∀ {l : List Edge} {e : Edge}, e ∈ l → 1 ≤ deg l e.1 ∧ 1 ≤ deg l e.2
  | d :: l, e, h => by
    rw [deg_cons, deg_cons]
    rcases List.mem_cons.mp h with q | q
    · subst q
      simp
      omega
    · have := deg_mem q
      omega
theorem deg_of : ∀ {l : List Edge} {v : Nat}, 1 ≤ deg l v → ∃ e ∈ l, e.1 = v ∨ e.2 = v
  | [], v, h => by
    have : deg [] v = 0 := rfl
    omega
  | d :: l, v, h => by
    rw [deg_cons] at h
    by_cases h1 : d.1 = v
    · exact ⟨d, List.mem_cons_self .., .inl h1⟩
    by_cases h2 : d.2 = v
    · exact ⟨d, List.mem_cons_self .., .inr h2⟩
    rw [if_neg h1, if_neg h2] at h
    obtain ⟨e, he, k⟩ := deg_of (l := l) (v := v) (by omega)
    exact ⟨e, List.mem_cons_of_mem _ he, k⟩
theorem lone : ∀ {l : List Edge} {u x : Nat}, deg l u = 0 → Conn l u x → x = u
  | [], _, _, _, h => (show _ = _ from h).symm
  | e :: l, u, x, h, k => by
    rw [deg_cons] at h
    have h1 : ¬ e.1 = u := fun c => by rw [if_pos c] at h; omega
    have h2 : ¬ e.2 = u := fun c => by rw [if_pos c] at h; omega
    have h0 : deg l u = 0 := by omega
    rcases k with k | ⟨k, _⟩ | ⟨k, _⟩
    · exact lone h0 k
    · exact absurd (lone h0 k) h1
    · exact absurd (lone h0 k) h2
/-- every touched place has another one with it that one tie alone touches -/
theorem leaves : ∀ {l : List Edge}, Ind l → ∀ a, 1 ≤ deg l a → ∃ b, b ≠ a ∧ Conn l a b ∧ deg l b = 1
  | [], _, a, h => by
    have : deg [] a = 0 := rfl
    omega
  | e :: l, ⟨nc, il⟩, a, h => by
    have ih := leaves il
    have ne : e.1 ≠ e.2 := fun c => nc (by rw [c]; exact .refl _ _)
    have two : ∀ x y, (x = e.1 ∧ y = e.2) ∨ (x = e.2 ∧ y = e.1) → ∃ b, Conn l x b ∧ deg (e :: l) b = 1 := by
      intro x y hxy
      have nxy : ¬ Conn l x y := by
        rcases hxy with ⟨rfl, rfl⟩ | ⟨rfl, rfl⟩
        · exact nc
        · exact fun k => nc k.symm
      by_cases z : deg l x = 0
      · refine ⟨x, .refl _ _, ?_⟩
        rw [deg_cons, z]
        rcases hxy with ⟨rfl, rfl⟩ | ⟨rfl, rfl⟩
        · rw [if_pos rfl, if_neg ne.symm]
        · rw [if_neg ne, if_pos rfl]
      · obtain ⟨b, nb, cb, db⟩ := ih x (by omega)
        refine ⟨b, cb, ?_⟩
        have ny : b ≠ y := fun c => nxy (c ▸ cb)
        rw [deg_cons, db]
        rcases hxy with ⟨rfl, rfl⟩ | ⟨rfl, rfl⟩
        · rw [if_neg nb.symm, if_neg ny.symm]
        · rw [if_neg ny.symm, if_neg nb.symm]
    obtain ⟨bu, cu, du⟩ := two e.1 e.2 (.inl ⟨rfl, rfl⟩)
    obtain ⟨bv, cv, dv⟩ := two e.2 e.1 (.inr ⟨rfl, rfl⟩)
    by_cases c1 : Conn l a e.1
    · refine ⟨bv, fun q => ?_, .inr (.inl ⟨c1, cv⟩), dv⟩
      exact nc (c1.symm.trans (q ▸ cv.symm))
    by_cases c2 : Conn l a e.2
    · refine ⟨bu, fun q => ?_, .inr (.inr ⟨c2, cu⟩), du⟩
      exact nc ((q ▸ cu : Conn l e.1 a).trans c2)
    have a1 : e.1 ≠ a := fun c => c1 (c ▸ .refl _ _)
    have a2 : e.2 ≠ a := fun c => c2 (c ▸ .refl _ _)
    rw [deg_cons, if_neg a1, if_neg a2] at h
    obtain ⟨b, nb, cb, db⟩ := ih a (by omega)
    refine ⟨b, nb, cb.cons, ?_⟩
    have b1 : e.1 ≠ b := fun c => c1 (c ▸ cb)
    have b2 : e.2 ≠ b := fun c => c2 (c ▸ cb)
    rw [deg_cons, if_neg b1, if_neg b2, db]
theorem shorter {l : List Edge} (h : Ind l) (ne : l ≠ []) : (strip l).length < l.length := by
  obtain ⟨e, r, rfl⟩ : ∃ e r, l = e :: r := by
    cases l with
    | nil => exact absurd rfl ne
    | cons e r => exact ⟨e, r, rfl⟩
  obtain ⟨b, _, _, db⟩ := leaves h e.1 (deg_mem (List.mem_cons_self ..)).1
  obtain ⟨d, hd, q⟩ := deg_of (l := e :: r) (v := b) (by omega)
  refine Nat.lt_of_le_of_ne (List.length_filter_le _ _) fun c => ?_
  have k := List.length_filter_eq_length_iff.mp c d hd
  unfold keep at k
  rw [Bool.and_eq_true] at k
  have k1 := of_decide_eq_true k.1
  have k2 := of_decide_eq_true k.2
  rcases q with q | q
  · rw [q] at k1
    omega
  · rw [q] at k2
    omega
theorem strip_nil : ∀ n, iter n [] = []
  | 0 => rfl
  | n + 1 => strip_nil n
theorem iter_of_ind : ∀ (n : Nat) (l : List Edge), Ind l → l.length ≤ n → iter n l = []
  | 0, l, _, h => List.eq_nil_of_length_eq_zero (Nat.le_zero.mp h)
  | n + 1, l, i, h => by
    by_cases c : l = []
    · rw [c]
      exact strip_nil _
    · have := shorter i c
      exact iter_of_ind n _ (i.sub (List.filter_sublist ..)) (by omega)
theorem ind_add {l : List Edge} : ∀ (m s : List Edge), (∀ v, deg (m ++ s) v ≤ deg l v) → (∀ e ∈ m, deg l e.1 ≤ 1 ∨ deg l e.2 ≤ 1) → Ind s → Ind (m ++ s)
  | [], _, _, _, i => i
  | e :: m, s, hd, hl, i => by
    have ih := ind_add m s (fun v => by
      have := hd v
      rw [List.cons_append, deg_cons] at this
      omega) (fun e' he' => hl e' (List.mem_cons_of_mem _ he')) i
    refine ⟨fun c => ?_, ih⟩
    have c : Conn (m ++ s) e.1 e.2 := c
    have d1 := hd e.1
    have d2 := hd e.2
    rw [List.cons_append, deg_cons] at d1 d2
    rw [if_pos rfl] at d1
    rw [if_pos rfl] at d2
    rcases hl e (List.mem_cons_self ..) with q | q
    · have ne : ¬ e.2 = e.1 := fun z => by rw [if_pos z] at d1; omega
      exact ne (lone (by omega) c)
    · have ne : ¬ e.1 = e.2 := fun z => by rw [if_pos z] at d2; omega
      exact ne (lone (by omega) c.symm)
theorem deg_perm {l m : List Edge} (p : l.Perm m) (v : Nat) : deg l v = deg m v := by
  induction p with
  | nil => rfl
  | cons x _ ih => rw [deg_cons, deg_cons, ih]
  | swap x y l => rw [deg_cons, deg_cons, deg_cons, deg_cons]; omega
  | trans _ _ h1 h2 => exact h1.trans h2
theorem ind_of_strip {l : List Edge} (h : Ind (strip l)) : Ind l := by
  have p : ((l.filter fun e => !keep l e) ++ strip l).Perm l := (List.perm_append_comm).trans (List.filter_append_perm (keep l) l)
  refine (Ind.perm p).mp (ind_add (l := l) _ _ (fun v => Nat.le_of_eq (deg_perm p v)) (fun e he => ?_) h)
  have k := (List.mem_filter.mp he).2
  have k' : keep l e = false := by simpa using k
  unfold keep at k'
  rw [Bool.and_eq_false_iff] at k'
  rcases k' with q | q
  · exact .inl (Nat.le_of_not_lt (of_decide_eq_false q))
  · exact .inr (Nat.le_of_not_lt (of_decide_eq_false q))
theorem ind_of_iter : ∀ (n : Nat) (l : List Edge), iter n l = [] → Ind l
  | 0, l, h => by
    have h : l = [] := h
    rw [h]
    exact True.intro
  | n + 1, l, h => ind_of_strip (ind_of_iter n (strip l) h)
theorem iter_iff (l : List Edge) : iter l.length l = [] ↔ Ind l := ⟨ind_of_iter _ _, fun i => iter_of_ind _ _ i (Nat.le_refl _)⟩
def noRing (l : List Edge) : Bool := decide (iter l.length l = [])
theorem agree {P : Nat} (l : List Edge) (hb : ∀ e ∈ l, e.1 < P ∧ e.2 < P) : freeF id l.reverse = noRing l := by
  unfold noRing
  rw [Bool.eq_iff_iff, decide_eq_true_eq, iter_iff, freeF_ind (P := P) _ fun e he => hb e (List.mem_reverse.mp he), List.reverse_reverse]
end TM
namespace PM
/-- each of xs can be given something that it wants, no two the same -/
def Free (W : Nat → List Nat) (xs : List Nat) : Prop := ∃ g : Nat → Nat, (∀ x ∈ xs, g x ∈ W x) ∧ ∀ x ∈ xs, ∀ y ∈ xs, g x = g y → x = y
/-! ### one newcomer -/
structure Pre (h : Nat → Option Nat) (T : List Nat) (z : Nat) : Prop where
  own : ∀ p, h p = some z → p ∈ T
  inj : ∀ p q y, h p = some y → h q = some y → p = q
structure Yes (W : Nat → List Nat) (h : Nat → Option Nat) (T : List Nat) (z : Nat) (h' : Nat → Option Nat) (T' : List Nat) : Prop where
  sub : ∀ p ∈ T, p ∈ T'
  keep : ∀ p, p ∈ T ∨ p ∉ T' → h' p = h p
  val : ∀ p y, h' p = some y → p ∈ W y
  got : ∃ q, q ∈ T' ∧ q ∉ T ∧ h' q = some z ∧ ∀ q', q' ∉ T → h' q' = some z → q' = q
  oth : ∀ y, y ≠ z → ((∃ p, h p = some y) ↔ (∃ p, h' p = some y))
  inj : ∀ y, y ≠ z → ∀ p q, h' p = some y → h' q = some y → p = q
structure No (W : Nat → List Nat) (h : Nat → Option Nat) (T : List Nat) (z : Nat) (T' : List Nat) : Prop where
  sub : ∀ p ∈ T, p ∈ T'
  all : ∀ p ∈ W z, p ∈ T'
  cl : ∀ p ∈ T', p ∉ T → ∃ y, h p = some y ∧ ∀ r ∈ W y, r ∈ T'
/-- between two turns of the walk over what z wants -/
structure Mid (W : Nat → List Nat) (h : Nat → Option Nat) (T : List Nat) (ps : List Nat) (T' : List Nat) : Prop where
  sub : ∀ p ∈ T, p ∈ T'
  all : ∀ p ∈ ps, p ∈ T'
  cl : ∀ p ∈ T', p ∉ T → ∃ y, h p = some y ∧ ∀ r ∈ W y, r ∈ T'
def put (h : Nat → Option Nat) (p z : Nat) : Nat → Option Nat := fun q => if q = p then some z else h q
theorem put_at {h : Nat → Option Nat} {p z : Nat} : put h p z p = some z := if_pos rfl
theorem put_ne {h : Nat → Option Nat} {p z q : Nat} (n : q ≠ p) : put h p z q = h q := if_neg n
variable {W : Nat → List Nat} {h : Nat → Option Nat} {T T1 T2 : List Nat} {z p : Nat}
theorem Mid.start : Mid W h T [] T := ⟨fun _ h => h, fun _ h => (by cases h), fun _ h n => absurd h n⟩
theorem Mid.skip {ps : List Nat} (m : Mid W h T ps T1) (hp : p ∈ T1) : Mid W h T (ps ++ [p]) T1 :=
  ⟨m.sub, fun q hq => by
    rcases List.mem_append.mp hq with e | e
    · exact m.all q e
    · rw [List.mem_singleton.mp e]; exact hp, m.cl⟩
theorem Mid.no {ps : List Nat} {y : Nat} (m : Mid W h T ps T1) (hy : h p = some y) (n : No W h (T1 ++ [p]) y T2) : Mid W h T (ps ++ [p]) T2 := by
  have s : ∀ q ∈ T1, q ∈ T2 := fun q hq => n.sub q (List.mem_append_left _ hq)
  have pp : p ∈ T2 := n.sub p (List.mem_append_right _ (List.mem_singleton.mpr rfl))
  refine ⟨fun q hq => s q (m.sub q hq), fun q hq => ?_, fun q hq nq => ?_⟩
  · rcases List.mem_append.mp hq with e | e
    · exact s q (m.all q e)
    · rw [List.mem_singleton.mp e]; exact pp
  · by_cases c : q ∈ T1
    · obtain ⟨y', h1, h2⟩ := m.cl q c nq
      exact ⟨y', h1, fun r hr => s r (h2 r hr)⟩
    by_cases c2 : q = p
    · subst c2
      exact ⟨y, hy, n.all⟩
    · exact n.cl q hq fun k => by
        rcases List.mem_append.mp k with e | e
        · exact c e
        · exact c2 (List.mem_singleton.mp e)
theorem Mid.stop (m : Mid W h T (W z) T1) : No W h T z T1 := ⟨m.sub, m.all, m.cl⟩
theorem yes_free {ps : List Nat} (pre : Pre h T z) (val : ∀ p y, h p = some y → p ∈ W y) (m : Mid W h T ps T1) (hp : p ∉ T1) (hw : p ∈ W z) (hn : h p = none) : Yes W h T z (put h p z) (T1 ++ [p]) := by
  have pT : p ∉ T := fun k => hp (m.sub p k)
  have pin : p ∈ T1 ++ [p] := List.mem_append_right _ (List.mem_singleton.mpr rfl)
  refine ⟨fun q hq => List.mem_append_left _ (m.sub q hq), fun q hq => ?_, fun q y hy => ?_, ⟨p, pin, pT, put_at, fun q nq hq => ?_⟩, fun y ny => ?_, fun y ny q q' h1 h2 => ?_⟩
  · refine put_ne fun e => ?_
    subst e
    rcases hq with k | k
    · exact pT k
    · exact k pin
  · by_cases e : q = p
    · subst e
      rw [put_at] at hy
      cases hy
      exact hw
    · rw [put_ne e] at hy
      exact val q y hy
  · by_cases e : q = p
    · exact e
    · rw [put_ne e] at hq
      exact absurd (pre.own q hq) nq
  · constructor
    · rintro ⟨q, hq⟩
      refine ⟨q, ?_⟩
      rw [put_ne fun e => by rw [e, hn] at hq; cases hq]
      exact hq
    · rintro ⟨q, hq⟩
      by_cases e : q = p
      · rw [e, put_at] at hq
        exact absurd (Option.some.inj hq).symm ny
      · rw [put_ne e] at hq
        exact ⟨q, hq⟩
  · have n1 : q ≠ p := fun e => by
      rw [e, put_at] at h1
      exact ny (Option.some.inj h1).symm
    have n2 : q' ≠ p := fun e => by
      rw [e, put_at] at h2
      exact ny (Option.some.inj h2).symm
    rw [put_ne n1] at h1
    rw [put_ne n2] at h2
    exact pre.inj q q' y h1 h2
theorem pre_next {ps : List Nat} {y : Nat} (pre : Pre h T z) (hy : h p = some y) : Pre h (T1 ++ [p]) y :=
  ⟨fun q hq => by
    rw [pre.inj q p y hq hy]
    exact List.mem_append_right _ (List.mem_singleton.mpr rfl), pre.inj⟩
theorem yes_back {ps : List Nat} {y : Nat} {h1 : Nat → Option Nat} (pre : Pre h T z) (m : Mid W h T ps T1) (hp : p ∉ T1) (hw : p ∈ W z) (hy : h p = some y) (Y : Yes W h (T1 ++ [p]) y h1 T2) : Yes W h T z (put h1 p z) T2 := by
  have pT : p ∉ T := fun k => hp (m.sub p k)
  have pin1 : p ∈ T1 ++ [p] := List.mem_append_right _ (List.mem_singleton.mpr rfl)
  have pin : p ∈ T2 := Y.sub p pin1
  have yz : y ≠ z := fun e => by
    subst e
    exact pT (pre.own p hy)
  have h1p : h1 p = some y := (Y.keep p (.inl pin1)).trans hy
  have TT : ∀ q ∈ T, q ∈ T1 ++ [p] := fun q hq => List.mem_append_left _ (m.sub q hq)
  refine ⟨fun q hq => Y.sub q (TT q hq), fun q hq => ?_, fun q x hx => ?_, ⟨p, pin, pT, put_at, fun q nq hq => ?_⟩, fun x nx => ?_, fun x nx q q' e1 e2 => ?_⟩
  · have nq : q ≠ p := fun e => by
      subst e
      rcases hq with k | k
      · exact pT k
      · exact k pin
    rw [put_ne nq]
    rcases hq with k | k
    · exact Y.keep q (.inl (TT q k))
    · exact Y.keep q (.inr k)
  · by_cases e : q = p
    · subst e
      rw [put_at] at hx
      cases hx
      exact hw
    · rw [put_ne e] at hx
      exact Y.val q x hx
  · by_cases e : q = p
    · exact e
    · rw [put_ne e] at hq
      obtain ⟨p0, hp0⟩ := (Y.oth z yz.symm).mpr ⟨q, hq⟩
      have p0T := pre.own p0 hp0
      have h1p0 : h1 p0 = some z := (Y.keep p0 (.inl (TT p0 p0T))).trans hp0
      have := Y.inj z yz.symm q p0 hq h1p0
      exact absurd (this ▸ p0T) nq
  · by_cases exy : x = y
    · subst exy
      refine ⟨fun _ => ?_, fun _ => ⟨p, hy⟩⟩
      obtain ⟨q, q1, q2, q3, _⟩ := Y.got
      refine ⟨q, ?_⟩
      have nqp : q ≠ p := fun e => q2 (by rw [e]; exact pin1)
      rw [put_ne nqp]
      exact q3
    · rw [Y.oth x exy]
      constructor
      · rintro ⟨q, hq⟩
        refine ⟨q, ?_⟩
        rw [put_ne fun e => ?_]
        · exact hq
        · rw [e, h1p] at hq
          exact exy (Option.some.inj hq).symm
      · rintro ⟨q, hq⟩
        by_cases e : q = p
        · rw [e, put_at] at hq
          exact absurd (Option.some.inj hq).symm nx
        · rw [put_ne e] at hq
          exact ⟨q, hq⟩
  · have n1 : q ≠ p := fun e => by
      rw [e, put_at] at e1
      exact nx (Option.some.inj e1).symm
    have n2 : q' ≠ p := fun e => by
      rw [e, put_at] at e2
      exact nx (Option.some.inj e2).symm
    rw [put_ne n1] at e1
    rw [put_ne n2] at e2
    by_cases exy : x = y
    · subst exy
      obtain ⟨q0, _, _, _, un⟩ := Y.got
      have out : ∀ r, r ≠ p → h1 r = some x → r ∉ T1 ++ [p] := fun r nr hr k => by
        have := (Y.keep r (.inl k)).symm.trans hr
        exact nr (pre.inj r p x this hy)
      rw [un q (out q n1 e1) e1, un q' (out q' n2 e2) e2]
    · exact Y.inj x exy q q' e1 e2
/-! ### all of a list -/
structure Mat (W : Nat → List Nat) (h : Nat → Option Nat) (xs : List Nat) : Prop where
  val : ∀ p y, h p = some y → p ∈ W y
  ins : ∀ p y, h p = some y → y ∈ xs
  has : ∀ y ∈ xs, ∃ p, h p = some y
  inj : ∀ p q y, h p = some y → h q = some y → p = q
theorem Mat.start : Mat W (fun _ => none) [] := ⟨fun _ _ h => (by cases h), fun _ _ h => (by cases h), fun _ h => (by cases h), fun _ _ _ h => (by cases h)⟩
theorem Mat.pre {xs : List Nat} (M : Mat W h xs) (hz : z ∉ xs) : Pre h [] z := ⟨fun p hp => absurd (M.ins p z hp) hz, M.inj⟩
theorem Mat.more {xs : List Nat} {h' : Nat → Option Nat} (M : Mat W h xs) (hz : z ∉ xs) (Y : Yes W h [] z h' T) : Mat W h' (xs ++ [z]) := by
  obtain ⟨q, _, _, hq, un⟩ := Y.got
  refine ⟨Y.val, fun p y hy => ?_, fun y hy => ?_, fun p p' y h1 h2 => ?_⟩
  · by_cases e : y = z
    · rw [e]
      exact List.mem_append_right _ (List.mem_singleton.mpr rfl)
    · obtain ⟨p0, hp0⟩ := (Y.oth y e).mpr ⟨p, hy⟩
      exact List.mem_append_left _ (M.ins p0 y hp0)
  · rcases List.mem_append.mp hy with e | e
    · exact (Y.oth y fun c => hz (c ▸ e)).mp (M.has y e)
    · rw [List.mem_singleton.mp e]
      exact ⟨q, hq⟩
  · by_cases e : y = z
    · subst e
      rw [un p (fun k => (by cases k)) h1, un p' (fun k => (by cases k)) h2]
    · exact Y.inj y e p p' h1 h2
theorem Mat.free {xs : List Nat} (M : Mat W h xs) : Free W xs := by
  classical
  refine ⟨fun x => if k : ∃ p, h p = some x then k.choose else 0, fun x hx => ?_, fun x hx y hy e => ?_⟩
  · have k := M.has x hx
    show (if k : ∃ p, h p = some x then k.choose else 0) ∈ W x
    rw [dif_pos k]
    exact M.val _ _ k.choose_spec
  · have k := M.has x hx
    have k' := M.has y hy
    simp only [dif_pos k, dif_pos k'] at e
    have a := k.choose_spec
    have b := k'.choose_spec
    rw [e, b] at a
    exact (Option.some.inj a).symm
theorem nodup_le : ∀ (l T : List Nat), l.Nodup → (∀ x ∈ l, x ∈ T) → l.length ≤ T.length
  | [], _, _, _ => Nat.zero_le _
  | x :: l, T, nd, s => by
    have nd' := List.nodup_cons.mp nd
    have hx := s x (List.mem_cons_self ..)
    have ih := nodup_le l (T.erase x) nd'.2 fun y hy => by
      have ne : y ≠ x := fun e => nd'.1 (e ▸ hy)
      exact (List.mem_erase_of_ne ne).mpr (s y (List.mem_cons_of_mem _ hy))
    rw [List.length_erase_of_mem hx] at ih
    have : 0 < T.length := List.length_pos_of_mem hx
    show l.length + 1 ≤ T.length
    omega
theorem nodup_map {α β : Type} (g : α → β) : ∀ (l : List α), l.Nodup → (∀ x ∈ l, ∀ y ∈ l, g x = g y → x = y) → (l.map g).Nodup
  | [], _, _ => List.nodup_nil
  | x :: l, nd, inj => by
    have nd' := List.nodup_cons.mp nd
    rw [List.map_cons, List.nodup_cons]
    refine ⟨fun hm => ?_, nodup_map g l nd'.2 fun a ha b hb => inj a (List.mem_cons_of_mem _ ha) b (List.mem_cons_of_mem _ hb)⟩
    obtain ⟨y, hy, e⟩ := List.mem_map.mp hm
    have := inj y (List.mem_cons_of_mem _ hy) x (List.mem_cons_self ..) e
    exact nd'.1 (this ▸ hy)
theorem not_free {xs L : List Nat} (M : Mat W h xs) (hz : z ∉ xs) (n : No W h [] z T) (nd : T.Nodup) (hL : ∀ x ∈ xs, x ∈ L) (zL : z ∈ L) : ¬ Free W L := by
  rintro ⟨g, gw, gi⟩
  have hol : ∀ p ∈ T, ∃ y, h p = some y ∧ ∀ r ∈ W y, r ∈ T := fun p hp => n.cl p hp (fun k => by cases k)
  let y := fun p => (h p).getD 0
  have hy : ∀ p ∈ T, h p = some (y p) := fun p hp => by
    obtain ⟨u, hu, _⟩ := hol p hp
    show h p = some ((h p).getD 0)
    rw [hu]
    rfl
  have yin : ∀ p ∈ T, y p ∈ xs := fun p hp => M.ins p _ (hy p hp)
  have ndX : (z :: T.map y).Nodup := by
    rw [List.nodup_cons]
    refine ⟨fun hm => ?_, nodup_map y T nd fun p hp q hq e => ?_⟩
    · obtain ⟨p, hp, e⟩ := List.mem_map.mp hm
      exact hz (e ▸ yin p hp)
    · have a := hy p hp
      rw [e] at a
      exact M.inj p q _ a (hy q hq)
  have inL : ∀ x ∈ z :: T.map y, x ∈ L := fun x hx => by
    rcases List.mem_cons.mp hx with e | e
    · rw [e]; exact zL
    · obtain ⟨p, hp, e2⟩ := List.mem_map.mp e
      rw [← e2]
      exact hL _ (yin p hp)
  have ndG : ((z :: T.map y).map g).Nodup := nodup_map g _ ndX fun a ha b hb => gi a (inL a ha) b (inL b hb)
  have := nodup_le _ T ndG fun q hq => by
    obtain ⟨x, hx, rfl⟩ := List.mem_map.mp hq
    have gx := gw x (inL x hx)
    rcases List.mem_cons.mp hx with e | e
    · rw [e] at gx ⊢
      exact n.all _ gx
    · obtain ⟨p, hp, e2⟩ := List.mem_map.mp e
      obtain ⟨u, hu, cu⟩ := hol p hp
      have : y p = u := Option.some.inj ((hy p hp).symm.trans hu)
      rw [← e2, this] at gx ⊢
      exact cu _ gx
  rw [List.length_map, List.length_cons, List.length_map] at this
  omega
/-! ### the law's ways -/
def Reps : List (List Nat) → List Nat → Prop
  | [], [] => True
  | w :: ws, p :: r => p ∈ w ∧ Reps ws r
  | _, _ => False
def Rep (ws : List (List Nat)) : Prop := ∃ r, Reps ws r ∧ r.Nodup
theorem Reps.put {w : List Nat} {p : Nat} (hp : p ∈ w) : ∀ {ws : List (List Nat)} {r : List Nat}, Reps ws r → Reps (ws ++ [w]) (r ++ [p])
  | [], [], _ => ⟨hp, True.intro⟩
  | _ :: _, _ :: _, h => ⟨h.1, h.2.put hp⟩
  | [], _ :: _, h => False.elim h
  | _ :: _, [], h => False.elim h
theorem Reps.last {w : List Nat} : ∀ {ws : List (List Nat)} {r : List Nat}, Reps (ws ++ [w]) r → ∃ r' p, r = r' ++ [p] ∧ Reps ws r' ∧ p ∈ w
  | [], [p], h => ⟨[], p, rfl, True.intro, h.1⟩
  | [], _ :: _ :: _, h => False.elim h.2
  | [], [], h => False.elim h
  | _ :: ws, [], h => False.elim h
  | _ :: ws, q :: r, h => by
    obtain ⟨r', p, e, h1, h2⟩ := Reps.last (ws := ws) (r := r) h.2
    exact ⟨q :: r', p, by rw [e]; rfl, ⟨h.1, h1⟩, h2⟩
theorem Reps.len : ∀ {ws : List (List Nat)} {r : List Nat}, Reps ws r → r.length = ws.length
  | [], [], _ => rfl
  | _ :: _, _ :: _, h => congrArg (· + 1) h.2.len
  | [], _ :: _, h => False.elim h
  | _ :: _, [], h => False.elim h
theorem Reps.mem : ∀ {ws : List (List Nat)} {r : List Nat} {U : List Nat}, Reps ws r → (∀ w ∈ ws, ∀ p ∈ w, p ∈ U) → ∀ p ∈ r, p ∈ U
  | [], [], _, _, _, p, h => by cases h
  | w :: ws, q :: r, U, h, k, p, hp => by
    rcases List.mem_cons.mp hp with e | e
    · rw [e]
      exact k w (List.mem_cons_self ..) q h.1
    · exact Reps.mem h.2 (fun w' hw' => k w' (List.mem_cons_of_mem _ hw')) p e
  | [], _ :: _, _, h, _, _, _ => False.elim h
  | _ :: _, [], _, h, _, _, _ => False.elim h
theorem reps_map {W : Nat → List Nat} {g : Nat → Nat} : ∀ {xs : List Nat}, (∀ x ∈ xs, g x ∈ W x) → Reps (xs.map W) (xs.map g)
  | [], _ => True.intro
  | x :: xs, h => ⟨h x (List.mem_cons_self ..), reps_map fun y hy => h y (List.mem_cons_of_mem _ hy)⟩
theorem map_of_reps {W : Nat → List Nat} : ∀ {xs : List Nat} {r : List Nat}, xs.Nodup → Reps (xs.map W) r → ∃ g : Nat → Nat, r = xs.map g ∧ ∀ x ∈ xs, g x ∈ W x
  | [], [], _, _ => ⟨id, rfl, fun _ h => by cases h⟩
  | [], _ :: _, _, h => False.elim h
  | _ :: _, [], _, h => False.elim h
  | x :: xs, p :: r, nd, h => by
    have nd' := List.nodup_cons.mp nd
    obtain ⟨g, e, k⟩ := map_of_reps nd'.2 h.2
    have off : ∀ y ∈ xs, (if y = x then p else g y) = g y := fun y hy => if_neg fun (c : y = x) => nd'.1 (by rw [← c]; exact hy)
    refine ⟨fun y => if y = x then p else g y, ?_, fun y hy => ?_⟩
    · rw [List.map_cons, if_pos rfl, e]
      congr 1
      exact List.map_congr_left fun y hy => (off y hy).symm
    · show (if y = x then p else g y) ∈ W y
      rcases List.mem_cons.mp hy with c | c
      · rw [if_pos c, c]
        exact h.1
      · rw [off y c]
        exact k y c
theorem inj_of_nodup {g : Nat → Nat} : ∀ {xs : List Nat}, (xs.map g).Nodup → ∀ x ∈ xs, ∀ y ∈ xs, g x = g y → x = y
  | [], _, x, h => by cases h
  | a :: xs, nd, x, hx => fun y hy e => by
    rw [List.map_cons, List.nodup_cons] at nd
    rcases List.mem_cons.mp hx with c | c <;> rcases List.mem_cons.mp hy with d | d
    · rw [c, d]
    · rw [c] at e
      exact absurd (List.mem_map.mpr ⟨y, d, e.symm⟩) nd.1
    · rw [d] at e
      exact absurd (List.mem_map.mpr ⟨x, c, e⟩) nd.1
    · exact inj_of_nodup nd.2 x c y d e
theorem rep_iff {W : Nat → List Nat} {xs : List Nat} (nd : xs.Nodup) : Rep (xs.map W) ↔ Free W xs := by
  constructor
  · rintro ⟨r, h, n⟩
    obtain ⟨g, rfl, k⟩ := map_of_reps nd h
    exact ⟨g, k, inj_of_nodup n⟩
  · rintro ⟨g, k, i⟩
    exact ⟨xs.map g, reps_map k, nodup_map g xs nd i⟩
theorem free_perm {W : Nat → List Nat} {xs ys : List Nat} (h : ∀ x, x ∈ xs ↔ x ∈ ys) : Free W xs ↔ Free W ys := by
  constructor
  · rintro ⟨g, a, b⟩
    exact ⟨g, fun x hx => a x ((h x).mpr hx), fun x hx y hy => b x ((h x).mpr hx) y ((h y).mpr hy)⟩
  · rintro ⟨g, a, b⟩
    exact ⟨g, fun x hx => a x ((h x).mp hx), fun x hx y hy => b x ((h x).mp hx) y ((h y).mp hy)⟩
/-- the ways behind the wants ws -/
structure Ways (ws : List (List Nat)) (ways : List (List Nat)) : Prop where
  srt : ∀ t ∈ ways, t.Pairwise (· ≤ ·)
  snd : ∀ t ∈ ways, ∃ r, Reps ws r ∧ r.Nodup ∧ t.Perm r
  cmp : ∀ r, Reps ws r → r.Nodup → ∃ t ∈ ways, t.Perm r
  nd : ways.Nodup
theorem Ways.start : Ways [] [[]] := by
  refine ⟨fun t ht => ?_, fun t ht => ?_, fun r hr _ => ?_, by simp⟩
  · rw [List.mem_singleton.mp ht]
    exact List.Pairwise.nil
  · rw [List.mem_singleton.mp ht]
    exact ⟨[], True.intro, List.nodup_nil, List.Perm.refl _⟩
  · cases r with
    | nil => exact ⟨[], List.mem_singleton.mpr rfl, List.Perm.refl _⟩
    | cons _ _ => exact False.elim hr
theorem Ways.rep {ws ways : List (List Nat)} (w : Ways ws ways) : ways ≠ [] ↔ Rep ws := by
  constructor
  · intro h
    obtain ⟨t, r, e⟩ : ∃ t r, ways = t :: r := by
      cases ways with
      | nil => exact absurd rfl h
      | cons t r => exact ⟨t, r, rfl⟩
    obtain ⟨r', h1, h2, _⟩ := w.snd t (by rw [e]; exact List.mem_cons_self ..)
    exact ⟨r', h1, h2⟩
  · rintro ⟨r, h1, h2⟩ e
    obtain ⟨t, ht, _⟩ := w.cmp r h1 h2
    rw [e] at ht
    cases ht
/-- behind some of the pairs of a way and a post -/
structure More (L : List (List Nat × Nat)) (more : List (List Nat)) : Prop where
  srt : ∀ t ∈ more, t.Pairwise (· ≤ ·)
  snd : ∀ t ∈ more, ∃ x ∈ L, x.2 ∉ x.1 ∧ t.Perm (x.1 ++ [x.2])
  cmp : ∀ x ∈ L, x.2 ∉ x.1 → ∃ t ∈ more, t.Perm (x.1 ++ [x.2])
  nd : more.Nodup
theorem More.start : More [] [] := ⟨fun _ h => (by cases h), fun _ h => (by cases h), fun _ h => (by cases h), List.nodup_nil⟩
theorem More.skip {L : List (List Nat × Nat)} {more : List (List Nat)} {w : List Nat} {p : Nat} (m : More L more) (h : p ∈ w ∨ ∃ t ∈ more, t.Perm (w ++ [p])) : More (L ++ [(w, p)]) more := by
  refine ⟨m.srt, fun t ht => ?_, fun x hx nx => ?_, m.nd⟩
  · obtain ⟨x, hx, k⟩ := m.snd t ht
    exact ⟨x, List.mem_append_left _ hx, k⟩
  · rcases List.mem_append.mp hx with e | e
    · exact m.cmp x e nx
    · rw [List.mem_singleton.mp e] at nx ⊢
      rcases h with c | c
      · exact absurd c nx
      · exact c
theorem More.add {L : List (List Nat × Nat)} {more : List (List Nat)} {w one : List Nat} {p : Nat} (m : More L more) (hp : p ∉ w) (ho : one.Perm (w ++ [p])) (hs : one.Pairwise (· ≤ ·)) (hn : one ∉ more) : More (L ++ [(w, p)]) (more ++ [one]) := by
  refine ⟨fun t ht => ?_, fun t ht => ?_, fun x hx nx => ?_, ?_⟩
  · rcases List.mem_append.mp ht with e | e
    · exact m.srt t e
    · rw [List.mem_singleton.mp e]; exact hs
  · rcases List.mem_append.mp ht with e | e
    · obtain ⟨x, hx, k⟩ := m.snd t e
      exact ⟨x, List.mem_append_left _ hx, k⟩
    · rw [List.mem_singleton.mp e]
      exact ⟨(w, p), List.mem_append_right _ (List.mem_singleton.mpr rfl), hp, ho⟩
  · rcases List.mem_append.mp hx with e | e
    · obtain ⟨t, ht, k⟩ := m.cmp x e nx
      exact ⟨t, List.mem_append_left _ ht, k⟩
    · rw [List.mem_singleton.mp e]
      exact ⟨one, List.mem_append_right _ (List.mem_singleton.mpr rfl), ho⟩
  · rw [List.nodup_append]
    refine ⟨m.nd, by simp, fun a ha b hb e => ?_⟩
    rw [List.mem_singleton.mp hb] at e
    exact hn (e ▸ ha)
theorem Ways.next {ws ways more : List (List Nat)} {w : List Nat} {L : List (List Nat × Nat)} (W : Ways ws ways) (m : More L more) (hL : ∀ t p, (t, p) ∈ L ↔ t ∈ ways ∧ p ∈ w) : Ways (ws ++ [w]) more := by
  refine ⟨m.srt, fun t ht => ?_, fun r hr nr => ?_, m.nd⟩
  · obtain ⟨⟨u, p⟩, hx, nx, pm⟩ := m.snd t ht
    obtain ⟨hu, hp⟩ := (hL u p).mp hx
    obtain ⟨r, h1, h2, h3⟩ := W.snd u hu
    refine ⟨r ++ [p], h1.put hp, ?_, pm.trans (h3.append_right [p])⟩
    rw [List.nodup_append]
    refine ⟨h2, by simp, fun a ha b hb e => ?_⟩
    rw [List.mem_singleton.mp hb] at e
    exact nx (h3.mem_iff.mpr (e ▸ ha))
  · obtain ⟨r', p, e, h1, h2⟩ := hr.last
    subst e
    rw [List.nodup_append] at nr
    obtain ⟨u, hu, pu⟩ := W.cmp r' h1 nr.1
    have np : p ∉ u := fun k => nr.2.2 p (pu.mem_iff.mp k) p (List.mem_singleton.mpr rfl) rfl
    obtain ⟨t, ht, pt⟩ := m.cmp (u, p) ((hL u p).mpr ⟨hu, h2⟩) np
    exact ⟨t, ht, pt.trans (pu.append_right [p])⟩
/-- two rising lists of the same things are one -/
theorem same_sorted : ∀ {a b : List Nat}, a.Perm b → a.Pairwise (· ≤ ·) → b.Pairwise (· ≤ ·) → a = b := by
  intro a b p ha hb
  exact List.Perm.eq_of_pairwise (fun x y _ _ h1 h2 => Nat.le_antisymm h1 h2) ha hb p
/-! ### how many ways -/
theorem bools : ∀ (n : Nat) (l : List (List Bool)), l.Nodup → (∀ b ∈ l, b.length = n) → l.length ≤ 2 ^ n
  | 0, l, nd, h => by
    match l, nd, h with
    | [], _, _ => exact Nat.zero_le _
    | [_], _, _ => exact Nat.le_refl _
    | a :: b :: r, nd, h =>
      have e1 := List.eq_nil_of_length_eq_zero (h a (List.mem_cons_self ..))
      have e2 := List.eq_nil_of_length_eq_zero (h b (List.mem_cons_of_mem _ (List.mem_cons_self ..)))
      rw [e1, e2] at nd
      exact absurd (List.mem_cons_self ..) (List.nodup_cons.mp nd).1
  | n + 1, l, nd, h => by
    have half : ∀ c : Bool, (l.filter fun b => b.head? == some c).length ≤ 2 ^ n := fun c => by
      have hh : ∀ b ∈ l.filter (fun b => b.head? == some c), b = c :: b.tail := fun b hb => by
        have k := (List.mem_filter.mp hb).2
        cases b with
        | nil => simp at k
        | cons d r =>
          have : d = c := by simpa using k
          rw [this]
          rfl
      have q := bools n ((l.filter fun b => b.head? == some c).map List.tail) (nodup_map _ _ (List.filter_sublist.nodup nd) fun a ha b hb e => by rw [hh a ha, hh b hb, e]) (fun b hb => by
        obtain ⟨a, ha, rfl⟩ := List.mem_map.mp hb
        rw [List.length_tail, h a (List.mem_filter.mp ha).1]
        rfl)
      rw [List.length_map] at q
      exact q
    have cut : ∀ (l : List (List Bool)), (∀ b ∈ l, b.length = n + 1) → l.length = (l.filter fun b => b.head? == some true).length + (l.filter fun b => b.head? == some false).length := by
      intro l
      induction l with
      | nil => exact fun _ => rfl
      | cons a r ih =>
        intro h
        have ih' := ih fun b hb => h b (List.mem_cons_of_mem _ hb)
        have ha := h a (List.mem_cons_self ..)
        cases a with
        | nil => simp at ha
        | cons d s =>
          cases d with
          | true => simp; omega
          | false => simp; omega
    have a := half true
    have b := half false
    rw [cut l h, Nat.pow_succ]
    omega
theorem few {U : List Nat} {l : List (List Nat)} (nd : l.Nodup) (h : ∀ t ∈ l, t.Pairwise (· ≤ ·) ∧ t.Nodup ∧ ∀ p ∈ t, p ∈ U) : l.length ≤ 2 ^ U.length := by
  have q := bools U.length (l.map fun t => U.map fun u => decide (u ∈ t)) (nodup_map _ _ nd fun a ha b hb e => ?_) (fun b hb => ?_)
  · rw [List.length_map] at q
    exact q
  · have ka := h a ha
    have kb := h b hb
    have mem : ∀ u ∈ U, (u ∈ a ↔ u ∈ b) := fun u hu => by
      have := List.map_inj_left.mp e u hu
      rw [Bool.eq_iff_iff, decide_eq_true_eq, decide_eq_true_eq] at this
      exact this
    have p : a.Perm b := (List.perm_ext_iff_of_nodup ka.2.1 kb.2.1).mpr fun u => ⟨fun k => (mem u (ka.2.2 u k)).mp k, fun k => (mem u (kb.2.2 u k)).mpr k⟩
    exact same_sorted p ka.1 kb.1
  · obtain ⟨t, _, rfl⟩ := List.mem_map.mp hb
    rw [List.length_map]
end PM
namespace MT
/-- what point 6 says, over lists of different things -/
structure Mat (F : List Nat → Prop) : Prop where
  nil : F []
  sub : ∀ {xs ys : List Nat}, xs.Nodup → ys.Nodup → (∀ x ∈ xs, x ∈ ys) → F ys → F xs
  exch : ∀ {xs ys : List Nat}, xs.Nodup → ys.Nodup → F xs → F ys → xs.length < ys.length → ∃ y ∈ ys, y ∉ xs ∧ F (y :: xs)
/-! ### counts -/
theorem le_of_sub : ∀ (l T : List Nat), l.Nodup → (∀ x ∈ l, x ∈ T) → l.length ≤ T.length
  | [], _, _, _ => Nat.zero_le _
  | x :: l, T, nd, s => by
    have nd' := List.nodup_cons.mp nd
    have hx := s x (List.mem_cons_self ..)
    have ih := le_of_sub l (T.erase x) nd'.2 fun y hy => by
      have ne : y ≠ x := fun e => nd'.1 (e ▸ hy)
      exact (List.mem_erase_of_ne ne).mpr (s y (List.mem_cons_of_mem _ hy))
    rw [List.length_erase_of_mem hx] at ih
    have : 0 < T.length := List.length_pos_of_mem hx
    show l.length + 1 ≤ T.length
    omega
/-- those in ys, those not -/
def inn (xs ys : List Nat) : List Nat := xs.filter fun x => decide (x ∈ ys)
def out (xs ys : List Nat) : List Nat := xs.filter fun x => !decide (x ∈ ys)
theorem mem_inn {xs ys : List Nat} {x : Nat} : x ∈ inn xs ys ↔ x ∈ xs ∧ x ∈ ys := by simp [inn]
theorem mem_out {xs ys : List Nat} {x : Nat} : x ∈ out xs ys ↔ x ∈ xs ∧ x ∉ ys := by simp [out]
theorem nd_inn {xs ys : List Nat} (h : xs.Nodup) : (inn xs ys).Nodup := List.filter_sublist.nodup h
theorem nd_out {xs ys : List Nat} (h : xs.Nodup) : (out xs ys).Nodup := List.filter_sublist.nodup h
theorem len_io : ∀ (xs ys : List Nat), xs.length = (inn xs ys).length + (out xs ys).length
  | [], _ => rfl
  | x :: xs, ys => by
    have ih := len_io xs ys
    unfold inn out at ih ⊢
    by_cases c : x ∈ ys
    · simp [c]; omega
    · simp [c]; omega
theorem inn_comm {xs ys : List Nat} (hx : xs.Nodup) (hy : ys.Nodup) : (inn xs ys).length = (inn ys xs).length := by
  refine ((List.perm_ext_iff_of_nodup (nd_inn hx) (nd_inn hy)).mpr fun a => ?_).length_eq
  rw [mem_inn, mem_inn]
  exact And.comm
theorem out_lt {xs ys : List Nat} (hx : xs.Nodup) (hy : ys.Nodup) (h : xs.length < ys.length) : (out xs ys).length < (out ys xs).length := by
  have a := len_io xs ys
  have b := len_io ys xs
  have c := inn_comm hx hy
  omega
theorem nd_cons {x : Nat} {xs : List Nat} (h : xs.Nodup) (n : x ∉ xs) : (x :: xs).Nodup := List.nodup_cons.mpr ⟨n, h⟩
theorem nd_app {xs ys : List Nat} (h1 : xs.Nodup) (h2 : ys.Nodup) (d : ∀ x ∈ xs, x ∉ ys) : (xs ++ ys).Nodup := by
  rw [List.nodup_append]
  exact ⟨h1, h2, fun a ha b hb e => d a ha (e ▸ hb)⟩
theorem nd_map {α β : Type} (g : α → β) : ∀ (l : List α), l.Nodup → (∀ x ∈ l, ∀ y ∈ l, g x = g y → x = y) → (l.map g).Nodup
  | [], _, _ => List.nodup_nil
  | x :: l, nd, inj => by
    have nd' := List.nodup_cons.mp nd
    rw [List.map_cons, List.nodup_cons]
    refine ⟨fun hm => ?_, nd_map g l nd'.2 fun a ha b hb => inj a (List.mem_cons_of_mem _ ha) b (List.mem_cons_of_mem _ hb)⟩
    obtain ⟨y, hy, e⟩ := List.mem_map.mp hm
    have := inj y (List.mem_cons_of_mem _ hy) x (List.mem_cons_self ..) e
    exact nd'.1 (this ▸ hy)
theorem Mat.perm {F : List Nat → Prop} (M : Mat F) {xs ys : List Nat} (h : xs.Nodup) (p : xs.Perm ys) : F xs ↔ F ys :=
  ⟨M.sub (p.nodup_iff.mp h) h fun _ k => p.mem_iff.mpr k, M.sub h (p.nodup_iff.mp h) fun _ k => p.mem_iff.mp k⟩
/-! ### what is grown, and ranks -/
def grow (f : List Nat → Bool) : List Nat → List Nat → List Nat
  | t, [] => t
  | t, x :: xs => if f (t ++ [x]) = true then grow f (t ++ [x]) xs else grow f t xs
theorem nd_snoc {x : Nat} {t : List Nat} (h : t.Nodup) (n : x ∉ t) : (t ++ [x]).Nodup := nd_app h (by simp) fun a ha hb => n (List.mem_singleton.mp hb ▸ ha)
structure Grown (f : List Nat → Bool) (t xs g : List Nat) : Prop where
  nd : g.Nodup
  low : ∀ x ∈ t, x ∈ g
  up : ∀ x ∈ g, x ∈ t ∨ x ∈ xs
  free : f g = true
  top : ∀ x ∈ xs, x ∉ g → f (g ++ [x]) = false
theorem grow_is {f : List Nat → Bool} (M : Mat fun xs => f xs = true) : ∀ (xs t : List Nat), (t ++ xs).Nodup → f t = true → Grown f t xs (grow f t xs)
  | [], t, nd, h => by
    rw [List.append_nil] at nd
    exact ⟨nd, fun _ k => k, fun _ k => .inl k, h, fun _ k => by cases k⟩
  | x :: xs, t, nd, h => by
    have nd0 := nd
    rw [List.nodup_append] at nd
    have ndx := List.nodup_cons.mp nd.2.1
    have nx : x ∉ t := fun k => nd.2.2 x k x (List.mem_cons_self ..) rfl
    show Grown f t (x :: xs) (if f (t ++ [x]) = true then grow f (t ++ [x]) xs else grow f t xs)
    by_cases c : f (t ++ [x]) = true
    · rw [if_pos c]
      have G := grow_is M xs (t ++ [x]) (by rw [List.append_assoc]; exact nd0) c
      refine ⟨G.nd, fun y hy => G.low y (List.mem_append_left _ hy), fun y hy => ?_, G.free, fun y hy ny => ?_⟩
      · rcases G.up y hy with e | e
        · rcases List.mem_append.mp e with k | k
          · exact .inl k
          · exact .inr (by rw [List.mem_singleton.mp k]; exact List.mem_cons_self ..)
        · exact .inr (List.mem_cons_of_mem _ e)
      · rcases List.mem_cons.mp hy with e | e
        · exact absurd (G.low y (by rw [e]; exact List.mem_append_right _ (List.mem_singleton.mpr rfl))) ny
        · exact G.top y e ny
    · rw [if_neg c]
      have G := grow_is M xs t (nd_app nd.1 ndx.2 fun a ha hb => nd.2.2 a ha a (List.mem_cons_of_mem _ hb) rfl) h
      refine ⟨G.nd, G.low, fun y hy => ?_, G.free, fun y hy ny => ?_⟩
      · rcases G.up y hy with e | e
        · exact .inl e
        · exact .inr (List.mem_cons_of_mem _ e)
      · rcases List.mem_cons.mp hy with e | e
        · subst e
          cases k : f (grow f t xs ++ [y]) with
          | false => rfl
          | true =>
            refine absurd (M.sub (ys := grow f t xs ++ [y]) (nd_snoc nd.1 nx) (nd_snoc G.nd ny) (fun z hz => ?_) k) c
            rcases List.mem_append.mp hz with q | q
            · exact List.mem_append_left _ (G.low z q)
            · exact List.mem_append_right _ q
        · exact G.top y e ny
/-- none within xs is greater -/
theorem Grown.most {f : List Nat → Bool} (M : Mat fun xs => f xs = true) {xs g ys : List Nat} (G : Grown f [] xs g) (hy : ys.Nodup) (sy : ∀ y ∈ ys, y ∈ xs) (fy : f ys = true) : ys.length ≤ g.length := by
  refine Nat.le_of_not_lt fun lt => ?_
  obtain ⟨y, y1, y2, y3⟩ := M.exch G.nd hy G.free fy lt
  have := G.top y (sy y y1) y2
  have p : f (g ++ [y]) = true := M.sub (ys := y :: g) (nd_snoc G.nd y2) (nd_cons G.nd y2) (fun z hz => by
    rcases List.mem_append.mp hz with q | q
    · exact List.mem_cons_of_mem _ q
    · rw [List.mem_singleton.mp q]; exact List.mem_cons_self ..) y3
  rw [p] at this
  cases this
/-- r is the count of a greatest free set in xs -/
structure Rank (F : List Nat → Prop) (xs : List Nat) (r : Nat) : Prop where
  has : ∃ ys : List Nat, ys.Nodup ∧ (∀ y ∈ ys, y ∈ xs) ∧ F ys ∧ ys.length = r
  most : ∀ ys : List Nat, ys.Nodup → (∀ y ∈ ys, y ∈ xs) → F ys → ys.length ≤ r
theorem Rank.one {F : List Nat → Prop} {xs : List Nat} {r s : Nat} (h : Rank F xs r) (k : Rank F xs s) : r = s := by
  obtain ⟨a, a1, a2, a3, a4⟩ := h.has
  obtain ⟨b, b1, b2, b3, b4⟩ := k.has
  have := h.most b b1 b2 b3
  have := k.most a a1 a2 a3
  omega
theorem rank_grow {f : List Nat → Bool} (M : Mat fun xs => f xs = true) {xs : List Nat} (nd : xs.Nodup) : Rank (fun ys => f ys = true) xs (grow f [] xs).length := by
  have G := grow_is M xs [] nd M.nil
  exact ⟨⟨_, G.nd, fun y hy => (G.up y hy).resolve_left (fun k => by cases k), G.free, rfl⟩, fun ys h1 h2 h3 => G.most M h1 h2 h3⟩
/-- a free set within xs grows to one that nothing of xs can be put to -/
theorem Mat.extend {F : List Nat → Prop} (M : Mat F) {t xs : List Nat} (ht : t.Nodup) (hx : xs.Nodup) (s : ∀ x ∈ t, x ∈ xs) (h : F t) :
    ∃ g : List Nat, g.Nodup ∧ (∀ x ∈ t, x ∈ g) ∧ (∀ x ∈ g, x ∈ xs) ∧ F g ∧ (∀ ys : List Nat, ys.Nodup → (∀ y ∈ ys, y ∈ xs) → F ys → ys.length ≤ g.length) := by
  classical
  have M' : Mat fun xs => decide (F xs) = true := ⟨decide_eq_true M.nil, fun a b c d => decide_eq_true (M.sub a b c (of_decide_eq_true d)), fun a b c d e => by
    obtain ⟨y, y1, y2, y3⟩ := M.exch a b (of_decide_eq_true c) (of_decide_eq_true d) e
    exact ⟨y, y1, y2, decide_eq_true y3⟩⟩
  have G := grow_is M' (out xs t) t (nd_app ht (nd_out hx) fun a ha hb => (mem_out.mp hb).2 ha) (decide_eq_true h)
  refine ⟨_, G.nd, G.low, fun x hx' => ?_, of_decide_eq_true G.free, fun ys h1 h2 h3 => ?_⟩
  · rcases G.up x hx' with e | e
    · exact s x e
    · exact (mem_out.mp e).1
  · refine Nat.le_of_not_lt fun lt => ?_
    obtain ⟨y, y1, y2, y3⟩ := M.exch G.nd h1 (of_decide_eq_true G.free) h3 lt
    have ny : y ∉ t := fun k => y2 (G.low y k)
    have := of_decide_eq_false (G.top y (mem_out.mpr ⟨h2 y y1, ny⟩) y2)
    exact this (M.sub (ys := y :: _) (nd_snoc G.nd y2) (nd_cons G.nd y2) (fun z hz => by
      rcases List.mem_append.mp hz with q | q
      · exact List.mem_cons_of_mem _ q
      · rw [List.mem_singleton.mp q]; exact List.mem_cons_self ..) y3)
theorem Mat.rank {F : List Nat → Prop} (M : Mat F) {xs : List Nat} (hx : xs.Nodup) : ∃ r, Rank F xs r := by
  obtain ⟨g, g1, _, g3, g4, g5⟩ := M.extend List.nodup_nil hx (fun _ h => by cases h) M.nil
  exact ⟨g.length, ⟨g, g1, g3, g4, rfl⟩, g5⟩
theorem Rank.sub {F : List Nat → Prop} {xs ys : List Nat} {r s : Nat} (h : Rank F xs r) (k : Rank F ys s) (hs : ∀ x ∈ xs, x ∈ ys) : r ≤ s := by
  obtain ⟨a, a1, a2, a3, a4⟩ := h.has
  have := k.most a a1 (fun x hx => hs x (a2 x hx)) a3
  omega
theorem Rank.le {F : List Nat → Prop} {xs : List Nat} {r : Nat} (h : Rank F xs r) : r ≤ xs.length := by
  obtain ⟨a, a1, a2, a3, a4⟩ := h.has
  have := le_of_sub a xs a1 a2
  omega
theorem Mat.free_iff {F : List Nat → Prop} (M : Mat F) {xs : List Nat} {r : Nat} (hx : xs.Nodup) (h : Rank F xs r) : F xs ↔ r = xs.length := by
  constructor
  · intro k
    have := h.most xs hx (fun _ h => h) k
    have := h.le
    omega
  · intro e
    obtain ⟨a, a1, a2, a3, a4⟩ := h.has
    refine M.sub hx a1 (fun x hx' => ?_) a3
    refine Classical.byContradiction fun n => ?_
    have := le_of_sub a (xs.erase x) a1 fun y hy => by
      have ne : y ≠ x := fun z => n (z ▸ hy)
      exact (List.mem_erase_of_ne ne).mpr (a2 y hy)
    rw [List.length_erase_of_mem hx'] at this
    have : 0 < xs.length := List.length_pos_of_mem hx'
    omega
/-! ### a ring -/
structure Ring (F : List Nat → Prop) (c : List Nat) : Prop where
  nd : c.Nodup
  dep : ¬ F c
  each : ∀ x ∈ c, F (c.erase x)
/-- a free set and another thing have at most one ring -/
theorem Ring.one {F : List Nat → Prop} (M : Mat F) {s c d : List Nat} {z : Nat} (hs : s.Nodup) (nz : z ∉ s) (fs : F s) (hc : Ring F c) (hd : Ring F d) (sc : ∀ x ∈ c, x = z ∨ x ∈ s) (sd : ∀ x ∈ d, x = z ∨ x ∈ s) : ∀ x ∈ c, x ∈ d := by
  intro x hx
  refine Classical.byContradiction fun nx => ?_
  -- c less x is free; with all of s and z but x it grows to as many as s: then s, z less x would be free, and d in it
  have zd : z ∈ d := Classical.byContradiction fun n => hd.dep (M.sub hd.nd hs (fun y hy => (sd y hy).resolve_left fun e => n (e ▸ hy)) fs)
  have zc : z ∈ c := Classical.byContradiction fun n => hc.dep (M.sub hc.nd hs (fun y hy => (sc y hy).resolve_left fun e => n (e ▸ hy)) fs)
  have xz : x ≠ z := fun e => nx (e ▸ zd)
  have xs : x ∈ s := (sc x hx).resolve_left xz
  have nd1 : (z :: s).Nodup := nd_cons hs nz
  obtain ⟨g, g1, g2, g3, g4, g5⟩ := M.extend (t := c.erase x) (xs := z :: s) (hc.nd.erase x) nd1 (fun y hy => by
    rcases sc y (List.mem_of_mem_erase hy) with e | e
    · rw [e]; exact List.mem_cons_self ..
    · exact List.mem_cons_of_mem _ e) (hc.each x hx)
  have len : s.length ≤ g.length := g5 s hs (fun y hy => List.mem_cons_of_mem _ hy) fs
  have xg : x ∉ g := fun k => hc.dep (M.sub hc.nd g1 (fun y hy => by
    by_cases e : y = x
    · rw [e]; exact k
    · exact g2 y ((List.mem_erase_of_ne e).mpr hy)) g4)
  -- g lies in z :: s without x, which has as many things as s
  have sub2 : ∀ y ∈ g, y ∈ (z :: s).erase x := fun y hy => (List.mem_erase_of_ne (show y ≠ x from fun e => xg (e ▸ hy))).mpr (g3 y hy)
  have l2 : ((z :: s).erase x).length = s.length := by
    rw [List.length_erase_of_mem (List.mem_cons_of_mem _ xs)]
    rfl
  have all : ∀ y ∈ (z :: s).erase x, y ∈ g := fun y hy => by
    refine Classical.byContradiction fun ny => ?_
    have := le_of_sub g (((z :: s).erase x).erase y) g1 fun u hu => (List.mem_erase_of_ne (show u ≠ y from fun e => ny (e ▸ hu))).mpr (sub2 u hu)
    rw [List.length_erase_of_mem hy] at this
    have : 0 < ((z :: s).erase x).length := List.length_pos_of_mem hy
    omega
  refine hd.dep (M.sub hd.nd g1 (fun y hy => ?_) g4)
  have ny : y ≠ x := fun e => nx (e ▸ hy)
  refine all y ((List.mem_erase_of_ne ny).mpr ?_)
  rcases sd y hy with e | e
  · rw [e]; exact List.mem_cons_self ..
  · exact List.mem_cons_of_mem _ e
/-! ### cut -/
theorem Mat.cut {F : List Nat → Prop} (M : Mat F) (b : Nat) : Mat fun xs => F xs ∧ xs.length ≤ b :=
  ⟨⟨M.nil, Nat.zero_le _⟩, fun a c s h => ⟨M.sub a c s h.1, Nat.le_trans (le_of_sub _ _ a s) h.2⟩, fun a c h k l => by
    obtain ⟨y, y1, y2, y3⟩ := M.exch a c h.1 k.1 l
    exact ⟨y, y1, y2, y3, Nat.le_trans l k.2⟩⟩
/-! ### kept: things counted anew -/
theorem Mat.kept {F : List Nat → Prop} (M : Mat F) (m : Nat) (s : Nat → Nat) (inj : ∀ a b, a < m → b < m → s a = s b → a = b) : Mat fun xs => (∀ x ∈ xs, x < m) ∧ F (xs.map s) := by
  have nd : ∀ {xs : List Nat}, xs.Nodup → (∀ x ∈ xs, x < m) → (xs.map s).Nodup := fun h k => nd_map s _ h fun a ha b hb => inj a b (k a ha) (k b hb)
  refine ⟨⟨fun _ h => (by cases h), M.nil⟩, fun a c u h => ⟨fun x hx => h.1 x (u x hx), M.sub (nd a fun x hx => h.1 x (u x hx)) (nd c h.1) (fun y hy => ?_) h.2⟩, fun a c h k l => ?_⟩
  · obtain ⟨x, hx, rfl⟩ := List.mem_map.mp hy
    exact List.mem_map.mpr ⟨x, u x hx, rfl⟩
  · obtain ⟨y, y1, y2, y3⟩ := M.exch (nd a h.1) (nd c k.1) h.2 k.2 (by rw [List.length_map, List.length_map]; exact l)
    obtain ⟨z, hz, rfl⟩ := List.mem_map.mp y1
    refine ⟨z, hz, fun n => y2 (List.mem_map.mpr ⟨z, n, rfl⟩), fun x hx => ?_, y3⟩
    rcases List.mem_cons.mp hx with e | e
    · rw [e]; exact k.1 z hz
    · exact h.1 x e
/-! ### held -/
theorem Mat.heldB {F : List Nat → Prop} (M : Mat F) {B : List Nat} (hB : B.Nodup) (fB : F B) : Mat fun xs => (∀ x ∈ xs, x ∉ B) ∧ F (B ++ xs) := by
  have nd : ∀ {xs : List Nat}, xs.Nodup → (∀ x ∈ xs, x ∉ B) → (B ++ xs).Nodup := fun h k => nd_app hB h fun a ha hb => k a hb ha
  refine ⟨⟨fun _ h => (by cases h), by rw [List.append_nil]; exact fB⟩, fun a c u h => ⟨fun x hx => h.1 x (u x hx), M.sub (nd a fun x hx => h.1 x (u x hx)) (nd c h.1) (fun y hy => ?_) h.2⟩, fun {xs ys} a c h k l => ?_⟩
  · rcases List.mem_append.mp hy with e | e
    · exact List.mem_append_left _ e
    · exact List.mem_append_right _ (u y e)
  · obtain ⟨y, y1, y2, y3⟩ := M.exch (nd a h.1) (nd c k.1) h.2 k.2 (by rw [List.length_append, List.length_append]; omega)
    have yB : y ∉ B := fun q => y2 (List.mem_append_left _ q)
    have ya : y ∉ xs := fun q => y2 (List.mem_append_right _ q)
    have yb : y ∈ ys := (List.mem_append.mp y1).resolve_left yB
    have kk : ∀ x ∈ y :: xs, x ∉ B := fun x hx => by
      rcases List.mem_cons.mp hx with e | e
      · rw [e]; exact yB
      · exact h.1 x e
    refine ⟨y, yb, ya, kk, M.sub (nd (nd_cons a ya) kk) (nd_cons (nd a h.1) y2) (fun z hz => ?_) y3⟩
    rcases List.mem_append.mp hz with e | e
    · exact List.mem_cons_of_mem _ (List.mem_append_left _ e)
    · rcases List.mem_cons.mp e with q | q
      · rw [q]; exact List.mem_cons_self ..
      · exact List.mem_cons_of_mem _ (List.mem_append_right _ q)
/-- put to S, xs makes the rank greater by as many as it has: the same as free with a greatest free set of S -/
theorem Mat.held_iff {F : List Nat → Prop} (M : Mat F) {S B xs : List Nat} {r t : Nat} (hS : S.Nodup) (hB : B.Nodup) (fB : F B) (sB : ∀ x ∈ B, x ∈ S) (rS : Rank F S r) (lB : B.length = r) (hx : xs.Nodup) (dx : ∀ x ∈ xs, x ∉ S) (rt : Rank F (S ++ xs) t) :
    t = r + xs.length ↔ F (B ++ xs) := by
  have ndBx : (B ++ xs).Nodup := nd_app hB hx fun a ha hb => dx a hb (sB a ha)
  have ndSx : (S ++ xs).Nodup := nd_app hS hx fun a ha hb => dx a hb ha
  have sBx : ∀ x ∈ B ++ xs, x ∈ S ++ xs := fun x h => by
    rcases List.mem_append.mp h with e | e
    · exact List.mem_append_left _ (sB x e)
    · exact List.mem_append_right _ e
  obtain ⟨g, g1, g2, g3, g4, g5⟩ := M.extend (t := B) (xs := S ++ xs) hB ndSx (fun x h => List.mem_append_left _ (sB x h)) fB
  have lt : g.length = t := by
    obtain ⟨a, a1, a2, a3, a4⟩ := rt.has
    have := g5 a a1 a2 a3
    have := rt.most g g1 g3 g4
    omega
  -- g holds nothing of S beside B
  have gS : ∀ x ∈ g, x ∈ S → x ∈ B := fun x hx hS' => by
    refine Classical.byContradiction fun n => ?_
    have f2 : F (B ++ [x]) := M.sub (nd_snoc hB n) g1 (fun z hz => by
      rcases List.mem_append.mp hz with e | e
      · exact g2 z e
      · rw [List.mem_singleton.mp e]; exact hx) g4
    have := rS.most _ (nd_snoc hB n) (fun z hz => by
      rcases List.mem_append.mp hz with e | e
      · exact sB z e
      · rw [List.mem_singleton.mp e]; exact hS') f2
    rw [List.length_append] at this
    simp at this
    omega
  have gB : ∀ x ∈ g, x ∈ B ++ xs := fun x hx => by
    rcases List.mem_append.mp (g3 x hx) with e | e
    · exact List.mem_append_left _ (gS x hx e)
    · exact List.mem_append_right _ e
  constructor
  · intro e
    refine M.sub ndBx g1 (fun x hx' => ?_) g4
    refine Classical.byContradiction fun n => ?_
    have := le_of_sub g ((B ++ xs).erase x) g1 fun u hu => (List.mem_erase_of_ne (show u ≠ x from fun e => n (e ▸ hu))).mpr (gB u hu)
    rw [List.length_erase_of_mem hx', List.length_append] at this
    have : 0 < (B ++ xs).length := List.length_pos_of_mem hx'
    rw [List.length_append] at this
    omega
  · intro h
    have a := rt.most _ ndBx sBx h
    have b := le_of_sub g _ g1 gB
    rw [List.length_append] at a b
    omega
/-! ### turned -/
theorem Mat.turned {F : List Nat → Prop} (M : Mat F) {E : List Nat} (hE : E.Nodup) {r : Nat} (rE : Rank F E r) : Mat fun xs => (∀ x ∈ xs, x ∈ E) ∧ Rank F (out E xs) r := by
  have mono : ∀ {xs ys : List Nat}, (∀ x ∈ xs, x ∈ ys) → Rank F (out E ys) r → Rank F (out E xs) r := fun s h => by
    obtain ⟨a, a1, a2, a3, a4⟩ := h.has
    exact ⟨⟨a, a1, fun y hy => (by
      have := mem_out.mp (a2 y hy)
      exact mem_out.mpr ⟨this.1, fun k => this.2 (s y k)⟩), a3, a4⟩, fun ys h1 h2 h3 => rE.most ys h1 (fun y hy => (mem_out.mp (h2 y hy)).1) h3⟩
  refine ⟨⟨fun _ h => (by cases h), ?_⟩, fun a c s h => ⟨fun x hx => h.1 x (s x hx), mono s h.2⟩, fun {xs ys} hx hy h k l => ?_⟩
  · obtain ⟨a, a1, a2, a3, a4⟩ := rE.has
    exact ⟨⟨a, a1, fun y hy => mem_out.mpr ⟨a2 y hy, fun z => by cases z⟩, a3, a4⟩, fun ys h1 h2 h3 => rE.most ys h1 (fun y hy => (mem_out.mp (h2 y hy)).1) h3⟩
  · refine Classical.byContradiction fun no => ?_
    have no' : ∀ y ∈ ys, y ∉ xs → ∀ b : List Nat, b.Nodup → (∀ x ∈ b, x ∈ out E xs) → F b → b.length = r → y ∈ b := fun y y1 y2 b b1 b2 b3 b4 => by
      refine Classical.byContradiction fun nb => no ⟨y, y1, y2, fun x hx' => ?_, ⟨b, b1, fun x hx' => ?_, b3, b4⟩, fun zs h1 h2 h3 => rE.most zs h1 (fun z hz => (mem_out.mp (h2 z hz)).1) h3⟩
      · rcases List.mem_cons.mp hx' with e | e
        · rw [e]; exact k.1 y y1
        · exact h.1 x e
      · have := mem_out.mp (b2 x hx')
        refine mem_out.mpr ⟨this.1, fun q => ?_⟩
        rcases List.mem_cons.mp q with e | e
        · exact nb (e ▸ hx')
        · exact this.2 e
    obtain ⟨b', c1, c2, c3, c4⟩ := k.2.has
    -- what of b' lies outside xs grows, outside xs, to a greatest one
    obtain ⟨b, d1, d2, d3, d4, d5⟩ := M.extend (t := out b' xs) (xs := out E xs) (nd_out c1) (nd_out hE) (fun x hx' => by
      have := mem_out.mp hx'
      exact mem_out.mpr ⟨(mem_out.mp (c2 x this.1)).1, this.2⟩) (M.sub (nd_out c1) c1 (fun x hx' => (mem_out.mp hx').1) c3)
    have lb : b.length = r := by
      obtain ⟨a, a1, a2, a3, a4⟩ := h.2.has
      have := d5 a a1 a2 a3
      have := h.2.most b d1 d3 d4
      omega
    have big : (out b' xs ++ out ys xs).length ≤ b.length := le_of_sub _ b (nd_app (nd_out c1) (nd_out hy) fun x h1 h2 => by
      have := mem_out.mp (c2 x (mem_out.mp h1).1)
      exact this.2 (mem_out.mp h2).1) fun x hx' => by
      rcases List.mem_append.mp hx' with e | e
      · exact d2 x e
      · exact no' x (mem_out.mp e).1 (mem_out.mp e).2 b d1 d3 d4 lb
    have io := len_io b' xs
    have il : (inn b' xs).length ≤ (out xs ys).length := le_of_sub _ _ (nd_inn c1) fun x hx' => by
      have := mem_inn.mp hx'
      exact mem_out.mpr ⟨this.2, fun q => (mem_out.mp (c2 x this.1)).2 q⟩
    have ol := out_lt hx hy l
    rw [List.length_append] at big
    omega
/-! ### beside -/
theorem Mat.beside {F G : List Nat → Prop} (M : Mat F) (N : Mat G) (a : Nat) : Mat fun xs => F (xs.filter fun x => decide (x < a)) ∧ G ((xs.filter fun x => !decide (x < a)).map (· - a)) := by
  have lo : ∀ {x : Nat} {xs : List Nat}, x ∈ (xs.filter fun x => decide (x < a)) ↔ x ∈ xs ∧ x < a := fun {x xs} => by simp
  have hi : ∀ {x : Nat} {xs : List Nat}, x ∈ (xs.filter fun x => !decide (x < a)) ↔ x ∈ xs ∧ a ≤ x := fun {x xs} => by simp
  have ndl : ∀ {xs : List Nat}, xs.Nodup → (xs.filter fun x => decide (x < a)).Nodup := fun h => List.filter_sublist.nodup h
  have ndh : ∀ {xs : List Nat}, xs.Nodup → ((xs.filter fun x => !decide (x < a)).map (· - a)).Nodup := fun h => nd_map _ _ (List.filter_sublist.nodup h) fun x hx y hy e => by
    have := (hi.mp hx).2
    have := (hi.mp hy).2
    have e : x - a = y - a := e
    omega
  have cut : ∀ xs : List Nat, xs.length = (xs.filter fun x => decide (x < a)).length + ((xs.filter fun x => !decide (x < a)).map (· - a)).length := fun xs => by
    rw [List.length_map]
    induction xs with
    | nil => rfl
    | cons x xs ih =>
      by_cases c : x < a
      · simp [c] at ih ⊢; omega
      · simp [c] at ih ⊢; omega
  refine ⟨⟨M.nil, N.nil⟩, fun {xs ys} h1 h2 s h => ⟨M.sub (ndl h1) (ndl h2) (fun x hx => lo.mpr ⟨s x (lo.mp hx).1, (lo.mp hx).2⟩) h.1, N.sub (ndh h1) (ndh h2) (fun x hx => ?_) h.2⟩, fun {xs ys} h1 h2 h k l => ?_⟩
  · obtain ⟨y, hy, rfl⟩ := List.mem_map.mp hx
    exact List.mem_map.mpr ⟨y, hi.mpr ⟨s y (hi.mp hy).1, (hi.mp hy).2⟩, rfl⟩
  · have c1 := cut xs
    have c2 := cut ys
    by_cases c : (xs.filter fun x => decide (x < a)).length < (ys.filter fun x => decide (x < a)).length
    · obtain ⟨y, y1, y2, y3⟩ := M.exch (ndl h1) (ndl h2) h.1 k.1 c
      have ya := (lo.mp y1).2
      refine ⟨y, (lo.mp y1).1, fun q => y2 (lo.mpr ⟨q, ya⟩), ?_, ?_⟩
      · rw [List.filter_cons_of_pos (by simpa using ya)]
        exact y3
      · rw [List.filter_cons_of_neg (by simpa using ya)]
        exact h.2
    · obtain ⟨z, z1, z2, z3⟩ := N.exch (ndh h1) (ndh h2) h.2 k.2 (by omega)
      obtain ⟨y, y1, rfl⟩ := List.mem_map.mp z1
      have ya := (hi.mp y1).2
      refine ⟨y, (hi.mp y1).1, fun q => z2 (List.mem_map.mpr ⟨y, hi.mpr ⟨q, ya⟩, rfl⟩), ?_, ?_⟩
      · rw [List.filter_cons_of_neg (by simpa using ya)]
        exact h.1
      · rw [List.filter_cons_of_pos (by simpa using ya), List.map_cons]
        exact z3
end MT
namespace MT
/-! ### joined: each thing has a rule's number -/
def col (c : Nat → Nat) (i : Nat) (xs : List Nat) : List Nat := xs.filter fun x => decide (c x = i)
theorem mem_col {c : Nat → Nat} {i x : Nat} {xs : List Nat} : x ∈ col c i xs ↔ x ∈ xs ∧ c x = i := by simp [col]
theorem nd_col {c : Nat → Nat} {i : Nat} {xs : List Nat} (h : xs.Nodup) : (col c i xs).Nodup := List.filter_sublist.nodup h
def below (c : Nat → Nat) (k : Nat) (xs : List Nat) : List Nat := xs.filter fun x => decide (c x < k)
theorem below_succ (c : Nat → Nat) (k : Nat) : ∀ xs : List Nat, (below c (k + 1) xs).length = (below c k xs).length + (col c k xs).length
  | [] => rfl
  | x :: xs => by
    have ih := below_succ c k xs
    unfold below col at ih ⊢
    by_cases h1 : c x < k
    · have h2 : c x < k + 1 := by omega
      have h3 : ¬ c x = k := by omega
      simp [h1, h2, h3]; omega
    · by_cases h3 : c x = k
      · have h2 : c x < k + 1 := by omega
        simp [h1, h2, h3]; omega
      · have h2 : ¬ c x < k + 1 := by omega
        simp [h1, h2, h3]; omega
theorem below_all {c : Nat → Nat} {k : Nat} {xs : List Nat} (h : ∀ x ∈ xs, c x < k) : below c k xs = xs := List.filter_eq_self.mpr fun x hx => decide_eq_true (h x hx)
theorem below_le {c d : Nat → Nat} {xs ys : List Nat} : ∀ k, (∀ i, i < k → (col d i ys).length ≤ (col c i xs).length) → (below d k ys).length ≤ (below c k xs).length
  | 0, _ => by
    have : below d 0 ys = [] := List.filter_eq_nil_iff.mpr fun x _ => by simp
    rw [this]
    exact Nat.zero_le _
  | k + 1, h => by
    rw [below_succ, below_succ]
    have a := below_le (c := c) (d := d) (xs := xs) (ys := ys) k fun i hi => h i (by omega)
    have b := h k (by omega)
    omega
/-- a colour with fewer of xs than of ys -/
theorem col_lt {c d : Nat → Nat} {k : Nat} {xs ys : List Nat} (hx : ∀ x ∈ xs, c x < k) (hy : ∀ x ∈ ys, d x < k) (l : xs.length < ys.length) : ∃ i, i < k ∧ (col c i xs).length < (col d i ys).length := by
  refine Classical.byContradiction fun no => ?_
  have := below_le (c := c) (d := d) (xs := xs) (ys := ys) k fun i hi => Nat.le_of_not_lt fun q => no ⟨i, hi, q⟩
  rw [below_all hx, below_all hy] at this
  omega
def Jn (k : Nat) (F : Nat → List Nat → Prop) (xs : List Nat) : Prop := ∃ c : Nat → Nat, (∀ x ∈ xs, c x < k) ∧ ∀ i, i < k → F i (col c i xs)
def set (c : Nat → Nat) (y i : Nat) : Nat → Nat := fun x => if x = y then i else c x
theorem set_at {c : Nat → Nat} {y i : Nat} : set c y i y = i := if_pos rfl
theorem set_ne {c : Nat → Nat} {y i x : Nat} (n : x ≠ y) : set c y i x = c x := if_neg n
theorem jn_exch {k : Nat} {F : Nat → List Nat → Prop} (M : ∀ i, i < k → Mat (F i)) {xs ys : List Nat} (hx : xs.Nodup) (hy : ys.Nodup) (l : xs.length < ys.length) (d : Nat → Nat) (hd : ∀ x ∈ ys, d x < k) (fd : ∀ i, i < k → F i (col d i ys)) :
    ∀ (n : Nat) (c : Nat → Nat), (∀ x ∈ xs, c x < k) → (∀ i, i < k → F i (col c i xs)) → xs.length - (xs.filter fun x => decide (x ∈ ys ∧ c x = d x)).length ≤ n → ∃ y ∈ ys, y ∉ xs ∧ Jn k F (y :: xs)
  | n, c, hc, fc, hn => by
    obtain ⟨i, ik, il⟩ := col_lt hc hd l
    obtain ⟨y, y1, y2, y3⟩ := (M i ik).exch (nd_col hx) (nd_col hy) (fc i ik) (fd i ik) il
    have yy := mem_col.mp y1
    have ndi : (y :: col c i xs).Nodup := nd_cons (nd_col hx) y2
    by_cases yx : y ∈ xs
    · -- y goes from its part to part i
      have cy : c y ≠ i := fun e => y2 (mem_col.mpr ⟨yx, e⟩)
      have hc' : ∀ x ∈ xs, set c y i x < k := fun x hx' => by
        by_cases e : x = y
        · rw [e, set_at]; exact ik
        · rw [set_ne e]; exact hc x hx'
      have fc' : ∀ j, j < k → F j (col (set c y i) j xs) := fun j jk => by
        by_cases e : j = i
        · subst e
          refine (M j jk).sub (nd_col hx) ndi (fun x hx' => ?_) y3
          have := mem_col.mp hx'
          by_cases e2 : x = y
          · rw [e2]; exact List.mem_cons_self ..
          · rw [set_ne e2] at this
            exact List.mem_cons_of_mem _ (mem_col.mpr this)
        · refine (M j jk).sub (nd_col hx) (nd_col hx) (fun x hx' => ?_) (fc j jk)
          have := mem_col.mp hx'
          by_cases e2 : x = y
          · rw [e2, set_at] at this
            exact absurd this.2.symm e
          · rw [set_ne e2] at this
            exact mem_col.mpr this
      have inc : (xs.filter fun x => decide (x ∈ ys ∧ c x = d x)).length + 1 ≤ (xs.filter fun x => decide (x ∈ ys ∧ set c y i x = d x)).length := by
        refine le_of_sub (y :: xs.filter fun x => decide (x ∈ ys ∧ c x = d x)) _ (nd_cons (List.filter_sublist.nodup hx) fun q => ?_) fun x hx' => ?_
        · have := of_decide_eq_true (List.mem_filter.mp q).2
          exact cy (this.2.trans yy.2)
        · rcases List.mem_cons.mp hx' with e | e
          · rw [e]
            exact List.mem_filter.mpr ⟨yx, decide_eq_true ⟨yy.1, by rw [set_at]; exact yy.2.symm⟩⟩
          · have q := List.mem_filter.mp e
            have q2 := of_decide_eq_true q.2
            have nx : x ≠ y := fun z => cy (by rw [← z]; rw [q2.2, z]; exact yy.2)
            exact List.mem_filter.mpr ⟨q.1, decide_eq_true ⟨q2.1, by rw [set_ne nx]; exact q2.2⟩⟩
      have lim := List.length_filter_le (fun x => decide (x ∈ ys ∧ set c y i x = d x)) xs
      cases n with
      | zero => omega
      | succ n => exact jn_exch M hx hy l d hd fd n (set c y i) hc' fc' (by omega)
    · refine ⟨y, yy.1, yx, set c y i, fun x hx' => ?_, fun j jk => ?_⟩
      · rcases List.mem_cons.mp hx' with e | e
        · rw [e, set_at]; exact ik
        · rw [set_ne (show x ≠ y from fun z => yx (z ▸ e))]; exact hc x e
      · have nd2 : (col (set c y i) j (y :: xs)).Nodup := nd_col (nd_cons hx yx)
        by_cases e : j = i
        · subst e
          refine (M j jk).sub nd2 ndi (fun x hx' => ?_) y3
          have := mem_col.mp hx'
          by_cases e2 : x = y
          · rw [e2]; exact List.mem_cons_self ..
          · rw [set_ne e2] at this
            exact List.mem_cons_of_mem _ (mem_col.mpr ⟨(List.mem_cons.mp this.1).resolve_left e2, this.2⟩)
        · refine (M j jk).sub nd2 (nd_col hx) (fun x hx' => ?_) (fc j jk)
          have := mem_col.mp hx'
          by_cases e2 : x = y
          · rw [e2, set_at] at this
            exact absurd this.2.symm e
          · rw [set_ne e2] at this
            exact mem_col.mpr ⟨(List.mem_cons.mp this.1).resolve_left e2, this.2⟩
theorem Mat.joined {k : Nat} {F : Nat → List Nat → Prop} (hk : 0 < k) (M : ∀ i, i < k → Mat (F i)) : Mat (Jn k F) := by
  refine ⟨⟨fun _ => 0, fun _ _ => hk, fun i ik => (M i ik).nil⟩, fun {xs ys} h1 h2 s h => ?_, fun {xs ys} h1 h2 h g l => ?_⟩
  · obtain ⟨c, c1, c2⟩ := h
    exact ⟨c, fun x hx => c1 x (s x hx), fun i ik => (M i ik).sub (nd_col h1) (nd_col h2) (fun x hx => mem_col.mpr ⟨s x (mem_col.mp hx).1, (mem_col.mp hx).2⟩) (c2 i ik)⟩
  · obtain ⟨c, c1, c2⟩ := h
    obtain ⟨d, d1, d2⟩ := g
    exact jn_exch M h1 h2 l d d1 d2 _ c c1 c2 (Nat.le_refl _)
/-! ### kinds -/
theorem Mat.kinds (kind most : Nat → Nat) (m : Nat) : Mat fun xs => ∀ c, c < m → (col kind c xs).length ≤ most c ∧ ∀ x ∈ xs, kind x < m := by
  refine ⟨fun c _ => ⟨Nat.zero_le _, fun x h => by cases h⟩, fun {xs ys} h1 h2 s h c hc => ⟨Nat.le_trans (le_of_sub _ _ (nd_col h1) fun x hx => mem_col.mpr ⟨s x (mem_col.mp hx).1, (mem_col.mp hx).2⟩) (h c hc).1, fun x hx => (h c hc).2 x (s x hx)⟩, fun {xs ys} h1 h2 h g l => ?_⟩
  by_cases m0 : 0 < m
  · have kx := (h 0 m0).2
    have ky := (g 0 m0).2
    obtain ⟨i, ik, il⟩ := col_lt kx ky l
    have : ∃ y ∈ col kind i ys, y ∉ col kind i xs := Classical.byContradiction fun no => by
      have := le_of_sub (col kind i ys) (col kind i xs) (nd_col h2) fun y hy => Classical.byContradiction fun q => no ⟨y, hy, q⟩
      omega
    obtain ⟨y, y1, y2⟩ := this
    have yy := mem_col.mp y1
    have yx : y ∉ xs := fun q => y2 (mem_col.mpr ⟨q, yy.2⟩)
    refine ⟨y, yy.1, yx, fun c hc => ⟨?_, fun x hx => ?_⟩⟩
    · by_cases e : c = i
      · subst e
        have : (col kind c (y :: xs)) = y :: col kind c xs := List.filter_cons_of_pos (by simpa using yy.2)
        rw [this]
        have := (g c hc).1
        show (col kind c xs).length + 1 ≤ most c
        omega
      · have : (col kind c (y :: xs)) = col kind c xs := List.filter_cons_of_neg (by simp; intro z; exact e (z.symm.trans yy.2))
        rw [this]
        exact (h c hc).1
    · rcases List.mem_cons.mp hx with e | e
      · rw [e]; exact ky y yy.1
      · exact kx x e
  · have : ∃ y ∈ ys, y ∉ xs := Classical.byContradiction fun no => by
      have := le_of_sub ys xs h2 fun y hy => Classical.byContradiction fun q => no ⟨y, hy, q⟩
      omega
    obtain ⟨y, y1, y2⟩ := this
    exact ⟨y, y1, y2, fun c hc => absurd (Nat.lt_of_le_of_lt (Nat.zero_le _) hc) m0⟩
/-! ### what is closed: bits and threads alike -/
structure Clo {α : Type} (cl : List α → α → Prop) : Prop where
  mem : ∀ {l : List α} {x : α}, x ∈ l → cl l x
  cut : ∀ {l m : List α} {f : α}, (∀ x ∈ m, cl l x) → cl m f → cl l f
  exch : ∀ {l : List α} {x y : α}, ¬ cl l x → cl (y :: l) x → cl (x :: l) y
def Ind {α : Type} (cl : List α → α → Prop) : List α → Prop
  | [] => True
  | x :: l => ¬ cl l x ∧ Ind cl l
section
variable {α : Type} {cl : List α → α → Prop}
theorem Clo.sub (C : Clo cl) {l m : List α} {f : α} (s : ∀ x ∈ m, x ∈ l) (h : cl m f) : cl l f := C.cut (fun x hx => C.mem (s x hx)) h
theorem Clo.perm (C : Clo cl) {l m : List α} (p : l.Perm m) (f : α) : cl l f ↔ cl m f := ⟨C.sub fun _ h => p.mem_iff.mp h, C.sub fun _ h => p.mem_iff.mpr h⟩
theorem Ind.swap (C : Clo cl) {x y : α} {l : List α} (h : Ind cl (x :: y :: l)) : Ind cl (y :: x :: l) :=
  ⟨fun k => h.1 (C.exch h.2.1 k), fun k => h.1 (C.sub (fun _ q => List.mem_cons_of_mem _ q) k), h.2.2⟩
theorem Ind.perm (C : Clo cl) {l m : List α} (p : l.Perm m) : Ind cl l ↔ Ind cl m := by
  induction p with
  | nil => exact Iff.rfl
  | cons x q ih => exact and_congr (not_congr (C.perm q x)) ih
  | swap x y l => exact ⟨Ind.swap C, Ind.swap C⟩
  | trans _ _ h1 h2 => exact h1.trans h2
theorem Ind.tail : ∀ {a l : List α}, Ind cl (a ++ l) → Ind cl l
  | [], _, h => h
  | _ :: a, _, h => Ind.tail (a := a) h.2
theorem Ind.app_left (C : Clo cl) {a l : List α} (h : Ind cl (a ++ l)) : Ind cl a := Ind.tail (a := l) ((Ind.perm C List.perm_append_comm).mp h)
/-- a first one of xs, from behind, that brings y in -/
theorem first_in (C : Clo cl) {y : α} {zs : List α} (n : ¬ cl zs y) : ∀ {xs : List α}, cl (xs ++ zs) y → ∃ as x bs, xs = as ++ x :: bs ∧ ¬ cl (bs ++ zs) y ∧ cl (x :: (bs ++ zs)) y
  | [], h => absurd h n
  | x :: xs, h => by
    by_cases c : cl (xs ++ zs) y
    · obtain ⟨as, u, bs, e, k1, k2⟩ := first_in C n c
      exact ⟨x :: as, u, bs, by rw [e]; rfl, k1, k2⟩
    · exact ⟨[], x, xs, rfl, c, h⟩
theorem steinitz (C : Clo cl) : ∀ (ys xs zs : List α), Ind cl (ys ++ zs) → (∀ y ∈ ys, cl (xs ++ zs) y) → ys.length ≤ xs.length
  | [], _, _, _, _ => Nat.zero_le _
  | y :: ys, xs, zs, i, h => by
    have ny : ¬ cl zs y := fun k => i.1 (C.sub (fun _ q => List.mem_append_right _ q) k)
    obtain ⟨as, x, bs, e, k1, k2⟩ := first_in C ny (h y (List.mem_cons_self ..))
    have kx : cl (y :: (bs ++ zs)) x := C.exch k1 k2
    have ih := steinitz C ys (as ++ bs) (y :: zs) ((Ind.perm C (List.perm_middle.symm)).mp i) fun u hu => by
      refine C.cut (m := xs ++ zs) (fun v hv => ?_) (h u (List.mem_cons_of_mem _ hu))
      rw [e] at hv
      have step : ∀ w ∈ y :: (bs ++ zs), cl (as ++ bs ++ y :: zs) w := fun w hw => C.mem (by
        rcases List.mem_cons.mp hw with q | q
        · rw [q]; exact List.mem_append_right _ (List.mem_cons_self ..)
        · rcases List.mem_append.mp q with r | r
          · exact List.mem_append_left _ (List.mem_append_right _ r)
          · exact List.mem_append_right _ (List.mem_cons_of_mem _ r))
      rcases List.mem_append.mp hv with q | q
      · rcases List.mem_append.mp q with r | r
        · exact C.mem (List.mem_append_left _ (List.mem_append_left _ r))
        · rcases List.mem_cons.mp r with t | t
          · rw [t]
            exact C.cut step kx
          · exact C.mem (List.mem_append_left _ (List.mem_append_right _ t))
      · exact C.mem (List.mem_append_right _ (List.mem_cons_of_mem _ q))
    rw [e]
    rw [List.length_append] at ih ⊢
    show ys.length + 1 ≤ as.length + (bs.length + 1)
    omega
theorem Clo.mat (C : Clo cl) (row : Nat → α) : Mat fun xs => Ind cl (xs.map row) := by
  refine ⟨True.intro, fun {xs ys} h1 h2 s h => ?_, fun {xs ys} h1 h2 h g l => ?_⟩
  · have p : ys.Perm (xs ++ out ys xs) := (List.perm_ext_iff_of_nodup h2 (nd_app h1 (nd_out h2) fun a ha hb => (mem_out.mp hb).2 ha)).mpr fun a => by
      constructor
      · intro ha
        by_cases c : a ∈ xs
        · exact List.mem_append_left _ c
        · exact List.mem_append_right _ (mem_out.mpr ⟨ha, c⟩)
      · intro ha
        rcases List.mem_append.mp ha with e | e
        · exact s a e
        · exact (mem_out.mp e).1
    have := (Ind.perm C (p.map row)).mp h
    rw [List.map_append] at this
    exact Ind.app_left C this
  · refine Classical.byContradiction fun no => ?_
    have all : ∀ y ∈ ys.map row, cl (xs.map row ++ []) y := fun r hr => by
      rw [List.append_nil]
      obtain ⟨y, hy, rfl⟩ := List.mem_map.mp hr
      by_cases c : y ∈ xs
      · exact C.mem (List.mem_map.mpr ⟨y, c, rfl⟩)
      · exact Classical.byContradiction fun k => no ⟨y, hy, c, k, h⟩
    have := steinitz C (ys.map row) (xs.map row) [] (by rw [List.append_nil]; exact g) all
    rw [List.length_map, List.length_map] at this
    omega
end
/-! ### whole sets -/
structure Base (F : List Nat → Prop) (E b : List Nat) : Prop where
  nd : b.Nodup
  sub : ∀ x ∈ b, x ∈ E
  free : F b
  rank : Rank F E b.length
theorem Base.len {F : List Nat → Prop} {E a b : List Nat} (h : Base F E a) (k : Base F E b) : a.length = b.length := h.rank.one k.rank
theorem Base.of_len {F : List Nat → Prop} {E a b : List Nat} (h : Base F E a) (nd : b.Nodup) (sub : ∀ x ∈ b, x ∈ E) (free : F b) (l : b.length = a.length) : Base F E b := ⟨nd, sub, free, l ▸ h.rank⟩
/-- a thing goes out, one of the other comes in -/
theorem Base.change {F : List Nat → Prop} (M : Mat F) {E a b : List Nat} (ha : Base F E a) (hb : Base F E b) {x : Nat} (xa : x ∈ a) (xb : x ∉ b) : ∃ y ∈ b, y ∉ a ∧ Base F E (y :: a.erase x) := by
  have l : (a.erase x).length < b.length := by
    rw [List.length_erase_of_mem xa, ← ha.len hb]
    have : 0 < a.length := List.length_pos_of_mem xa
    omega
  obtain ⟨y, y1, y2, y3⟩ := M.exch (ha.nd.erase x) hb.nd (M.sub (ha.nd.erase x) ha.nd (fun z hz => List.mem_of_mem_erase hz) ha.free) hb.free l
  have yx : y ≠ x := fun e => xb (e ▸ y1)
  have ya : y ∉ a := fun k => y2 ((List.mem_erase_of_ne yx).mpr k)
  refine ⟨y, y1, ya, ha.of_len (nd_cons (ha.nd.erase x) y2) (fun z hz => ?_) y3 ?_⟩
  · rcases List.mem_cons.mp hz with e | e
    · rw [e]; exact hb.sub y y1
    · exact ha.sub z (List.mem_of_mem_erase e)
  · show (a.erase x).length + 1 = a.length
    rw [List.length_erase_of_mem xa]
    have : 0 < a.length := List.length_pos_of_mem xa
    omega
/-- .. both ways -/
theorem Base.both {F : List Nat → Prop} (M : Mat F) {E a b : List Nat} (hE : E.Nodup) (ha : Base F E a) (hb : Base F E b) {x : Nat} (xa : x ∈ a) (xb : x ∉ b) : ∃ y ∈ b, y ∉ a ∧ Base F E (y :: a.erase x) ∧ Base F E (x :: b.erase y) := by
  -- the things of b that may give place to x
  let good := b.filter fun y => @decide (F (x :: b.erase y)) (Classical.propDecidable _)
  have mg : ∀ {y}, y ∈ good ↔ y ∈ b ∧ F (x :: b.erase y) := fun {y} => by
    show y ∈ b.filter _ ↔ _
    rw [List.mem_filter]
    exact and_congr Iff.rfl (@decide_eq_true_iff _ (Classical.propDecidable _))
  have lb : ∀ {y}, y ∈ b → (x :: b.erase y).length = b.length := fun {y} hy => by
    show (b.erase y).length + 1 = b.length
    rw [List.length_erase_of_mem hy]
    have : 0 < b.length := List.length_pos_of_mem hy
    omega
  have ndxb : ∀ {y}, (x :: b.erase y).Nodup := fun {y} => nd_cons (hb.nd.erase y) fun k => xb (List.mem_of_mem_erase k)
  refine Classical.byContradiction fun no => ?_
  have notin : ∀ y ∈ good, y ∈ a.erase x ∨ ¬ F (y :: a.erase x) := fun y hy => by
    by_cases c : y ∈ a.erase x
    · exact .inl c
    · refine .inr fun f => ?_
      have q := mg.mp hy
      have yx : y ≠ x := fun e => xb (e ▸ q.1)
      have ya : y ∉ a := fun k => c ((List.mem_erase_of_ne yx).mpr k)
      refine no ⟨y, q.1, ya, ha.of_len (nd_cons (ha.nd.erase x) c) (fun z hz => ?_) f ?_, hb.of_len ndxb (fun z hz => ?_) q.2 (lb q.1)⟩
      · rcases List.mem_cons.mp hz with e | e
        · rw [e]; exact hb.sub y q.1
        · exact ha.sub z (List.mem_of_mem_erase e)
      · show (a.erase x).length + 1 = a.length
        rw [List.length_erase_of_mem xa]
        have : 0 < a.length := List.length_pos_of_mem xa
        omega
      · rcases List.mem_cons.mp hz with e | e
        · rw [e]; exact ha.sub x xa
        · exact hb.sub z (List.mem_of_mem_erase e)
  -- x with the good ones is not free: else it grows within b and x to as many as b, and one of b is left out that is good
  have dep : ¬ F (x :: good) := fun f => by
    have gs : ∀ z ∈ good, z ∈ b := fun z hz => (mg.mp hz).1
    have ndg : good.Nodup := List.filter_sublist.nodup hb.nd
    obtain ⟨g, g1, g2, g3, g4, g5⟩ := M.extend (t := x :: good) (xs := x :: b) (nd_cons ndg fun k => xb (gs x k)) (nd_cons hb.nd xb) (fun z hz => by
      rcases List.mem_cons.mp hz with e | e
      · rw [e]; exact List.mem_cons_self ..
      · exact List.mem_cons_of_mem _ (gs z e)) f
    have gl : b.length ≤ g.length := g5 b hb.nd (fun z hz => List.mem_cons_of_mem _ hz) hb.free
    have gE : g.length ≤ b.length := hb.rank.most g g1 (fun z hz => by
      rcases List.mem_cons.mp (g3 z hz) with e | e
      · rw [e]; exact ha.sub x xa
      · exact hb.sub z e) g4
    -- some y of b is not in g
    have : ∃ y ∈ b, y ∉ g := Classical.byContradiction fun q => by
      have := le_of_sub (x :: b) g (nd_cons hb.nd xb) fun z hz => by
        rcases List.mem_cons.mp hz with e | e
        · rw [e]; exact g2 x (List.mem_cons_self ..)
        · exact Classical.byContradiction fun r => q ⟨z, e, r⟩
      have e : (x :: b).length = b.length + 1 := rfl
      omega
    obtain ⟨y, y1, y2⟩ := this
    refine y2 (g2 y (List.mem_cons_of_mem _ (mg.mpr ⟨y1, ?_⟩)))
    -- all of x, b less y lies in g
    refine M.sub ndxb g1 (fun z hz => ?_) g4
    refine Classical.byContradiction fun nz => ?_
    have := le_of_sub g ((x :: b.erase y).erase z) g1 fun u hu => by
      refine (List.mem_erase_of_ne (show u ≠ z from fun e => nz (e ▸ hu))).mpr ?_
      rcases List.mem_cons.mp (g3 u hu) with e | e
      · rw [e]; exact List.mem_cons_self ..
      · exact List.mem_cons_of_mem _ ((List.mem_erase_of_ne (show u ≠ y from fun q => y2 (q ▸ hu))).mpr e)
    rw [List.length_erase_of_mem hz, lb y1] at this
    have : 0 < b.length := List.length_pos_of_mem y1
    omega
  -- but a less x spans the good ones: a greatest free set of a less x and the good ones has as many as a less x
  have nda : (a.erase x).Nodup := ha.nd.erase x
  have fa : F (a.erase x) := M.sub nda ha.nd (fun z hz => List.mem_of_mem_erase hz) ha.free
  have ndg : good.Nodup := List.filter_sublist.nodup hb.nd
  -- take a greatest free set of the good ones, extend it in a
  obtain ⟨h, h1, _, h3, h4, h5⟩ := M.extend (t := []) (xs := good) List.nodup_nil ndg (fun _ k => by cases k) M.nil
  have ndu : (a ++ out good a).Nodup := nd_app ha.nd (nd_out ndg) fun p hp hq => (mem_out.mp hq).2 hp
  obtain ⟨g, g1, g2, g3, g4, g5⟩ := M.extend (t := h) (xs := (a.erase x) ++ out good (a.erase x)) h1 (nd_app nda (nd_out ndg) fun p hp hq => (mem_out.mp hq).2 hp) (fun z hz => by
    by_cases c : z ∈ a.erase x
    · exact List.mem_append_left _ c
    · exact List.mem_append_right _ (mem_out.mpr ⟨h3 z hz, c⟩)) h4
  have gl : g.length = (a.erase x).length := by
    have l1 := g5 (a.erase x) nda (fun z hz => List.mem_append_left _ hz) fa
    refine Nat.le_antisymm (Nat.le_of_not_lt fun lt => ?_) l1
    obtain ⟨y, y1, y2, y3⟩ := M.exch nda g1 fa g4 lt
    rcases List.mem_append.mp (g3 y y1) with e | e
    · exact y2 e
    · rcases notin y (mem_out.mp e).1 with q | q
      · exact y2 q
      · exact q y3
  -- a has one more than g: a thing of a can be put to g, and it is x
  have la : g.length < a.length := by
    rw [gl, List.length_erase_of_mem xa]
    have : 0 < a.length := List.length_pos_of_mem xa
    omega
  obtain ⟨y, y1, y2, y3⟩ := M.exch g1 ha.nd g4 ha.free la
  have yx : y = x := Classical.byContradiction fun n => by
    have ye : y ∈ a.erase x := (List.mem_erase_of_ne n).mpr y1
    have := g5 (y :: g) (nd_cons g1 y2) (fun z hz => by
      rcases List.mem_cons.mp hz with e | e
      · rw [e]; exact List.mem_append_left _ ye
      · exact g3 z e) y3
    have e : (y :: g).length = g.length + 1 := rfl
    omega
  subst yx
  -- so y, h is free, and h is a greatest free set of the good ones: y with all good ones would then be free
  have fyh : F (y :: h) := M.sub (nd_cons h1 fun k => xb ((mg.mp (h3 y k)).1)) (nd_cons g1 y2) (fun z hz => by
    rcases List.mem_cons.mp hz with e | e
    · rw [e]; exact List.mem_cons_self ..
    · exact List.mem_cons_of_mem _ (g2 z e)) y3
  -- good itself is free (it lies in b), so h has all of it
  have fgood : F good := M.sub ndg hb.nd (fun z hz => (mg.mp hz).1) hb.free
  have lg : good.length ≤ h.length := h5 good ndg (fun _ k => k) fgood
  refine dep (M.sub (nd_cons ndg fun k => xb ((mg.mp k).1)) (nd_cons h1 fun k => xb ((mg.mp (h3 y k)).1)) (fun z hz => ?_) fyh)
  rcases List.mem_cons.mp hz with e | e
  · rw [e]; exact List.mem_cons_self ..
  · refine List.mem_cons_of_mem _ (Classical.byContradiction fun nz => ?_)
    have := le_of_sub h (good.erase z) h1 fun u hu => (List.mem_erase_of_ne (show u ≠ z from fun q => nz (q ▸ hu))).mpr (h3 u hu)
    rw [List.length_erase_of_mem e] at this
    have : 0 < good.length := List.length_pos_of_mem e
    omega
end MT
/-! ### the four sorts as one: what a rule is made of, and what is free -/
namespace MT
theorem Mat.low {F : List Nat → Prop} (M : Mat F) (n : Nat) : Mat fun xs => (∀ x ∈ xs, x < n) ∧ F xs :=
  ⟨⟨fun _ h => (by cases h), M.nil⟩, fun a c s h => ⟨fun x hx => h.1 x (s x hx), M.sub a c s h.2⟩, fun a c h k l => by
    obtain ⟨y, y1, y2, y3⟩ := M.exch a c h.2 k.2 l
    exact ⟨y, y1, y2, fun x hx => (by
      rcases List.mem_cons.mp hx with e | e
      · rw [e]; exact k.1 y y1
      · exact h.1 x e), y3⟩⟩
theorem Mat.congr {F G : List Nat → Prop} (M : Mat F) (h : ∀ xs : List Nat, xs.Nodup → (F xs ↔ G xs)) : Mat G :=
  ⟨(h [] List.nodup_nil).mp M.nil, fun a c s g => (h _ a).mp (M.sub a c s ((h _ c).mpr g)), fun a c f g l => by
    obtain ⟨y, y1, y2, y3⟩ := M.exch a c ((h _ a).mpr f) ((h _ c).mpr g) l
    exact ⟨y, y1, y2, (h _ (nd_cons a y2)).mp y3⟩⟩
theorem clo_bits : Clo BM.Spn := by
  refine ⟨fun h => BM.Spn.mem h, fun {l m f} h k => ?_, fun {l x y} n h => ?_⟩
  · induction m generalizing f with
    | nil =>
      have k : f = 0 := k
      rw [k]
      exact BM.Spn.zero l
    | cons y m ih =>
      have hm : ∀ x ∈ m, BM.Spn l x := fun x hx => h x (List.mem_cons_of_mem _ hx)
      rcases k with k | k
      · exact ih hm k
      · exact (BM.Spn.iff_of (h y (List.mem_cons_self ..))).mp (ih hm k)
  · rcases h with h | h
    · exact absurd h n
    · exact .inr (by rw [Nat.xor_comm]; exact h)
theorem ind_bits : ∀ l : List Nat, Ind BM.Spn l ↔ BM.Ind l
  | [] => Iff.rfl
  | _ :: l => and_congr Iff.rfl (ind_bits l)
def cn (l : List (Nat × Nat)) (e : Nat × Nat) : Prop := TM.Conn l e.1 e.2
theorem conn_mem : ∀ {l : List (Nat × Nat)} {e : Nat × Nat}, e ∈ l → cn l e
  | d :: l, e, h => by
    rcases List.mem_cons.mp h with q | q
    · rw [q]; exact TM.Conn.tie
    · exact TM.Conn.cons (conn_mem q)
theorem clo_ties : Clo cn := by
  refine ⟨conn_mem, fun {l m f} h k => ?_, fun {l x y} n h => TM.exch n h⟩
  have : ∀ a b, TM.Conn m a b → TM.Conn l a b := by
    clear k
    induction m with
    | nil => exact fun a b q => (show a = b from q) ▸ TM.Conn.refl l a
    | cons y m ih => exact TM.Conn.lift (ih fun x hx => h x (List.mem_cons_of_mem _ hx)) (h y (List.mem_cons_self ..))
  exact this _ _ k
theorem ind_ties : ∀ l : List (Nat × Nat), Ind cn l ↔ TM.Ind l
  | [] => Iff.rfl
  | _ :: l => and_congr Iff.rfl (ind_ties l)
/-- posts: each post takes one thing at most -/
theorem mat_post (W : Nat → List Nat) (p : Nat) : Mat fun xs => (∀ x ∈ xs, p ∈ W x) ∧ xs.length ≤ 1 := by
  refine ⟨⟨fun _ h => (by cases h), Nat.zero_le _⟩, fun a c s h => ⟨fun x hx => h.1 x (s x hx), Nat.le_trans (le_of_sub _ _ a s) h.2⟩, fun {xs ys} a c h k l => ?_⟩
  have e : xs = [] := List.eq_nil_of_length_eq_zero (by omega)
  subst e
  cases ys with
  | nil => exact absurd l (Nat.lt_irrefl _)
  | cons y r => exact ⟨y, List.mem_cons_self .., fun q => (by cases q), fun x hx => (by rw [List.mem_singleton.mp hx]; exact k.1 y (List.mem_cons_self ..)), Nat.le_refl _⟩
theorem mat_posts {W : Nat → List Nat} {m : Nat} (hm : 0 < m) (hW : ∀ x, ∀ p ∈ W x, p < m) : Mat (PM.Free W) := by
  refine (Mat.joined (k := m) (F := fun p xs => (∀ x ∈ xs, p ∈ W x) ∧ xs.length ≤ 1) hm fun p _ => mat_post W p).congr fun xs nd => ?_
  constructor
  · rintro ⟨c, c1, c2⟩
    refine ⟨c, fun x hx => (c2 (c x) (c1 x hx)).1 x (mem_col.mpr ⟨hx, rfl⟩), fun x hx y hy e => ?_⟩
    refine Classical.byContradiction fun ne => ?_
    have := le_of_sub [x, y] (col c (c x) xs) (by simp [ne]) fun z hz => by
      rcases List.mem_cons.mp hz with q | q
      · rw [q]; exact mem_col.mpr ⟨hx, rfl⟩
      · rw [List.mem_singleton.mp q]; exact mem_col.mpr ⟨hy, e.symm⟩
    have l2 : ([x, y] : List Nat).length = 2 := rfl
    have := (c2 (c x) (c1 x hx)).2
    omega
  · rintro ⟨g, g1, g2⟩
    refine ⟨g, fun x hx => hW x _ (g1 x hx), fun p _ => ⟨fun x hx => ?_, ?_⟩⟩
    · have := mem_col.mp hx
      rw [← this.2]
      exact g1 x this.1
    · match h : col g p xs, nd_col (c := g) (i := p) nd with
      | [], _ => exact Nat.zero_le _
      | [_], _ => exact Nat.le_refl _
      | a :: b :: r, ndc =>
        have ma : a ∈ col g p xs := by rw [h]; exact List.mem_cons_self ..
        have mb : b ∈ col g p xs := by rw [h]; exact List.mem_cons_of_mem _ (List.mem_cons_self ..)
        have e := g2 a (mem_col.mp ma).1 b (mem_col.mp mb).1 ((mem_col.mp ma).2.trans (mem_col.mp mb).2.symm)
        have := (List.nodup_cons.mp ndc).1
        exact absurd (by rw [e]; exact List.mem_cons_self ..) this
theorem count_col (kind : Nat → Nat) (c : Nat) : ∀ xs : List Nat, (xs.map kind).count c = (col kind c xs).length
  | [] => rfl
  | x :: xs => by
    have ih := count_col kind c xs
    rw [List.map_cons, List.count_cons, ih]
    unfold col
    by_cases e : kind x = c
    · simp [e]
    · simp [e]
end MT
/-! ### any rule: how many things, which sets are free; and what is made of rules -/
namespace MT
structure Rl where
  n : Nat
  F : List Nat → Prop
  mat : Mat F
  low : ∀ xs, F xs → ∀ x ∈ xs, x < n
  n16 : n ≤ 16
theorem Rl.rk (r : Rl) : ∃ k, Rank r.F (List.range r.n) k := r.mat.rank List.nodup_range
noncomputable def Rl.top (r : Rl) : Nat := Classical.choose r.rk
theorem Rl.top_is (r : Rl) : Rank r.F (List.range r.n) r.top := Classical.choose_spec r.rk
noncomputable def Rl.turned (r : Rl) : Rl where
  n := r.n
  F := fun xs => (∀ x ∈ xs, x ∈ List.range r.n) ∧ Rank r.F (out (List.range r.n) xs) r.top
  mat := r.mat.turned List.nodup_range r.top_is
  low := fun xs h x hx => List.mem_range.mp (h.1 x hx)
  n16 := r.n16
def Rl.cut (r : Rl) (b : Nat) : Rl := ⟨r.n, fun xs => r.F xs ∧ xs.length ≤ b, r.mat.cut b, fun xs h => r.low xs h.1, r.n16⟩
theorem at_lt {S : List Nat} {a : Nat} (h : a < S.length) : S[a]? = some (S.getD a 0) := by
  rw [List.getD_eq_getElem?_getD, List.getElem?_eq_getElem h]
  rfl
theorem at_mem {S : List Nat} {a : Nat} (h : a < S.length) : S.getD a 0 ∈ S := List.mem_of_getElem? (at_lt h)
theorem at_inj {S : List Nat} (h : S.Nodup) (a b : Nat) (ha : a < S.length) (hb : b < S.length) (e : S.getD a 0 = S.getD b 0) : a = b := by
  have ea := at_lt ha
  have eb := at_lt hb
  rw [List.getElem?_eq_getElem ha] at ea
  rw [List.getElem?_eq_getElem hb] at eb
  have := Option.some.inj ea
  have := Option.some.inj eb
  have k := List.pairwise_iff_getElem.mp h
  refine Classical.byContradiction fun ne => ?_
  rcases Nat.lt_or_gt_of_ne ne with l | l
  · exact k a b ha hb l (by omega)
  · exact k b a hb ha l (by omega)
def Rl.kept (r : Rl) (S : List Nat) (hS : S.Nodup) (l : S.length ≤ 16) : Rl :=
  ⟨S.length, fun xs => (∀ x ∈ xs, x < S.length) ∧ r.F (xs.map (S.getD · 0)), r.mat.kept S.length (S.getD · 0) (at_inj hS), fun xs h => h.1, l⟩
theorem heldM {F : List Nat → Prop} (M : Mat F) {S R : List Nat} (hS : S.Nodup) (hR : R.Nodup) (d : ∀ x ∈ R, x ∉ S) :
    Mat fun xs => (∀ x ∈ xs, x < R.length) ∧ ∃ s, Rank F S s ∧ Rank F (S ++ xs.map (R.getD · 0)) (s + xs.length) := by
  obtain ⟨s, rS⟩ := M.rank hS
  obtain ⟨B, b1, b2, b3, b4⟩ := rS.has
  refine ((M.heldB b1 b3).kept R.length (R.getD · 0) (at_inj hR)).congr fun xs nd => ?_
  refine and_congr_right fun lo => ?_
  have ndm : (xs.map (R.getD · 0)).Nodup := nd_map _ _ nd fun a ha b hb => at_inj hR a b (lo a ha) (lo b hb)
  have dx : ∀ x ∈ xs.map (R.getD · 0), x ∉ S := fun x hx => by
    obtain ⟨y, hy, rfl⟩ := List.mem_map.mp hx
    exact d _ (at_mem (lo y hy))
  obtain ⟨t, rt⟩ := M.rank (nd_app hS ndm fun a ha hb => dx a hb ha)
  have key := M.held_iff hS b1 b3 b2 rS b4 ndm dx rt
  rw [List.length_map] at key
  constructor
  · intro k
    refine ⟨s, rS, ?_⟩
    rw [← key.mpr k.2]
    exact rt
  · rintro ⟨s', h1, h2⟩
    have e := h1.one rS
    subst e
    exact ⟨fun x hx hb => dx x hx (b2 x hb), key.mp (rt.one h2)⟩
def Rl.held (r : Rl) (S R : List Nat) (hS : S.Nodup) (hR : R.Nodup) (d : ∀ x ∈ R, x ∉ S) (l : R.length ≤ 16) : Rl :=
  ⟨R.length, fun xs => (∀ x ∈ xs, x < R.length) ∧ ∃ s, Rank r.F S s ∧ Rank r.F (S ++ xs.map (R.getD · 0)) (s + xs.length), heldM r.mat hS hR d, fun xs h => h.1, l⟩
def Rl.beside (r s : Rl) (l : r.n + s.n ≤ 16) : Rl where
  n := r.n + s.n
  F := fun xs => r.F (xs.filter fun x => decide (x < r.n)) ∧ s.F ((xs.filter fun x => !decide (x < r.n)).map (· - r.n))
  mat := r.mat.beside s.mat r.n
  low := fun xs h x hx => by
    by_cases c : x < r.n
    · omega
    · have := s.low _ h.2 (x - r.n) (List.mem_map.mpr ⟨x, List.mem_filter.mpr ⟨hx, by simp [c]⟩, rfl⟩)
      omega
  n16 := l
def Rl.nth (rs : List Rl) (i : Nat) (xs : List Nat) : Prop := ∀ r, rs[i]? = some r → r.F xs
theorem Rl.nth_is {rs : List Rl} {i : Nat} {r : Rl} (h : rs[i]? = some r) (xs : List Nat) : Rl.nth rs i xs ↔ r.F xs :=
  ⟨fun k => k r h, fun k r' e => by rw [Option.some.inj (e.symm.trans h)]; exact k⟩
theorem Rl.nth_mat {rs : List Rl} {i : Nat} (h : i < rs.length) : Mat (Rl.nth rs i) :=
  (rs[i].mat).congr fun xs _ => (Rl.nth_is (List.getElem?_eq_getElem h) xs).symm
def Rl.joined (rs : List Rl) (n : Nat) (h : 0 < rs.length) (l : n ≤ 16) : Rl :=
  ⟨n, fun xs => (∀ x ∈ xs, x < n) ∧ Jn rs.length (Rl.nth rs) xs, (Mat.joined h fun _ hi => Rl.nth_mat hi).low n, fun xs h => h.1, l⟩
end MT
/-! ### the one ring -/
namespace MT
theorem nd_erase {xs : List Nat} (h : xs.Nodup) (x : Nat) : (xs.erase x).Nodup := List.Sublist.nodup List.erase_sublist h
theorem mem_er {xs : List Nat} (h : xs.Nodup) {x y : Nat} : y ∈ xs.erase x ↔ y ≠ x ∧ y ∈ xs := h.mem_erase_iff
theorem has_ring {F : List Nat → Prop} (M : Mat F) : ∀ (k : Nat) (S : List Nat), S.length = k → S.Nodup → ¬ F S → ∃ c, Ring F c ∧ ∀ x ∈ c, x ∈ S
  | 0, S, l, _, n => by
    rw [List.eq_nil_of_length_eq_zero l] at n
    exact absurd M.nil n
  | k + 1, S, l, nd, n => by
    by_cases h : ∀ x ∈ S, F (S.erase x)
    · exact ⟨S, ⟨nd, n, h⟩, fun _ z => z⟩
    · obtain ⟨x, hx⟩ := Classical.not_forall.mp h
      obtain ⟨xm, nf⟩ := Classical.not_imp.mp hx
      obtain ⟨c, rc, sc⟩ := has_ring M k (S.erase x) (by rw [List.length_erase_of_mem xm]; omega) (nd_erase nd x) nf
      exact ⟨c, rc, fun y hy => (List.mem_of_mem_erase (sc y hy))⟩
theorem Ring.perm {F : List Nat → Prop} (M : Mat F) {c d : List Nat} (h : Ring F c) (p : c.Perm d) : Ring F d :=
  ⟨p.nodup_iff.mp h.nd, fun k => h.dep ((M.perm h.nd p).mpr k), fun x hx => (M.perm (nd_erase h.nd x) (p.erase x)).mp (h.each x (p.mem_iff.mpr hx))⟩
/-- the things without any one of which it is free -/
theorem ring_is {F : List Nat → Prop} (M : Mat F) {s C : List Nat} {z : Nat} (hs : s.Nodup) (nz : z ∉ s) (fs : F s) (dep : ¬ F (s ++ [z])) (hC : C.Nodup) (mC : ∀ y, y ∈ C ↔ y ∈ s ++ [z] ∧ F ((s ++ [z]).erase y)) : Ring F C := by
  have nd : (s ++ [z]).Nodup := nd_snoc hs nz
  obtain ⟨c, rc, sc⟩ := has_ring M _ (s ++ [z]) rfl nd dep
  have up : ∀ {d : List Nat}, (∀ x ∈ d, x ∈ s ++ [z]) → ∀ x ∈ d, x = z ∨ x ∈ s := fun h x hx => by
    rcases List.mem_append.mp (h x hx) with e | e
    · exact .inr e
    · exact .inl (List.mem_singleton.mp e)
  refine rc.perm M ((List.perm_ext_iff_of_nodup rc.nd hC).mpr fun y => ?_)
  rw [mC]
  constructor
  · intro hy
    refine ⟨sc y hy, Classical.byContradiction fun nf => ?_⟩
    obtain ⟨d, rd, sd⟩ := has_ring M _ ((s ++ [z]).erase y) rfl (nd_erase nd y) nf
    have := Ring.one M hs nz fs rc rd (up sc) (up fun x hx => List.mem_of_mem_erase (sd x hx)) y hy
    exact ((mem_er nd).mp (sd y this)).1 rfl
  · rintro ⟨_, h2⟩
    refine Classical.byContradiction fun ny => rc.dep (M.sub rc.nd (nd_erase nd y) (fun x hx => (mem_er nd).mpr ⟨fun e => ny (e ▸ hx), sc x hx⟩) h2)
end MT
/-! ### things that want one post, or two beside one another in a row: stretches tell the rank -/
namespace ST
open MT
def SF (st mn : Nat → Nat) (xs : List Nat) : Prop := ∃ g : Nat → Nat, (∀ x ∈ xs, st x ≤ g x ∧ g x < st x + mn x) ∧ ∀ x ∈ xs, ∀ y ∈ xs, g x = g y → x = y
def endF (rs : List (List Nat)) : Nat → Nat → Nat
  | 0, e => e
  | f + 1, e => if [e, 2] ∈ rs then endF rs f (e + 1) else e
def cnt (rs : List (List Nat)) (a e : Nat) : Nat := (rs.filter fun r => decide (a ≤ r.getD 0 0 ∧ r.getD 0 0 ≤ e)).length
def lrank (rs : List (List Nat)) : Nat → Nat → Nat
  | 0, _ => 0
  | f + 1, a => if a < 31 then min (endF rs 31 a - a + 1) (cnt rs a (endF rs 31 a)) + lrank rs f (endF rs 31 a + 1) else 0
theorem rank_mem {F : List Nat → Prop} {xs ys : List Nat} {r : Nat} (h : Rank F xs r) (m : ∀ x, x ∈ xs ↔ x ∈ ys) : Rank F ys r := by
  obtain ⟨a, a1, a2, a3, a4⟩ := h.has
  exact ⟨⟨a, a1, fun y hy => (m y).mp (a2 y hy), a3, a4⟩, fun b b1 b2 b3 => h.most b b1 (fun y hy => (m y).mpr (b2 y hy)) b3⟩
theorem len_split (p : Nat → Bool) : ∀ b : List Nat, b.length = (b.filter p).length + (b.filter fun x => !p x).length
  | [] => rfl
  | x :: b => by
    have ih := len_split p b
    cases e : p x with
    | true =>
      rw [List.filter_cons_of_pos e, List.filter_cons_of_neg (by rw [e]; decide), List.length_cons, List.length_cons, ih]
      omega
    | false =>
      rw [List.filter_cons_of_neg (by rw [e]; decide), List.filter_cons_of_pos (by rw [e]; decide), List.length_cons, List.length_cons, ih]
      omega
theorem endF_is {rs : List (List Nat)} (hb : ∀ j, [j, 2] ∈ rs → j < 30) : ∀ (f e : Nat), 31 ≤ f + e → e ≤ endF rs f e ∧ (∀ j, e ≤ j → j < endF rs f e → [j, 2] ∈ rs) ∧ [endF rs f e, 2] ∉ rs ∧ (e < 31 → endF rs f e < 31)
  | 0, e, h => ⟨Nat.le_refl _, fun j h1 h2 => absurd h2 (Nat.not_lt.mpr h1), fun q => by have := hb e q; omega, fun l => l⟩
  | f + 1, e, h => by
    show e ≤ (if [e, 2] ∈ rs then endF rs f (e + 1) else e) ∧ _
    by_cases c : [e, 2] ∈ rs
    · have ih := endF_is hb f (e + 1) (by omega)
      have e1 : endF rs (f + 1) e = endF rs f (e + 1) := if_pos c
      rw [e1, if_pos c]
      refine ⟨by omega, fun j h1 h2 => ?_, ih.2.2.1, fun l => ih.2.2.2 (by have := hb e c; omega)⟩
      by_cases q : j = e
      · rw [q]; exact c
      · exact ih.2.1 j (by omega) h2
    · have e1 : endF rs (f + 1) e = e := if_neg c
      rw [e1, if_neg c]
      exact ⟨Nat.le_refl _, fun j h1 h2 => absurd h2 (Nat.not_lt.mpr h1), c, fun l => l⟩
section
variable {st mn : Nat → Nat}
theorem SF.sub {xs ys : List Nat} (s : ∀ x ∈ xs, x ∈ ys) (h : SF st mn ys) : SF st mn xs := by
  obtain ⟨g, g1, g2⟩ := h
  exact ⟨g, fun x hx => g1 x (s x hx), fun x hx y hy => g2 x (s x hx) y (s y hy)⟩
/-- two parts of the row apart -/
theorem rank_two {S : List Nat} {a e r1 r2 : Nat} (hS : S.Nodup) (low : ∀ x ∈ S, st x ≤ e → st x + mn x ≤ e + 1) (h1 : Rank (SF st mn) (S.filter fun x => decide (a ≤ st x ∧ st x ≤ e)) r1) (h2 : Rank (SF st mn) (S.filter fun x => decide (e + 1 ≤ st x)) r2) (ae : a ≤ e + 1) :
    Rank (SF st mn) (S.filter fun x => decide (a ≤ st x)) (r1 + r2) := by
  obtain ⟨p, p1, p2, ⟨g, g1, g2⟩, p4⟩ := h1.has
  obtain ⟨q, q1, q2, ⟨h, k1, k2⟩, q4⟩ := h2.has
  have mp : ∀ x ∈ p, x ∈ S ∧ a ≤ st x ∧ st x ≤ e := fun x hx => by
    have := List.mem_filter.mp (p2 x hx)
    exact ⟨this.1, of_decide_eq_true this.2⟩
  have mq : ∀ x ∈ q, x ∈ S ∧ e + 1 ≤ st x := fun x hx => by
    have := List.mem_filter.mp (q2 x hx)
    exact ⟨this.1, of_decide_eq_true this.2⟩
  refine ⟨⟨p ++ q, nd_app p1 q1 fun x hx hy => by have := (mp x hx).2.2; have := (mq x hy).2; omega, fun x hx => ?_, ⟨fun x => if st x ≤ e then g x else h x, fun x hx => ?_, fun x hx y hy exy => ?_⟩, by rw [List.length_append, p4, q4]⟩, fun b b1 b2 b3 => ?_⟩
  · rcases List.mem_append.mp hx with i | i
    · have := mp x i
      exact List.mem_filter.mpr ⟨this.1, decide_eq_true this.2.1⟩
    · have := mq x i
      exact List.mem_filter.mpr ⟨this.1, decide_eq_true (by omega)⟩
  · show st x ≤ (if st x ≤ e then g x else h x) ∧ (if st x ≤ e then g x else h x) < st x + mn x
    rcases List.mem_append.mp hx with i | i
    · rw [if_pos (mp x i).2.2]; exact g1 x i
    · rw [if_neg (by have := (mq x i).2; omega)]; exact k1 x i
  · have exy : (if st x ≤ e then g x else h x) = (if st y ≤ e then g y else h y) := exy
    rcases List.mem_append.mp hx with i | i <;> rcases List.mem_append.mp hy with j | j
    · rw [if_pos (mp x i).2.2, if_pos (mp y j).2.2] at exy
      exact g2 x i y j exy
    · rw [if_pos (mp x i).2.2, if_neg (by have := (mq y j).2; omega)] at exy
      have := g1 x i; have := k1 y j; have := (mq y j).2; have := low x (mp x i).1 (mp x i).2.2
      omega
    · rw [if_neg (by have := (mq x i).2; omega), if_pos (mp y j).2.2] at exy
      have := g1 y j; have := k1 x i; have := (mq x i).2; have := low y (mp y j).1 (mp y j).2.2
      omega
    · rw [if_neg (by have := (mq x i).2; omega), if_neg (by have := (mq y j).2; omega)] at exy
      exact k2 x i y j exy
  · have l1 := h1.most (b.filter fun x => decide (st x ≤ e)) (List.filter_sublist.nodup b1) (fun x hx => by
      have i := List.mem_filter.mp hx
      have j := List.mem_filter.mp (b2 x i.1)
      exact List.mem_filter.mpr ⟨j.1, decide_eq_true ⟨of_decide_eq_true j.2, of_decide_eq_true i.2⟩⟩) (b3.sub fun x hx => (List.mem_filter.mp hx).1)
    have l2 := h2.most (b.filter fun x => !decide (st x ≤ e)) (List.filter_sublist.nodup b1) (fun x hx => by
      have i := List.mem_filter.mp hx
      have j := List.mem_filter.mp (b2 x i.1)
      have := i.2
      simp only [Bool.not_eq_true', decide_eq_false_iff_not] at this
      exact List.mem_filter.mpr ⟨j.1, decide_eq_true (by omega)⟩) (b3.sub fun x hx => (List.mem_filter.mp hx).1)
    have := len_split (fun x => decide (st x ≤ e)) b
    omega
/-- one stretch -/
theorem rank_one {S : List Nat} {a e : Nat} (hS : S.Nodup) (hm : ∀ x ∈ S, 1 ≤ mn x) (low : ∀ x ∈ S, st x ≤ e → st x + mn x ≤ e + 1) (ae : a ≤ e) (all : ∀ j, a ≤ j → j < e → ∃ x ∈ S, st x = j ∧ mn x = 2) :
    Rank (SF st mn) (S.filter fun x => decide (a ≤ st x ∧ st x ≤ e)) (min (e - a + 1) (S.filter fun x => decide (a ≤ st x ∧ st x ≤ e)).length) := by
  have hT : ∀ x, x ∈ (S.filter fun x => decide (a ≤ st x ∧ st x ≤ e)) ↔ x ∈ S ∧ a ≤ st x ∧ st x ≤ e := fun x => by rw [List.mem_filter, decide_eq_true_iff]
  have ndT : (S.filter fun x => decide (a ≤ st x ∧ st x ≤ e)).Nodup := List.filter_sublist.nodup hS
  generalize (S.filter fun x => decide (a ≤ st x ∧ st x ≤ e)) = T at hT ndT
  have up : ∀ b : List Nat, b.Nodup → (∀ y ∈ b, y ∈ T) → SF st mn b → b.length ≤ min (e - a + 1) T.length := fun b b1 b2 b3 => by
    obtain ⟨g, g1, g2⟩ := b3
    have l1 := le_of_sub b T b1 b2
    have nd := nd_map g b b1 g2
    have l2 := le_of_sub ((b.map g).map (· - a)) (List.range (e - a + 1)) (nd_map _ _ nd fun x hx y hy exy => by
      obtain ⟨u, hu, rfl⟩ := List.mem_map.mp hx
      obtain ⟨v, hv, rfl⟩ := List.mem_map.mp hy
      have := g1 u hu; have := g1 v hv; have := (hT u).mp (b2 u hu); have := (hT v).mp (b2 v hv)
      have exy : g u - a = g v - a := exy
      omega) fun x hx => by
      obtain ⟨z, hz, rfl⟩ := List.mem_map.mp hx
      obtain ⟨u, hu, rfl⟩ := List.mem_map.mp hz
      have q := (hT u).mp (b2 u hu)
      have := g1 u hu; have := low u q.1 q.2.2
      exact List.mem_range.mpr (by omega)
    rw [List.length_map, List.length_map, List.length_range] at l2
    exact Nat.le_min.mpr ⟨l2, l1⟩
  -- the ties of the stretch
  have : ∃ E : Nat → Nat, ∀ j, a ≤ j → j < e → E j ∈ S ∧ st (E j) = j ∧ mn (E j) = 2 := by
    refine ⟨fun j => if h : a ≤ j ∧ j < e then Classical.choose (all j h.1 h.2) else 0, fun j h1 h2 => ?_⟩
    have q := Classical.choose_spec (all j h1 h2)
    simp only [dif_pos (And.intro h1 h2)]
    exact q
  obtain ⟨E, hE⟩ := this
  have ndE : ((List.range (e - a)).map fun i => E (a + i)).Nodup := nd_map _ _ List.nodup_range fun i hi j hj eij => by
    have hi := List.mem_range.mp hi; have hj := List.mem_range.mp hj
    have h1 := (hE (a + i) (by omega) (by omega)).2.1
    have h2 := (hE (a + j) (by omega) (by omega)).2.1
    have eij : E (a + i) = E (a + j) := eij
    rw [eij] at h1
    omega
  have mE : ∀ x ∈ ((List.range (e - a)).map fun i => E (a + i)), x ∈ S ∧ a ≤ st x ∧ st x < e ∧ mn x = 2 ∧ E (st x) = x := fun x hx => by
    obtain ⟨i, hi, rfl⟩ := List.mem_map.mp hx
    have hi := List.mem_range.mp hi
    have q := hE (a + i) (by omega) (by omega)
    exact ⟨q.1, by rw [q.2.1]; omega, by rw [q.2.1]; omega, q.2.2, by rw [q.2.1]⟩
  have lE : ((List.range (e - a)).map fun i => E (a + i)).length = e - a := by rw [List.length_map, List.length_range]
  generalize ((List.range (e - a)).map fun i => E (a + i)) = L at ndE mE lE
  have sub : ∀ x ∈ L, x ∈ T := fun x hx => (hT x).mpr ⟨(mE x hx).1, (mE x hx).2.1, Nat.le_of_lt (mE x hx).2.2.1⟩
  have inj : ∀ x ∈ L, ∀ y ∈ L, st x = st y → x = y := fun x hx y hy q => by rw [← (mE x hx).2.2.2.2, ← (mE y hy).2.2.2.2, q]
  by_cases c : ∃ z ∈ T, z ∉ L
  · obtain ⟨z, z1, z2⟩ := c
    have zz := (hT z).mp z1
    have big := le_of_sub (z :: L) T (nd_cons ndE z2) fun x hx => by
      rcases List.mem_cons.mp hx with q | q
      · rw [q]; exact z1
      · exact sub x q
    rw [List.length_cons, lE] at big
    refine ⟨⟨z :: L, nd_cons ndE z2, fun x hx => ?_, ⟨fun x => if x = z then st z else if st x < st z then st x else st x + 1, fun x hx => ?_, fun x hx y hy exy => ?_⟩, by rw [List.length_cons, lE]; omega⟩, up⟩
    · rcases List.mem_cons.mp hx with q | q
      · rw [q]; exact z1
      · exact sub x q
    · show st x ≤ (if x = z then st z else if st x < st z then st x else st x + 1) ∧ (if x = z then st z else if st x < st z then st x else st x + 1) < st x + mn x
      by_cases q : x = z
      · rw [if_pos q, q]
        have := hm z zz.1
        omega
      · rw [if_neg q]
        have := (mE x ((List.mem_cons.mp hx).resolve_left q)).2.2.2.1
        split <;> omega
    · have exy : (if x = z then st z else if st x < st z then st x else st x + 1) = (if y = z then st z else if st y < st z then st y else st y + 1) := exy
      by_cases q : x = z <;> by_cases r : y = z
      · rw [q, r]
      · rw [if_pos q, if_neg r] at exy
        split at exy <;> omega
      · rw [if_neg q, if_pos r] at exy
        split at exy <;> omega
      · rw [if_neg q, if_neg r] at exy
        refine inj x ((List.mem_cons.mp hx).resolve_left q) y ((List.mem_cons.mp hy).resolve_left r) ?_
        split at exy <;> split at exy <;> omega
  · have eq : ∀ x ∈ T, x ∈ L := fun x hx => Classical.byContradiction fun q => c ⟨x, hx, q⟩
    have l1 := le_of_sub T L ndT eq
    have l2 := le_of_sub L T ndE sub
    refine ⟨⟨L, ndE, sub, ⟨st, fun x hx => ?_, inj⟩, by omega⟩, up⟩
    have := (mE x hx).2.2.2.1
    omega
theorem rank_from {S : List Nat} {rs : List (List Nat)} (hS : S.Nodup) (hr : rs = S.map fun x => [st x, mn x]) (hm : ∀ x ∈ S, 1 ≤ mn x ∧ mn x ≤ 2 ∧ st x + mn x ≤ 31) : ∀ (f a : Nat), 31 ≤ f + a → Rank (SF st mn) (S.filter fun x => decide (a ≤ st x)) (lrank rs f a)
  | f, a, h => by
    have hb : ∀ j, [j, 2] ∈ rs → j < 30 := fun j hj => by
      rw [hr] at hj
      obtain ⟨x, hx, e⟩ := List.mem_map.mp hj
      injection e with e1 e2
      injection e2 with e2 _
      have := hm x hx
      omega
    have none : 31 ≤ a → Rank (SF st mn) (S.filter fun x => decide (a ≤ st x)) 0 := fun ha => by
      have e : (S.filter fun x => decide (a ≤ st x)) = [] := List.filter_eq_nil_iff.mpr fun x hx => by
        have := hm x hx
        simp only [decide_eq_true_iff]
        omega
      rw [e]
      exact ⟨⟨[], List.nodup_nil, fun _ k => k, ⟨fun _ => 0, ⟨fun x k => (by cases k), fun x k => (by cases k)⟩⟩, rfl⟩, fun b b1 b2 _ => by
        have := le_of_sub b [] b1 b2
        exact this⟩
    cases f with
    | zero => exact none (by omega)
    | succ f =>
      by_cases c : a < 31
      · have E := endF_is hb 31 a (by omega)
        have e1 : lrank rs (f + 1) a = min (endF rs 31 a - a + 1) (cnt rs a (endF rs 31 a)) + lrank rs f (endF rs 31 a + 1) := if_pos c
        rw [e1]
        have e31 := E.2.2.2 c
        generalize endF rs 31 a = e at E e31
        have low : ∀ x ∈ S, st x ≤ e → st x + mn x ≤ e + 1 := fun x hx l => by
          have q := hm x hx
          by_cases w : mn x = 2
          · by_cases v : st x = e
            · exact absurd (by rw [hr]; exact List.mem_map.mpr ⟨x, hx, by rw [w, v]⟩) E.2.2.1
            · omega
          · omega
        have ce : cnt rs a e = (S.filter fun x => decide (a ≤ st x ∧ st x ≤ e)).length := by
          unfold cnt
          rw [hr, List.filter_map, List.length_map]
          rfl
        rw [ce]
        refine rank_two hS low (rank_one hS (fun x hx => (hm x hx).1) low E.1 fun j h1 h2 => ?_) (rank_from hS hr hm f (e + 1) (by have := E.1; omega)) (by have := E.1; omega)
        have q := E.2.1 j h1 h2
        rw [hr] at q
        obtain ⟨x, hx, e⟩ := List.mem_map.mp q
        injection e with e1 e2
        injection e2 with e2 _
        exact ⟨x, hx, e1, e2⟩
      · have e1 : lrank rs (f + 1) a = 0 := if_neg c
        rw [e1]
        exact none (by omega)
/-- what the stretches tell is the rank -/
theorem rank_is {S : List Nat} (hS : S.Nodup) (hm : ∀ x ∈ S, 1 ≤ mn x ∧ mn x ≤ 2 ∧ st x + mn x ≤ 31) : Rank (SF st mn) S (lrank (S.map fun x => [st x, mn x]) 31 0) := by
  have := rank_from hS rfl hm 31 0 (by omega)
  rw [List.filter_eq_self.mpr fun x _ => decide_eq_true (Nat.zero_le _)] at this
  exact this
end
/-- the stretches themselves -/
def stl (rs : List (List Nat)) : Nat → Nat → List (List Nat)
  | 0, _ => []
  | f + 1, a => if a < 31 then [endF rs 31 a - a + 1, cnt rs a (endF rs 31 a)] :: stl rs f (endF rs 31 a + 1) else []
theorem stl_fuel {rs : List (List Nat)} (hb : ∀ j, [j, 2] ∈ rs → j < 30) : ∀ (f g a : Nat), 31 ≤ f + a → 31 ≤ g + a → stl rs f a = stl rs g a
  | 0, g, a, h1, h2 => by
    cases g with
    | zero => rfl
    | succ g => exact (if_neg (by omega)).symm
  | f + 1, 0, a, h1, h2 => if_neg (by omega)
  | f + 1, g + 1, a, h1, h2 => by
    unfold stl
    by_cases c : a < 31
    · have E := (endF_is hb 31 a (by omega)).1
      rw [if_pos c, if_pos c, stl_fuel hb f g (endF rs 31 a + 1) (by omega) (by omega)]
    · rw [if_neg c, if_neg c]
theorem stl_sum (rs : List (List Nat)) : ∀ (f a : Nat), ((stl rs f a).map fun w => min (w.getD 0 0) (w.getD 1 0)).sum = lrank rs f a
  | 0, _ => rfl
  | f + 1, a => by
    unfold stl lrank
    by_cases c : a < 31
    · rw [if_pos c, if_pos c, List.map_cons, List.sum_cons, stl_sum rs f]
      rfl
    · rw [if_neg c, if_neg c]
      rfl
theorem stl_len {rs : List (List Nat)} : ∀ (f a : Nat), (stl rs f a).length ≤ f
  | 0, _ => Nat.le_refl _
  | f + 1, a => by
    unfold stl
    by_cases c : a < 31
    · rw [if_pos c]
      have := stl_len (rs := rs) f (endF rs 31 a + 1)
      show (stl rs f _).length + 1 ≤ f + 1
      omega
    · rw [if_neg c]
      exact Nat.zero_le _
theorem cnt_more {rs : List (List Nat)} {w : List Nat} {j a e : Nat} (h : rs[j]? = some w) : cnt (rs.take (j + 1)) a e = cnt (rs.take j) a e + (if a ≤ w.getD 0 0 ∧ w.getD 0 0 ≤ e then 1 else 0) := by
  have il := (List.getElem?_eq_some_iff.mp h)
  obtain ⟨il, rfl⟩ := il
  unfold cnt
  rw [List.take_succ_eq_append_getElem il, List.filter_append, List.length_append]
  by_cases c : a ≤ rs[j].getD 0 0 ∧ rs[j].getD 0 0 ≤ e
  · rw [if_pos c, List.filter_cons_of_pos (by simpa using c)]
    rfl
  · rw [if_neg c, List.filter_cons_of_neg (by simpa using c)]
    rfl
/-! ### the posts stand in any order that a step gives -/
theorem step_inj : ∀ s, s < 31 → ∀ p, p < 31 → ∀ q, q < 31 → s ≠ 0 → s * p % 31 = s * q % 31 → p = q := by decide +kernel
def ph (s t p : Nat) : Nat := (t + s * p) % 31
theorem ph_inj {s t p q : Nat} (hs : s < 31) (h0 : s ≠ 0) (hp : p < 31) (hq : q < 31) (e : ph s t p = ph s t q) : p = q := by
  unfold ph at e
  refine step_inj s hs p hp q hq h0 ?_
  omega
theorem ph_lt (s t p : Nat) : ph s t p < 31 := Nat.mod_lt _ (by decide)
theorem posts_iff {W : Nat → List Nat} {st mn : Nat → Nat} {s t : Nat} (hs : s < 31) (h0 : s ≠ 0) {xs : List Nat} (hm : ∀ x ∈ xs, st x + mn x ≤ 31) (hW : ∀ x ∈ xs, ∀ p, p ∈ W x ↔ ∃ i, i < mn x ∧ p = ph s t (st x + i)) : PM.Free W xs ↔ SF st mn xs := by
  constructor
  · rintro ⟨g, g1, g2⟩
    have : ∃ k : Nat → Nat, ∀ x ∈ xs, st x ≤ k x ∧ k x < st x + mn x ∧ g x = ph s t (k x) := by
      refine ⟨fun x => if h : x ∈ xs then st x + Classical.choose ((hW x h (g x)).mp (g1 x h)) else 0, fun x hx => ?_⟩
      have q := Classical.choose_spec ((hW x hx (g x)).mp (g1 x hx))
      simp only [dif_pos hx]
      exact ⟨by omega, by omega, q.2⟩
    obtain ⟨k, hk⟩ := this
    refine ⟨k, fun x hx => ⟨(hk x hx).1, (hk x hx).2.1⟩, fun x hx y hy e => g2 x hx y hy ?_⟩
    rw [(hk x hx).2.2, (hk y hy).2.2, e]
  · rintro ⟨g, g1, g2⟩
    refine ⟨fun x => ph s t (g x), fun x hx => (hW x hx _).mpr ⟨g x - st x, by have := g1 x hx; omega, by rw [show st x + (g x - st x) = g x by have := g1 x hx; omega]⟩, fun x hx y hy e => g2 x hx y hy ?_⟩
    have := g1 x hx; have := g1 y hy; have := hm x hx; have := hm y hy
    exact ph_inj hs h0 (by omega) (by omega) e
end ST
namespace Fs
open PySem L2
def top (i : Nat) : Stmt := PySem.Challenge.pw_freesets_k21_whole_posts_in_a_row.main.body.getD i (.Pass ⟨0, 0, 0, 0⟩)
abbrev s_is_number : Stmt := top 8
abbrev n_is_number : List Str := ["value"]
theorem sc_is_number : FnScope n_is_number ["value"] (defScope s_is_number) :=
  ⟨rfl, rfl, rfl, by decide +kernel, rfl, by decide +kernel, by decide +kernel⟩
abbrev s_is_within : Stmt := top 9
abbrev n_is_within : List Str := ["value", "low", "high"]
theorem sc_is_within : FnScope n_is_within ["value", "low", "high"] (defScope s_is_within) :=
  ⟨rfl, rfl, rfl, by decide +kernel, rfl, by decide +kernel, by decide +kernel⟩
abbrev s_check_thing : Stmt := top 10
abbrev n_check_thing : List Str := ["thing", "many"]
theorem sc_check_thing : FnScope n_check_thing ["thing", "many"] (defScope s_check_thing) :=
  ⟨rfl, rfl, rfl, by decide +kernel, rfl, by decide +kernel, by decide +kernel⟩
abbrev s_check_set : Stmt := top 11
abbrev n_check_set : List Str := ["some", "many", "seen", "thing"]
theorem sc_check_set : FnScope n_check_set ["some", "many"] (defScope s_check_set) :=
  ⟨rfl, rfl, rfl, by decide +kernel, rfl, by decide +kernel, by decide +kernel⟩
abbrev s_Threads___init__ : Stmt := inClass (top 17) 0
abbrev n_Threads___init__ : List Str := ["self", "places", "ties", "tie"]
theorem sc_Threads___init__ : FnScope n_Threads___init__ ["self", "places", "ties"] (defScope s_Threads___init__) :=
  ⟨rfl, rfl, rfl, by decide +kernel, rfl, by decide +kernel, by decide +kernel⟩
abbrev s_Threads_many : Stmt := inClass (top 17) 1
abbrev n_Threads_many : List Str := ["self"]
theorem sc_Threads_many : FnScope n_Threads_many ["self"] (defScope s_Threads_many) :=
  ⟨rfl, rfl, rfl, by decide +kernel, rfl, by decide +kernel, by decide +kernel⟩
abbrev s_Threads_free : Stmt := inClass (top 17) 2
abbrev n_Threads_free : List Str := ["self", "some", "marks", "thing", "near", "far", "stays", "goes", "mark"]
theorem sc_Threads_free : FnScope n_Threads_free ["self", "some"] (defScope s_Threads_free) :=
  ⟨rfl, rfl, rfl, by decide +kernel, rfl, by decide +kernel, by decide +kernel⟩
abbrev s_Posts___init__ : Stmt := inClass (top 18) 0
abbrev n_Posts___init__ : List Str := ["self", "wants", "posts"]
theorem sc_Posts___init__ : FnScope n_Posts___init__ ["self", "wants"] (defScope s_Posts___init__) :=
  ⟨rfl, rfl, rfl, by decide +kernel, rfl, by decide +kernel, by decide +kernel⟩
abbrev s_Posts_many : Stmt := inClass (top 18) 1
abbrev n_Posts_many : List Str := ["self"]
theorem sc_Posts_many : FnScope n_Posts_many ["self"] (defScope s_Posts_many) :=
  ⟨rfl, rfl, rfl, by decide +kernel, rfl, by decide +kernel, by decide +kernel⟩
abbrev s_Posts_free : Stmt := inClass (top 18) 2
abbrev n_Posts_free : List Str := ["self", "some", "holders", "thing"]
theorem sc_Posts_free : FnScope n_Posts_free ["self", "some"] (defScope s_Posts_free) :=
  ⟨rfl, rfl, rfl, by decide +kernel, rfl, by decide +kernel, by decide +kernel⟩
abbrev s_check_ground : Stmt := top 19
abbrev n_check_ground : List Str := ["things"]
theorem sc_check_ground : FnScope n_check_ground ["things"] (defScope s_check_ground) :=
  ⟨rfl, rfl, rfl, by decide +kernel, rfl, by decide +kernel, by decide +kernel⟩
abbrev s_are_within : Stmt := top 20
abbrev n_are_within : List Str := ["values", "low", "high", "value"]
theorem sc_are_within : FnScope n_are_within ["values", "low", "high"] (defScope s_are_within) :=
  ⟨rfl, rfl, rfl, by decide +kernel, rfl, by decide +kernel, by decide +kernel⟩
abbrev s_is_tie : Stmt := top 21
abbrev n_is_tie : List Str := ["tie", "places", "place"]
theorem sc_is_tie : FnScope n_is_tie ["tie", "places"] (defScope s_is_tie) :=
  ⟨rfl, rfl, rfl, by decide +kernel, rfl, by decide +kernel, by decide +kernel⟩
abbrev s_are_posts : Stmt := top 22
abbrev n_are_posts : List Str := ["posts"]
theorem sc_are_posts : FnScope n_are_posts ["posts"] (defScope s_are_posts) :=
  ⟨rfl, rfl, rfl, by decide +kernel, rfl, by decide +kernel, by decide +kernel⟩
abbrev s_gets_post : Stmt := top 23
abbrev n_gets_post : List Str := ["thing", "wants", "holders", "tried", "post"]
theorem sc_gets_post : FnScope n_gets_post ["thing", "wants", "holders", "tried"] (defScope s_gets_post) :=
  ⟨rfl, rfl, rfl, by decide +kernel, rfl, by decide +kernel, by decide +kernel⟩
abbrev s_rank : Stmt := top 25
abbrev n_rank : List Str := ["rule", "some"]
theorem sc_rank : FnScope n_rank ["rule", "some"] (defScope s_rank) :=
  ⟨rfl, rfl, rfl, by decide +kernel, rfl, by decide +kernel, by decide +kernel⟩
abbrev s_grown : Stmt := top 26
abbrev n_grown : List Str := ["rule", "some", "taken", "thing"]
theorem sc_grown : FnScope n_grown ["rule", "some"] (defScope s_grown) :=
  ⟨rfl, rfl, rfl, by decide +kernel, rfl, by decide +kernel, by decide +kernel⟩
abbrev s_ring : Stmt := top 27
abbrev n_ring : List Str := ["rule", "some", "thing", "together", "other"]
theorem sc_ring : FnScope n_ring ["rule", "some", "thing"] (defScope s_ring) :=
  ⟨rfl, rfl, rfl, by decide +kernel, rfl, by decide +kernel, by decide +kernel⟩
abbrev s_without : Stmt := top 28
abbrev n_without : List Str := ["some", "thing", "other"]
theorem sc_without : FnScope n_without ["some", "thing"] (defScope s_without) :=
  ⟨rfl, rfl, rfl, by decide +kernel, rfl, by decide +kernel, by decide +kernel⟩
abbrev s_whole : Stmt := top 30
abbrev n_whole : List Str := ["rule"]
theorem sc_whole : FnScope n_whole ["rule"] (defScope s_whole) :=
  ⟨rfl, rfl, rfl, by decide +kernel, rfl, by decide +kernel, by decide +kernel⟩
abbrev s_is_whole : Stmt := top 31
abbrev n_is_whole : List Str := ["rule", "some"]
theorem sc_is_whole : FnScope n_is_whole ["rule", "some"] (defScope s_is_whole) :=
  ⟨rfl, rfl, rfl, by decide +kernel, rfl, by decide +kernel, by decide +kernel⟩
abbrev s_both_ways : Stmt := top 32
abbrev n_both_ways : List Str := ["rule", "one", "other", "thing", "mates", "mate"]
theorem sc_both_ways : FnScope n_both_ways ["rule", "one", "other", "thing"] (defScope s_both_ways) :=
  ⟨rfl, rfl, rfl, by decide +kernel, rfl, by decide +kernel, by decide +kernel⟩
abbrev s_check_wholes : Stmt := top 33
abbrev n_check_wholes : List Str := ["rule", "one", "other"]
theorem sc_check_wholes : FnScope n_check_wholes ["rule", "one", "other"] (defScope s_check_wholes) :=
  ⟨rfl, rfl, rfl, by decide +kernel, rfl, by decide +kernel, by decide +kernel⟩
abbrev s_changed : Stmt := top 34
abbrev n_changed : List Str := ["some", "goer", "comer"]
theorem sc_changed : FnScope n_changed ["some", "goer", "comer"] (defScope s_changed) :=
  ⟨rfl, rfl, rfl, by decide +kernel, rfl, by decide +kernel, by decide +kernel⟩
abbrev s__law_cell_at : Stmt := top 36
abbrev n__law_cell_at : List Str := ["_law_script", "_law_k"]
theorem sc__law_cell_at : FnScope n__law_cell_at ["_law_script", "_law_k"] (defScope s__law_cell_at) :=
  ⟨rfl, rfl, rfl, by decide +kernel, rfl, by decide +kernel, by decide +kernel⟩
abbrev s__law_rows : Stmt := top 37
abbrev n__law_rows : List Str := ["_law_script", "_law_wide", "_law_first", "_law_rows_here", "_law_k", "_law_cell", "_law_many"]
theorem sc__law_rows : FnScope n__law_rows ["_law_script"] (defScope s__law_rows) :=
  ⟨rfl, rfl, rfl, by decide +kernel, rfl, by decide +kernel, by decide +kernel⟩
abbrev s__law_wants : Stmt := top 38
abbrev n__law_wants : List Str := ["_law_rows_here", "_law_script", "_law_step", "_law_start", "_law_found", "_law_k", "_law_at", "_law_many", "_law_wants_here", "_law_more"]
theorem sc__law_wants : FnScope n__law_wants ["_law_rows_here", "_law_script"] (defScope s__law_wants) :=
  ⟨rfl, rfl, rfl, by decide +kernel, rfl, by decide +kernel, by decide +kernel⟩
abbrev s__law_stretches : Stmt := top 39
abbrev n__law_stretches : List Str := ["_law_rows_here", "_law_found", "_law_at", "_law_end", "_law_row"]
theorem sc__law_stretches : FnScope n__law_stretches ["_law_rows_here"] (defScope s__law_stretches) :=
  ⟨rfl, rfl, rfl, by decide +kernel, rfl, by decide +kernel, by decide +kernel⟩
abbrev s__law_rank : Stmt := top 40
abbrev n__law_rank : List Str := ["_law_rows_here", "_law_pair"]
theorem sc__law_rank : FnScope n__law_rank ["_law_rows_here"] (defScope s__law_rank) :=
  ⟨rfl, rfl, rfl, by decide +kernel, rfl, by decide +kernel, by decide +kernel⟩
abbrev s__law_ring : Stmt := top 41
abbrev n__law_ring : List Str := ["_law_rows_here", "_law_base", "_law_thing", "_law_found", "_law_old", "_law_rest", "_law_k"]
theorem sc__law_ring : FnScope n__law_ring ["_law_rows_here", "_law_base", "_law_thing"] (defScope s__law_ring) :=
  ⟨rfl, rfl, rfl, by decide +kernel, rfl, by decide +kernel, by decide +kernel⟩
abbrev s__law_three : Stmt := top 42
abbrev n__law_three : List Str := ["_law_script", "_law_a", "_law_b", "_law_c", "_law_k"]
theorem sc__law_three : FnScope n__law_three ["_law_script"] (defScope s__law_three) :=
  ⟨rfl, rfl, rfl, by decide +kernel, rfl, by decide +kernel, by decide +kernel⟩
abbrev s__law_trees : Stmt := top 43
abbrev n__law_trees : List Str := ["_law_web"]
theorem sc__law_trees : FnScope n__law_trees [] (defScope s__law_trees) :=
  ⟨rfl, rfl, rfl, by decide +kernel, rfl, by decide +kernel, by decide +kernel⟩
abbrev s_law : Stmt := top 44
abbrev n_law : List Str := ["_law_script", "_law_rows_here", "_law_wants_here", "_law_handed", "_law_rule", "_law_posts", "_law_turn", "_law_cell", "_law_some", "_law_due", "_law_free", "_law_got", "_law_k", "_law_other", "_law_one"]
theorem sc_law : FnScope n_law ["_law_script"] (defScope s_law) :=
  ⟨rfl, rfl, rfl, by decide +kernel, rfl, by decide +kernel, by decide +kernel⟩

/-! ### words of our own, for any of the program's laws -/
section
/-- which names of the built-ins are still theirs -/
structure Bl (mg : Str → Option Value) : Prop where
  isinstance_ : mg "isinstance" = none
  int_ : mg "int" = none
  bool_ : mg "bool" = none
  list_ : mg "list" = none
  tuple_ : mg "tuple" = none
  len_ : mg "len" = none
  all_ : mg "all" = none
  range_ : mg "range" = none
  min_ : mg "min" = none
  sorted_ : mg "sorted" = none
  set_ : mg "set" = none
theorem room65 {k : Nat} {A : Around} (hr : Room k A) : A.units + 65 < cLine := by
  have := hr.un
  omega
theorem yesT {σ : St} {H : Hp} {A B : Hp → Prop} (h : A H) : tYes σ H (fun b H3 => if b = true then A H3 else B H3) := by
  show (if true = true then A H else B H)
  exact iteT h
theorem take_more {α : Type} {l : List α} {i : Nat} {x : α} (h : l[i]? = some x) : l.take (i + 1) = l.take i ++ [x] := by
  rw [List.take_add_one, h]
  rfl
theorem map_at {α β : Type} {f : α → β} {l : List α} {i : Nat} {y : β} (h : (l.map f)[i]? = some y) : ∃ x, l[i]? = some x ∧ y = f x := by
  rw [List.getElem?_map] at h
  cases e : l[i]? with
  | none => rw [e] at h; cases h
  | some x => rw [e] at h; exact ⟨x, rfl, (Option.some.inj h).symm⟩
theorem flat_ints : ∀ xs : List Int, (xs.map V.int).all flatV = true
  | [] => rfl
  | _ :: xs => flat_ints xs
theorem in_ints (x : Int) : ∀ xs : List Int, inV (.int x) (xs.map V.int) = decide (x ∈ xs)
  | [] => rfl
  | y :: xs => by
    have ih := in_ints x xs
    show ((y == x) || inV (.int x) (xs.map V.int)) = decide (x ∈ y :: xs)
    rw [ih]
    by_cases e : y = x
    · subst e; simp
    · have e' : ¬ x = y := fun z => e z.symm
      simp [e, e']
theorem flat_nats : ∀ xs : List Nat, (xs.map (fun n : Nat => V.int (n : Int))).all flatV = true
  | [] => rfl
  | _ :: xs => flat_nats xs
theorem in_nats (x : Nat) : ∀ xs : List Nat, inV (.int (x : Int)) (xs.map (fun n : Nat => V.int (n : Int))) = decide (x ∈ xs)
  | [] => rfl
  | y :: xs => by
    have ih := in_nats x xs
    show (((y : Int) == (x : Int)) || inV (.int (x : Int)) (xs.map (fun n : Nat => V.int (n : Int)))) = decide (x ∈ y :: xs)
    rw [ih]
    by_cases e : y = x
    · subst e; simp
    · have e' : ¬ x = y := fun z => e z.symm
      have e2 : ((y : Int) == (x : Int)) = false := beq_false_of_ne (by omega)
      rw [e2]
      simp [e']
/-- two lists of numbers are data -/
theorem dp_ints {K : PySem.W.Frag} {H : Hp} : ∀ xs : List Int, DpAll K H (xs.map V.int) (xs.map PyData.int)
  | [] => .nil
  | x :: xs => .cons (.int x) (dp_ints xs)
theorem eqv_ints (xs : List Int) : PyData.eqv (.list (xs.map PyData.int)) (.list (xs.map PyData.int)) = true := SeqAt.eqv_refl _ (SeqAt.canLay_of_shaped (PySem.W.ke_shaped_ints xs))
/-- a number that is not negative -/
abbrev nv (n : Nat) : V := .int (n : Int)
theorem nv_ints (l : List Nat) : l.map nv = (l.map (fun n : Nat => (n : Int))).map V.int := by
  rw [List.map_map]
  rfl
theorem nd_cast : ∀ {xs : List Nat}, xs.Nodup → (xs.map (fun n : Nat => (n : Int))).Nodup
  | [], _ => List.nodup_nil
  | x :: xs, h => by
    have h' := List.nodup_cons.mp h
    rw [List.map_cons, List.nodup_cons]
    refine ⟨fun hm => ?_, nd_cast h'.2⟩
    obtain ⟨y, hy, e⟩ := List.mem_map.mp hm
    have : y = x := by omega
    rw [this] at hy
    exact h'.1 hy
theorem dec_nv (n : Nat) : decide (nv n = V.int 0) = decide (n = 0) := by
  rw [Bool.eq_iff_iff, decide_eq_true_eq, decide_eq_true_eq]
  constructor
  · intro e
    have := V.int.inj e
    omega
  · intro e
    rw [e]
    rfl
theorem dp_nats {K : PySem.W.Frag} {H : Hp} (xs : List Nat) : DpAll K H (xs.map nv) ((xs.map (fun n : Nat => (n : Int))).map PyData.int) := by
  rw [nv_ints]
  exact dp_ints _
theorem same_upd {H : Hp} {l : Addr} {o : HO} (h : H l = none) : Same H (upd H l o) := fun b u e => by
  rw [upd_ne (ne_of_none e h)]
  exact e
theorem same_to {H H1 : Hp} {l : Addr} {o : HO} (s : Same H H1) (h : H l = none) : Same H (upd H1 l o) := fun b u e => by
  rw [upd_ne (ne_of_none e h)]
  exact s b u e
end
section
variable {P : Program} {w : World} {K : PySem.W.Frag} {mg : Str → Option Value} {base : Heap} {f : Addr} {fd : FuncData}
/-- tuple(x), list(x), len(x), where they may stand in a comprehension -/
def rTupOf (K : PySem.W.Frag) : List V → Hp → VK → Prop := fun xs H Q => ∃ p ys, xs = [.ref p] ∧ ((SqL K H p ys ∧ ∀ l, H l = none → Q (.ref l) (upd H l (.tup ys))) ∨ (SqT K H p ys ∧ Q (.ref p) H))
def rLstOf (K : PySem.W.Frag) : List V → Hp → VK → Prop := fun xs H Q => ∃ p ys, xs = [.ref p] ∧ (SqL K H p ys ∨ SqT K H p ys) ∧ ∀ l, H l = none → Q (.ref l) (upd H l (.lst ys))
def rLenOf (K : PySem.W.Frag) : List V → Hp → VK → Prop := fun xs H Q => ∃ p ys, xs = [.ref p] ∧ (SqL K H p ys ∨ SqT K H p ys) ∧ Q (.int ys.length) H
theorem call_tupK {X : Cx} {K : PySem.W.Frag} (eK : X.K = K) : CallR X (.type "tuple") (rTupOf K) := by subst eK; exact call_tuple_of
theorem call_lstK {X : Cx} {K : PySem.W.Frag} (eK : X.K = K) : CallR X (.type "list") (rLstOf K) := by subst eK; exact call_list_of
theorem call_lenK {X : Cx} {K : PySem.W.Frag} (eK : X.K = K) : CallR X (.builtin "len") (rLenOf K) := by subst eK; exact call_len_seq
theorem call_isiK {X : Cx} {K : PySem.W.Frag} (eK : X.K = K) : CallR X (.builtin "isinstance") (rIsi K) := by subst eK; exact call_isi
/-- a tuple as a target, where it may stand in a comprehension -/
theorem pg_tupK {X : Cx} {K : PySem.W.Frag} {es : List Expr} {k : Nat} {t : TGs} {n : Nat} {pos : Pos} (eK : X.K = K) (hc : X.calm = true) (h : PGs X es t)
    (hn : (assignEach es X.env).length = n := by rfl) (hst : (assignEach es X.env).findIdx? (·.1) = none := by rfl) : PG X (.Tuple es k pos) (gTup K n t) := by
  subst eK
  exact pg_tup hc h hn hst
/-- xs.count(e), where it may stand in a comprehension -/
theorem pe_cntK {X : Cx} {K : PySem.W.Frag} {o e : Expr} {to : TE} {t : TA} {apos cpos : Pos} (eK : X.K = K) (ho : PE X o to) (ha : PA X [e] t)
    (hbase : attributeBase o "count" X.env (eval o X.env) = eval o X.env := by rfl)
    (hfew : ((backTo cpos (starEach [e] X.env)).all (fun x => !x.1) && (backToKw cpos (keywordEach [] X.env)).all (fun x => x.1.isSome)
      && decide ([e].length + ([] : List Keyword).length + (if ([] : List Keyword).isEmpty then 0 else 1) < 30)) = true := by rfl)
    (hline : (apos.endLine == cpos.line) = true := by rfl) (hs : starEach [e] X.env = [(false, eval e X.env)] := by rfl) :
    PE X (.Call (.Attribute o "count" apos) [e] [] cpos) (tBM K "list" (rCntI K) to t) := by
  subst eK
  exact pe_bm PySem.F.plainAttrs_list PySem.F.slot_list_count PySem.F.type_list_count mt_lcount ho ha hbase hfew hline hs rfl
/-! ### is_number, is_within, check_thing, check_set -/
def spNum : Sp := fun vs H Q _ => ∃ i : Int, vs = [.int i] ∧ Q (.bl true) H
theorem ok_num (B : Bl mg) (F : L2.Fun K "is_number" "is_number" s_is_number f fd) (g : mg "is_number" = some (.ref f)) : C8.Cal P w K mg base 1 "is_number" spNum [] := by
  refine ⟨f, fd, ["value"], [], F.ok sc_is_number (fun vs H Q E h => ?_) (fun cdv A outer s H vs Q E hr h => ?_), g, F.kp, F.binds (ps := ["value"]) (fun _ _ _ _ _ _ us hl => match us, hl with | [_], _ => rfl), .nil⟩
  · obtain ⟨i, rfl, _⟩ := h
    rfl
  · obtain ⟨i, rfl, q⟩ := h
    refine ⟨_, (pss_one (ps_ret (pe_and (pe_callB (call_isiK (K := K) rfl) (by rfl) B.isinstance_ (by decide +kernel) (pa_cons (pv 0) (pa_cons (pe_bltn (v := .ty "int") (u := .type "int") (by rfl) B.int_ (by decide +kernel) rfl) pa_nil))) (pe_one (pe_not (pe_callB (call_isiK (K := K) rfl) (by rfl) B.isinstance_ (by decide +kernel) (pa_cons (pv 0) (pa_cons (pe_bltn (v := .ty "bool") (u := .type "bool") (by rfl) B.bool_ (by decide +kernel) rfl) pa_nil)))))))), ?_⟩
    exact ⟨_, rfl, _, _, _, _, true, rfl, ClsV.ty _, TyX.base (TyOf.int i), kit_ty (by decide +kernel), true, rfl, iteT ⟨_, rfl, _, _, _, _, false, rfl, ClsV.ty _, TyX.base (TyOf.int i), kit_ty (by decide +kernel), false, rfl, q⟩⟩
def spWithin : Sp := fun vs H Q _ => ∃ i lo hi : Int, vs = [.int i, .int lo, .int hi] ∧ Q (.bl (decide (lo ≤ i) && decide (i ≤ hi))) H
theorem ok_within (F : L2.Fun K "is_within" "is_within" s_is_within f fd) (g : mg "is_within" = some (.ref f)) (c_is_number : C8.Cal P w K mg base 1 "is_number" spNum []) : C8.Cal P w K mg base 2 "is_within" spWithin [] := by
  refine ⟨f, fd, ["value", "low", "high"], [], F.ok sc_is_within (fun vs H Q E h => ?_) (fun cdv A outer s H vs Q E hr h => ?_), g, F.kp, F.binds (ps := ["value", "low", "high"]) (fun _ _ _ _ _ _ us hl => match us, hl with | [_, _, _], _ => rfl), .nil⟩
  · obtain ⟨i, lo, hi, rfl, _⟩ := h
    rfl
  · obtain ⟨i, lo, hi, rfl, q⟩ := h
    refine ⟨_, (pss_one (ps_ret (pe_and (C8.pe_c c_is_number hr (by first | decide | exact Nat.le_refl _ | omega) rfl (pa_cons (pv 0) pa_nil)) (pe_one (pe_chain op_le op_le (pv 1) (pv 0) (pv 2)))))), ?_⟩
    refine ⟨_, rfl, i, rfl, true, rfl, iteT ⟨_, rfl, _, rfl, lo, i, rfl, rfl, decide (lo ≤ i), rfl, ?_⟩⟩
    cases e : decide (lo ≤ i) with
    | true =>
      rw [e] at q
      exact iteT ⟨_, rfl, i, hi, rfl, rfl, q⟩
    | false =>
      rw [e] at q
      exact iteF q
def spThing : Sp := fun vs H Q _ => ∃ i n : Int, vs = [.int i, .int n] ∧ 0 ≤ i ∧ i < n ∧ Q .non H
theorem ok_thing (F : L2.Fun K "check_thing" "check_thing" s_check_thing f fd) (g : mg "check_thing" = some (.ref f)) (c_is_within : C8.Cal P w K mg base 2 "is_within" spWithin []) : C8.Cal P w K mg base 3 "check_thing" spThing [] := by
  refine ⟨f, fd, ["thing", "many"], [], F.ok sc_check_thing (fun vs H Q E h => ?_) (fun cdv A outer s H vs Q E hr h => ?_), g, F.kp, F.binds (ps := ["thing", "many"]) (fun _ _ _ _ _ _ us hl => match us, hl with | [_, _], _ => rfl), .nil⟩
  · obtain ⟨i, n, rfl, _⟩ := h
    rfl
  · obtain ⟨i, n, rfl, h0, h1, q⟩ := h
    refine ⟨_, (pss_one (ps_if (pt_not (pt_val (C8.pe_c c_is_within hr (by first | decide | exact Nat.le_refl _ | omega) rfl (pa_cons (pv 0) (pa_cons pe_int (pa_cons (pe_op op_sub (pv 1) pe_int) pa_nil)))))) (pss_one ps_never) pss_nil)), ?_⟩
    have e : (decide ((0 : Int) ≤ i) && decide (i ≤ n - 1)) = true := by
      rw [Bool.and_eq_true]
      exact ⟨decide_eq_true h0, decide_eq_true (by omega)⟩
    exact ⟨_, rfl, _, rfl, _, _, rfl, rfl, i, 0, n - 1, rfl, true, by rw [e], iteF q⟩
def spSet : Sp := fun vs H Q _ => ∃ (a : Addr) (xs : List Int) (n : Int), vs = [.ref a, .int n] ∧ H a = some (.lst (xs.map V.int)) ∧ (∀ x ∈ xs, 0 ≤ x ∧ x < n) ∧ xs.Nodup ∧ xs.length ≤ 1000 ∧ ∀ H', Same H H' → Q .non H'
theorem ok_set (B : Bl mg) (F : L2.Fun K "check_set" "check_set" s_check_set f fd) (g : mg "check_set" = some (.ref f)) (c_check_thing : C8.Cal P w K mg base 3 "check_thing" spThing []) : C8.Cal P w K mg base 4 "check_set" spSet [] := by
  refine ⟨f, fd, ["some", "many"], [], F.ok sc_check_set (fun vs H Q E h => ?_) (fun cdv A outer s H vs Q E hr h => ?_), g, F.kp, F.binds (ps := ["some", "many"]) (fun _ _ _ _ _ _ us hl => match us, hl with | [_, _], _ => rfl), .nil⟩
  · obtain ⟨a, xs, n, rfl, _⟩ := h
    rfl
  · obtain ⟨a, xs, n, rfl, ha, hx, hnd, hlen, q⟩ := h
    refine ⟨_, (pss_cons (ps_if (pt_not (pt_val (pe_callB (call_isiK (K := K) rfl) (by rfl) B.isinstance_ (by decide +kernel) (pa_cons (pv 0) (pa_cons (pe_bltn (v := .ty "list") (u := .type "list") (by rfl) B.list_ (by decide +kernel) rfl) pa_nil))))) (pss_one ps_never) pss_nil)
      (pss_cons (ps_set (i := 2) sc_check_set.nd rfl (Or.inl rfl) (pe_lst pa_nil))
      (pss_one (ps_for PassesOwn.never rfl (pi_list (pv 0)) (pg_name (i := 3) sc_check_set.nd rfl (Or.inl rfl)) (pss_cons (ps_expr (C8.pe_c c_check_thing hr (by first | decide | exact Nat.le_refl _ | omega) rfl (pa_cons (pv 3) (pa_cons (pv 1) pa_nil))))
      (pss_cons (ps_if (pt_cmpR op_in_seq (pv 3) (pv 2) (by rfl)) (pss_one ps_never) pss_nil)
      (pss_one (ps_expr (pe_bm PySem.F.plainAttrs_list PySem.F.slot_list_append PySem.F.type_list_append mt_append (pv 2) (pa_cons (pv 3) pa_nil)))))))))), ?_⟩
    refine ⟨_, rfl, _, _, _, _, true, rfl, ClsV.ty _, TyX.base (TyOf.lst ha), kit_ty (by decide +kernel), true, rfl, iteF ?_⟩
    refine ⟨Nat.zero_le _, fun l hl => ?_⟩
    refine ⟨_, rfl, a, rfl, ⟨_, SqL.of (same_upd hl _ _ ha)⟩, for_list (K := K) (a := a) (xs := xs.map V.int) (fun i σ H' => ∃ v : Option V, σ = [some (.ref a), some (.int n), some (.ref l), v] ∧ Same H H' ∧ H' l = some (.lst ((xs.take i).map V.int)))
      ⟨none, rfl, same_upd hl, upd_same⟩ (fun i σ H' _ ⟨_, _, s5, _⟩ => SqL.of (s5 _ _ ha)) ?_ ?_⟩
    · rintro i y σ H' hi ⟨v, rfl, s5, hL⟩
      obtain ⟨x, hx', rfl⟩ := map_at hi
      obtain ⟨x0, x1⟩ := hx x (List.mem_of_getElem? hx')
      have hin : inV (.int x) ((xs.take i).map V.int) = false := by
        rw [in_ints]
        refine decide_eq_false fun hm => ?_
        obtain ⟨j, hj⟩ := List.getElem?_of_mem hm
        have hji : j < i := Nat.lt_of_not_le fun le => by
          rw [List.getElem?_take, if_neg (by omega)] at hj
          cases hj
        rw [List.getElem?_take, if_pos hji] at hj
        have := nd_ix hnd hj hx'
        omega
      have hl' : (xs.take i).length ≤ 1000 := Nat.le_trans (by rw [List.length_take]; omega) hlen
      refine ⟨_, rfl, _, rfl, x, n, rfl, x0, x1, ?_⟩
      refine ⟨_, rfl, _, rfl, l, _, rfl, .inl (SqL.of hL), rfl, flat_ints _, false, by rw [if_neg Bool.false_ne_true, hin], iteF ?_⟩
      refine ⟨_, rfl, .inl ⟨rfl, _, SqL.of hL⟩, _, rfl, l, _, _, rfl, rfl, hL, by rw [List.length_map]; exact small1000 hl', ?_⟩
      refine ⟨_, rfl, same_to s5 hl, ?_⟩
      rw [take_more hx', List.map_append]
      exact upd_same
    · rintro σ H' ⟨v, rfl, s5, hL⟩
      exact q _ s5
end
/-! ### check_ground -/
section
variable {P : Program} {w : World} {K : PySem.W.Frag} {mg : Str → Option Value} {base : Heap} {f : Addr} {fd : FuncData}
/-- what stands under the program's own names of numbers -/
def Num (mg : Str → Option Value) (x : Str) (i : Int) : Prop := ∃ u, mg x = some u ∧ RelV (.int i) u
/-- a class under its name -/
def Own (mg : Str → Option Value) (x : Str) (C : Addr) : Prop := ∃ u, mg x = some u ∧ RelV (.ref C) u
/-- what isinstance asks of a class of the program, and of the one above it -/
structure Isi (K : PySem.W.Frag) (C CR : Addr) : Prop where
  ha : PySem.W.findIn K (.ref C) "__class__" = some (some (.builtin "object.__class__"))
  hn : PySem.W.specialIn K (.builtin "object.__class__") "__get__" = some (some (.builtin "getset_descriptor.__get__"))
  htk : PySem.W.takesIn K (.builtin "object.__class__") = some true
  hm : PySem.W.mroIn K C (.type "object") = some true
  up : PySem.W.kitOne K (.ref C) (.ref CR) = some true
theorem kit_up {C CR : Addr} (h2 : PySem.W.isClsIn K CR = true) (h3 : PySem.W.typeIn K (.ref CR) = some (.type "type")) (h4 : PySem.W.subIn K (.ref C) (.ref CR) = some true) : PySem.W.kitOne K (.ref C) (.ref CR) = some true := by
  unfold PySem.W.kitOne
  by_cases c : (Value.ref C == Value.ref CR) = true
  · rw [if_pos c]
  · rw [if_neg c]
    have h2' : (PySem.W.clsIn K CR).isSome = true := h2
    have e2 : ((PySem.W.clsIn K CR).isSome && PySem.W.typeIn K (.ref CR) == some (.type "type")) = true := by
      rw [h2', h3] <;> rfl
    show (if ((PySem.W.clsIn K CR).isSome && PySem.W.typeIn K (.ref CR) == some (.type "type")) = true then PySem.W.subIn K (.ref C) (.ref CR) else none) = some true
    rw [if_pos e2]
    exact h4
def spGround : Sp := fun vs H Q _ => ∃ (a : Addr) (xs : List V), vs = [.ref a] ∧ H a = some (.lst xs) ∧ xs.length ≤ 16 ∧ Q .non H
structure Gl_ (mg : Str → Option Value) (CR : Addr) : Prop where
  Rule : Own mg "Rule" CR
def spLaw (K : PySem.W.Frag) : Sp := fun vs H Q _ => ∃ (a : Addr) (ns : List Int), vs = [.ref a] ∧ SqL K H a (ns.map V.int) ∧ ns.length ≤ 63 ∧ ∀ H', Q (.bl true) H'
structure Gg (mg : Str → Option Value) : Prop where
  MOST_THINGS : Num mg "MOST_THINGS" 16
theorem ok_ground (B : Bl mg) (G : Gg mg) (F : L2.Fun K "check_ground" "check_ground" s_check_ground f fd) (g : mg "check_ground" = some (.ref f)) : C8.Cal P w K mg base 1 "check_ground" spGround [] := by
  refine ⟨f, fd, ["things"], [], F.ok sc_check_ground (fun vs H Q E h => ?_) (fun cdv A outer s H vs Q E hr h => ?_), g, F.kp, F.binds (ps := ["things"]) (fun _ _ _ _ _ _ us hl => match us, hl with | [_], _ => rfl), .nil⟩
  · obtain ⟨a, xs, rfl, _⟩ := h
    rfl
  · obtain ⟨a, xs, rfl, ha, hl, q⟩ := h
    refine ⟨_, (pss_cons (ps_if (pt_not (pt_val (pe_callB (call_isiK (K := K) rfl) (by rfl) B.isinstance_ (by decide +kernel) (pa_cons (pv 0) (pa_cons (pe_bltn (v := .ty "list") (u := .type "list") (by rfl) B.list_ (by decide +kernel) rfl) pa_nil))))) (pss_one ps_never) pss_nil)
      (pss_one (ps_if (pt_cmpR op_gt (pe_callB (call_lenK (K := K) rfl) (by rfl) B.len_ (by decide +kernel) (pa_cons (pv 0) pa_nil)) (C8.pe_gc rfl G.MOST_THINGS) (nomark _)) (pss_one ps_never) pss_nil))), ?_⟩
    refine ⟨_, rfl, _, _, _, _, true, rfl, ClsV.ty _, TyX.base (TyOf.lst ha), kit_ty (by decide +kernel), true, rfl, iteF ?_⟩
    refine ⟨_, rfl, a, _, rfl, .inl (SqL.of ha), _, _, rfl, rfl, false, ?_, iteF q⟩
    have : ¬ ((16 : Int) < (xs.length : Int)) := by omega
    show V.bl (decide ((16 : Int) < (xs.length : Int))) = V.bl false
    rw [decide_eq_false this]
end
/-! ### are_within -/
section
variable {P : Program} {w : World} {K : PySem.W.Frag} {mg : Str → Option Value} {base : Heap} {f : Addr} {fd : FuncData}
def inB (lo hi x : Int) : Bool := decide (lo ≤ x) && decide (x ≤ hi)
def spAre : Sp := fun vs H Q _ => ∃ (a : Addr) (xs : List Int) (lo hi : Int), vs = [.ref a, .int lo, .int hi] ∧ H a = some (.lst (xs.map V.int)) ∧ xs.length ≤ 1000 ∧ ∀ H', Same H H' → Q (.bl (xs.all (inB lo hi))) H'
theorem all_map {α : Type} (p : α → Bool) : ∀ xs : List α, (xs.map p).all id = xs.all p
  | [] => rfl
  | x :: xs => by
    show (p x && (xs.map p).all id) = (p x && xs.all p)
    rw [all_map p xs]
theorem ok_are (B : Bl mg) (F : L2.Fun K "are_within" "are_within" s_are_within f fd) (g : mg "are_within" = some (.ref f)) (c_is_within : C8.Cal P w K mg base 2 "is_within" spWithin []) : C8.Cal P w K mg base 3 "are_within" spAre [] := by
  refine ⟨f, fd, ["values", "low", "high"], [], F.ok sc_are_within (fun vs H Q E h => ?_) (fun cdv A outer s H vs Q E hr h => ?_), g, F.kp, F.binds (ps := ["values", "low", "high"]) (fun _ _ _ _ _ _ us hl => match us, hl with | [_, _, _], _ => rfl), .nil⟩
  · obtain ⟨a, xs, lo, hi, rfl, _⟩ := h
    rfl
  · obtain ⟨a, xs, lo, hi, rfl, ha, hlen, q⟩ := h
    refine ⟨_, (pss_one (ps_ret (pe_and (pe_callB (call_isiK (K := K) rfl) (by rfl) B.isinstance_ (by decide +kernel) (pa_cons (pv 0) (pa_cons (pe_bltn (v := .ty "list") (u := .type "list") (by rfl) B.list_ (by decide +kernel) rfl) pa_nil))) (pe_one (pe_callB (cr_all rfl) (by rfl) B.all_ (by decide +kernel) (pa_cons (pe_lc (own := [("value", 3)]) rfl sc_are_within.nd (pi_list (pv 0)) (blkOk_by (own := [("value", 3)]) (N := n_are_within) (sc := defScope s_are_within) (by decide +kernel)) (fun _ _ _ _ _ => (pg_name (i := 3) sc_are_within.nd rfl (Or.inl rfl))) (fun _ _ _ _ _ => pts_nil) (fun _ _ _ _ _ => (C8.pe_c c_is_within hr (by first | decide | exact Nat.le_refl _ | omega) rfl (pa_cons (pv 3) (pa_cons (pv 1) (pa_cons (pv 2) pa_nil)))))) pa_nil)))))), ?_⟩
    refine ⟨_, rfl, _, _, _, _, true, rfl, ClsV.ty _, TyX.base (TyOf.lst ha), kit_ty (by decide +kernel), true, rfl, iteT ?_⟩
    refine ⟨_, rfl, a, rfl, ⟨_, SqL.of ha⟩, fun D hD => lc_list (K := K) (a := a) (xs := xs.map V.int) (fun i H' => Same H H' ∧ H' D = some (.lst (((xs.take i).map (inB lo hi)).map V.bl)))
      ⟨same_upd hD, upd_same⟩ (fun i H' _ p => SqL.of (p.1 _ _ ha)) ?_ ?_⟩
    · rintro i y H' hi' ⟨s5, hL⟩
      obtain ⟨x, hx, rfl⟩ := map_at hi'
      refine ⟨rfl, yesT ?_⟩
      refine ⟨_, rfl, _, rfl, _, rfl, x, lo, hi, rfl, _, hL, ?_, same_to s5 hD, ?_⟩
      · rw [List.length_map, List.length_map]
        exact small1000 (Nat.le_trans (by rw [List.length_take]; omega) hlen)
      · rw [take_more hx, List.map_append, List.map_append]
        exact upd_same
    · rintro H' ⟨s5, hL⟩
      rw [List.length_map, List.take_length] at hL
      refine ⟨D, _, rfl, SqL.of hL, ?_⟩
      rw [all_map]
      exact q _ s5
end
/-! ### lists of pairs of numbers -/
section
/-- at these addresses stand tuples of these pairs -/
def prs (H : Hp) : List Addr → List (Nat × Nat) → Prop
  | [], [] => True
  | t :: ts, e :: es => H t = some (.tup [nv e.1, nv e.2]) ∧ prs H ts es
  | _, _ => False
theorem prs.len {H : Hp} : ∀ {ts : List Addr} {es : List (Nat × Nat)}, prs H ts es → ts.length = es.length
  | [], [], _ => rfl
  | _ :: _, _ :: _, h => congrArg (· + 1) h.2.len
  | [], _ :: _, h => False.elim h
  | _ :: _, [], h => False.elim h
theorem prs.keep {H H' : Hp} : ∀ {ts : List Addr} {es : List (Nat × Nat)}, prs H ts es → (∀ t xs, H t = some (.tup xs) → H' t = some (.tup xs)) → prs H' ts es
  | [], [], _, _ => True.intro
  | _ :: _, _ :: _, h, k => ⟨k _ _ h.1, h.2.keep k⟩
  | [], _ :: _, h, _ => False.elim h
  | _ :: _, [], h, _ => False.elim h
theorem prs.same {H H' : Hp} {ts : List Addr} {es : List (Nat × Nat)} (h : prs H ts es) (s : Same H H') : prs H' ts es := h.keep fun t xs e => s _ _ e
theorem prs.at {H : Hp} : ∀ {ts : List Addr} {es : List (Nat × Nat)} {i : Nat} {t : Addr}, prs H ts es → ts[i]? = some t → ∃ e, es[i]? = some e ∧ H t = some (.tup [nv e.1, nv e.2])
  | t :: ts, e :: es, 0, u, h, q => by
    have z : t = u := Option.some.inj q
    subst z
    exact ⟨e, rfl, h.1⟩
  | t :: ts, e :: es, i + 1, u, h, q => prs.at (ts := ts) (es := es) h.2 q
  | [], _, _, _, _, q => by simp at q
  | _ :: _, [], _, _, h, _ => False.elim h
theorem prs.put {H : Hp} {t : Addr} {e : Nat × Nat} (ht : H t = some (.tup [nv e.1, nv e.2])) : ∀ {ts : List Addr} {es : List (Nat × Nat)}, prs H ts es → prs H (ts ++ [t]) (es ++ [e])
  | [], [], _ => ⟨ht, True.intro⟩
  | _ :: _, _ :: _, h => ⟨h.1, h.2.put ht⟩
  | [], _ :: _, h => False.elim h
  | _ :: _, [], h => False.elim h
/-- a list that is no tuple is written: the pairs stay -/
theorem prs.upd {H : Hp} {ts : List Addr} {es : List (Nat × Nat)} {l : Addr} {o u : HO} (h : prs H ts es) (hl : H l = some o) (n : ∀ xs, o ≠ .tup xs) : prs (upd H l u) ts es := h.keep fun t xs e => by
  have : t ≠ l := fun z => by
    rw [z, hl] at e
    exact n xs (Option.some.inj e)
  rw [upd_ne this]
  exact e
def pd (e : Nat × Nat) : PyData := .tuple [.int (e.1 : Int), .int (e.2 : Int)]
theorem dp_prs {K : PySem.W.Frag} {H : Hp} : ∀ {ts : List Addr} {es : List (Nat × Nat)}, prs H ts es → DpAll K H (ts.map V.ref) (es.map pd)
  | [], [], _ => .nil
  | _ :: _, _ :: _, h => .cons (.tup (SqT.of h.1) (.cons (.int _) (.cons (.int _) .nil))) (dp_prs h.2)
  | [], _ :: _, h => False.elim h
  | _ :: _, [], h => False.elim h
theorem pd_lay : ∀ es : List (Nat × Nat), PyData.canLayAll0 (es.map pd) = true
  | [] => rfl
  | e :: es => by simp [PyData.canLayAll0, PyData.canLay0, pd_lay es, pd]
theorem pd_depth : ∀ es : List (Nat × Nat), PyData.depthAll (es.map pd) ≤ 1
  | [] => by simp [PyData.depthAll]
  | e :: es => by
    have h1 := pd_depth es
    have h2 : (pd e).depth = 1 := by simp [pd, PyData.depth, PyData.depthAll]
    simp only [List.map_cons, PyData.depthAll]
    omega
theorem pd_shaped (es : List (Nat × Nat)) : SeqAt.shaped (.list (es.map pd)) = true := by
  have h1 := pd_depth es
  have h2 : PyData.depth (.list (es.map pd)) ≤ 64 := by
    simp only [PyData.depth]
    omega
  show (PyData.canLay0 (.list (es.map pd)) && decide (PyData.depth (.list (es.map pd)) ≤ 64)) = true
  rw [Bool.and_eq_true]
  exact ⟨by simp only [PyData.canLay0]; exact pd_lay es, decide_eq_true h2⟩
theorem pd_same (es : List (Nat × Nat)) : PyData.eqv (.list (es.map pd)) (.list (es.map pd)) = true := SeqAt.eqv_refl _ (SeqAt.canLay_of_shaped (pd_shaped es))
theorem count_cast (k : Nat) : ∀ l : List Nat, (l.map (fun n : Nat => (n : Int))).count (k : Int) = l.count k
  | [] => rfl
  | x :: l => by
    rw [List.map_cons, List.count_cons, List.count_cons, count_cast k l]
    by_cases e : x = k
    · subst e; simp
    · have e2 : ((x : Int) == (k : Int)) = false := beq_false_of_ne (by omega)
      rw [e2]
      simp [e]
end
/-! ### lists of lists (or tuples) of numbers -/
section
/-- at these addresses stand these lists of numbers, as mk says (.lst, .tup) -/
def rws (mk : List V → HO) (H : Hp) : List Addr → List (List Nat) → Prop
  | [], [] => True
  | t :: ts, w :: ws => H t = some (mk (w.map nv)) ∧ rws mk H ts ws
  | _, _ => False
variable {mk : List V → HO}
theorem rws.len {H : Hp} : ∀ {ts : List Addr} {ws : List (List Nat)}, rws mk H ts ws → ts.length = ws.length
  | [], [], _ => rfl
  | _ :: _, _ :: _, h => congrArg (· + 1) h.2.len
  | [], _ :: _, h => False.elim h
  | _ :: _, [], h => False.elim h
theorem rws.keep {H H' : Hp} : ∀ {ts : List Addr} {ws : List (List Nat)}, rws mk H ts ws → (∀ t xs, t ∈ ts → H t = some (mk xs) → H' t = some (mk xs)) → rws mk H' ts ws
  | [], [], _, _ => True.intro
  | _ :: _, _ :: _, h, k => ⟨k _ _ (List.mem_cons_self ..) h.1, h.2.keep fun t xs m => k t xs (List.mem_cons_of_mem _ m)⟩
  | [], _ :: _, h, _ => False.elim h
  | _ :: _, [], h, _ => False.elim h
theorem rws.same {H H' : Hp} {ts : List Addr} {ws : List (List Nat)} (h : rws mk H ts ws) (s : Same H H') : rws mk H' ts ws := h.keep fun _ _ _ e => s _ _ e
theorem rws.at {H : Hp} : ∀ {ts : List Addr} {ws : List (List Nat)} {i : Nat} {t : Addr}, rws mk H ts ws → ts[i]? = some t → ∃ w, ws[i]? = some w ∧ H t = some (mk (w.map nv))
  | t :: ts, w :: ws, 0, u, h, q => by
    have z : t = u := Option.some.inj q
    subst z
    exact ⟨w, rfl, h.1⟩
  | t :: ts, w :: ws, i + 1, u, h, q => rws.at (ts := ts) (ws := ws) h.2 q
  | [], _, _, _, _, q => by simp at q
  | _ :: _, [], _, _, h, _ => False.elim h
theorem rws.mem {H : Hp} : ∀ {ts : List Addr} {ws : List (List Nat)} {t : Addr}, rws mk H ts ws → t ∈ ts → ∃ w ∈ ws, H t = some (mk (w.map nv))
  | t :: ts, w :: ws, u, h, q => by
    rcases List.mem_cons.mp q with e | e
    · rw [e]
      exact ⟨w, List.mem_cons_self .., h.1⟩
    · obtain ⟨w', hw, k⟩ := rws.mem h.2 e
      exact ⟨w', List.mem_cons_of_mem _ hw, k⟩
  | [], _, _, _, q => by cases q
  | _ :: _, [], _, h, _ => False.elim h
theorem rws.put {H : Hp} {t : Addr} {w : List Nat} (ht : H t = some (mk (w.map nv))) : ∀ {ts : List Addr} {ws : List (List Nat)}, rws mk H ts ws → rws mk H (ts ++ [t]) (ws ++ [w])
  | [], [], _ => ⟨ht, True.intro⟩
  | _ :: _, _ :: _, h => ⟨h.1, h.2.put ht⟩
  | [], _ :: _, h => False.elim h
  | _ :: _, [], h => False.elim h
/-- something that is no such row is written: the rows stay -/
theorem rws.upd {H : Hp} {ts : List Addr} {ws : List (List Nat)} {l : Addr} {u : HO} (h : rws mk H ts ws) (n : l ∉ ts) : rws mk (upd H l u) ts ws := h.keep fun t xs m e => by
  have ne : t ≠ l := fun z => n (by rw [← z]; exact m)
  rw [upd_ne ne]
  exact e
theorem rws.not_mem {H : Hp} {ts : List Addr} {ws : List (List Nat)} {l : Addr} {o : HO} (h : rws mk H ts ws) (hl : H l = some o) (n : ∀ xs, o ≠ mk xs) : l ∉ ts := fun m => by
  obtain ⟨w, _, e⟩ := h.mem m
  rw [hl] at e
  exact n _ (Option.some.inj e)
theorem rws.not_none {H : Hp} {ts : List Addr} {ws : List (List Nat)} {l : Addr} (h : rws mk H ts ws) (hl : H l = none) : l ∉ ts := fun m => by
  obtain ⟨w, _, e⟩ := h.mem m
  rw [hl] at e
  cases e
def wd (w : List Nat) : List PyData := (w.map (fun n : Nat => (n : Int))).map PyData.int
def rd (w : List Nat) : PyData := .list (wd w)
def td (w : List Nat) : PyData := .tuple (wd w)
theorem dp_row {K : PySem.W.Frag} {H : Hp} {t : Addr} {w : List Nat} (h : H t = some (.lst (w.map nv))) : Dp K H (.ref t) (rd w) := .lst (SqL.of h) (dp_nats w)
theorem dp_tup {K : PySem.W.Frag} {H : Hp} {t : Addr} {w : List Nat} (h : H t = some (.tup (w.map nv))) : Dp K H (.ref t) (td w) := .tup (SqT.of h) (dp_nats w)
theorem dp_rows {K : PySem.W.Frag} {H : Hp} {dm : List Nat → PyData} (hd : ∀ t w, H t = some (mk (w.map nv)) → Dp K H (.ref t) (dm w)) : ∀ {ts : List Addr} {ws : List (List Nat)}, rws mk H ts ws → DpAll K H (ts.map V.ref) (ws.map dm)
  | [], [], _ => .nil
  | _ :: _, _ :: _, h => .cons (hd _ _ h.1) (dp_rows hd h.2)
  | [], _ :: _, h => False.elim h
  | _ :: _, [], h => False.elim h
theorem wd_lay (w : List Nat) : PyData.canLayAll0 (wd w) = true := PySem.W.ke_canLayAll0 _
theorem wd_depth (w : List Nat) : PyData.depthAll (wd w) = 0 := PySem.W.ke_depthAll _
theorem flat_lay {dm : List Nat → PyData} (h1 : ∀ w, (dm w).canLay0 = true) : ∀ ws : List (List Nat), PyData.canLayAll0 (ws.map dm) = true
  | [] => rfl
  | w :: ws => by simp [PyData.canLayAll0, h1 w, flat_lay h1 ws]
theorem flat_depth {dm : List Nat → PyData} (h2 : ∀ w, (dm w).depth = 1) : ∀ ws : List (List Nat), PyData.depthAll (ws.map dm) ≤ 1
  | [] => by simp [PyData.depthAll]
  | w :: ws => by
    have k1 := flat_depth h2 ws
    have k2 := h2 w
    simp only [List.map_cons, PyData.depthAll]
    omega
theorem rows_shaped {dm : List Nat → PyData} (h1 : ∀ w, (dm w).canLay0 = true) (h2 : ∀ w, (dm w).depth = 1) (ws : List (List Nat)) : SeqAt.shaped (.list (ws.map dm)) = true := by
  have k1 := flat_depth h2 ws
  have k2 : PyData.depth (.list (ws.map dm)) ≤ 64 := by
    simp only [PyData.depth]
    omega
  show (PyData.canLay0 (.list (ws.map dm)) && decide (PyData.depth (.list (ws.map dm)) ≤ 64)) = true
  rw [Bool.and_eq_true]
  exact ⟨by simp only [PyData.canLay0]; exact flat_lay h1 ws, decide_eq_true k2⟩
theorem rd_lay (w : List Nat) : (rd w).canLay0 = true := by simp only [rd, PyData.canLay0]; exact wd_lay w
theorem td_lay (w : List Nat) : (td w).canLay0 = true := by simp only [td, PyData.canLay0]; exact wd_lay w
theorem rd_depth (w : List Nat) : (rd w).depth = 1 := by simp only [rd, PyData.depth, wd_depth]
theorem td_depth (w : List Nat) : (td w).depth = 1 := by simp only [td, PyData.depth, wd_depth]
theorem td_shaped (w : List Nat) : SeqAt.shaped (td w) = true := by
  show ((td w).canLay0 && decide ((td w).depth ≤ 64)) = true
  rw [td_lay, td_depth]
  rfl
theorem rows_same (ws : List (List Nat)) : PyData.eqv (.list (ws.map rd)) (.list (ws.map rd)) = true := SeqAt.eqv_refl _ (SeqAt.canLay_of_shaped (rows_shaped rd_lay rd_depth ws))
theorem wd_eqv : ∀ a b : List Nat, PyData.eqvAll (wd a) (wd b) = decide (a = b)
  | [], [] => rfl
  | [], _ :: _ => by rw [decide_eq_false (by intro z; cases z)]; simp [wd, PyData.eqvAll]
  | _ :: _, [] => by rw [decide_eq_false (by intro z; cases z)]; simp [wd, PyData.eqvAll]
  | x :: a, y :: b => by
    have ih := wd_eqv a b
    show PyData.eqvAll (PyData.int x :: wd a) (PyData.int y :: wd b) = _
    simp only [PyData.eqvAll, PyData.eqv, ih]
    by_cases e : x = y
    · subst e
      by_cases e2 : a = b
      · subst e2; simp
      · simp [e2]
    · have e3 : ((x : Int) == (y : Int)) = false := beq_false_of_ne (by omega)
      rw [e3, decide_eq_false (p := x :: a = y :: b) (by intro z; exact e (List.cons.inj z).1)]
      rfl
theorem td_eqv (a b : List Nat) : PyData.eqv (td a) (td b) = decide (a = b) := by
  simp only [td, PyData.eqv]
  exact wd_eqv a b
theorem td_any (w : List Nat) : ∀ ws : List (List Nat), ((ws.map td).any fun z => PyData.eqv z (td w)) = decide (w ∈ ws)
  | [] => rfl
  | x :: ws => by
    rw [List.map_cons, List.any_cons, td_any w ws, td_eqv]
    by_cases e : x = w
    · subst e; simp
    · have e' : ¬ w = x := fun z => e z.symm
      simp [e, e']
theorem ne_nil_eqv {dm : List Nat → PyData} (ws : List (List Nat)) : PyData.eqv (.list (ws.map dm)) (.list []) = decide (ws = []) := by
  cases ws with
  | nil => rfl
  | cons e es =>
    rw [decide_eq_false (by intro z; cases z)]
    simp [PyData.eqv, PyData.eqvAll]
end
namespace Th
section
variable {P : Program} {w : World} {K : PySem.W.Frag} {mg : Str → Option Value} {base : Heap} {f C CR : Addr} {fd : FuncData}
/-! ### is_tie -/
def spTie : Sp := fun vs H Q _ => ∃ (t : Addr) (N : Nat) (e : Nat × Nat), vs = [.ref t, nv N] ∧ H t = some (.tup [nv e.1, nv e.2]) ∧ e.1 < N ∧ e.2 < N ∧ ∀ H', Same H H' → Q (.bl true) H'
theorem all_true : ∀ n, (List.replicate n true).all id = true
  | 0 => rfl
  | n + 1 => all_true n
theorem ok_tie (B : Bl mg) (F : L2.Fun K "is_tie" "is_tie" s_is_tie f fd) (g : mg "is_tie" = some (.ref f)) (c_is_within : C8.Cal P w K mg base 2 "is_within" spWithin []) : C8.Cal P w K mg base 3 "is_tie" spTie [] := by
  refine ⟨f, fd, ["tie", "places"], [], F.ok sc_is_tie (fun vs H Q E h => ?_) (fun cdv A outer s H vs Q E hr h => ?_), g, F.kp, F.binds (ps := ["tie", "places"]) (fun _ _ _ _ _ _ us hl => match us, hl with | [_, _], _ => rfl), .nil⟩
  · obtain ⟨t, N, e, rfl, _⟩ := h
    rfl
  · obtain ⟨t, N, e, rfl, ht, h1, h2, q⟩ := h
    refine ⟨_, (pss_cons (ps_if (PW.pt (pw_or (pt_not (pt_val (pe_callB (call_isiK (K := K) rfl) (by rfl) B.isinstance_ (by decide +kernel) (pa_cons (pv 0) (pa_cons (pe_bltn (v := .ty "tuple") (u := .type "tuple") (by rfl) B.tuple_ (by decide +kernel) rfl) pa_nil))))) (pw_or1 (pt_cmpR op_ne (pe_callB (call_lenK (K := K) rfl) (by rfl) B.len_ (by decide +kernel) (pa_cons (pv 0) pa_nil)) pe_int (nomark _))))) (pss_one (ps_ret pe_bl)) pss_nil)
      (pss_one (ps_ret (pe_callB (cr_all rfl) (by rfl) B.all_ (by decide +kernel) (pa_cons (pe_lc (own := [("place", 2)]) rfl sc_is_tie.nd (pi_tup (pv 0)) (blkOk_by (own := [("place", 2)]) (N := n_is_tie) (sc := defScope s_is_tie) (by decide +kernel)) (fun _ _ _ _ _ => (pg_name (i := 2) sc_is_tie.nd rfl (Or.inl rfl))) (fun _ _ _ _ _ => pts_nil) (fun _ _ _ _ _ => (C8.pe_c c_is_within hr (by first | decide | exact Nat.le_refl _ | omega) rfl (pa_cons (pv 2) (pa_cons pe_int (pa_cons (pe_op op_sub (pv 1) pe_int) pa_nil)))))) pa_nil))))), ?_⟩
    refine ⟨_, rfl, _, _, _, _, true, rfl, ClsV.ty _, TyX.base (TyOf.tup ht), kit_ty (by decide +kernel), true, rfl, iteF ?_⟩
    refine ⟨_, rfl, t, _, rfl, .inr (SqT.of ht), rfl, false, rfl, iteF ?_⟩
    refine ⟨_, rfl, t, rfl, ⟨_, SqT.of ht⟩, fun D hD => lc_tup (K := K) (a := t) (xs := [nv e.1, nv e.2]) (fun i H' => Same H H' ∧ H' D = some (.lst ((List.replicate i true).map V.bl)))
      ⟨same_upd hD, upd_same⟩ (fun i H' _ p => SqT.of (p.1 _ _ ht)) ?_ ?_⟩
    · rintro i y H' hi ⟨s5, hL⟩
      obtain ⟨n, hn, rfl⟩ : ∃ n : Nat, n < N ∧ y = nv n := by
        have hm : y ∈ [nv e.1, nv e.2] := List.mem_of_getElem? hi
        rcases List.mem_cons.mp hm with z | z
        · exact ⟨_, h1, z⟩
        · exact ⟨_, h2, List.mem_singleton.mp z⟩
      have i2 : i < 2 := (List.getElem?_eq_some_iff.mp hi).1
      have eB : (decide ((0 : Int) ≤ (n : Int)) && decide ((n : Int) ≤ (N : Int) - 1)) = true := by
        rw [Bool.and_eq_true]
        exact ⟨decide_eq_true (by omega), decide_eq_true (by omega)⟩
      refine ⟨rfl, yesT ?_⟩
      refine ⟨_, rfl, _, rfl, _, _, rfl, rfl, n, 0, (N : Int) - 1, rfl, _, hL, ?_, same_to s5 hD, ?_⟩
      · rw [List.length_map, List.length_replicate]
        exact small1000 (by omega)
      · rw [eB, List.replicate_succ', List.map_append]
        exact upd_same
    · rintro H' ⟨s5, hL⟩
      refine ⟨D, _, rfl, SqL.of hL, ?_⟩
      rw [all_true]
      exact q _ s5
/-! ### Threads -/
abbrev pk : Str := "places"
abbrev tk : Str := "ties"
theorem ne_pt : ¬ (pk = tk) := by decide +kernel
theorem ne_tp : ¬ (tk = pk) := by decide +kernel
/-- the fields of a Threads of N places whose tuple stands at t -/
def tf (N : Nat) (t : Addr) : List (Str × V) := putF tk (.ref t) (putF pk (nv N) [])
theorem tf_places (N : Nat) (t : Addr) : (tf N t).lookup pk = some (nv N) := by
  unfold tf
  rw [lookup_putF, if_neg ne_pt, lookup_putF, if_pos rfl]
theorem tf_ties (N : Nat) (t : Addr) : (tf N t).lookup tk = some (.ref t) := by
  unfold tf
  rw [lookup_putF, if_pos rfl]
theorem tf_no (N : Nat) (t : Addr) {m : Str} (h1 : ¬ m = tk) (h2 : ¬ m = pk) : (tf N t).lookup m = none := by
  unfold tf
  rw [lookup_putF, if_neg h1, lookup_putF, if_neg h2]
  rfl
theorem tf_many (N : Nat) (t : Addr) : (tf N t).lookup ("many" : Str) = none := tf_no N t (by decide +kernel) (by decide +kernel)
theorem tf_free (N : Nat) (t : Addr) : (tf N t).lookup ("free" : Str) = none := tf_no N t (by decide +kernel) (by decide +kernel)
def Bnd (N : Nat) (es : List (Nat × Nat)) : Prop := ∀ e ∈ es, e.1 < N ∧ e.2 < N
/-- a Threads of these ties stands at p -/
def ThAt (C : Addr) (H : Hp) (p : Addr) (N : Nat) (es : List (Nat × Nat)) : Prop := ∃ dx t ts, H p = some (.ins C dx (tf N t)) ∧ H t = some (.tup (ts.map V.ref)) ∧ prs H ts es
theorem ThAt.same {H H' : Hp} {p : Addr} {N : Nat} {es : List (Nat × Nat)} (h : ThAt C H p N es) (s : Same H H') : ThAt C H' p N es := by
  obtain ⟨dx, t, ts, h1, h2, h3⟩ := h
  exact ⟨dx, t, ts, s _ _ h1, s _ _ h2, h3.same s⟩
structure Gt (K : PySem.W.Frag) (mg : Str → Option Value) (C : Addr) : Prop where
  cl : Cls K C
  nP : NoAttr K C "places"
  nT : NoAttr K C "ties"
  MOST_PLACES : Num mg "MOST_PLACES" 20
def spInit (C : Addr) : Sp := fun vs H Q _ => ∃ (p dx a : Addr) (N : Nat) (ts : List Addr) (es : List (Nat × Nat)), vs = [.ref p, nv N, .ref a] ∧ H p = some (.ins C dx []) ∧ H a = some (.lst (ts.map V.ref)) ∧ prs H ts es ∧ 1 ≤ N ∧ N ≤ 20 ∧ es.length ≤ 16 ∧ Bnd N es ∧
  ∀ H', (∀ b o, b ≠ p → H b = some o → H' b = some o) → ThAt C H' p N es → Q .non H'
theorem ok_init (B : Bl mg) (G : Gt K mg C) (F : L2.Fun K "__init__" "Threads.__init__" s_Threads___init__ f fd) (M : L2.Mk K C f) (g : mg "Threads" = some (.ref C)) (c_is_within : C8.Cal P w K mg base 2 "is_within" spWithin []) (c_check_ground : C8.Cal P w K mg base 1 "check_ground" spGround [])
    (c_is_tie : C8.Cal P w K mg base 3 "is_tie" spTie []) : C8.Mak P w K mg base 4 "Threads" C (spInit C) [] := by
  refine ⟨f, fd, ["self", "places", "ties"], [], M, F.ok sc_Threads___init__ (fun vs H Q E h => ?_) (fun cdv A outer s H vs Q E hr h => ?_), g, F.binds (ps := ["self", "places", "ties"]) (fun _ _ _ _ _ _ us hl => match us, hl with | [_, _, _], _ => rfl), .nil⟩
  · obtain ⟨p, dx, a, N, ts, es, rfl, _⟩ := h
    rfl
  · obtain ⟨p, dx, a, N, ts, es, rfl, hp, ha, hpr, N1, N2, hl, hb, q⟩ := h
    refine ⟨_, (pss_cons (ps_if (pt_not (pt_val (C8.pe_c c_is_within hr (by first | decide | exact Nat.le_refl _ | omega) rfl (pa_cons (pv 1) (pa_cons pe_int (pa_cons (C8.pe_gc rfl G.MOST_PLACES) pa_nil)))))) (pss_one ps_never) pss_nil)
      (pss_cons (ps_expr (C8.pe_c c_check_ground hr (by first | decide | exact Nat.le_refl _ | omega) rfl (pa_cons (pv 2) pa_nil)))
      (pss_cons (ps_if (pt_not (pt_val (pe_callB (cr_all rfl) (by rfl) B.all_ (by decide +kernel) (pa_cons (pe_lc (own := [("tie", 3)]) rfl sc_Threads___init__.nd (pi_list (pv 2)) (blkOk_by (own := [("tie", 3)]) (N := n_Threads___init__) (sc := defScope s_Threads___init__) (by decide +kernel)) (fun _ _ _ _ _ => (pg_name (i := 3) sc_Threads___init__.nd rfl (Or.inl rfl))) (fun _ _ _ _ _ => pts_nil) (fun _ _ _ _ _ => (C8.pe_c c_is_tie hr (by first | decide | exact Nat.le_refl _ | omega) rfl (pa_cons (pv 3) (pa_cons (pv 1) pa_nil))))) pa_nil)))) (pss_one ps_never) pss_nil)
      (pss_cons (ps_fld (pv 0) (pv 1) rfl)
      (pss_one (ps_fld (pv 0) (pe_callTy (call_tupK (K := K) rfl) (by rfl) B.tuple_ (by decide +kernel) (pa_cons (pe_lc (own := [("tie", 3)]) rfl sc_Threads___init__.nd (pi_list (pv 2)) (blkOk_by (own := [("tie", 3)]) (N := n_Threads___init__) (sc := defScope s_Threads___init__) (by decide +kernel)) (fun _ _ _ _ _ => (pg_name (i := 3) sc_Threads___init__.nd rfl (Or.inl rfl))) (fun _ _ _ _ _ => pts_nil) (fun _ _ _ _ _ => (pe_tup (pa_cons (pe_ix (r := rIxT K) ix_tup (pv 3) pe_int (fun _ _ => rfl)) (pa_cons (pe_ix (r := rIxT K) ix_tup (pv 3) pe_int (fun _ _ => rfl)) pa_nil))))) pa_nil)) rfl)))))), ?_⟩
    have eB : (decide ((1 : Int) ≤ (N : Int)) && decide ((N : Int) ≤ 20)) = true := by
      rw [Bool.and_eq_true]
      exact ⟨decide_eq_true (by omega), decide_eq_true (by omega)⟩
    have tl : ts.length ≤ 16 := by rw [hpr.len]; exact hl
    refine ⟨_, rfl, N, 1, 20, rfl, true, by rw [eB], iteF ?_⟩
    refine ⟨_, rfl, a, _, rfl, ha, by rw [List.length_map]; exact tl, ?_⟩
    -- all([is_tie(tie, places) for tie in ties])
    refine ⟨_, rfl, a, rfl, ⟨_, SqL.of ha⟩, fun D hD => lc_list (K := K) (a := a) (xs := ts.map V.ref) (fun i H' => Same H H' ∧ H' D = some (.lst ((List.replicate i true).map V.bl)))
      ⟨same_upd hD, upd_same⟩ (fun i H' _ p => SqL.of (p.1 _ _ ha)) ?_ ?_⟩
    · rintro i y H' hi ⟨s5, hL⟩
      obtain ⟨t, ht, rfl⟩ := map_at hi
      obtain ⟨e, he, hte⟩ := hpr.at ht
      obtain ⟨b1, b2⟩ := hb e (List.mem_of_getElem? he)
      have il : i < ts.length := (List.getElem?_eq_some_iff.mp ht).1
      refine ⟨rfl, yesT ?_⟩
      refine ⟨_, rfl, _, rfl, t, N, e, rfl, s5 _ _ hte, b1, b2, fun H2 s6 => ⟨_, s6 _ _ hL, ?_, same_to (s5.trans s6) hD, ?_⟩⟩
      · rw [List.length_map, List.length_replicate]
        exact small1000 (by omega)
      · rw [List.replicate_succ', List.map_append]
        exact upd_same
    rintro H1 ⟨s1, hL⟩
    refine ⟨D, _, rfl, SqL.of hL, true, by rw [all_true], iteF ?_⟩
    -- self.places = places
    have npD : p ≠ D := ne_of_none hp hD
    refine ⟨_, rfl, _, rfl, p, C, dx, [], rfl, s1 _ _ hp, G.cl, G.nP, (by show 0 < 1000; decide), ?_⟩
    have k2 : ∀ b o, b ≠ p → H b = some o → (upd H1 p (.ins C dx (putF pk (nv N) []))) b = some o := fun b o nb e => by
      rw [upd_ne nb]
      exact s1 _ _ e
    have hp2 : (upd H1 p (.ins C dx (putF pk (nv N) []))) p = some (.ins C dx (putF pk (nv N) [])) := upd_same
    generalize upd H1 p (.ins C dx (putF pk (nv N) [])) = H2 at k2 hp2
    have nap : a ≠ p := ne_of ha hp (by intro z; cases z)
    have ha2 := k2 _ _ nap ha
    have hpr2 : prs H2 ts es := hpr.keep fun t xs e => k2 _ _ (ne_of e hp (by intro z; cases z)) e
    -- self.ties = tuple([(tie[0], tie[1]) for tie in ties])
    refine ⟨_, rfl, a, rfl, ⟨_, SqL.of ha2⟩, fun D2 hD2 => lc_list (K := K) (a := a) (xs := ts.map V.ref) (fun i H' => Same H2 H' ∧ ∃ ds, H' D2 = some (.lst (ds.map V.ref)) ∧ prs H' ds (es.take i))
      ⟨same_upd hD2, [], upd_same, True.intro⟩ (fun i H' _ p => SqL.of (p.1 _ _ ha2)) ?_ ?_⟩
    · rintro i y H' hi ⟨s5, ds, hL2, hds⟩
      obtain ⟨t, ht, rfl⟩ := map_at hi
      obtain ⟨e, he, hte⟩ := hpr2.at ht
      have il : i < ts.length := (List.getElem?_eq_some_iff.mp ht).1
      have hte' := s5 _ _ hte
      refine ⟨rfl, yesT ?_⟩
      refine ⟨_, rfl, t, _, _, _, rfl, rfl, SqT.of hte', atI_nat (j := 0) rfl, _, rfl, t, _, _, _, rfl, rfl, SqT.of hte', atI_nat (j := 1) rfl, (by show 2 ≤ sizeLine; decide), fun u hu => ?_⟩
      have nDu : D2 ≠ u := ne_of_none hL2 hu
      have dl : ds.length ≤ 16 := by
        rw [hds.len, List.length_take]
        omega
      have su : Same H' (upd H' u (.tup [nv e.1, nv e.2])) := same_upd hu
      refine ⟨_, su _ _ hL2, by rw [List.length_map]; exact small1000 (by omega), same_to (s5.trans su) hD2, ds ++ [u], ?_, ?_⟩
      · rw [List.map_append]
        exact upd_same
      · rw [take_more he]
        have pu : prs (upd H' u (.tup [nv e.1, nv e.2])) (ds ++ [u]) (es.take i ++ [e]) := prs.put upd_same (hds.same su)
        exact pu.upd (su _ _ hL2) (by intro xs z; cases z)
    · rintro H3 ⟨s3, ds, hL3, hds⟩
      rw [List.length_map, hpr.len, List.take_length] at hds
      refine ⟨D2, _, rfl, .inl ⟨SqL.of hL3, fun t ht => ?_⟩⟩
      have npt : p ≠ t := ne_of_none (s3 _ _ hp2) ht
      have st : Same H3 (upd H3 t (.tup (ds.map V.ref))) := same_upd ht
      refine ⟨_, rfl, p, C, dx, _, rfl, st _ _ (s3 _ _ hp2), G.cl, G.nT, (by show 1 < 1000; decide), ?_⟩
      refine q _ (fun b o nb e => ?_) ⟨dx, t, ds, upd_same, ?_, ?_⟩
      · rw [upd_ne nb]
        exact st _ _ (s3 _ _ (k2 _ _ nb e))
      · rw [upd_ne npt.symm]
        exact upd_same
      · exact (hds.same st).upd (st _ _ (s3 _ _ hp2)) (by intro xs z; cases z)
def spMany (C : Addr) : Sp := fun vs H Q _ => ∃ (p : Addr) (N : Nat) (es : List (Nat × Nat)), vs = [.ref p] ∧ ThAt C H p N es ∧ Q (nv es.length) H
theorem ok_many (B : Bl mg) (G : Gt K mg C) (F : L2.Fun K "many" "Threads.many" s_Threads_many f fd) (M : Meth K C "many" f) : C8.Met P w K mg base 1 C "many" (spMany C) [] := by
  refine ⟨f, fd, ["self"], [], G.cl, M, F.ok sc_Threads_many (fun vs H Q E h => ?_) (fun cdv A outer s H vs Q E hr h => ?_), F.binds (ps := ["self"]) (fun _ _ _ _ _ _ us hl => match us, hl with | [_], _ => rfl), .nil⟩
  · obtain ⟨p, N, es, rfl, _⟩ := h
    rfl
  · obtain ⟨p, N, es, rfl, ⟨dx, t, ts, hp, ht, hts⟩, q⟩ := h
    refine ⟨_, (pss_one (ps_ret (pe_callB (call_lenK (K := K) rfl) (by rfl) B.len_ (by decide +kernel) (pa_cons (pe_fld (pv 0) rfl) pa_nil)))), ?_⟩
    refine ⟨_, rfl, p, C, dx, _, _, rfl, hp, G.cl, G.nT, tf_ties _ _, t, _, rfl, .inr (SqT.of ht), ?_⟩
    rw [List.length_map, hts.len]
    exact q
def edAt (es : List (Nat × Nat)) (k : Nat) : Nat × Nat := es.getD k (0, 0)
theorem edAt_of {es : List (Nat × Nat)} {k : Nat} (h : k < es.length) : es[k]? = some (edAt es k) := by
  unfold edAt
  rw [List.getD_eq_getElem?_getD, List.getElem?_eq_getElem h]
  rfl
def spFree (C : Addr) : Sp := fun vs H Q _ => ∃ (p a : Addr) (N : Nat) (es : List (Nat × Nat)) (xs : List Nat), vs = [.ref p, .ref a] ∧ ThAt C H p N es ∧ H a = some (.lst (xs.map nv)) ∧ N ≤ 20 ∧ Bnd N es ∧ (∀ x ∈ xs, x < es.length) ∧ xs.Nodup ∧ xs.length ≤ 1000 ∧
  ∀ H', Same H H' → Q (.bl (TM.freeF id (xs.map (edAt es)))) H'
theorem rg_nats (N : Nat) : rgV 0 (N : Int) = (List.range N).map fun a => nv (id a) := by
  unfold rgV
  rw [show ((N : Int) - 0).toNat = N by omega]
  refine List.map_congr_left fun a _ => ?_
  show V.int (0 + (a : Int)) = V.int (a : Int)
  rw [Int.zero_add]
theorem dec_nv2 (n m : Nat) : V.bl (decide (nv n = nv m)) = V.bl (decide (n = m)) := by
  congr 1
  rw [Bool.eq_iff_iff, decide_eq_true_eq, decide_eq_true_eq]
  constructor
  · intro e
    have := V.int.inj e
    omega
  · intro e
    rw [e]
theorem ok_free (B : Bl mg) (G : Gt K mg C) (F : L2.Fun K "free" "Threads.free" s_Threads_free f fd) (M : Meth K C "free" f) (m_many : C8.Met P w K mg base 1 C "many" (spMany C) []) (c_check_set : C8.Cal P w K mg base 4 "check_set" spSet []) :
    C8.Met P w K mg base 5 C "free" (spFree C) [] := by
  refine ⟨f, fd, ["self", "some"], [], G.cl, M, F.ok sc_Threads_free (fun vs H Q E h => ?_) (fun cdv A outer s H vs Q E hr h => ?_), F.binds (ps := ["self", "some"]) (fun _ _ _ _ _ _ us hl => match us, hl with | [_, _], _ => rfl), .nil⟩
  · obtain ⟨p, a, N, es, xs, rfl, _⟩ := h
    rfl
  · obtain ⟨p, a, N, es, xs, rfl, hb, ha, hN, hbd, hx, hnd, hlen, q⟩ := h
    refine ⟨_, (pss_cons (ps_expr (C8.pe_c c_check_set hr (by first | decide | exact Nat.le_refl _ | omega) rfl (pa_cons (pv 1) (pa_cons (C8.pe_mt0 (pl := _) m_many hr (by decide) (pv 0)) pa_nil))))
      (pss_cons (ps_set (i := 2) sc_Threads_free.nd rfl (Or.inl rfl) (pe_listRg rfl (by rfl) B.list_ (prg_1 (by rfl) B.range_ (pe_fld (pv 0) rfl))))
      (pss_cons (ps_for PassesOwn.never rfl (pi_list (pv 1)) (pg_name (i := 3) sc_Threads_free.nd rfl (Or.inl rfl)) (pss_cons (ps_asg (pe_ix (r := rIxT K) ix_tup (pe_fld (pv 0) rfl) (pv 3) (fun _ _ => rfl)) (pg_tupK (K := K) (n := 2) rfl (by rfl) (pgs_cons (pg_name (i := 4) sc_Threads_free.nd rfl (Or.inl rfl)) (pgs_cons (pg_name (i := 5) sc_Threads_free.nd rfl (Or.inl rfl)) pgs_nil))))
      (pss_cons (ps_set (i := 6) sc_Threads_free.nd rfl (Or.inr rfl) (pe_ix (r := rIxL K) ix_list (pv 2) (pv 4) (fun _ _ => rfl)))
      (pss_cons (ps_set (i := 7) sc_Threads_free.nd rfl (Or.inr rfl) (pe_ix (r := rIxL K) ix_list (pv 2) (pv 5) (fun _ _ => rfl)))
      (pss_cons (ps_if (pt_cmpR op_eq (pv 6) (pv 7) (nomark _)) (pss_one (ps_ret pe_bl)) pss_nil)
      (pss_one (ps_setLc (i := 2) (own := [("mark", 8)]) rfl sc_Threads_free.nd rfl rfl (sw_true rfl rfl rfl (by decide +kernel)) (pi_list (pv 2)) (blkOk_by (own := [("mark", 8)]) (N := n_Threads_free) (sc := defScope s_Threads_free) (by decide +kernel)) (fun _ _ _ _ _ => (pg_name (i := 8) sc_Threads_free.nd rfl (Or.inl rfl))) (fun _ _ _ _ _ => pts_nil) (fun _ _ _ _ _ => (pe_ifExp (pt_cmpR op_eq (pv 8) (pv 7) (nomark _)) (pv 6) (pv 8))))))))))
      (pss_one (ps_ret pe_bl))))), ?_⟩
    obtain ⟨dx, t, ts, hp, ht, hts⟩ := id hb
    have ha' := ha
    rw [nv_ints] at ha'
    refine ⟨_, rfl, _, rfl, p, dx, _, rfl, hp, tf_many _ _, p, N, es, rfl, hb, a, _, _, rfl, ha', fun x hx' => ?_, nd_cast hnd, by rw [List.length_map]; exact hlen, fun H1 s1 => ?_⟩
    · obtain ⟨n, hn, rfl⟩ := List.mem_map.mp hx'
      have := hx n hn
      omega
    -- marks = list(range(self.places))
    refine ⟨_, rfl, p, C, dx, _, _, rfl, s1 _ _ hp, G.cl, G.nP, tf_places _ _, (N : Int), rfl, RgOk.of_le (by omega) (by omega) (by omega) (by omega), fun l0 hl0 => ?_⟩
    refine ⟨_, rfl, a, rfl, ⟨_, SqL.of (same_upd hl0 _ _ (s1 _ _ ha))⟩, for_list (K := K) (a := a) (xs := xs.map nv) (fun i σ H' => ∃ (v3 v4 v5 v6 v7 : Option V) (l : Addr) (m : Nat → Nat), σ = [some (.ref p), some (.ref a), some (.ref l), v3, v4, v5, v6, v7, none] ∧ Same H H' ∧
        H' l = some (.lst ((List.range N).map fun a => nv (m a))) ∧ TM.freeF m ((xs.drop i).map (edAt es)) = TM.freeF id (xs.map (edAt es)))
      ⟨none, none, none, none, none, l0, id, rfl, s1.trans (same_upd hl0), ?_, rfl⟩ (fun i σ H' _ ⟨_, _, _, _, _, _, _, _, s5, _⟩ => SqL.of (s5 _ _ ha)) ?_ ?_⟩
    · rw [← rg_nats]
      exact upd_same
    · rintro i y σ H' hi ⟨v3, v4, v5, v6, v7, l, m, rfl, s5, hL, inv⟩
      obtain ⟨x, hx', rfl⟩ := map_at hi
      have xlt := hx x (List.mem_of_getElem? hx')
      have ilt : i < xs.length := (List.getElem?_eq_some_iff.mp hx').1
      have hed := edAt_of xlt
      have tlt : x < ts.length := by rw [hts.len]; exact xlt
      obtain ⟨e, he, hte⟩ := hts.at (List.getElem?_eq_getElem tlt)
      have ee : e = edAt es x := Option.some.inj (he.symm.trans hed)
      obtain ⟨b1, b2⟩ := hbd e (List.mem_of_getElem? he)
      have hrow : (ts.map V.ref)[x]? = some (V.ref ts[x]) := by
        rw [List.getElem?_map, List.getElem?_eq_getElem tlt]
        rfl
      have edrop : xs.drop i = x :: xs.drop (i + 1) := by
        have e2 := (List.getElem?_eq_some_iff.mp hx').2
        rw [List.drop_eq_getElem_cons ilt, e2]
      have st : TM.freeF m (e :: (xs.drop (i + 1)).map (edAt es)) = TM.freeF id (xs.map (edAt es)) := by
        rw [← inv, edrop, List.map_cons, ee]
      have mk : ∀ k, k < N → ((List.range N).map fun a => nv (m a))[k]? = some (nv (m k)) := fun k hk => by
        rw [List.getElem?_map, List.getElem?_range hk]
        rfl
      -- near, far = self.ties[thing]
      refine ⟨_, rfl, p, C, dx, _, _, rfl, s5 _ _ hp, G.cl, G.nT, tf_ties _ _, _, rfl, t, _, _, _, rfl, rfl, SqT.of (s5 _ _ ht), atI_nat hrow, ?_⟩
      refine ⟨_, _, rfl, SqT.of (s5 _ _ hte), rfl, _, _, rfl, _, _, rfl, rfl, ?_⟩
      -- stays = marks[near]; goes = marks[far]
      refine ⟨_, rfl, _, rfl, l, _, _, _, rfl, rfl, SqL.of hL, atI_nat (mk _ b1), ?_⟩
      refine ⟨_, rfl, _, rfl, l, _, _, _, rfl, rfl, SqL.of hL, atI_nat (mk _ b2), ?_⟩
      refine ⟨_, rfl, _, rfl, rfl, _, dec_nv2 _ _, ?_⟩
      by_cases c : m e.1 = m e.2
      · rw [decide_eq_true c]
        have e' : TM.freeF m (e :: (xs.drop (i + 1)).map (edAt es)) = false := if_pos c
        rw [e'] at st
        refine iteT ?_
        have qq := q H' s5
        rw [← st] at qq
        exact qq
      · rw [decide_eq_false c]
        have e' : TM.freeF m (e :: (xs.drop (i + 1)).map (edAt es)) = TM.freeF (TM.re m e) ((xs.drop (i + 1)).map (edAt es)) := if_neg c
        rw [e'] at st
        refine iteF ⟨_, rfl, l, rfl, ⟨_, SqL.of hL⟩, fun D hD => lc_list (K := K) (a := l) (xs := (List.range N).map fun a => nv (m a)) (fun j H2 => Same H' H2 ∧ H2 D = some (.lst (((List.range N).take j).map fun a => nv (TM.re m e a))))
          ⟨same_upd hD, upd_same⟩ (fun j H2 _ p => SqL.of (p.1 _ _ hL)) ?_ ?_⟩
        · rintro j z H2 hj ⟨s6, hA⟩
          obtain ⟨o, ho, rfl⟩ := map_at hj
          have jl : j < N := by
            have := (List.getElem?_eq_some_iff.mp ho).1
            rw [List.length_range] at this
            exact this
          refine ⟨rfl, yesT ?_⟩
          have fin : ∀ v, v = nv (TM.re m e o) → ∃ acc, H2 D = some (.lst acc) ∧ acc.length < sizeLine ∧ Same H' (upd H2 D (.lst (acc ++ [v]))) ∧ (upd H2 D (.lst (acc ++ [v]))) D = some (.lst (((List.range N).take (j + 1)).map fun a => nv (TM.re m e a))) := fun v hv => by
            refine ⟨_, hA, ?_, same_to s6 hD, ?_⟩
            · rw [List.length_map, List.length_take]
              exact small1000 (by omega)
            · rw [take_more ho, List.map_append, hv]
              exact upd_same
          refine ⟨_, rfl, _, rfl, rfl, _, dec_nv2 _ _, ?_⟩
          by_cases c2 : m o = m e.2
          · rw [decide_eq_true c2]
            exact iteT ⟨_, rfl, fin _ (congrArg nv (if_pos c2).symm)⟩
          · rw [decide_eq_false c2]
            exact iteF ⟨_, rfl, fin _ (congrArg nv (if_neg c2).symm)⟩
        · rintro H2 ⟨s6, hA⟩
          rw [List.length_map, List.take_length] at hA
          exact ⟨_, _, _, _, _, D, TM.re m e, rfl, s5.trans s6, hA, st⟩
    · rintro σ H' ⟨v3, v4, v5, v6, v7, l, m, rfl, s5, hL, inv⟩
      rw [List.length_map, List.drop_length] at inv
      have qq := q H' s5
      rw [← inv] at qq
      exact qq
end
end Th
namespace Po
section
variable {P : Program} {w : World} {K : PySem.W.Frag} {mg : Str → Option Value} {base : Heap} {f C CR : Addr} {fd : FuncData}
/-! ### are_posts -/
structure Gp (K : PySem.W.Frag) (mg : Str → Option Value) (C : Addr) : Prop where
  cl : Cls K C
  nW : NoAttr K C "wants"
  HIGHEST_POST : Num mg "HIGHEST_POST" 30
def PostsOk (ns : List Nat) : Prop := (∀ n ∈ ns, n < 31) ∧ ns.Nodup
theorem PostsOk.len {ns : List Nat} (h : PostsOk ns) : ns.length ≤ 31 := by
  have := PM.nodup_le ns (List.range 31) h.2 fun x hx => List.mem_range.mpr (h.1 x hx)
  rw [List.length_range] at this
  exact this
def spPosts : Sp := fun vs H Q _ => ∃ (a : Addr) (ns : List Nat), vs = [.ref a] ∧ H a = some (.lst (ns.map nv)) ∧ PostsOk ns ∧ ∀ H', Same H H' → Q (.bl true) H'
theorem ok_posts (B : Bl mg) (G : Gp K mg C) (F : L2.Fun K "are_posts" "are_posts" s_are_posts f fd) (g : mg "are_posts" = some (.ref f)) (c_are_within : C8.Cal P w K mg base 3 "are_within" spAre []) : C8.Cal P w K mg base 4 "are_posts" spPosts [] := by
  refine ⟨f, fd, ["posts"], [], F.ok sc_are_posts (fun vs H Q E h => ?_) (fun cdv A outer s H vs Q E hr h => ?_), g, F.kp, F.binds (ps := ["posts"]) (fun _ _ _ _ _ _ us hl => match us, hl with | [_], _ => rfl), .nil⟩
  · obtain ⟨a, ns, rfl, _⟩ := h
    rfl
  · obtain ⟨a, ns, rfl, ha, hok, q⟩ := h
    refine ⟨_, (pss_one (ps_ret (pe_and (C8.pe_c c_are_within hr (by first | decide | exact Nat.le_refl _ | omega) rfl (pa_cons (pv 0) (pa_cons pe_int (pa_cons (C8.pe_gc rfl G.HIGHEST_POST) pa_nil)))) (pe_one (pe_cmpR op_eq (RZ.pe_lenSetI (by rfl) B.len_ (by rfl) B.set_ (pv 0)) (pe_callB (call_lenK (K := K) rfl) (by rfl) B.len_ (by decide +kernel) (pa_cons (pv 0) pa_nil)) (nomark _)))))), ?_⟩
    have hl := hok.len
    have hal : (ns.map (fun n : Nat => (n : Int))).all (inB 0 30) = true := by
      rw [List.all_eq_true]
      intro x hx
      obtain ⟨n, hn, rfl⟩ := List.mem_map.mp hx
      have := hok.1 n hn
      unfold inB
      rw [Bool.and_eq_true]
      exact ⟨decide_eq_true (by omega), decide_eq_true (by omega)⟩
    have ha' := ha
    rw [nv_ints] at ha'
    refine ⟨_, rfl, a, _, 0, 30, rfl, ha', by rw [List.length_map]; omega, fun H1 s1 => ⟨true, by rw [hal], iteT ?_⟩⟩
    refine ⟨_, rfl, a, _, rfl, SqL.of (s1 _ _ ha'), nd_cast hok.2, by rw [List.length_map]; omega, _, rfl, a, _, rfl, .inl (SqL.of (s1 _ _ ha')), rfl, ?_⟩
    have qq := q _ s1
    rw [List.length_map, List.length_map, List.length_map, decide_eq_true rfl]
    exact qq
/-! ### Posts -/
abbrev pf (t : Addr) : List (Str × V) := [("wants", .ref t)]
/-- a tuple of tuples of these posts stands at t -/
def WantsAt (H : Hp) (t : Addr) (ws : List (List Nat)) : Prop := ∃ ts, H t = some (.tup (ts.map V.ref)) ∧ rws .tup H ts ws
theorem WantsAt.keep {H H' : Hp} {t : Addr} {ws : List (List Nat)} (h : WantsAt H t ws) (k : ∀ b xs, H b = some (.tup xs) → H' b = some (.tup xs)) : WantsAt H' t ws := by
  obtain ⟨ts, h1, h2⟩ := h
  exact ⟨ts, k _ _ h1, h2.keep fun b xs _ e => k b xs e⟩
def PostsAt (C : Addr) (H : Hp) (p : Addr) (ws : List (List Nat)) : Prop := ∃ dx t, H p = some (.ins C dx (pf t)) ∧ WantsAt H t ws
theorem PostsAt.keep {H H' : Hp} {p : Addr} {ws : List (List Nat)} (h : PostsAt C H p ws) (k : ∀ b o, (∀ xs, o ≠ .lst xs) → H b = some o → H' b = some o) : PostsAt C H' p ws := by
  obtain ⟨dx, t, h1, h2⟩ := h
  exact ⟨dx, t, k _ _ (by intro xs z; cases z) h1, h2.keep fun b xs e => k _ _ (by intro xs z; cases z) e⟩
theorem PostsAt.same {H H' : Hp} {p : Addr} {ws : List (List Nat)} (h : PostsAt C H p ws) (s : Same H H') : PostsAt C H' p ws := h.keep fun b o _ e => s _ _ e
def spInit (C : Addr) : Sp := fun vs H Q _ => ∃ (p dx a : Addr) (ts : List Addr) (ws : List (List Nat)), vs = [.ref p, .ref a] ∧ H p = some (.ins C dx []) ∧ H a = some (.lst (ts.map V.ref)) ∧ rws .lst H ts ws ∧ ws.length ≤ 16 ∧ (∀ w ∈ ws, PostsOk w) ∧
  ∀ H', (∀ b o, b ≠ p → H b = some o → H' b = some o) → PostsAt C H' p ws → Q .non H'
theorem all_true : ∀ n, (List.replicate n true).all id = true
  | 0 => rfl
  | n + 1 => all_true n
theorem ok_init (B : Bl mg) (G : Gp K mg C) (F : L2.Fun K "__init__" "Posts.__init__" s_Posts___init__ f fd) (M : L2.Mk K C f) (g : mg "Posts" = some (.ref C)) (c_check_ground : C8.Cal P w K mg base 1 "check_ground" spGround [])
    (c_are_posts : C8.Cal P w K mg base 4 "are_posts" spPosts []) : C8.Mak P w K mg base 5 "Posts" C (spInit C) [] := by
  refine ⟨f, fd, ["self", "wants"], [], M, F.ok sc_Posts___init__ (fun vs H Q E h => ?_) (fun cdv A outer s H vs Q E hr h => ?_), g, F.binds (ps := ["self", "wants"]) (fun _ _ _ _ _ _ us hl => match us, hl with | [_, _], _ => rfl), .nil⟩
  · obtain ⟨p, dx, a, ts, ws, rfl, _⟩ := h
    rfl
  · obtain ⟨p, dx, a, ts, ws, rfl, hp, ha, hts, hl, hb, q⟩ := h
    refine ⟨_, (pss_cons (ps_expr (C8.pe_c c_check_ground hr (by first | decide | exact Nat.le_refl _ | omega) rfl (pa_cons (pv 1) pa_nil)))
      (pss_cons (ps_if (pt_not (pt_val (pe_callB (cr_all rfl) (by rfl) B.all_ (by decide +kernel) (pa_cons (pe_lc (own := [("posts", 2)]) rfl sc_Posts___init__.nd (pi_list (pv 1)) (blkOk_by (own := [("posts", 2)]) (N := n_Posts___init__) (sc := defScope s_Posts___init__) (by decide +kernel)) (fun _ _ _ _ _ => (pg_name (i := 2) sc_Posts___init__.nd rfl (Or.inl rfl))) (fun _ _ _ _ _ => pts_nil) (fun _ _ _ _ _ => (C8.pe_c c_are_posts hr (by first | decide | exact Nat.le_refl _ | omega) rfl (pa_cons (pv 2) pa_nil)))) pa_nil)))) (pss_one ps_never) pss_nil)
      (pss_one (ps_fld (pv 0) (pe_callTy (call_tupK (K := K) rfl) (by rfl) B.tuple_ (by decide +kernel) (pa_cons (pe_lc (own := [("posts", 2)]) rfl sc_Posts___init__.nd (pi_list (pv 1)) (blkOk_by (own := [("posts", 2)]) (N := n_Posts___init__) (sc := defScope s_Posts___init__) (by decide +kernel)) (fun _ _ _ _ _ => (pg_name (i := 2) sc_Posts___init__.nd rfl (Or.inl rfl))) (fun _ _ _ _ _ => pts_nil) (fun _ _ _ _ _ => (pe_callTy (call_tupK (K := K) rfl) (by rfl) B.tuple_ (by decide +kernel) (pa_cons (pv 2) pa_nil)))) pa_nil)) rfl)))), ?_⟩
    have tl : ts.length ≤ 16 := by rw [hts.len]; exact hl
    refine ⟨_, rfl, a, _, rfl, ha, by rw [List.length_map]; exact tl, ?_⟩
    -- all([are_posts(posts) for posts in wants])
    refine ⟨_, rfl, a, rfl, ⟨_, SqL.of ha⟩, fun D hD => lc_list (K := K) (a := a) (xs := ts.map V.ref) (fun i H' => Same H H' ∧ H' D = some (.lst ((List.replicate i true).map V.bl)))
      ⟨same_upd hD, upd_same⟩ (fun i H' _ p => SqL.of (p.1 _ _ ha)) ?_ ?_⟩
    · rintro i y H' hi ⟨s5, hL⟩
      obtain ⟨t, ht, rfl⟩ := map_at hi
      obtain ⟨e, he, hte⟩ := hts.at ht
      have il : i < ts.length := (List.getElem?_eq_some_iff.mp ht).1
      refine ⟨rfl, yesT ?_⟩
      refine ⟨_, rfl, t, e, rfl, s5 _ _ hte, hb e (List.mem_of_getElem? he), fun H2 s6 => ⟨_, s6 _ _ hL, ?_, same_to (s5.trans s6) hD, ?_⟩⟩
      · rw [List.length_map, List.length_replicate]
        exact small1000 (by omega)
      · rw [List.replicate_succ', List.map_append]
        exact upd_same
    rintro H1 ⟨s1, hL⟩
    refine ⟨D, _, rfl, SqL.of hL, true, by rw [all_true], iteF ?_⟩
    have ha2 := s1 _ _ ha
    have hts2 := hts.same s1
    -- self.wants = tuple([tuple(posts) for posts in wants])
    refine ⟨_, rfl, a, rfl, ⟨_, SqL.of ha2⟩, fun D2 hD2 => lc_list (K := K) (a := a) (xs := ts.map V.ref) (fun i H' => Same H1 H' ∧ ∃ ds, H' D2 = some (.lst (ds.map V.ref)) ∧ rws .tup H' ds (ws.take i))
      ⟨same_upd hD2, [], upd_same, True.intro⟩ (fun i H' _ p => SqL.of (p.1 _ _ ha2)) ?_ ?_⟩
    · rintro i y H' hi ⟨s5, ds, hL2, hds⟩
      obtain ⟨t, ht, rfl⟩ := map_at hi
      obtain ⟨e, he, hte⟩ := hts2.at ht
      have il : i < ts.length := (List.getElem?_eq_some_iff.mp ht).1
      have hte' := s5 _ _ hte
      refine ⟨rfl, yesT ?_⟩
      refine ⟨_, rfl, t, _, rfl, .inl ⟨SqL.of hte', fun u hu => ?_⟩⟩
      have dl : ds.length ≤ 16 := by
        rw [hds.len, List.length_take]
        omega
      have su : Same H' (upd H' u (.tup (e.map nv))) := same_upd hu
      have hL3 := su _ _ hL2
      refine ⟨_, hL3, by rw [List.length_map]; exact small1000 (by omega), same_to (s5.trans su) hD2, ds ++ [u], ?_, ?_⟩
      · rw [List.map_append]
        exact upd_same
      · rw [take_more he]
        have pu : rws .tup (upd H' u (.tup (e.map nv))) (ds ++ [u]) (ws.take i ++ [e]) := rws.put upd_same (hds.same su)
        exact pu.upd (pu.not_mem hL3 (by intro xs z; cases z))
    · rintro H3 ⟨s3, ds, hL3, hds⟩
      rw [List.length_map, hts.len, List.take_length] at hds
      refine ⟨D2, _, rfl, .inl ⟨SqL.of hL3, fun t ht => ?_⟩⟩
      have hp3 := s3 _ _ (s1 _ _ hp)
      have npt : p ≠ t := ne_of_none hp3 ht
      have st : Same H3 (upd H3 t (.tup (ds.map V.ref))) := same_upd ht
      refine ⟨_, rfl, p, C, dx, _, rfl, st _ _ hp3, G.cl, G.nW, (by show 0 < 1000; decide), ?_⟩
      refine q _ (fun b o nb e => ?_) ⟨dx, t, upd_same, ds, ?_, ?_⟩
      · rw [upd_ne nb]
        exact st _ _ (s3 _ _ (s1 _ _ e))
      · rw [upd_ne npt.symm]
        exact upd_same
      · exact (hds.same st).upd ((hds.same st).not_mem (st _ _ hp3) (by intro xs z; cases z))
def spMany (C : Addr) : Sp := fun vs H Q _ => ∃ (p : Addr) (ws : List (List Nat)), vs = [.ref p] ∧ PostsAt C H p ws ∧ Q (nv ws.length) H
theorem ok_many (B : Bl mg) (G : Gp K mg C) (F : L2.Fun K "many" "Posts.many" s_Posts_many f fd) (M : Meth K C "many" f) : C8.Met P w K mg base 1 C "many" (spMany C) [] := by
  refine ⟨f, fd, ["self"], [], G.cl, M, F.ok sc_Posts_many (fun vs H Q E h => ?_) (fun cdv A outer s H vs Q E hr h => ?_), F.binds (ps := ["self"]) (fun _ _ _ _ _ _ us hl => match us, hl with | [_], _ => rfl), .nil⟩
  · obtain ⟨p, ws, rfl, _⟩ := h
    rfl
  · obtain ⟨p, ws, rfl, ⟨dx, t, hp, ts, ht, hts⟩, q⟩ := h
    refine ⟨_, (pss_one (ps_ret (pe_callB (call_lenK (K := K) rfl) (by rfl) B.len_ (by decide +kernel) (pa_cons (pe_fld (pv 0) rfl) pa_nil)))), ?_⟩
    refine ⟨_, rfl, p, C, dx, _, _, rfl, hp, G.cl, G.nW, rfl, t, _, rfl, .inr (SqT.of ht), ?_⟩
    rw [List.length_map, hts.len]
    exact q
/-! ### gets_post -/
/-- what a thing wants -/
def wAt (ws : List (List Nat)) (k : Nat) : List Nat := ws.getD k []
theorem wAt_of {ws : List (List Nat)} {k : Nat} (h : k < ws.length) : ws[k]? = some (wAt ws k) := by
  unfold wAt
  rw [List.getD_eq_getElem?_getD, List.getElem?_eq_getElem h]
  rfl
/-- the dict says who holds what -/
def Hold (kvs : List (Key × V)) (h : Nat → Option Nat) : Prop := ∀ p : Nat, valV kvs (Sum.inl (p : Int)) = (h p).map nv
theorem Hold.put {kvs : List (Key × V)} {h : Nat → Option Nat} (H : Hold kvs h) (p z : Nat) : Hold (putK kvs (Sum.inl (p : Int)) (nv z)) (PM.put h p z) := fun q => by
  rw [valV_put]
  unfold PM.put
  by_cases e : q = p
  · subst e
    rw [if_pos rfl, if_pos rfl]
    rfl
  · have e2 : ¬ ((Sum.inl (q : Int) : Key) = Sum.inl (p : Int)) := fun z => e (by have := Sum.inl.inj z; omega)
    rw [if_neg e2, if_neg e]
    exact H q
theorem putK_len (kvs : List (Key × V)) (k : Key) (v : V) : (putK kvs k v).length ≤ kvs.length + 1 := by
  unfold putK
  by_cases c : (kvs.any fun kv => decide (kv.1 = k)) = true
  · rw [if_pos c, List.length_map]
    omega
  · rw [if_neg c, List.length_append]
    exact Nat.le_refl _
def spGets (d : Nat) : Sp := fun vs H Q _ => ∃ (z : Nat) (wt hd tr : Addr) (ws : List (List Nat)) (kvs : List (Key × V)) (h : Nat → Option Nat) (T : List Nat), vs = [nv z, .ref wt, .ref hd, .ref tr] ∧ WantsAt H wt ws ∧ H hd = some (.dK kvs) ∧ H tr = some (.lst (T.map nv)) ∧
  z < ws.length ∧ (∀ w ∈ ws, PostsOk w) ∧ Hold kvs h ∧ PM.Pre h T z ∧ (∀ p y, h p = some y → p ∈ wAt ws y) ∧ (∀ p y, h p = some y → y < ws.length) ∧ T.Nodup ∧ (∀ p ∈ T, p < 31) ∧ 31 ≤ T.length + d ∧ kvs.length ≤ 100000 ∧
  (∀ (H' : Hp) (kvs' : List (Key × V)) (h' : Nat → Option Nat) (T' : List Nat), (∀ b o, b ≠ hd → b ≠ tr → H b = some o → H' b = some o) → H' hd = some (.dK kvs') → H' tr = some (.lst (T'.map nv)) → Hold kvs' h' → PM.Yes (wAt ws) h T z h' T' →
    (∀ p y, h' p = some y → y < ws.length) → T'.Nodup → (∀ p ∈ T', p < 31) → kvs'.length + T.length ≤ kvs.length + T'.length → Q (.bl true) H') ∧
  (∀ (H' : Hp) (T' : List Nat), (∀ b o, b ≠ tr → H b = some o → H' b = some o) → H' tr = some (.lst (T'.map nv)) → PM.No (wAt ws) h T z T' → T'.Nodup → (∀ p ∈ T', p < 31) → T.length ≤ T'.length → Q (.bl false) H')
end
section
variable {P : Program} {w : World} {K : PySem.W.Frag} {mg : Str → Option Value} {base : Heap} {f C CR : Addr} {fd : FuncData}
theorem gets_step {k d : Nat} {sp0 : Sp} (F : L2.Fun K "gets_post" "gets_post" s_gets_post f fd) (g : mg "gets_post" = some (.ref f)) (c_gets_post : C8.Cal P w K mg base k "gets_post" sp0 []) (up : ∀ d', d = d' + 1 → sp0 = spGets d') :
    C8.Cal P w K mg base (k + 1) "gets_post" (spGets d) [] := by
  refine ⟨f, fd, ["thing", "wants", "holders", "tried"], [], F.ok sc_gets_post (fun vs H Q E h => ?_) (fun cdv A outer s H vs Q E hr h => ?_), g, F.kp, F.binds (ps := ["thing", "wants", "holders", "tried"]) (fun _ _ _ _ _ _ us hl => match us, hl with | [_, _, _, _], _ => rfl), .nil⟩
  · obtain ⟨z, wt, hd, tr, ws, kvs, h, T, rfl, _⟩ := h
    rfl
  · obtain ⟨z, wt, hd, tr, ws, kvs, h, T, rfl, hW, hH, hT, hz, hok, hold, pre, val, ylt, nd, p31, dl, kl, kY, kN⟩ := h
    refine ⟨_, (pss_cons (ps_for PassesOwn.never rfl (pi_tup (pe_ix (r := rIxT K) ix_tup (pv 1) (pv 0) (fun _ _ => rfl))) (pg_name (i := 4) sc_gets_post.nd rfl (Or.inl rfl)) (pss_cons (ps_if (pt_cmpR op_in_seq (pv 4) (pv 3) (by rfl)) (pss_one ps_continue) pss_nil)
      (pss_cons (ps_expr (pe_bm PySem.F.plainAttrs_list PySem.F.slot_list_append PySem.F.type_list_append mt_append (pv 3) (pa_cons (pv 4) pa_nil)))
      (pss_one (ps_if (PW.pt (pw_or (pt_cmp (pc_dnotin (hu_of hr) (pv 4) (pv 2))) (pw_or1 (pt_val (C8.pe_c c_gets_post hr (by first | decide | exact Nat.le_refl _ | omega) rfl (pa_cons (pe_dget (hu_of hr) (pv 2) (pv 4) (fun _ _ => rfl)) (pa_cons (pv 1) (pa_cons (pv 2) (pa_cons (pv 3) pa_nil))))))))) (pss_cons (ps_dput (hu_of hr) (pv 2) (pv 4) (pv 0) rfl)
      (pss_one (ps_ret pe_bl))) pss_nil)))))
      (pss_one (ps_ret pe_bl))), ?_⟩
    obtain ⟨ts, hwt, hts⟩ := id hW
    have tz : z < ts.length := by rw [hts.len]; exact hz
    obtain ⟨wz, ewz, htz⟩ := hts.at (List.getElem?_eq_getElem tz)
    have ez : wz = wAt ws z := Option.some.inj (ewz.symm.trans (wAt_of hz))
    have okz : PostsOk wz := hok wz (List.mem_of_getElem? ewz)
    subst ez
    have hrow : (ts.map V.ref)[z]? = some (V.ref ts[z]) := by
      rw [List.getElem?_map, List.getElem?_eq_getElem tz]
      rfl
    have nht : hd ≠ tr := ne_of hH hT (by intro q; cases q)
    have kt : ∀ {H' : Hp}, (∀ b o, b ≠ tr → H b = some o → H' b = some o) → ∀ b xs, H b = some (.tup xs) → H' b = some (.tup xs) := fun kp b xs e => kp b _ (ne_of e hT (by intro q; cases q)) e
    refine ⟨_, rfl, _, rfl, wt, _, _, _, rfl, rfl, SqT.of hwt, atI_nat hrow, _, rfl, ⟨_, SqT.of htz⟩, for_tup (K := K) (a := ts[z]) (xs := (wAt ws z).map nv) (fun i σ H' => ∃ (v : Option V) (T1 : List Nat), σ = [some (nv z), some (.ref wt), some (.ref hd), some (.ref tr), v] ∧
        (∀ b o, b ≠ tr → H b = some o → H' b = some o) ∧ H' tr = some (.lst (T1.map nv)) ∧ PM.Mid (wAt ws) h T ((wAt ws z).take i) T1 ∧ T1.Nodup ∧ (∀ p ∈ T1, p < 31) ∧ T.length ≤ T1.length)
      ⟨none, T, rfl, fun _ _ _ e => e, hT, PM.Mid.start, nd, p31, Nat.le_refl _⟩ (fun i σ H' _ ⟨_, _, _, kp, _⟩ => SqT.of (kt kp _ _ htz)) ?_ ?_⟩
    · rintro i y σ H' hi ⟨v, T1, rfl, kp, hT1, mid, nd1, p1, tl⟩
      obtain ⟨p, hp, rfl⟩ := map_at hi
      have pw : p ∈ wAt ws z := List.mem_of_getElem? hp
      have pl : p < 31 := okz.1 p pw
      have tk := take_more hp
      refine ⟨_, rfl, _, rfl, tr, _, rfl, .inl (SqL.of hT1), rfl, flat_nats _, decide (p ∈ T1), ?_, ?_⟩
      · rw [if_neg Bool.false_ne_true]
        exact congrArg V.bl (in_nats p T1)
      by_cases c : p ∈ T1
      · rw [decide_eq_true c]
        refine iteT ?_
        refine ⟨_, T1, rfl, kp, hT1, ?_, nd1, p1, tl⟩
        rw [tk]
        exact mid.skip c
      rw [decide_eq_false c]
      refine iteF ?_
      have nd2 : (T1 ++ [p]).Nodup := by
        rw [List.nodup_append]
        refine ⟨nd1, by simp, fun a ha b hb e => ?_⟩
        rw [List.mem_singleton.mp hb] at e
        exact c (e ▸ ha)
      have p2 : ∀ q ∈ T1 ++ [p], q < 31 := fun q hq => by
        rcases List.mem_append.mp hq with e | e
        · exact p1 q e
        · rw [List.mem_singleton.mp e]; exact pl
      have l31 : (T1 ++ [p]).length ≤ 31 := (show PostsOk (T1 ++ [p]) from ⟨p2, nd2⟩).len
      have l2 : (T1 ++ [p]).length = T1.length + 1 := by rw [List.length_append]; rfl
      -- tried.append(post)
      refine ⟨_, rfl, .inl ⟨rfl, _, SqL.of hT1⟩, _, rfl, tr, _, _, rfl, rfl, hT1, by rw [List.length_map]; exact small1000 (by omega), ?_⟩
      have kp2 : ∀ b o, b ≠ tr → H b = some o → (upd H' tr (.lst (T1.map nv ++ [nv p]))) b = some o := fun b o nb e => by
        rw [upd_ne nb]
        exact kp b o nb e
      have hT2 : (upd H' tr (.lst (T1.map nv ++ [nv p]))) tr = some (.lst ((T1 ++ [p]).map nv)) := by
        rw [List.map_append]
        exact upd_same
      generalize upd H' tr (.lst (T1.map nv ++ [nv p])) = H2 at kp2 hT2
      have hH2 := kp2 _ _ nht hH
      have hv := hold p
      refine ⟨_, rfl, _, rfl, hd, _, rfl, DGet.k (k := Sum.inl (p : Int)) hH2, _, rfl, ?_⟩
      cases hc : h p with
      | none =>
        rw [hv, hc]
        refine iteT (iteT ?_)
        refine ⟨_, rfl, _, rfl, _, rfl, hd, _, rfl, DPut.k (k := Sum.inl (p : Int)) hH2 (Nat.lt_of_le_of_lt kl (by decide)), ?_⟩
        refine kY _ _ _ (T1 ++ [p]) (fun b o n1 n2 e => ?_) upd_same ?_ (hold.put p z) (PM.yes_free pre val mid c pw hc) (fun q y' e => ?_) nd2 p2 ?_
        · rw [upd_ne n1]
          exact kp2 b o n2 e
        · rw [upd_ne nht.symm]
          exact hT2
        · by_cases eq : q = p
          · rw [eq, PM.put_at] at e
            rw [← Option.some.inj e]
            exact hz
          · rw [PM.put_ne eq] at e
            exact ylt q y' e
        · have := putK_len kvs (Sum.inl (p : Int)) (nv z)
          omega
      | some y =>
        rw [hv, hc]
        refine iteF ?_
        obtain ⟨d', rfl⟩ : ∃ d', d = d' + 1 := ⟨d - 1, by omega⟩
        have es := up d' rfl
        have dg : DGet H2 hd (kV (Sum.inl (p : Int))) (some (nv y)) := by
          have := DGet.k (k := (Sum.inl (p : Int) : Key)) hH2
          rw [hv, hc] at this
          exact this
        refine ⟨_, rfl, _, rfl, hd, nv y, rfl, dg, _, rfl, _, rfl, _, rfl, ?_⟩
        rw [es]
        have kt2 := kt kp2
        refine ⟨y, wt, hd, tr, ws, kvs, h, T1 ++ [p], rfl, hW.keep kt2, hH2, hT2, ylt p y hc, hok, hold, PM.pre_next (ps := []) pre hc, val, ylt, nd2, p2, by omega, kl, ?_, ?_⟩
        · intro H3 kvs3 h3 T3 kp3 hH3 hT3 hold3 Y ylt3 nd3 p3 len3
          refine ⟨true, rfl, iteT ?_⟩
          have k3 : kvs3.length ≤ kvs.length + 31 := by
            have := (show PostsOk T3 from ⟨p3, nd3⟩).len
            omega
          refine ⟨_, rfl, _, rfl, _, rfl, hd, _, rfl, DPut.k (k := Sum.inl (p : Int)) hH3 (Nat.lt_of_le_of_lt (Nat.le_trans k3 (Nat.add_le_add_right kl 31)) (by decide)), ?_⟩
          refine kY _ _ _ T3 (fun b o n1 n2 e => ?_) upd_same ?_ (hold3.put p z) (PM.yes_back pre mid c pw hc Y) (fun q y' e => ?_) nd3 p3 ?_
          · rw [upd_ne n1]
            exact kp3 b o n1 n2 (kp2 b o n2 e)
          · rw [upd_ne nht.symm]
            exact hT3
          · by_cases eq : q = p
            · rw [eq, PM.put_at] at e
              rw [← Option.some.inj e]
              exact hz
            · rw [PM.put_ne eq] at e
              exact ylt3 q y' e
          · have := putK_len kvs3 (Sum.inl (p : Int)) (nv z)
            omega
        · intro H3 T3 kp3 hT3 N nd3 p3 len3
          refine ⟨false, rfl, iteF ?_⟩
          refine ⟨_, T3, rfl, fun b o nb e => kp3 b o nb (kp2 b o nb e), hT3, ?_, nd3, p3, by omega⟩
          rw [tk]
          exact mid.no hc N
    · rintro σ H' ⟨v, T1, rfl, kp, hT1, mid, nd1, p1, tl⟩
      rw [List.length_map, List.take_length] at mid
      exact kN _ T1 kp hT1 mid.stop nd1 p1 tl
theorem ok_gets (F : L2.Fun K "gets_post" "gets_post" s_gets_post f fd) (g : mg "gets_post" = some (.ref f)) : ∀ d, C8.Cal P w K mg base (d + 2) "gets_post" (spGets d) []
  | 0 => gets_step (k := 1) (sp0 := fun _ _ _ _ => False) F g ⟨f, fd, ["thing", "wants", "holders", "tried"], [], F.ok (k := 0) sc_gets_post (fun _ _ _ _ h => h.elim) (fun _ _ _ _ _ _ _ _ _ h => h.elim), g, F.kp, F.binds (ps := ["thing", "wants", "holders", "tried"]) (fun _ _ _ _ _ _ us hl => match us, hl with | [_, _, _, _], _ => rfl), .nil⟩ (fun d' e => by omega)
  | d + 1 => gets_step (k := d + 2) F g (ok_gets F g d) (fun d' e => by rw [show d' = d by omega])
def spFree (C : Addr) : Sp := fun vs H Q _ => ∃ (p a : Addr) (ws : List (List Nat)) (xs : List Nat), vs = [.ref p, .ref a] ∧ PostsAt C H p ws ∧ H a = some (.lst (xs.map nv)) ∧ (∀ w ∈ ws, PostsOk w) ∧ (∀ x ∈ xs, x < ws.length) ∧ xs.Nodup ∧ xs.length ≤ 1000 ∧
  ∀ H' (b : Bool), Same H H' → (b = true ↔ PM.Free (wAt ws) xs) → Q (.bl b) H'
theorem ok_free (B : Bl mg) (G : Gp K mg C) (F : L2.Fun K "free" "Posts.free" s_Posts_free f fd) (M : Meth K C "free" f) (m_many : C8.Met P w K mg base 1 C "many" (spMany C) []) (c_check_set : C8.Cal P w K mg base 4 "check_set" spSet [])
    (c_gets_post : C8.Cal P w K mg base 33 "gets_post" (spGets 31) []) : C8.Met P w K mg base 34 C "free" (spFree C) [] := by
  refine ⟨f, fd, ["self", "some"], [], G.cl, M, F.ok sc_Posts_free (fun vs H Q E h => ?_) (fun cdv A outer s H vs Q E hr h => ?_), F.binds (ps := ["self", "some"]) (fun _ _ _ _ _ _ us hl => match us, hl with | [_, _], _ => rfl), .nil⟩
  · obtain ⟨p, a, ws, xs, rfl, _⟩ := h
    rfl
  · obtain ⟨p, a, ws, xs, rfl, hb, ha, hok, hx, hnd, hlen, q⟩ := h
    refine ⟨_, (pss_cons (ps_expr (C8.pe_c c_check_set hr (by first | decide | exact Nat.le_refl _ | omega) rfl (pa_cons (pv 1) (pa_cons (C8.pe_mt0 (pl := _) m_many hr (by decide) (pv 0)) pa_nil))))
      (pss_cons (ps_set (i := 2) sc_Posts_free.nd rfl (Or.inl rfl) pe_dnewK)
      (pss_cons (ps_for PassesOwn.never rfl (pi_list (pv 1)) (pg_name (i := 3) sc_Posts_free.nd rfl (Or.inl rfl)) (pss_one (ps_if (pt_not (pt_val (C8.pe_c c_gets_post hr (by first | decide | exact Nat.le_refl _ | omega) rfl (pa_cons (pv 3) (pa_cons (pe_fld (pv 0) rfl) (pa_cons (pv 2) (pa_cons (pe_lst pa_nil) pa_nil))))))) (pss_one (ps_ret pe_bl)) pss_nil)))
      (pss_one (ps_ret pe_bl))))), ?_⟩
    obtain ⟨dx, t, hp, hW⟩ := id hb
    have ha' := ha
    rw [nv_ints] at ha'
    refine ⟨_, rfl, _, rfl, p, dx, _, rfl, hp, rfl, p, ws, rfl, hb, a, _, _, rfl, ha', fun x hx' => ?_, nd_cast hnd, by rw [List.length_map]; exact hlen, fun H1 s1 => ?_⟩
    · obtain ⟨n, hn, rfl⟩ := List.mem_map.mp hx'
      have := hx n hn
      omega
    -- holders = {}
    intro hd hhd
    have hd0 : H hd = none := s1.free hhd
    refine ⟨_, rfl, a, rfl, ⟨_, SqL.of (same_upd hhd _ _ (s1 _ _ ha))⟩, for_list (K := K) (a := a) (xs := xs.map nv) (fun i σ H' => ∃ (v : Option V) (kvs : List (Key × V)) (h : Nat → Option Nat), σ = [some (.ref p), some (.ref a), some (.ref hd), v] ∧ Same H H' ∧
        H' hd = some (.dK kvs) ∧ Hold kvs h ∧ PM.Mat (wAt ws) h (xs.take i) ∧ kvs.length ≤ 31 * i)
      ⟨none, [], fun _ => none, rfl, s1.trans (same_upd hhd), upd_same, fun _ => rfl, PM.Mat.start, Nat.le_refl _⟩ (fun i σ H' _ ⟨_, _, _, _, s5, _⟩ => SqL.of (s5 _ _ ha)) ?_ ?_⟩
    · rintro i y σ H' hi ⟨v, kvs, h, rfl, s5, hH, hold, mat, kl⟩
      obtain ⟨x, hx', rfl⟩ := map_at hi
      have xlt := hx x (List.mem_of_getElem? hx')
      have ilt : i < xs.length := (List.getElem?_eq_some_iff.mp hx').1
      have nx : x ∉ xs.take i := fun hm => by
        obtain ⟨j, hj⟩ := List.getElem?_of_mem hm
        have hji : j < i := Nat.lt_of_not_le fun le => by
          rw [List.getElem?_take, if_neg (by omega)] at hj
          cases hj
        rw [List.getElem?_take, if_pos hji] at hj
        have := nd_ix hnd hj hx'
        omega
      refine ⟨_, rfl, _, rfl, p, C, dx, _, _, rfl, s5 _ _ hp, G.cl, G.nW, rfl, _, rfl, Nat.zero_le _, fun tr htr => ?_⟩
      have st : Same H' (upd H' tr (.lst [])) := same_upd htr
      have tr0 : H tr = none := s5.free htr
      have nht : hd ≠ tr := ne_of_none hH htr
      have W2 : WantsAt (upd H' tr (.lst [])) t ws := hW.keep fun b zs e => st _ _ (s5 _ _ e)
      refine ⟨x, t, hd, tr, ws, kvs, h, [], rfl, W2, st _ _ hH, upd_same, xlt, hok, hold, mat.pre nx, mat.val, fun r y' e => hx y' (List.mem_of_mem_take (mat.ins r y' e)), List.nodup_nil, fun r hr' => (by cases hr'), Nat.le_refl _, by omega, ?_, ?_⟩
      · intro H3 kvs3 h3 T3 kp3 hH3 hT3 hold3 Y ylt3 nd3 p3 len3
        refine ⟨true, rfl, iteF ?_⟩
        have t31 := (show PostsOk T3 from ⟨p3, nd3⟩).len
        refine ⟨_, kvs3, h3, rfl, fun b o e => kp3 b o (ne_of_none e hd0) (ne_of_none e tr0) (st _ _ (s5 _ _ e)), hH3, hold3, ?_, ?_⟩
        · rw [take_more hx']
          exact mat.more nx Y
        · have : ([] : List Nat).length = 0 := rfl
          omega
      · intro H3 T3 kp3 hT3 N nd3 p3 len3
        refine ⟨false, rfl, iteT ?_⟩
        have nf := PM.not_free (L := xs) mat nx N nd3 (fun r hr' => List.mem_of_mem_take hr') (List.mem_of_getElem? hx')
        exact q H3 false (fun b o e => kp3 b o (ne_of_none e tr0) (st _ _ (s5 _ _ e))) ⟨fun e => (by cases e), fun e => absurd e nf⟩
    · rintro σ H' ⟨v, kvs, h, rfl, s5, hH, hold, mat, kl⟩
      rw [List.length_map, List.take_length] at mat
      exact q H' true s5 ⟨fun _ => mat.free, fun _ => rfl⟩
end
end Po
/-! ### calls by rules of more than one class -/
section
variable {P : Program} {w : World} {K : PySem.W.Frag} {mg : Str → Option Value} {base : Heap} {f : Addr} {fd : FuncData} {sp sp' : Sp} {dvs : List V}
theorem room_up {k k' : Nat} {A : Around} (kk : k ≤ k') (hr : Room k' A) : Room k A := ⟨hr.hd, by have := hr.dp; omega, by have := hr.un; omega⟩
theorem fn_up {CX : CXT} {k k' : Nat} {ps : List Str} (h : FnOk P w K mg base CX k f fd ps sp) (kk : k ≤ k') (imp : ∀ vs H Q E, sp' vs H Q E → sp vs H Q E) : FnOk P w K mg base CX k' f fd ps sp' :=
  ⟨fun vs H Q E s => h.len vs H Q E (imp _ _ _ _ s), fun A outer s H args us vs Q E hr he hb hv hs => h.run A outer s H args us vs Q E (room_up kk hr) he hb hv (imp _ _ _ _ hs)⟩
theorem cal_up {k k' : Nat} {x : Str} (h : C8.Cal P w K mg base k x sp dvs) (kk : k ≤ k') (imp : ∀ vs H Q E, sp' vs H Q E → sp vs H Q E) : C8.Cal P w K mg base k' x sp' dvs := by
  obtain ⟨f, fd, ps, ds, a, b, c, d, e⟩ := h.ex
  exact ⟨f, fd, ps, ds, fn_up a kk imp, b, c, d, e⟩
theorem met_up {k k' : Nat} {C : Addr} {m : Str} (h : C8.Met P w K mg base k C m sp dvs) (kk : k ≤ k') (imp : ∀ vs H Q E, sp' vs H Q E → sp vs H Q E) : C8.Met P w K mg base k' C m sp' dvs := by
  obtain ⟨f, fd, ps, ds, a, b, c, d, e⟩ := h.ex
  exact ⟨f, fd, ps, ds, a, b, fn_up c kk imp, d, e⟩
theorem mak_up {k k' : Nat} {C : Addr} {x : Str} (h : C8.Mak P w K mg base k x C sp dvs) (kk : k ≤ k') (imp : ∀ vs H Q E, sp' vs H Q E → sp vs H Q E) : C8.Mak P w K mg base k' x C sp' dvs := by
  obtain ⟨f, fd, ps, ds, a, b, c, d, e⟩ := h.ex
  exact ⟨f, fd, ps, ds, a, fn_up b kk imp, c, d, e⟩
/-- the promise, asked of what is of class C -/
def spIn (C : Addr) (sp : Sp) : Sp := fun vs H Q E => (∃ p dx fs r, vs = .ref p :: r ∧ H p = some (.ins C dx fs)) ∧ sp vs H Q E
/-- one promise of a method for all classes of S -/
def MetG (P : Program) (w : World) (K : PySem.W.Frag) (mg : Str → Option Value) (base : Heap) (k : Nat) (S : Addr → Prop) (m : Str) (sp : Sp) : Prop := ∀ C, S C → C8.Met P w K mg base k C m (spIn C sp) []
def tMethG (S : Addr → Prop) (m : Str) (sp : Sp) (ta : TE) (t : TA) : TE := fun σ H Q => ∃ C, S C ∧ tMeth C m (spIn C sp) [] C8.E0 ta t σ H Q
theorem pe_mtG {X : Cx} {k j : Nat} {S : Addr → Prop} {m : Str} {sp : Sp} {pos apos : Pos} {e o : Expr} {es : List Expr} {ta : TE} {t : TA} {pl : Sem Bool} (c : MetG X.prog X.w X.K X.mg X.base k S m sp) (hr : Room j X.A) (hk : k ≤ j) (ho : PE X o ta) (ha : PA X (e :: es) t)
    (h1 : starEach (e :: es) X.env = (false, eval e X.env) :: starEach es X.env := by rfl) (h2 : ((backTo pos (starEach es X.env)).any (·.1)) = false := by rfl)
    (h3 : eval ((o.Attribute m apos).Call (e :: es) [] pos) X.env = (do
      let ov ← eval o X.env
      standAt apos.atName
      let (f, first) ← holding [ov] (getMethod ov m pl)
      callWith pos f first (backTo pos (starEach (e :: es) X.env)) (backToKw pos (keywordEach [] X.env))) := by rfl) :
    PE X ((o.Attribute m apos).Call (e :: es) [] pos) (tMethG S m sp ta t) :=
  ⟨fun pins s σ H Q I h => by
    obtain ⟨C, hC, h⟩ := h
    exact (C8.pe_mt (c C hC) hr hk ho ha h1 h2 h3).run pins s σ H Q I h⟩
theorem pe_mt0G {X : Cx} {k j : Nat} {S : Addr → Prop} {m : Str} {sp : Sp} {pos apos : Pos} {o : Expr} {ta : TE} {pl : Sem Bool} (c : MetG X.prog X.w X.K X.mg X.base k S m sp) (hr : Room j X.A) (hk : k ≤ j) (ho : PE X o ta)
    (h3 : eval ((o.Attribute m apos).Call [] [] pos) X.env = (do
      let ov ← eval o X.env
      standAt apos.atName
      let (f, first) ← holding [ov] (getMethod ov m pl)
      callWith pos f first (backTo pos (starEach [] X.env)) (backToKw pos (keywordEach [] X.env))) := by rfl) :
    PE X ((o.Attribute m apos).Call [] [] pos) (tMethG S m sp ta tNil) :=
  ⟨fun pins s σ H Q I h => by
    obtain ⟨C, hC, h⟩ := h
    exact (C8.pe_mt0 (c C hC) hr hk ho h3).run pins s σ H Q I h⟩
/-- how a rule of any class stands in the heap, by how high it is made: h -/
structure RK where
  S : Addr → Prop
  At : Nat → Hp → Addr → MT.Rl → Prop
  same : ∀ {h H H' p r}, Same H H' → At h H p r → At h H' p r
  cls : ∀ {h H p r}, At h H p r → ∃ C dx fs, S C ∧ H p = some (.ins C dx fs) ∧ fs.lookup ("free" : Str) = none ∧ fs.lookup ("many" : Str) = none
def spFreeG (A : RK) (h : Nat) : Sp := fun vs H Q _ => ∃ (p a : Addr) (r : MT.Rl) (xs : List Nat), vs = [.ref p, .ref a] ∧ A.At h H p r ∧ H a = some (.lst (xs.map nv)) ∧ xs.Nodup ∧ (∀ x ∈ xs, x < r.n) ∧
  ∀ H' (b : Bool), Same H H' → (b = true ↔ r.F xs) → Q (.bl b) H'
def spManyG (A : RK) (h : Nat) : Sp := fun vs H Q _ => ∃ (p : Addr) (r : MT.Rl), vs = [.ref p] ∧ A.At h H p r ∧ ∀ H', Same H H' → Q (nv r.n) H'
end
end Fs
namespace MS
theorem filter_congr' {α : Type} {p q : α → Bool} : ∀ {l : List α}, (∀ x ∈ l, p x = q x) → l.filter p = l.filter q
  | [], _ => rfl
  | x :: l, h => by
    have ih := filter_congr' (l := l) fun y hy => h y (List.mem_cons_of_mem _ hy)
    rw [List.filter_cons, List.filter_cons, ih, h x (List.mem_cons_self ..)]
end MS
namespace Fs
open PySem L2
theorem eq_nv (a b : Nat) : V.bl (decide (nv a = nv b)) = V.bl (decide (a = b)) := by
  congr 1
  rw [Bool.eq_iff_iff, decide_eq_true_eq, decide_eq_true_eq]
  constructor
  · intro k
    have := V.int.inj k
    omega
  · intro k
    rw [k]
theorem pe_c0 {X : Cx} {k j : Nat} {x : Str} {sp : Sp} {dvs : List V} {p pos : Pos} (c : C8.Cal X.prog X.w X.K X.mg X.base k x sp dvs) (hr : Room j X.A) (hk : k ≤ j) (hg : Gl X x) (hdb : (x == ("__debug__" : Str)) = false := by decide) : PE X (.Call (.Name x p) [] [] pos) (tCall sp dvs C8.E0 tNil) := by
  obtain ⟨f, fd, ps, ds, F, hm, kp, b, d⟩ := c.ex
  exact pe_call0 F (hr.mono hk) hg hm kp b d pass0 hdb
end Fs
/-! ### ranks of any rule -/
namespace MT
noncomputable def Rl.f (r : Rl) (xs : List Nat) : Bool := @decide (r.F xs) (Classical.propDecidable _)
theorem Rl.f_iff {r : Rl} {xs : List Nat} : r.f xs = true ↔ r.F xs := by
  unfold Rl.f
  exact @decide_eq_true_iff _ (Classical.propDecidable _)
theorem Rl.f_eq {r : Rl} {xs : List Nat} {b : Bool} (h : b = true ↔ r.F xs) : r.f xs = b := by
  rw [Bool.eq_iff_iff, Rl.f_iff, h]
noncomputable def Rl.grown (r : Rl) (xs : List Nat) : List Nat := grow r.f [] xs
theorem Rl.matf (r : Rl) : Mat fun xs => r.f xs = true := r.mat.congr fun _ _ => Rl.f_iff.symm
theorem Rl.grown_is (r : Rl) {xs : List Nat} (h : xs.Nodup) : Grown r.f [] xs (r.grown xs) := grow_is r.matf xs [] (by rw [List.nil_append]; exact h) (Rl.f_iff.mpr r.mat.nil)
theorem Rl.grown_rank (r : Rl) {xs : List Nat} (h : xs.Nodup) : Rank r.F xs (r.grown xs).length := by
  have k := rank_grow r.matf h
  obtain ⟨a, a1, a2, a3, a4⟩ := k.has
  exact ⟨⟨a, a1, a2, Rl.f_iff.mp a3, a4⟩, fun ys h1 h2 h3 => k.most ys h1 h2 (Rl.f_iff.mpr h3)⟩
/-- a thing that can't be put to what is grown doesn't make the rank greater -/
theorem Rl.near (r : Rl) {xs : List Nat} (h : xs.Nodup) {x s : Nat} (hs : Rank r.F (x :: xs) s) : (x ∈ xs ∨ r.f (r.grown xs ++ [x]) = false) ↔ s = (r.grown xs).length := by
  have G := r.grown_is h
  have R := r.grown_rank h
  have sub : ∀ y ∈ r.grown xs, y ∈ xs := fun y hy => (G.up y hy).elim (fun k => by cases k) id
  have ge : (r.grown xs).length ≤ s := hs.most _ G.nd (fun y hy => List.mem_cons_of_mem _ (sub y hy)) (Rl.f_iff.mp G.free)
  constructor
  · intro k
    refine Nat.le_antisymm ?_ ge
    rcases k with k | k
    · exact hs.sub R fun y hy => by
        rcases List.mem_cons.mp hy with e | e
        · rw [e]; exact k
        · exact e
    · by_cases xm : x ∈ xs
      · exact hs.sub R fun y hy => by
          rcases List.mem_cons.mp hy with e | e
          · rw [e]; exact xm
          · exact e
      · obtain ⟨a, a1, a2, a3, a4⟩ := hs.has
        refine Classical.byContradiction fun lt => ?_
        obtain ⟨y, y1, y2, y3⟩ := r.mat.exch G.nd a1 (Rl.f_iff.mp G.free) a3 (by omega)
        rcases List.mem_cons.mp (a2 y y1) with e | e
        · subst e
          have : r.F (r.grown xs ++ [y]) := (r.mat.perm (nd_cons G.nd y2) (List.perm_append_comm (l₁ := [y]))).mp y3
          rw [Rl.f_iff.mpr this] at k
          cases k
        · have t := G.top y e y2
          have : r.F (r.grown xs ++ [y]) := (r.mat.perm (nd_cons G.nd y2) (List.perm_append_comm (l₁ := [y]))).mp y3
          rw [Rl.f_iff.mpr this] at t
          cases t
  · intro k
    by_cases xm : x ∈ xs
    · exact .inl xm
    · refine .inr ?_
      cases e : r.f (r.grown xs ++ [x]) with
      | false => rfl
      | true =>
        have nx : x ∉ r.grown xs := fun q => xm (sub x q)
        have := hs.most (r.grown xs ++ [x]) (nd_snoc G.nd nx) (fun y hy => by
          rcases List.mem_append.mp hy with q | q
          · exact List.mem_cons_of_mem _ (sub y q)
          · rw [List.mem_singleton.mp q]; exact List.mem_cons_self ..) (Rl.f_iff.mp e)
        rw [List.length_append] at this
        have l1 : ([x] : List Nat).length = 1 := rfl
        omega
end MT
namespace Fs
open PySem L2
section
variable {P : Program} {w : World} {K : PySem.W.Frag} {mg : Str → Option Value} {base : Heap} {f : Addr} {fd : FuncData} {A : RK} {h k : Nat}
def spGrown (A : RK) (h : Nat) : Sp := fun vs H Q _ => ∃ (p a : Addr) (r : MT.Rl) (xs : List Nat), vs = [.ref p, .ref a] ∧ A.At h H p r ∧ H a = some (.lst (xs.map nv)) ∧ xs.Nodup ∧ (∀ x ∈ xs, x < r.n) ∧
  ∀ H' q (gs : List Nat), Same H H' → H q = none → gs.Perm (r.grown xs) → gs.Pairwise (· < ·) → H' q = some (.lst (gs.map nv)) → Q (.ref q) H'
theorem cast_back : ∀ xs : List Nat, (xs.map (fun n : Nat => (n : Int))).map Int.toNat = xs
  | [] => rfl
  | x :: xs => by
    rw [List.map_cons, List.map_cons, cast_back xs, Int.toNat_natCast]
theorem cast_forth : ∀ ns : List Int, (∀ i ∈ ns, 0 ≤ i) → (ns.map Int.toNat).map (fun n : Nat => (n : Int)) = ns
  | [], _ => rfl
  | x :: xs, h => by
    rw [List.map_cons, List.map_cons, cast_forth xs fun i hi => h i (List.mem_cons_of_mem _ hi), Int.toNat_of_nonneg (h x (List.mem_cons_self ..))]
/-- what sorted gives, of different things -/
theorem sorted_nats {ns : List Int} {xs : List Nat} (p : ns.Perm (xs.map (fun n : Nat => (n : Int)))) (pw : ns.Pairwise (· ≤ ·)) (nd : xs.Nodup) : ∃ ys : List Nat, ns.map V.int = ys.map nv ∧ ys.Perm xs ∧ ys.Pairwise (· < ·) := by
  have nn : ∀ i ∈ ns, 0 ≤ i := fun i hi => by
    obtain ⟨n, _, rfl⟩ := List.mem_map.mp (p.mem_iff.mp hi)
    exact Int.natCast_nonneg _
  have pp : (ns.map Int.toNat).Perm xs := by
    have := p.map Int.toNat
    rw [cast_back] at this
    exact this
  refine ⟨ns.map Int.toNat, ?_, pp, ?_⟩
  · rw [nv_ints, cast_forth ns nn]
  · have nd2 := pp.nodup_iff.mpr nd
    have le : (ns.map Int.toNat).Pairwise (· ≤ ·) := pw.map Int.toNat fun a b h => by omega
    exact (le.and nd2).imp fun ⟨a, b⟩ => Nat.lt_of_le_of_ne a b
theorem rising_eq {xs ys : List Nat} (p : xs.Perm ys) (h : xs.Pairwise (· < ·)) (k : ys.Pairwise (· < ·)) : xs = ys :=
  List.Perm.eq_of_pairwise (fun a b _ _ l m => absurd (Nat.lt_trans l m) (Nat.lt_irrefl _)) h k p
theorem nodup_le {xs : List Nat} {n : Nat} (h : xs.Nodup) (l : ∀ x ∈ xs, x < n) : xs.length ≤ n := by
  have := MT.le_of_sub xs (List.range n) h fun x hx => List.mem_range.mpr (l x hx)
  rw [List.length_range] at this
  exact this
theorem nats_in {xs : List Nat} {n : Nat} (l : ∀ x ∈ xs, x < n) : ∀ x ∈ xs.map (fun n : Nat => (n : Int)), 0 ≤ x ∧ x < (n : Int) := fun x hx => by
  obtain ⟨m, hm, rfl⟩ := List.mem_map.mp hx
  have := l m hm
  omega
theorem ok_grown (B : Bl mg) (k4 : 4 ≤ k) (F : L2.Fun K "grown" "grown" s_grown f fd) (g : mg "grown" = some (.ref f)) (m_many : MetG P w K mg base k A.S "many" (spManyG A h)) (m_free : MetG P w K mg base k A.S "free" (spFreeG A h)) (c_check_set : C8.Cal P w K mg base 4 "check_set" spSet []) :
    C8.Cal P w K mg base (k + 1) "grown" (spGrown A h) [] := by
  refine ⟨f, fd, ["rule", "some"], [], F.ok sc_grown (fun vs H Q E h => ?_) (fun cdv A' outer s H vs Q E hr h => ?_), g, F.kp, F.binds (ps := ["rule", "some"]) (fun _ _ _ _ _ _ us hl => match us, hl with | [_, _], _ => rfl), .nil⟩
  · obtain ⟨p, a, r, xs, rfl, _⟩ := h
    rfl
  · obtain ⟨p, a, r, xs, rfl, hat, ha, hnd, hx, q⟩ := h
    refine ⟨_, (pss_cons (ps_expr (C8.pe_c c_check_set hr (by first | decide | exact Nat.le_refl _ | omega) rfl (pa_cons (pv 1) (pa_cons (pe_mt0G (pl := _) m_many hr (by first | decide | omega) (pv 0)) pa_nil))))
      (pss_cons (ps_set (i := 2) sc_grown.nd rfl (Or.inl rfl) (pe_lst pa_nil))
      (pss_cons (ps_for PassesOwn.never rfl (pi_list (pv 1)) (pg_name (i := 3) sc_grown.nd rfl (Or.inl rfl)) (pss_one (ps_if (pt_val (pe_mtG (pl := _) m_free hr (by first | decide | omega) (pv 0) (pa_cons (pe_op op_cat (pv 2) (pe_lst (pa_cons (pv 3) pa_nil))) pa_nil))) (pss_one (ps_expr (pe_bm PySem.F.plainAttrs_list PySem.F.slot_list_append PySem.F.type_list_append mt_append (pv 2) (pa_cons (pv 3) pa_nil)))) pss_nil)))
      (pss_one (ps_ret (pe_callB cr_sorted (by rfl) B.sorted_ (by decide +kernel) (pa_cons (pv 2) pa_nil))))))), ?_⟩
    obtain ⟨C, dx, fs, hC, hp, lf, lm⟩ := A.cls hat
    have r16 := r.n16
    have xl := nodup_le hnd hx
    refine ⟨_, rfl, C, hC, _, rfl, p, dx, fs, rfl, hp, lm, ⟨p, dx, fs, _, rfl, hp⟩, p, r, rfl, hat, fun H1 s1 => ?_⟩
    have ha1 := s1 _ _ ha
    have ha' := ha1
    rw [nv_ints] at ha'
    refine ⟨a, _, _, rfl, ha', nats_in hx, nd_cast hnd, by rw [List.length_map]; omega, fun H2 s2 => ?_⟩
    have s12 := s1.trans s2
    refine ⟨Nat.zero_le _, fun L hL => ?_⟩
    have hL0 : H L = none := s12.free hL
    refine ⟨_, rfl, a, rfl, ⟨_, SqL.of (same_upd hL _ _ (s12 _ _ ha))⟩, for_list (K := K) (a := a) (xs := xs.map nv) (fun i σ H' => ∃ (v : Option V) (t : List Nat), σ = [some (.ref p), some (.ref a), some (.ref L), v] ∧ Same H H' ∧ H' L = some (.lst (t.map nv)) ∧
        MT.grow r.f t (xs.drop i) = r.grown xs ∧ t.Nodup ∧ (∀ x ∈ t, x ∈ xs.take i))
      ⟨none, [], rfl, s12.trans (same_upd hL), upd_same, rfl, List.nodup_nil, fun _ z => (by cases z)⟩ (fun i σ H' _ ⟨_, _, _, s5, _⟩ => SqL.of (s5 _ _ ha)) ?_ ?_⟩
    · rintro i y σ H' hi ⟨v, t, rfl, s5, hT, inv, tnd, tin⟩
      obtain ⟨x, ex, rfl⟩ := map_at hi
      have ilt : i < xs.length := (List.getElem?_eq_some_iff.mp ex).1
      have edrop : xs.drop i = x :: xs.drop (i + 1) := by
        have e2 := (List.getElem?_eq_some_iff.mp ex).2
        rw [List.drop_eq_getElem_cons ilt, e2]
      have xm := List.mem_of_getElem? ex
      have xt : x ∉ t := fun z => by
        have z := tin x z
        obtain ⟨j, hj, e⟩ := List.mem_iff_getElem.mp z
        rw [List.length_take] at hj
        rw [List.getElem_take] at e
        have e2 := (List.getElem?_eq_some_iff.mp ex).2
        exact List.pairwise_iff_getElem.mp hnd j i (by omega) ilt (by omega) (e.trans e2.symm)
      have tn : (t ++ [x]).Nodup := MT.nd_snoc tnd xt
      have tlt : ∀ z ∈ t ++ [x], z < r.n := fun z hz => by
        rcases List.mem_append.mp hz with e | e
        · exact hx z (List.mem_of_mem_take (tin z e))
        · rw [List.mem_singleton.mp e]; exact hx x xm
      have tl := nodup_le tn tlt
      have tin' : ∀ z ∈ t ++ [x], z ∈ xs.take (i + 1) := fun z hz => by
        rw [take_more ex]
        rcases List.mem_append.mp hz with e | e
        · exact List.mem_append_left _ (tin z e)
        · exact List.mem_append_right _ e
      refine ⟨C, hC, _, rfl, p, dx, fs, rfl, s5 _ _ hp, lf, _, rfl, _, rfl, (by show 1 ≤ sizeLine; decide), fun u hu => ?_⟩
      have su : Same H' (upd H' u (.lst [nv x])) := same_upd hu
      refine ⟨L, u, _, _, rfl, rfl, su _ _ hT, upd_same, ?_, fun w1 hw1 => ?_⟩
      · rw [List.length_map]
        rw [List.length_append] at tl
        exact Nat.le_of_lt (small1000 (by show t.length + 1 ≤ 1000; have l1 : ([x] : List Nat).length = 1 := rfl; omega))
      have sw := su.trans (same_upd (o := .lst (t.map nv ++ [nv x])) hw1)
      have hw : (upd (upd H' u (.lst [nv x])) w1 (.lst (t.map nv ++ [nv x]))) w1 = some (.lst ((t ++ [x]).map nv)) := by
        rw [List.map_append]
        exact upd_same
      refine ⟨⟨p, dx, fs, _, rfl, sw _ _ (s5 _ _ hp)⟩, p, w1, r, t ++ [x], rfl, A.same (s5.trans sw) hat, hw, tn, tlt, fun H5 b s6 hb => ?_⟩
      have s56 := sw.trans s6
      have fb := MT.Rl.f_eq hb
      rw [edrop] at inv
      refine ⟨b, rfl, ?_⟩
      cases b with
      | true =>
        refine iteT ⟨_, rfl, .inl ⟨rfl, _, SqL.of (s56 _ _ hT)⟩, _, rfl, L, _, _, rfl, rfl, s56 _ _ hT, ?_, ?_⟩
        · rw [List.length_map]
          rw [List.length_append] at tl
          exact small1000 (by omega)
        · refine ⟨_, t ++ [x], rfl, same_to (s5.trans s56) hL0, ?_, ?_, tn, tin'⟩
          · rw [List.map_append]
            exact upd_same
          · rw [← inv]
            show _ = if r.f (t ++ [x]) = true then _ else _
            rw [fb, if_pos rfl]
      | false =>
        refine iteF ⟨_, t, rfl, s5.trans s56, s56 _ _ hT, ?_, tnd, fun z hz => tin' z (List.mem_append_left _ hz)⟩
        rw [← inv]
        show _ = if r.f (t ++ [x]) = true then _ else _
        rw [fb, if_neg (by decide)]
    · rintro σ H' ⟨v, t, rfl, s5, hT, inv, tnd, tin⟩
      rw [List.length_map, List.drop_length] at inv
      have e : t = r.grown xs := inv
      have tl : t.length ≤ 16 := by
        have := nodup_le tnd fun z hz => hx z (List.mem_of_mem_take (tin z hz))
        omega
      have hT' := hT
      rw [nv_ints] at hT'
      refine ⟨_, rfl, L, _, rfl, SqL.of hT', by rw [List.length_map]; omega, fun ns z pz pw nz => ?_⟩
      obtain ⟨ys, ey, py, pwy⟩ := sorted_nats pz pw tnd
      rw [ey]
      exact q _ z ys (s5.trans (same_upd nz)) (s5.free nz) (e ▸ py) pwy upd_same
def spRank (A : RK) (h : Nat) : Sp := fun vs H Q _ => ∃ (p a : Addr) (r : MT.Rl) (xs : List Nat), vs = [.ref p, .ref a] ∧ A.At h H p r ∧ H a = some (.lst (xs.map nv)) ∧ xs.Nodup ∧ (∀ x ∈ xs, x < r.n) ∧
  ∀ H', Same H H' → Q (nv (r.grown xs).length) H'
theorem ok_rank (B : Bl mg) (F : L2.Fun K "rank" "rank" s_rank f fd) (g : mg "rank" = some (.ref f)) (c_grown : C8.Cal P w K mg base (k + 1) "grown" (spGrown A h) []) : C8.Cal P w K mg base (k + 2) "rank" (spRank A h) [] := by
  refine ⟨f, fd, ["rule", "some"], [], F.ok sc_rank (fun vs H Q E h => ?_) (fun cdv A' outer s H vs Q E hr h => ?_), g, F.kp, F.binds (ps := ["rule", "some"]) (fun _ _ _ _ _ _ us hl => match us, hl with | [_, _], _ => rfl), .nil⟩
  · obtain ⟨p, a, r, xs, rfl, _⟩ := h
    rfl
  · obtain ⟨p, a, r, xs, rfl, hat, ha, hnd, hx, q⟩ := h
    refine ⟨_, (pss_one (ps_ret (pe_callB (call_lenK (K := K) rfl) (by rfl) B.len_ (by decide +kernel) (pa_cons (C8.pe_c c_grown hr (by first | decide | exact Nat.le_refl _ | omega) rfl (pa_cons (pv 0) (pa_cons (pv 1) pa_nil))) pa_nil)))), ?_⟩
    refine ⟨_, rfl, _, rfl, p, a, r, xs, rfl, hat, ha, hnd, hx, fun H1 L gs s1 nL pg _ hL => ⟨L, _, rfl, .inl (SqL.of hL), ?_⟩⟩
    rw [List.length_map, pg.length_eq]
    exact q _ s1
end
end Fs
namespace Fs
open PySem L2
section
variable {P : Program} {w : World} {K : PySem.W.Frag} {mg : Str → Option Value} {base : Heap} {f : Addr} {fd : FuncData} {A : RK} {h k : Nat}
def spWithout : Sp := fun vs H Q _ => ∃ (a : Addr) (xs : List Nat) (x : Nat), vs = [.ref a, nv x] ∧ H a = some (.lst (xs.map nv)) ∧ xs.length ≤ 1000 ∧ ∀ H' q, Same H H' → H q = none → H' q = some (.lst ((xs.filter fun y => !decide (y = x)).map nv)) → Q (.ref q) H'
theorem ok_without (F : L2.Fun K "without" "without" s_without f fd) (g : mg "without" = some (.ref f)) : C8.Cal P w K mg base 1 "without" spWithout [] := by
  refine ⟨f, fd, ["some", "thing"], [], F.ok sc_without (fun vs H Q E h => ?_) (fun cdv A' outer s H vs Q E hr h => ?_), g, F.kp, F.binds (ps := ["some", "thing"]) (fun _ _ _ _ _ _ us hl => match us, hl with | [_, _], _ => rfl), .nil⟩
  · obtain ⟨a, xs, x, rfl, _⟩ := h
    rfl
  · obtain ⟨a, xs, x, rfl, ha, hl, q⟩ := h
    refine ⟨_, (pss_one (ps_ret (pe_lc (own := [("other", 2)]) rfl sc_without.nd (pi_list (pv 0)) (blkOk_by (own := [("other", 2)]) (N := n_without) (sc := defScope s_without) (by decide +kernel)) (fun _ _ _ _ _ => (pg_name (i := 2) sc_without.nd rfl (Or.inl rfl))) (fun _ _ _ _ _ => (pts_one (pt_cmpR op_ne (pv 2) (pv 1) (nomark _)))) (fun _ _ _ _ _ => (pv 2))))), ?_⟩
    refine ⟨_, rfl, a, rfl, ⟨_, SqL.of ha⟩, fun D hD => lc_list (K := K) (a := a) (xs := xs.map nv) (fun j H2 => Same H H2 ∧ H2 D = some (.lst (((xs.take j).filter fun y => !decide (y = x)).map nv)))
      ⟨same_upd hD, upd_same⟩ (fun j H2 _ p => SqL.of (p.1 _ _ ha)) ?_ ?_⟩
    · rintro j y H2 hj ⟨s2, hA⟩
      obtain ⟨z, ez, rfl⟩ := map_at hj
      have ll : ((xs.take j).filter fun y => !decide (y = x)).length ≤ 1000 := by
        have := List.length_filter_le (fun y => !decide (y = x)) (xs.take j)
        rw [List.length_take] at this
        omega
      refine ⟨rfl, ?_⟩
      refine ⟨_, rfl, _, rfl, rfl, !decide (z = x), ?_, ?_⟩
      · show V.bl (!decide (nv z = nv x)) = _
        congr 2
        have := eq_nv z x
        exact V.bl.inj this
      by_cases e : z = x
      · rw [decide_eq_true e]
        refine iteF ⟨s2, ?_⟩
        rw [take_more ez, List.filter_append, List.filter_cons_of_neg (by simp [e]), List.filter_nil, List.append_nil]
        exact hA
      · rw [decide_eq_false e]
        refine iteT ⟨_, rfl, _, hA, by rw [List.length_map]; exact Nat.lt_of_le_of_lt ll (by decide), same_to s2 hD, ?_⟩
        rw [take_more ez, List.filter_append, List.filter_cons_of_pos (by simp [e]), List.filter_nil, List.map_append]
        exact upd_same
    · rintro H2 ⟨s2, hA⟩
      rw [List.length_map, List.take_length] at hA
      exact q _ D s2 hD hA
structure IsRing (r : MT.Rl) (xs : List Nat) (x : Nat) (cs : List Nat) : Prop where
  pw : cs.Pairwise (· < ·)
  sub : ∀ y ∈ cs, y = x ∨ y ∈ xs
  is : (cs = [] ∧ r.F (xs ++ [x])) ∨ (¬ r.F (xs ++ [x]) ∧ MT.Ring r.F cs)
def spRingG (A : RK) (h : Nat) : Sp := fun vs H Q _ => ∃ (p a : Addr) (r : MT.Rl) (xs : List Nat) (x : Nat), vs = [.ref p, .ref a, nv x] ∧ A.At h H p r ∧ H a = some (.lst (xs.map nv)) ∧ xs.Nodup ∧ (∀ x ∈ xs, x < r.n) ∧ x < r.n ∧ x ∉ xs ∧ r.F xs ∧
  ∀ H' q (cs : List Nat), Same H H' → H q = none → IsRing r xs x cs → H' q = some (.lst (cs.map nv)) → Q (.ref q) H'
theorem filter_erase {xs : List Nat} (h : xs.Nodup) (x : Nat) : (xs.filter fun y => !decide (y = x)) = xs.erase x := by
  rw [h.erase_eq_filter]
  refine MS.filter_congr' fun y _ => ?_
  by_cases e : y = x <;> simp [e]
theorem ok_ringG (B : Bl mg) (k4 : 4 ≤ k) (F : L2.Fun K "ring" "ring" s_ring f fd) (g : mg "ring" = some (.ref f)) (m_many : MetG P w K mg base k A.S "many" (spManyG A h)) (m_free : MetG P w K mg base k A.S "free" (spFreeG A h)) (c_check_set : C8.Cal P w K mg base 4 "check_set" spSet []) (c_check_thing : C8.Cal P w K mg base 3 "check_thing" spThing [])
    (c_without : C8.Cal P w K mg base 1 "without" spWithout []) : C8.Cal P w K mg base (k + 1) "ring" (spRingG A h) [] := by
  refine ⟨f, fd, ["rule", "some", "thing"], [], F.ok sc_ring (fun vs H Q E h => ?_) (fun cdv A' outer s H vs Q E hr h => ?_), g, F.kp, F.binds (ps := ["rule", "some", "thing"]) (fun _ _ _ _ _ _ us hl => match us, hl with | [_, _, _], _ => rfl), .nil⟩
  · obtain ⟨p, a, r, xs, x, rfl, _⟩ := h
    rfl
  · obtain ⟨p, a, r, xs, x, rfl, hat, ha, hnd, hx, xn, nx, fr, q⟩ := h
    refine ⟨_, (pss_cons (ps_expr (C8.pe_c c_check_set hr (by first | decide | exact Nat.le_refl _ | omega) rfl (pa_cons (pv 1) (pa_cons (pe_mt0G (pl := _) m_many hr (by first | decide | omega) (pv 0)) pa_nil))))
      (pss_cons (ps_expr (C8.pe_c c_check_thing hr (by first | decide | exact Nat.le_refl _ | omega) rfl (pa_cons (pv 2) (pa_cons (pe_mt0G (pl := _) m_many hr (by first | decide | omega) (pv 0)) pa_nil))))
      (pss_cons (ps_if (pt_cmpR op_in_seq (pv 2) (pv 1) (by rfl)) (pss_one ps_never) pss_nil)
      (pss_cons (ps_if (pt_not (pt_val (pe_mtG (pl := _) m_free hr (by first | decide | omega) (pv 0) (pa_cons (pv 1) pa_nil)))) (pss_one ps_never) pss_nil)
      (pss_cons (ps_set (i := 3) sc_ring.nd rfl (Or.inr rfl) (pe_op op_cat (pv 1) (pe_lst (pa_cons (pv 2) pa_nil))))
      (pss_cons (ps_if (pt_val (pe_mtG (pl := _) m_free hr (by first | decide | omega) (pv 0) (pa_cons (pv 3) pa_nil))) (pss_one (ps_ret (pe_lst pa_nil))) pss_nil)
      (pss_one (ps_ret (pe_callB cr_sorted (by rfl) B.sorted_ (by decide +kernel) (pa_cons (pe_lc (own := [("other", 4)]) rfl sc_ring.nd (pi_list (pv 3)) (blkOk_by (own := [("other", 4)]) (N := n_ring) (sc := defScope s_ring) (by decide +kernel)) (fun _ _ _ _ _ => (pg_name (i := 4) sc_ring.nd rfl (Or.inl rfl))) (fun _ _ _ _ _ => (pts_one (pt_val (pe_mtG (pl := _) m_free hr (by first | decide | omega) (pv 0) (pa_cons (C8.pe_c c_without hr (by first | decide | exact Nat.le_refl _ | omega) rfl (pa_cons (pv 3) (pa_cons (pv 4) pa_nil))) pa_nil))))) (fun _ _ _ _ _ => (pv 4))) pa_nil)))))))))), ?_⟩
    obtain ⟨C, dx, fs, hC, hp, lf, lm⟩ := A.cls hat
    have r16 := r.n16
    have xl := nodup_le hnd hx
    refine ⟨_, rfl, C, hC, _, rfl, p, dx, fs, rfl, hp, lm, ⟨p, dx, fs, _, rfl, hp⟩, p, r, rfl, hat, fun H1 s1 => ?_⟩
    have ha' := s1 _ _ ha
    rw [nv_ints] at ha'
    refine ⟨a, _, _, rfl, ha', nats_in hx, nd_cast hnd, by rw [List.length_map]; omega, fun H2 s2 => ?_⟩
    have s12 := s1.trans s2
    refine ⟨_, rfl, C, hC, _, rfl, p, dx, fs, rfl, s12 _ _ hp, lm, ⟨p, dx, fs, _, rfl, s12 _ _ hp⟩, p, r, rfl, A.same s12 hat, fun H3 s3 => ?_⟩
    have s13 := s12.trans s3
    refine ⟨_, _, rfl, by omega, by omega, ?_⟩
    refine ⟨_, rfl, _, rfl, a, _, rfl, .inl (SqL.of (s13 _ _ ha)), rfl, flat_nats _, false, ?_, iteF ?_⟩
    · show V.bl (if false = true then !inV (nv x) (xs.map nv) else inV (nv x) (xs.map nv)) = _
      rw [if_neg Bool.false_ne_true, in_nats, decide_eq_false nx]
    refine ⟨C, hC, _, rfl, p, dx, fs, rfl, s13 _ _ hp, lf, _, rfl, ⟨p, dx, fs, _, rfl, s13 _ _ hp⟩, p, a, r, xs, rfl, A.same s13 hat, s13 _ _ ha, hnd, hx, fun H4 b s4 hb => ?_⟩
    have b1 : b = true := hb.mpr fr
    subst b1
    have s14 := s13.trans s4
    refine ⟨true, rfl, iteF ?_⟩
    -- together
    refine ⟨_, rfl, _, rfl, (by show 1 ≤ sizeLine; decide), fun u hu => ?_⟩
    have su : Same H4 (upd H4 u (.lst [nv x])) := same_upd hu
    refine ⟨a, u, _, _, rfl, rfl, su _ _ (s14 _ _ ha), upd_same, ?_, fun t ht => ?_⟩
    · rw [List.length_map]
      exact Nat.le_of_lt (small1000 (by show xs.length + 1 ≤ 1000; omega))
    have st := su.trans (same_upd (o := .lst (xs.map nv ++ [nv x])) ht)
    have hT : (upd (upd H4 u (.lst [nv x])) t (.lst (xs.map nv ++ [nv x]))) t = some (.lst ((xs ++ [x]).map nv)) := by
      rw [List.map_append]
      exact upd_same
    generalize upd (upd H4 u (.lst [nv x])) t (.lst (xs.map nv ++ [nv x])) = H5 at st hT
    have s15 := s14.trans st
    have tn : (xs ++ [x]).Nodup := MT.nd_snoc hnd nx
    have tlt : ∀ z ∈ xs ++ [x], z < r.n := fun z hz => by
      rcases List.mem_append.mp hz with e | e
      · exact hx z e
      · rw [List.mem_singleton.mp e]; exact xn
    have tl := nodup_le tn tlt
    refine ⟨C, hC, _, rfl, p, dx, fs, rfl, s15 _ _ hp, lf, _, rfl, ⟨p, dx, fs, _, rfl, s15 _ _ hp⟩, p, t, r, xs ++ [x], rfl, A.same s15 hat, hT, tn, tlt, fun H6 b s6 hb => ?_⟩
    have s16 := s15.trans s6
    refine ⟨b, rfl, ?_⟩
    cases b with
    | true =>
      refine iteT ⟨Nat.zero_le _, fun z nz => ?_⟩
      exact q _ z [] (s16.trans (same_upd nz)) (s16.free nz) ⟨.nil, fun _ h => (by cases h), .inl ⟨rfl, hb.mp rfl⟩⟩ upd_same
    | false =>
      have dep : ¬ r.F (xs ++ [x]) := fun e => by cases hb.mpr e
      have hT6 := s6 _ _ hT
      refine iteF ⟨_, rfl, t, rfl, ⟨_, SqL.of hT6⟩, fun D hD => lc_list (K := K) (a := t) (xs := (xs ++ [x]).map nv) (fun j H7 => Same H6 H7 ∧ H7 D = some (.lst ((((xs ++ [x]).take j).filter fun y => r.f ((xs ++ [x]).erase y)).map nv)))
        ⟨same_upd hD, upd_same⟩ (fun j H7 _ p => SqL.of (p.1 _ _ hT6)) ?_ ?_⟩
      · rintro j y H7 hj ⟨s7, hA⟩
        obtain ⟨z, ez, rfl⟩ := map_at hj
        have ll : (((xs ++ [x]).take j).filter fun y => r.f ((xs ++ [x]).erase y)).length ≤ 16 := by
          have := List.length_filter_le (fun y => r.f ((xs ++ [x]).erase y)) ((xs ++ [x]).take j)
          rw [List.length_take] at this
          omega
        have s17 := s16.trans s7
        refine ⟨rfl, ?_⟩
        refine ⟨C, hC, _, rfl, p, dx, fs, rfl, s17 _ _ hp, lf, _, rfl, _, rfl, t, xs ++ [x], z, rfl, s7 _ _ hT6, by omega, fun H8 w8 s8 nw8 hw8 => ?_⟩
        rw [filter_erase tn] at hw8
        have s18 := s17.trans s8
        refine ⟨⟨p, dx, fs, _, rfl, s18 _ _ hp⟩, p, w8, r, (xs ++ [x]).erase z, rfl, A.same s18 hat, hw8, MT.nd_erase tn z, fun v hv => tlt v (List.mem_of_mem_erase hv), fun H9 b s9 hb9 => ?_⟩
        have fb := MT.Rl.f_eq hb9
        have s79 := s8.trans s9
        refine ⟨b, rfl, ?_⟩
        cases b with
        | true =>
          refine iteT ⟨_, rfl, _, s79 _ _ hA, by rw [List.length_map]; exact small1000 (by omega), same_to (s7.trans s79) hD, ?_⟩
          rw [take_more ez, List.filter_append, List.filter_cons_of_pos (p := fun y => r.f ((xs ++ [x]).erase y)) fb, List.filter_nil, List.map_append]
          exact upd_same
        | false =>
          refine iteF ⟨s7.trans s79, ?_⟩
          rw [take_more ez, List.filter_append, List.filter_cons_of_neg (p := fun y => r.f ((xs ++ [x]).erase y)) (by rw [fb]; decide), List.filter_nil, List.append_nil]
          exact s79 _ _ hA
      · rintro H7 ⟨s7, hA⟩
        rw [List.length_map, List.take_length] at hA
        generalize eC : ((xs ++ [x]).filter fun y => r.f ((xs ++ [x]).erase y)) = cs at hA
        have cnd : cs.Nodup := by rw [← eC]; exact List.filter_sublist.nodup tn
        have cm : ∀ y, y ∈ cs ↔ y ∈ xs ++ [x] ∧ r.F ((xs ++ [x]).erase y) := fun y => by rw [← eC, List.mem_filter, MT.Rl.f_iff]
        have rg := MT.ring_is r.mat hnd nx fr dep cnd cm
        have cl := nodup_le cnd fun z hz => tlt z ((cm z).mp hz).1
        have hA' := hA
        rw [nv_ints] at hA'
        refine ⟨D, _, rfl, SqL.of hA', by rw [List.length_map]; omega, fun ns z pz pw nz => ?_⟩
        obtain ⟨ys, ey, py, pwy⟩ := sorted_nats pz pw cnd
        rw [ey]
        have s17 := s16.trans s7
        refine q _ z ys (s17.trans (same_upd nz)) (s17.free nz) ⟨pwy, fun y hy => ?_, .inr ⟨dep, rg.perm r.mat py.symm⟩⟩ upd_same
        rcases List.mem_append.mp ((cm y).mp (py.mem_iff.mp hy)).1 with e | e
        · exact .inr e
        · exact .inl (List.mem_singleton.mp e)
end
/-! ### the law's own readers: a cell of the script, rows, wants -/
section
variable {P : Program} {w : World} {K : PySem.W.Frag} {mg : Str → Option Value} {base : Heap} {f : Addr} {fd : FuncData}
def cellR (ns : List Int) (k : Nat) : Int := if k < ns.length then ns.getD k 0 else if ns = [] then (k : Int) * 48271 else (ns.getD (k % ns.length) 0 + (k : Int)) * 48271 % 2147483647
def spCellR (K : PySem.W.Frag) : Sp := fun vs H Q _ => ∃ (a : Addr) (ns : List Int) (k : Nat), vs = [.ref a, .int (k : Int)] ∧ SqL K H a (ns.map V.int) ∧ k ≤ 1000 ∧ ∀ H', Same H H' → Q (.int (cellR ns k)) H'
theorem nil_eqv (ns : List Int) : PyData.eqv (.list (ns.map PyData.int)) (.list []) = decide (ns = []) := by
  cases ns with
  | nil => rfl
  | cons x xs => rfl
theorem ok_cellR (B : Bl mg) (F : L2.Fun K "_law_cell_at" "_law_cell_at" s__law_cell_at f fd) (g : mg "_law_cell_at" = some (.ref f)) : C8.Cal P w K mg base 1 "_law_cell_at" (spCellR K) [] := by
  refine ⟨f, fd, ["_law_script", "_law_k"], [], F.ok sc__law_cell_at (fun vs H Q E h => ?_) (fun cdv A outer s H vs Q E hr h => ?_), g, F.kp, F.binds (ps := ["_law_script", "_law_k"]) (fun _ _ _ _ _ _ us hl => match us, hl with | [_, _], _ => rfl), .nil⟩
  · obtain ⟨a, ns, k, rfl, _⟩ := h
    rfl
  · obtain ⟨a, ns, k, rfl, ha, hk, q⟩ := h
    refine ⟨_, (pss_cons (ps_if (pt_cmpR op_lt (pv 1) (pe_callB (call_lenK (K := K) rfl) (by rfl) B.len_ (by decide +kernel) (pa_cons (pv 0) pa_nil)) (nomark _)) (pss_one (ps_ret (pe_ix (r := rIxL K) ix_list (pv 0) (pv 1) (fun _ _ => rfl)))) pss_nil)
      (pss_cons (ps_if (pt_cmpR (op_eqD hr.units) (pv 0) (pe_lst pa_nil) (nomark _)) (pss_one (ps_ret (pe_op op_mul (pv 1) pe_int))) pss_nil)
      (pss_one (ps_ret (pe_op op_mod (pe_op op_mul (pe_op op_add (pe_ix (r := rIxL K) ix_list (pv 0) (pe_op op_mod (pv 1) (pe_callB (call_lenK (K := K) rfl) (by rfl) B.len_ (by decide +kernel) (pa_cons (pv 0) pa_nil))) (fun _ _ => rfl)) (pv 1)) pe_int) pe_int))))), ?_⟩
    refine ⟨_, rfl, _, rfl, a, _, rfl, .inl ha, (k : Int), ((ns.map V.int).length : Int), rfl, rfl, _, rfl, ?_⟩
    rw [List.length_map]
    have at_ : ∀ i : Nat, i < ns.length → (ns.map V.int)[i]? = some (V.int (ns.getD i 0)) := fun i hi => by
      rw [List.getElem?_map, List.getElem?_eq_getElem hi, List.getD_eq_getElem?_getD, List.getElem?_eq_getElem hi]
      rfl
    by_cases c : k < ns.length
    · rw [decide_eq_true (by omega : (k : Int) < (ns.length : Int))]
      have e : cellR ns k = ns.getD k 0 := if_pos c
      rw [e] at q
      exact iteT ⟨_, rfl, _, rfl, a, _, _, _, rfl, rfl, ha, atI_nat (at_ k c), q _ fun _ _ z => z⟩
    · rw [decide_eq_false (by omega : ¬ (k : Int) < (ns.length : Int))]
      refine iteF ⟨_, rfl, Nat.zero_le _, fun l hl => ?_⟩
      have sl : Same H (upd H l (.lst [])) := same_upd hl
      have ha' := sl.seq ha
      have hl' : (upd H l (HO.lst [])) l = some (.lst []) := upd_same
      generalize upd H l (HO.lst []) = H1 at sl ha' hl'
      refine ⟨_, _, Dp.lst ha' (dp_ints ns), Dp.lst (SqL.of hl') .nil, PySem.W.ke_shaped_ints ns, by decide +kernel, decide (ns = []), by rw [nil_eqv], ?_⟩
      by_cases c2 : ns = []
      · rw [decide_eq_true c2]
        have e : cellR ns k = (k : Int) * 48271 := (if_neg c).trans (if_pos c2)
        rw [e] at q
        exact iteT ⟨_, rfl, _, _, rfl, rfl, .inr ⟨by decide, by decide⟩, q _ sl⟩
      · rw [decide_eq_false c2]
        have e : cellR ns k = (ns.getD (k % ns.length) 0 + (k : Int)) * 48271 % 2147483647 := (if_neg c).trans (if_neg c2)
        rw [e] at q
        have pos : 0 < ns.length := List.length_pos_iff.mpr c2
        refine iteF ⟨_, rfl, _, rfl, _, rfl, a, _, rfl, .inl ha', _, _, rfl, rfl, (by rw [List.length_map]; omega), a, _, _, V.int (ns.getD (k % ns.length) 0), rfl, rfl, ha', ?_, _, rfl, _, _, rfl, rfl, _, _, rfl, rfl, .inr ⟨by decide, by decide⟩, _, _, rfl, rfl, (by show (0 : Int) < 2147483647; decide), q _ sl⟩
        rw [List.length_map, show ((k : Int) % (ns.length : Int)) = ((k % ns.length : Nat) : Int) from (Int.natCast_emod k ns.length).symm]
        exact atI_nat (at_ _ (Nat.mod_lt _ pos))
structure RowOk (w : List Nat) : Prop where
  ex : ∃ s m : Nat, w = [s, m] ∧ 1 ≤ m ∧ m ≤ 2 ∧ s + m ≤ 31
theorem mod_nat {c N : Int} (h : 0 < N) : ∃ n : Nat, c % N = (n : Int) ∧ (n : Int) < N := by
  have h0 := Int.emod_nonneg c (by omega : N ≠ 0)
  have h1 := Int.emod_lt_of_pos c h
  exact ⟨(c % N).toNat, by omega, by omega⟩
def spRowsR (K : PySem.W.Frag) : Sp := fun vs H Q _ => ∃ (a : Addr) (ns : List Int), vs = [.ref a] ∧ SqL K H a (ns.map V.int) ∧
  ∀ H' p (ts : List Addr) (ws : List (List Nat)), Same H H' → H p = none → H' p = some (.lst (ts.map V.ref)) → rws .tup H' ts ws → ws.length ≤ 16 → (∀ w ∈ ws, RowOk w) → Q (.ref p) H'
theorem ok_rowsR (B : Bl mg) (F : L2.Fun K "_law_rows" "_law_rows" s__law_rows f fd) (g : mg "_law_rows" = some (.ref f)) (c__law_cell_at : C8.Cal P w K mg base 1 "_law_cell_at" (spCellR K) []) : C8.Cal P w K mg base 2 "_law_rows" (spRowsR K) [] := by
  refine ⟨f, fd, ["_law_script"], [], F.ok sc__law_rows (fun vs H Q E h => ?_) (fun cdv A outer s H vs Q E hr h => ?_), g, F.kp, F.binds (ps := ["_law_script"]) (fun _ _ _ _ _ _ us hl => match us, hl with | [_], _ => rfl), .nil⟩
  · obtain ⟨a, ns, rfl, _⟩ := h
    rfl
  · obtain ⟨a, ns, rfl, hS, q⟩ := h
    refine ⟨_, (C8.pss_cut (ps_set (i := 1) sc__law_rows.nd rfl (Or.inl rfl) (pe_op op_add pe_int (pe_op op_mod (C8.pe_c c__law_cell_at hr (by first | decide | exact Nat.le_refl _ | omega) rfl (pa_cons (pv 0) (pa_cons pe_int pa_nil))) pe_int)))
      (C8.pss_cut (ps_set (i := 2) sc__law_rows.nd rfl (Or.inl rfl) (pe_op op_mod (pe_op op_fdiv (C8.pe_c c__law_cell_at hr (by first | decide | exact Nat.le_refl _ | omega) rfl (pa_cons (pv 0) (pa_cons pe_int pa_nil))) pe_int) (pe_op op_sub pe_int (pv 1))))
      (pss_cons (ps_set (i := 3) sc__law_rows.nd rfl (Or.inl rfl) (pe_lst pa_nil))
      (pss_cons (ps_for PassesOwn.never rfl (pi_range1 rfl B.range_ (pa_cons (pe_op op_mod (C8.pe_c c__law_cell_at hr (by first | decide | exact Nat.le_refl _ | omega) rfl (pa_cons (pv 0) (pa_cons pe_int pa_nil))) pe_int) pa_nil)) (pg_name (i := 4) sc__law_rows.nd rfl (Or.inl rfl)) (pss_cons (ps_set (i := 5) sc__law_rows.nd rfl (Or.inl rfl) (C8.pe_c c__law_cell_at hr (by first | decide | exact Nat.le_refl _ | omega) rfl (pa_cons (pv 0) (pa_cons (pe_op op_add pe_int (pv 4)) pa_nil))))
      (pss_cons (ps_set (i := 6) sc__law_rows.nd rfl (Or.inl rfl) (pe_ifExp (pt_cmpR op_gt (pe_op op_mod (pv 5) pe_int) pe_int (nomark _)) pe_int pe_int))
      (pss_one (ps_expr (pe_bm PySem.F.plainAttrs_list PySem.F.slot_list_append PySem.F.type_list_append mt_append (pv 3) (pa_cons (pe_tup (pa_cons (pe_op op_add (pv 2) (pe_op op_mod (pe_op op_fdiv (pv 5) pe_int) (pe_op op_sub (pe_op op_add (pv 1) pe_int) (pv 6)))) (pa_cons (pv 6) pa_nil))) pa_nil)))))))
      (pss_one (ps_ret (pv 3))))))), ?_⟩
    obtain ⟨m, em, lm⟩ := mod_nat (c := cellR ns 1) (N := 16) (by decide)
    obtain ⟨ff, ef, lf⟩ := mod_nat (c := cellR ns 1 / 16) (N := 31 - (2 + (m : Int))) (by omega)
    obtain ⟨n, en, ln⟩ := mod_nat (c := cellR ns 0) (N := 17) (by decide)
    refine ⟨fun σ' H' => σ' = [some (.ref a), some (.int (2 + (m : Int))), none, none, none, none, none] ∧ Same H H', ⟨_, rfl, a, ns, 1, rfl, hS, by decide, fun H1 s1 => ⟨_, _, rfl, rfl, (by show (0 : Int) < 16; decide), _, _, rfl, rfl, by rw [← em]; rfl, s1⟩⟩, ?_⟩
    rintro _ H1 ⟨rfl, s1⟩
    refine ⟨fun σ' H' => σ' = [some (.ref a), some (.int (2 + (m : Int))), some (nv ff), none, none, none, none] ∧ Same H H', ⟨_, rfl, a, ns, 1, rfl, s1.seq hS, by decide, fun H2 s2 => ⟨_, _, rfl, rfl, ⟨by decide, by decide⟩, _, rfl, _, _, rfl, rfl, _, _, rfl, rfl, (by omega), by show _ = [_, _, some (V.int (ff : Int)), _, _, _, _]; rw [← ef]; rfl, s1.trans s2⟩⟩, ?_⟩
    rintro _ H2 ⟨rfl, s12⟩
    refine ⟨Nat.zero_le _, fun L hL => ?_⟩
    have hL0 : H L = none := s12.free hL
    have sL := s12.trans (same_upd (o := .lst []) hL)
    refine ⟨_, rfl, a, ns, 0, rfl, sL.seq hS, by decide, fun H3 s3 => ⟨_, _, rfl, rfl, (by show (0 : Int) < 17; decide), (n : Int), (by show [V.int (cellR ns 0 % 17)] = _; rw [en]), by omega, by omega, for_range (lo := 0) (n := (n : Int).toNat) (fun i σ H' => ∃ (v4 v5 v6 : Option V) (ts : List Addr) (ws : List (List Nat)), σ = [some (.ref a), some (.int (2 + (m : Int))), some (nv ff), some (.ref L), v4, v5, v6] ∧ Same H H' ∧
        H' L = some (.lst (ts.map V.ref)) ∧ rws .tup H' ts ws ∧ ws.length = i ∧ ∀ w ∈ ws, RowOk w)
      ⟨none, none, none, [], [], rfl, sL.trans s3, s3 _ _ upd_same, True.intro, rfl, fun _ z => by cases z⟩ ?_ ?_⟩⟩
    · rintro i σ H' hi ⟨v4, v5, v6, ts, ws, rfl, s5, hA, hts, wl, wok⟩
      have hi : i < n := by omega
      refine ⟨_, rfl, _, rfl, _, _, rfl, rfl, a, ns, 4 + i, ?_, s5.seq hS, by omega, fun H4 s4 => ?_⟩
      · show [V.ref a, V.int (4 + (0 + (i : Int)))] = _
        rw [show (4 + (0 + (i : Int))) = ((4 + i : Nat) : Int) by omega]
      have h5 := s5.trans s4
      refine ⟨_, rfl, _, _, rfl, rfl, (by show (0 : Int) < 3; decide), _, _, rfl, rfl, _, rfl, ?_⟩
      -- both ways at once
      have fin : ∀ (mm r : Nat) (t : Addr), 1 ≤ mm → mm ≤ 2 → (r : Int) < 2 + (m : Int) + 1 - (mm : Int) → H4 t = none → ∀ x : Int, x = ((ff + r : Nat) : Int) → ∀ y : Int, y = (mm : Int) → (upd H4 t (.tup [V.int x, V.int y])) L = some (.lst (ts.map V.ref)) ∧ (ts.map V.ref).length < sizeLine ∧
          ∀ v4 v5 v6 : Option V, ∃ (v4' v5' v6' : Option V) (ts' : List Addr) (ws' : List (List Nat)), [some (V.ref a), some (.int (2 + (m : Int))), some (nv ff), some (.ref L), v4, v5, v6] = [some (.ref a), some (.int (2 + (m : Int))), some (nv ff), some (.ref L), v4', v5', v6'] ∧ Same H (upd (upd H4 t (.tup [V.int x, V.int y])) L (.lst (ts.map V.ref ++ [.ref t]))) ∧
          (upd (upd H4 t (.tup [V.int x, V.int y])) L (.lst (ts.map V.ref ++ [.ref t]))) L = some (.lst (ts'.map V.ref)) ∧ rws .tup (upd (upd H4 t (.tup [V.int x, V.int y])) L (.lst (ts.map V.ref ++ [.ref t]))) ts' ws' ∧ ws'.length = i + 1 ∧ ∀ w ∈ ws', RowOk w := fun mm r t m1 m2 lr ht x ex y ey => by
        subst ex
        subst ey
        have st : Same H4 (upd H4 t (.tup [nv (ff + r), nv mm])) := same_upd ht
        have hU : (upd H4 t (HO.tup [nv (ff + r), nv mm])) t = some (.tup ([ff + r, mm].map nv)) := upd_same
        have hL6 := st _ _ (s4 _ _ hA)
        refine ⟨hL6, by rw [List.length_map, hts.len, wl]; exact small1000 (by omega), fun v4 v5 v6 => ⟨v4, v5, v6, ts ++ [t], ws ++ [[ff + r, mm]], rfl, same_to (h5.trans st) hL0, ?_, ?_, by rw [List.length_append, wl]; rfl, fun w' hw' => ?_⟩⟩
        · rw [List.map_append]
          exact upd_same
        · have pu := rws.put hU ((hts.same s4).same st)
          exact pu.upd (pu.not_mem hL6 (by intro xs z; cases z))
        · rcases List.mem_append.mp hw' with e | e
          · exact wok w' e
          · rw [List.mem_singleton.mp e]
            exact ⟨ff + r, mm, rfl, m1, m2, by omega⟩
      refine ite2 (fun _ => ?_) (fun _ => ?_)
      · obtain ⟨r, er, lr⟩ := mod_nat (c := cellR ns (4 + i) / 3) (N := 2 + (m : Int) + 1 - ((2 : Nat) : Int)) (by omega)
        refine ⟨_, rfl, .inl ⟨rfl, _, SqL.of (s4 _ _ hA)⟩, _, rfl, _, rfl, _, _, rfl, rfl, ⟨by decide, by decide⟩, _, rfl, _, _, rfl, rfl, _, rfl, _, _, rfl, rfl, _, _, rfl, rfl, (by omega), _, _, rfl, rfl, _, rfl, (by show 2 ≤ sizeLine; decide), fun t ht => ?_⟩
        obtain ⟨k1, k2, k3⟩ := fin 2 r t (by decide) (by decide) lr ht ((ff : Int) + cellR ns (4 + i) / 3 % (2 + (m : Int) + 1 - 2)) (by
          have er : cellR ns (4 + i) / 3 % (2 + (m : Int) + 1 - 2) = (r : Int) := er
          rw [er]
          omega) 2 rfl
        exact ⟨L, _, _, rfl, rfl, k1, k2, k3 _ _ _⟩
      · obtain ⟨r, er, lr⟩ := mod_nat (c := cellR ns (4 + i) / 3) (N := 2 + (m : Int) + 1 - ((1 : Nat) : Int)) (by omega)
        refine ⟨_, rfl, .inl ⟨rfl, _, SqL.of (s4 _ _ hA)⟩, _, rfl, _, rfl, _, _, rfl, rfl, ⟨by decide, by decide⟩, _, rfl, _, _, rfl, rfl, _, rfl, _, _, rfl, rfl, _, _, rfl, rfl, (by omega), _, _, rfl, rfl, _, rfl, (by show 2 ≤ sizeLine; decide), fun t ht => ?_⟩
        obtain ⟨k1, k2, k3⟩ := fin 1 r t (by decide) (by decide) lr ht ((ff : Int) + cellR ns (4 + i) / 3 % (2 + (m : Int) + 1 - 1)) (by
          have er : cellR ns (4 + i) / 3 % (2 + (m : Int) + 1 - 1) = (r : Int) := er
          rw [er]
          omega) 1 rfl
        exact ⟨L, _, _, rfl, rfl, k1, k2, k3 _ _ _⟩
    · rintro σ H' ⟨v4, v5, v6, ts, ws, rfl, s5, hA, hts, wl, wok⟩
      exact ⟨_, rfl, q _ L ts ws s5 hL0 hA hts (by omega) wok⟩
end
section
variable {P : Program} {w : World} {K : PySem.W.Frag} {mg : Str → Option Value} {base : Heap} {f : Addr} {fd : FuncData}
structure WantsOk (s t : Nat) (ws vs : List (List Nat)) : Prop where
  len : vs.length = ws.length
  ok : ∀ v ∈ vs, Po.PostsOk v
  is : ∀ (i : Nat) (w v : List Nat), ws[i]? = some w → vs[i]? = some v → ∀ p, p ∈ v ↔ ∃ j, j < w.getD 1 0 ∧ p = ST.ph s t (w.getD 0 0 + j)
def wan (s t a m : Nat) : List Nat := (List.range m).map fun j => ST.ph s t (a + j)
theorem wan_ok {s t a m : Nat} (h : s < 31) (h0 : s ≠ 0) (l : a + m ≤ 31) : Po.PostsOk (wan s t a m) := by
  refine ⟨fun n hn => ?_, MT.nd_map _ _ List.nodup_range fun i hi j hj e => ?_⟩
  · obtain ⟨j, _, rfl⟩ := List.mem_map.mp hn
    exact ST.ph_lt _ _ _
  · have hi := List.mem_range.mp hi
    have hj := List.mem_range.mp hj
    have := ST.ph_inj h h0 (by omega) (by omega) e
    omega
theorem wan_mem {s t a m p : Nat} : p ∈ wan s t a m ↔ ∃ j, j < m ∧ p = ST.ph s t (a + j) := by
  unfold wan
  rw [List.mem_map]
  constructor
  · rintro ⟨j, hj, rfl⟩
    exact ⟨j, List.mem_range.mp hj, rfl⟩
  · rintro ⟨j, hj, rfl⟩
    exact ⟨j, List.mem_range.mpr hj, rfl⟩
theorem Po.PostsOk.rev {v : List Nat} (h : Po.PostsOk v) : Po.PostsOk v.reverse := ⟨fun n hn => h.1 n (List.mem_reverse.mp hn), (List.reverse_perm v).nodup_iff.mpr h.2⟩
theorem WantsOk.put {s t a m : Nat} {ws vs : List (List Nat)} {v : List Nat} {i : Nat} (hi : ws[i]? = some [a, m]) (W : WantsOk s t (ws.take i) vs) (ok : Po.PostsOk v) (is : ∀ p, p ∈ v ↔ ∃ j, j < m ∧ p = ST.ph s t (a + j)) : WantsOk s t (ws.take (i + 1)) (vs ++ [v]) := by
  have il : i < ws.length := (List.getElem?_eq_some_iff.mp hi).1
  have tl : (ws.take i).length = i := by rw [List.length_take]; omega
  refine ⟨?_, fun u hu => ?_, fun j w u h1 h2 => ?_⟩
  · rw [take_more hi, List.length_append, List.length_append, W.len]
    rfl
  · rcases List.mem_append.mp hu with e | e
    · exact W.ok u e
    · rw [List.mem_singleton.mp e]; exact ok
  · rw [take_more hi] at h1
    by_cases c : j < i
    · rw [List.getElem?_append_left (by omega)] at h1
      rw [List.getElem?_append_left (by rw [W.len]; omega)] at h2
      exact W.is j w u h1 h2
    · have jl : j < (vs ++ [v]).length := (List.getElem?_eq_some_iff.mp h2).1
      rw [List.length_append, W.len, tl] at jl
      have jl : j < i + 1 := jl
      have e : j = i := by omega
      subst e
      rw [List.getElem?_append_right (by omega), tl, Nat.sub_self] at h1
      rw [List.getElem?_append_right (by rw [W.len]; omega), W.len, tl, Nat.sub_self] at h2
      cases h1
      cases h2
      exact is
def spWantsR (K : PySem.W.Frag) : Sp := fun vs H Q _ => ∃ (a b : Addr) (ns : List Int) (ts : List Addr) (ws : List (List Nat)), vs = [.ref a, .ref b] ∧ H a = some (.lst (ts.map V.ref)) ∧ rws .tup H ts ws ∧ ws.length ≤ 16 ∧ (∀ w ∈ ws, RowOk w) ∧ SqL K H b (ns.map V.int) ∧
  ∀ H' p (us : List Addr) (vs : List (List Nat)) (s t : Nat), Same H H' → H p = none → H' p = some (.lst (us.map V.ref)) → rws .lst H' us vs → s < 31 → s ≠ 0 → WantsOk s t ws vs → Q (.ref p) H'
theorem ok_wantsR (B : Bl mg) (F : L2.Fun K "_law_wants" "_law_wants" s__law_wants f fd) (g : mg "_law_wants" = some (.ref f)) (c__law_cell_at : C8.Cal P w K mg base 1 "_law_cell_at" (spCellR K) []) : C8.Cal P w K mg base 2 "_law_wants" (spWantsR K) [] := by
  refine ⟨f, fd, ["_law_rows_here", "_law_script"], [], F.ok sc__law_wants (fun vs H Q E h => ?_) (fun cdv A outer s H vs Q E hr h => ?_), g, F.kp, F.binds (ps := ["_law_rows_here", "_law_script"]) (fun _ _ _ _ _ _ us hl => match us, hl with | [_, _], _ => rfl), .nil⟩
  · obtain ⟨a, b, ns, ts, ws, rfl, _⟩ := h
    rfl
  · obtain ⟨a, b, ns, ts, ws, rfl, ha, hts, wl, wok, hS, q⟩ := h
    refine ⟨_, (C8.pss_cut (ps_set (i := 2) sc__law_wants.nd rfl (Or.inr rfl) (pe_op op_add pe_int (pe_op op_mod (C8.pe_c c__law_cell_at hr (by first | decide | exact Nat.le_refl _ | omega) rfl (pa_cons (pv 1) (pa_cons pe_int pa_nil))) pe_int)))
      (C8.pss_cut (ps_set (i := 3) sc__law_wants.nd rfl (Or.inr rfl) (pe_op op_mod (pe_op op_fdiv (C8.pe_c c__law_cell_at hr (by first | decide | exact Nat.le_refl _ | omega) rfl (pa_cons (pv 1) (pa_cons pe_int pa_nil))) pe_int) pe_int))
      (pss_cons (ps_set (i := 4) sc__law_wants.nd rfl (Or.inl rfl) (pe_lst pa_nil))
      (pss_cons (ps_for PassesOwn.never rfl (pi_range1 rfl B.range_ (pa_cons (pe_callB (call_lenK (K := K) rfl) (by rfl) B.len_ (by decide +kernel) (pa_cons (pv 0) pa_nil)) pa_nil)) (pg_name (i := 5) sc__law_wants.nd rfl (Or.inl rfl)) (C8.pss_cut (ps_asg (pe_ix (r := rIxL K) ix_list (pv 0) (pv 5) (fun _ _ => rfl)) (pg_tupK (K := K) (n := 2) rfl (by rfl) (pgs_cons (pg_name (i := 6) sc__law_wants.nd rfl (Or.inr rfl)) (pgs_cons (pg_name (i := 7) sc__law_wants.nd rfl (Or.inl rfl)) pgs_nil))))
      (pss_cons (ps_setLc (i := 8) (own := [("_law_more", 9)]) rfl sc__law_wants.nd rfl rfl (sw_true rfl rfl rfl (by decide +kernel)) (pi_range1 rfl B.range_ (pa_cons (pv 7) pa_nil)) (blkOk_by (own := [("_law_more", 9)]) (N := n__law_wants) (sc := defScope s__law_wants) (by decide +kernel)) (fun _ _ _ _ _ => (pg_name (i := 9) sc__law_wants.nd rfl (Or.inl rfl))) (fun _ _ _ _ _ => pts_nil) (fun _ _ _ _ _ => (pe_op op_mod (pe_op op_add (pv 3) (pe_op op_mul (pv 2) (pe_op op_add (pv 6) (pv 9)))) pe_int)))
      (pss_one (ps_expr (pe_bm PySem.F.plainAttrs_list PySem.F.slot_list_append PySem.F.type_list_append mt_append (pv 4) (pa_cons (pe_ifExp (pt_cmpR op_eq (pe_op op_mod (pe_op op_fdiv (C8.pe_c c__law_cell_at hr (by first | decide | exact Nat.le_refl _ | omega) rfl (pa_cons (pv 1) (pa_cons (pe_op op_add pe_int (pv 5)) pa_nil))) pe_int) pe_int) pe_int (nomark _)) (pe_revL (pv 8)) (pv 8)) pa_nil)))))))
      (pss_one (ps_ret (pv 4))))))), ?_⟩
    have tl := hts.len
    obtain ⟨m, em, lm⟩ := mod_nat (c := cellR ns 2) (N := 30) (by decide)
    obtain ⟨t, et, lt⟩ := mod_nat (c := cellR ns 2 / 30) (N := 31) (by decide)
    refine ⟨fun σ' H' => σ' = [some (.ref a), some (.ref b), some (nv (1 + m)), none, none, none, none, none, none, none] ∧ Same H H', ⟨_, rfl, b, ns, 2, rfl, hS, by decide, fun H1 s1 => ⟨_, _, rfl, rfl, (by show (0 : Int) < 30; decide), _, _, rfl, rfl, ?_, s1⟩⟩, ?_⟩
    · show [_, _, some (V.int (1 + cellR ns 2 % 30)), _, _, _, _, _, _, _] = _
      rw [em, show (1 + (m : Int)) = ((1 + m : Nat) : Int) by omega]
    rintro _ H1 ⟨rfl, s1⟩
    refine ⟨fun σ' H' => σ' = [some (.ref a), some (.ref b), some (nv (1 + m)), some (nv t), none, none, none, none, none, none] ∧ Same H H', ⟨_, rfl, b, ns, 2, rfl, s1.seq hS, by decide, fun H2 s2 => ⟨_, _, rfl, rfl, ⟨by decide, by decide⟩, _, _, rfl, rfl, (by show (0 : Int) < 31; decide), ?_, s1.trans s2⟩⟩, ?_⟩
    · show [_, _, _, some (V.int (cellR ns 2 / 30 % 31)), _, _, _, _, _, _] = _
      rw [et]
    rintro _ H2 ⟨rfl, s12⟩
    refine ⟨Nat.zero_le _, fun L hL => ?_⟩
    have hL0 : H L = none := s12.free hL
    have sL := s12.trans (same_upd (o := .lst []) hL)
    refine ⟨_, rfl, a, _, rfl, .inl (SqL.of (sL _ _ ha)), (ts.length : Int), by rw [List.length_map], by omega, by omega, for_range (lo := 0) (n := (ts.length : Int).toNat) (fun i σ H' => ∃ (v5 v6 v7 v8 v9 : Option V) (us : List Addr) (vs : List (List Nat)), σ = [some (.ref a), some (.ref b), some (nv (1 + m)), some (nv t), some (.ref L), v5, v6, v7, v8, v9] ∧ Same H H' ∧
        H' L = some (.lst (us.map V.ref)) ∧ rws .lst H' us vs ∧ (∀ u ∈ us, u ≠ L) ∧ WantsOk (1 + m) t (ws.take i) vs)
      ⟨none, none, none, none, none, [], [], rfl, sL, upd_same, True.intro, fun _ z => (by cases z), ⟨rfl, fun _ z => (by cases z), fun _ _ _ z => by simp at z⟩⟩ ?_ ?_⟩
    · rintro i σ H' hi ⟨v5, v6, v7, v8, v9, us, vs, rfl, s5, hA, hus, nL, W⟩
      have hi : i < ts.length := by omega
      obtain ⟨w0, hw0, hrow⟩ := hts.at (List.getElem?_eq_getElem hi)
      obtain ⟨a1, m1, rfl, l1, l2, l3⟩ := (wok w0 (List.mem_of_getElem? hw0)).ex
      have hix : (ts.map V.ref)[i]? = some (V.ref ts[i]) := by
        rw [List.getElem?_map, List.getElem?_eq_getElem hi]
        rfl
      refine ⟨fun σ' H3 => σ' = [some (.ref a), some (.ref b), some (nv (1 + m)), some (nv t), some (.ref L), some (nv i), some (nv a1), some (nv m1), v8, v9] ∧ H3 = H', ?_, ?_⟩
      · refine ⟨_, rfl, _, rfl, a, _, _, V.ref ts[i], rfl, rfl, SqL.of (s5 _ _ ha), ?_, _, _, rfl, SqT.of (s5 _ _ hrow), rfl, _, _, rfl, _, _, rfl, rfl, ?_, rfl⟩
        · show atI _ (0 + (i : Int)) = _
          rw [Int.zero_add]
          exact atI_nat hix
        · show [_, _, _, _, _, some (V.int (0 + (i : Int))), _, _, _, _] = _
          rw [Int.zero_add]
      rintro _ H' ⟨rfl, rfl⟩
      refine ⟨_, rfl, (m1 : Int), rfl, by omega, by omega, fun D hD => lc_range (lo := 0) (n := (m1 : Int).toNat) (fun j H3 => Same H' H3 ∧ H3 D = some (.lst ((wan (1 + m) t a1 j).map nv))) ⟨same_upd hD, upd_same⟩ ?_ ?_⟩
      · rintro j H3 hj ⟨s6, hD3⟩
        refine ⟨rfl, yesT ?_⟩
        refine ⟨_, rfl, _, rfl, _, rfl, _, rfl, _, _, rfl, rfl, _, _, rfl, rfl, .inl ⟨by omega, by omega⟩, _, _, rfl, rfl, _, _, rfl, rfl, (by show (0 : Int) < 31; decide), _, hD3, ?_, same_to s6 hD, ?_⟩
        · rw [List.length_map]
          unfold wan
          rw [List.length_map, List.length_range]
          exact small1000 (by omega)
        · have e : ((t : Int) + ((1 + m : Nat) : Int) * ((a1 : Int) + (0 + (j : Int)))) % 31 = ((ST.ph (1 + m) t (a1 + j) : Nat) : Int) := by
            rw [Int.zero_add]
            unfold ST.ph
            push_cast
            rfl
          refine upd_same.trans ?_
          show some (HO.lst (_ ++ [V.int (((t : Int) + ((1 + m : Nat) : Int) * ((a1 : Int) + (0 + (j : Int)))) % 31)])) = _
          rw [e]
          unfold wan
          rw [List.range_succ, List.map_append, List.map_append]
          rfl
      · rintro H3 ⟨s6, hD3⟩
        rw [Int.toNat_natCast] at hD3
        have h5 := s5.trans s6
        have fin : ∀ (u : Addr) (v : List Nat) (H4 : Hp), Same H' H4 → H4 u = some (.lst (v.map nv)) → u ≠ L → Po.PostsOk v → (∀ p, p ∈ v ↔ p ∈ wan (1 + m) t a1 m1) → H4 L = some (.lst (us.map V.ref)) ∧ (us.map V.ref).length < sizeLine ∧ ∀ v5 v6 v7 v8 v9 : Option V, ∃ (v5' v6' v7' v8' v9' : Option V) (us' : List Addr) (vs' : List (List Nat)),
            [some (V.ref a), some (.ref b), some (nv (1 + m)), some (nv t), some (.ref L), v5, v6, v7, v8, v9] = [some (V.ref a), some (.ref b), some (nv (1 + m)), some (nv t), some (.ref L), v5', v6', v7', v8', v9'] ∧ Same H (upd H4 L (.lst (us.map V.ref ++ [.ref u]))) ∧
            (upd H4 L (.lst (us.map V.ref ++ [.ref u]))) L = some (.lst (us'.map V.ref)) ∧ rws .lst (upd H4 L (.lst (us.map V.ref ++ [.ref u]))) us' vs' ∧ (∀ u ∈ us', u ≠ L) ∧ WantsOk (1 + m) t (ws.take (i + 1)) vs' := fun u v H4 s4 hu nu ok is => by
          have hL4 := s4 _ _ hA
          refine ⟨hL4, ?_, fun v5 v6 v7 v8 v9 => ⟨v5, v6, v7, v8, v9, us ++ [u], vs ++ [v], rfl, same_to (s5.trans s4) hL0, ?_, ?_, fun x hx => ?_, W.put hw0 ok fun p => (is p).trans wan_mem⟩⟩
          · rw [List.length_map, hus.len, W.len, List.length_take]
            exact small1000 (by omega)
          · rw [List.map_append]
            exact upd_same
          · refine (rws.put hu (hus.same s4)).upd fun k => ?_
            rcases List.mem_append.mp k with e | e
            · exact nL L e rfl
            · exact nu (List.mem_singleton.mp e).symm
          · rcases List.mem_append.mp hx with e | e
            · exact nL x e
            · rw [List.mem_singleton.mp e]; exact nu
        have s1m : 1 + m < 31 := by omega
        have okw := wan_ok (t := t) s1m (by omega) l3
        have DL : D ≠ L := (ne_of_none hA hD).symm
        refine ⟨_, rfl, .inl ⟨rfl, _, SqL.of (s6 _ _ hA)⟩, ?_⟩
        refine ⟨_, rfl, _, rfl, _, _, rfl, rfl, b, ns, 4 + i, ?_, h5.seq hS, by omega, fun H4 s4 => ⟨_, _, rfl, rfl, ⟨by decide, by decide⟩, _, _, rfl, rfl, (by show (0 : Int) < 2; decide), rfl, _, rfl, ?_⟩⟩
        · show [V.ref b, V.int (4 + (i : Int))] = _
          rw [show (4 + (i : Int)) = ((4 + i : Nat) : Int) by omega]
        refine ite2 (fun _ => ?_) (fun _ => ?_)
        · refine ⟨_, rfl, D, _, rfl, SqL.of (s4 _ _ hD3), fun x hx => ?_⟩
          have sx : Same H4 (upd H4 x (.lst ((wan (1 + m) t a1 m1).map nv).reverse)) := same_upd hx
          have hX : (upd H4 x (HO.lst ((wan (1 + m) t a1 m1).map nv).reverse)) x = some (.lst ((wan (1 + m) t a1 m1).reverse.map nv)) := by
            rw [List.map_reverse]
            exact upd_same
          obtain ⟨k1, k2, k3⟩ := fin x _ _ (s6.trans (s4.trans sx)) hX (ne_of_none (s4 _ _ (s6 _ _ hA)) hx).symm okw.rev fun p => List.mem_reverse
          exact ⟨L, _, _, rfl, rfl, k1, k2, k3 _ _ _ _ _⟩
        · obtain ⟨k1, k2, k3⟩ := fin D _ _ (s6.trans s4) (s4 _ _ hD3) DL okw fun p => Iff.rfl
          exact ⟨_, rfl, L, _, _, rfl, rfl, k1, k2, k3 _ _ _ _ _⟩
    · rintro σ H' ⟨v5, v6, v7, v8, v9, us, vs, rfl, s5, hA, hus, nL, W⟩
      rw [Int.toNat_natCast, tl, List.take_length] at W
      exact ⟨_, rfl, q _ L us vs (1 + m) t s5 hL0 hA hus (by omega) (by omega) W⟩
end
section
variable {P : Program} {w : World} {K : PySem.W.Frag} {mg : Str → Option Value} {base : Heap} {f : Addr} {fd : FuncData}
theorem rows_low {ws : List (List Nat)} (wok : ∀ w ∈ ws, RowOk w) : ∀ j, [j, 2] ∈ ws → j < 30 := fun j hj => by
  obtain ⟨s, m, e, _, _, l⟩ := (wok _ hj).ex
  injection e with e1 e2
  injection e2 with e2 _
  omega
def spStr : Sp := fun vs H Q _ => ∃ (a : Addr) (ts : List Addr) (ws : List (List Nat)), vs = [.ref a] ∧ H a = some (.lst (ts.map V.ref)) ∧ rws .tup H ts ws ∧ ws.length ≤ 100 ∧ (∀ w ∈ ws, RowOk w) ∧
  ∀ H' p (us : List Addr), Same H H' → H p = none → H' p = some (.lst (us.map V.ref)) → rws .tup H' us (ST.stl ws 31 0) → Q (.ref p) H'
theorem ok_str (B : Bl mg) (F : L2.Fun K "_law_stretches" "_law_stretches" s__law_stretches f fd) (g : mg "_law_stretches" = some (.ref f)) : C8.Cal P w K mg base 1 "_law_stretches" spStr [] := by
  refine ⟨f, fd, ["_law_rows_here"], [], F.ok sc__law_stretches (fun vs H Q E h => ?_) (fun cdv A outer s H vs Q E hr h => ?_), g, F.kp, F.binds (ps := ["_law_rows_here"]) (fun _ _ _ _ _ _ us hl => match us, hl with | [_], _ => rfl), .nil⟩
  · obtain ⟨a, ts, ws, rfl, _⟩ := h
    rfl
  · obtain ⟨a, ts, ws, rfl, ha, hts, wl, wok, q⟩ := h
    refine ⟨_, (pss_cons (ps_set (i := 1) sc__law_stretches.nd rfl (Or.inl rfl) (pe_lst pa_nil))
      (pss_cons (ps_set (i := 2) sc__law_stretches.nd rfl (Or.inr rfl) pe_int)
      (pss_cons (ps_while PassesOwn.never (pt_cmpR op_lt (pv 2) pe_int (nomark _)) (pss_cons (ps_set (i := 3) sc__law_stretches.nd rfl (Or.inr rfl) (pv 2))
      (pss_cons (ps_while PassesOwn.never (pt_cmpR (op_inD (room65 hr)) (pe_tup (pa_cons (pv 3) (pa_cons pe_int pa_nil))) (pv 0) (by rfl)) (pss_one (ps_set (i := 3) sc__law_stretches.nd rfl (Or.inr rfl) (pe_op op_add (pv 3) pe_int))))
      (pss_cons (ps_expr (pe_bm PySem.F.plainAttrs_list PySem.F.slot_list_append PySem.F.type_list_append mt_append (pv 1) (pa_cons (pe_tup (pa_cons (pe_op op_add (pe_op op_sub (pv 3) (pv 2)) pe_int) (pa_cons (pe_callB (call_lenK (K := K) rfl) (by rfl) B.len_ (by decide +kernel) (pa_cons (pe_lc (own := [("_law_row", 4)]) rfl sc__law_stretches.nd (pi_list (pv 0)) (blkOk_by (own := [("_law_row", 4)]) (N := n__law_stretches) (sc := defScope s__law_stretches) (by decide +kernel)) (fun _ _ _ _ _ => (pg_name (i := 4) sc__law_stretches.nd rfl (Or.inl rfl))) (fun _ _ _ _ _ => (pts_one (pt_chain op_le op_le (pv 2) (pe_ix (r := rIxT K) ix_tup (pv 4) pe_int (fun _ _ => rfl)) (pv 3)))) (fun _ _ _ _ _ => (pv 4))) pa_nil)) pa_nil))) pa_nil)))
      (pss_one (ps_set (i := 2) sc__law_stretches.nd rfl (Or.inr rfl) (pe_op op_add (pv 3) pe_int)))))))
      (pss_one (ps_ret (pv 1)))))), ?_⟩
    have tl := hts.len
    have hb := rows_low wok
    refine ⟨Nat.zero_le _, fun L hL => ?_⟩
    have sL : Same H (upd H L (.lst [])) := same_upd hL
    refine ⟨fun m σ H' => ∃ (x : Nat) (v3 v4 : Option V) (us : List Addr) (ps : List (List Nat)), σ = [some (.ref a), some (.ref L), some (nv x), v3, v4] ∧ m = 31 - x ∧ x ≤ 31 ∧ Same H H' ∧ H' L = some (.lst (us.map V.ref)) ∧ rws .tup H' us ps ∧ ps ++ ST.stl ws (31 - x) x = ST.stl ws 31 0 ∧ ps.length ≤ x,
      ⟨31, 0, none, none, [], [], rfl, rfl, by decide, sL, upd_same, True.intro, rfl, Nat.le_refl _⟩, ?_⟩
    rintro m σ H' ⟨x, v3, v4, us, ps, rfl, rfl, x31, s5, hA, hus, inv, pl⟩
    refine ⟨_, rfl, (x : Int), 31, rfl, rfl, decide ((x : Int) < 31), rfl, ?_⟩
    by_cases c : x < 31
    · rw [decide_eq_true (by omega : (x : Int) < 31)]
      refine iteT ⟨_, fun _ _ h => h, ?_⟩
      have EE := ST.endF_is hb 31 x (by omega)
      have e1 : ST.stl ws (31 - x) x = [ST.endF ws 31 x - x + 1, ST.cnt ws x (ST.endF ws 31 x)] :: ST.stl ws (30 - x) (ST.endF ws 31 x + 1) := by
        rw [show 31 - x = (30 - x) + 1 by omega]
        exact if_pos c
      have e31 := EE.2.2.2 c
      rw [e1, ST.stl_fuel hb (30 - x) (31 - (ST.endF ws 31 x + 1)) _ (by have := EE.1; omega) (by omega)] at inv
      generalize ST.endF ws 31 x = e at EE e31 inv
      -- end = at; while (end, 2) in rows
      refine ⟨_, rfl, ?_⟩
      refine ⟨fun k σ H2 => ∃ y : Nat, σ = [some (.ref a), some (.ref L), some (nv x), some (nv y), v4] ∧ x ≤ y ∧ y ≤ e ∧ k = e - y ∧ Same H' H2, ⟨e - x, x, rfl, Nat.le_refl _, EE.1, rfl, fun _ _ z => z⟩, ?_⟩
      rintro k σ H2 ⟨y, rfl, xy, ye, rfl, s6⟩
      refine ⟨_, rfl, (by show 2 ≤ sizeLine; decide), fun t ht => ?_⟩
      have st : Same H2 (upd H2 t (.tup [nv y, .int 2])) := same_upd ht
      have hT : (upd H2 t (HO.tup [nv y, .int 2])) t = some (.tup ([y, 2].map nv)) := upd_same
      generalize upd H2 t (HO.tup [nv y, V.int 2]) = H3 at st hT
      have h6 := s6.trans st
      have h53 := s5.trans h6
      have ha3 := h53 _ _ ha
      have hts3 := hts.same h53
      refine ⟨_, rfl, td [y, 2], ws.map td, dp_tup hT, Dp.lst (SqL.of ha3) (dp_rows (fun _ _ e => dp_tup e) hts3), td_shaped _, rows_shaped td_lay td_depth ws, decide ([y, 2] ∈ ws), by rw [td_any], ?_⟩
      by_cases c2 : [y, 2] ∈ ws
      · rw [decide_eq_true c2]
        have lt : y < e := Nat.lt_of_le_of_ne ye fun z => EE.2.2.1 (z ▸ c2)
        refine iteT ⟨_, fun _ _ h => h, ?_⟩
        refine ⟨_, rfl, _, _, rfl, rfl, e - (y + 1), by omega, y + 1, ?_, by omega, by omega, rfl, h6⟩
        show [_, _, _, some (V.int ((y : Int) + 1)), _] = _
        rw [show ((y : Int) + 1) = ((y + 1 : Nat) : Int) by omega]
      · rw [decide_eq_false c2]
        have ey : y = e := Classical.byContradiction fun z => c2 (EE.2.1 y xy (by omega))
        subst ey
        refine iteF ?_
        have hL3 := h6 _ _ hA
        refine ⟨_, rfl, .inl ⟨rfl, _, SqL.of hL3⟩, ?_⟩
        refine ⟨_, rfl, _, rfl, _, _, rfl, rfl, _, _, rfl, rfl, ?_⟩
        refine ⟨_, rfl, a, rfl, ⟨_, SqL.of ha3⟩, fun D hD => lc_list (K := K) (a := a) (xs := ts.map V.ref) (fun j H4 => Same H3 H4 ∧ ∃ xs : List V, H4 D = some (.lst xs) ∧ xs.length = ST.cnt (ws.take j) x y)
          ⟨same_upd hD, [], upd_same, rfl⟩ (fun j H4 _ p => SqL.of (p.1 _ _ ha3)) ?_ ?_⟩
        · rintro j z H4 hj ⟨s7, xs, hD4, xl⟩
          obtain ⟨tj, htj, rfl⟩ := map_at hj
          obtain ⟨w0, hw0, hrow⟩ := hts3.at htj
          obtain ⟨s0, m0, rfl, _, _, _⟩ := (wok w0 (List.mem_of_getElem? hw0)).ex
          have jl : j < ws.length := (List.getElem?_eq_some_iff.mp hw0).1
          have cm := ST.cnt_more (a := x) (e := y) hw0
          have cle : ST.cnt (ws.take j) x y ≤ 100 := by
            unfold ST.cnt
            refine Nat.le_trans (List.length_filter_le _ _) ?_
            rw [List.length_take]
            omega
          refine ⟨rfl, ?_⟩
          refine ⟨_, rfl, _, rfl, tj, _, _, _, rfl, rfl, SqT.of (s7 _ _ hrow), rfl, (x : Int), (s0 : Int), rfl, rfl, decide ((x : Int) ≤ (s0 : Int)), rfl, ?_⟩
          by_cases d1 : x ≤ s0
          · rw [decide_eq_true (by omega : (x : Int) ≤ (s0 : Int))]
            refine iteT ⟨_, rfl, (s0 : Int), (y : Int), rfl, rfl, decide ((s0 : Int) ≤ (y : Int)), rfl, ?_⟩
            by_cases d2 : s0 ≤ y
            · rw [decide_eq_true (by omega : (s0 : Int) ≤ (y : Int))]
              refine iteT ⟨_, rfl, _, hD4, ?_, same_to s7 hD, _, upd_same, ?_⟩
              · rw [xl]; exact small1000 (by omega)
              · rw [cm, if_pos ⟨d1, d2⟩, List.length_append, xl]
                rfl
            · rw [decide_eq_false (by omega : ¬ (s0 : Int) ≤ (y : Int))]
              refine iteF ⟨s7, xs, hD4, ?_⟩
              rw [cm, if_neg (fun z => d2 z.2), Nat.add_zero, xl]
          · rw [decide_eq_false (by omega : ¬ (x : Int) ≤ (s0 : Int))]
            refine iteF ⟨false, rfl, iteF ⟨s7, xs, hD4, ?_⟩⟩
            rw [cm, if_neg (fun z => d1 z.1), Nat.add_zero, xl]
        · rintro H4 ⟨s7, xs, hD4, xl⟩
          rw [List.length_map, tl, List.take_length] at xl
          refine ⟨D, _, rfl, .inl (SqL.of hD4), (by show 2 ≤ sizeLine; decide), fun u hu => ?_⟩
          have eV : HO.tup [V.int ((y : Int) - (x : Int) + 1), V.int (xs.length : Int)] = HO.tup ([y - x + 1, ST.cnt ws x y].map nv) := by
            rw [xl, show ((y : Int) - (x : Int) + 1) = ((y - x + 1 : Nat) : Int) by omega]
            rfl
          have su : Same H4 (upd H4 u (.tup [V.int ((y : Int) - (x : Int) + 1), V.int (xs.length : Int)])) := same_upd hu
          have hU : (upd H4 u (HO.tup [V.int ((y : Int) - (x : Int) + 1), V.int (xs.length : Int)])) u = some (.tup ([y - x + 1, ST.cnt ws x y].map nv)) := by
            rw [← eV]
            exact upd_same
          have s34 := s7.trans su
          have hL5 := s34 _ _ hL3
          have pul : (us.map V.ref).length < sizeLine := by
            rw [List.length_map, hus.len]
            exact small1000 (by omega)
          refine ⟨L, _, _, rfl, rfl, hL5, pul, ?_⟩
          refine ⟨_, rfl, _, _, rfl, rfl, 31 - (y + 1), by omega, y + 1, some (nv y), v4, us ++ [u], ps ++ [[y - x + 1, ST.cnt ws x y]], ?_, rfl, by omega, same_to (h53.trans s34) hL, ?_, ?_, ?_, ?_⟩
          · show [_, _, some (V.int ((y : Int) + 1)), _, _] = _
            rw [show ((y : Int) + 1) = ((y + 1 : Nat) : Int) by omega]
          · rw [List.map_append]
            exact upd_same
          · have pu := rws.put hU ((hus.same h6).same s34)
            exact pu.upd (pu.not_mem hL5 (by intro xs z; cases z))
          · rw [List.append_assoc]
            exact inv
          · rw [List.length_append]
            show ps.length + 1 ≤ y + 1
            omega
    · rw [decide_eq_false (by omega : ¬ (x : Int) < 31)]
      have e31 : x = 31 := by omega
      subst e31
      have i2 : ps ++ [] = ST.stl ws 31 0 := inv
      rw [List.append_nil] at i2
      subst i2
      exact iteF ⟨_, rfl, q _ L us s5 hL hA hus⟩
def spLRank : Sp := fun vs H Q _ => ∃ (a : Addr) (ts : List Addr) (ws : List (List Nat)), vs = [.ref a] ∧ H a = some (.lst (ts.map V.ref)) ∧ rws .tup H ts ws ∧ ws.length ≤ 100 ∧ (∀ w ∈ ws, RowOk w) ∧ ∀ H', Same H H' → Q (nv (ST.lrank ws 31 0)) H'
theorem stl_row {ws : List (List Nat)} : ∀ (f a : Nat), ∀ w ∈ ST.stl ws f a, ∃ p q : Nat, w = [p, q]
  | 0, _, _, h => by cases h
  | f + 1, a, w, h => by
    unfold ST.stl at h
    by_cases c : a < 31
    · rw [if_pos c] at h
      rcases List.mem_cons.mp h with e | e
      · exact ⟨_, _, e⟩
      · exact stl_row f _ w e
    · rw [if_neg c] at h
      cases h
theorem sum_cast : ∀ l : List Nat, (l.map (fun n : Nat => (n : Int))).sum = ((l.sum : Nat) : Int)
  | [] => rfl
  | x :: l => by
    rw [List.map_cons, List.sum_cons, List.sum_cons, sum_cast l]
    omega
theorem ok_lrank (B : Bl mg) (bsum : mg "sum" = none) (F : L2.Fun K "_law_rank" "_law_rank" s__law_rank f fd) (g : mg "_law_rank" = some (.ref f)) (c__law_stretches : C8.Cal P w K mg base 1 "_law_stretches" spStr []) : C8.Cal P w K mg base 2 "_law_rank" spLRank [] := by
  refine ⟨f, fd, ["_law_rows_here"], [], F.ok sc__law_rank (fun vs H Q E h => ?_) (fun cdv A outer s H vs Q E hr h => ?_), g, F.kp, F.binds (ps := ["_law_rows_here"]) (fun _ _ _ _ _ _ us hl => match us, hl with | [_], _ => rfl), .nil⟩
  · obtain ⟨a, ts, ws, rfl, _⟩ := h
    rfl
  · obtain ⟨a, ts, ws, rfl, ha, hts, wl, wok, q⟩ := h
    refine ⟨_, (pss_one (ps_ret (pe_callB (cr_sum rfl) (by rfl) bsum (by decide +kernel) (pa_cons (pe_lc (own := [("_law_pair", 1)]) rfl sc__law_rank.nd (pi_list (C8.pe_c c__law_stretches hr (by first | decide | exact Nat.le_refl _ | omega) rfl (pa_cons (pv 0) pa_nil))) (blkOk_by (own := [("_law_pair", 1)]) (N := n__law_rank) (sc := defScope s__law_rank) (by decide +kernel)) (fun _ _ _ _ _ => (pg_name (i := 1) sc__law_rank.nd rfl (Or.inl rfl))) (fun _ _ _ _ _ => pts_nil) (fun _ _ _ _ _ => (pe_callB (call_min2 rfl) (by rfl) B.min_ (by decide +kernel) (pa_cons (pe_ix (r := rIxT K) ix_tup (pv 1) pe_int (fun _ _ => rfl)) (pa_cons (pe_ix (r := rIxT K) ix_tup (pv 1) pe_int (fun _ _ => rfl)) pa_nil))))) pa_nil)))), ?_⟩
    have sl := ST.stl_len (rs := ws) 31 0
    refine ⟨_, rfl, a, ts, ws, rfl, ha, hts, wl, wok, fun H1 p us s1 np hp hus => ⟨p, rfl, ⟨_, SqL.of hp⟩, fun D hD => lc_list (K := K) (a := p) (xs := us.map V.ref) (fun j H2 => Same H1 H2 ∧ H2 D = some (.lst ((((ST.stl ws 31 0).take j).map fun w => min (w.getD 0 0) (w.getD 1 0)).map nv)))
      ⟨same_upd hD, upd_same⟩ (fun j H2 _ k => SqL.of (k.1 _ _ hp)) ?_ ?_⟩⟩
    · rintro j z H2 hj ⟨s2, hD2⟩
      obtain ⟨tj, htj, rfl⟩ := map_at hj
      obtain ⟨w0, hw0, hrow⟩ := hus.at htj
      obtain ⟨x, y, rfl⟩ := stl_row 31 0 w0 (List.mem_of_getElem? hw0)
      have hrow2 := s2 _ _ hrow
      refine ⟨rfl, yesT ?_⟩
      refine ⟨_, rfl, tj, _, _, _, rfl, rfl, SqT.of hrow2, rfl, _, rfl, tj, _, _, _, rfl, rfl, SqT.of hrow2, rfl, (x : Int), (y : Int), rfl, _, hD2, ?_, same_to s2 hD, ?_⟩
      · rw [List.length_map, List.length_map, List.length_take]
        exact small1000 (by omega)
      · rw [take_more hw0, List.map_append, List.map_append]
        refine upd_same.trans ?_
        have e : (if (y : Int) < (x : Int) then (y : Int) else (x : Int)) = ((min x y : Nat) : Int) := by
          by_cases c : y < x
          · rw [if_pos (by omega), Nat.min_eq_right (by omega)]
          · rw [if_neg (by omega), Nat.min_eq_left (by omega)]
        show some (HO.lst (_ ++ [V.int (if (y : Int) < (x : Int) then (y : Int) else (x : Int))])) = _
        rw [e]
        rfl
    · rintro H2 ⟨s2, hD2⟩
      rw [List.length_map, hus.len, List.take_length, nv_ints] at hD2
      refine ⟨D, _, rfl, SqL.of hD2, ?_⟩
      rw [sum_cast, ST.stl_sum]
      exact q _ (s1.trans s2)
end
section
variable {P : Program} {w : World} {K : PySem.W.Frag} {mg : Str → Option Value} {base : Heap} {f : Addr} {fd : FuncData}
def rowsOf (ws : List (List Nat)) (S : List Nat) : List (List Nat) := S.map fun x => ws.getD x []
/-- the rows tell the rule's ranks -/
structure Lnk (r : MT.Rl) (ws : List (List Nat)) : Prop where
  n : r.n = ws.length
  ok : ∀ w ∈ ws, RowOk w
  rank : ∀ S : List Nat, S.Nodup → (∀ x ∈ S, x < r.n) → MT.Rank r.F S (ST.lrank (rowsOf ws S) 31 0)
theorem row_mem {ws : List (List Nat)} {x : Nat} (h : x < ws.length) : ws[x]? = some (ws.getD x []) := by
  rw [List.getD_eq_getElem?_getD, List.getElem?_eq_getElem h]
  rfl
theorem Lnk.rows {r : MT.Rl} {ws : List (List Nat)} (l : Lnk r ws) {S : List Nat} (hS : ∀ x ∈ S, x < r.n) : ∀ w ∈ rowsOf ws S, RowOk w := fun w hw => by
  obtain ⟨x, hx, rfl⟩ := List.mem_map.mp hw
  exact l.ok _ (List.mem_of_getElem? (row_mem (by rw [← l.n]; exact hS x hx)))
theorem Lnk.free {r : MT.Rl} {ws : List (List Nat)} (l : Lnk r ws) {S : List Nat} (nd : S.Nodup) (hS : ∀ x ∈ S, x < r.n) : r.F S ↔ ST.lrank (rowsOf ws S) 31 0 = S.length := r.mat.free_iff nd (l.rank S nd hS)
theorem Lnk.le {r : MT.Rl} {ws : List (List Nat)} (l : Lnk r ws) {S : List Nat} (nd : S.Nodup) (hS : ∀ x ∈ S, x < r.n) : ST.lrank (rowsOf ws S) 31 0 ≤ S.length := (l.rank S nd hS).le
/-- one more thing, put to what is free: free just if the rank is greater -/
theorem Lnk.more {r : MT.Rl} {ws : List (List Nat)} (l : Lnk r ws) {S : List Nat} {x : Nat} (nd : (S ++ [x]).Nodup) (hS : ∀ y ∈ S ++ [x], y < r.n) : r.F (S ++ [x]) ↔ S.length < ST.lrank (rowsOf ws (S ++ [x])) 31 0 := by
  have a := l.le nd hS
  rw [l.free nd hS]
  rw [List.length_append] at a ⊢
  have : ([x] : List Nat).length = 1 := rfl
  omega
theorem row_at {H : Hp} {ts : List Addr} {ws : List (List Nat)} {x : Nat} (h : rws .tup H ts ws) (l : x < ws.length) : ∃ t, (ts.map V.ref)[x]? = some (V.ref t) ∧ H t = some (.tup ((ws.getD x []).map nv)) := by
  have tl : x < ts.length := by rw [h.len]; exact l
  obtain ⟨w, hw, hrow⟩ := h.at (List.getElem?_eq_getElem tl)
  refine ⟨ts[x], ?_, ?_⟩
  · rw [List.getElem?_map, List.getElem?_eq_getElem tl]
    rfl
  · rw [row_mem l] at hw
    rw [Option.some.inj hw]
    exact hrow
theorem IsRing.one {r : MT.Rl} {xs cs ds : List Nat} {x : Nat} (hs : xs.Nodup) (nx : x ∉ xs) (fr : r.F xs) (a : IsRing r xs x cs) (b : IsRing r xs x ds) : cs = ds := by
  rcases a.is with ⟨a1, a2⟩ | ⟨a1, a2⟩ <;> rcases b.is with ⟨b1, b2⟩ | ⟨b1, b2⟩
  · rw [a1, b1]
  · exact absurd a2 b1
  · exact absurd b2 a1
  · refine rising_eq ((List.perm_ext_iff_of_nodup a2.nd b2.nd).mpr fun y => ⟨MT.Ring.one r.mat hs nx fr a2 b2 a.sub b.sub y, MT.Ring.one r.mat hs nx fr b2 a2 b.sub a.sub y⟩) a.pw b.pw
def spLRing : Sp := fun vs H Q _ => ∃ (b a : Addr) (ts : List Addr) (ws : List (List Nat)) (r : MT.Rl) (xs : List Nat) (x : Nat), vs = [.ref b, .ref a, nv x] ∧ H b = some (.lst (ts.map V.ref)) ∧ rws .tup H ts ws ∧ Lnk r ws ∧ H a = some (.lst (xs.map nv)) ∧ xs.Nodup ∧ (∀ x ∈ xs, x < r.n) ∧ x < r.n ∧ x ∉ xs ∧ r.F xs ∧
  ∀ H' q (cs : List Nat), Same H H' → H q = none → IsRing r xs x cs → H' q = some (.lst (cs.map nv)) → Q (.ref q) H'
theorem ok_lring (B : Bl mg) (F : L2.Fun K "_law_ring" "_law_ring" s__law_ring f fd) (g : mg "_law_ring" = some (.ref f)) (c__law_rank : C8.Cal P w K mg base 2 "_law_rank" spLRank []) : C8.Cal P w K mg base 3 "_law_ring" spLRing [] := by
  refine ⟨f, fd, ["_law_rows_here", "_law_base", "_law_thing"], [], F.ok sc__law_ring (fun vs H Q E h => ?_) (fun cdv A outer s H vs Q E hr h => ?_), g, F.kp, F.binds (ps := ["_law_rows_here", "_law_base", "_law_thing"]) (fun _ _ _ _ _ _ us hl => match us, hl with | [_, _, _], _ => rfl), .nil⟩
  · obtain ⟨b, a, ts, ws, r, xs, x, rfl, _⟩ := h
    rfl
  · obtain ⟨b, a, ts, ws, r, xs, x, rfl, hb, hts, lk, ha, hnd, hx, xn, nx, fr, q⟩ := h
    refine ⟨_, (pss_cons (ps_if (pt_cmpR op_gt (C8.pe_c c__law_rank hr (by first | decide | exact Nat.le_refl _ | omega) rfl (pa_cons (pe_lc (own := [("_law_k", 6)]) rfl sc__law_ring.nd (pi_list (pe_op op_cat (pv 1) (pe_lst (pa_cons (pv 2) pa_nil)))) (blkOk_by (own := [("_law_k", 6)]) (N := n__law_ring) (sc := defScope s__law_ring) (by decide +kernel)) (fun _ _ _ _ _ => (pg_name (i := 6) sc__law_ring.nd rfl (Or.inl rfl))) (fun _ _ _ _ _ => pts_nil) (fun _ _ _ _ _ => (pe_ix (r := rIxL K) ix_list (pv 0) (pv 6) (fun _ _ => rfl)))) pa_nil)) (pe_callB (call_lenK (K := K) rfl) (by rfl) B.len_ (by decide +kernel) (pa_cons (pv 1) pa_nil)) (nomark _)) (pss_one (ps_ret (pe_lst pa_nil))) pss_nil)
      (pss_cons (ps_set (i := 3) sc__law_ring.nd rfl (Or.inl rfl) (pe_lst (pa_cons (pv 2) pa_nil)))
      (pss_cons (ps_for PassesOwn.never rfl (pi_list (pv 1)) (pg_name (i := 4) sc__law_ring.nd rfl (Or.inr rfl)) (pss_cons (ps_setLc (i := 5) (own := [("_law_k", 6)]) rfl sc__law_ring.nd rfl rfl (sw_true rfl rfl rfl (by decide +kernel)) (pi_list (pe_op op_cat (pv 1) (pe_lst (pa_cons (pv 2) pa_nil)))) (blkOk_by (own := [("_law_k", 6)]) (N := n__law_ring) (sc := defScope s__law_ring) (by decide +kernel)) (fun _ _ _ _ _ => (pg_name (i := 6) sc__law_ring.nd rfl (Or.inl rfl))) (fun _ _ _ _ _ => (pts_one (pt_cmpR op_ne (pv 6) (pv 4) (nomark _)))) (fun _ _ _ _ _ => (pe_ix (r := rIxL K) ix_list (pv 0) (pv 6) (fun _ _ => rfl))))
      (pss_one (ps_if (pt_cmpR op_eq (C8.pe_c c__law_rank hr (by first | decide | exact Nat.le_refl _ | omega) rfl (pa_cons (pv 5) pa_nil)) (pe_callB (call_lenK (K := K) rfl) (by rfl) B.len_ (by decide +kernel) (pa_cons (pv 1) pa_nil)) (nomark _)) (pss_one (ps_expr (pe_bm PySem.F.plainAttrs_list PySem.F.slot_list_append PySem.F.type_list_append mt_append (pv 3) (pa_cons (pv 4) pa_nil)))) pss_nil))))
      (pss_one (ps_ret (pe_callB cr_sorted (by rfl) B.sorted_ (by decide +kernel) (pa_cons (pv 3) pa_nil))))))), ?_⟩
    have r16 := r.n16
    have tn : (xs ++ [x]).Nodup := MT.nd_snoc hnd nx
    have tlt : ∀ z ∈ xs ++ [x], z < r.n := fun z hz => by
      rcases List.mem_append.mp hz with e | e
      · exact hx z e
      · rw [List.mem_singleton.mp e]; exact xn
    have tl := nodup_le tn tlt
    have xl := nodup_le hnd hx
    have wn := lk.n
    -- base + [thing]
    refine ⟨_, rfl, _, rfl, (by show 1 ≤ sizeLine; decide), fun u hu => ?_⟩
    have su : Same H (upd H u (.lst [nv x])) := same_upd hu
    refine ⟨a, u, _, _, rfl, rfl, su _ _ ha, upd_same, ?_, fun t ht => ?_⟩
    · rw [List.length_map]
      exact Nat.le_of_lt (small1000 (by show xs.length + 1 ≤ 1000; omega))
    have st := su.trans (same_upd (o := .lst (xs.map nv ++ [nv x])) ht)
    have hT : (upd (upd H u (.lst [nv x])) t (.lst (xs.map nv ++ [nv x]))) t = some (.lst ((xs ++ [x]).map nv)) := by
      rw [List.map_append]
      exact upd_same
    generalize upd (upd H u (.lst [nv x])) t (.lst (xs.map nv ++ [nv x])) = H1 at st hT
    have hb1 := st _ _ hb
    have hts1 := hts.same st
    refine ⟨t, rfl, ⟨_, SqL.of hT⟩, fun D hD => lc_list (K := K) (a := t) (xs := (xs ++ [x]).map nv) (fun j H2 => Same H1 H2 ∧ ∃ ds : List Addr, H2 D = some (.lst (ds.map V.ref)) ∧ rws .tup H2 ds (rowsOf ws ((xs ++ [x]).take j)))
      ⟨same_upd hD, [], upd_same, True.intro⟩ (fun j H2 _ p => SqL.of (p.1 _ _ hT)) ?_ ?_⟩
    · rintro j y H2 hj ⟨s2, ds, hD2, hds⟩
      obtain ⟨z, ez, rfl⟩ := map_at hj
      have zl := tlt z (List.mem_of_getElem? ez)
      obtain ⟨tz, i1, i2⟩ := row_at hts1 (by rw [← wn]; exact zl)
      refine ⟨rfl, yesT ?_⟩
      have jl : j < (xs ++ [x]).length := (List.getElem?_eq_some_iff.mp ez).1
      refine ⟨_, rfl, _, rfl, b, _, _, V.ref tz, rfl, rfl, SqL.of (s2 _ _ hb1), atI_nat i1, _, hD2, ?_, same_to s2 hD, ds ++ [tz], ?_, ?_⟩
      · have := hds.len
        unfold rowsOf at this
        rw [List.length_map, List.length_take] at this
        rw [List.length_map]
        exact small1000 (by omega)
      · rw [List.map_append]
        exact upd_same
      · have pu := rws.put (s2 _ _ i2) hds
        have e : rowsOf ws ((xs ++ [x]).take (j + 1)) = rowsOf ws ((xs ++ [x]).take j) ++ [ws.getD z []] := by
          unfold rowsOf
          rw [take_more ez, List.map_append]
          rfl
        rw [e]
        exact pu.upd (pu.not_mem hD2 (by intro xs z; cases z))
    rintro H2 ⟨s2, ds, hD2, hds⟩
    rw [List.length_map, List.take_length] at hds
    have s12 := st.trans s2
    refine ⟨D, ds, rowsOf ws (xs ++ [x]), rfl, hD2, hds, by unfold rowsOf; rw [List.length_map]; omega, lk.rows tlt, fun H3 s3 => ?_⟩
    have s13 := s12.trans s3
    refine ⟨_, rfl, a, _, rfl, .inl (SqL.of (s13 _ _ ha)), _, _, rfl, rfl, decide (xs.length < ST.lrank (rowsOf ws (xs ++ [x])) 31 0), ?_, ?_⟩
    · show V.bl (decide (((xs.map nv).length : Int) < ((ST.lrank (rowsOf ws (xs ++ [x])) 31 0 : Nat) : Int))) = _
      rw [List.length_map]
      congr 1
      rw [Bool.eq_iff_iff, decide_eq_true_iff, decide_eq_true_iff]
      omega
    by_cases c : r.F (xs ++ [x])
    · rw [decide_eq_true ((lk.more tn tlt).mp c)]
      refine iteT ⟨Nat.zero_le _, fun z nz => ?_⟩
      exact q _ z [] (s13.trans (same_upd nz)) (s13.free nz) ⟨.nil, fun _ h => (by cases h), .inl ⟨rfl, c⟩⟩ upd_same
    · rw [decide_eq_false fun z => c ((lk.more tn tlt).mpr z)]
      refine iteF ⟨_, rfl, (by show 1 ≤ sizeLine; decide), fun L hL => ?_⟩
      have hL0 : H L = none := s13.free hL
      have sL := s13.trans (same_upd (o := .lst [nv x]) hL)
      refine ⟨_, rfl, a, rfl, ⟨_, SqL.of (sL _ _ ha)⟩, for_list (K := K) (a := a) (xs := xs.map nv) (fun i σ H' => ∃ v4 v5 v6 : Option V, σ = [some (.ref b), some (.ref a), some (nv x), some (.ref L), v4, v5, v6] ∧ Same H H' ∧ H' L = some (.lst (([x] ++ (xs.take i).filter fun y => r.f ((xs ++ [x]).erase y)).map nv)))
        ⟨none, none, none, rfl, sL, upd_same⟩ (fun i σ H' _ ⟨_, _, _, _, s5, _⟩ => SqL.of (s5 _ _ ha)) ?_ ?_⟩
      · rintro i y σ H' hi ⟨v4, v5, v6, rfl, s5, hA⟩
        obtain ⟨old, eo, rfl⟩ := map_at hi
        have om : old ∈ xs := List.mem_of_getElem? eo
        have il : i < xs.length := (List.getElem?_eq_some_iff.mp eo).1
        -- rest
        refine ⟨_, rfl, _, rfl, (by show 1 ≤ sizeLine; decide), fun u hu => ?_⟩
        have su : Same H' (upd H' u (.lst [nv x])) := same_upd hu
        refine ⟨a, u, _, _, rfl, rfl, su _ _ (s5 _ _ ha), upd_same, ?_, fun t ht => ?_⟩
        · rw [List.length_map]
          exact Nat.le_of_lt (small1000 (by show xs.length + 1 ≤ 1000; omega))
        have st := su.trans (same_upd (o := .lst (xs.map nv ++ [nv x])) ht)
        have hT : (upd (upd H' u (.lst [nv x])) t (.lst (xs.map nv ++ [nv x]))) t = some (.lst ((xs ++ [x]).map nv)) := by
          rw [List.map_append]
          exact upd_same
        generalize upd (upd H' u (.lst [nv x])) t (.lst (xs.map nv ++ [nv x])) = H4 at st hT
        have h54 := s5.trans st
        have hb4 := h54 _ _ hb
        have hts4 := hts.same h54
        refine ⟨t, rfl, ⟨_, SqL.of hT⟩, fun D hD => lc_list (K := K) (a := t) (xs := (xs ++ [x]).map nv) (fun j H5 => Same H4 H5 ∧ ∃ ds : List Addr, H5 D = some (.lst (ds.map V.ref)) ∧ rws .tup H5 ds (rowsOf ws (((xs ++ [x]).take j).filter fun y => !decide (y = old))))
          ⟨same_upd hD, [], upd_same, True.intro⟩ (fun j H5 _ p => SqL.of (p.1 _ _ hT)) ?_ ?_⟩
        · rintro j y H5 hj ⟨s6, ds, hD5, hds⟩
          obtain ⟨z, ez, rfl⟩ := map_at hj
          have zl := tlt z (List.mem_of_getElem? ez)
          have jl : j < (xs ++ [x]).length := (List.getElem?_eq_some_iff.mp ez).1
          obtain ⟨tz, i1, i2⟩ := row_at hts4 (by rw [← wn]; exact zl)
          refine ⟨rfl, ?_⟩
          refine ⟨_, rfl, _, rfl, rfl, !decide (z = old), ?_, ?_⟩
          · show V.bl (!decide (nv z = nv old)) = _
            congr 2
            exact V.bl.inj (eq_nv z old)
          by_cases e : z = old
          · rw [decide_eq_true e]
            refine iteF ⟨s6, ds, hD5, ?_⟩
            rw [take_more ez, List.filter_append, List.filter_cons_of_neg (by simp [e]), List.filter_nil, List.append_nil]
            exact hds
          · rw [decide_eq_false e]
            refine iteT ⟨_, rfl, _, rfl, b, _, _, V.ref tz, rfl, rfl, SqL.of (s6 _ _ hb4), atI_nat i1, _, hD5, ?_, same_to s6 hD, ds ++ [tz], ?_, ?_⟩
            · have := hds.len
              unfold rowsOf at this
              rw [List.length_map] at this
              have l2 := List.length_filter_le (fun y => !decide (y = old)) ((xs ++ [x]).take j)
              rw [List.length_take] at l2
              rw [List.length_map]
              exact small1000 (by omega)
            · rw [List.map_append]
              exact upd_same
            · have pu := rws.put (s6 _ _ i2) hds
              have e2 : rowsOf ws (((xs ++ [x]).take (j + 1)).filter fun y => !decide (y = old)) = rowsOf ws (((xs ++ [x]).take j).filter fun y => !decide (y = old)) ++ [ws.getD z []] := by
                unfold rowsOf
                rw [take_more ez, List.filter_append, List.filter_cons_of_pos (by simp [e]), List.filter_nil, List.map_append]
                rfl
              rw [e2]
              exact pu.upd (pu.not_mem hD5 (by intro xs z; cases z))
        · rintro H5 ⟨s6, ds, hD5, hds⟩
          rw [List.length_map, List.take_length, filter_erase tn] at hds
          have ern : ((xs ++ [x]).erase old).Nodup := MT.nd_erase tn old
          have erl : ∀ z ∈ (xs ++ [x]).erase old, z < r.n := fun z hz => tlt z (List.mem_of_mem_erase hz)
          have elen : ((xs ++ [x]).erase old).length = xs.length := by
            rw [List.length_erase_of_mem (List.mem_append_left _ om), List.length_append]
            rfl
          have h55 := h54.trans s6
          have hA5 := (st.trans s6) _ _ hA
          refine ⟨_, rfl, D, ds, _, rfl, hD5, hds, by unfold rowsOf; rw [List.length_map, elen]; omega, lk.rows erl, fun H6 s7 => ?_⟩
          have h56 := h55.trans s7
          refine ⟨_, rfl, a, _, rfl, .inl (SqL.of (h56 _ _ ha)), rfl, decide (ST.lrank (rowsOf ws ((xs ++ [x]).erase old)) 31 0 = xs.length), ?_, ?_⟩
          · rw [List.length_map]
            exact eq_nv _ _
          have step : ([x] ++ (xs.take (i + 1)).filter fun y => r.f ((xs ++ [x]).erase y)) = ([x] ++ (xs.take i).filter fun y => r.f ((xs ++ [x]).erase y)) ++ (if r.f ((xs ++ [x]).erase old) = true then [old] else []) := by
            rw [take_more eo, List.filter_append, List.append_assoc]
            congr 2
            by_cases e : r.f ((xs ++ [x]).erase old) = true
            · rw [if_pos e, List.filter_cons_of_pos (p := fun y => r.f ((xs ++ [x]).erase y)) e]
              rfl
            · rw [if_neg e, List.filter_cons_of_neg (p := fun y => r.f ((xs ++ [x]).erase y)) e]
              rfl
          have iff := lk.free ern erl
          rw [elen] at iff
          by_cases e : r.F ((xs ++ [x]).erase old)
          · rw [decide_eq_true (iff.mp e)]
            refine iteT ⟨_, rfl, .inl ⟨rfl, _, SqL.of (s7 _ _ hA5)⟩, _, rfl, L, _, _, rfl, rfl, s7 _ _ hA5, ?_, ?_⟩
            · rw [List.length_map, List.length_append]
              have l2 := List.length_filter_le (fun y => r.f ((xs ++ [x]).erase y)) (xs.take i)
              rw [List.length_take] at l2
              exact small1000 (by show 1 + _ ≤ 1000; omega)
            · refine ⟨_, _, _, rfl, same_to h56 hL0, ?_⟩
              rw [step, if_pos (MT.Rl.f_iff.mpr e), List.map_append (l₂ := [old])]
              exact upd_same
          · rw [decide_eq_false fun z => e (iff.mpr z)]
            refine iteF ⟨_, _, _, rfl, h56, ?_⟩
            rw [step, if_neg (fun z => e (MT.Rl.f_iff.mp z)), List.append_nil]
            exact s7 _ _ hA5
      · rintro σ H' ⟨v4, v5, v6, rfl, s5, hA⟩
        rw [List.length_map, List.take_length] at hA
        generalize eC : ([x] ++ xs.filter fun y => r.f ((xs ++ [x]).erase y)) = cs at hA
        have ex : (xs ++ [x]).erase x = xs := by
          rw [List.erase_append_right _ nx, List.erase_cons_head, List.append_nil]
        have cnd : cs.Nodup := by
          rw [← eC]
          exact MT.nd_cons (List.filter_sublist.nodup hnd) fun z => nx (List.mem_filter.mp z).1
        have cm : ∀ y, y ∈ cs ↔ y ∈ xs ++ [x] ∧ r.F ((xs ++ [x]).erase y) := fun y => by
          rw [← eC]
          show y ∈ x :: (xs.filter fun y => r.f ((xs ++ [x]).erase y)) ↔ _
          rw [List.mem_cons, List.mem_filter, MT.Rl.f_iff, List.mem_append, List.mem_singleton]
          constructor
          · rintro (e | e)
            · exact ⟨.inr e, by rw [e, ex]; exact fr⟩
            · exact ⟨.inl e.1, e.2⟩
          · rintro ⟨e | e, h⟩
            · exact .inr ⟨e, h⟩
            · exact .inl e
        have rg := MT.ring_is r.mat hnd nx fr c cnd cm
        have cl := nodup_le cnd fun z hz => tlt z ((cm z).mp hz).1
        have hA' := hA
        rw [nv_ints] at hA'
        refine ⟨_, rfl, L, _, rfl, SqL.of hA', by rw [List.length_map]; omega, fun ns z pz pw nz => ?_⟩
        obtain ⟨ys, ey, py, pwy⟩ := sorted_nats pz pw cnd
        rw [ey]
        refine q _ z ys (s5.trans (same_upd nz)) (s5.free nz) ⟨pwy, fun y hy => ?_, .inr ⟨c, rg.perm r.mat py.symm⟩⟩ upd_same
        rcases List.mem_append.mp ((cm y).mp (py.mem_iff.mp hy)).1 with e | e
        · exact .inr e
        · exact .inl (List.mem_singleton.mp e)
end
/-! ### the rules of this law: posts and ties -/
theorem wAt_lt {ws : List (List Nat)} (h : ∀ w ∈ ws, Po.PostsOk w) (x : Nat) : ∀ p ∈ Po.wAt ws x, p < 31 := fun p hp => by
  by_cases l : x < ws.length
  · exact (h _ (List.mem_of_getElem? (Po.wAt_of l))).1 p hp
  · have : Po.wAt ws x = [] := by
      unfold Po.wAt
      rw [List.getD_eq_getElem?_getD, List.getElem?_eq_none (by omega)]
      rfl
    rw [this] at hp
    cases hp
structure PoOk (ws : List (List Nat)) : Prop where
  ok : ∀ w ∈ ws, Po.PostsOk w
  n16 : ws.length ≤ 16
structure ThOk (N : Nat) (es : List (Nat × Nat)) : Prop where
  lo : 1 ≤ N
  hi : N ≤ 20
  bnd : Th.Bnd N es
  n16 : es.length ≤ 16
def rlPo (ws : List (List Nat)) (h : PoOk ws) : MT.Rl := ⟨ws.length, fun xs => (∀ x ∈ xs, x < ws.length) ∧ PM.Free (Po.wAt ws) xs, (MT.mat_posts (m := 31) (by decide) (wAt_lt h.ok)).low _, fun xs k => k.1, h.n16⟩
def rlTh (N : Nat) (es : List (Nat × Nat)) (h : ThOk N es) : MT.Rl := ⟨es.length, fun xs => (∀ x ∈ xs, x < es.length) ∧ TM.Ind (xs.map (Th.edAt es)), ((MT.clo_ties.mat (Th.edAt es)).congr fun xs _ => MT.ind_ties _).low _, fun xs k => k.1, h.n16⟩
def A21 (Cp Ct : Addr) : RK where
  S := fun C => C = Cp ∨ C = Ct
  At := fun _ H p r => (∃ ws h, Po.PostsAt Cp H p ws ∧ r = rlPo ws h) ∨ ∃ N es h, Th.ThAt Ct H p N es ∧ r = rlTh N es h
  same := fun s k => by
    rcases k with ⟨ws, h, a, e⟩ | ⟨N, es, h, a, e⟩
    · exact .inl ⟨ws, h, a.same s, e⟩
    · exact .inr ⟨N, es, h, a.same s, e⟩
  cls := fun k => by
    rcases k with ⟨ws, h, ⟨dx, t, hp, _⟩, e⟩ | ⟨N, es, h, ⟨dx, t, ts, hp, _⟩, e⟩
    · exact ⟨Cp, dx, _, .inl rfl, hp, rfl, rfl⟩
    · exact ⟨Ct, dx, _, .inr rfl, hp, Th.tf_free _ _, Th.tf_many _ _⟩
section
variable {P : Program} {w : World} {K : PySem.W.Frag} {mg : Str → Option Value} {base : Heap} {Cp Ct : Addr}
theorem ties_iff {N : Nat} {es : List (Nat × Nat)} {xs : List Nat} (hb : Th.Bnd N es) (hx : ∀ x ∈ xs, x < es.length) : TM.freeF id (xs.map (Th.edAt es)) = true ↔ TM.Ind (xs.map (Th.edAt es)) := by
  rw [TM.freeF_ind (P := N) _ fun e he => ?_, ← MT.ind_ties, ← MT.ind_ties]
  · exact MT.Ind.perm MT.clo_ties (List.reverse_perm _)
  · obtain ⟨x, hx', rfl⟩ := List.mem_map.mp he
    exact hb _ (List.mem_of_getElem? (Th.edAt_of (hx x hx')))
theorem at_po {H : Hp} {p : Addr} {r : MT.Rl} {dx : Addr} {fs : List (Str × V)} (ne : Cp ≠ Ct) (k : (A21 Cp Ct).At 0 H p r) (h : H p = some (.ins Cp dx fs)) : ∃ ws ok, Po.PostsAt Cp H p ws ∧ r = rlPo ws ok := by
  rcases k with k | ⟨N, es, ok, ⟨dx', t, ts, hp, _⟩, e⟩
  · exact k
  · rw [h] at hp
    injection hp with hp
    injection hp with e1 e2 e3
    exact absurd e1 ne
theorem at_th {H : Hp} {p : Addr} {r : MT.Rl} {dx : Addr} {fs : List (Str × V)} (ne : Cp ≠ Ct) (k : (A21 Cp Ct).At 0 H p r) (h : H p = some (.ins Ct dx fs)) : ∃ N es ok, Th.ThAt Ct H p N es ∧ r = rlTh N es ok := by
  rcases k with ⟨ws, ok, ⟨dx', t, hp, _⟩, e⟩ | k
  · rw [h] at hp
    injection hp with hp
    injection hp with e1 e2 e3
    exact absurd e1.symm ne
  · exact k
theorem met_free (ne : Cp ≠ Ct) (h1 : C8.Met P w K mg base 34 Cp "free" (Po.spFree Cp) []) (h2 : C8.Met P w K mg base 5 Ct "free" (Th.spFree Ct) []) : MetG P w K mg base 34 (A21 Cp Ct).S "free" (spFreeG (A21 Cp Ct) 0) := by
  rintro C (rfl | rfl)
  · refine met_up h1 (Nat.le_refl _) fun vs H Q E s => ?_
    obtain ⟨⟨p, dx, fs, rest, ev, hp⟩, p', a, r, xs, ev', hat, ha, nd, hx, q⟩ := s
    rw [ev'] at ev
    injection ev with e1 _
    injection e1 with e1
    subst e1
    obtain ⟨ws, ok, at1, rfl⟩ := at_po ne hat hp
    have l := nodup_le nd hx
    have n16 := ok.n16
    have hx' : ∀ x ∈ xs, x < ws.length := hx
    have l' : xs.length ≤ ws.length := l
    exact ⟨p', a, ws, xs, ev', at1, ha, ok.ok, hx', nd, by omega, fun H' b s hb => q H' b s (hb.trans ⟨fun k => ⟨hx', k⟩, fun k => k.2⟩)⟩
  · refine met_up h2 (by decide) fun vs H Q E s => ?_
    obtain ⟨⟨p, dx, fs, rest, ev, hp⟩, p', a, r, xs, ev', hat, ha, nd, hx, q⟩ := s
    rw [ev'] at ev
    injection ev with e1 _
    injection e1 with e1
    subst e1
    obtain ⟨N, es, ok, at1, rfl⟩ := at_th ne hat hp
    have l := nodup_le nd hx
    have n16 := ok.n16
    have hx' : ∀ x ∈ xs, x < es.length := hx
    have l' : xs.length ≤ es.length := l
    exact ⟨p', a, N, es, xs, ev', at1, ha, ok.hi, ok.bnd, hx', nd, by omega, fun H' s => q H' _ s ((ties_iff ok.bnd hx').trans ⟨fun k => ⟨hx', k⟩, fun k => k.2⟩)⟩
theorem met_many (ne : Cp ≠ Ct) (h1 : C8.Met P w K mg base 1 Cp "many" (Po.spMany Cp) []) (h2 : C8.Met P w K mg base 1 Ct "many" (Th.spMany Ct) []) : MetG P w K mg base 34 (A21 Cp Ct).S "many" (spManyG (A21 Cp Ct) 0) := by
  rintro C (rfl | rfl)
  · refine met_up h1 (by decide) fun vs H Q E s => ?_
    obtain ⟨⟨p, dx, fs, rest, ev, hp⟩, p', r, ev', hat, q⟩ := s
    rw [ev'] at ev
    injection ev with e1 _
    injection e1 with e1
    subst e1
    obtain ⟨ws, ok, at1, rfl⟩ := at_po ne hat hp
    exact ⟨p', ws, ev', at1, q H fun _ _ z => z⟩
  · refine met_up h2 (by decide) fun vs H Q E s => ?_
    obtain ⟨⟨p, dx, fs, rest, ev, hp⟩, p', r, ev', hat, q⟩ := s
    rw [ev'] at ev
    injection ev with e1 _
    injection e1 with e1
    subst e1
    obtain ⟨N, es, ok, at1, rfl⟩ := at_th ne hat hp
    exact ⟨p', N, es, ev', at1, q H fun _ _ z => z⟩
end
/-! ### the rows tell the ranks of the posts' rule -/
theorem wants_link {s t : Nat} {ws vs : List (List Nat)} (wok : ∀ w ∈ ws, RowOk w) (hs : s < 31) (h0 : s ≠ 0) (W : WantsOk s t ws vs) (ok : PoOk vs) : Lnk (rlPo vs ok) ws := by
  refine ⟨W.len, wok, fun S nd hS => ?_⟩
  have hS : ∀ x ∈ S, x < vs.length := hS
  have row : ∀ x ∈ S, ∃ a m, ws.getD x [] = [a, m] ∧ 1 ≤ m ∧ m ≤ 2 ∧ a + m ≤ 31 := fun x hx => (wok _ (List.mem_of_getElem? (row_mem (by rw [← W.len]; exact hS x hx)))).ex
  let st : Nat → Nat := fun x => (ws.getD x []).getD 0 0
  let mn : Nat → Nat := fun x => (ws.getD x []).getD 1 0
  have hm : ∀ x ∈ S, 1 ≤ mn x ∧ mn x ≤ 2 ∧ st x + mn x ≤ 31 := fun x hx => by
    obtain ⟨a, m, e, l1, l2, l3⟩ := row x hx
    have e1 : st x = a := by show (ws.getD x []).getD 0 0 = a; rw [e]; rfl
    have e2 : mn x = m := by show (ws.getD x []).getD 1 0 = m; rw [e]; rfl
    rw [e1, e2]
    exact ⟨l1, l2, l3⟩
  have er : rowsOf ws S = S.map fun x => [st x, mn x] := List.map_congr_left fun x hx => by
    obtain ⟨a, m, e, _⟩ := row x hx
    show ws.getD x [] = [(ws.getD x []).getD 0 0, (ws.getD x []).getD 1 0]
    rw [e]
    rfl
  have R := ST.rank_is (st := st) (mn := mn) nd hm
  rw [← er] at R
  have iff : ∀ xs : List Nat, (∀ x ∈ xs, x ∈ S) → ((rlPo vs ok).F xs ↔ ST.SF st mn xs) := fun xs hx => by
    have key := ST.posts_iff (W := Po.wAt vs) (st := st) (mn := mn) (s := s) (t := t) hs h0 (xs := xs) (fun x h => (hm x (hx x h)).2.2) fun x h p => by
      have xl := hS x (hx x h)
      have := W.is x (ws.getD x []) (Po.wAt vs x) (row_mem (by rw [← W.len]; exact xl)) (Po.wAt_of xl) p
      exact this
    rw [← key]
    exact ⟨fun k => k.2, fun k => ⟨fun x h => hS x (hx x h), k⟩⟩
  obtain ⟨a, a1, a2, a3, a4⟩ := R.has
  exact ⟨⟨a, a1, a2, (iff a a2).mpr a3, a4⟩, fun b b1 b2 b3 => R.most b b1 b2 ((iff b b2).mp b3)⟩
section
variable {P : Program} {w : World} {K : PySem.W.Frag} {mg : Str → Option Value} {base : Heap} {f C : Addr} {fd : FuncData}
theorem pg_lstK {X : Cx} {K : PySem.W.Frag} {es : List Expr} {k : Nat} {t : TGs} {n : Nat} {pos : Pos} (eK : X.K = K) (hc : X.calm = true) (h : PGs X es t)
    (hn : (assignEach es X.env).length = n := by rfl) (hst : (assignEach es X.env).findIdx? (·.1) = none := by rfl) : PG X (.Tuple es k pos) (gLst K n t) := by
  subst eK
  exact pg_lst hc h hn hst
theorem made_same {H : Hp} {x dx : Addr} (nx : H x = none) (ndx : H dx = none) : Same H (upd (upd H dx (.own x)) x (.ins C dx [])) := fun b o e => by
  rw [upd_ne (ne_of_none e nx), upd_ne (ne_of_none e ndx)]
  exact e
structure Abc (a b c : Nat) : Prop where
  la : a < 31
  lb : b < 31
  lc : c < 31
  ab : a ≠ b
  ac : a ≠ c
  bc : b ≠ c
theorem Abc.three {a b c : Nat} (h : Abc a b c) : Po.PostsOk [a, b, c] := ⟨fun n hn => by
  have := h.la; have := h.lb; have := h.lc
  rcases List.mem_cons.mp hn with e | e
  · omega
  rcases List.mem_cons.mp e with e | e
  · omega
  · rw [List.mem_singleton.mp e]; omega, by
  have := h.ab; have := h.ac; have := h.bc
  simp_all⟩
theorem one_ok {a : Nat} (h : a < 31) : Po.PostsOk [a] := ⟨fun n hn => by rw [List.mem_singleton.mp hn]; exact h, by simp⟩
theorem abc_1 {a b c : Nat} : ¬ PM.Free (Po.wAt [[a, b, c], [a], [a]]) [0, 1, 2] := by
  rintro ⟨g, g1, g2⟩
  have h1 : g 1 ∈ [a] := g1 1 (by decide)
  have h2 : g 2 ∈ [a] := g1 2 (by decide)
  have := g2 1 (by decide) 2 (by decide) (by rw [List.mem_singleton.mp h1, List.mem_singleton.mp h2])
  omega
theorem abc_2 {a b c : Nat} (h : Abc a b c) : PM.Free (Po.wAt [[a, b, c], [a], [b]]) [0, 1, 2] := by
  refine ⟨fun x => if x = 0 then c else if x = 1 then a else b, fun x hx => ?_, fun x hx y hy e => ?_⟩
  · rcases List.mem_cons.mp hx with e | hx
    · subst e
      show c ∈ [a, b, c]
      simp
    rcases List.mem_cons.mp hx with e | hx
    · subst e
      show a ∈ [a]
      simp
    · rw [List.mem_singleton.mp hx]
      show b ∈ [b]
      simp
  · have := h.ab; have := h.ac; have := h.bc
    simp only [List.mem_cons, List.not_mem_nil, or_false] at hx hy
    rcases hx with rfl | rfl | rfl <;> rcases hy with rfl | rfl | rfl <;> simp at e <;> first | rfl | omega
theorem abc_3 {a b c : Nat} : ¬ PM.Free (Po.wAt [[a, b, c], [a], [b], [c]]) [0, 1, 2, 3] := by
  rintro ⟨g, g1, g2⟩
  have h0 : g 0 ∈ [a, b, c] := g1 0 (by decide)
  have h1 : g 1 ∈ [a] := g1 1 (by decide)
  have h2 : g 2 ∈ [b] := g1 2 (by decide)
  have h3 : g 3 ∈ [c] := g1 3 (by decide)
  have h1 := List.mem_singleton.mp h1
  have h2 := List.mem_singleton.mp h2
  have h3 := List.mem_singleton.mp h3
  rcases List.mem_cons.mp h0 with e | e
  · have := g2 0 (by decide) 1 (by decide) (by rw [e, h1]); omega
  rcases List.mem_cons.mp e with e | e
  · have := g2 0 (by decide) 2 (by decide) (by rw [e, h2]); omega
  · have := g2 0 (by decide) 3 (by decide) (by rw [List.mem_singleton.mp e, h3]); omega
def spThree (K : PySem.W.Frag) : Sp := fun vs H Q _ => ∃ (a : Addr) (ns : List Int), vs = [.ref a] ∧ SqL K H a (ns.map V.int) ∧ ∀ H', Same H H' → Q (.bl true) H'
theorem ok_three (B : Bl mg) (F : L2.Fun K "_law_three" "_law_three" s__law_three f fd) (g : mg "_law_three" = some (.ref f)) (c__law_cell_at : C8.Cal P w K mg base 1 "_law_cell_at" (spCellR K) []) (k_Posts : C8.Mak P w K mg base 5 "Posts" C (Po.spInit C) []) (m_free : C8.Met P w K mg base 34 C "free" (Po.spFree C) []) :
    C8.Cal P w K mg base 35 "_law_three" (spThree K) [] := by
  refine ⟨f, fd, ["_law_script"], [], F.ok sc__law_three (fun vs H Q E h => ?_) (fun cdv A outer s H vs Q E hr h => ?_), g, F.kp, F.binds (ps := ["_law_script"]) (fun _ _ _ _ _ _ us hl => match us, hl with | [_], _ => rfl), .nil⟩
  · obtain ⟨a, ns, rfl, _⟩ := h
    rfl
  · obtain ⟨a0, ns, rfl, hS, q⟩ := h
    refine ⟨_, (C8.pss_cut (ps_asg (pe_lc (own := [("_law_k", 4)]) rfl sc__law_three.nd (pi_range1 rfl B.range_ (pa_cons pe_int pa_nil)) (blkOk_by (own := [("_law_k", 4)]) (N := n__law_three) (sc := defScope s__law_three) (by decide +kernel)) (fun _ _ _ _ _ => (pg_name (i := 4) sc__law_three.nd rfl (Or.inl rfl))) (fun _ _ _ _ _ => pts_nil) (fun _ _ _ _ _ => (pe_op op_mod (pe_op op_add (pe_op op_fdiv (C8.pe_c c__law_cell_at hr (by first | decide | exact Nat.le_refl _ | omega) rfl (pa_cons (pv 0) (pa_cons pe_int pa_nil))) pe_int) (pe_op op_mul (pv 4) (pe_op op_add pe_int (pe_op op_mod (C8.pe_c c__law_cell_at hr (by first | decide | exact Nat.le_refl _ | omega) rfl (pa_cons (pv 0) (pa_cons pe_int pa_nil))) pe_int)))) pe_int))) (pg_lstK (K := K) (n := 3) rfl (by rfl) (pgs_cons (pg_name (i := 1) sc__law_three.nd rfl (Or.inl rfl)) (pgs_cons (pg_name (i := 2) sc__law_three.nd rfl (Or.inl rfl)) (pgs_cons (pg_name (i := 3) sc__law_three.nd rfl (Or.inl rfl)) pgs_nil)))))
      (pss_cons (ps_if (pt_cmpR op_notBl (C8.pe_mt (pl := _) m_free hr (by decide) (C8.pe_mk k_Posts hr (by decide) rfl (pa_cons (pe_lst (pa_cons (pe_lst (pa_cons (pv 1) (pa_cons (pv 2) (pa_cons (pv 3) pa_nil)))) (pa_cons (pe_lst (pa_cons (pv 1) pa_nil)) (pa_cons (pe_lst (pa_cons (pv 1) pa_nil)) pa_nil)))) pa_nil)) (pa_cons (pe_lst (pa_cons pe_int (pa_cons pe_int (pa_cons pe_int pa_nil)))) pa_nil)) pe_bl (nomark _)) (pss_one (ps_ret pe_bl)) pss_nil)
      (pss_cons (ps_if (pt_cmpR op_notBl (C8.pe_mt (pl := _) m_free hr (by decide) (C8.pe_mk k_Posts hr (by decide) rfl (pa_cons (pe_lst (pa_cons (pe_lst (pa_cons (pv 1) (pa_cons (pv 2) (pa_cons (pv 3) pa_nil)))) (pa_cons (pe_lst (pa_cons (pv 1) pa_nil)) (pa_cons (pe_lst (pa_cons (pv 2) pa_nil)) pa_nil)))) pa_nil)) (pa_cons (pe_lst (pa_cons pe_int (pa_cons pe_int (pa_cons pe_int pa_nil)))) pa_nil)) pe_bl (nomark _)) (pss_one (ps_ret pe_bl)) pss_nil)
      (pss_one (ps_ret (pe_cmpR op_isBl (C8.pe_mt (pl := _) m_free hr (by decide) (C8.pe_mk k_Posts hr (by decide) rfl (pa_cons (pe_lst (pa_cons (pe_lst (pa_cons (pv 1) (pa_cons (pv 2) (pa_cons (pv 3) pa_nil)))) (pa_cons (pe_lst (pa_cons (pv 1) pa_nil)) (pa_cons (pe_lst (pa_cons (pv 2) pa_nil)) (pa_cons (pe_lst (pa_cons (pv 3) pa_nil)) pa_nil))))) pa_nil)) (pa_cons (pe_lst (pa_cons pe_int (pa_cons pe_int (pa_cons pe_int (pa_cons pe_int pa_nil))))) pa_nil)) pe_bl (nomark _))))))), ?_⟩
    obtain ⟨s, es, ls⟩ := mod_nat (c := cellR ns 2) (N := 30) (by decide)
    have val : ∀ k : Nat, ∃ v : Nat, v < 31 ∧ (cellR ns 2 / 30 + (0 + (k : Int)) * (1 + cellR ns 2 % 30)) % 31 = (v : Int) := fun k => by
      obtain ⟨v, ev, lv⟩ := mod_nat (c := cellR ns 2 / 30 + (0 + (k : Int)) * (1 + cellR ns 2 % 30)) (N := 31) (by decide)
      exact ⟨v, by omega, ev⟩
    obtain ⟨a, la, ea⟩ := val 0
    obtain ⟨b, lb, eb⟩ := val 1
    obtain ⟨c, lc, ec⟩ := val 2
    have abc : Abc a b c := by
      rw [es] at ea eb ec
      generalize cellR ns 2 / 30 = qq at ea eb ec
      refine ⟨la, lb, lc, ?_, ?_, ?_⟩ <;> intro e <;> subst e <;> omega
    let vals : List Nat := [a, b, c]
    refine ⟨fun σ' H' => σ' = [some (.ref a0), some (nv a), some (nv b), some (nv c), none] ∧ Same H H', ?_, ?_⟩
    · refine ⟨3, rfl, by decide, by decide, fun D hD => lc_range (lo := 0) (n := (3 : Int).toNat) (fun j H2 => Same H H2 ∧ H2 D = some (.lst (([a, b, c].take j).map nv))) ⟨same_upd hD, upd_same⟩ ?_ ?_⟩
      · rintro j H2 hj ⟨s2, hD2⟩
        have hj : j < 3 := hj
        refine ⟨rfl, yesT ?_⟩
        refine ⟨_, rfl, a0, ns, 2, rfl, s2.seq hS, by decide, fun H3 s3 => ⟨_, _, rfl, rfl, ⟨by decide, by decide⟩, _, rfl, _, rfl, a0, ns, 2, rfl, (s2.trans s3).seq hS, by decide, fun H4 s4 => ⟨_, _, rfl, rfl, (by show (0 : Int) < 30; decide), _, _, rfl, rfl, _, _, rfl, rfl, .inl ⟨by omega, by omega⟩, _, _, rfl, rfl, _, _, rfl, rfl, (by show (0 : Int) < 31; decide), ?_⟩⟩⟩
        have s24 := s3.trans s4
        refine ⟨_, s24 _ _ hD2, ?_, same_to (s2.trans s24) hD, ?_⟩
        · rw [List.length_map, List.length_take]
          exact small1000 (by omega)
        · refine upd_same.trans ?_
          show some (HO.lst (_ ++ [V.int ((cellR ns 2 / 30 + (0 + (j : Int)) * (1 + cellR ns 2 % 30)) % 31)])) = _
          match j, hj with
          | 0, _ => rw [ea]; rfl
          | 1, _ => rw [eb]; rfl
          | 2, _ => rw [ec]; rfl
      · rintro H2 ⟨s2, hD2⟩
        exact ⟨_, _, rfl, SqL.of hD2, rfl, _, _, rfl, _, _, rfl, _, _, rfl, rfl, rfl, s2⟩
    rintro _ H1 ⟨rfl, s1⟩
    -- Posts([[a, b, c], [a], [a]]).free([0, 1, 2])
    refine ⟨_, rfl, _, rfl, _, rfl, (by show 3 ≤ sizeLine; decide), fun l1 h1 => ?_⟩
    have t1 : Same H1 (upd H1 l1 (.lst [nv a, nv b, nv c])) := same_upd h1
    have r1 : (upd H1 l1 (HO.lst [nv a, nv b, nv c])) l1 = some (.lst ([a, b, c].map nv)) := upd_same
    generalize upd H1 l1 (HO.lst [nv a, nv b, nv c]) = G1 at t1 r1
    refine ⟨_, rfl, (by show 1 ≤ sizeLine; decide), fun l2 h2 => ?_⟩
    have t2 : Same G1 (upd G1 l2 (.lst [nv a])) := same_upd h2
    have r2 : (upd G1 l2 (HO.lst [nv a])) l2 = some (.lst ([a].map nv)) := upd_same
    generalize upd G1 l2 (HO.lst [nv a]) = G2 at t2 r2
    refine ⟨_, rfl, (by show 1 ≤ sizeLine; decide), fun l3 h3 => ?_⟩
    have t3 : Same G2 (upd G2 l3 (.lst [nv a])) := same_upd h3
    have r3 : (upd G2 l3 (HO.lst [nv a])) l3 = some (.lst ([a].map nv)) := upd_same
    generalize upd G2 l3 (HO.lst [nv a]) = G3 at t3 r3
    refine ⟨(by show 3 ≤ sizeLine; decide), fun l4 h4 => ?_⟩
    have t4 : Same G3 (upd G3 l4 (.lst [.ref l1, .ref l2, .ref l3])) := same_upd h4
    have r4 : (upd G3 l4 (HO.lst [.ref l1, .ref l2, .ref l3])) l4 = some (.lst ([l1, l2, l3].map V.ref)) := upd_same
    generalize upd G3 l4 (HO.lst [V.ref l1, .ref l2, .ref l3]) = G4 at t4 r4
    intro x dx nx ndx ne
    have sm := made_same (C := C) nx ndx
    refine ⟨x, dx, l4, [l1, l2, l3], [[a, b, c], [a], [a]], rfl, upd_same, sm _ _ r4, ⟨sm _ _ (t4 _ _ (t3 _ _ (t2 _ _ r1))), sm _ _ (t4 _ _ (t3 _ _ r2)), sm _ _ (t4 _ _ r3), True.intro⟩, (by show 3 ≤ 16; decide), fun v hv => ?_, fun H4 keep at4 => ⟨rfl, ?_⟩⟩
    · simp only [List.mem_cons, List.not_mem_nil, or_false] at hv
      rcases hv with rfl | rfl | rfl
      · exact abc.three
      · exact one_ok la
      · exact one_ok la
    have s14 : Same H1 H4 := t1.trans (t2.trans (t3.trans (t4.trans (Same.made nx ndx fun b o e nb => keep b o nb e))))
    obtain ⟨d4, t5, hx4, hW4⟩ := id at4
    refine ⟨x, d4, _, rfl, hx4, rfl, (by show 3 ≤ sizeLine; decide), fun z hz => ?_⟩
    have sz : Same H4 (upd H4 z (.lst [.int 0, .int 1, .int 2])) := same_upd hz
    refine ⟨x, z, [[a, b, c], [a], [a]], [0, 1, 2], rfl, at4.same sz, upd_same, fun v hv => ?_, (by show ∀ x ∈ [0, 1, 2], x < 3; decide), by decide, by decide, fun H5 bb s5 hb5 => ?_⟩
    · simp only [List.mem_cons, List.not_mem_nil, or_false] at hv
      rcases hv with rfl | rfl | rfl
      · exact abc.three
      · exact one_ok la
      · exact one_ok la
    have b0 : bb = false := by
      cases bb with
      | false => rfl
      | true => exact absurd (hb5.mp rfl) abc_1
    subst b0
    refine ⟨false, false, rfl, rfl, false, rfl, iteF ?_⟩
    have s15 := s1.trans (s14.trans (sz.trans s5))
    clear t1 t2 t3 t4 r1 r2 r3 r4 sm hx4 at4 keep nx ndx ne hz s14 sz s5 h1 h2 h3 h4
    clear hW4 hb5
    -- Posts([[a, b, c], [a], [b]]).free([0, 1, 2])
    refine ⟨_, rfl, _, rfl, _, rfl, (by show 3 ≤ sizeLine; decide), fun l1 h1 => ?_⟩
    have t1 : Same H5 (upd H5 l1 (.lst [nv a, nv b, nv c])) := same_upd h1
    have r1 : (upd H5 l1 (HO.lst [nv a, nv b, nv c])) l1 = some (.lst ([a, b, c].map nv)) := upd_same
    generalize upd H5 l1 (HO.lst [nv a, nv b, nv c]) = G1 at t1 r1
    refine ⟨_, rfl, (by show 1 ≤ sizeLine; decide), fun l2 h2 => ?_⟩
    have t2 : Same G1 (upd G1 l2 (.lst [nv a])) := same_upd h2
    have r2 : (upd G1 l2 (HO.lst [nv a])) l2 = some (.lst ([a].map nv)) := upd_same
    generalize upd G1 l2 (HO.lst [nv a]) = G2 at t2 r2
    refine ⟨_, rfl, (by show 1 ≤ sizeLine; decide), fun l3 h3 => ?_⟩
    have t3 : Same G2 (upd G2 l3 (.lst [nv b])) := same_upd h3
    have r3 : (upd G2 l3 (HO.lst [nv b])) l3 = some (.lst ([b].map nv)) := upd_same
    generalize upd G2 l3 (HO.lst [nv b]) = G3 at t3 r3
    refine ⟨(by show 3 ≤ sizeLine; decide), fun l4 h4 => ?_⟩
    have t4 : Same G3 (upd G3 l4 (.lst [.ref l1, .ref l2, .ref l3])) := same_upd h4
    have r4 : (upd G3 l4 (HO.lst [.ref l1, .ref l2, .ref l3])) l4 = some (.lst ([l1, l2, l3].map V.ref)) := upd_same
    generalize upd G3 l4 (HO.lst [V.ref l1, .ref l2, .ref l3]) = G4 at t4 r4
    intro x dx nx ndx ne
    have sm := made_same (C := C) nx ndx
    have okv : ∀ v ∈ [[a, b, c], [a], [b]], Po.PostsOk v := fun v hv => by
      simp only [List.mem_cons, List.not_mem_nil, or_false] at hv
      rcases hv with rfl | rfl | rfl
      · exact abc.three
      · exact one_ok la
      · exact one_ok lb
    refine ⟨x, dx, l4, [l1, l2, l3], [[a, b, c], [a], [b]], rfl, upd_same, sm _ _ r4, ⟨sm _ _ (t4 _ _ (t3 _ _ (t2 _ _ r1))), sm _ _ (t4 _ _ (t3 _ _ r2)), sm _ _ (t4 _ _ r3), True.intro⟩, (by show 3 ≤ 16; decide), okv, fun H6 keep at4 => ⟨rfl, ?_⟩⟩
    have s14 : Same H5 H6 := t1.trans (t2.trans (t3.trans (t4.trans (Same.made nx ndx fun b o e nb => keep b o nb e))))
    obtain ⟨d4, t5, hx4, hW4⟩ := id at4
    refine ⟨x, d4, _, rfl, hx4, rfl, (by show 3 ≤ sizeLine; decide), fun z hz => ?_⟩
    have sz : Same H6 (upd H6 z (.lst [.int 0, .int 1, .int 2])) := same_upd hz
    refine ⟨x, z, [[a, b, c], [a], [b]], [0, 1, 2], rfl, at4.same sz, upd_same, okv, (by show ∀ x ∈ [0, 1, 2], x < 3; decide), by decide, by decide, fun H7 bb s5 hb5 => ?_⟩
    have b0 : bb = true := hb5.mpr (abc_2 abc)
    subst b0
    refine ⟨true, true, rfl, rfl, false, rfl, iteF ?_⟩
    have s17 := s15.trans (s14.trans (sz.trans s5))
    clear t1 t2 t3 t4 r1 r2 r3 r4 sm hx4 at4 keep nx ndx ne hz s14 sz s5 h1 h2 h3 h4
    clear hW4 hb5
    -- Posts([[a, b, c], [a], [b], [c]]).free([0, 1, 2, 3])
    refine ⟨_, rfl, _, rfl, _, rfl, (by show 3 ≤ sizeLine; decide), fun l1 h1 => ?_⟩
    have t1 : Same H7 (upd H7 l1 (.lst [nv a, nv b, nv c])) := same_upd h1
    have r1 : (upd H7 l1 (HO.lst [nv a, nv b, nv c])) l1 = some (.lst ([a, b, c].map nv)) := upd_same
    generalize upd H7 l1 (HO.lst [nv a, nv b, nv c]) = G1 at t1 r1
    refine ⟨_, rfl, (by show 1 ≤ sizeLine; decide), fun l2 h2 => ?_⟩
    have t2 : Same G1 (upd G1 l2 (.lst [nv a])) := same_upd h2
    have r2 : (upd G1 l2 (HO.lst [nv a])) l2 = some (.lst ([a].map nv)) := upd_same
    generalize upd G1 l2 (HO.lst [nv a]) = G2 at t2 r2
    refine ⟨_, rfl, (by show 1 ≤ sizeLine; decide), fun l3 h3 => ?_⟩
    have t3 : Same G2 (upd G2 l3 (.lst [nv b])) := same_upd h3
    have r3 : (upd G2 l3 (HO.lst [nv b])) l3 = some (.lst ([b].map nv)) := upd_same
    generalize upd G2 l3 (HO.lst [nv b]) = G3 at t3 r3
    refine ⟨_, rfl, (by show 1 ≤ sizeLine; decide), fun l5 h5 => ?_⟩
    have t5 : Same G3 (upd G3 l5 (.lst [nv c])) := same_upd h5
    have r5 : (upd G3 l5 (HO.lst [nv c])) l5 = some (.lst ([c].map nv)) := upd_same
    generalize upd G3 l5 (HO.lst [nv c]) = G5 at t5 r5
    refine ⟨(by show 4 ≤ sizeLine; decide), fun l4 h4 => ?_⟩
    have t4 : Same G5 (upd G5 l4 (.lst [.ref l1, .ref l2, .ref l3, .ref l5])) := same_upd h4
    have r4 : (upd G5 l4 (HO.lst [.ref l1, .ref l2, .ref l3, .ref l5])) l4 = some (.lst ([l1, l2, l3, l5].map V.ref)) := upd_same
    generalize upd G5 l4 (HO.lst [V.ref l1, .ref l2, .ref l3, .ref l5]) = G4 at t4 r4
    intro x dx nx ndx ne
    have sm := made_same (C := C) nx ndx
    have okw : ∀ v ∈ [[a, b, c], [a], [b], [c]], Po.PostsOk v := fun v hv => by
      simp only [List.mem_cons, List.not_mem_nil, or_false] at hv
      rcases hv with rfl | rfl | rfl | rfl
      · exact abc.three
      · exact one_ok la
      · exact one_ok lb
      · exact one_ok lc
    refine ⟨x, dx, l4, [l1, l2, l3, l5], [[a, b, c], [a], [b], [c]], rfl, upd_same, sm _ _ r4, ⟨sm _ _ (t4 _ _ (t5 _ _ (t3 _ _ (t2 _ _ r1)))), sm _ _ (t4 _ _ (t5 _ _ (t3 _ _ r2))), sm _ _ (t4 _ _ (t5 _ _ r3)), sm _ _ (t4 _ _ r5), True.intro⟩, (by show 4 ≤ 16; decide), okw, fun H8 keep at4 => ⟨rfl, ?_⟩⟩
    have s14 : Same H7 H8 := t1.trans (t2.trans (t3.trans (t5.trans (t4.trans (Same.made nx ndx fun b o e nb => keep b o nb e)))))
    obtain ⟨d4, t6, hx4, hW4⟩ := id at4
    refine ⟨x, d4, _, rfl, hx4, rfl, (by show 4 ≤ sizeLine; decide), fun z hz => ?_⟩
    have sz : Same H8 (upd H8 z (.lst [.int 0, .int 1, .int 2, .int 3])) := same_upd hz
    refine ⟨x, z, [[a, b, c], [a], [b], [c]], [0, 1, 2, 3], rfl, at4.same sz, upd_same, okw, (by show ∀ x ∈ [0, 1, 2, 3], x < 4; decide), by decide, by decide, fun H9 bb s5 hb5 => ?_⟩
    have b0 : bb = false := by
      cases bb with
      | false => rfl
      | true => exact absurd (hb5.mp rfl) abc_3
    subst b0
    exact ⟨false, false, rfl, rfl, q _ (s17.trans (s14.trans (sz.trans s5)))⟩
end
section
variable {P : Program} {w : World} {K : PySem.W.Frag} {mg : Str → Option Value} {base : Heap} {f Cp Ct : Addr} {fd : FuncData}
/-- a thing of the other for a thing of the one, both ways -/
def spBoth (A : RK) (h : Nat) : Sp := fun vs H Q _ => ∃ (p a b : Addr) (r : MT.Rl) (one other : List Nat) (x : Nat), vs = [.ref p, .ref a, .ref b, nv x] ∧ A.At h H p r ∧ H a = some (.lst (one.map nv)) ∧ H b = some (.lst (other.map nv)) ∧ MT.Base r.F (List.range r.n) one ∧ MT.Base r.F (List.range r.n) other ∧ x ∈ one ∧ x ∉ other ∧
  ∀ H' (y : Nat), Same H H' → y ∈ other → y ∉ one → r.F (y :: one.erase x) → r.F (x :: other.erase y) → Q (nv y) H'
def web : List (Nat × Nat) := [(0, 1), (1, 2), (2, 3), (0, 2), (1, 3), (0, 3)]
theorem web_ok : ThOk 4 web := ⟨by decide, by decide, by unfold Th.Bnd; decide, by decide⟩
theorem web_F {xs : List Nat} (h : ∀ x ∈ xs, x < 6) : (rlTh 4 web web_ok).F xs ↔ TM.freeF id (xs.map (Th.edAt web)) = true :=
  ⟨fun k => (ties_iff web_ok.bnd h).mpr k.2, fun k => ⟨h, (ties_iff web_ok.bnd h).mp k⟩⟩
theorem web_base {b : List Nat} (nd : b.Nodup) (sub : ∀ x ∈ b, x < 6) (fr : TM.freeF id (b.map (Th.edAt web)) = true) (no : ∀ y, y < 6 → y ∉ b → TM.freeF id ((y :: b).map (Th.edAt web)) = false) : MT.Base (rlTh 4 web web_ok).F (List.range 6) b := by
  have F := (web_F sub).mpr fr
  refine ⟨nd, fun x hx => List.mem_range.mpr (sub x hx), F, ⟨⟨b, nd, fun x hx => List.mem_range.mpr (sub x hx), F, rfl⟩, fun ys h1 h2 h3 => Nat.le_of_not_lt fun lt => ?_⟩⟩
  obtain ⟨y, y1, y2, y3⟩ := (rlTh 4 web web_ok).mat.exch nd h1 F h3 lt
  have yl := List.mem_range.mp (h2 y y1)
  have := (web_F (xs := y :: b) fun x hx => by
    rcases List.mem_cons.mp hx with e | e
    · rw [e]; exact yl
    · exact sub x e).mp y3
  rw [no y yl y2] at this
  cases this
theorem web_1 : MT.Base (rlTh 4 web web_ok).F (List.range 6) [0, 1, 2] := web_base (by decide) (by decide) (by decide +kernel) (by decide +kernel)
theorem web_2 : MT.Base (rlTh 4 web web_ok).F (List.range 6) [3, 4, 5] := web_base (by decide) (by decide) (by decide +kernel) (by decide +kernel)
theorem web_3 : MT.Base (rlTh 4 web web_ok).F (List.range 6) [2, 1, 0] := web_base (by decide) (by decide) (by decide +kernel) (by decide +kernel)
theorem web_4 : MT.Base (rlTh 4 web web_ok).F (List.range 6) [5, 4, 3] := web_base (by decide) (by decide) (by decide +kernel) (by decide +kernel)
theorem web_no {xs : List Nat} (h : ∀ x ∈ xs, x < 6) (n : TM.freeF id (xs.map (Th.edAt web)) = false) : ¬ (rlTh 4 web web_ok).F xs := fun k => by
  rw [(web_F h).mp k] at n
  cases n
theorem web_a {y : Nat} (h : y ∈ [3, 4, 5]) (k1 : (rlTh 4 web web_ok).F (y :: [0, 1, 2].erase 0)) (k2 : (rlTh 4 web web_ok).F (0 :: [3, 4, 5].erase y)) : y = 5 := by
  simp only [List.mem_cons, List.not_mem_nil, or_false] at h
  rcases h with rfl | rfl | rfl
  · exact absurd k2 (web_no (by decide) (by decide +kernel))
  · exact absurd k1 (web_no (by decide) (by decide +kernel))
  · rfl
theorem web_b {y : Nat} (h : y ∈ [5, 4, 3]) (k1 : (rlTh 4 web web_ok).F (y :: [2, 1, 0].erase 2)) (k2 : (rlTh 4 web web_ok).F (2 :: [5, 4, 3].erase y)) : y = 5 := by
  simp only [List.mem_cons, List.not_mem_nil, or_false] at h
  rcases h with rfl | rfl | rfl
  · rfl
  · exact absurd k2 (web_no (by decide) (by decide +kernel))
  · exact absurd k1 (web_no (by decide) (by decide +kernel))
def spTrees : Sp := fun vs H Q _ => vs = [] ∧ ∀ H', Same H H' → Q (.bl true) H'
theorem ok_trees (B : Bl mg) (F : L2.Fun K "_law_trees" "_law_trees" s__law_trees f fd) (g : mg "_law_trees" = some (.ref f)) (k_Threads : C8.Mak P w K mg base 4 "Threads" Ct (Th.spInit Ct) []) (c_both_ways : C8.Cal P w K mg base 40 "both_ways" (spBoth (A21 Cp Ct) 0) []) : C8.Cal P w K mg base 41 "_law_trees" spTrees [] := by
  refine ⟨f, fd, [], [], F.ok sc__law_trees (fun vs H Q E h => ?_) (fun cdv A outer s H vs Q E hr h => ?_), g, F.kp, F.binds (ps := []) (fun _ _ _ _ _ _ us hl => match us, hl with | [], _ => rfl), .nil⟩
  · obtain ⟨rfl, _⟩ := h
    rfl
  · obtain ⟨rfl, q⟩ := h
    refine ⟨_, (pss_cons (ps_set (i := 0) sc__law_trees.nd rfl (Or.inl rfl) (C8.pe_mk k_Threads hr (by decide) rfl (pa_cons pe_int (pa_cons (pe_lst (pa_cons (pe_tup (pa_cons pe_int (pa_cons pe_int pa_nil))) (pa_cons (pe_tup (pa_cons pe_int (pa_cons pe_int pa_nil))) (pa_cons (pe_tup (pa_cons pe_int (pa_cons pe_int pa_nil))) (pa_cons (pe_tup (pa_cons pe_int (pa_cons pe_int pa_nil))) (pa_cons (pe_tup (pa_cons pe_int (pa_cons pe_int pa_nil))) (pa_cons (pe_tup (pa_cons pe_int (pa_cons pe_int pa_nil))) pa_nil))))))) pa_nil))))
      (pss_cons (ps_if (PW.pt (pw_or (pt_cmpR op_ne (C8.pe_c c_both_ways hr (by first | decide | exact Nat.le_refl _ | omega) rfl (pa_cons (pv 0) (pa_cons (pe_lst (pa_cons pe_int (pa_cons pe_int (pa_cons pe_int pa_nil)))) (pa_cons (pe_lst (pa_cons pe_int (pa_cons pe_int (pa_cons pe_int pa_nil)))) (pa_cons pe_int pa_nil))))) pe_int (nomark _)) (pw_or1 (pt_cmpR op_gt (C8.pe_c c_both_ways hr (by first | decide | exact Nat.le_refl _ | omega) rfl (pa_cons (pv 0) (pa_cons (pe_lst (pa_cons pe_int (pa_cons pe_int (pa_cons pe_int pa_nil)))) (pa_cons (pe_lst (pa_cons pe_int (pa_cons pe_int (pa_cons pe_int pa_nil)))) (pa_cons pe_int pa_nil))))) pe_int (nomark _))))) (pss_one (ps_ret pe_bl)) pss_nil)
      (pss_one (ps_ret (pe_and (pe_cmpR op_eq (C8.pe_c c_both_ways hr (by first | decide | exact Nat.le_refl _ | omega) rfl (pa_cons (pv 0) (pa_cons (pe_lst (pa_cons pe_int (pa_cons pe_int (pa_cons pe_int pa_nil)))) (pa_cons (pe_lst (pa_cons pe_int (pa_cons pe_int (pa_cons pe_int pa_nil)))) (pa_cons pe_int pa_nil))))) pe_int (nomark _)) (pe_one (pe_cmpR op_in_seq (C8.pe_c c_both_ways hr (by first | decide | exact Nat.le_refl _ | omega) rfl (pa_cons (pv 0) (pa_cons (pe_lst (pa_cons pe_int (pa_cons pe_int (pa_cons pe_int pa_nil)))) (pa_cons (pe_lst (pa_cons pe_int (pa_cons pe_int (pa_cons pe_int pa_nil)))) (pa_cons pe_int pa_nil))))) (pe_tup (pa_cons pe_int (pa_cons pe_int (pa_cons pe_int pa_nil)))) (by rfl)))))))), ?_⟩
    -- web
    refine ⟨(by show 2 ≤ sizeLine; decide), fun t0 n0 => ?_⟩
    have a0 : Same H (upd H t0 (.tup [.int 0, .int 1])) := same_upd n0
    have b0 : (upd H t0 (HO.tup [.int 0, .int 1])) t0 = some (.tup [nv 0, nv 1]) := upd_same
    generalize upd H t0 (HO.tup [V.int 0, .int 1]) = G0 at a0 b0
    refine ⟨(by show 2 ≤ sizeLine; decide), fun t1 n1 => ?_⟩
    have a1 : Same G0 (upd G0 t1 (.tup [.int 1, .int 2])) := same_upd n1
    have b1 : (upd G0 t1 (HO.tup [.int 1, .int 2])) t1 = some (.tup [nv 1, nv 2]) := upd_same
    generalize upd G0 t1 (HO.tup [V.int 1, .int 2]) = G1 at a1 b1
    refine ⟨(by show 2 ≤ sizeLine; decide), fun t2 n2 => ?_⟩
    have a2 : Same G1 (upd G1 t2 (.tup [.int 2, .int 3])) := same_upd n2
    have b2 : (upd G1 t2 (HO.tup [.int 2, .int 3])) t2 = some (.tup [nv 2, nv 3]) := upd_same
    generalize upd G1 t2 (HO.tup [V.int 2, .int 3]) = G2 at a2 b2
    refine ⟨(by show 2 ≤ sizeLine; decide), fun t3 n3 => ?_⟩
    have a3 : Same G2 (upd G2 t3 (.tup [.int 0, .int 2])) := same_upd n3
    have b3 : (upd G2 t3 (HO.tup [.int 0, .int 2])) t3 = some (.tup [nv 0, nv 2]) := upd_same
    generalize upd G2 t3 (HO.tup [V.int 0, .int 2]) = G3 at a3 b3
    refine ⟨(by show 2 ≤ sizeLine; decide), fun t4 n4 => ?_⟩
    have a4 : Same G3 (upd G3 t4 (.tup [.int 1, .int 3])) := same_upd n4
    have b4 : (upd G3 t4 (HO.tup [.int 1, .int 3])) t4 = some (.tup [nv 1, nv 3]) := upd_same
    generalize upd G3 t4 (HO.tup [V.int 1, .int 3]) = G4 at a4 b4
    refine ⟨(by show 2 ≤ sizeLine; decide), fun t5 n5 => ?_⟩
    have a5 : Same G4 (upd G4 t5 (.tup [.int 0, .int 3])) := same_upd n5
    have b5 : (upd G4 t5 (HO.tup [.int 0, .int 3])) t5 = some (.tup [nv 0, nv 3]) := upd_same
    generalize upd G4 t5 (HO.tup [V.int 0, .int 3]) = G5 at a5 b5
    refine ⟨(by show 6 ≤ sizeLine; decide), fun l nl => ?_⟩
    have a6 : Same G5 (upd G5 l (.lst [.ref t0, .ref t1, .ref t2, .ref t3, .ref t4, .ref t5])) := same_upd nl
    have b6 : (upd G5 l (HO.lst [.ref t0, .ref t1, .ref t2, .ref t3, .ref t4, .ref t5])) l = some (.lst ([t0, t1, t2, t3, t4, t5].map V.ref)) := upd_same
    generalize upd G5 l (HO.lst [V.ref t0, .ref t1, .ref t2, .ref t3, .ref t4, .ref t5]) = G6 at a6 b6
    intro x dx nx ndx ne
    have sm := made_same (C := Ct) nx ndx
    have c5 := a6.trans sm
    have c4 := a5.trans c5
    have c3 := a4.trans c4
    have c2 := a3.trans c3
    have c1 := a2.trans c2
    have c0 := a1.trans c1
    refine ⟨x, dx, l, 4, [t0, t1, t2, t3, t4, t5], web, rfl, upd_same, sm _ _ b6, ⟨c0 _ _ b0, c1 _ _ b1, c2 _ _ b2, c3 _ _ b3, c4 _ _ b4, c5 _ _ b5, True.intro⟩, by decide, by decide, by decide, web_ok.bnd, fun H1 keep at1 => ⟨rfl, ?_⟩⟩
    have s1 : Same H H1 := a0.trans (a1.trans (a2.trans (a3.trans (a4.trans (a5.trans (a6.trans (Same.made nx ndx fun b o e nb => keep b o nb e)))))))
    clear a0 b0 a1 b1 a2 b2 a3 b3 a4 b4 a5 b5 a6 b6 c0 c1 c2 c3 c4 c5 sm keep nx ndx ne n0 n1 n2 n3 n4 n5 nl
    -- the rule
    have rule : ∀ {H2 : Hp}, Same H1 H2 → (A21 Cp Ct).At 0 H2 x (rlTh 4 web web_ok) := fun s => .inr ⟨4, web, web_ok, at1.same s, rfl⟩
    -- both_ways(web, [0, 1, 2], [3, 4, 5], 0) != 5
    refine ⟨_, rfl, (by show 3 ≤ sizeLine; decide), fun u1 m1 => ?_⟩
    have d1 : Same H1 (upd H1 u1 (.lst [.int 0, .int 1, .int 2])) := same_upd m1
    have e1 : (upd H1 u1 (HO.lst [.int 0, .int 1, .int 2])) u1 = some (.lst ([0, 1, 2].map nv)) := upd_same
    generalize upd H1 u1 (HO.lst [V.int 0, .int 1, .int 2]) = J1 at d1 e1
    refine ⟨(by show 3 ≤ sizeLine; decide), fun u2 m2 => ?_⟩
    have d2 : Same J1 (upd J1 u2 (.lst [.int 3, .int 4, .int 5])) := same_upd m2
    have e2 : (upd J1 u2 (HO.lst [.int 3, .int 4, .int 5])) u2 = some (.lst ([3, 4, 5].map nv)) := upd_same
    generalize upd J1 u2 (HO.lst [V.int 3, .int 4, .int 5]) = J2 at d2 e2
    refine ⟨x, u1, u2, rlTh 4 web web_ok, [0, 1, 2], [3, 4, 5], 0, rfl, rule (d1.trans d2), d2 _ _ e1, e2, web_1, web_2, by decide, by decide, fun H2 y s2 y1 y2 y3 y4 => ?_⟩
    have y5 := web_a y1 y3 y4
    subst y5
    refine ⟨rfl, false, rfl, iteF ?_⟩
    have h2 := d1.trans (d2.trans s2)
    -- both_ways(web, [3, 4, 5], [2, 1, 0], 5) > 2
    refine ⟨_, rfl, (by show 3 ≤ sizeLine; decide), fun u1 m1 => ?_⟩
    have d1 : Same H2 (upd H2 u1 (.lst [.int 3, .int 4, .int 5])) := same_upd m1
    have e1 : (upd H2 u1 (HO.lst [.int 3, .int 4, .int 5])) u1 = some (.lst ([3, 4, 5].map nv)) := upd_same
    generalize upd H2 u1 (HO.lst [V.int 3, .int 4, .int 5]) = J1 at d1 e1
    refine ⟨(by show 3 ≤ sizeLine; decide), fun u2 m2 => ?_⟩
    have d2 : Same J1 (upd J1 u2 (.lst [.int 2, .int 1, .int 0])) := same_upd m2
    have e2 : (upd J1 u2 (HO.lst [.int 2, .int 1, .int 0])) u2 = some (.lst ([2, 1, 0].map nv)) := upd_same
    generalize upd J1 u2 (HO.lst [V.int 2, .int 1, .int 0]) = J2 at d2 e2
    refine ⟨x, u1, u2, rlTh 4 web web_ok, [3, 4, 5], [2, 1, 0], 5, rfl, rule (h2.trans (d1.trans d2)), d2 _ _ e1, e2, web_2, web_3, by decide, by decide, fun H3 y s3 y1 y2 y3 y4 => ?_⟩
    have yl : y ≤ 2 := by
      simp only [List.mem_cons, List.not_mem_nil, or_false] at y1
      omega
    refine ⟨_, _, rfl, rfl, false, ?_, iteF ?_⟩
    · show V.bl (decide ((2 : Int) < (y : Int))) = _
      rw [decide_eq_false (by omega : ¬ (2 : Int) < (y : Int))]
    have h3 := h2.trans (d1.trans (d2.trans s3))
    -- both_ways(web, [2, 1, 0], [5, 4, 3], 2) == 5
    refine ⟨_, rfl, (by show 3 ≤ sizeLine; decide), fun u1 m1 => ?_⟩
    have d1 : Same H3 (upd H3 u1 (.lst [.int 2, .int 1, .int 0])) := same_upd m1
    have e1 : (upd H3 u1 (HO.lst [.int 2, .int 1, .int 0])) u1 = some (.lst ([2, 1, 0].map nv)) := upd_same
    generalize upd H3 u1 (HO.lst [V.int 2, .int 1, .int 0]) = J1 at d1 e1
    refine ⟨(by show 3 ≤ sizeLine; decide), fun u2 m2 => ?_⟩
    have d2 : Same J1 (upd J1 u2 (.lst [.int 5, .int 4, .int 3])) := same_upd m2
    have e2 : (upd J1 u2 (HO.lst [.int 5, .int 4, .int 3])) u2 = some (.lst ([5, 4, 3].map nv)) := upd_same
    generalize upd J1 u2 (HO.lst [V.int 5, .int 4, .int 3]) = J2 at d2 e2
    refine ⟨x, u1, u2, rlTh 4 web web_ok, [2, 1, 0], [5, 4, 3], 2, rfl, rule (h3.trans (d1.trans d2)), d2 _ _ e1, e2, web_3, web_4, by decide, by decide, fun H4 y s4 y1 y2 y3 y4 => ?_⟩
    have y5 := web_b y1 y3 y4
    subst y5
    refine ⟨rfl, true, rfl, iteT ?_⟩
    have h4 := h3.trans (d1.trans (d2.trans s4))
    -- both_ways(web, [0, 1, 2], [3, 4, 5], 1) in (3, 4, 5)
    refine ⟨_, rfl, (by show 3 ≤ sizeLine; decide), fun u1 m1 => ?_⟩
    have d1 : Same H4 (upd H4 u1 (.lst [.int 0, .int 1, .int 2])) := same_upd m1
    have e1 : (upd H4 u1 (HO.lst [.int 0, .int 1, .int 2])) u1 = some (.lst ([0, 1, 2].map nv)) := upd_same
    generalize upd H4 u1 (HO.lst [V.int 0, .int 1, .int 2]) = J1 at d1 e1
    refine ⟨(by show 3 ≤ sizeLine; decide), fun u2 m2 => ?_⟩
    have d2 : Same J1 (upd J1 u2 (.lst [.int 3, .int 4, .int 5])) := same_upd m2
    have e2 : (upd J1 u2 (HO.lst [.int 3, .int 4, .int 5])) u2 = some (.lst ([3, 4, 5].map nv)) := upd_same
    generalize upd J1 u2 (HO.lst [V.int 3, .int 4, .int 5]) = J2 at d2 e2
    refine ⟨x, u1, u2, rlTh 4 web web_ok, [0, 1, 2], [3, 4, 5], 1, rfl, rule (h4.trans (d1.trans d2)), d2 _ _ e1, e2, web_1, web_2, by decide, by decide, fun H5 y s5 y1 y2 y3 y4 => ?_⟩
    refine ⟨(by show 3 ≤ sizeLine; decide), fun u3 m3 => ?_⟩
    have d3 : Same H5 (upd H5 u3 (.tup [.int 3, .int 4, .int 5])) := same_upd m3
    have e3 : (upd H5 u3 (HO.tup [.int 3, .int 4, .int 5])) u3 = some (.tup ([3, 4, 5].map nv)) := upd_same
    generalize upd H5 u3 (HO.tup [V.int 3, .int 4, .int 5]) = J3 at d3 e3
    refine ⟨u3, _, rfl, .inr (SqT.of e3), rfl, flat_nats _, ?_⟩
    have qq := q _ (s1.trans (h4.trans (d1.trans (d2.trans (s5.trans d3)))))
    rw [if_neg Bool.false_ne_true, in_nats, decide_eq_true y1]
    exact qq
end
section
variable {P : Program} {w : World} {K : PySem.W.Frag} {mg : Str → Option Value} {base : Heap} {f Cp Ct : Addr} {fd : FuncData}
theorem rows_more {ws : List (List Nat)} {S : List Nat} {j z : Nat} (h : S[j]? = some z) : rowsOf ws (S.take (j + 1)) = rowsOf ws (S.take j) ++ [ws.getD z []] := by
  unfold rowsOf
  rw [take_more h, List.map_append]
  rfl
theorem ok_law (B : Bl mg) (GP : Po.Gp K mg Cp) (F : L2.Fun K "law" "law" s_law f fd) (c__law_cell_at : C8.Cal P w K mg base 1 "_law_cell_at" (spCellR K) []) (c__law_rows : C8.Cal P w K mg base 2 "_law_rows" (spRowsR K) []) (c__law_wants : C8.Cal P w K mg base 2 "_law_wants" (spWantsR K) [])
    (c__law_rank : C8.Cal P w K mg base 2 "_law_rank" spLRank []) (c__law_ring : C8.Cal P w K mg base 3 "_law_ring" spLRing []) (c__law_three : C8.Cal P w K mg base 35 "_law_three" (spThree K) []) (c__law_trees : C8.Cal P w K mg base 41 "_law_trees" spTrees [])
    (c_rank : C8.Cal P w K mg base 36 "rank" (spRank (A21 Cp Ct) 0) []) (c_grown : C8.Cal P w K mg base 35 "grown" (spGrown (A21 Cp Ct) 0) []) (c_ring : C8.Cal P w K mg base 35 "ring" (spRingG (A21 Cp Ct) 0) [])
    (k_Posts : C8.Mak P w K mg base 5 "Posts" Cp (Po.spInit Cp) []) (m_many : C8.Met P w K mg base 1 Cp "many" (Po.spMany Cp) []) (m_free : C8.Met P w K mg base 34 Cp "free" (Po.spFree Cp) []) : FnOk P w K mg base CX0 42 f fd ["_law_script"] (spLaw K) := by
  refine F.ok sc_law (fun vs H Q E h => ?_) (fun cdv A outer s H vs Q E hr h => ?_)
  · obtain ⟨a, ns, rfl, _⟩ := h
    rfl
  · obtain ⟨a, ns, rfl, hS, hlen, k⟩ := h
    refine ⟨_, (pss_cons (ps_set (i := 1) sc_law.nd rfl (Or.inr rfl) (C8.pe_c c__law_rows hr (by first | decide | exact Nat.le_refl _ | omega) rfl (pa_cons (pv 0) pa_nil)))
      (pss_cons (ps_set (i := 2) sc_law.nd rfl (Or.inl rfl) (C8.pe_c c__law_wants hr (by first | decide | exact Nat.le_refl _ | omega) rfl (pa_cons (pv 1) (pa_cons (pv 0) pa_nil))))
      (pss_cons (ps_setLc (i := 3) (own := [("_law_posts", 5)]) rfl sc_law.nd rfl rfl (sw_true rfl rfl rfl (by decide +kernel)) (pi_list (pv 2)) (blkOk_by (own := [("_law_posts", 5)]) (N := n_law) (sc := defScope s_law) (by decide +kernel)) (fun _ _ _ _ _ => (pg_name (i := 5) sc_law.nd rfl (Or.inl rfl))) (fun _ _ _ _ _ => pts_nil) (fun _ _ _ _ _ => (pe_callTy (call_lstK (K := K) rfl) (by rfl) B.list_ (by decide +kernel) (pa_cons (pv 5) pa_nil))))
      (pss_cons (ps_set (i := 4) sc_law.nd rfl (Or.inl rfl) (C8.pe_mk k_Posts hr (by decide) rfl (pa_cons (pv 3) pa_nil)))
      (pss_cons (ps_if (PW.pt (pw_or (pt_cmpR (op_neD hr.units) (pv 3) (pv 2) (nomark _)) (pw_or (pt_cmpR op_ne (C8.pe_mt0 (pl := _) m_many hr (by decide) (pv 4)) (pe_callB (call_lenK (K := K) rfl) (by rfl) B.len_ (by decide +kernel) (pa_cons (pv 1) pa_nil)) (nomark _)) (pw_or (pt_not (pt_val (pe_c0 c__law_trees hr (by first | decide | exact Nat.le_refl _ | omega) rfl))) (pw_or1 (pt_not (pt_val (C8.pe_c c__law_three hr (by first | decide | exact Nat.le_refl _ | omega) rfl (pa_cons (pv 0) pa_nil))))))))) (pss_one (ps_ret pe_bl)) pss_nil)
      (pss_cons (ps_for PassesOwn.never rfl (pi_list (pv 3)) (pg_name (i := 5) sc_law.nd rfl (Or.inl rfl)) (pss_one (ps_expr (pe_bm PySem.F.plainAttrs_list PySem.F.slot_list_append PySem.F.type_list_append mt_append (pv 5) (pa_cons pe_int pa_nil)))))
      (pss_cons (ps_expr (pe_bm0 PySem.F.plainAttrs_list PySem.F.slot_list_clear PySem.F.type_list_clear mt_clear (pv 3)))
      (pss_cons (ps_for PassesOwn.never rfl (pi_range1 rfl B.range_ (pa_cons pe_int pa_nil)) (pg_name (i := 6) sc_law.nd rfl (Or.inl rfl)) (C8.pss_cut (ps_set (i := 7) sc_law.nd rfl (Or.inr rfl) (pe_op op_add (C8.pe_c c__law_cell_at hr (by first | decide | exact Nat.le_refl _ | omega) rfl (pa_cons (pv 0) (pa_cons (pe_op op_add pe_int (pv 6)) pa_nil))) (pe_op op_mul pe_int (pv 6))))
      (C8.pss_cut (ps_set (i := 8) sc_law.nd rfl (Or.inl rfl) (pe_revL (pe_lc (own := [("_law_k", 12)]) rfl sc_law.nd (pi_range1 rfl B.range_ (pa_cons (pe_callB (call_lenK (K := K) rfl) (by rfl) B.len_ (by decide +kernel) (pa_cons (pv 1) pa_nil)) pa_nil)) (blkOk_by (own := [("_law_k", 12)]) (N := n_law) (sc := defScope s_law) (by decide +kernel)) (fun _ _ _ _ _ => (pg_name (i := 12) sc_law.nd rfl (Or.inl rfl))) (fun _ _ _ _ _ => (pts_one (pt_cmpR op_eq (pe_op op_and (pe_op op_shr (pv 7) (pv 12)) pe_int) pe_int (nomark _)))) (fun _ _ _ _ _ => (pv 12)))))
      (C8.pss_cut (ps_set (i := 9) sc_law.nd rfl (Or.inl rfl) (C8.pe_c c__law_rank hr (by first | decide | exact Nat.le_refl _ | omega) rfl (pa_cons (pe_lc (own := [("_law_k", 12)]) rfl sc_law.nd (pi_list (pv 8)) (blkOk_by (own := [("_law_k", 12)]) (N := n_law) (sc := defScope s_law) (by decide +kernel)) (fun _ _ _ _ _ => (pg_name (i := 12) sc_law.nd rfl (Or.inl rfl))) (fun _ _ _ _ _ => pts_nil) (fun _ _ _ _ _ => (pe_ix (r := rIxL K) ix_list (pv 1) (pv 12) (fun _ _ => rfl)))) pa_nil)))
      (C8.pss_cut (ps_set (i := 10) sc_law.nd rfl (Or.inl rfl) (C8.pe_mt (pl := _) m_free hr (by decide) (pv 4) (pa_cons (pv 8) pa_nil)))
      (pss_cons (ps_if (PW.pt (pw_or (pt_not (pt_val (pe_callB (call_isiK (K := K) rfl) (by rfl) B.isinstance_ (by decide +kernel) (pa_cons (pv 10) (pa_cons (pe_bltn (v := .ty "bool") (u := .type "bool") (by rfl) B.bool_ (by decide +kernel) rfl) pa_nil))))) (pw_or (pt_cmpR op_ne (pv 10) (pe_cmpR op_eq (pv 9) (pe_callB (call_lenK (K := K) rfl) (by rfl) B.len_ (by decide +kernel) (pa_cons (pv 8) pa_nil)) (nomark _)) (nomark _)) (pw_or1 (pt_cmpR op_ne (C8.pe_c c_rank hr (by first | decide | exact Nat.le_refl _ | omega) rfl (pa_cons (pv 4) (pa_cons (pv 8) pa_nil))) (pv 9) (nomark _)))))) (pss_one (ps_ret pe_bl)) pss_nil)
      (pss_cons (ps_set (i := 11) sc_law.nd rfl (Or.inl rfl) (pe_lst pa_nil))
      (pss_cons (ps_for PassesOwn.never rfl (pi_list (pv 8)) (pg_name (i := 12) sc_law.nd rfl (Or.inl rfl)) (pss_one (ps_if (pt_cmpR op_gt (C8.pe_c c__law_rank hr (by first | decide | exact Nat.le_refl _ | omega) rfl (pa_cons (pe_lc (own := [("_law_one", 14)]) rfl sc_law.nd (pi_list (pe_op op_cat (pv 11) (pe_lst (pa_cons (pv 12) pa_nil)))) (blkOk_by (own := [("_law_one", 14)]) (N := n_law) (sc := defScope s_law) (by decide +kernel)) (fun _ _ _ _ _ => (pg_name (i := 14) sc_law.nd rfl (Or.inl rfl))) (fun _ _ _ _ _ => pts_nil) (fun _ _ _ _ _ => (pe_ix (r := rIxL K) ix_list (pv 1) (pv 14) (fun _ _ => rfl)))) pa_nil)) (pe_callB (call_lenK (K := K) rfl) (by rfl) B.len_ (by decide +kernel) (pa_cons (pv 11) pa_nil)) (nomark _)) (pss_one (ps_expr (pe_bm PySem.F.plainAttrs_list PySem.F.slot_list_append PySem.F.type_list_append mt_append (pv 11) (pa_cons (pv 12) pa_nil)))) pss_nil)))
      (pss_cons (ps_if (pt_cmpR (op_neD hr.units) (C8.pe_c c_grown hr (by first | decide | exact Nat.le_refl _ | omega) rfl (pa_cons (pv 4) (pa_cons (pv 8) pa_nil))) (pe_callB cr_sorted (by rfl) B.sorted_ (by decide +kernel) (pa_cons (pv 11) pa_nil)) (nomark _)) (pss_one (ps_ret pe_bl)) pss_nil)
      (C8.pss_cut (ps_set (i := 13) sc_law.nd rfl (Or.inl rfl) (pe_op op_mod (C8.pe_c c__law_cell_at hr (by first | decide | exact Nat.le_refl _ | omega) rfl (pa_cons (pv 0) (pa_cons pe_int pa_nil))) (pe_op op_add (pe_callB (call_lenK (K := K) rfl) (by rfl) B.len_ (by decide +kernel) (pa_cons (pv 1) pa_nil)) pe_int)))
      (pss_one (ps_if (PW.pt (pw_and (pt_cmpR op_lt (pv 13) (pe_callB (call_lenK (K := K) rfl) (by rfl) B.len_ (by decide +kernel) (pa_cons (pv 1) pa_nil)) (nomark _)) (pw_and1 (pt_cmpR op_notIn_seq (pv 13) (pv 11) (by rfl))))) (pss_one (ps_if (pt_cmpR (op_neD hr.units) (C8.pe_c c_ring hr (by first | decide | exact Nat.le_refl _ | omega) rfl (pa_cons (pv 4) (pa_cons (pv 11) (pa_cons (pv 13) pa_nil)))) (C8.pe_c c__law_ring hr (by first | decide | exact Nat.le_refl _ | omega) rfl (pa_cons (pv 1) (pa_cons (pv 11) (pa_cons (pv 13) pa_nil)))) (nomark _)) (pss_one (ps_ret pe_bl)) pss_nil)) pss_nil))))))))))))
      (pss_one (ps_ret pe_bl)))))))))), ?_⟩
    refine ⟨_, rfl, a, ns, rfl, hS, fun Ha p ts ws sa np hp hts wl wok => ?_⟩
    refine ⟨_, rfl, _, rfl, p, a, ns, ts, ws, rfl, hp, hts, wl, wok, sa.seq hS, fun H1 R us vs st t s2 nR hR hus ls l0 W => ?_⟩
    have s5 : Same H H1 := sa.trans s2
    have hp1 := s2 _ _ hp
    have hts1 := hts.same s2
    have vl : vs.length = ws.length := W.len
    have ul : us.length = ws.length := by rw [hus.len, vl]
    have tl : ts.length = ws.length := hts.len
    have ok : PoOk vs := ⟨W.ok, by omega⟩
    have lk := wants_link wok ls l0 W ok
    -- handed = [list(posts) for posts in wants]
    refine ⟨_, rfl, R, rfl, ⟨_, SqL.of hR⟩, fun l hl => lc_list (K := K) (a := R) (xs := us.map V.ref) (fun j H2 => Same H1 H2 ∧ ∃ hs, H2 l = some (.lst (hs.map V.ref)) ∧ rws .lst H2 hs (vs.take j) ∧ l ∉ hs ∧ ∀ b ∈ hs, H1 b = none)
      ⟨same_upd hl, [], upd_same, True.intro, (fun h => by cases h), fun b h => by cases h⟩ (fun j H2 _ p => SqL.of (p.1 _ _ hR)) ?_ ?_⟩
    · rintro j y H2 hj ⟨s6, hs, hA, hhs, nl, fr⟩
      obtain ⟨t, ht, rfl⟩ := map_at hj
      obtain ⟨v, hv, hrow⟩ := hus.at ht
      have jl : j < us.length := (List.getElem?_eq_some_iff.mp ht).1
      have hl2 : hs.length ≤ 16 := by
        rw [hhs.len, List.length_take]
        omega
      refine ⟨rfl, yesT ?_⟩
      refine ⟨_, rfl, t, _, rfl, .inl (SqL.of (s6 _ _ hrow)), fun u hu => ?_⟩
      have su : Same H2 (upd H2 u (.lst (v.map nv))) := same_upd hu
      have h3 : (upd H2 u (HO.lst (v.map nv))) u = some (.lst (v.map nv)) := upd_same
      generalize upd H2 u (HO.lst (v.map nv)) = H3 at su h3
      have nlu : l ≠ u := ne_of_none hA hu
      have nl2 : l ∉ hs ++ [u] := fun h => by
        rcases List.mem_append.mp h with e | e
        · exact nl e
        · exact nlu (List.mem_singleton.mp e)
      refine ⟨_, su _ _ hA, by rw [List.length_map]; exact small1000 (by omega), same_to (s6.trans su) hl, hs ++ [u], ?_, ?_, nl2, fun b hb => ?_⟩
      · rw [List.map_append]
        exact upd_same
      · rw [take_more hv]
        exact (rws.put h3 (hhs.same su)).upd nl2
      · rcases List.mem_append.mp hb with e | e
        · exact fr b e
        · rw [List.mem_singleton.mp e]
          exact s6.free hu
    rintro H2 ⟨e2, hs, hl2, hhs, nl, fr⟩
    rw [List.length_map, hus.len, List.take_length] at hhs
    have hl0 : H l = none := s5.free hl
    -- rule = Posts(handed)
    refine ⟨_, rfl, fun x dx nx ndx ne => ?_⟩
    have e2x := made_same (C := Cp) nx ndx
    refine ⟨x, dx, l, hs, vs, rfl, upd_same, e2x _ _ hl2, hhs.same e2x, by omega, W.ok, fun H3 keep at3 => ⟨rfl, ?_⟩⟩
    have e3 : Same H2 H3 := Same.made nx ndx fun b o e nb => keep b o nb e
    have hR3 := e3 _ _ (e2 _ _ hR)
    have hl3 := e3 _ _ hl2
    have hus3 := (hus.same e2).same e3
    have hhs3 := hhs.same e3
    obtain ⟨d3, t3, hx3, hW3⟩ := id at3
    have s13 : Same H1 H3 := e2.trans e3
    -- if handed != wants or rule.many() != len(rows) or not trees() or not three(script)
    refine ⟨_, rfl, _, rfl, _, _, Dp.lst (SqL.of hl3) (dp_rows (fun _ _ e => dp_row e) hhs3), Dp.lst (SqL.of hR3) (dp_rows (fun _ _ e => dp_row e) hus3), rows_shaped rd_lay rd_depth vs, rows_shaped rd_lay rd_depth vs, false, by rw [rows_same]; rfl, iteF ?_⟩
    refine ⟨_, rfl, x, d3, _, rfl, hx3, rfl, x, vs, rfl, at3, _, rfl, p, _, rfl, .inl (SqL.of (s13 _ _ hp1)), rfl, false, ?_, iteF ?_⟩
    · show V.bl (!decide (nv vs.length = V.int ((ts.map V.ref).length : Int))) = _
      rw [List.length_map, tl, vl, decide_eq_true rfl]
      rfl
    refine ⟨rfl, fun H4 s4 => ⟨true, rfl, iteF ?_⟩⟩
    refine ⟨_, rfl, a, ns, rfl, (s5.trans (s13.trans s4)).seq hS, fun H5 s45 => ⟨true, rfl, iteF ?_⟩⟩
    have s35 : Same H3 H5 := s4.trans s45
    have s15 : Same H1 H5 := s13.trans s35
    -- for posts in handed: posts.append(30)
    refine ⟨_, rfl, l, rfl, ⟨_, SqL.of (s35 _ _ hl3)⟩, for_list (K := K) (a := l) (xs := hs.map V.ref) (fun j σ H' => ∃ v5 : Option V, σ = [some (.ref a), some (.ref p), some (.ref R), some (.ref l), some (.ref x), v5, none, none, none, none, none, none, none, none, none] ∧ Same H1 H' ∧ H' l = some (.lst (hs.map V.ref)) ∧
        Po.PostsAt Cp H' x vs ∧ ∀ b ∈ hs, ∃ ys, H' b = some (.lst ys) ∧ ys.length ≤ 31 + j)
      ⟨none, rfl, s15, s35 _ _ hl3, at3.same s35, fun b hb => (by
        obtain ⟨v, hv, e⟩ := hhs3.mem hb
        refine ⟨_, s35 _ _ e, ?_⟩
        rw [List.length_map]
        exact (W.ok v hv).len)⟩ (fun j σ H' _ ⟨_, _, _, h, _⟩ => SqL.of h) ?_ ?_⟩
    · rintro j y σ H' hj ⟨v5, rfl, s6, hl6, at6, lst6⟩
      obtain ⟨b, hb, rfl⟩ := map_at hj
      have bin : b ∈ hs := List.mem_of_getElem? hb
      have jl : j < hs.length := (List.getElem?_eq_some_iff.mp hb).1
      rw [hhs.len] at jl
      obtain ⟨ys, hy, yl⟩ := lst6 b bin
      have nlb : l ≠ b := fun e => nl (by rw [e]; exact bin)
      refine ⟨_, rfl, .inl ⟨rfl, _, SqL.of hy⟩, b, _, _, rfl, rfl, hy, small1000 (by omega), ?_⟩
      refine ⟨_, rfl, same_to s6 (fr b bin), ?_, at6.keep fun c o no e => ?_, fun c hc => ?_⟩
      · rw [upd_ne nlb]
        exact hl6
      · have ncb : c ≠ b := fun z => by
          rw [z, hy] at e
          exact no ys (Option.some.inj e).symm
        rw [upd_ne ncb]
        exact e
      · by_cases z : c = b
        · rw [z]
          refine ⟨_, upd_same, ?_⟩
          rw [List.length_append]
          show ys.length + 1 ≤ 31 + (j + 1)
          omega
        · obtain ⟨zs, hz, zl⟩ := lst6 c hc
          exact ⟨zs, by rw [upd_ne z]; exact hz, by omega⟩
    rintro σ H6 ⟨v5, rfl, s16, hl6, at6, _⟩
    -- handed.clear()
    refine ⟨_, rfl, .inl ⟨rfl, _, SqL.of hl6⟩, l, _, rfl, rfl, hl6, ?_⟩
    have at7 : Po.PostsAt Cp (upd H6 l (.lst [])) x vs := at6.keep fun c o no e => by
      have ncl : c ≠ l := fun z => by
        rw [z, hl6] at e
        exact no _ (Option.some.inj e).symm
      rw [upd_ne ncl]
      exact e
    have s17 : Same H1 (upd H6 l (.lst [])) := same_to s16 hl
    generalize upd H6 l (.lst []) = H7 at at7 s17
    have sH := s5.trans s17
    have hp7 := s17 _ _ hp1
    have hts7 := hts1.same s17
    have rn : (rlPo vs ok).n = ws.length := lk.n
    generalize er : rlPo vs ok = r at lk rn
    have rule : ∀ {H' : Hp}, Same H7 H' → (A21 Cp Ct).At 0 H' x r := fun s => .inl ⟨vs, ok, at7.same s, er.symm⟩
    have r16 := r.n16
    refine ⟨5, rfl, by decide, by decide, for_range (lo := 0) (n := (5 : Int).toNat) (fun i σ H' => ∃ v6 v7 v8 v9 v10 v11 v12 v13 : Option V, σ = [some (.ref a), some (.ref p), some (.ref R), some (.ref l), some (.ref x), v5, v6, v7, v8, v9, v10, v11, v12, v13, none] ∧ Same H7 H')
      ⟨_, _, _, _, _, _, _, _, rfl, Same.refl _⟩ ?_ ?_⟩
    · rintro i σ H' hi ⟨v6, v7, v8, v9, v10, v11, v12, v13, rfl, s8⟩
      have hi : i < 5 := hi
      -- the cell
      refine ⟨fun σ' Hx => ∃ cell : Int, σ' = [some (.ref a), some (.ref p), some (.ref R), some (.ref l), some (.ref x), v5, some (.int (0 + (i : Int))), some (.int cell), v8, v9, v10, v11, v12, v13, none] ∧ Same H7 Hx, ?_, ?_⟩
      · refine ⟨_, rfl, _, rfl, _, _, rfl, rfl, a, ns, 21 + i, ?_, (sH.trans s8).seq hS, by omega, fun Hx sx => ⟨_, rfl, _, _, rfl, rfl, .inl ⟨by decide, by decide⟩, _, _, rfl, rfl, _, rfl, s8.trans sx⟩⟩
        show [V.ref a, V.int (21 + (0 + (i : Int)))] = _
        rw [show (21 + (0 + (i : Int))) = ((21 + i : Nat) : Int) by omega]
      rintro _ H8 ⟨cell, rfl, s78⟩
      -- some
      refine ⟨fun σ' Hx => ∃ (S : Addr) (ks : List Nat), σ' = [some (.ref a), some (.ref p), some (.ref R), some (.ref l), some (.ref x), v5, some (.int (0 + (i : Int))), some (.int cell), some (.ref S), v9, v10, v11, v12, v13, none] ∧ Same H7 Hx ∧ Hx S = some (.lst (ks.map nv)) ∧ ks.Nodup ∧ ∀ k ∈ ks, k < r.n, ?_, ?_⟩
      · refine ⟨_, rfl, p, _, rfl, .inl (SqL.of (s78 _ _ hp7)), (r.n : Int), ?_, by omega, by omega, fun D hD => lc_range (lo := 0) (n := (r.n : Int).toNat) (fun j Hx => ∃ ks : List Nat, Same H8 Hx ∧ Hx D = some (.lst (ks.map nv)) ∧ ks.Nodup ∧ (∀ k ∈ ks, k < j) ∧ ks.length ≤ j)
          ⟨[], same_upd hD, upd_same, List.nodup_nil, fun k h => (by cases h), Nat.le_refl _⟩ ?_ ?_⟩
        · rw [List.length_map, tl, rn]
        · rintro j Hx hj ⟨ks, s9, hK, knd, klt, klen⟩
          have hj : j < r.n := by omega
          refine ⟨rfl, ?_⟩
          refine ⟨_, rfl, _, rfl, _, _, rfl, rfl, by omega, _, _, rfl, rfl, rfl, _, rfl, ?_⟩
          refine ite2 (fun _ => ?_) (fun _ => ?_)
          · refine ⟨_, rfl, _, hK, by rw [List.length_map]; exact small1000 (by omega), ks ++ [j], same_to s9 hD, ?_, ?_, fun k hk => ?_, ?_⟩
            · rw [List.map_append]
              refine upd_same.trans ?_
              show some (HO.lst (_ ++ [V.int (0 + (j : Int))])) = _
              rw [Int.zero_add]
              rfl
            · rw [List.nodup_append]
              refine ⟨knd, by simp, fun p hp q hq => ?_⟩
              rw [List.mem_singleton.mp hq]
              have := klt p hp
              omega
            · rcases List.mem_append.mp hk with e | e
              · have := klt k e
                omega
              · rw [List.mem_singleton.mp e]
                omega
            · rw [List.length_append]
              show ks.length + 1 ≤ j + 1
              omega
          · exact ⟨ks, s9, hK, knd, fun k hk => Nat.lt_succ_of_lt (klt k hk), by omega⟩
        · rintro Hx ⟨ks, s9, hK, knd, klt, klen⟩
          refine ⟨D, _, rfl, SqL.of hK, fun S hS' => ⟨S, ks.reverse, rfl, s78.trans (s9.trans (same_upd hS')), ?_, (List.reverse_perm ks).nodup_iff.mpr knd, fun k hk => ?_⟩⟩
          · rw [List.map_reverse]
            exact upd_same
          · have := klt k (List.mem_reverse.mp hk)
            omega
      rintro _ H9 ⟨S, ks, rfl, s79, hK, knd, klt⟩
      have kl := nodup_le knd klt
      -- due
      refine ⟨fun σ' Hx => σ' = [some (.ref a), some (.ref p), some (.ref R), some (.ref l), some (.ref x), v5, some (.int (0 + (i : Int))), some (.int cell), some (.ref S), some (nv (ST.lrank (rowsOf ws ks) 31 0)), v10, v11, v12, v13, none] ∧ Same H9 Hx, ?_, ?_⟩
      · refine ⟨_, rfl, S, rfl, ⟨_, SqL.of hK⟩, fun D hD => lc_list (K := K) (a := S) (xs := ks.map nv) (fun j Hx => Same H9 Hx ∧ ∃ ds : List Addr, Hx D = some (.lst (ds.map V.ref)) ∧ rws .tup Hx ds (rowsOf ws (ks.take j)))
          ⟨same_upd hD, [], upd_same, True.intro⟩ (fun j Hx _ k => SqL.of (k.1 _ _ hK)) ?_ ?_⟩
        · rintro j y Hx hj ⟨s10, ds, hD2, hds⟩
          obtain ⟨z, ez, rfl⟩ := map_at hj
          obtain ⟨tz, i1, i2⟩ := row_at (hts7.same s79) (by rw [← rn]; exact klt z (List.mem_of_getElem? ez))
          have jl : j < ks.length := (List.getElem?_eq_some_iff.mp ez).1
          refine ⟨rfl, yesT ?_⟩
          refine ⟨_, rfl, _, rfl, p, _, _, V.ref tz, rfl, rfl, SqL.of (s10 _ _ (s79 _ _ hp7)), atI_nat i1, _, hD2, ?_, same_to s10 hD, ds ++ [tz], ?_, ?_⟩
          · have := hds.len
            unfold rowsOf at this
            rw [List.length_map, List.length_take] at this
            rw [List.length_map]
            exact small1000 (by omega)
          · rw [List.map_append]
            exact upd_same
          · have pu := rws.put (s10 _ _ i2) hds
            rw [rows_more ez]
            exact pu.upd (pu.not_mem hD2 (by intro xs z; cases z))
        · rintro Hx ⟨s10, ds, hD2, hds⟩
          rw [List.length_map, List.take_length] at hds
          exact ⟨D, ds, rowsOf ws ks, rfl, hD2, hds, by unfold rowsOf; rw [List.length_map]; omega, lk.rows klt, fun Hy sy => ⟨rfl, s10.trans sy⟩⟩
      rintro _ H10 ⟨rfl, s90⟩
      have s70 := s79.trans s90
      have hK10 := s90 _ _ hK
      -- free
      refine ⟨fun σ' Hx => ∃ b : Bool, σ' = [some (.ref a), some (.ref p), some (.ref R), some (.ref l), some (.ref x), v5, some (.int (0 + (i : Int))), some (.int cell), some (.ref S), some (nv (ST.lrank (rowsOf ws ks) 31 0)), some (.bl b), v11, v12, v13, none] ∧ Same H10 Hx ∧ (b = true ↔ r.F ks), ?_, ?_⟩
      · have at10 := at7.same s70
        obtain ⟨d6, t6, hx6, hW6⟩ := id at10
        refine ⟨_, rfl, x, d6, _, rfl, hx6, rfl, _, rfl, x, S, vs, ks, rfl, at10, hK10, W.ok, fun k hk => (by rw [vl, ← rn]; exact klt k hk), knd, by omega, fun Hx b sx hb => ⟨b, rfl, sx, ?_⟩⟩
        rw [hb, ← er]
        exact ⟨fun z => ⟨fun k hk => by rw [vl, ← rn]; exact klt k hk, z⟩, fun z => z.2⟩
      rintro _ H11 ⟨b, rfl, s01, hb⟩
      have s71 := s70.trans s01
      have hK11 := s01 _ _ hK10
      have fi := lk.free knd klt
      -- if not isinstance(free, bool) or free != (due == len(some)) or rank(rule, some) != due
      refine ⟨_, rfl, _, _, _, _, true, rfl, ClsV.ty _, TyX.base (TyOf.bl _), kit_ty (by decide +kernel), true, rfl, iteF ?_⟩
      refine ⟨_, rfl, _, rfl, _, rfl, S, _, rfl, .inl (SqL.of hK11), rfl, rfl, false, ?_, iteF ?_⟩
      · rw [List.length_map]
        show V.bl (!decide (V.bl b = V.bl (decide (nv (ST.lrank (rowsOf ws ks) 31 0) = nv ks.length)))) = V.bl false
        have e : b = decide (nv (ST.lrank (rowsOf ws ks) 31 0) = nv ks.length) := by
          rw [V.bl.inj (eq_nv _ _), Bool.eq_iff_iff, hb, fi, decide_eq_true_iff]
        rw [← e, decide_eq_true rfl]
        rfl
      have rk := (lk.rank ks knd klt).one (r.grown_rank knd)
      refine ⟨_, rfl, _, rfl, x, S, r, ks, rfl, rule s71, hK11, knd, klt, fun H12 s12 => ⟨_, rfl, rfl, false, ?_, iteF ?_⟩⟩
      · show V.bl (!decide (nv (r.grown ks).length = nv (ST.lrank (rowsOf ws ks) 31 0))) = _
        rw [rk, decide_eq_true rfl]
        rfl
      have s72 := s71.trans s12
      have hK12 := s12 _ _ hK11
      -- got = []
      refine ⟨Nat.zero_le _, fun L hL => ?_⟩
      have sL := s72.trans (same_upd (o := .lst []) hL)
      have hL7 : H7 L = none := s72.free hL
      refine ⟨_, rfl, S, rfl, ⟨_, SqL.of (same_upd hL _ _ hK12)⟩, for_list (K := K) (a := S) (xs := ks.map nv) (fun j σ Hx => ∃ (v12 : Option V) (t : List Nat), σ = [some (.ref a), some (.ref p), some (.ref R), some (.ref l), some (.ref x), v5, some (.int (0 + (i : Int))), some (.int cell), some (.ref S), some (nv (ST.lrank (rowsOf ws ks) 31 0)), some (.bl b), some (.ref L), v12, v13, none] ∧ Same H7 Hx ∧ Same H12 Hx ∧
          Hx L = some (.lst (t.map nv)) ∧ MT.grow r.f t (ks.drop j) = r.grown ks ∧ t.Nodup ∧ (∀ x ∈ t, x ∈ ks.take j) ∧ r.F t)
        ⟨_, [], rfl, sL, same_upd hL, upd_same, rfl, List.nodup_nil, (fun _ z => by cases z), r.mat.nil⟩ (fun j σ Hx _ ⟨_, _, _, _, s5, _⟩ => SqL.of (s5 _ _ hK12)) ?_ ?_⟩
      · rintro j y σ Hx hj ⟨v12, t, rfl, sx, sxx, hT, inv, tnd, tin, tF⟩
        obtain ⟨z, ez, rfl⟩ := map_at hj
        have jl : j < ks.length := (List.getElem?_eq_some_iff.mp ez).1
        have edrop : ks.drop j = z :: ks.drop (j + 1) := by
          have e2 := (List.getElem?_eq_some_iff.mp ez).2
          rw [List.drop_eq_getElem_cons jl, e2]
        have zm := List.mem_of_getElem? ez
        have zt : z ∉ t := fun zz => by
          have zz := tin z zz
          obtain ⟨j', hj', e⟩ := List.mem_iff_getElem.mp zz
          rw [List.length_take] at hj'
          rw [List.getElem_take] at e
          have e2 := (List.getElem?_eq_some_iff.mp ez).2
          exact List.pairwise_iff_getElem.mp knd j' j (by omega) jl (by omega) (e.trans e2.symm)
        have tn : (t ++ [z]).Nodup := MT.nd_snoc tnd zt
        have tlt : ∀ q ∈ t ++ [z], q < r.n := fun q hq => by
          rcases List.mem_append.mp hq with e | e
          · exact klt q (List.mem_of_mem_take (tin q e))
          · rw [List.mem_singleton.mp e]; exact klt z zm
        have tl2 := nodup_le tn tlt
        have tl3 : t.length + 1 ≤ 16 := by
          rw [List.length_append] at tl2
          have : ([z] : List Nat).length = 1 := rfl
          omega
        have tin' : ∀ q ∈ t ++ [z], q ∈ ks.take (j + 1) := fun q hq => by
          rw [take_more ez]
          rcases List.mem_append.mp hq with e | e
          · exact List.mem_append_left _ (tin q e)
          · exact List.mem_append_right _ e
        -- got + [k]
        refine ⟨_, rfl, _, rfl, (by show 1 ≤ sizeLine; decide), fun u hu => ?_⟩
        have su : Same Hx (upd Hx u (.lst [nv z])) := same_upd hu
        refine ⟨L, u, _, _, rfl, rfl, su _ _ hT, upd_same, ?_, fun g hg => ?_⟩
        · rw [List.length_map]
          exact Nat.le_of_lt (small1000 (by show t.length + 1 ≤ 1000; omega))
        have sg := su.trans (same_upd (o := .lst (t.map nv ++ [nv z])) hg)
        have hG : (upd (upd Hx u (.lst [nv z])) g (.lst (t.map nv ++ [nv z]))) g = some (.lst ((t ++ [z]).map nv)) := by
          rw [List.map_append]
          exact upd_same
        generalize upd (upd Hx u (.lst [nv z])) g (.lst (t.map nv ++ [nv z])) = Hy at sg hG
        have sy := sx.trans sg
        refine ⟨g, rfl, ⟨_, SqL.of hG⟩, fun D hD => lc_list (K := K) (a := g) (xs := (t ++ [z]).map nv) (fun j' Hz => Same Hy Hz ∧ ∃ ds : List Addr, Hz D = some (.lst (ds.map V.ref)) ∧ rws .tup Hz ds (rowsOf ws ((t ++ [z]).take j')))
          ⟨same_upd hD, [], upd_same, True.intro⟩ (fun j' Hz _ k => SqL.of (k.1 _ _ hG)) ?_ ?_⟩
        · rintro j' y Hz hj' ⟨sz, ds, hD2, hds⟩
          obtain ⟨q, eq, rfl⟩ := map_at hj'
          obtain ⟨tz, i1, i2⟩ := row_at (hts7.same sy) (by rw [← rn]; exact tlt q (List.mem_of_getElem? eq))
          have jl' : j' < (t ++ [z]).length := (List.getElem?_eq_some_iff.mp eq).1
          refine ⟨rfl, yesT ?_⟩
          refine ⟨_, rfl, _, rfl, p, _, _, V.ref tz, rfl, rfl, SqL.of (sz _ _ (sy _ _ hp7)), atI_nat i1, _, hD2, ?_, same_to sz hD, ds ++ [tz], ?_, ?_⟩
          · have := hds.len
            unfold rowsOf at this
            rw [List.length_map, List.length_take] at this
            rw [List.length_map]
            exact small1000 (by omega)
          · rw [List.map_append]
            exact upd_same
          · have pu := rws.put (sz _ _ i2) hds
            rw [rows_more eq]
            exact pu.upd (pu.not_mem hD2 (by intro xs z; cases z))
        · rintro Hz ⟨sz, ds, hD2, hds⟩
          rw [List.length_map, List.take_length] at hds
          refine ⟨D, ds, rowsOf ws (t ++ [z]), rfl, hD2, hds, by unfold rowsOf; rw [List.length_map]; omega, lk.rows tlt, fun Hw sw => ?_⟩
          have sgw := sg.trans (sz.trans sw)
          have hTw := sgw _ _ hT
          refine ⟨_, rfl, L, _, rfl, .inl (SqL.of hTw), _, _, rfl, rfl, decide (t.length < ST.lrank (rowsOf ws (t ++ [z])) 31 0), ?_, ?_⟩
          · show V.bl (decide (((t.map nv).length : Int) < ((ST.lrank (rowsOf ws (t ++ [z])) 31 0 : Nat) : Int))) = _
            rw [List.length_map]
            congr 1
            rw [Bool.eq_iff_iff, decide_eq_true_iff, decide_eq_true_iff]
            omega
          have mo := lk.more tn tlt
          rw [edrop] at inv
          by_cases c : r.F (t ++ [z])
          · rw [decide_eq_true (mo.mp c)]
            refine iteT ⟨_, rfl, .inl ⟨rfl, _, SqL.of hTw⟩, _, rfl, L, _, _, rfl, rfl, hTw, by rw [List.length_map]; exact small1000 (by omega), ?_⟩
            refine ⟨_, t ++ [z], rfl, same_to (sx.trans sgw) hL7, same_to (sxx.trans sgw) hL, ?_, ?_, tn, tin', c⟩
            · rw [List.map_append]
              exact upd_same
            · rw [← inv]
              show _ = if r.f (t ++ [z]) = true then _ else _
              rw [if_pos (MT.Rl.f_iff.mpr c)]
          · rw [decide_eq_false fun q => c (mo.mpr q)]
            refine iteF ⟨_, t, rfl, sx.trans sgw, sxx.trans sgw, hTw, ?_, tnd, fun q hq => tin' q (List.mem_append_left _ hq), tF⟩
            rw [← inv]
            show _ = if r.f (t ++ [z]) = true then _ else _
            rw [if_neg fun q => c (MT.Rl.f_iff.mp q)]
      rintro σ H13 ⟨v12', t, rfl, s73, s123, hT, inv, tnd, tin, tF⟩
      rw [List.length_map, List.drop_length] at inv
      have et : t = r.grown ks := inv
      rw [List.length_map] at tin
      have tlt : ∀ q ∈ t, q < r.n := fun q hq => klt q (List.mem_of_mem_take (tin q hq))
      have tl16 := nodup_le tnd tlt
      have hT' := hT
      rw [nv_ints] at hT'
      -- if grown(rule, some) != sorted(got)
      refine ⟨_, rfl, _, rfl, x, S, r, ks, rfl, rule s73, s123 _ _ hK12, knd, klt, fun H14 g gs s14 ng pg gw hg => ?_⟩
      have hT14 := s14 _ _ hT
      have hT14' := hT14
      rw [nv_ints] at hT14'
      refine ⟨_, rfl, L, _, rfl, SqL.of hT14', by rw [List.length_map]; omega, fun ns' z pz pw nz => ?_⟩
      obtain ⟨ys, ey, py, pwy⟩ := sorted_nats pz pw tnd
      have egs : gs = ys := rising_eq (pg.trans (et ▸ py.symm)) gw pwy
      rw [ey]
      have sz : Same H14 (upd H14 z (.lst (ys.map nv))) := same_upd nz
      have hz : (upd H14 z (HO.lst (ys.map nv))) z = some (.lst (ys.map nv)) := upd_same
      generalize upd H14 z (HO.lst (ys.map nv)) = H15 at sz hz
      subst egs
      have ev2 := eqv_ints (gs.map (fun n : Nat => (n : Int)))
      refine ⟨_, _, Dp.lst (SqL.of (sz _ _ hg)) (dp_nats _), Dp.lst (SqL.of hz) (dp_nats _), PySem.W.ke_shaped_ints _, PySem.W.ke_shaped_ints _, false, by rw [ev2]; rfl, iteF ?_⟩
      have s75 := s73.trans (s14.trans sz)
      have hT15 := sz _ _ hT14
      -- other
      obtain ⟨o, eo, lo⟩ := mod_nat (c := cellR ns 3) (N := (ws.length : Int) + 1) (by omega)
      refine ⟨fun σ' Hx => σ' = [some (.ref a), some (.ref p), some (.ref R), some (.ref l), some (.ref x), v5, some (.int (0 + (i : Int))), some (.int cell), some (.ref S), some (nv (ST.lrank (rowsOf ws ks) 31 0)), some (.bl b), some (.ref L), v12', some (nv o), none] ∧ Same H15 Hx, ?_, ?_⟩
      · refine ⟨_, rfl, a, ns, 3, rfl, (sH.trans s75).seq hS, by decide, fun Hx sx => ⟨_, rfl, p, _, rfl, .inl (SqL.of (sx _ _ (s75 _ _ hp7))), _, _, rfl, rfl, _, _, rfl, rfl, ?_, ?_, sx⟩⟩
        · rw [List.length_map, tl]
          omega
        · show [_, _, _, _, _, _, _, _, _, _, _, _, _, some (V.int (cellR ns 3 % (((ts.map V.ref).length : Int) + 1))), _] = _
          rw [List.length_map, tl, eo]
      rintro _ H16 ⟨rfl, s16'⟩
      have s76 := s75.trans s16'
      have hT16 := s16' _ _ hT15
      -- if other < len(rows) and other not in got
      refine ⟨_, rfl, _, rfl, p, _, rfl, .inl (SqL.of (s76 _ _ hp7)), _, _, rfl, rfl, decide (o < ws.length), ?_, ?_⟩
      · rw [List.length_map, tl]
        show V.bl (decide ((o : Int) < (ws.length : Int))) = _
        congr 1
        rw [Bool.eq_iff_iff, decide_eq_true_iff, decide_eq_true_iff]
        omega
      have fin : ∀ {Hx : Hp}, Same H16 Hx → ∃ v6 v7 v8 v9 v10 v11 v12 v13 : Option V, [some (V.ref a), some (.ref p), some (.ref R), some (.ref l), some (.ref x), v5, some (.int (0 + (i : Int))), some (.int cell), some (.ref S), some (nv (ST.lrank (rowsOf ws ks) 31 0)), some (.bl b), some (.ref L), v12', some (nv o), none] = [some (.ref a), some (.ref p), some (.ref R), some (.ref l), some (.ref x), v5, v6, v7, v8, v9, v10, v11, v12, v13, none] ∧ Same H7 Hx :=
        fun sx => ⟨_, _, _, _, _, _, _, _, rfl, s76.trans sx⟩
      by_cases c1 : o < ws.length
      · rw [decide_eq_true c1]
        refine iteT ⟨_, rfl, _, rfl, L, _, rfl, .inl (SqL.of hT16), rfl, flat_nats _, !decide (o ∈ t), ?_, ?_⟩
        · rw [if_pos rfl]
          exact congrArg (fun b => V.bl (!b)) (in_nats o t)
        by_cases c2 : o ∈ t
        · rw [decide_eq_true c2]
          exact iteF (fin fun _ _ z => z)
        · rw [decide_eq_false c2]
          have on : o < r.n := by rw [rn]; exact c1
          refine iteT ?_
          refine ⟨_, rfl, _, rfl, _, rfl, x, L, r, t, o, rfl, rule s76, hT16, tnd, tlt, on, c2, tF, fun H17 q1 cs s17' nq hcs hq1 => ?_⟩
          have s77 := s76.trans s17'
          refine ⟨_, rfl, _, rfl, _, rfl, p, L, ts, ws, r, t, o, rfl, s77 _ _ hp7, hts7.same s77, lk, s17' _ _ hT16, tnd, tlt, on, c2, tF, fun H18 q2 ds s18 nq2 hds hq2 => ?_⟩
          have e := hcs.one tnd c2 tF hds
          subst e
          have ev3 := eqv_ints (cs.map (fun n : Nat => (n : Int)))
          refine ⟨_, _, Dp.lst (SqL.of (s18 _ _ hq1)) (dp_nats _), Dp.lst (SqL.of hq2) (dp_nats _), PySem.W.ke_shaped_ints _, PySem.W.ke_shaped_ints _, false, by rw [ev3]; rfl, iteF ?_⟩
          exact fin (s17'.trans s18)
      · rw [decide_eq_false c1]
        exact iteF (iteF (fin fun _ _ z => z))
    · rintro σ H' ⟨v6, v7, v8, v9, v10, v11, v12, v13, rfl, s8⟩
      exact k _
end
theorem op_notInK {X : Cx} {K : PySem.W.Frag} (eK : X.K = K) : OpR X (compareOp .NotIn) (rIn K true) := by subst eK; exact op_notIn_seq
/-! ### whole sets of any rule: whole, is_whole, check_wholes, changed, both_ways -/
section
variable {P : Program} {w : World} {K : PySem.W.Frag} {mg : Str → Option Value} {base : Heap} {f : Addr} {fd : FuncData} {A : RK} {h k : Nat}
theorem base_grown (r : MT.Rl) {gs : List Nat} (p : gs.Perm (r.grown (List.range r.n))) : MT.Base r.F (List.range r.n) gs := by
  have G := r.grown_is (xs := List.range r.n) List.nodup_range
  have nd : gs.Nodup := p.nodup_iff.mpr G.nd
  refine ⟨nd, fun x hx => (G.up x (p.mem_iff.mp hx)).elim (fun k => by cases k) id, (r.mat.perm nd p).mpr (MT.Rl.f_iff.mp G.free), ?_⟩
  rw [p.length_eq]
  exact r.grown_rank List.nodup_range
theorem base_lt {r : MT.Rl} {xs : List Nat} (b : MT.Base r.F (List.range r.n) xs) : ∀ x ∈ xs, x < r.n := fun x hx => List.mem_range.mp (b.sub x hx)
def spWhole (A : RK) (h : Nat) : Sp := fun vs H Q _ => ∃ (p : Addr) (r : MT.Rl), vs = [.ref p] ∧ A.At h H p r ∧
  ∀ H' q (gs : List Nat), Same H H' → H q = none → MT.Base r.F (List.range r.n) gs → gs.Pairwise (· < ·) → H' q = some (.lst (gs.map nv)) → Q (.ref q) H'
theorem ok_whole (B : Bl mg) (F : L2.Fun K "whole" "whole" s_whole f fd) (g : mg "whole" = some (.ref f)) (m_many : MetG P w K mg base k A.S "many" (spManyG A h)) (c_grown : C8.Cal P w K mg base (k + 1) "grown" (spGrown A h) []) : C8.Cal P w K mg base (k + 2) "whole" (spWhole A h) [] := by
  refine ⟨f, fd, ["rule"], [], F.ok sc_whole (fun vs H Q E h => ?_) (fun cdv A' outer s H vs Q E hr h => ?_), g, F.kp, F.binds (ps := ["rule"]) (fun _ _ _ _ _ _ us hl => match us, hl with | [_], _ => rfl), .nil⟩
  · obtain ⟨p, r, rfl, _⟩ := h
    rfl
  · obtain ⟨p, r, rfl, hat, q⟩ := h
    refine ⟨_, (pss_one (ps_ret (C8.pe_c c_grown hr (by first | decide | exact Nat.le_refl _ | omega) rfl (pa_cons (pv 0) (pa_cons (pe_listRg rfl (by rfl) B.list_ (prg_1 (by rfl) B.range_ (pe_mt0G (pl := _) m_many hr (by first | decide | omega) (pv 0)))) pa_nil))))), ?_⟩
    obtain ⟨C, dx, fs, hC, hp, lf, lm⟩ := A.cls hat
    have r16 := r.n16
    refine ⟨_, rfl, C, hC, _, rfl, p, dx, fs, rfl, hp, lm, ⟨p, dx, fs, _, rfl, hp⟩, p, r, rfl, hat, fun H1 s1 => ⟨(r.n : Int), rfl, RgOk.of_le (by omega) (by omega) (by omega) (by omega), fun l hl => ?_⟩⟩
    refine ⟨p, l, r, List.range r.n, rfl, A.same (s1.trans (same_upd hl)) hat, ?_, List.nodup_range, fun x hx => List.mem_range.mp hx, fun H2 L gs s3 nL pg pw hL => ?_⟩
    · have e : rgV 0 (r.n : Int) = (List.range r.n).map nv := Th.rg_nats r.n
      rw [← e]
      exact upd_same
    · have s12 := s1.trans (same_upd (o := .lst (rgV 0 (r.n : Int))) hl)
      exact q H2 L gs (s12.trans s3) (s12.free nL) (base_grown r pg) pw hL
def spIsWhole (A : RK) (h : Nat) : Sp := fun vs H Q _ => ∃ (p a : Addr) (r : MT.Rl) (xs : List Nat), vs = [.ref p, .ref a] ∧ A.At h H p r ∧ H a = some (.lst (xs.map nv)) ∧ xs.Nodup ∧ (∀ x ∈ xs, x < r.n) ∧
  ∀ H' (b : Bool), Same H H' → (b = true ↔ MT.Base r.F (List.range r.n) xs) → Q (.bl b) H'
theorem ok_isWhole (B : Bl mg) (F : L2.Fun K "is_whole" "is_whole" s_is_whole f fd) (g : mg "is_whole" = some (.ref f)) (m_free : MetG P w K mg base k A.S "free" (spFreeG A h)) (c_whole : C8.Cal P w K mg base (k + 2) "whole" (spWhole A h) []) : C8.Cal P w K mg base (k + 3) "is_whole" (spIsWhole A h) [] := by
  refine ⟨f, fd, ["rule", "some"], [], F.ok sc_is_whole (fun vs H Q E h => ?_) (fun cdv A' outer s H vs Q E hr h => ?_), g, F.kp, F.binds (ps := ["rule", "some"]) (fun _ _ _ _ _ _ us hl => match us, hl with | [_, _], _ => rfl), .nil⟩
  · obtain ⟨p, a, r, xs, rfl, _⟩ := h
    rfl
  · obtain ⟨p, a, r, xs, rfl, hat, ha, hnd, hx, q⟩ := h
    refine ⟨_, (pss_one (ps_ret (pe_and (pe_mtG (pl := _) m_free hr (by first | decide | omega) (pv 0) (pa_cons (pv 1) pa_nil)) (pe_one (pe_cmpR op_eq (pe_callB (call_lenK (K := K) rfl) (by rfl) B.len_ (by decide +kernel) (pa_cons (pv 1) pa_nil)) (pe_callB (call_lenK (K := K) rfl) (by rfl) B.len_ (by decide +kernel) (pa_cons (C8.pe_c c_whole hr (by first | decide | exact Nat.le_refl _ | omega) rfl (pa_cons (pv 0) pa_nil)) pa_nil)) (nomark _)))))), ?_⟩
    obtain ⟨C, dx, fs, hC, hp, lf, lm⟩ := A.cls hat
    refine ⟨C, hC, _, rfl, p, dx, fs, rfl, hp, lf, _, rfl, ⟨p, dx, fs, _, rfl, hp⟩, p, a, r, xs, rfl, hat, ha, hnd, hx, fun H1 b s1 hb => ⟨b, rfl, ?_⟩⟩
    cases b with
    | false => exact iteF (q _ _ s1 ⟨fun e => (by cases e), fun e => hb.mpr e.free⟩)
    | true =>
      refine iteT ⟨_, rfl, a, _, rfl, .inl (SqL.of (s1 _ _ ha)), _, rfl, p, r, rfl, A.same s1 hat, fun H2 L gs s2 nL bg pw hL => ⟨L, _, rfl, .inl (SqL.of hL), rfl, ?_⟩⟩
      rw [List.length_map, List.length_map]
      refine q _ _ (s1.trans s2) ?_
      rw [decide_eq_true_eq]
      constructor
      · intro e
        have e := V.int.inj e
        exact bg.of_len hnd (fun x hm => List.mem_range.mpr (hx x hm)) (hb.mp rfl) (by omega)
      · intro e
        rw [e.len bg]
def spWholes (A : RK) (h : Nat) : Sp := fun vs H Q _ => ∃ (p a b : Addr) (r : MT.Rl) (one other : List Nat), vs = [.ref p, .ref a, .ref b] ∧ A.At h H p r ∧ H a = some (.lst (one.map nv)) ∧ H b = some (.lst (other.map nv)) ∧ MT.Base r.F (List.range r.n) one ∧ MT.Base r.F (List.range r.n) other ∧
  ∀ H', Same H H' → Q .non H'
theorem ok_wholes (B : Bl mg) (k4 : 4 ≤ k) (F : L2.Fun K "check_wholes" "check_wholes" s_check_wholes f fd) (g : mg "check_wholes" = some (.ref f)) (m_many : MetG P w K mg base k A.S "many" (spManyG A h)) (c_check_set : C8.Cal P w K mg base 4 "check_set" spSet []) (c_is_whole : C8.Cal P w K mg base (k + 3) "is_whole" (spIsWhole A h) []) : C8.Cal P w K mg base (k + 4) "check_wholes" (spWholes A h) [] := by
  refine ⟨f, fd, ["rule", "one", "other"], [], F.ok sc_check_wholes (fun vs H Q E h => ?_) (fun cdv A' outer s H vs Q E hr h => ?_), g, F.kp, F.binds (ps := ["rule", "one", "other"]) (fun _ _ _ _ _ _ us hl => match us, hl with | [_, _, _], _ => rfl), .nil⟩
  · obtain ⟨p, a, b, r, one, other, rfl, _⟩ := h
    rfl
  · obtain ⟨p, a, b, r, one, other, rfl, hat, ha, hb, b1, b2, q⟩ := h
    refine ⟨_, (pss_cons (ps_expr (C8.pe_c c_check_set hr (by first | decide | exact Nat.le_refl _ | omega) rfl (pa_cons (pv 1) (pa_cons (pe_mt0G (pl := _) m_many hr (by first | decide | omega) (pv 0)) pa_nil))))
      (pss_cons (ps_expr (C8.pe_c c_check_set hr (by first | decide | exact Nat.le_refl _ | omega) rfl (pa_cons (pv 2) (pa_cons (pe_mt0G (pl := _) m_many hr (by first | decide | omega) (pv 0)) pa_nil))))
      (pss_one (ps_if (PW.pt (pw_or (pt_not (pt_val (C8.pe_c c_is_whole hr (by first | decide | exact Nat.le_refl _ | omega) rfl (pa_cons (pv 0) (pa_cons (pv 1) pa_nil))))) (pw_or1 (pt_not (pt_val (C8.pe_c c_is_whole hr (by first | decide | exact Nat.le_refl _ | omega) rfl (pa_cons (pv 0) (pa_cons (pv 2) pa_nil)))))))) (pss_one ps_never) pss_nil)))), ?_⟩
    obtain ⟨C, dx, fs, hC, hp, lf, lm⟩ := A.cls hat
    have r16 := r.n16
    have x1 := base_lt b1
    have x2 := base_lt b2
    have l1 := nodup_le b1.nd x1
    have l2 := nodup_le b2.nd x2
    refine ⟨_, rfl, C, hC, _, rfl, p, dx, fs, rfl, hp, lm, ⟨p, dx, fs, _, rfl, hp⟩, p, r, rfl, hat, fun H1 s1 => ?_⟩
    have ha' := s1 _ _ ha
    rw [nv_ints] at ha'
    refine ⟨a, _, _, rfl, ha', nats_in x1, nd_cast b1.nd, by rw [List.length_map]; omega, fun H2 s2 => ?_⟩
    have s12 := s1.trans s2
    refine ⟨_, rfl, C, hC, _, rfl, p, dx, fs, rfl, s12 _ _ hp, lm, ⟨p, dx, fs, _, rfl, s12 _ _ hp⟩, p, r, rfl, A.same s12 hat, fun H3 s3 => ?_⟩
    have s13 := s12.trans s3
    have hb' := s13 _ _ hb
    rw [nv_ints] at hb'
    refine ⟨b, _, _, rfl, hb', nats_in x2, nd_cast b2.nd, by rw [List.length_map]; omega, fun H4 s4 => ?_⟩
    have s14 := s13.trans s4
    refine ⟨_, rfl, _, rfl, p, a, r, one, rfl, A.same s14 hat, s14 _ _ ha, b1.nd, x1, fun H5 c1 s5 e1 => ?_⟩
    have c1t : c1 = true := e1.mpr b1
    subst c1t
    have s15 := s14.trans s5
    refine ⟨true, rfl, iteF ⟨_, rfl, _, rfl, p, b, r, other, rfl, A.same s15 hat, s15 _ _ hb, b2.nd, x2, fun H6 c2 s6 e2 => ?_⟩⟩
    have c2t : c2 = true := e2.mpr b2
    subst c2t
    exact ⟨true, rfl, iteF (q _ (s15.trans s6))⟩
def spChanged : Sp := fun vs H Q _ => ∃ (a : Addr) (xs : List Nat) (x y : Nat), vs = [.ref a, nv x, nv y] ∧ H a = some (.lst (xs.map nv)) ∧ xs.Nodup ∧ xs.length ≤ 900 ∧ ∀ H' q, Same H H' → H q = none → H' q = some (.lst ((xs.erase x ++ [y]).map nv)) → Q (.ref q) H'
theorem ok_changed (F : L2.Fun K "changed" "changed" s_changed f fd) (g : mg "changed" = some (.ref f)) (c_without : C8.Cal P w K mg base 1 "without" spWithout []) : C8.Cal P w K mg base 2 "changed" spChanged [] := by
  refine ⟨f, fd, ["some", "goer", "comer"], [], F.ok sc_changed (fun vs H Q E h => ?_) (fun cdv A' outer s H vs Q E hr h => ?_), g, F.kp, F.binds (ps := ["some", "goer", "comer"]) (fun _ _ _ _ _ _ us hl => match us, hl with | [_, _, _], _ => rfl), .nil⟩
  · obtain ⟨a, xs, x, y, rfl, _⟩ := h
    rfl
  · obtain ⟨a, xs, x, y, rfl, ha, nd, hl, q⟩ := h
    refine ⟨_, (pss_one (ps_ret (pe_op op_cat (C8.pe_c c_without hr (by first | decide | exact Nat.le_refl _ | omega) rfl (pa_cons (pv 0) (pa_cons (pv 1) pa_nil))) (pe_lst (pa_cons (pv 2) pa_nil))))), ?_⟩
    refine ⟨_, rfl, _, rfl, a, xs, x, rfl, ha, by omega, fun H1 w1 s1 n1 h1 => ?_⟩
    rw [filter_erase nd] at h1
    refine ⟨_, rfl, (by show 1 ≤ sizeLine; decide), fun u hu => ?_⟩
    have su : Same H1 (upd H1 u (.lst [nv y])) := same_upd hu
    refine ⟨w1, u, _, _, rfl, rfl, su _ _ h1, upd_same, ?_, fun t ht => ?_⟩
    · rw [List.length_map]
      have := List.length_erase_le (a := x) (l := xs)
      exact Nat.le_of_lt (small1000 (by show (xs.erase x).length + 1 ≤ 1000; omega))
    have s2 := s1.trans su
    refine q _ t (s2.trans (same_upd ht)) (s2.free ht) ?_
    rw [List.map_append]
    exact upd_same
end
section
variable {P : Program} {w : World} {K : PySem.W.Frag} {mg : Str → Option Value} {base : Heap} {f : Addr} {fd : FuncData} {A : RK} {h k : Nat}
theorem swap_in {r : MT.Rl} {one other : List Nat} {x y : Nat} (b1 : MT.Base r.F (List.range r.n) one) (b2 : MT.Base r.F (List.range r.n) other) (yo : y ∈ other) (yn : y ∉ one) : (one.erase x ++ [y]).Nodup ∧ ∀ z ∈ one.erase x ++ [y], z < r.n :=
  ⟨MT.nd_snoc (MT.nd_erase b1.nd x) fun h => yn (List.mem_of_mem_erase h), fun z hz => by
    rcases List.mem_append.mp hz with e | e
    · exact base_lt b1 z (List.mem_of_mem_erase e)
    · rw [List.mem_singleton.mp e]; exact base_lt b2 y yo⟩
theorem ok_bothWays (B : Bl mg) (k4 : 4 ≤ k) (F : L2.Fun K "both_ways" "both_ways" s_both_ways f fd) (g : mg "both_ways" = some (.ref f)) (m_many : MetG P w K mg base k A.S "many" (spManyG A h)) (m_free : MetG P w K mg base k A.S "free" (spFreeG A h)) (c_check_thing : C8.Cal P w K mg base 3 "check_thing" spThing [])
    (c_check_wholes : C8.Cal P w K mg base (k + 4) "check_wholes" (spWholes A h) []) (c_changed : C8.Cal P w K mg base 2 "changed" spChanged []) : C8.Cal P w K mg base (k + 5) "both_ways" (spBoth A h) [] := by
  refine ⟨f, fd, ["rule", "one", "other", "thing"], [], F.ok sc_both_ways (fun vs H Q E h => ?_) (fun cdv A' outer s H vs Q E hr h => ?_), g, F.kp, F.binds (ps := ["rule", "one", "other", "thing"]) (fun _ _ _ _ _ _ us hl => match us, hl with | [_, _, _, _], _ => rfl), .nil⟩
  · obtain ⟨p, a, b, r, one, other, x, rfl, _⟩ := h
    rfl
  · obtain ⟨p, a, b, r, one, other, x, rfl, hat, ha, hb, b1, b2, xo, xt, q⟩ := h
    refine ⟨_, (pss_cons (ps_expr (C8.pe_c c_check_wholes hr (by first | decide | exact Nat.le_refl _ | omega) rfl (pa_cons (pv 0) (pa_cons (pv 1) (pa_cons (pv 2) pa_nil)))))
      (pss_cons (ps_expr (C8.pe_c c_check_thing hr (by first | decide | exact Nat.le_refl _ | omega) rfl (pa_cons (pv 3) (pa_cons (pe_mt0G (pl := _) m_many hr (by first | decide | omega) (pv 0)) pa_nil))))
      (pss_cons (ps_if (PW.pt (pw_or (pt_cmpR op_notIn_seq (pv 3) (pv 1) (by rfl)) (pw_or1 (pt_cmpR op_in_seq (pv 3) (pv 2) (by rfl))))) (pss_one ps_never) pss_nil)
      (pss_cons (ps_setLc (i := 4) (own := [("mate", 5)]) rfl sc_both_ways.nd rfl rfl (sw_true rfl rfl rfl (by decide +kernel)) (pi_list (pe_callB cr_sorted (by rfl) B.sorted_ (by decide +kernel) (pa_cons (pv 2) pa_nil))) (blkOk_by (own := [("mate", 5)]) (N := n_both_ways) (sc := defScope s_both_ways) (by decide +kernel)) (fun _ _ _ _ _ => (pg_name (i := 5) sc_both_ways.nd rfl (Or.inl rfl))) (fun _ _ _ _ _ => (pts_one (PW.pt (pw_and (pt_cmpR (op_notInK (K := K) rfl) (pv 5) (pv 1) (by rfl)) (pw_and1 (pt_val (pe_mtG (pl := _) m_free hr (by first | decide | omega) (pv 0) (pa_cons (C8.pe_c c_changed hr (by first | decide | exact Nat.le_refl _ | omega) rfl (pa_cons (pv 1) (pa_cons (pv 3) (pa_cons (pv 5) pa_nil)))) pa_nil)))))))) (fun _ _ _ _ _ => (pv 5)))
      (pss_one (ps_ret (pe_ix (r := rIxL K) ix_list (pe_lc (own := [("mate", 5)]) rfl sc_both_ways.nd (pi_list (pv 4)) (blkOk_by (own := [("mate", 5)]) (N := n_both_ways) (sc := defScope s_both_ways) (by decide +kernel)) (fun _ _ _ _ _ => (pg_name (i := 5) sc_both_ways.nd rfl (Or.inl rfl))) (fun _ _ _ _ _ => (pts_one (pt_val (pe_mtG (pl := _) m_free hr (by first | decide | omega) (pv 0) (pa_cons (C8.pe_c c_changed hr (by first | decide | exact Nat.le_refl _ | omega) rfl (pa_cons (pv 2) (pa_cons (pv 5) (pa_cons (pv 3) pa_nil)))) pa_nil))))) (fun _ _ _ _ _ => (pv 5))) pe_int (fun _ _ => rfl)))))))), ?_⟩
    obtain ⟨C, dx, fs, hC, hp, lf, lm⟩ := A.cls hat
    have r16 := r.n16
    have x1 := base_lt b1
    have x2 := base_lt b2
    have l1 := nodup_le b1.nd x1
    have l2 := nodup_le b2.nd x2
    have xn := x1 x xo
    refine ⟨_, rfl, _, rfl, _, rfl, p, a, b, r, one, other, rfl, hat, ha, hb, b1, b2, fun H1 s1 => ?_⟩
    refine ⟨_, rfl, C, hC, _, rfl, p, dx, fs, rfl, s1 _ _ hp, lm, ⟨p, dx, fs, _, rfl, s1 _ _ hp⟩, p, r, rfl, A.same s1 hat, fun H2 s2 => ?_⟩
    have s12 := s1.trans s2
    refine ⟨_, _, rfl, by omega, by omega, ?_⟩
    refine ⟨_, rfl, _, rfl, a, _, rfl, .inl (SqL.of (s12 _ _ ha)), rfl, flat_nats _, false, ?_, iteF ?_⟩
    · rw [if_pos rfl]
      exact (congrArg (fun b => V.bl (!b)) (in_nats x one)).trans (by rw [decide_eq_true xo]; rfl)
    refine ⟨_, rfl, _, rfl, b, _, rfl, .inl (SqL.of (s12 _ _ hb)), rfl, flat_nats _, false, ?_, iteF ?_⟩
    · rw [if_neg Bool.false_ne_true]
      exact (congrArg V.bl (in_nats x other)).trans (by rw [decide_eq_false xt])
    -- mates
    have hb' := s12 _ _ hb
    rw [nv_ints] at hb'
    refine ⟨_, rfl, b, _, rfl, SqL.of hb', by rw [List.length_map]; omega, fun ns z pz pw nz => ?_⟩
    obtain ⟨ys, ey, py, pwy⟩ := sorted_nats pz pw b2.nd
    rw [ey]
    have s3 : Same H2 (upd H2 z (.lst (ys.map nv))) := same_upd nz
    have hz : (upd H2 z (HO.lst (ys.map nv))) z = some (.lst (ys.map nv)) := upd_same
    generalize upd H2 z (HO.lst (ys.map nv)) = H3 at s3 hz
    have s13 := s12.trans s3
    have yl := py.length_eq
    refine ⟨z, rfl, ⟨_, SqL.of hz⟩, fun D hD => lc_list (K := K) (a := z) (xs := ys.map nv) (fun j H4 => Same H3 H4 ∧ H4 D = some (.lst (((ys.take j).filter fun y => !decide (y ∈ one) && r.f (one.erase x ++ [y])).map nv)))
      ⟨same_upd hD, upd_same⟩ (fun j H4 _ p => SqL.of (p.1 _ _ hz)) ?_ ?_⟩
    · rintro j y H4 hj ⟨s4, hA⟩
      obtain ⟨y, ez, rfl⟩ := map_at hj
      have ll : ((ys.take j).filter fun y => !decide (y ∈ one) && r.f (one.erase x ++ [y])).length ≤ 16 := by
        have := List.length_filter_le (fun y => !decide (y ∈ one) && r.f (one.erase x ++ [y])) (ys.take j)
        rw [List.length_take] at this
        omega
      have s14 := s13.trans s4
      have yo : y ∈ other := py.mem_iff.mp (List.mem_of_getElem? ez)
      refine ⟨rfl, ?_⟩
      refine ⟨_, rfl, _, rfl, a, _, rfl, .inl (SqL.of (s14 _ _ ha)), rfl, flat_nats _, !decide (y ∈ one), ?_, ?_⟩
      · rw [if_pos rfl]
        exact congrArg (fun b => V.bl (!b)) (in_nats y one)
      by_cases c1 : y ∈ one
      · rw [decide_eq_true c1]
        refine iteF (iteF ⟨s4, ?_⟩)
        rw [take_more ez, List.filter_append, List.filter_cons_of_neg (by simp [c1]), List.filter_nil, List.append_nil]
        exact hA
      · rw [decide_eq_false c1]
        obtain ⟨m1, m2⟩ := swap_in (x := x) b1 b2 yo c1
        refine iteT ⟨C, hC, _, rfl, p, dx, fs, rfl, s14 _ _ hp, lf, _, rfl, _, rfl, _, rfl, a, one, x, y, rfl, s14 _ _ ha, b1.nd, by omega, fun H5 w5 s5 n5 h5 => ?_⟩
        have s15 := s14.trans s5
        refine ⟨⟨p, dx, fs, _, rfl, s15 _ _ hp⟩, p, w5, r, one.erase x ++ [y], rfl, A.same s15 hat, h5, m1, m2, fun H6 c s6 hc => ⟨c, rfl, ?_⟩⟩
        have fb := MT.Rl.f_eq hc
        have s46 := s5.trans s6
        cases c with
        | true =>
          refine iteT ⟨_, rfl, _, s46 _ _ hA, by rw [List.length_map]; exact small1000 (by omega), same_to (s4.trans s46) hD, ?_⟩
          rw [take_more ez, List.filter_append, List.filter_cons_of_pos (by rw [fb, decide_eq_false c1]; rfl), List.filter_nil, List.map_append]
          exact upd_same
        | false =>
          refine iteF ⟨s4.trans s46, ?_⟩
          rw [take_more ez, List.filter_append, List.filter_cons_of_neg (by rw [fb, decide_eq_false c1]; decide), List.filter_nil, List.append_nil]
          exact s46 _ _ hA
    rintro H4 ⟨s4, hA⟩
    rw [List.length_map, List.take_length] at hA
    generalize em : (ys.filter fun y => !decide (y ∈ one) && r.f (one.erase x ++ [y])) = ms at hA
    have s14 := s13.trans s4
    have mm : ∀ y, y ∈ ms ↔ y ∈ other ∧ y ∉ one ∧ r.F (one.erase x ++ [y]) := fun y => by
      rw [← em, List.mem_filter, py.mem_iff, Bool.and_eq_true, MT.Rl.f_iff]
      simp
    have ml : ms.length ≤ 16 := by
      rw [← em]
      have := List.length_filter_le (fun y => !decide (y ∈ one) && r.f (one.erase x ++ [y])) ys
      omega
    -- the first that fits the other way
    refine ⟨_, rfl, D, rfl, ⟨_, SqL.of hA⟩, fun D2 hD2 => lc_list (K := K) (a := D) (xs := ms.map nv) (fun j H5 => Same H4 H5 ∧ H5 D2 = some (.lst (((ms.take j).filter fun y => r.f (other.erase y ++ [x])).map nv)))
      ⟨same_upd hD2, upd_same⟩ (fun j H5 _ p => SqL.of (p.1 _ _ hA)) ?_ ?_⟩
    · rintro j y H5 hj ⟨s5, hA2⟩
      obtain ⟨y, ez, rfl⟩ := map_at hj
      obtain ⟨yo, yn, yf⟩ := (mm y).mp (List.mem_of_getElem? ez)
      have ll : ((ms.take j).filter fun y => r.f (other.erase y ++ [x])).length ≤ 16 := by
        have := List.length_filter_le (fun y => r.f (other.erase y ++ [x])) (ms.take j)
        rw [List.length_take] at this
        omega
      have s15 := s14.trans s5
      obtain ⟨m1, m2⟩ := swap_in (x := y) b2 b1 xo xt
      refine ⟨rfl, ?_⟩
      refine ⟨C, hC, _, rfl, p, dx, fs, rfl, s15 _ _ hp, lf, _, rfl, _, rfl, _, rfl, b, other, y, x, rfl, s15 _ _ hb, b2.nd, by omega, fun H6 w6 s6 n6 h6 => ?_⟩
      have s16 := s15.trans s6
      refine ⟨⟨p, dx, fs, _, rfl, s16 _ _ hp⟩, p, w6, r, other.erase y ++ [x], rfl, A.same s16 hat, h6, m1, m2, fun H7 c s7 hc => ⟨c, rfl, ?_⟩⟩
      have fb := MT.Rl.f_eq hc
      have s57 := s6.trans s7
      cases c with
      | true =>
        refine iteT ⟨_, rfl, _, s57 _ _ hA2, by rw [List.length_map]; exact small1000 (by omega), same_to (s5.trans s57) hD2, ?_⟩
        rw [take_more ez, List.filter_append, List.filter_cons_of_pos (p := fun y => r.f (other.erase y ++ [x])) fb, List.filter_nil, List.map_append]
        exact upd_same
      | false =>
        refine iteF ⟨s5.trans s57, ?_⟩
        rw [take_more ez, List.filter_append, List.filter_cons_of_neg (p := fun y => r.f (other.erase y ++ [x])) (by rw [fb]; decide), List.filter_nil, List.append_nil]
        exact s57 _ _ hA2
    rintro H5 ⟨s5, hA2⟩
    rw [List.length_map, List.take_length] at hA2
    obtain ⟨y, y1, y2, y3, y4⟩ := MT.Base.both r.mat List.nodup_range b1 b2 xo xt
    have f1 : r.F (one.erase x ++ [y]) := (r.mat.perm (swap_in (x := x) b1 b2 y1 y2).1 (List.perm_append_singleton y (one.erase x))).mpr y3.free
    have f2 : r.F (other.erase y ++ [x]) := (r.mat.perm (swap_in (x := y) b2 b1 xo xt).1 (List.perm_append_singleton x (other.erase y))).mpr y4.free
    have yin : y ∈ (ms.filter fun y => r.f (other.erase y ++ [x])) := List.mem_filter.mpr ⟨(mm y).mpr ⟨y1, y2, f1⟩, MT.Rl.f_iff.mpr f2⟩
    generalize el : (ms.filter fun y => r.f (other.erase y ++ [x])) = ls at hA2 yin
    have lm : ∀ z ∈ ls, z ∈ other ∧ z ∉ one ∧ r.F (one.erase x ++ [z]) ∧ r.F (other.erase z ++ [x]) := fun z hz => by
      rw [← el, List.mem_filter, mm, MT.Rl.f_iff] at hz
      exact ⟨hz.1.1, hz.1.2.1, hz.1.2.2, hz.2⟩
    match ls, yin, hA2, lm with
    | t :: ls, _, hA2, lm =>
      obtain ⟨t1, t2, t3, t4⟩ := lm t (List.mem_cons_self ..)
      refine ⟨D2, _, _, _, rfl, rfl, SqL.of hA2, (atI_nat (xs := (t :: ls).map nv) (j := 0) (v := nv t) rfl), ?_⟩
      refine q _ t (s14.trans s5) t1 t2 ?_ ?_
      · exact (r.mat.perm (swap_in (x := x) b1 b2 t1 t2).1 (List.perm_append_singleton t (one.erase x))).mp t3
      · exact (r.mat.perm (swap_in (x := t) b2 b1 xo xt).1 (List.perm_append_singleton x (other.erase t))).mp t4
end
/-- two classes whose methods have other names are two -/
theorem apart {K : PySem.W.Frag} {C D f g : Addr} {m q1 q2 : Str} {oc1 dV1 kV1 dc1 pm1 cd1 ct1 oc2 dV2 kV2 dc2 pm2 cd2 ct2 : Value} {od1 an1 od2 an2 : Option Addr} {sl1 sl2 : Array (Option Value)} {n1 n2 : Str} {a1 a2 : Arguments} {b1 b2 : List Stmt} {s1 s2 : Scope}
    (h1 : PySem.W.findIn K (.ref C) m = some (some (.ref f))) (h2 : PySem.W.findIn K (.ref D) m = some (some (.ref g))) (k1 : K.lookup f = some ⟨oc1, od1, .func (PySem.W.fnOf n1 q1 a1 b1 s1 dV1 kV1 dc1 pm1 an1 cd1 ct1), sl1⟩)
    (k2 : K.lookup g = some ⟨oc2, od2, .func (PySem.W.fnOf n2 q2 a2 b2 s2 dV2 kV2 dc2 pm2 an2 cd2 ct2), sl2⟩) (ne : q1 ≠ q2) : C ≠ D := by
  intro e
  subst e
  rw [h1] at h2
  injection h2 with h2
  injection h2 with h2
  injection h2 with h2
  subst h2
  rw [k1] at k2
  injection k2 with k2
  injection k2 with _ _ k3 _
  injection k3 with k3
  have : (PySem.W.fnOf n1 q1 a1 b1 s1 dV1 kV1 dc1 pm1 an1 cd1 ct1).qualname = (PySem.W.fnOf n2 q2 a2 b2 s2 dV2 kV2 dc2 pm2 an2 cd2 ct2).qualname := by rw [k3]
  exact ne this
theorem all_mk {l : PySem.W.OpenLaw} {w : World} {K : PySem.W.Frag} {h : Heap} {mg : Str → Option Value} {fa f_is_number f_is_within f_check_thing f_check_set f_check_ground f_are_within f_is_tie f_are_posts f_gets_post f_rank f_grown f_ring f_without f_whole f_is_whole f_both_ways f_check_wholes f_changed f__law_cell_at f__law_rows f__law_wants f__law_stretches f__law_rank f__law_ring f__law_three f__law_trees f_law f_Threads___init__ f_Threads_many f_Threads_free f_Posts___init__ f_Posts_many f_Posts_free C_Threads C_Posts C_Rule : Addr}
    {od_is_number an_is_number : Option Addr} {sl_is_number : Array (Option Value)} {oc_is_number kV_is_number dc_is_number pm_is_number cd_is_number ct_is_number : Value}
    {od_is_within an_is_within : Option Addr} {sl_is_within : Array (Option Value)} {oc_is_within kV_is_within dc_is_within pm_is_within cd_is_within ct_is_within : Value}
    {od_check_thing an_check_thing : Option Addr} {sl_check_thing : Array (Option Value)} {oc_check_thing kV_check_thing dc_check_thing pm_check_thing cd_check_thing ct_check_thing : Value}
    {od_check_set an_check_set : Option Addr} {sl_check_set : Array (Option Value)} {oc_check_set kV_check_set dc_check_set pm_check_set cd_check_set ct_check_set : Value}
    {od_check_ground an_check_ground : Option Addr} {sl_check_ground : Array (Option Value)} {oc_check_ground kV_check_ground dc_check_ground pm_check_ground cd_check_ground ct_check_ground : Value}
    {od_are_within an_are_within : Option Addr} {sl_are_within : Array (Option Value)} {oc_are_within kV_are_within dc_are_within pm_are_within cd_are_within ct_are_within : Value}
    {od_is_tie an_is_tie : Option Addr} {sl_is_tie : Array (Option Value)} {oc_is_tie kV_is_tie dc_is_tie pm_is_tie cd_is_tie ct_is_tie : Value}
    {od_are_posts an_are_posts : Option Addr} {sl_are_posts : Array (Option Value)} {oc_are_posts kV_are_posts dc_are_posts pm_are_posts cd_are_posts ct_are_posts : Value}
    {od_gets_post an_gets_post : Option Addr} {sl_gets_post : Array (Option Value)} {oc_gets_post kV_gets_post dc_gets_post pm_gets_post cd_gets_post ct_gets_post : Value}
    {od_rank an_rank : Option Addr} {sl_rank : Array (Option Value)} {oc_rank kV_rank dc_rank pm_rank cd_rank ct_rank : Value}
    {od_grown an_grown : Option Addr} {sl_grown : Array (Option Value)} {oc_grown kV_grown dc_grown pm_grown cd_grown ct_grown : Value}
    {od_ring an_ring : Option Addr} {sl_ring : Array (Option Value)} {oc_ring kV_ring dc_ring pm_ring cd_ring ct_ring : Value}
    {od_without an_without : Option Addr} {sl_without : Array (Option Value)} {oc_without kV_without dc_without pm_without cd_without ct_without : Value}
    {od_whole an_whole : Option Addr} {sl_whole : Array (Option Value)} {oc_whole kV_whole dc_whole pm_whole cd_whole ct_whole : Value}
    {od_is_whole an_is_whole : Option Addr} {sl_is_whole : Array (Option Value)} {oc_is_whole kV_is_whole dc_is_whole pm_is_whole cd_is_whole ct_is_whole : Value}
    {od_both_ways an_both_ways : Option Addr} {sl_both_ways : Array (Option Value)} {oc_both_ways kV_both_ways dc_both_ways pm_both_ways cd_both_ways ct_both_ways : Value}
    {od_check_wholes an_check_wholes : Option Addr} {sl_check_wholes : Array (Option Value)} {oc_check_wholes kV_check_wholes dc_check_wholes pm_check_wholes cd_check_wholes ct_check_wholes : Value}
    {od_changed an_changed : Option Addr} {sl_changed : Array (Option Value)} {oc_changed kV_changed dc_changed pm_changed cd_changed ct_changed : Value}
    {od__law_cell_at an__law_cell_at : Option Addr} {sl__law_cell_at : Array (Option Value)} {oc__law_cell_at kV__law_cell_at dc__law_cell_at pm__law_cell_at cd__law_cell_at ct__law_cell_at : Value}
    {od__law_rows an__law_rows : Option Addr} {sl__law_rows : Array (Option Value)} {oc__law_rows kV__law_rows dc__law_rows pm__law_rows cd__law_rows ct__law_rows : Value}
    {od__law_wants an__law_wants : Option Addr} {sl__law_wants : Array (Option Value)} {oc__law_wants kV__law_wants dc__law_wants pm__law_wants cd__law_wants ct__law_wants : Value}
    {od__law_stretches an__law_stretches : Option Addr} {sl__law_stretches : Array (Option Value)} {oc__law_stretches kV__law_stretches dc__law_stretches pm__law_stretches cd__law_stretches ct__law_stretches : Value}
    {od__law_rank an__law_rank : Option Addr} {sl__law_rank : Array (Option Value)} {oc__law_rank kV__law_rank dc__law_rank pm__law_rank cd__law_rank ct__law_rank : Value}
    {od__law_ring an__law_ring : Option Addr} {sl__law_ring : Array (Option Value)} {oc__law_ring kV__law_ring dc__law_ring pm__law_ring cd__law_ring ct__law_ring : Value}
    {od__law_three an__law_three : Option Addr} {sl__law_three : Array (Option Value)} {oc__law_three kV__law_three dc__law_three pm__law_three cd__law_three ct__law_three : Value}
    {od__law_trees an__law_trees : Option Addr} {sl__law_trees : Array (Option Value)} {oc__law_trees kV__law_trees dc__law_trees pm__law_trees cd__law_trees ct__law_trees : Value}
    {od_law an_law : Option Addr} {sl_law : Array (Option Value)} {oc_law kV_law dc_law pm_law cd_law ct_law : Value}
    {od_Threads___init__ an_Threads___init__ : Option Addr} {sl_Threads___init__ : Array (Option Value)} {oc_Threads___init__ kV_Threads___init__ dc_Threads___init__ pm_Threads___init__ cd_Threads___init__ ct_Threads___init__ : Value}
    {od_Threads_many an_Threads_many : Option Addr} {sl_Threads_many : Array (Option Value)} {oc_Threads_many kV_Threads_many dc_Threads_many pm_Threads_many cd_Threads_many ct_Threads_many : Value}
    {od_Threads_free an_Threads_free : Option Addr} {sl_Threads_free : Array (Option Value)} {oc_Threads_free kV_Threads_free dc_Threads_free pm_Threads_free cd_Threads_free ct_Threads_free : Value}
    {od_Posts___init__ an_Posts___init__ : Option Addr} {sl_Posts___init__ : Array (Option Value)} {oc_Posts___init__ kV_Posts___init__ dc_Posts___init__ pm_Posts___init__ cd_Posts___init__ ct_Posts___init__ : Value}
    {od_Posts_many an_Posts_many : Option Addr} {sl_Posts_many : Array (Option Value)} {oc_Posts_many kV_Posts_many dc_Posts_many pm_Posts_many cd_Posts_many ct_Posts_many : Value}
    {od_Posts_free an_Posts_free : Option Addr} {sl_Posts_free : Array (Option Value)} {oc_Posts_free kV_Posts_free dc_Posts_free pm_Posts_free cd_Posts_free ct_Posts_free : Value}
    {t_MOST_THINGS : Tok}
    {t_MOST_PLACES : Tok}
    {t_HIGHEST_POST : Tok} (X : K.In h) (G : h.Ns mainGlobals mg) (hfa : mg "law" = some (.ref fa))
    (aC_Threads : PySem.W.nsIn K mainGlobals "Threads" = some (some (.ref C_Threads)))
    (aC_Posts : PySem.W.nsIn K mainGlobals "Posts" = some (some (.ref C_Posts)))
    (aC_Rule : PySem.W.nsIn K mainGlobals "Rule" = some (some (.ref C_Rule)))
    (a_is_number : PySem.W.nsIn K mainGlobals "is_number" = some (some (.ref f_is_number)))
    (l_is_number : K.lookup f_is_number = some ⟨oc_is_number, od_is_number, .func (PySem.W.fnOf "is_number" "is_number" (defArgs s_is_number) (defBody s_is_number) (defScope s_is_number) .none kV_is_number dc_is_number pm_is_number an_is_number cd_is_number ct_is_number), sl_is_number⟩)
    (c_is_number : PySem.W.codeIn K cd_is_number "is_number" = true)
    (k_is_number : PySem.W.keepIn K (.ref f_is_number) = true)
    (a_is_within : PySem.W.nsIn K mainGlobals "is_within" = some (some (.ref f_is_within)))
    (l_is_within : K.lookup f_is_within = some ⟨oc_is_within, od_is_within, .func (PySem.W.fnOf "is_within" "is_within" (defArgs s_is_within) (defBody s_is_within) (defScope s_is_within) .none kV_is_within dc_is_within pm_is_within an_is_within cd_is_within ct_is_within), sl_is_within⟩)
    (c_is_within : PySem.W.codeIn K cd_is_within "is_within" = true)
    (k_is_within : PySem.W.keepIn K (.ref f_is_within) = true)
    (a_check_thing : PySem.W.nsIn K mainGlobals "check_thing" = some (some (.ref f_check_thing)))
    (l_check_thing : K.lookup f_check_thing = some ⟨oc_check_thing, od_check_thing, .func (PySem.W.fnOf "check_thing" "check_thing" (defArgs s_check_thing) (defBody s_check_thing) (defScope s_check_thing) .none kV_check_thing dc_check_thing pm_check_thing an_check_thing cd_check_thing ct_check_thing), sl_check_thing⟩)
    (c_check_thing : PySem.W.codeIn K cd_check_thing "check_thing" = true)
    (k_check_thing : PySem.W.keepIn K (.ref f_check_thing) = true)
    (a_check_set : PySem.W.nsIn K mainGlobals "check_set" = some (some (.ref f_check_set)))
    (l_check_set : K.lookup f_check_set = some ⟨oc_check_set, od_check_set, .func (PySem.W.fnOf "check_set" "check_set" (defArgs s_check_set) (defBody s_check_set) (defScope s_check_set) .none kV_check_set dc_check_set pm_check_set an_check_set cd_check_set ct_check_set), sl_check_set⟩)
    (c_check_set : PySem.W.codeIn K cd_check_set "check_set" = true)
    (k_check_set : PySem.W.keepIn K (.ref f_check_set) = true)
    (a_check_ground : PySem.W.nsIn K mainGlobals "check_ground" = some (some (.ref f_check_ground)))
    (l_check_ground : K.lookup f_check_ground = some ⟨oc_check_ground, od_check_ground, .func (PySem.W.fnOf "check_ground" "check_ground" (defArgs s_check_ground) (defBody s_check_ground) (defScope s_check_ground) .none kV_check_ground dc_check_ground pm_check_ground an_check_ground cd_check_ground ct_check_ground), sl_check_ground⟩)
    (c_check_ground : PySem.W.codeIn K cd_check_ground "check_ground" = true)
    (k_check_ground : PySem.W.keepIn K (.ref f_check_ground) = true)
    (a_are_within : PySem.W.nsIn K mainGlobals "are_within" = some (some (.ref f_are_within)))
    (l_are_within : K.lookup f_are_within = some ⟨oc_are_within, od_are_within, .func (PySem.W.fnOf "are_within" "are_within" (defArgs s_are_within) (defBody s_are_within) (defScope s_are_within) .none kV_are_within dc_are_within pm_are_within an_are_within cd_are_within ct_are_within), sl_are_within⟩)
    (c_are_within : PySem.W.codeIn K cd_are_within "are_within" = true)
    (k_are_within : PySem.W.keepIn K (.ref f_are_within) = true)
    (a_is_tie : PySem.W.nsIn K mainGlobals "is_tie" = some (some (.ref f_is_tie)))
    (l_is_tie : K.lookup f_is_tie = some ⟨oc_is_tie, od_is_tie, .func (PySem.W.fnOf "is_tie" "is_tie" (defArgs s_is_tie) (defBody s_is_tie) (defScope s_is_tie) .none kV_is_tie dc_is_tie pm_is_tie an_is_tie cd_is_tie ct_is_tie), sl_is_tie⟩)
    (c_is_tie : PySem.W.codeIn K cd_is_tie "is_tie" = true)
    (k_is_tie : PySem.W.keepIn K (.ref f_is_tie) = true)
    (a_are_posts : PySem.W.nsIn K mainGlobals "are_posts" = some (some (.ref f_are_posts)))
    (l_are_posts : K.lookup f_are_posts = some ⟨oc_are_posts, od_are_posts, .func (PySem.W.fnOf "are_posts" "are_posts" (defArgs s_are_posts) (defBody s_are_posts) (defScope s_are_posts) .none kV_are_posts dc_are_posts pm_are_posts an_are_posts cd_are_posts ct_are_posts), sl_are_posts⟩)
    (c_are_posts : PySem.W.codeIn K cd_are_posts "are_posts" = true)
    (k_are_posts : PySem.W.keepIn K (.ref f_are_posts) = true)
    (a_gets_post : PySem.W.nsIn K mainGlobals "gets_post" = some (some (.ref f_gets_post)))
    (l_gets_post : K.lookup f_gets_post = some ⟨oc_gets_post, od_gets_post, .func (PySem.W.fnOf "gets_post" "gets_post" (defArgs s_gets_post) (defBody s_gets_post) (defScope s_gets_post) .none kV_gets_post dc_gets_post pm_gets_post an_gets_post cd_gets_post ct_gets_post), sl_gets_post⟩)
    (c_gets_post : PySem.W.codeIn K cd_gets_post "gets_post" = true)
    (k_gets_post : PySem.W.keepIn K (.ref f_gets_post) = true)
    (a_rank : PySem.W.nsIn K mainGlobals "rank" = some (some (.ref f_rank)))
    (l_rank : K.lookup f_rank = some ⟨oc_rank, od_rank, .func (PySem.W.fnOf "rank" "rank" (defArgs s_rank) (defBody s_rank) (defScope s_rank) .none kV_rank dc_rank pm_rank an_rank cd_rank ct_rank), sl_rank⟩)
    (c_rank : PySem.W.codeIn K cd_rank "rank" = true)
    (k_rank : PySem.W.keepIn K (.ref f_rank) = true)
    (a_grown : PySem.W.nsIn K mainGlobals "grown" = some (some (.ref f_grown)))
    (l_grown : K.lookup f_grown = some ⟨oc_grown, od_grown, .func (PySem.W.fnOf "grown" "grown" (defArgs s_grown) (defBody s_grown) (defScope s_grown) .none kV_grown dc_grown pm_grown an_grown cd_grown ct_grown), sl_grown⟩)
    (c_grown : PySem.W.codeIn K cd_grown "grown" = true)
    (k_grown : PySem.W.keepIn K (.ref f_grown) = true)
    (a_ring : PySem.W.nsIn K mainGlobals "ring" = some (some (.ref f_ring)))
    (l_ring : K.lookup f_ring = some ⟨oc_ring, od_ring, .func (PySem.W.fnOf "ring" "ring" (defArgs s_ring) (defBody s_ring) (defScope s_ring) .none kV_ring dc_ring pm_ring an_ring cd_ring ct_ring), sl_ring⟩)
    (c_ring : PySem.W.codeIn K cd_ring "ring" = true)
    (k_ring : PySem.W.keepIn K (.ref f_ring) = true)
    (a_without : PySem.W.nsIn K mainGlobals "without" = some (some (.ref f_without)))
    (l_without : K.lookup f_without = some ⟨oc_without, od_without, .func (PySem.W.fnOf "without" "without" (defArgs s_without) (defBody s_without) (defScope s_without) .none kV_without dc_without pm_without an_without cd_without ct_without), sl_without⟩)
    (c_without : PySem.W.codeIn K cd_without "without" = true)
    (k_without : PySem.W.keepIn K (.ref f_without) = true)
    (a_whole : PySem.W.nsIn K mainGlobals "whole" = some (some (.ref f_whole)))
    (l_whole : K.lookup f_whole = some ⟨oc_whole, od_whole, .func (PySem.W.fnOf "whole" "whole" (defArgs s_whole) (defBody s_whole) (defScope s_whole) .none kV_whole dc_whole pm_whole an_whole cd_whole ct_whole), sl_whole⟩)
    (c_whole : PySem.W.codeIn K cd_whole "whole" = true)
    (k_whole : PySem.W.keepIn K (.ref f_whole) = true)
    (a_is_whole : PySem.W.nsIn K mainGlobals "is_whole" = some (some (.ref f_is_whole)))
    (l_is_whole : K.lookup f_is_whole = some ⟨oc_is_whole, od_is_whole, .func (PySem.W.fnOf "is_whole" "is_whole" (defArgs s_is_whole) (defBody s_is_whole) (defScope s_is_whole) .none kV_is_whole dc_is_whole pm_is_whole an_is_whole cd_is_whole ct_is_whole), sl_is_whole⟩)
    (c_is_whole : PySem.W.codeIn K cd_is_whole "is_whole" = true)
    (k_is_whole : PySem.W.keepIn K (.ref f_is_whole) = true)
    (a_both_ways : PySem.W.nsIn K mainGlobals "both_ways" = some (some (.ref f_both_ways)))
    (l_both_ways : K.lookup f_both_ways = some ⟨oc_both_ways, od_both_ways, .func (PySem.W.fnOf "both_ways" "both_ways" (defArgs s_both_ways) (defBody s_both_ways) (defScope s_both_ways) .none kV_both_ways dc_both_ways pm_both_ways an_both_ways cd_both_ways ct_both_ways), sl_both_ways⟩)
    (c_both_ways : PySem.W.codeIn K cd_both_ways "both_ways" = true)
    (k_both_ways : PySem.W.keepIn K (.ref f_both_ways) = true)
    (a_check_wholes : PySem.W.nsIn K mainGlobals "check_wholes" = some (some (.ref f_check_wholes)))
    (l_check_wholes : K.lookup f_check_wholes = some ⟨oc_check_wholes, od_check_wholes, .func (PySem.W.fnOf "check_wholes" "check_wholes" (defArgs s_check_wholes) (defBody s_check_wholes) (defScope s_check_wholes) .none kV_check_wholes dc_check_wholes pm_check_wholes an_check_wholes cd_check_wholes ct_check_wholes), sl_check_wholes⟩)
    (c_check_wholes : PySem.W.codeIn K cd_check_wholes "check_wholes" = true)
    (k_check_wholes : PySem.W.keepIn K (.ref f_check_wholes) = true)
    (a_changed : PySem.W.nsIn K mainGlobals "changed" = some (some (.ref f_changed)))
    (l_changed : K.lookup f_changed = some ⟨oc_changed, od_changed, .func (PySem.W.fnOf "changed" "changed" (defArgs s_changed) (defBody s_changed) (defScope s_changed) .none kV_changed dc_changed pm_changed an_changed cd_changed ct_changed), sl_changed⟩)
    (c_changed : PySem.W.codeIn K cd_changed "changed" = true)
    (k_changed : PySem.W.keepIn K (.ref f_changed) = true)
    (a__law_cell_at : PySem.W.nsIn K mainGlobals "_law_cell_at" = some (some (.ref f__law_cell_at)))
    (l__law_cell_at : K.lookup f__law_cell_at = some ⟨oc__law_cell_at, od__law_cell_at, .func (PySem.W.fnOf "_law_cell_at" "_law_cell_at" (defArgs s__law_cell_at) (defBody s__law_cell_at) (defScope s__law_cell_at) .none kV__law_cell_at dc__law_cell_at pm__law_cell_at an__law_cell_at cd__law_cell_at ct__law_cell_at), sl__law_cell_at⟩)
    (c__law_cell_at : PySem.W.codeIn K cd__law_cell_at "_law_cell_at" = true)
    (k__law_cell_at : PySem.W.keepIn K (.ref f__law_cell_at) = true)
    (a__law_rows : PySem.W.nsIn K mainGlobals "_law_rows" = some (some (.ref f__law_rows)))
    (l__law_rows : K.lookup f__law_rows = some ⟨oc__law_rows, od__law_rows, .func (PySem.W.fnOf "_law_rows" "_law_rows" (defArgs s__law_rows) (defBody s__law_rows) (defScope s__law_rows) .none kV__law_rows dc__law_rows pm__law_rows an__law_rows cd__law_rows ct__law_rows), sl__law_rows⟩)
    (c__law_rows : PySem.W.codeIn K cd__law_rows "_law_rows" = true)
    (k__law_rows : PySem.W.keepIn K (.ref f__law_rows) = true)
    (a__law_wants : PySem.W.nsIn K mainGlobals "_law_wants" = some (some (.ref f__law_wants)))
    (l__law_wants : K.lookup f__law_wants = some ⟨oc__law_wants, od__law_wants, .func (PySem.W.fnOf "_law_wants" "_law_wants" (defArgs s__law_wants) (defBody s__law_wants) (defScope s__law_wants) .none kV__law_wants dc__law_wants pm__law_wants an__law_wants cd__law_wants ct__law_wants), sl__law_wants⟩)
    (c__law_wants : PySem.W.codeIn K cd__law_wants "_law_wants" = true)
    (k__law_wants : PySem.W.keepIn K (.ref f__law_wants) = true)
    (a__law_stretches : PySem.W.nsIn K mainGlobals "_law_stretches" = some (some (.ref f__law_stretches)))
    (l__law_stretches : K.lookup f__law_stretches = some ⟨oc__law_stretches, od__law_stretches, .func (PySem.W.fnOf "_law_stretches" "_law_stretches" (defArgs s__law_stretches) (defBody s__law_stretches) (defScope s__law_stretches) .none kV__law_stretches dc__law_stretches pm__law_stretches an__law_stretches cd__law_stretches ct__law_stretches), sl__law_stretches⟩)
    (c__law_stretches : PySem.W.codeIn K cd__law_stretches "_law_stretches" = true)
    (k__law_stretches : PySem.W.keepIn K (.ref f__law_stretches) = true)
    (a__law_rank : PySem.W.nsIn K mainGlobals "_law_rank" = some (some (.ref f__law_rank)))
    (l__law_rank : K.lookup f__law_rank = some ⟨oc__law_rank, od__law_rank, .func (PySem.W.fnOf "_law_rank" "_law_rank" (defArgs s__law_rank) (defBody s__law_rank) (defScope s__law_rank) .none kV__law_rank dc__law_rank pm__law_rank an__law_rank cd__law_rank ct__law_rank), sl__law_rank⟩)
    (c__law_rank : PySem.W.codeIn K cd__law_rank "_law_rank" = true)
    (k__law_rank : PySem.W.keepIn K (.ref f__law_rank) = true)
    (a__law_ring : PySem.W.nsIn K mainGlobals "_law_ring" = some (some (.ref f__law_ring)))
    (l__law_ring : K.lookup f__law_ring = some ⟨oc__law_ring, od__law_ring, .func (PySem.W.fnOf "_law_ring" "_law_ring" (defArgs s__law_ring) (defBody s__law_ring) (defScope s__law_ring) .none kV__law_ring dc__law_ring pm__law_ring an__law_ring cd__law_ring ct__law_ring), sl__law_ring⟩)
    (c__law_ring : PySem.W.codeIn K cd__law_ring "_law_ring" = true)
    (k__law_ring : PySem.W.keepIn K (.ref f__law_ring) = true)
    (a__law_three : PySem.W.nsIn K mainGlobals "_law_three" = some (some (.ref f__law_three)))
    (l__law_three : K.lookup f__law_three = some ⟨oc__law_three, od__law_three, .func (PySem.W.fnOf "_law_three" "_law_three" (defArgs s__law_three) (defBody s__law_three) (defScope s__law_three) .none kV__law_three dc__law_three pm__law_three an__law_three cd__law_three ct__law_three), sl__law_three⟩)
    (c__law_three : PySem.W.codeIn K cd__law_three "_law_three" = true)
    (k__law_three : PySem.W.keepIn K (.ref f__law_three) = true)
    (a__law_trees : PySem.W.nsIn K mainGlobals "_law_trees" = some (some (.ref f__law_trees)))
    (l__law_trees : K.lookup f__law_trees = some ⟨oc__law_trees, od__law_trees, .func (PySem.W.fnOf "_law_trees" "_law_trees" (defArgs s__law_trees) (defBody s__law_trees) (defScope s__law_trees) .none kV__law_trees dc__law_trees pm__law_trees an__law_trees cd__law_trees ct__law_trees), sl__law_trees⟩)
    (c__law_trees : PySem.W.codeIn K cd__law_trees "_law_trees" = true)
    (k__law_trees : PySem.W.keepIn K (.ref f__law_trees) = true)
    (a_law : PySem.W.nsIn K mainGlobals "law" = some (some (.ref f_law)))
    (l_law : K.lookup f_law = some ⟨oc_law, od_law, .func (PySem.W.fnOf "law" "law" (defArgs s_law) (defBody s_law) (defScope s_law) .none kV_law dc_law pm_law an_law cd_law ct_law), sl_law⟩)
    (c_law : PySem.W.codeIn K cd_law "law" = true)
    (k_law : PySem.W.keepIn K (.ref f_law) = true)
    (a_Threads___init__ : PySem.W.findIn K (.ref C_Threads) "__init__" = some (some (.ref f_Threads___init__)))
    (i_Threads___init__ : PySem.W.isFn K (.ref f_Threads___init__) = true)
    (l_Threads___init__ : K.lookup f_Threads___init__ = some ⟨oc_Threads___init__, od_Threads___init__, .func (PySem.W.fnOf "__init__" "Threads.__init__" (defArgs s_Threads___init__) (defBody s_Threads___init__) (defScope s_Threads___init__) .none kV_Threads___init__ dc_Threads___init__ pm_Threads___init__ an_Threads___init__ cd_Threads___init__ ct_Threads___init__), sl_Threads___init__⟩)
    (c_Threads___init__ : PySem.W.codeIn K cd_Threads___init__ "Threads.__init__" = true)
    (k_Threads___init__ : PySem.W.keepIn K (.ref f_Threads___init__) = true)
    (a_Threads_many : PySem.W.findIn K (.ref C_Threads) "many" = some (some (.ref f_Threads_many)))
    (i_Threads_many : PySem.W.isFn K (.ref f_Threads_many) = true)
    (l_Threads_many : K.lookup f_Threads_many = some ⟨oc_Threads_many, od_Threads_many, .func (PySem.W.fnOf "many" "Threads.many" (defArgs s_Threads_many) (defBody s_Threads_many) (defScope s_Threads_many) .none kV_Threads_many dc_Threads_many pm_Threads_many an_Threads_many cd_Threads_many ct_Threads_many), sl_Threads_many⟩)
    (c_Threads_many : PySem.W.codeIn K cd_Threads_many "Threads.many" = true)
    (k_Threads_many : PySem.W.keepIn K (.ref f_Threads_many) = true)
    (a_Threads_free : PySem.W.findIn K (.ref C_Threads) "free" = some (some (.ref f_Threads_free)))
    (i_Threads_free : PySem.W.isFn K (.ref f_Threads_free) = true)
    (l_Threads_free : K.lookup f_Threads_free = some ⟨oc_Threads_free, od_Threads_free, .func (PySem.W.fnOf "free" "Threads.free" (defArgs s_Threads_free) (defBody s_Threads_free) (defScope s_Threads_free) .none kV_Threads_free dc_Threads_free pm_Threads_free an_Threads_free cd_Threads_free ct_Threads_free), sl_Threads_free⟩)
    (c_Threads_free : PySem.W.codeIn K cd_Threads_free "Threads.free" = true)
    (k_Threads_free : PySem.W.keepIn K (.ref f_Threads_free) = true)
    (a_Posts___init__ : PySem.W.findIn K (.ref C_Posts) "__init__" = some (some (.ref f_Posts___init__)))
    (i_Posts___init__ : PySem.W.isFn K (.ref f_Posts___init__) = true)
    (l_Posts___init__ : K.lookup f_Posts___init__ = some ⟨oc_Posts___init__, od_Posts___init__, .func (PySem.W.fnOf "__init__" "Posts.__init__" (defArgs s_Posts___init__) (defBody s_Posts___init__) (defScope s_Posts___init__) .none kV_Posts___init__ dc_Posts___init__ pm_Posts___init__ an_Posts___init__ cd_Posts___init__ ct_Posts___init__), sl_Posts___init__⟩)
    (c_Posts___init__ : PySem.W.codeIn K cd_Posts___init__ "Posts.__init__" = true)
    (k_Posts___init__ : PySem.W.keepIn K (.ref f_Posts___init__) = true)
    (a_Posts_many : PySem.W.findIn K (.ref C_Posts) "many" = some (some (.ref f_Posts_many)))
    (i_Posts_many : PySem.W.isFn K (.ref f_Posts_many) = true)
    (l_Posts_many : K.lookup f_Posts_many = some ⟨oc_Posts_many, od_Posts_many, .func (PySem.W.fnOf "many" "Posts.many" (defArgs s_Posts_many) (defBody s_Posts_many) (defScope s_Posts_many) .none kV_Posts_many dc_Posts_many pm_Posts_many an_Posts_many cd_Posts_many ct_Posts_many), sl_Posts_many⟩)
    (c_Posts_many : PySem.W.codeIn K cd_Posts_many "Posts.many" = true)
    (k_Posts_many : PySem.W.keepIn K (.ref f_Posts_many) = true)
    (a_Posts_free : PySem.W.findIn K (.ref C_Posts) "free" = some (some (.ref f_Posts_free)))
    (i_Posts_free : PySem.W.isFn K (.ref f_Posts_free) = true)
    (l_Posts_free : K.lookup f_Posts_free = some ⟨oc_Posts_free, od_Posts_free, .func (PySem.W.fnOf "free" "Posts.free" (defArgs s_Posts_free) (defBody s_Posts_free) (defScope s_Posts_free) .none kV_Posts_free dc_Posts_free pm_Posts_free an_Posts_free cd_Posts_free ct_Posts_free), sl_Posts_free⟩)
    (c_Posts_free : PySem.W.codeIn K cd_Posts_free "Posts.free" = true)
    (k_Posts_free : PySem.W.keepIn K (.ref f_Posts_free) = true)
    (pg_Threads : PySem.W.plainGet K C_Threads Str.empty = true)
    (hd_Threads : PySem.W.hasDictIn K C_Threads = true)
    (po_Threads : PySem.W.plainOver K C_Threads = true)
    (sa_Threads : PySem.W.findIn K (.ref C_Threads) "__setattr__" = some (some (.builtin "object.__setattr__")))
    (mk_Threads : PySem.W.makesIn K C_Threads = true)
    (kc_Threads : PySem.W.keepIn K (.ref C_Threads) = true)
    (pg_Posts : PySem.W.plainGet K C_Posts Str.empty = true)
    (hd_Posts : PySem.W.hasDictIn K C_Posts = true)
    (po_Posts : PySem.W.plainOver K C_Posts = true)
    (sa_Posts : PySem.W.findIn K (.ref C_Posts) "__setattr__" = some (some (.builtin "object.__setattr__")))
    (mk_Posts : PySem.W.makesIn K C_Posts = true)
    (kc_Posts : PySem.W.keepIn K (.ref C_Posts) = true)
    (n_Threads_places : PySem.W.findIn K (.ref C_Threads) "places" = some none)
    (n_Threads_ties : PySem.W.findIn K (.ref C_Threads) "ties" = some none)
    (n_Posts_wants : PySem.W.findIn K (.ref C_Posts) "wants" = some none)
    (v_MOST_THINGS : PySem.W.nsIn K mainGlobals "MOST_THINGS" = some (some (.int 16 t_MOST_THINGS)))
    (v_MOST_PLACES : PySem.W.nsIn K mainGlobals "MOST_PLACES" = some (some (.int 20 t_MOST_PLACES)))
    (v_HIGHEST_POST : PySem.W.nsIn K mainGlobals "HIGHEST_POST" = some (some (.int 30 t_HIGHEST_POST)))
    (z_isinstance : PySem.W.nsIn K mainGlobals "isinstance" = some none)
    (z_int : PySem.W.nsIn K mainGlobals "int" = some none)
    (z_bool : PySem.W.nsIn K mainGlobals "bool" = some none)
    (z_list : PySem.W.nsIn K mainGlobals "list" = some none)
    (z_tuple : PySem.W.nsIn K mainGlobals "tuple" = some none)
    (z_len : PySem.W.nsIn K mainGlobals "len" = some none)
    (z_all : PySem.W.nsIn K mainGlobals "all" = some none)
    (z_range : PySem.W.nsIn K mainGlobals "range" = some none)
    (z_min : PySem.W.nsIn K mainGlobals "min" = some none)
    (z_sorted : PySem.W.nsIn K mainGlobals "sorted" = some none)
    (z_set : PySem.W.nsIn K mainGlobals "set" = some none)
    (z_sum : PySem.W.nsIn K mainGlobals "sum" = some none)
    : ∃ fd : FuncData, (∀ (s : Shared) (v : Value), BindsTo s fd ⟨[v], []⟩ [("_law_script", v)]) ∧ ∀ base : Heap, K.In base → base.Ns mainGlobals mg → FnOk l.prog w K mg base CX0 42 fa fd ["_law_script"] (spLaw K) := by
  have e := hfa.symm.trans (PySem.W.mg_of X G a_law)
  cases e
  have F_is_number := fun_mk (st := s_is_number) l_is_number c_is_number k_is_number
  have g_is_number := PySem.W.mg_of X G a_is_number
  have F_is_within := fun_mk (st := s_is_within) l_is_within c_is_within k_is_within
  have g_is_within := PySem.W.mg_of X G a_is_within
  have F_check_thing := fun_mk (st := s_check_thing) l_check_thing c_check_thing k_check_thing
  have g_check_thing := PySem.W.mg_of X G a_check_thing
  have F_check_set := fun_mk (st := s_check_set) l_check_set c_check_set k_check_set
  have g_check_set := PySem.W.mg_of X G a_check_set
  have F_check_ground := fun_mk (st := s_check_ground) l_check_ground c_check_ground k_check_ground
  have g_check_ground := PySem.W.mg_of X G a_check_ground
  have F_are_within := fun_mk (st := s_are_within) l_are_within c_are_within k_are_within
  have g_are_within := PySem.W.mg_of X G a_are_within
  have F_is_tie := fun_mk (st := s_is_tie) l_is_tie c_is_tie k_is_tie
  have g_is_tie := PySem.W.mg_of X G a_is_tie
  have F_are_posts := fun_mk (st := s_are_posts) l_are_posts c_are_posts k_are_posts
  have g_are_posts := PySem.W.mg_of X G a_are_posts
  have F_gets_post := fun_mk (st := s_gets_post) l_gets_post c_gets_post k_gets_post
  have g_gets_post := PySem.W.mg_of X G a_gets_post
  have F_rank := fun_mk (st := s_rank) l_rank c_rank k_rank
  have g_rank := PySem.W.mg_of X G a_rank
  have F_grown := fun_mk (st := s_grown) l_grown c_grown k_grown
  have g_grown := PySem.W.mg_of X G a_grown
  have F_ring := fun_mk (st := s_ring) l_ring c_ring k_ring
  have g_ring := PySem.W.mg_of X G a_ring
  have F_without := fun_mk (st := s_without) l_without c_without k_without
  have g_without := PySem.W.mg_of X G a_without
  have F_whole := fun_mk (st := s_whole) l_whole c_whole k_whole
  have g_whole := PySem.W.mg_of X G a_whole
  have F_is_whole := fun_mk (st := s_is_whole) l_is_whole c_is_whole k_is_whole
  have g_is_whole := PySem.W.mg_of X G a_is_whole
  have F_both_ways := fun_mk (st := s_both_ways) l_both_ways c_both_ways k_both_ways
  have g_both_ways := PySem.W.mg_of X G a_both_ways
  have F_check_wholes := fun_mk (st := s_check_wholes) l_check_wholes c_check_wholes k_check_wholes
  have g_check_wholes := PySem.W.mg_of X G a_check_wholes
  have F_changed := fun_mk (st := s_changed) l_changed c_changed k_changed
  have g_changed := PySem.W.mg_of X G a_changed
  have F__law_cell_at := fun_mk (st := s__law_cell_at) l__law_cell_at c__law_cell_at k__law_cell_at
  have g__law_cell_at := PySem.W.mg_of X G a__law_cell_at
  have F__law_rows := fun_mk (st := s__law_rows) l__law_rows c__law_rows k__law_rows
  have g__law_rows := PySem.W.mg_of X G a__law_rows
  have F__law_wants := fun_mk (st := s__law_wants) l__law_wants c__law_wants k__law_wants
  have g__law_wants := PySem.W.mg_of X G a__law_wants
  have F__law_stretches := fun_mk (st := s__law_stretches) l__law_stretches c__law_stretches k__law_stretches
  have g__law_stretches := PySem.W.mg_of X G a__law_stretches
  have F__law_rank := fun_mk (st := s__law_rank) l__law_rank c__law_rank k__law_rank
  have g__law_rank := PySem.W.mg_of X G a__law_rank
  have F__law_ring := fun_mk (st := s__law_ring) l__law_ring c__law_ring k__law_ring
  have g__law_ring := PySem.W.mg_of X G a__law_ring
  have F__law_three := fun_mk (st := s__law_three) l__law_three c__law_three k__law_three
  have g__law_three := PySem.W.mg_of X G a__law_three
  have F__law_trees := fun_mk (st := s__law_trees) l__law_trees c__law_trees k__law_trees
  have g__law_trees := PySem.W.mg_of X G a__law_trees
  have F_law := fun_mk (st := s_law) l_law c_law k_law
  have g_law := PySem.W.mg_of X G a_law
  have F_Threads___init__ := fun_mk (st := s_Threads___init__) l_Threads___init__ c_Threads___init__ k_Threads___init__
  have M_Threads___init__ : Meth K C_Threads "__init__" f_Threads___init__ := ⟨a_Threads___init__, i_Threads___init__, k_Threads___init__⟩
  have F_Threads_many := fun_mk (st := s_Threads_many) l_Threads_many c_Threads_many k_Threads_many
  have M_Threads_many : Meth K C_Threads "many" f_Threads_many := ⟨a_Threads_many, i_Threads_many, k_Threads_many⟩
  have F_Threads_free := fun_mk (st := s_Threads_free) l_Threads_free c_Threads_free k_Threads_free
  have M_Threads_free : Meth K C_Threads "free" f_Threads_free := ⟨a_Threads_free, i_Threads_free, k_Threads_free⟩
  have F_Posts___init__ := fun_mk (st := s_Posts___init__) l_Posts___init__ c_Posts___init__ k_Posts___init__
  have M_Posts___init__ : Meth K C_Posts "__init__" f_Posts___init__ := ⟨a_Posts___init__, i_Posts___init__, k_Posts___init__⟩
  have F_Posts_many := fun_mk (st := s_Posts_many) l_Posts_many c_Posts_many k_Posts_many
  have M_Posts_many : Meth K C_Posts "many" f_Posts_many := ⟨a_Posts_many, i_Posts_many, k_Posts_many⟩
  have F_Posts_free := fun_mk (st := s_Posts_free) l_Posts_free c_Posts_free k_Posts_free
  have M_Posts_free : Meth K C_Posts "free" f_Posts_free := ⟨a_Posts_free, i_Posts_free, k_Posts_free⟩
  have gC_Threads := PySem.W.mg_of X G aC_Threads
  have o_Threads : Own mg "Threads" C_Threads := ⟨_, gC_Threads, rfl⟩
  have gC_Posts := PySem.W.mg_of X G aC_Posts
  have o_Posts : Own mg "Posts" C_Posts := ⟨_, gC_Posts, rfl⟩
  have gC_Rule := PySem.W.mg_of X G aC_Rule
  have o_Rule : Own mg "Rule" C_Rule := ⟨_, gC_Rule, rfl⟩
  have cl_Threads : Cls K C_Threads := ⟨pg_Threads, hd_Threads, po_Threads, sa_Threads⟩
  have cl_Posts : Cls K C_Posts := ⟨pg_Posts, hd_Posts, po_Posts, sa_Posts⟩
  have N_MOST_THINGS : Num mg "MOST_THINGS" 16 := ⟨_, PySem.W.mg_of X G v_MOST_THINGS, ⟨_, rfl⟩⟩
  have N_MOST_PLACES : Num mg "MOST_PLACES" 20 := ⟨_, PySem.W.mg_of X G v_MOST_PLACES, ⟨_, rfl⟩⟩
  have N_HIGHEST_POST : Num mg "HIGHEST_POST" 30 := ⟨_, PySem.W.mg_of X G v_HIGHEST_POST, ⟨_, rfl⟩⟩
  have B_isinstance := PySem.W.mg_none_of X G z_isinstance
  have B_int := PySem.W.mg_none_of X G z_int
  have B_bool := PySem.W.mg_none_of X G z_bool
  have B_list := PySem.W.mg_none_of X G z_list
  have B_tuple := PySem.W.mg_none_of X G z_tuple
  have B_len := PySem.W.mg_none_of X G z_len
  have B_all := PySem.W.mg_none_of X G z_all
  have B_range := PySem.W.mg_none_of X G z_range
  have B_min := PySem.W.mg_none_of X G z_min
  have B_sorted := PySem.W.mg_none_of X G z_sorted
  have B_set := PySem.W.mg_none_of X G z_set
  have B_sum := PySem.W.mg_none_of X G z_sum
  refine ⟨PySem.W.fnOf "law" "law" (defArgs s_law) (defBody s_law) (defScope s_law) .none kV_law dc_law pm_law an_law cd_law ct_law, fun s v => .of_eq rfl, fun base _ _ => ?_⟩
  have B : Bl mg := ⟨B_isinstance, B_int, B_bool, B_list, B_tuple, B_len, B_all, B_range, B_min, B_sorted, B_set⟩
  have GT : Th.Gt K mg C_Threads := ⟨cl_Threads, n_Threads_places, n_Threads_ties, N_MOST_PLACES⟩
  have GP : Po.Gp K mg C_Posts := ⟨cl_Posts, n_Posts_wants, N_HIGHEST_POST⟩
  have ne : C_Posts ≠ C_Threads := apart a_Posts_many a_Threads_many l_Posts_many l_Threads_many (by decide)
  have r1 := ok_num (P := l.prog) (w := w) (base := base) B F_is_number g_is_number
  have r2 := ok_within F_is_within g_is_within r1
  have r3 := ok_thing F_check_thing g_check_thing r2
  have r4 := ok_set B F_check_set g_check_set r3
  have r5 := ok_ground (P := l.prog) (w := w) (base := base) B ⟨N_MOST_THINGS⟩ F_check_ground g_check_ground
  have r6 := ok_are B F_are_within g_are_within r2
  have r7 := Po.ok_posts B GP F_are_posts g_are_posts r6
  have r8 := Po.ok_gets (P := l.prog) (w := w) (base := base) F_gets_post g_gets_post 31
  have r9 := Th.ok_tie B F_is_tie g_is_tie r2
  have t1 := Th.ok_init B GT F_Threads___init__ ⟨mk_Threads, a_Threads___init__, i_Threads___init__, kc_Threads⟩ gC_Threads r2 r5 r9
  have t2 := Th.ok_many (P := l.prog) (w := w) (base := base) B GT F_Threads_many M_Threads_many
  have t3 := Th.ok_free B GT F_Threads_free M_Threads_free t2 r4
  have q1 := Po.ok_init B GP F_Posts___init__ ⟨mk_Posts, a_Posts___init__, i_Posts___init__, kc_Posts⟩ gC_Posts r5 r7
  have q2 := Po.ok_many (P := l.prog) (w := w) (base := base) B GP F_Posts_many M_Posts_many
  have q3 := Po.ok_free B GP F_Posts_free M_Posts_free q2 r4 r8
  have mf := met_free ne q3 t3
  have mm := met_many ne q2 t2
  have gr := ok_grown B (by decide) F_grown g_grown mm mf r4
  have rk := ok_rank B F_rank g_rank gr
  have wi := ok_without (P := l.prog) (w := w) (base := base) F_without g_without
  have ri := ok_ringG B (by decide) F_ring g_ring mm mf r4 r3 wi
  have wh := ok_whole B F_whole g_whole mm gr
  have iw := ok_isWhole B F_is_whole g_is_whole mf wh
  have cw := ok_wholes B (by decide) F_check_wholes g_check_wholes mm r4 iw
  have ch := ok_changed F_changed g_changed wi
  have bw := ok_bothWays B (by decide) F_both_ways g_both_ways mm mf r3 cw ch
  have bw' := cal_up (k' := 40) bw (by decide) (fun _ _ _ _ h => h)
  have l1 := ok_cellR (P := l.prog) (w := w) (base := base) B F__law_cell_at g__law_cell_at
  have l2 := ok_rowsR B F__law_rows g__law_rows l1
  have l3 := ok_wantsR B F__law_wants g__law_wants l1
  have l4 := ok_str (P := l.prog) (w := w) (base := base) B F__law_stretches g__law_stretches
  have l5 := ok_lrank B B_sum F__law_rank g__law_rank l4
  have l6 := ok_lring B F__law_ring g__law_ring l5
  have l7 := ok_three B F__law_three g__law_three l1 q1 q3
  have l8 := ok_trees B F__law_trees g__law_trees t1 bw'
  exact ok_law B GP F_law l1 l2 l3 l5 l6 l7 l8 rk gr ri q1 q2 q3
theorem walk {l : PySem.W.OpenLaw} {q : Program} {loose : List Str} {XP : (Str → Option Value) → Heap → Prop} {YP : World → Heap → Prop} {d : DefRec} {K : Params → PySem.W.Frag} (hn : l.most = some 63) (hdf : d.params.defaults = [])
    (hY : ∀ (w : World) (h : Heap), YP w h → (K w.params).In h)
    (F : ∀ (w : World) (mg : Str → Option Value) (fa : Addr) (h : Heap), (K w.params).In h → h.Ns mainGlobals mg → mg d.name = some (.ref fa) →
      ∃ fd : FuncData, (∀ (s : Shared) (u : Value), BindsTo s fd ⟨[u], []⟩ [("_law_script", u)]) ∧ ∀ base : Heap, (K w.params).In base → base.Ns mainGlobals mg → FnOk l.prog w (K w.params) mg base CX0 42 fa fd ["_law_script"] (spLaw (K w.params))) :
    PySem.W.WalkO q loose XP YP l.row.toRowW d [] (fun f vs => PySem.call f vs) :=
  L2.walk_of (n := 63) (k := 42) (x := "_law_script") (CX := fun _ => CX0) (sp := fun w => spLaw (K w.params)) hn (by decide) hdf ⟨rfl, by decide, by decide⟩ hY F (fun _ _ a ns hl _ hS => ⟨a, ns, rfl, hS, hl, fun _ => rfl⟩) fun _ _ _ _ _ z => z
end Fs
open PySem PySem.W PyProof.Rows in
set_option maxRecDepth 100000 in
set_option maxHeartbeats 0 in
theorem PySem.Challenge.cw_freesets_k21_whole_posts_in_a_row_holds : PySem.Challenge.rw_freesets_k21_whole_posts_in_a_row.Holds := by
  w_on; o_law; k_head; (case hw => w_witness2)
  k_fill
  refine Fs.walk (l := PySem.Challenge.rw_freesets_k21_whole_posts_in_a_row) rfl rfl (fun w h Y => PySem.W.kIn_of Y) ?F
  case F =>
    intro w mg fa h KX G hmg
    refine' Fs.all_mk KX G hmg ?aC_Threads ?aC_Posts ?aC_Rule ?a_is_number ?l_is_number ?c_is_number ?k_is_number ?a_is_within ?l_is_within ?c_is_within ?k_is_within ?a_check_thing ?l_check_thing ?c_check_thing ?k_check_thing ?a_check_set ?l_check_set ?c_check_set ?k_check_set ?a_check_ground ?l_check_ground ?c_check_ground ?k_check_ground ?a_are_within ?l_are_within ?c_are_within ?k_are_within ?a_is_tie ?l_is_tie ?c_is_tie ?k_is_tie ?a_are_posts ?l_are_posts ?c_are_posts ?k_are_posts ?a_gets_post ?l_gets_post ?c_gets_post ?k_gets_post ?a_rank ?l_rank ?c_rank ?k_rank ?a_grown ?l_grown ?c_grown ?k_grown ?a_ring ?l_ring ?c_ring ?k_ring ?a_without ?l_without ?c_without ?k_without ?a_whole ?l_whole ?c_whole ?k_whole ?a_is_whole ?l_is_whole ?c_is_whole ?k_is_whole ?a_both_ways ?l_both_ways ?c_both_ways ?k_both_ways ?a_check_wholes ?l_check_wholes ?c_check_wholes ?k_check_wholes ?a_changed ?l_changed ?c_changed ?k_changed ?a__law_cell_at ?l__law_cell_at ?c__law_cell_at ?k__law_cell_at ?a__law_rows ?l__law_rows ?c__law_rows ?k__law_rows ?a__law_wants ?l__law_wants ?c__law_wants ?k__law_wants ?a__law_stretches ?l__law_stretches ?c__law_stretches ?k__law_stretches ?a__law_rank ?l__law_rank ?c__law_rank ?k__law_rank ?a__law_ring ?l__law_ring ?c__law_ring ?k__law_ring ?a__law_three ?l__law_three ?c__law_three ?k__law_three ?a__law_trees ?l__law_trees ?c__law_trees ?k__law_trees ?a_law ?l_law ?c_law ?k_law ?a_Threads___init__ ?i_Threads___init__ ?l_Threads___init__ ?c_Threads___init__ ?k_Threads___init__ ?a_Threads_many ?i_Threads_many ?l_Threads_many ?c_Threads_many ?k_Threads_many ?a_Threads_free ?i_Threads_free ?l_Threads_free ?c_Threads_free ?k_Threads_free ?a_Posts___init__ ?i_Posts___init__ ?l_Posts___init__ ?c_Posts___init__ ?k_Posts___init__ ?a_Posts_many ?i_Posts_many ?l_Posts_many ?c_Posts_many ?k_Posts_many ?a_Posts_free ?i_Posts_free ?l_Posts_free ?c_Posts_free ?k_Posts_free ?pg_Threads ?hd_Threads ?po_Threads ?sa_Threads ?mk_Threads ?kc_Threads ?pg_Posts ?hd_Posts ?po_Posts ?sa_Posts ?mk_Posts ?kc_Posts ?n_Threads_places ?n_Threads_ties ?n_Posts_wants ?v_MOST_THINGS ?v_MOST_PLACES ?v_HIGHEST_POST ?z_isinstance ?z_int ?z_bool ?z_list ?z_tuple ?z_len ?z_all ?z_range ?z_min ?z_sorted ?z_set ?z_sum
    (case aC_Threads => k_is)
    (case aC_Posts => k_is)
    (case aC_Rule => k_is)
    (case a_is_number => k_is)
    (case l_is_number => k_is)
    (case c_is_number => k_is)
    (case k_is_number => k_is)
    (case a_is_within => k_is)
    (case l_is_within => k_is)
    (case c_is_within => k_is)
    (case k_is_within => k_is)
    (case a_check_thing => k_is)
    (case l_check_thing => k_is)
    (case c_check_thing => k_is)
    (case k_check_thing => k_is)
    (case a_check_set => k_is)
    (case l_check_set => k_is)
    (case c_check_set => k_is)
    (case k_check_set => k_is)
    (case a_check_ground => k_is)
    (case l_check_ground => k_is)
    (case c_check_ground => k_is)
    (case k_check_ground => k_is)
    (case a_are_within => k_is)
    (case l_are_within => k_is)
    (case c_are_within => k_is)
    (case k_are_within => k_is)
    (case a_is_tie => k_is)
    (case l_is_tie => k_is)
    (case c_is_tie => k_is)
    (case k_is_tie => k_is)
    (case a_are_posts => k_is)
    (case l_are_posts => k_is)
    (case c_are_posts => k_is)
    (case k_are_posts => k_is)
    (case a_gets_post => k_is)
    (case l_gets_post => k_is)
    (case c_gets_post => k_is)
    (case k_gets_post => k_is)
    (case a_rank => k_is)
    (case l_rank => k_is)
    (case c_rank => k_is)
    (case k_rank => k_is)
    (case a_grown => k_is)
    (case l_grown => k_is)
    (case c_grown => k_is)
    (case k_grown => k_is)
    (case a_ring => k_is)
    (case l_ring => k_is)
    (case c_ring => k_is)
    (case k_ring => k_is)
    (case a_without => k_is)
    (case l_without => k_is)
    (case c_without => k_is)
    (case k_without => k_is)
    (case a_whole => k_is)
    (case l_whole => k_is)
    (case c_whole => k_is)
    (case k_whole => k_is)
    (case a_is_whole => k_is)
    (case l_is_whole => k_is)
    (case c_is_whole => k_is)
    (case k_is_whole => k_is)
    (case a_both_ways => k_is)
    (case l_both_ways => k_is)
    (case c_both_ways => k_is)
    (case k_both_ways => k_is)
    (case a_check_wholes => k_is)
    (case l_check_wholes => k_is)
    (case c_check_wholes => k_is)
    (case k_check_wholes => k_is)
    (case a_changed => k_is)
    (case l_changed => k_is)
    (case c_changed => k_is)
    (case k_changed => k_is)
    (case a__law_cell_at => k_is)
    (case l__law_cell_at => k_is)
    (case c__law_cell_at => k_is)
    (case k__law_cell_at => k_is)
    (case a__law_rows => k_is)
    (case l__law_rows => k_is)
    (case c__law_rows => k_is)
    (case k__law_rows => k_is)
    (case a__law_wants => k_is)
    (case l__law_wants => k_is)
    (case c__law_wants => k_is)
    (case k__law_wants => k_is)
    (case a__law_stretches => k_is)
    (case l__law_stretches => k_is)
    (case c__law_stretches => k_is)
    (case k__law_stretches => k_is)
    (case a__law_rank => k_is)
    (case l__law_rank => k_is)
    (case c__law_rank => k_is)
    (case k__law_rank => k_is)
    (case a__law_ring => k_is)
    (case l__law_ring => k_is)
    (case c__law_ring => k_is)
    (case k__law_ring => k_is)
    (case a__law_three => k_is)
    (case l__law_three => k_is)
    (case c__law_three => k_is)
    (case k__law_three => k_is)
    (case a__law_trees => k_is)
    (case l__law_trees => k_is)
    (case c__law_trees => k_is)
    (case k__law_trees => k_is)
    (case a_law => k_is)
    (case l_law => k_is)
    (case c_law => k_is)
    (case k_law => k_is)
    (case a_Threads___init__ => k_is)
    (case i_Threads___init__ => k_is)
    (case l_Threads___init__ => k_is)
    (case c_Threads___init__ => k_is)
    (case k_Threads___init__ => k_is)
    (case a_Threads_many => k_is)
    (case i_Threads_many => k_is)
    (case l_Threads_many => k_is)
    (case c_Threads_many => k_is)
    (case k_Threads_many => k_is)
    (case a_Threads_free => k_is)
    (case i_Threads_free => k_is)
    (case l_Threads_free => k_is)
    (case c_Threads_free => k_is)
    (case k_Threads_free => k_is)
    (case a_Posts___init__ => k_is)
    (case i_Posts___init__ => k_is)
    (case l_Posts___init__ => k_is)
    (case c_Posts___init__ => k_is)
    (case k_Posts___init__ => k_is)
    (case a_Posts_many => k_is)
    (case i_Posts_many => k_is)
    (case l_Posts_many => k_is)
    (case c_Posts_many => k_is)
    (case k_Posts_many => k_is)
    (case a_Posts_free => k_is)
    (case i_Posts_free => k_is)
    (case l_Posts_free => k_is)
    (case c_Posts_free => k_is)
    (case k_Posts_free => k_is)
    (case pg_Threads => k_is)
    (case hd_Threads => k_is)
    (case po_Threads => k_is)
    (case sa_Threads => k_is)
    (case mk_Threads => k_is)
    (case kc_Threads => k_is)
    (case pg_Posts => k_is)
    (case hd_Posts => k_is)
    (case po_Posts => k_is)
    (case sa_Posts => k_is)
    (case mk_Posts => k_is)
    (case kc_Posts => k_is)
    (case n_Threads_places => k_is)
    (case n_Threads_ties => k_is)
    (case n_Posts_wants => k_is)
    (case v_MOST_THINGS => k_is)
    (case v_MOST_PLACES => k_is)
    (case v_HIGHEST_POST => k_is)
    (case z_isinstance => k_is)
    (case z_int => k_is)
    (case z_bool => k_is)
    (case z_list => k_is)
    (case z_tuple => k_is)
    (case z_len => k_is)
    (case z_all => k_is)
    (case z_range => k_is)
    (case z_min => k_is)
    (case z_sorted => k_is)
    (case z_set => k_is)
    (case z_sum => k_is)
