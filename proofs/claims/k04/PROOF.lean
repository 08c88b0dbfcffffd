import PyProof.Rows.All
import Wide.All
import OpenK.AllK
import Wide.FinOn
import PyProof.EqAt
import PyProof.EqKinds
import PyProof.TupleCall
import HandS.ForMost
import HandS.Codes
import HandS.IsInst
import HandS.Conv
import HandS.Style
import HandS.SetFor
import KE.KEqSeq
import PySem.Challenge.RW_freesets_k04_bits
set_option Elab.async false
set_option linter.all false
set_option maxRecDepth 100000
set_option maxHeartbeats 2000000
namespace BM

/-- bit h decides, all higher bits alike -/
theorem lt_of_bit {a b h : Nat} (e : a >>> (h + 1) = b >>> (h + 1)) (ha : a.testBit h = false) (hb : b.testBit h = true) : a < b := by
  rw [Nat.shiftRight_eq_div_pow, Nat.shiftRight_eq_div_pow, Nat.pow_succ, ← Nat.div_div_eq_div_mul, ← Nat.div_div_eq_div_mul] at e
  rw [Nat.testBit_eq_decide_div_mod_eq] at ha hb
  have ha' := of_decide_eq_false ha
  have hb' := of_decide_eq_true hb
  have lt : a / 2 ^ h < b / 2 ^ h := by omega
  exact Nat.lt_of_not_le fun le => Nat.lt_irrefl _ (Nat.lt_of_lt_of_le lt (Nat.div_le_div_right le))

def top (t : Nat) : Nat := t.log2

theorem high {r t : Nat} : (r ^^^ t) >>> (top t + 1) = r >>> (top t + 1) := by
  rw [Nat.shiftRight_xor_distrib]
  have : t >>> (top t + 1) = 0 := by
    rw [Nat.shiftRight_eq_div_pow]
    exact Nat.div_eq_of_lt Nat.lt_log2_self
  rw [this, Nat.xor_zero]

theorem xor_top {r t : Nat} (h : t ≠ 0) : (r ^^^ t).testBit (top t) = !(r.testBit (top t)) := by
  rw [Nat.testBit_xor, show t.testBit (top t) = true from Nat.testBit_log2 h]
  cases r.testBit (top t) <;> rfl

theorem lt_iff {r t : Nat} (h : t ≠ 0) : r ^^^ t < r ↔ r.testBit (top t) = true := by
  constructor
  · intro lt
    cases e : r.testBit (top t) with
    | true => rfl
    | false =>
      have : r < r ^^^ t := lt_of_bit high.symm e (by rw [xor_top h, e]; rfl)
      omega
  · intro e
    exact lt_of_bit high (by rw [xor_top h, e]; rfl) e

/-- one step of the lessening -/
def less1 (r t : Nat) : Nat := if r ^^^ t < r then r ^^^ t else r
def less (r : Nat) (ts : List Nat) : Nat := ts.foldl less1 r

theorem less1_top {r t : Nat} (h : t ≠ 0) : (less1 r t).testBit (top t) = false := by
  unfold less1
  by_cases c : r ^^^ t < r
  · rw [if_pos c, xor_top h, (lt_iff h).mp c]; rfl
  · rw [if_neg c]
    cases e : r.testBit (top t) with
    | false => rfl
    | true => exact absurd ((lt_iff h).mpr e) c

/-- the sums of some of them -/
def Spn : List Nat → Nat → Prop
  | [], v => v = 0
  | x :: xs, v => Spn xs v ∨ Spn xs (v ^^^ x)

theorem xx (a b : Nat) : a ^^^ b ^^^ b = a := by rw [Nat.xor_assoc, Nat.xor_self, Nat.xor_zero]
theorem sw (a b c : Nat) : a ^^^ b ^^^ c = a ^^^ c ^^^ b := by rw [Nat.xor_assoc, Nat.xor_comm b c, ← Nat.xor_assoc]

theorem Spn.zero : ∀ xs, Spn xs 0
  | [] => rfl
  | _ :: xs => .inl (Spn.zero xs)

theorem Spn.add : ∀ {xs : List Nat} {u v : Nat}, Spn xs u → Spn xs v → Spn xs (u ^^^ v)
  | [], u, v, hu, hv => by
    have hu : u = 0 := hu
    have hv : v = 0 := hv
    subst hu hv
    rfl
  | x :: xs, u, v, hu, hv => by
    rcases hu with hu | hu <;> rcases hv with hv | hv
    · exact .inl (hu.add hv)
    · refine .inr ?_
      rw [Nat.xor_assoc]
      exact hu.add hv
    · refine .inr ?_
      rw [sw]
      exact hu.add hv
    · refine .inl ?_
      have := hu.add hv
      rw [← Nat.xor_assoc, sw u x v, xx] at this
      exact this

theorem Spn.cons {x : Nat} {xs : List Nat} {v : Nat} (h : Spn xs v) : Spn (x :: xs) v := .inl h
theorem Spn.head {x : Nat} {xs : List Nat} : Spn (x :: xs) x := .inr (by rw [Nat.xor_self]; exact Spn.zero _)
theorem Spn.mem {t : Nat} : ∀ {xs : List Nat}, t ∈ xs → Spn xs t
  | _ :: xs, h => by
    rcases List.mem_cons.mp h with e | e
    · subst e; exact .head
    · exact (Spn.mem e).cons
theorem Spn.iff_of {xs : List Nat} {u v : Nat} (h : Spn xs u) : Spn xs (v ^^^ u) ↔ Spn xs v := by
  constructor
  · intro k
    have := k.add h
    rw [xx] at this
    exact this
  · intro k
    exact k.add h

theorem Spn.perm {xs ys : List Nat} (p : xs.Perm ys) : ∀ v, Spn xs v ↔ Spn ys v := by
  induction p with
  | nil => exact fun v => Iff.rfl
  | cons x _ ih => exact fun v => or_congr (ih _) (ih _)
  | swap x y l =>
    intro v
    show ((Spn l v ∨ Spn l (v ^^^ x)) ∨ (Spn l (v ^^^ y) ∨ Spn l (v ^^^ y ^^^ x))) ↔ ((Spn l v ∨ Spn l (v ^^^ y)) ∨ (Spn l (v ^^^ x) ∨ Spn l (v ^^^ x ^^^ y)))
    rw [sw v y x]
    constructor
    · rintro ((h | h) | (h | h))
      · exact .inl (.inl h)
      · exact .inr (.inl h)
      · exact .inl (.inr h)
      · exact .inr (.inr h)
    · rintro ((h | h) | (h | h))
      · exact .inl (.inl h)
      · exact .inr (.inl h)
      · exact .inl (.inr h)
      · exact .inr (.inr h)
  | trans _ _ h1 h2 => exact fun v => (h1 v).trans (h2 v)

/-- none is a sum of those behind it -/
def Ind : List Nat → Prop
  | [] => True
  | x :: xs => ¬ Spn xs x ∧ Ind xs

theorem Ind.perm {xs ys : List Nat} (p : xs.Perm ys) : Ind xs ↔ Ind ys := by
  induction p with
  | nil => exact Iff.rfl
  | cons x q ih => exact and_congr (not_congr (Spn.perm q x)) ih
  | swap x y l =>
    show (¬ (Spn l y ∨ Spn l (y ^^^ x)) ∧ ¬ Spn l x ∧ Ind l) ↔ (¬ (Spn l x ∨ Spn l (x ^^^ y)) ∧ ¬ Spn l y ∧ Ind l)
    rw [Nat.xor_comm y x, not_or, not_or]
    constructor
    · rintro ⟨⟨a, b⟩, c, d⟩
      exact ⟨⟨c, b⟩, a, d⟩
    · rintro ⟨⟨a, b⟩, c, d⟩
      exact ⟨⟨c, b⟩, a, d⟩
  | trans _ _ h1 h2 => exact h1.trans h2

/-! the taken rows -/
/-- all are not 0, and a later one has not the highest bit of an earlier one -/
def Good (ts : List Nat) : Prop := (∀ t ∈ ts, t ≠ 0) ∧ ts.Pairwise (fun a b => b.testBit (top a) = false)

theorem less_span : ∀ (ts : List Nat) (r : Nat), Spn ts (r ^^^ less r ts)
  | [], r => by show r ^^^ r = 0; exact Nat.xor_self _
  | t :: ts, r => by
    show Spn (t :: ts) (r ^^^ less (less1 r t) ts)
    have ih := less_span ts (less1 r t)
    unfold less1 at ih ⊢
    by_cases c : r ^^^ t < r
    · rw [if_pos c] at ih ⊢
      refine .inr ?_
      rw [sw]
      exact ih
    · rw [if_neg c] at ih ⊢
      exact .inl ih

theorem bit_keep {r t h : Nat} (hr : r.testBit h = false) (ht : t.testBit h = false) : (less1 r t).testBit h = false := by
  unfold less1
  by_cases c : r ^^^ t < r
  · rw [if_pos c, Nat.testBit_xor, hr, ht]; rfl
  · rw [if_neg c]; exact hr
theorem bits_keep {h : Nat} : ∀ (ts : List Nat) (r : Nat), r.testBit h = false → (∀ t ∈ ts, t.testBit h = false) → (less r ts).testBit h = false
  | [], _, hr, _ => hr
  | t :: ts, r, hr, ht => bits_keep ts (less1 r t) (bit_keep hr (ht t (List.mem_cons_self ..))) fun u hu => ht u (List.mem_cons_of_mem _ hu)
theorem less_tops : ∀ (ts : List Nat) (r : Nat), Good ts → ∀ t ∈ ts, (less r ts).testBit (top t) = false
  | [], _, _, t, h => by cases h
  | u :: ts, r, ⟨nz, pw⟩, t, h => by
    have pw' := List.pairwise_cons.mp pw
    rcases List.mem_cons.mp h with e | e
    · subst e
      exact bits_keep ts _ (less1_top (nz t (List.mem_cons_self ..))) fun v hv => pw'.1 v hv
    · exact less_tops ts _ ⟨fun v hv => nz v (List.mem_cons_of_mem _ hv), pw'.2⟩ t e

theorem spn_bit {h : Nat} : ∀ {ts : List Nat} {v : Nat}, (∀ t ∈ ts, t.testBit h = false) → Spn ts v → v.testBit h = false
  | [], v, _, k => by
    have k : v = 0 := k
    rw [k, Nat.zero_testBit]
  | t :: ts, v, ht, k => by
    have ht' : ∀ u ∈ ts, u.testBit h = false := fun u hu => ht u (List.mem_cons_of_mem _ hu)
    rcases k with k | k
    · exact spn_bit ht' k
    · have := spn_bit ht' k
      rw [Nat.testBit_xor, ht t (List.mem_cons_self ..)] at this
      simpa using this
theorem spn_zero : ∀ {ts : List Nat} {v : Nat}, Good ts → Spn ts v → (∀ t ∈ ts, v.testBit (top t) = false) → v = 0
  | [], _, _, k, _ => k
  | t :: ts, v, ⟨nz, pw⟩, k, hv => by
    have pw' := List.pairwise_cons.mp pw
    have G : Good ts := ⟨fun v hv => nz v (List.mem_cons_of_mem _ hv), pw'.2⟩
    have hv' : ∀ u ∈ ts, v.testBit (top u) = false := fun u hu => hv u (List.mem_cons_of_mem _ hu)
    rcases k with k | k
    · exact spn_zero G k hv'
    · have b := spn_bit pw'.1 k
      rw [xor_top (nz t (List.mem_cons_self ..)), hv t (List.mem_cons_self ..)] at b
      cases b

theorem less_zero {ts : List Nat} {r : Nat} (G : Good ts) : less r ts = 0 ↔ Spn ts r := by
  constructor
  · intro e
    have := less_span ts r
    rw [e, Nat.xor_zero] at this
    exact this
  · intro k
    have : Spn ts (less r ts) := by
      have := (less_span ts r).add k
      rw [sw, Nat.xor_self, Nat.zero_xor] at this
      exact this
    exact spn_zero G this (less_tops ts r G)

theorem Good.snoc {ts : List Nat} {r : Nat} (G : Good ts) (h : less r ts ≠ 0) : Good (ts ++ [less r ts]) := by
  refine ⟨fun t ht => ?_, ?_⟩
  · rcases List.mem_append.mp ht with e | e
    · exact G.1 t e
    · rw [List.mem_singleton.mp e]; exact h
  · rw [List.pairwise_append]
    refine ⟨G.2, List.pairwise_singleton _ _, fun a ha b hb => ?_⟩
    rw [List.mem_singleton.mp hb]
    exact less_tops ts r G a ha

theorem spn_snoc {ts : List Nat} {y v : Nat} : Spn (ts ++ [y]) v ↔ Spn (y :: ts) v := Spn.perm (by simp) v

theorem spn_less {ts : List Nat} {r v : Nat} : Spn (less r ts :: ts) v ↔ Spn (r :: ts) v := by
  show (Spn ts v ∨ Spn ts (v ^^^ less r ts)) ↔ (Spn ts v ∨ Spn ts (v ^^^ r))
  have s := less_span ts r
  have e1 : v ^^^ r = v ^^^ less r ts ^^^ (r ^^^ less r ts) := by
    rw [← Nat.xor_assoc, sw v (less r ts) r, xx]
  rw [e1, s.iff_of]

/-- the program's walk: taken so far, the rows to come -/
def freeF : List Nat → List Nat → Bool
  | _, [] => true
  | ts, y :: ys => if less y ts = 0 then false else freeF (ts ++ [less y ts]) ys

theorem freeF_iff : ∀ (ys zs ts : List Nat), Good ts → (∀ v, Spn ts v ↔ Spn zs v) → Ind zs → (freeF ts ys = true ↔ Ind (ys.reverse ++ zs))
  | [], zs, ts, _, _, iz => by
    show (true = true) ↔ Ind zs
    exact ⟨fun _ => iz, fun _ => rfl⟩
  | y :: ys, zs, ts, G, e, iz => by
    show ((if less y ts = 0 then false else freeF (ts ++ [less y ts]) ys) = true) ↔ _
    rw [List.reverse_cons, List.append_assoc]
    by_cases c : less y ts = 0
    · rw [if_pos c]
      refine ⟨fun h => (by cases h), fun h => ?_⟩
      have : Ind (([y] ++ zs) ++ ys.reverse) := (Ind.perm List.perm_append_comm).mp h
      have sy : Spn zs y := (e y).mp ((less_zero G).mp c)
      have h2 : Ind (ys.reverse ++ ([y] ++ zs)) := h
      exact absurd sy (ind_tail h2).1
    · rw [if_neg c]
      have ny : ¬ Spn zs y := fun k => c ((less_zero G).mpr ((e y).mpr k))
      refine freeF_iff ys (y :: zs) (ts ++ [less y ts]) (G.snoc c) (fun v => ?_) ⟨ny, iz⟩
      rw [spn_snoc, spn_less]
      exact or_congr (e _) (e _)
where
  ind_tail : ∀ {as : List Nat} {y : Nat} {zs : List Nat}, Ind (as ++ ([y] ++ zs)) → Ind (y :: zs)
    | [], _, _, h => h
    | _ :: as, _, _, h => ind_tail (as := as) h.2

theorem freeF_ind (ys : List Nat) : freeF [] ys = true ↔ Ind ys.reverse := by
  have := freeF_iff ys [] [] ⟨fun t h => (by cases h), List.Pairwise.nil⟩ (fun v => Iff.rfl) True.intro
  rw [List.append_nil] at this
  exact this

/-- the law's walk: all sums so far, the rows to come -/
def bitsF : List Nat → List Nat → Bool
  | _, [] => true
  | ss, y :: ys => if 0 ∈ ss.map (· ^^^ y) then false else bitsF (ss ++ ss.map (· ^^^ y)) ys

theorem mem_map_xor {ss : List Nat} {y v : Nat} : v ∈ ss.map (· ^^^ y) ↔ (v ^^^ y) ∈ ss := by
  rw [List.mem_map]
  constructor
  · rintro ⟨a, h, rfl⟩
    rw [xx]
    exact h
  · intro h
    exact ⟨_, h, xx _ _⟩

theorem bitsF_iff : ∀ (ys zs ss : List Nat), (∀ v, v ∈ ss ↔ Spn zs v) → Ind zs → (bitsF ss ys = true ↔ Ind (ys.reverse ++ zs))
  | [], zs, ss, _, iz => by
    show (true = true) ↔ Ind zs
    exact ⟨fun _ => iz, fun _ => rfl⟩
  | y :: ys, zs, ss, e, iz => by
    show ((if 0 ∈ ss.map (· ^^^ y) then false else bitsF (ss ++ ss.map (· ^^^ y)) ys) = true) ↔ _
    rw [List.reverse_cons, List.append_assoc]
    by_cases c : 0 ∈ ss.map (· ^^^ y)
    · rw [if_pos c]
      refine ⟨fun h => (by cases h), fun h => ?_⟩
      rw [mem_map_xor, Nat.zero_xor] at c
      exact absurd ((e y).mp c) (freeF_iff.ind_tail h).1
    · rw [if_neg c]
      rw [mem_map_xor, Nat.zero_xor] at c
      refine bitsF_iff ys (y :: zs) _ (fun v => ?_) ⟨fun k => c ((e y).mpr k), iz⟩
      rw [List.mem_append, mem_map_xor]
      exact or_congr (e _) (e _)
theorem bitsF_ind (ys : List Nat) : bitsF [0] ys = true ↔ Ind ys.reverse := by
  have := bitsF_iff ys [] [0] (fun v => by rw [List.mem_singleton]; exact Iff.rfl) True.intro
  rw [List.append_nil] at this
  exact this

theorem agree (xs : List Nat) : freeF [] xs.reverse = bitsF [0] xs := by
  rw [Bool.eq_iff_iff, freeF_ind, bitsF_ind, List.reverse_reverse]
  exact Ind.perm (List.reverse_perm xs).symm
end BM
namespace Fs
open PySem L2
def top (i : Nat) : Stmt := PySem.Challenge.pw_freesets_k04_bits.main.body.getD i (.Pass ⟨0, 0, 0, 0⟩)
abbrev s_is_number : Stmt := top 6
abbrev n_is_number : List Str := ["value"]
theorem sc_is_number : FnScope n_is_number ["value"] (defScope s_is_number) :=
  ⟨rfl, rfl, rfl, by decide +kernel, rfl, by decide +kernel, by decide +kernel⟩
abbrev s_is_within : Stmt := top 7
abbrev n_is_within : List Str := ["value", "low", "high"]
theorem sc_is_within : FnScope n_is_within ["value", "low", "high"] (defScope s_is_within) :=
  ⟨rfl, rfl, rfl, by decide +kernel, rfl, by decide +kernel, by decide +kernel⟩
abbrev s_check_thing : Stmt := top 8
abbrev n_check_thing : List Str := ["thing", "many"]
theorem sc_check_thing : FnScope n_check_thing ["thing", "many"] (defScope s_check_thing) :=
  ⟨rfl, rfl, rfl, by decide +kernel, rfl, by decide +kernel, by decide +kernel⟩
abbrev s_check_set : Stmt := top 9
abbrev n_check_set : List Str := ["some", "many", "seen", "thing"]
theorem sc_check_set : FnScope n_check_set ["some", "many"] (defScope s_check_set) :=
  ⟨rfl, rfl, rfl, by decide +kernel, rfl, by decide +kernel, by decide +kernel⟩
abbrev s_Bits___init__ : Stmt := inClass (top 14) 0
abbrev n_Bits___init__ : List Str := ["self", "rows"]
theorem sc_Bits___init__ : FnScope n_Bits___init__ ["self", "rows"] (defScope s_Bits___init__) :=
  ⟨rfl, rfl, rfl, by decide +kernel, rfl, by decide +kernel, by decide +kernel⟩
abbrev s_Bits_many : Stmt := inClass (top 14) 1
abbrev n_Bits_many : List Str := ["self"]
theorem sc_Bits_many : FnScope n_Bits_many ["self"] (defScope s_Bits_many) :=
  ⟨rfl, rfl, rfl, by decide +kernel, rfl, by decide +kernel, by decide +kernel⟩
abbrev s_Bits_free : Stmt := inClass (top 14) 2
abbrev n_Bits_free : List Str := ["self", "some", "taken", "thing", "row"]
theorem sc_Bits_free : FnScope n_Bits_free ["self", "some"] (defScope s_Bits_free) :=
  ⟨rfl, rfl, rfl, by decide +kernel, rfl, by decide +kernel, by decide +kernel⟩
abbrev s_check_ground : Stmt := top 15
abbrev n_check_ground : List Str := ["things"]
theorem sc_check_ground : FnScope n_check_ground ["things"] (defScope s_check_ground) :=
  ⟨rfl, rfl, rfl, by decide +kernel, rfl, by decide +kernel, by decide +kernel⟩
abbrev s_are_within : Stmt := top 16
abbrev n_are_within : List Str := ["values", "low", "high", "value"]
theorem sc_are_within : FnScope n_are_within ["values", "low", "high"] (defScope s_are_within) :=
  ⟨rfl, rfl, rfl, by decide +kernel, rfl, by decide +kernel, by decide +kernel⟩
abbrev s_lessened : Stmt := top 17
abbrev n_lessened : List Str := ["row", "taken", "other"]
theorem sc_lessened : FnScope n_lessened ["row", "taken"] (defScope s_lessened) :=
  ⟨rfl, rfl, rfl, by decide +kernel, rfl, by decide +kernel, by decide +kernel⟩
abbrev s__law_cell_at : Stmt := top 19
abbrev n__law_cell_at : List Str := ["_law_script", "_law_k"]
theorem sc__law_cell_at : FnScope n__law_cell_at ["_law_script", "_law_k"] (defScope s__law_cell_at) :=
  ⟨rfl, rfl, rfl, by decide +kernel, rfl, by decide +kernel, by decide +kernel⟩
abbrev s__law_draw : Stmt := top 20
abbrev n__law_draw : List Str := ["_law_cell", "_law_k", "_law_many", "_law_mixed"]
theorem sc__law_draw : FnScope n__law_draw ["_law_cell", "_law_k", "_law_many"] (defScope s__law_draw) :=
  ⟨rfl, rfl, rfl, by decide +kernel, rfl, by decide +kernel, by decide +kernel⟩
abbrev s__law_bits : Stmt := top 21
abbrev n__law_bits : List Str := ["_law_rows", "_law_sums", "_law_row", "_law_more", "_law_one"]
theorem sc__law_bits : FnScope n__law_bits ["_law_rows"] (defScope s__law_bits) :=
  ⟨rfl, rfl, rfl, by decide +kernel, rfl, by decide +kernel, by decide +kernel⟩
abbrev s_law : Stmt := top 22
abbrev n_law : List Str := ["_law_script", "_law_n", "_law_rows", "_law_k", "_law_cell", "_law_row", "_law_handed", "_law_rule", "_law_at", "_law_some", "_law_asked", "_law_found"]
theorem sc_law : FnScope n_law ["_law_script"] (defScope s_law) :=
  ⟨rfl, rfl, rfl, by decide +kernel, rfl, by decide +kernel, by decide +kernel⟩

/-! ### words of our own, for any of the program's laws -/
section
/-- which names of the built-ins are still theirs -/
structure Bl (mg : Str → Option Value) : Prop where
  isinstance_ : mg "isinstance" = none
  int_ : mg "int" = none
  bool_ : mg "bool" = none
  list_ : mg "list" = none
  tuple_ : mg "tuple" = none
  len_ : mg "len" = none
  all_ : mg "all" = none
  range_ : mg "range" = none
  min_ : mg "min" = none
  sorted_ : mg "sorted" = none
  set_ : mg "set" = none
theorem room65 {k : Nat} {A : Around} (hr : Room k A) : A.units + 65 < cLine := by
  have := hr.un
  omega
theorem yesT {σ : St} {H : Hp} {A B : Hp → Prop} (h : A H) : tYes σ H (fun b H3 => if b = true then A H3 else B H3) := by
  show (if true = true then A H else B H)
  exact iteT h
theorem take_more {α : Type} {l : List α} {i : Nat} {x : α} (h : l[i]? = some x) : l.take (i + 1) = l.take i ++ [x] := by
  rw [List.take_add_one, h]
  rfl
theorem map_at {α β : Type} {f : α → β} {l : List α} {i : Nat} {y : β} (h : (l.map f)[i]? = some y) : ∃ x, l[i]? = some x ∧ y = f x := by
  rw [List.getElem?_map] at h
  cases e : l[i]? with
  | none => rw [e] at h; cases h
  | some x => rw [e] at h; exact ⟨x, rfl, (Option.some.inj h).symm⟩
theorem flat_ints : ∀ xs : List Int, (xs.map V.int).all flatV = true
  | [] => rfl
  | _ :: xs => flat_ints xs
theorem in_ints (x : Int) : ∀ xs : List Int, inV (.int x) (xs.map V.int) = decide (x ∈ xs)
  | [] => rfl
  | y :: xs => by
    have ih := in_ints x xs
    show ((y == x) || inV (.int x) (xs.map V.int)) = decide (x ∈ y :: xs)
    rw [ih]
    by_cases e : y = x
    · subst e; simp
    · have e' : ¬ x = y := fun z => e z.symm
      simp [e, e']
theorem flat_nats : ∀ xs : List Nat, (xs.map (fun n : Nat => V.int (n : Int))).all flatV = true
  | [] => rfl
  | _ :: xs => flat_nats xs
theorem in_nats (x : Nat) : ∀ xs : List Nat, inV (.int (x : Int)) (xs.map (fun n : Nat => V.int (n : Int))) = decide (x ∈ xs)
  | [] => rfl
  | y :: xs => by
    have ih := in_nats x xs
    show (((y : Int) == (x : Int)) || inV (.int (x : Int)) (xs.map (fun n : Nat => V.int (n : Int)))) = decide (x ∈ y :: xs)
    rw [ih]
    by_cases e : y = x
    · subst e; simp
    · have e' : ¬ x = y := fun z => e z.symm
      have e2 : ((y : Int) == (x : Int)) = false := beq_false_of_ne (by omega)
      rw [e2]
      simp [e']
/-- two lists of numbers are data -/
theorem dp_ints {K : PySem.W.Frag} {H : Hp} : ∀ xs : List Int, DpAll K H (xs.map V.int) (xs.map PyData.int)
  | [] => .nil
  | x :: xs => .cons (.int x) (dp_ints xs)
theorem eqv_ints (xs : List Int) : PyData.eqv (.list (xs.map PyData.int)) (.list (xs.map PyData.int)) = true := SeqAt.eqv_refl _ (SeqAt.canLay_of_shaped (PySem.W.ke_shaped_ints xs))
/-- a number that is not negative -/
abbrev nv (n : Nat) : V := .int (n : Int)
theorem nv_ints (l : List Nat) : l.map nv = (l.map (fun n : Nat => (n : Int))).map V.int := by
  rw [List.map_map]
  rfl
theorem nd_cast : ∀ {xs : List Nat}, xs.Nodup → (xs.map (fun n : Nat => (n : Int))).Nodup
  | [], _ => List.nodup_nil
  | x :: xs, h => by
    have h' := List.nodup_cons.mp h
    rw [List.map_cons, List.nodup_cons]
    refine ⟨fun hm => ?_, nd_cast h'.2⟩
    obtain ⟨y, hy, e⟩ := List.mem_map.mp hm
    have : y = x := by omega
    rw [this] at hy
    exact h'.1 hy
theorem dec_nv (n : Nat) : decide (nv n = V.int 0) = decide (n = 0) := by
  rw [Bool.eq_iff_iff, decide_eq_true_eq, decide_eq_true_eq]
  constructor
  · intro e
    have := V.int.inj e
    omega
  · intro e
    rw [e]
    rfl
theorem dp_nats {K : PySem.W.Frag} {H : Hp} (xs : List Nat) : DpAll K H (xs.map nv) ((xs.map (fun n : Nat => (n : Int))).map PyData.int) := by
  rw [nv_ints]
  exact dp_ints _
theorem same_upd {H : Hp} {l : Addr} {o : HO} (h : H l = none) : Same H (upd H l o) := fun b u e => by
  rw [upd_ne (ne_of_none e h)]
  exact e
theorem same_to {H H1 : Hp} {l : Addr} {o : HO} (s : Same H H1) (h : H l = none) : Same H (upd H1 l o) := fun b u e => by
  rw [upd_ne (ne_of_none e h)]
  exact s b u e
end
section
variable {P : Program} {w : World} {K : PySem.W.Frag} {mg : Str → Option Value} {base : Heap} {f : Addr} {fd : FuncData}
/-- tuple(x), list(x), len(x), where they may stand in a comprehension -/
def rTupOf (K : PySem.W.Frag) : List V → Hp → VK → Prop := fun xs H Q => ∃ p ys, xs = [.ref p] ∧ ((SqL K H p ys ∧ ∀ l, H l = none → Q (.ref l) (upd H l (.tup ys))) ∨ (SqT K H p ys ∧ Q (.ref p) H))
def rLstOf (K : PySem.W.Frag) : List V → Hp → VK → Prop := fun xs H Q => ∃ p ys, xs = [.ref p] ∧ (SqL K H p ys ∨ SqT K H p ys) ∧ ∀ l, H l = none → Q (.ref l) (upd H l (.lst ys))
def rLenOf (K : PySem.W.Frag) : List V → Hp → VK → Prop := fun xs H Q => ∃ p ys, xs = [.ref p] ∧ (SqL K H p ys ∨ SqT K H p ys) ∧ Q (.int ys.length) H
theorem call_tupK {X : Cx} {K : PySem.W.Frag} (eK : X.K = K) : CallR X (.type "tuple") (rTupOf K) := by subst eK; exact call_tuple_of
theorem call_lstK {X : Cx} {K : PySem.W.Frag} (eK : X.K = K) : CallR X (.type "list") (rLstOf K) := by subst eK; exact call_list_of
theorem call_lenK {X : Cx} {K : PySem.W.Frag} (eK : X.K = K) : CallR X (.builtin "len") (rLenOf K) := by subst eK; exact call_len_seq
theorem call_isiK {X : Cx} {K : PySem.W.Frag} (eK : X.K = K) : CallR X (.builtin "isinstance") (rIsi K) := by subst eK; exact call_isi
/-- a tuple as a target, where it may stand in a comprehension -/
theorem pg_tupK {X : Cx} {K : PySem.W.Frag} {es : List Expr} {k : Nat} {t : TGs} {n : Nat} {pos : Pos} (eK : X.K = K) (hc : X.calm = true) (h : PGs X es t)
    (hn : (assignEach es X.env).length = n := by rfl) (hst : (assignEach es X.env).findIdx? (·.1) = none := by rfl) : PG X (.Tuple es k pos) (gTup K n t) := by
  subst eK
  exact pg_tup hc h hn hst
/-- xs.count(e), where it may stand in a comprehension -/
theorem pe_cntK {X : Cx} {K : PySem.W.Frag} {o e : Expr} {to : TE} {t : TA} {apos cpos : Pos} (eK : X.K = K) (ho : PE X o to) (ha : PA X [e] t)
    (hbase : attributeBase o "count" X.env (eval o X.env) = eval o X.env := by rfl)
    (hfew : ((backTo cpos (starEach [e] X.env)).all (fun x => !x.1) && (backToKw cpos (keywordEach [] X.env)).all (fun x => x.1.isSome)
      && decide ([e].length + ([] : List Keyword).length + (if ([] : List Keyword).isEmpty then 0 else 1) < 30)) = true := by rfl)
    (hline : (apos.endLine == cpos.line) = true := by rfl) (hs : starEach [e] X.env = [(false, eval e X.env)] := by rfl) :
    PE X (.Call (.Attribute o "count" apos) [e] [] cpos) (tBM K "list" (rCntI K) to t) := by
  subst eK
  exact pe_bm PySem.F.plainAttrs_list PySem.F.slot_list_count PySem.F.type_list_count mt_lcount ho ha hbase hfew hline hs rfl
/-! ### is_number, is_within, check_thing, check_set -/
def spNum : Sp := fun vs H Q _ => ∃ i : Int, vs = [.int i] ∧ Q (.bl true) H
theorem ok_num (B : Bl mg) (F : L2.Fun K "is_number" "is_number" s_is_number f fd) (g : mg "is_number" = some (.ref f)) : C8.Cal P w K mg base 1 "is_number" spNum [] := by
  refine ⟨f, fd, ["value"], [], F.ok sc_is_number (fun vs H Q E h => ?_) (fun cdv A outer s H vs Q E hr h => ?_), g, F.kp, F.binds (ps := ["value"]) (fun _ _ _ _ _ _ us hl => match us, hl with | [_], _ => rfl), .nil⟩
  · obtain ⟨i, rfl, _⟩ := h
    rfl
  · obtain ⟨i, rfl, q⟩ := h
    refine ⟨_, (pss_one (ps_ret (pe_and (pe_callB (call_isiK (K := K) rfl) (by rfl) B.isinstance_ (by decide +kernel) (pa_cons (pv 0) (pa_cons (pe_bltn (v := .ty "int") (u := .type "int") (by rfl) B.int_ (by decide +kernel) rfl) pa_nil))) (pe_one (pe_not (pe_callB (call_isiK (K := K) rfl) (by rfl) B.isinstance_ (by decide +kernel) (pa_cons (pv 0) (pa_cons (pe_bltn (v := .ty "bool") (u := .type "bool") (by rfl) B.bool_ (by decide +kernel) rfl) pa_nil)))))))), ?_⟩
    exact ⟨_, rfl, _, _, _, _, true, rfl, ClsV.ty _, TyX.base (TyOf.int i), kit_ty (by decide +kernel), true, rfl, iteT ⟨_, rfl, _, _, _, _, false, rfl, ClsV.ty _, TyX.base (TyOf.int i), kit_ty (by decide +kernel), false, rfl, q⟩⟩
def spWithin : Sp := fun vs H Q _ => ∃ i lo hi : Int, vs = [.int i, .int lo, .int hi] ∧ Q (.bl (decide (lo ≤ i) && decide (i ≤ hi))) H
theorem ok_within (F : L2.Fun K "is_within" "is_within" s_is_within f fd) (g : mg "is_within" = some (.ref f)) (c_is_number : C8.Cal P w K mg base 1 "is_number" spNum []) : C8.Cal P w K mg base 2 "is_within" spWithin [] := by
  refine ⟨f, fd, ["value", "low", "high"], [], F.ok sc_is_within (fun vs H Q E h => ?_) (fun cdv A outer s H vs Q E hr h => ?_), g, F.kp, F.binds (ps := ["value", "low", "high"]) (fun _ _ _ _ _ _ us hl => match us, hl with | [_, _, _], _ => rfl), .nil⟩
  · obtain ⟨i, lo, hi, rfl, _⟩ := h
    rfl
  · obtain ⟨i, lo, hi, rfl, q⟩ := h
    refine ⟨_, (pss_one (ps_ret (pe_and (C8.pe_c c_is_number hr (by first | decide | exact Nat.le_refl _ | omega) rfl (pa_cons (pv 0) pa_nil)) (pe_one (pe_chain op_le op_le (pv 1) (pv 0) (pv 2)))))), ?_⟩
    refine ⟨_, rfl, i, rfl, true, rfl, iteT ⟨_, rfl, _, rfl, lo, i, rfl, rfl, decide (lo ≤ i), rfl, ?_⟩⟩
    cases e : decide (lo ≤ i) with
    | true =>
      rw [e] at q
      exact iteT ⟨_, rfl, i, hi, rfl, rfl, q⟩
    | false =>
      rw [e] at q
      exact iteF q
def spThing : Sp := fun vs H Q _ => ∃ i n : Int, vs = [.int i, .int n] ∧ 0 ≤ i ∧ i < n ∧ Q .non H
theorem ok_thing (F : L2.Fun K "check_thing" "check_thing" s_check_thing f fd) (g : mg "check_thing" = some (.ref f)) (c_is_within : C8.Cal P w K mg base 2 "is_within" spWithin []) : C8.Cal P w K mg base 3 "check_thing" spThing [] := by
  refine ⟨f, fd, ["thing", "many"], [], F.ok sc_check_thing (fun vs H Q E h => ?_) (fun cdv A outer s H vs Q E hr h => ?_), g, F.kp, F.binds (ps := ["thing", "many"]) (fun _ _ _ _ _ _ us hl => match us, hl with | [_, _], _ => rfl), .nil⟩
  · obtain ⟨i, n, rfl, _⟩ := h
    rfl
  · obtain ⟨i, n, rfl, h0, h1, q⟩ := h
    refine ⟨_, (pss_one (ps_if (pt_not (pt_val (C8.pe_c c_is_within hr (by first | decide | exact Nat.le_refl _ | omega) rfl (pa_cons (pv 0) (pa_cons pe_int (pa_cons (pe_op op_sub (pv 1) pe_int) pa_nil)))))) (pss_one ps_never) pss_nil)), ?_⟩
    have e : (decide ((0 : Int) ≤ i) && decide (i ≤ n - 1)) = true := by
      rw [Bool.and_eq_true]
      exact ⟨decide_eq_true h0, decide_eq_true (by omega)⟩
    exact ⟨_, rfl, _, rfl, _, _, rfl, rfl, i, 0, n - 1, rfl, true, by rw [e], iteF q⟩
def spSet : Sp := fun vs H Q _ => ∃ (a : Addr) (xs : List Int) (n : Int), vs = [.ref a, .int n] ∧ H a = some (.lst (xs.map V.int)) ∧ (∀ x ∈ xs, 0 ≤ x ∧ x < n) ∧ xs.Nodup ∧ xs.length ≤ 1000 ∧ ∀ H', Same H H' → Q .non H'
theorem ok_set (B : Bl mg) (F : L2.Fun K "check_set" "check_set" s_check_set f fd) (g : mg "check_set" = some (.ref f)) (c_check_thing : C8.Cal P w K mg base 3 "check_thing" spThing []) : C8.Cal P w K mg base 4 "check_set" spSet [] := by
  refine ⟨f, fd, ["some", "many"], [], F.ok sc_check_set (fun vs H Q E h => ?_) (fun cdv A outer s H vs Q E hr h => ?_), g, F.kp, F.binds (ps := ["some", "many"]) (fun _ _ _ _ _ _ us hl => match us, hl with | [_, _], _ => rfl), .nil⟩
  · obtain ⟨a, xs, n, rfl, _⟩ := h
    rfl
  · obtain ⟨a, xs, n, rfl, ha, hx, hnd, hlen, q⟩ := h
    refine ⟨_, (pss_cons (ps_if (pt_not (pt_val (pe_callB (call_isiK (K := K) rfl) (by rfl) B.isinstance_ (by decide +kernel) (pa_cons (pv 0) (pa_cons (pe_bltn (v := .ty "list") (u := .type "list") (by rfl) B.list_ (by decide +kernel) rfl) pa_nil))))) (pss_one ps_never) pss_nil)
      (pss_cons (ps_set (i := 2) sc_check_set.nd rfl (Or.inl rfl) (pe_lst pa_nil))
      (pss_one (ps_for PassesOwn.never rfl (pi_list (pv 0)) (pg_name (i := 3) sc_check_set.nd rfl (Or.inl rfl)) (pss_cons (ps_expr (C8.pe_c c_check_thing hr (by first | decide | exact Nat.le_refl _ | omega) rfl (pa_cons (pv 3) (pa_cons (pv 1) pa_nil))))
      (pss_cons (ps_if (pt_cmpR op_in_seq (pv 3) (pv 2) (by rfl)) (pss_one ps_never) pss_nil)
      (pss_one (ps_expr (pe_bm PySem.F.plainAttrs_list PySem.F.slot_list_append PySem.F.type_list_append mt_append (pv 2) (pa_cons (pv 3) pa_nil)))))))))), ?_⟩
    refine ⟨_, rfl, _, _, _, _, true, rfl, ClsV.ty _, TyX.base (TyOf.lst ha), kit_ty (by decide +kernel), true, rfl, iteF ?_⟩
    refine ⟨Nat.zero_le _, fun l hl => ?_⟩
    refine ⟨_, rfl, a, rfl, ⟨_, SqL.of (same_upd hl _ _ ha)⟩, for_list (K := K) (a := a) (xs := xs.map V.int) (fun i σ H' => ∃ v : Option V, σ = [some (.ref a), some (.int n), some (.ref l), v] ∧ Same H H' ∧ H' l = some (.lst ((xs.take i).map V.int)))
      ⟨none, rfl, same_upd hl, upd_same⟩ (fun i σ H' _ ⟨_, _, s5, _⟩ => SqL.of (s5 _ _ ha)) ?_ ?_⟩
    · rintro i y σ H' hi ⟨v, rfl, s5, hL⟩
      obtain ⟨x, hx', rfl⟩ := map_at hi
      obtain ⟨x0, x1⟩ := hx x (List.mem_of_getElem? hx')
      have hin : inV (.int x) ((xs.take i).map V.int) = false := by
        rw [in_ints]
        refine decide_eq_false fun hm => ?_
        obtain ⟨j, hj⟩ := List.getElem?_of_mem hm
        have hji : j < i := Nat.lt_of_not_le fun le => by
          rw [List.getElem?_take, if_neg (by omega)] at hj
          cases hj
        rw [List.getElem?_take, if_pos hji] at hj
        have := nd_ix hnd hj hx'
        omega
      have hl' : (xs.take i).length ≤ 1000 := Nat.le_trans (by rw [List.length_take]; omega) hlen
      refine ⟨_, rfl, _, rfl, x, n, rfl, x0, x1, ?_⟩
      refine ⟨_, rfl, _, rfl, l, _, rfl, .inl (SqL.of hL), rfl, flat_ints _, false, by rw [if_neg Bool.false_ne_true, hin], iteF ?_⟩
      refine ⟨_, rfl, .inl ⟨rfl, _, SqL.of hL⟩, _, rfl, l, _, _, rfl, rfl, hL, by rw [List.length_map]; exact small1000 hl', ?_⟩
      refine ⟨_, rfl, same_to s5 hl, ?_⟩
      rw [take_more hx', List.map_append]
      exact upd_same
    · rintro σ H' ⟨v, rfl, s5, hL⟩
      exact q _ s5
end
/-! ### the law's own readers: a cell of the script, a draw -/
def cellAt (ns : List Int) (k : Nat) : Int := ns.getD k 0
def drawF (c k m : Int) : Int :=
  let x := (c % 1000000007 * 48271 + k * 69621 + 7) % 1000000007
  x * x / 1013 % 1000003 % m
theorem drawF_lo {c k m : Int} (h : 0 < m) : 0 ≤ drawF c k m := Int.emod_nonneg _ (by omega)
theorem drawF_hi {c k m : Int} (h : 0 < m) : drawF c k m < m := Int.emod_lt_of_pos _ h
section
variable {P : Program} {w : World} {K : PySem.W.Frag} {mg : Str → Option Value} {base : Heap} {f : Addr} {fd : FuncData}
def spCellAt (K : PySem.W.Frag) : Sp := fun vs H Q _ => ∃ (a : Addr) (ns : List Int) (k : Nat), vs = [.ref a, .int (k : Int)] ∧ SqL K H a (ns.map V.int) ∧ Q (.int (cellAt ns k)) H
theorem ok_cellAt (B : Bl mg) (F : L2.Fun K "_law_cell_at" "_law_cell_at" s__law_cell_at f fd) (g : mg "_law_cell_at" = some (.ref f)) : C8.Cal P w K mg base 1 "_law_cell_at" (spCellAt K) [] := by
  refine ⟨f, fd, ["_law_script", "_law_k"], [], F.ok sc__law_cell_at (fun vs H Q E h => ?_) (fun cdv A outer s H vs Q E hr h => ?_), g, F.kp, F.binds (ps := ["_law_script", "_law_k"]) (fun _ _ _ _ _ _ us hl => match us, hl with | [_, _], _ => rfl), .nil⟩
  · obtain ⟨a, ns, k, rfl, _⟩ := h
    rfl
  · obtain ⟨a, ns, k, rfl, ha, q⟩ := h
    refine ⟨_, (pss_cons (ps_if (pt_cmpR op_lt (pv 1) (pe_callB (call_lenK (K := K) rfl) (by rfl) B.len_ (by decide +kernel) (pa_cons (pv 0) pa_nil)) (nomark _)) (pss_one (ps_ret (pe_ix (r := rIxL K) ix_list (pv 0) (pv 1) (fun _ _ => rfl)))) pss_nil)
      (pss_one (ps_ret pe_int))), ?_⟩
    refine ⟨_, rfl, _, rfl, a, _, rfl, .inl ha, (k : Int), ((ns.map V.int).length : Int), rfl, rfl, _, rfl, ?_⟩
    rw [List.length_map]
    by_cases c : (k : Int) < (ns.length : Int)
    · have hk : k < ns.length := by omega
      rw [decide_eq_true c]
      have e : cellAt ns k = ns[k] := by
        unfold cellAt
        rw [List.getD_eq_getElem?_getD, List.getElem?_eq_getElem hk]
        rfl
      rw [e] at q
      refine iteT ⟨_, rfl, _, rfl, a, _, _, _, rfl, rfl, ha, atI_nat (v := V.int ns[k]) ?_, q⟩
      rw [List.getElem?_map, List.getElem?_eq_getElem hk]
      rfl
    · rw [decide_eq_false c]
      have e : cellAt ns k = 0 := by
        unfold cellAt
        rw [List.getD_eq_getElem?_getD, List.getElem?_eq_none (by omega)]
        rfl
      rw [e] at q
      exact iteF q
def spDraw : Sp := fun vs H Q _ => ∃ c k m : Int, vs = [.int c, .int k, .int m] ∧ 0 < m ∧ -1000 < k ∧ k < 1000 ∧ Q (.int (drawF c k m)) H
theorem ok_draw (F : L2.Fun K "_law_draw" "_law_draw" s__law_draw f fd) (g : mg "_law_draw" = some (.ref f)) : C8.Cal P w K mg base 1 "_law_draw" spDraw [] := by
  refine ⟨f, fd, ["_law_cell", "_law_k", "_law_many"], [], F.ok sc__law_draw (fun vs H Q E h => ?_) (fun cdv A outer s H vs Q E hr h => ?_), g, F.kp, F.binds (ps := ["_law_cell", "_law_k", "_law_many"]) (fun _ _ _ _ _ _ us hl => match us, hl with | [_, _, _], _ => rfl), .nil⟩
  · obtain ⟨c, k, m, rfl, _⟩ := h
    rfl
  · obtain ⟨c, k, m, rfl, hm, k0, k1, q⟩ := h
    refine ⟨_, (pss_cons (ps_set (i := 3) sc__law_draw.nd rfl (Or.inl rfl) (pe_op op_mod (pe_op op_add (pe_op op_add (pe_op op_mul (pe_op op_mod (pv 0) pe_int) pe_int) (pe_op op_mul (pv 1) pe_int)) pe_int) pe_int))
      (pss_one (ps_ret (pe_op op_mod (pe_op op_mod (pe_op op_fdiv (pe_op op_mul (pv 3) (pv 3)) pe_int) pe_int) (pv 2))))), ?_⟩
    have x0 : 0 ≤ (c % 1000000007 * 48271 + k * 69621 + 7) % 1000000007 := Int.emod_nonneg _ (by decide)
    have x1 : (c % 1000000007 * 48271 + k * 69621 + 7) % 1000000007 < 1000000007 := Int.emod_lt_of_pos _ (by decide)
    have bx : ∀ x : Int, 0 ≤ x → x < 1000000007 → -(2 ^ 64) < x ∧ x < 2 ^ 64 := fun x a b => ⟨by omega, by omega⟩
    refine ⟨_, rfl, _, _, rfl, rfl, (by show (0 : Int) < 1000000007; decide), _, _, rfl, rfl, .inr ⟨by decide, by decide⟩,
      _, rfl, _, _, rfl, rfl, .inr ⟨by decide, by decide⟩, _, _, rfl, rfl, _, _, rfl, rfl, _, _, rfl, rfl, (by show (0 : Int) < 1000000007; decide), ?_⟩
    refine ⟨_, rfl, _, rfl, _, _, rfl, rfl, .inl (bx _ x0 x1), _, _, rfl, rfl, ⟨by decide, by decide⟩, _, _, rfl, rfl, (by show (0 : Int) < 1000003; decide), _, rfl, _, _, rfl, rfl, hm, q⟩
end
/-! ### check_ground -/
section
variable {P : Program} {w : World} {K : PySem.W.Frag} {mg : Str → Option Value} {base : Heap} {f : Addr} {fd : FuncData}
/-- what stands under the program's own names of numbers -/
def Num (mg : Str → Option Value) (x : Str) (i : Int) : Prop := ∃ u, mg x = some u ∧ RelV (.int i) u
/-- a class under its name -/
def Own (mg : Str → Option Value) (x : Str) (C : Addr) : Prop := ∃ u, mg x = some u ∧ RelV (.ref C) u
/-- what isinstance asks of a class of the program, and of the one above it -/
structure Isi (K : PySem.W.Frag) (C CR : Addr) : Prop where
  ha : PySem.W.findIn K (.ref C) "__class__" = some (some (.builtin "object.__class__"))
  hn : PySem.W.specialIn K (.builtin "object.__class__") "__get__" = some (some (.builtin "getset_descriptor.__get__"))
  htk : PySem.W.takesIn K (.builtin "object.__class__") = some true
  hm : PySem.W.mroIn K C (.type "object") = some true
  up : PySem.W.kitOne K (.ref C) (.ref CR) = some true
theorem kit_up {C CR : Addr} (h2 : PySem.W.isClsIn K CR = true) (h3 : PySem.W.typeIn K (.ref CR) = some (.type "type")) (h4 : PySem.W.subIn K (.ref C) (.ref CR) = some true) : PySem.W.kitOne K (.ref C) (.ref CR) = some true := by
  unfold PySem.W.kitOne
  by_cases c : (Value.ref C == Value.ref CR) = true
  · rw [if_pos c]
  · rw [if_neg c]
    have h2' : (PySem.W.clsIn K CR).isSome = true := h2
    have e2 : ((PySem.W.clsIn K CR).isSome && PySem.W.typeIn K (.ref CR) == some (.type "type")) = true := by
      rw [h2', h3] <;> rfl
    show (if ((PySem.W.clsIn K CR).isSome && PySem.W.typeIn K (.ref CR) == some (.type "type")) = true then PySem.W.subIn K (.ref C) (.ref CR) else none) = some true
    rw [if_pos e2]
    exact h4
def spGround : Sp := fun vs H Q _ => ∃ (a : Addr) (xs : List V), vs = [.ref a] ∧ H a = some (.lst xs) ∧ xs.length ≤ 16 ∧ Q .non H
structure Gl_ (mg : Str → Option Value) (CR : Addr) : Prop where
  Rule : Own mg "Rule" CR
def spLaw (K : PySem.W.Frag) : Sp := fun vs H Q _ => ∃ (a : Addr) (ns : List Int), vs = [.ref a] ∧ SqL K H a (ns.map V.int) ∧ ns.length ≤ 63 ∧ ∀ H', Q (.bl true) H'
structure Gg (mg : Str → Option Value) : Prop where
  MOST_THINGS : Num mg "MOST_THINGS" 16
theorem ok_ground (B : Bl mg) (G : Gg mg) (F : L2.Fun K "check_ground" "check_ground" s_check_ground f fd) (g : mg "check_ground" = some (.ref f)) : C8.Cal P w K mg base 1 "check_ground" spGround [] := by
  refine ⟨f, fd, ["things"], [], F.ok sc_check_ground (fun vs H Q E h => ?_) (fun cdv A outer s H vs Q E hr h => ?_), g, F.kp, F.binds (ps := ["things"]) (fun _ _ _ _ _ _ us hl => match us, hl with | [_], _ => rfl), .nil⟩
  · obtain ⟨a, xs, rfl, _⟩ := h
    rfl
  · obtain ⟨a, xs, rfl, ha, hl, q⟩ := h
    refine ⟨_, (pss_cons (ps_if (pt_not (pt_val (pe_callB (call_isiK (K := K) rfl) (by rfl) B.isinstance_ (by decide +kernel) (pa_cons (pv 0) (pa_cons (pe_bltn (v := .ty "list") (u := .type "list") (by rfl) B.list_ (by decide +kernel) rfl) pa_nil))))) (pss_one ps_never) pss_nil)
      (pss_one (ps_if (pt_cmpR op_gt (pe_callB (call_lenK (K := K) rfl) (by rfl) B.len_ (by decide +kernel) (pa_cons (pv 0) pa_nil)) (C8.pe_gc rfl G.MOST_THINGS) (nomark _)) (pss_one ps_never) pss_nil))), ?_⟩
    refine ⟨_, rfl, _, _, _, _, true, rfl, ClsV.ty _, TyX.base (TyOf.lst ha), kit_ty (by decide +kernel), true, rfl, iteF ?_⟩
    refine ⟨_, rfl, a, _, rfl, .inl (SqL.of ha), _, _, rfl, rfl, false, ?_, iteF q⟩
    have : ¬ ((16 : Int) < (xs.length : Int)) := by omega
    show V.bl (decide ((16 : Int) < (xs.length : Int))) = V.bl false
    rw [decide_eq_false this]
end
/-! ### are_within -/
section
variable {P : Program} {w : World} {K : PySem.W.Frag} {mg : Str → Option Value} {base : Heap} {f : Addr} {fd : FuncData}
def inB (lo hi x : Int) : Bool := decide (lo ≤ x) && decide (x ≤ hi)
def spAre : Sp := fun vs H Q _ => ∃ (a : Addr) (xs : List Int) (lo hi : Int), vs = [.ref a, .int lo, .int hi] ∧ H a = some (.lst (xs.map V.int)) ∧ xs.length ≤ 1000 ∧ ∀ H', Same H H' → Q (.bl (xs.all (inB lo hi))) H'
theorem all_map {α : Type} (p : α → Bool) : ∀ xs : List α, (xs.map p).all id = xs.all p
  | [] => rfl
  | x :: xs => by
    show (p x && (xs.map p).all id) = (p x && xs.all p)
    rw [all_map p xs]
theorem ok_are (B : Bl mg) (F : L2.Fun K "are_within" "are_within" s_are_within f fd) (g : mg "are_within" = some (.ref f)) (c_is_within : C8.Cal P w K mg base 2 "is_within" spWithin []) : C8.Cal P w K mg base 3 "are_within" spAre [] := by
  refine ⟨f, fd, ["values", "low", "high"], [], F.ok sc_are_within (fun vs H Q E h => ?_) (fun cdv A outer s H vs Q E hr h => ?_), g, F.kp, F.binds (ps := ["values", "low", "high"]) (fun _ _ _ _ _ _ us hl => match us, hl with | [_, _, _], _ => rfl), .nil⟩
  · obtain ⟨a, xs, lo, hi, rfl, _⟩ := h
    rfl
  · obtain ⟨a, xs, lo, hi, rfl, ha, hlen, q⟩ := h
    refine ⟨_, (pss_one (ps_ret (pe_and (pe_callB (call_isiK (K := K) rfl) (by rfl) B.isinstance_ (by decide +kernel) (pa_cons (pv 0) (pa_cons (pe_bltn (v := .ty "list") (u := .type "list") (by rfl) B.list_ (by decide +kernel) rfl) pa_nil))) (pe_one (pe_callB (cr_all rfl) (by rfl) B.all_ (by decide +kernel) (pa_cons (pe_lc (own := [("value", 3)]) rfl sc_are_within.nd (pi_list (pv 0)) (blkOk_by (own := [("value", 3)]) (N := n_are_within) (sc := defScope s_are_within) (by decide +kernel)) (fun _ _ _ _ _ => (pg_name (i := 3) sc_are_within.nd rfl (Or.inl rfl))) (fun _ _ _ _ _ => pts_nil) (fun _ _ _ _ _ => (C8.pe_c c_is_within hr (by first | decide | exact Nat.le_refl _ | omega) rfl (pa_cons (pv 3) (pa_cons (pv 1) (pa_cons (pv 2) pa_nil)))))) pa_nil)))))), ?_⟩
    refine ⟨_, rfl, _, _, _, _, true, rfl, ClsV.ty _, TyX.base (TyOf.lst ha), kit_ty (by decide +kernel), true, rfl, iteT ?_⟩
    refine ⟨_, rfl, a, rfl, ⟨_, SqL.of ha⟩, fun D hD => lc_list (K := K) (a := a) (xs := xs.map V.int) (fun i H' => Same H H' ∧ H' D = some (.lst (((xs.take i).map (inB lo hi)).map V.bl)))
      ⟨same_upd hD, upd_same⟩ (fun i H' _ p => SqL.of (p.1 _ _ ha)) ?_ ?_⟩
    · rintro i y H' hi' ⟨s5, hL⟩
      obtain ⟨x, hx, rfl⟩ := map_at hi'
      refine ⟨rfl, yesT ?_⟩
      refine ⟨_, rfl, _, rfl, _, rfl, x, lo, hi, rfl, _, hL, ?_, same_to s5 hD, ?_⟩
      · rw [List.length_map, List.length_map]
        exact small1000 (Nat.le_trans (by rw [List.length_take]; omega) hlen)
      · rw [take_more hx, List.map_append, List.map_append]
        exact upd_same
    · rintro H' ⟨s5, hL⟩
      rw [List.length_map, List.take_length] at hL
      refine ⟨D, _, rfl, SqL.of hL, ?_⟩
      rw [all_map]
      exact q _ s5
end
section
variable {P : Program} {w : World} {K : PySem.W.Frag} {mg : Str → Option Value} {base : Heap} {f C CR : Addr} {fd : FuncData}
/-! ### lessened -/
theorem min_less (r o : Nat) : (if Builtin.bitXor (r : Int) (o : Int) < (r : Int) then Builtin.bitXor (r : Int) (o : Int) else (r : Int)) = ((BM.less1 r o : Nat) : Int) := by
  rw [Bits.bitXor_pp (Int.natCast_nonneg _) (Int.natCast_nonneg _), Int.toNat_natCast, Int.toNat_natCast]
  unfold BM.less1
  by_cases c : r ^^^ o < r
  · rw [if_pos c, if_pos (by omega)]
  · rw [if_neg c, if_neg (by omega)]
theorem less_more {r : Nat} {ts : List Nat} {i o : Nat} (h : ts[i]? = some o) : BM.less r (ts.take (i + 1)) = BM.less1 (BM.less r (ts.take i)) o := by
  unfold BM.less
  rw [take_more h, List.foldl_append]
  rfl
def spLess : Sp := fun vs H Q _ => ∃ (r : Nat) (a : Addr) (ts : List Nat), vs = [nv r, .ref a] ∧ H a = some (.lst (ts.map nv)) ∧ Q (nv (BM.less r ts)) H
theorem ok_less (B : Bl mg) (F : L2.Fun K "lessened" "lessened" s_lessened f fd) (g : mg "lessened" = some (.ref f)) : C8.Cal P w K mg base 1 "lessened" spLess [] := by
  refine ⟨f, fd, ["row", "taken"], [], F.ok sc_lessened (fun vs H Q E h => ?_) (fun cdv A outer s H vs Q E hr h => ?_), g, F.kp, F.binds (ps := ["row", "taken"]) (fun _ _ _ _ _ _ us hl => match us, hl with | [_, _], _ => rfl), .nil⟩
  · obtain ⟨r, a, ts, rfl, _⟩ := h
    rfl
  · obtain ⟨r, a, ts, rfl, ha, q⟩ := h
    refine ⟨_, (pss_cons (ps_for PassesOwn.never rfl (pi_list (pv 1)) (pg_name (i := 2) sc_lessened.nd rfl (Or.inl rfl)) (pss_one (ps_set (i := 0) sc_lessened.nd rfl (Or.inl rfl) (pe_callB (call_min2 rfl) (by rfl) B.min_ (by decide +kernel) (pa_cons (pv 0) (pa_cons (pe_op op_xor (pv 0) (pv 2)) pa_nil))))))
      (pss_one (ps_ret (pv 0)))), ?_⟩
    refine ⟨_, rfl, a, rfl, ⟨_, SqL.of ha⟩, for_list (K := K) (a := a) (xs := ts.map nv) (fun i σ H' => ∃ v : Option V, σ = [some (nv (BM.less r (ts.take i))), some (.ref a), v] ∧ H' = H)
      ⟨none, rfl, rfl⟩ (fun i σ H' _ ⟨_, _, e⟩ => by rw [e]; exact SqL.of ha) ?_ ?_⟩
    · rintro i y σ H' hi ⟨v, rfl, rfl⟩
      obtain ⟨o, ho, rfl⟩ := map_at hi
      refine ⟨_, rfl, _, rfl, _, rfl, _, _, rfl, rfl, _, _, rfl, ?_⟩
      refine ⟨some (nv o), ?_, rfl⟩
      rw [less_more ho, min_less]
      rfl
    · rintro σ H' ⟨v, rfl, rfl⟩
      rw [List.length_map, List.take_length]
      exact ⟨_, rfl, q⟩
/-! ### Bits -/
/-- the fields of a Bits whose tuple stands at t -/
abbrev bf (t : Addr) : List (Str × V) := [("rows", .ref t)]
/-- a Bits of these rows stands at p -/
def BitsAt (C : Addr) (H : Hp) (p : Addr) (rows : List Nat) : Prop := ∃ dx t, H p = some (.ins C dx (bf t)) ∧ H t = some (.tup (rows.map nv))
theorem BitsAt.same {H H' : Hp} {p : Addr} {rows : List Nat} (h : BitsAt C H p rows) (s : Same H H') : BitsAt C H' p rows := by
  obtain ⟨dx, t, h1, h2⟩ := h
  exact ⟨dx, t, s _ _ h1, s _ _ h2⟩
structure Gb (K : PySem.W.Frag) (mg : Str → Option Value) (C : Addr) : Prop where
  cl : Cls K C
  nR : NoAttr K C "rows"
  HIGHEST_ROW : Num mg "HIGHEST_ROW" 4294967295
def spInit (C : Addr) : Sp := fun vs H Q _ => ∃ (p dx a : Addr) (rows : List Nat), vs = [.ref p, .ref a] ∧ H p = some (.ins C dx []) ∧ H a = some (.lst (rows.map nv)) ∧ rows.length ≤ 16 ∧ (∀ r ∈ rows, r < 2 ^ 32) ∧
  ∀ H', (∀ b o, b ≠ p → H b = some o → H' b = some o) → BitsAt C H' p rows → Q .non H'
theorem ok_init (B : Bl mg) (G : Gb K mg C) (F : L2.Fun K "__init__" "Bits.__init__" s_Bits___init__ f fd) (M : Mk K C f) (g : mg "Bits" = some (.ref C)) (c_check_ground : C8.Cal P w K mg base 1 "check_ground" spGround [])
    (c_are_within : C8.Cal P w K mg base 3 "are_within" spAre []) : C8.Mak P w K mg base 4 "Bits" C (spInit C) [] := by
  refine ⟨f, fd, ["self", "rows"], [], M, F.ok sc_Bits___init__ (fun vs H Q E h => ?_) (fun cdv A outer s H vs Q E hr h => ?_), g, F.binds (ps := ["self", "rows"]) (fun _ _ _ _ _ _ us hl => match us, hl with | [_, _], _ => rfl), .nil⟩
  · obtain ⟨p, dx, a, rows, rfl, _⟩ := h
    rfl
  · obtain ⟨p, dx, a, rows, rfl, hp, ha, hl, hb, q⟩ := h
    refine ⟨_, (pss_cons (ps_expr (C8.pe_c c_check_ground hr (by first | decide | exact Nat.le_refl _ | omega) rfl (pa_cons (pv 1) pa_nil)))
      (pss_cons (ps_if (pt_not (pt_val (C8.pe_c c_are_within hr (by first | decide | exact Nat.le_refl _ | omega) rfl (pa_cons (pv 1) (pa_cons pe_int (pa_cons (C8.pe_gc rfl G.HIGHEST_ROW) pa_nil)))))) (pss_one ps_never) pss_nil)
      (pss_one (ps_fld (pv 0) (pe_callTy (call_tupK (K := K) rfl) (by rfl) B.tuple_ (by decide +kernel) (pa_cons (pv 1) pa_nil)) rfl)))), ?_⟩
    have hal : (rows.map (fun n : Nat => (n : Int))).all (inB 0 4294967295) = true := by
      rw [List.all_eq_true]
      intro x hx
      obtain ⟨n, hn, rfl⟩ := List.mem_map.mp hx
      have := hb n hn
      unfold inB
      rw [Bool.and_eq_true]
      exact ⟨decide_eq_true (by omega), decide_eq_true (by omega)⟩
    have ha' := ha
    rw [nv_ints] at ha'
    refine ⟨_, rfl, a, _, rfl, ha, by rw [List.length_map]; exact hl, ?_⟩
    refine ⟨_, rfl, a, _, 0, 4294967295, rfl, ha', by rw [List.length_map]; omega, fun H1 s1 => ⟨true, by rw [hal], iteF ?_⟩⟩
    refine ⟨_, rfl, a, _, rfl, .inl ⟨SqL.of (s1 _ _ ha), fun t ht => ?_⟩⟩
    have hp1 := same_upd (o := .tup (rows.map nv)) ht _ _ (s1 _ _ hp)
    refine ⟨_, rfl, p, C, dx, _, rfl, hp1, G.cl, G.nR, (by show 0 < 1000; decide), ?_⟩
    have npt : p ≠ t := ne_of_none (s1 _ _ hp) ht
    refine q _ (fun b o nb e => ?_) ⟨dx, t, upd_same, ?_⟩
    · rw [upd_ne nb]
      exact same_upd ht _ _ (s1 _ _ e)
    · rw [upd_ne npt.symm]
      exact upd_same
def spMany (C : Addr) : Sp := fun vs H Q _ => ∃ (p : Addr) (rows : List Nat), vs = [.ref p] ∧ BitsAt C H p rows ∧ Q (nv rows.length) H
theorem ok_many (B : Bl mg) (G : Gb K mg C) (F : L2.Fun K "many" "Bits.many" s_Bits_many f fd) (M : Meth K C "many" f) : C8.Met P w K mg base 1 C "many" (spMany C) [] := by
  refine ⟨f, fd, ["self"], [], G.cl, M, F.ok sc_Bits_many (fun vs H Q E h => ?_) (fun cdv A outer s H vs Q E hr h => ?_), F.binds (ps := ["self"]) (fun _ _ _ _ _ _ us hl => match us, hl with | [_], _ => rfl), .nil⟩
  · obtain ⟨p, rows, rfl, _⟩ := h
    rfl
  · obtain ⟨p, rows, rfl, ⟨dx, t, hp, ht⟩, q⟩ := h
    refine ⟨_, (pss_one (ps_ret (pe_callB (call_lenK (K := K) rfl) (by rfl) B.len_ (by decide +kernel) (pa_cons (pe_fld (pv 0) rfl) pa_nil)))), ?_⟩
    refine ⟨_, rfl, p, C, dx, _, _, rfl, hp, G.cl, G.nR, rfl, t, _, rfl, .inr (SqT.of ht), ?_⟩
    rw [List.length_map]
    exact q
def rowAt (rows : List Nat) (k : Nat) : Nat := rows.getD k 0
def spFree (C : Addr) : Sp := fun vs H Q _ => ∃ (p a : Addr) (rows xs : List Nat), vs = [.ref p, .ref a] ∧ BitsAt C H p rows ∧ H a = some (.lst (xs.map nv)) ∧ (∀ x ∈ xs, x < rows.length) ∧ xs.Nodup ∧ xs.length ≤ 1000 ∧
  ∀ H', Same H H' → Q (.bl (BM.freeF [] (xs.map (rowAt rows)))) H'
theorem ok_free (B : Bl mg) (G : Gb K mg C) (F : L2.Fun K "free" "Bits.free" s_Bits_free f fd) (M : Meth K C "free" f) (m_many : C8.Met P w K mg base 1 C "many" (spMany C) []) (c_check_set : C8.Cal P w K mg base 4 "check_set" spSet [])
    (c_lessened : C8.Cal P w K mg base 1 "lessened" spLess []) : C8.Met P w K mg base 5 C "free" (spFree C) [] := by
  refine ⟨f, fd, ["self", "some"], [], G.cl, M, F.ok sc_Bits_free (fun vs H Q E h => ?_) (fun cdv A outer s H vs Q E hr h => ?_), F.binds (ps := ["self", "some"]) (fun _ _ _ _ _ _ us hl => match us, hl with | [_, _], _ => rfl), .nil⟩
  · obtain ⟨p, a, rows, xs, rfl, _⟩ := h
    rfl
  · obtain ⟨p, a, rows, xs, rfl, hb, ha, hx, hnd, hlen, q⟩ := h
    refine ⟨_, (pss_cons (ps_expr (C8.pe_c c_check_set hr (by first | decide | exact Nat.le_refl _ | omega) rfl (pa_cons (pv 1) (pa_cons (C8.pe_mt0 (pl := _) m_many hr (by decide) (pv 0)) pa_nil))))
      (pss_cons (ps_set (i := 2) sc_Bits_free.nd rfl (Or.inl rfl) (pe_lst pa_nil))
      (pss_cons (ps_for PassesOwn.never rfl (pi_list (pv 1)) (pg_name (i := 3) sc_Bits_free.nd rfl (Or.inl rfl)) (pss_cons (ps_set (i := 4) sc_Bits_free.nd rfl (Or.inl rfl) (C8.pe_c c_lessened hr (by first | decide | exact Nat.le_refl _ | omega) rfl (pa_cons (pe_ix (r := rIxT K) ix_tup (pe_fld (pv 0) rfl) (pv 3) (fun _ _ => rfl)) (pa_cons (pv 2) pa_nil))))
      (pss_cons (ps_if (pt_cmpR op_eq (pv 4) pe_int (nomark _)) (pss_one (ps_ret pe_bl)) pss_nil)
      (pss_one (ps_expr (pe_bm PySem.F.plainAttrs_list PySem.F.slot_list_append PySem.F.type_list_append mt_append (pv 2) (pa_cons (pv 4) pa_nil)))))))
      (pss_one (ps_ret pe_bl))))), ?_⟩
    obtain ⟨dx, t, hp, ht⟩ := id hb
    have ha' := ha
    rw [nv_ints] at ha'
    refine ⟨_, rfl, _, rfl, p, dx, _, rfl, hp, rfl, p, rows, rfl, hb, a, _, _, rfl, ha', fun x hx' => ?_, nd_cast hnd, by rw [List.length_map]; exact hlen, fun H1 s1 => ?_⟩
    · obtain ⟨n, hn, rfl⟩ := List.mem_map.mp hx'
      have := hx n hn
      omega
    refine ⟨Nat.zero_le _, fun l hl => ?_⟩
    have hl0 : H l = none := s1.free hl
    refine ⟨_, rfl, a, rfl, ⟨_, SqL.of (same_upd hl _ _ (s1 _ _ ha))⟩, for_list (K := K) (a := a) (xs := xs.map nv) (fun i σ H' => ∃ (v u : Option V) (ts : List Nat), σ = [some (.ref p), some (.ref a), some (.ref l), v, u] ∧ Same H H' ∧ H' l = some (.lst (ts.map nv)) ∧
        ts.length ≤ i ∧ BM.freeF ts ((xs.drop i).map (rowAt rows)) = BM.freeF [] (xs.map (rowAt rows)))
      ⟨none, none, [], rfl, s1.trans (same_upd hl), upd_same, Nat.le_refl _, rfl⟩ (fun i σ H' _ ⟨_, _, _, _, s5, _⟩ => SqL.of (s5 _ _ ha)) ?_ ?_⟩
    · rintro i y σ H' hi ⟨v, u, ts, rfl, s5, hL, hts, inv⟩
      obtain ⟨x, hx', rfl⟩ := map_at hi
      have xlt := hx x (List.mem_of_getElem? hx')
      have ilt : i < xs.length := (List.getElem?_eq_some_iff.mp hx').1
      have hrow : (rows.map nv)[x]? = some (nv (rowAt rows x)) := by
        rw [List.getElem?_map, List.getElem?_eq_getElem xlt]
        unfold rowAt
        rw [List.getD_eq_getElem?_getD, List.getElem?_eq_getElem xlt]
        rfl
      have edrop : xs.drop i = x :: xs.drop (i + 1) := by
        have := List.drop_eq_getElem_cons ilt
        rw [this]
        have e2 := (List.getElem?_eq_some_iff.mp hx').2
        rw [e2]
      have st : BM.freeF ts (rowAt rows x :: (xs.drop (i + 1)).map (rowAt rows)) = BM.freeF [] (xs.map (rowAt rows)) := by
        rw [← inv, edrop, List.map_cons]
      refine ⟨_, rfl, p, C, dx, _, _, rfl, s5 _ _ hp, G.cl, G.nR, rfl, _, rfl, t, _, _, _, rfl, rfl, SqT.of (s5 _ _ ht), atI_nat hrow, ?_⟩
      refine ⟨_, rfl, rowAt rows x, l, ts, rfl, hL, ?_⟩
      refine ⟨_, rfl, rfl, _, dec_nv_bl _, ?_⟩
      by_cases c : BM.less (rowAt rows x) ts = 0
      · rw [decide_eq_true c]
        have e : BM.freeF ts (rowAt rows x :: (xs.drop (i + 1)).map (rowAt rows)) = false := if_pos c
        rw [e] at st
        refine iteT ?_
        have qq := q H' s5
        rw [← st] at qq
        exact qq
      · rw [decide_eq_false c]
        have e : BM.freeF ts (rowAt rows x :: (xs.drop (i + 1)).map (rowAt rows)) = BM.freeF (ts ++ [BM.less (rowAt rows x) ts]) ((xs.drop (i + 1)).map (rowAt rows)) := if_neg c
        rw [e] at st
        refine iteF ⟨_, rfl, .inl ⟨rfl, _, SqL.of hL⟩, _, rfl, l, _, _, rfl, rfl, hL, by rw [List.length_map]; exact small1000 (by omega), ?_⟩
        refine ⟨_, _, ts ++ [BM.less (rowAt rows x) ts], rfl, same_to s5 hl0, ?_, ?_, st⟩
        · rw [List.map_append]
          exact upd_same
        · rw [List.length_append]
          show ts.length + 1 ≤ i + 1
          omega
    · rintro σ H' ⟨v, u, ts, rfl, s5, hL, hts, inv⟩
      rw [List.length_map, List.drop_length] at inv
      have qq := q H' s5
      rw [← inv] at qq
      exact qq
where
  dec_nv_bl (n : Nat) : V.bl (decide (nv n = V.int 0)) = V.bl (decide (n = 0)) := by rw [dec_nv]
end
section
variable {P : Program} {w : World} {K : PySem.W.Frag} {mg : Str → Option Value} {base : Heap} {f C CR : Addr} {fd : FuncData}
theorem xor_nv (a b : Nat) : V.int (Builtin.bitXor (a : Int) (b : Int)) = nv (a ^^^ b) := by
  rw [Bits.bitXor_pp (Int.natCast_nonneg _) (Int.natCast_nonneg _), Int.toNat_natCast, Int.toNat_natCast]
def spLBits : Sp := fun vs H Q _ => ∃ (a : Addr) (rows : List Nat), vs = [.ref a] ∧ H a = some (.lst (rows.map nv)) ∧ rows.length ≤ 8 ∧ ∀ H', Same H H' → Q (.bl (BM.bitsF [0] rows)) H'
theorem ok_lbits (F : L2.Fun K "_law_bits" "_law_bits" s__law_bits f fd) (g : mg "_law_bits" = some (.ref f)) : C8.Cal P w K mg base 1 "_law_bits" spLBits [] := by
  refine ⟨f, fd, ["_law_rows"], [], F.ok sc__law_bits (fun vs H Q E h => ?_) (fun cdv A outer s H vs Q E hr h => ?_), g, F.kp, F.binds (ps := ["_law_rows"]) (fun _ _ _ _ _ _ us hl => match us, hl with | [_], _ => rfl), .nil⟩
  · obtain ⟨a, rows, rfl, _⟩ := h
    rfl
  · obtain ⟨a, rows, rfl, ha, hlen, q⟩ := h
    refine ⟨_, (pss_cons (ps_set (i := 1) sc__law_bits.nd rfl (Or.inl rfl) (pe_lst (pa_cons pe_int pa_nil)))
      (pss_cons (ps_for PassesOwn.never rfl (pi_list (pv 0)) (pg_name (i := 2) sc__law_bits.nd rfl (Or.inr rfl)) (pss_cons (ps_setLc (i := 3) (own := [("_law_one", 4)]) rfl sc__law_bits.nd rfl rfl (sw_true rfl rfl rfl (by decide +kernel)) (pi_list (pv 1)) (blkOk_by (own := [("_law_one", 4)]) (N := n__law_bits) (sc := defScope s__law_bits) (by decide +kernel)) (fun _ _ _ _ _ => (pg_name (i := 4) sc__law_bits.nd rfl (Or.inl rfl))) (fun _ _ _ _ _ => pts_nil) (fun _ _ _ _ _ => (pe_op op_xor (pv 4) (pv 2))))
      (pss_cons (ps_if (pt_cmpR op_in_seq pe_int (pv 3) (by rfl)) (pss_one (ps_ret pe_bl)) pss_nil)
      (pss_one (ps_set (i := 1) sc__law_bits.nd rfl (Or.inl rfl) (pe_op op_cat (pv 1) (pv 3)))))))
      (pss_one (ps_ret pe_bl)))), ?_⟩
    refine ⟨(by show 1 ≤ sizeLine; decide), fun l0 hl0 => ?_⟩
    refine ⟨_, rfl, a, rfl, ⟨_, SqL.of (same_upd hl0 _ _ ha)⟩, for_list (K := K) (a := a) (xs := rows.map nv) (fun i σ H' => ∃ (v u : Option V) (l : Addr) (ss : List Nat), σ = [some (.ref a), some (.ref l), v, u, none] ∧ Same H H' ∧ H l = none ∧ H' l = some (.lst (ss.map nv)) ∧
        ss.length ≤ 2 ^ i ∧ BM.bitsF ss (rows.drop i) = BM.bitsF [0] rows)
      ⟨none, none, l0, [0], rfl, same_upd hl0, hl0, upd_same, Nat.le_refl _, rfl⟩ (fun i σ H' _ ⟨_, _, _, _, _, s5, _⟩ => SqL.of (s5 _ _ ha)) ?_ ?_⟩
    · rintro i y σ H' hi ⟨v, u, l, ss, rfl, s5, hl, hL, hss, inv⟩
      obtain ⟨r, hr', rfl⟩ := map_at hi
      have ilt : i < rows.length := (List.getElem?_eq_some_iff.mp hr').1
      have edrop : rows.drop i = r :: rows.drop (i + 1) := by
        have e2 := (List.getElem?_eq_some_iff.mp hr').2
        rw [List.drop_eq_getElem_cons ilt, e2]
      have hp : 2 ^ i ≤ 256 := Nat.pow_le_pow_right (n := 2) (by decide) (show i ≤ 8 by omega)
      refine ⟨_, rfl, l, rfl, ⟨_, SqL.of hL⟩, fun D hD => lc_list (K := K) (a := l) (xs := ss.map nv) (fun j H2 => Same H' H2 ∧ H2 D = some (.lst (((ss.take j).map (· ^^^ r)).map nv)))
        ⟨same_upd hD, upd_same⟩ (fun j H2 _ p => SqL.of (p.1 _ _ hL)) ?_ ?_⟩
      · rintro j z H2 hj ⟨s6, hA⟩
        obtain ⟨o, ho, rfl⟩ := map_at hj
        refine ⟨rfl, yesT ?_⟩
        refine ⟨_, rfl, _, rfl, _, _, rfl, rfl, _, hA, ?_, same_to s6 hD, ?_⟩
        · rw [List.length_map, List.length_map]
          exact small1000 (by rw [List.length_take]; omega)
        · rw [take_more ho, List.map_append, List.map_append]
          refine upd_same.trans ?_
          show some (HO.lst (_ ++ [V.int (Builtin.bitXor (o : Int) (r : Int))])) = _
          rw [xor_nv]
          rfl
      · rintro H2 ⟨s6, hA⟩
        rw [List.length_map, List.take_length] at hA
        refine ⟨_, rfl, D, _, rfl, .inl (SqL.of hA), rfl, flat_nats _, decide (0 ∈ ss.map (· ^^^ r)), ?_, ?_⟩
        · rw [if_neg Bool.false_ne_true]
          exact congrArg V.bl (in_nats 0 _)
        rw [edrop] at inv
        by_cases c : 0 ∈ ss.map (· ^^^ r)
        · rw [decide_eq_true c]
          refine iteT ?_
          have e : BM.bitsF ss (r :: rows.drop (i + 1)) = false := if_pos c
          rw [e] at inv
          have qq := q H2 (s5.trans s6)
          rw [← inv] at qq
          exact qq
        · rw [decide_eq_false c]
          have e : BM.bitsF ss (r :: rows.drop (i + 1)) = BM.bitsF (ss ++ ss.map (· ^^^ r)) (rows.drop (i + 1)) := if_neg c
          rw [e] at inv
          refine iteF ⟨_, rfl, _, rfl, l, D, _, _, rfl, rfl, s6 _ _ hL, hA, ?_, fun p hp' => ?_⟩
          · simp only [List.length_map]
            exact Nat.le_of_lt (small1000 (by omega))
          · refine ⟨_, _, p, ss ++ ss.map (· ^^^ r), rfl, (s5.trans s6).trans (same_upd hp'), (s5.trans s6).free hp', ?_, ?_, inv⟩
            · rw [List.map_append]
              exact upd_same
            · rw [List.length_append, List.length_map, Nat.pow_succ]
              omega
    · rintro σ H' ⟨v, u, l, ss, rfl, s5, hl, hL, hss, inv⟩
      rw [List.length_map, List.drop_length] at inv
      have qq := q H' s5
      rw [← inv] at qq
      exact qq
end
/-! ### the law -/
section
variable {P : Program} {w : World} {K : PySem.W.Frag} {mg : Str → Option Value} {base : Heap} {f C CR : Addr} {fd : FuncData}
theorem lt_shift {a b : Int} (a0 : 0 ≤ a) (a1 : a < 16) (b0 : 0 ≤ b) (b1 : b < 29) : ∃ m : Nat, m < 2 ^ 32 ∧ a * 2 ^ b.toNat = (m : Int) := by
  refine ⟨a.toNat * 2 ^ b.toNat, ?_, ?_⟩
  · have h1 : (2 : Nat) ^ b.toNat ≤ 2 ^ 28 := Nat.pow_le_pow_right (by decide) (by omega)
    have h2 : a.toNat ≤ 15 := by omega
    have := Nat.mul_le_mul h2 h1
    omega
  · rw [Int.natCast_mul, Int.natCast_pow, Int.toNat_of_nonneg a0]
    rfl
theorem cut8 (ks : List Nat) : cutV (ks.map nv) none (some 8) = (ks.take 8).map nv := by
  unfold cutV
  rw [HT.sIx_none, show (some (8 : Int)) = some ((8 : Nat) : Int) from rfl, HT.sIx_nat, List.drop_zero, Nat.sub_zero, List.length_map, List.map_take]
  rw [List.take_eq_take_iff, List.length_map]
  omega
theorem ok_law (B : Bl mg) (G : Gl_ mg CR) (GB : Gb K mg C) (I : Isi K C CR) (F : L2.Fun K "law" "law" s_law f fd) (c__law_cell_at : C8.Cal P w K mg base 1 "_law_cell_at" (spCellAt K) []) (c__law_draw : C8.Cal P w K mg base 1 "_law_draw" spDraw [])
    (c__law_bits : C8.Cal P w K mg base 1 "_law_bits" spLBits []) (k_Bits : C8.Mak P w K mg base 4 "Bits" C (spInit C) []) (m_many : C8.Met P w K mg base 1 C "many" (spMany C) []) (m_free : C8.Met P w K mg base 5 C "free" (spFree C) []) :
    FnOk P w K mg base CX0 6 f fd ["_law_script"] (spLaw K) := by
  refine F.ok sc_law (fun vs H Q E h => ?_) (fun cdv A outer s H vs Q E hr h => ?_)
  · obtain ⟨a, ns, rfl, _⟩ := h
    rfl
  · obtain ⟨a, ns, rfl, hS, hlen, k⟩ := h
    refine ⟨_, (C8.pss_cut (ps_set (i := 1) sc_law.nd rfl (Or.inl rfl) (pe_op op_mod (C8.pe_c c__law_cell_at hr (by first | decide | exact Nat.le_refl _ | omega) rfl (pa_cons (pv 0) (pa_cons pe_int pa_nil))) pe_int))
      (pss_cons (ps_set (i := 2) sc_law.nd rfl (Or.inr rfl) (pe_lst pa_nil))
      (pss_cons (ps_for PassesOwn.never rfl (pi_range1 rfl B.range_ (pa_cons (pv 1) pa_nil)) (pg_name (i := 3) sc_law.nd rfl (Or.inl rfl)) (C8.pss_cut (ps_set (i := 4) sc_law.nd rfl (Or.inr rfl) (pe_op op_add (C8.pe_c c__law_cell_at hr (by first | decide | exact Nat.le_refl _ | omega) rfl (pa_cons (pv 0) (pa_cons (pe_op op_add pe_int (pe_op op_mod (pv 3) pe_int)) pa_nil))) (pe_op op_mul pe_int (pv 3))))
      (C8.pss_cut (ps_set (i := 5) sc_law.nd rfl (Or.inl rfl) (pe_op op_shl (C8.pe_c c__law_draw hr (by first | decide | exact Nat.le_refl _ | omega) rfl (pa_cons (pv 4) (pa_cons pe_int (pa_cons pe_int pa_nil)))) (C8.pe_c c__law_draw hr (by first | decide | exact Nat.le_refl _ | omega) rfl (pa_cons (C8.pe_c c__law_cell_at hr (by first | decide | exact Nat.le_refl _ | omega) rfl (pa_cons (pv 0) (pa_cons pe_int pa_nil))) (pa_cons pe_int (pa_cons pe_int pa_nil))))))
      (C8.pss_cut (ps_if (pt_cmpR op_eq (C8.pe_c c__law_draw hr (by first | decide | exact Nat.le_refl _ | omega) rfl (pa_cons (pv 4) (pa_cons pe_int (pa_cons pe_int pa_nil)))) pe_int (nomark _)) (pss_one (ps_set (i := 5) sc_law.nd rfl (Or.inl rfl) (pe_op op_add (pe_op op_mul (C8.pe_c c__law_draw hr (by first | decide | exact Nat.le_refl _ | omega) rfl (pa_cons (pv 4) (pa_cons pe_int (pa_cons pe_int pa_nil)))) pe_int) (C8.pe_c c__law_draw hr (by first | decide | exact Nat.le_refl _ | omega) rfl (pa_cons (pv 4) (pa_cons pe_int (pa_cons pe_int pa_nil))))))) pss_nil)
      (C8.pss_cut (ps_if (PW.pt (pw_and (pt_cmpR op_gt (pv 3) pe_int (nomark _)) (pw_and1 (pt_cmpR op_eq (C8.pe_c c__law_draw hr (by first | decide | exact Nat.le_refl _ | omega) rfl (pa_cons (pv 4) (pa_cons pe_int (pa_cons pe_int pa_nil)))) pe_int (nomark _))))) (pss_one (ps_set (i := 5) sc_law.nd rfl (Or.inl rfl) (pe_op op_xor (pe_ix (r := rIxL K) ix_list (pv 2) (pe_op op_sub (pv 3) pe_int) (fun _ _ => rfl)) (pe_ix (r := rIxL K) ix_list (pv 2) (pe_op op_sub (pv 3) pe_int) (fun _ _ => rfl))))) pss_nil)
      (pss_one (ps_expr (pe_bm PySem.F.plainAttrs_list PySem.F.slot_list_append PySem.F.type_list_append mt_append (pv 2) (pa_cons (pv 5) pa_nil)))))))))
      (pss_cons (ps_set (i := 6) sc_law.nd rfl (Or.inl rfl) (pe_callTy (call_lstK (K := K) rfl) (by rfl) B.list_ (by decide +kernel) (pa_cons (pv 2) pa_nil)))
      (pss_cons (ps_set (i := 7) sc_law.nd rfl (Or.inl rfl) (C8.pe_mk k_Bits hr (by decide) rfl (pa_cons (pv 6) pa_nil)))
      (pss_cons (ps_if (PW.pt (pw_or (pt_cmpR (op_neD hr.units) (pv 6) (pv 2) (nomark _)) (pw_or (pt_not (pt_val (pe_callB (call_isiK (K := K) rfl) (by rfl) B.isinstance_ (by decide +kernel) (pa_cons (pv 7) (pa_cons (C8.pe_gc rfl G.Rule) pa_nil))))) (pw_or1 (pt_cmpR op_ne (C8.pe_mt0 (pl := _) m_many hr (by decide) (pv 7)) (pv 1) (nomark _)))))) (pss_one (ps_ret pe_bl)) pss_nil)
      (pss_cons (ps_expr (pe_bm PySem.F.plainAttrs_list PySem.F.slot_list_append PySem.F.type_list_append mt_append (pv 6) (pa_cons pe_int pa_nil)))
      (pss_cons (ps_for PassesOwn.never rfl (pi_range1 rfl B.range_ (pa_cons pe_int pa_nil)) (pg_name (i := 8) sc_law.nd rfl (Or.inr rfl)) (C8.pss_cut (ps_set (i := 4) sc_law.nd rfl (Or.inr rfl) (pe_op op_add (C8.pe_c c__law_cell_at hr (by first | decide | exact Nat.le_refl _ | omega) rfl (pa_cons (pv 0) (pa_cons (pv 8) pa_nil))) (pe_op op_mul pe_int (pv 8))))
      (C8.pss_cut (ps_set (i := 9) sc_law.nd rfl (Or.inl rfl) (pe_slice sl_list (pe_lc (own := [("_law_k", 3)]) rfl sc_law.nd (pi_range1 rfl B.range_ (pa_cons (pv 1) pa_nil)) (blkOk_by (own := [("_law_k", 3)]) (N := n_law) (sc := defScope s_law) (by decide +kernel)) (fun _ _ _ _ _ => (pg_name (i := 3) sc_law.nd rfl (Or.inl rfl))) (fun _ _ _ _ _ => (pts_one (pt_cmpR op_eq (C8.pe_c c__law_draw hr (by first | decide | exact Nat.le_refl _ | omega) rfl (pa_cons (pe_op op_add (pv 4) (pe_op op_mul pe_int (pv 3))) (pa_cons pe_int (pa_cons (pe_op op_add pe_int (pe_op op_mod (pv 8) pe_int)) pa_nil)))) pe_int (nomark _)))) (fun _ _ _ _ _ => (pv 3))) po_none (po_some pe_int)))
      (pss_cons (ps_set (i := 10) sc_law.nd rfl (Or.inl rfl) (pe_revL (pv 9)))
      (pss_cons (ps_set (i := 11) sc_law.nd rfl (Or.inl rfl) (C8.pe_mt (pl := _) m_free hr (by decide) (pv 7) (pa_cons (pv 10) pa_nil)))
      (pss_one (ps_if (PW.pt (pw_or (pt_not (pt_val (pe_callB (call_isiK (K := K) rfl) (by rfl) B.isinstance_ (by decide +kernel) (pa_cons (pv 11) (pa_cons (pe_bltn (v := .ty "bool") (u := .type "bool") (by rfl) B.bool_ (by decide +kernel) rfl) pa_nil))))) (pw_or (pt_cmpR op_ne (pv 11) (C8.pe_c c__law_bits hr (by first | decide | exact Nat.le_refl _ | omega) rfl (pa_cons (pe_lc (own := [("_law_k", 3)]) rfl sc_law.nd (pi_list (pv 9)) (blkOk_by (own := [("_law_k", 3)]) (N := n_law) (sc := defScope s_law) (by decide +kernel)) (fun _ _ _ _ _ => (pg_name (i := 3) sc_law.nd rfl (Or.inl rfl))) (fun _ _ _ _ _ => pts_nil) (fun _ _ _ _ _ => (pe_ix (r := rIxL K) ix_list (pv 2) (pv 3) (fun _ _ => rfl)))) pa_nil)) (nomark _)) (pw_or1 (pt_cmpR (op_neD hr.units) (pv 10) (pe_revL (pv 9)) (nomark _)))))) (pss_one (ps_ret pe_bl)) pss_nil)))))))
      (pss_one (ps_ret (pe_cmpR op_isBl (C8.pe_mt (pl := _) m_free hr (by decide) (pv 7) (pa_cons (pe_lst pa_nil) pa_nil)) pe_bl (nomark _)))))))))))), ?_⟩
    -- the count of things
    have n0 : 0 ≤ cellAt ns 0 % 17 := Int.emod_nonneg _ (by decide)
    have n1 : cellAt ns 0 % 17 < 17 := Int.emod_lt_of_pos _ (by decide)
    obtain ⟨n, en⟩ : ∃ n : Nat, cellAt ns 0 % 17 = (n : Int) := ⟨(cellAt ns 0 % 17).toNat, by omega⟩
    have n17 : n < 17 := by omega
    refine ⟨fun σ' H1 => σ' = [some (.ref a), some (nv n), none, none, none, none, none, none, none, none, none, none] ∧ H = H1, ?_, ?_⟩
    · refine ⟨_, rfl, a, ns, 0, rfl, hS, _, _, rfl, rfl, (by show (0 : Int) < 17; decide), ?_, rfl⟩
      show [some (V.ref a), some (V.int (cellAt ns 0 % 17)), none, none, none, none, none, none, none, none, none, none] = _
      rw [en]
    rintro _ _ ⟨rfl, rfl⟩
    -- rows = []
    refine ⟨Nat.zero_le _, fun R hR => ?_⟩
    refine ⟨_, rfl, _, rfl, by omega, by omega, for_range (lo := 0) (n := (n : Int).toNat) (fun i σ H' => ∃ (vk vc vr : Option V) (rs : List Nat), σ = [some (.ref a), some (nv n), some (.ref R), vk, vc, vr, none, none, none, none, none, none] ∧ Same H H' ∧
        H' R = some (.lst (rs.map nv)) ∧ rs.length = i ∧ ∀ r ∈ rs, r < 2 ^ 32) ⟨none, none, none, [], rfl, same_upd hR, upd_same, rfl, fun r h => by cases h⟩ ?_ ?_⟩
    · rintro i σ H' hi ⟨vk, vc, vr, rs, rfl, s5, hL, hrs, hb⟩
      have hi' : i < n := by omega
      -- the cell
      refine ⟨fun σ' H1 => ∃ cell : Int, σ' = [some (.ref a), some (nv n), some (.ref R), some (.int (0 + (i : Int))), some (.int cell), vr, none, none, none, none, none, none] ∧ H' = H1, ?_, ?_⟩
      · refine ⟨_, rfl, _, rfl, _, _, rfl, rfl, (by show (0 : Int) < 9; decide), _, _, rfl, rfl, a, ns, 1 + i % 9, ?_, s5.seq hS, _, rfl, _, _, rfl, rfl, .inl ⟨by decide, by decide⟩, _, _, rfl, rfl, _, rfl, rfl⟩
        show [V.ref a, V.int (1 + (0 + (i : Int)) % 9)] = _
        rw [show (1 + (0 + (i : Int)) % 9) = ((1 + i % 9 : Nat) : Int) by omega]
      rintro _ _ ⟨cell, rfl, rfl⟩
      -- the row
      refine ⟨fun σ' H1 => ∃ m : Nat, m < 2 ^ 32 ∧ σ' = [some (.ref a), some (nv n), some (.ref R), some (.int (0 + (i : Int))), some (.int cell), some (nv m), none, none, none, none, none, none] ∧ H' = H1, ?_, ?_⟩
      · refine ⟨_, rfl, cell, 0, 16, rfl, by decide, by decide, by decide, _, rfl, a, ns, 10, rfl, s5.seq hS, cellAt ns 10, 1, 29, rfl, by decide, by decide, by decide, _, _, rfl, rfl, ?_, ?_⟩
        · refine ⟨drawF_lo (by decide), ?_, ?_⟩
          · have := drawF_hi (c := cellAt ns 10) (k := 1) (m := 29) (by decide)
            omega
          · have h0 := drawF_lo (c := cell) (k := 0) (m := 16) (by decide)
            have h1 := drawF_hi (c := cell) (k := 0) (m := 16) (by decide)
            omega
        obtain ⟨m0, hm0, em0⟩ := lt_shift (drawF_lo (c := cell) (k := 0) (m := 16) (by decide)) (drawF_hi (c := cell) (k := 0) (m := 16) (by decide)) (drawF_lo (c := cellAt ns 10) (k := 1) (m := 29) (by decide)) (drawF_hi (c := cellAt ns 10) (k := 1) (m := 29) (by decide))
        refine ⟨m0, hm0, ?_, rfl⟩
        show [some (V.ref a), some (nv n), some (V.ref R), some (V.int (0 + (i : Int))), some (V.int cell), some (V.int (drawF cell 0 16 * 2 ^ (drawF (cellAt ns 10) 1 29).toNat)), none, none, none, none, none, none] = _
        rw [em0]
      rintro _ _ ⟨m0, hm0, rfl, rfl⟩
      -- if draw(cell, 2, 4) == 0
      refine ⟨fun σ' H1 => ∃ m : Nat, m < 2 ^ 32 ∧ σ' = [some (.ref a), some (nv n), some (.ref R), some (.int (0 + (i : Int))), some (.int cell), some (nv m), none, none, none, none, none, none] ∧ H' = H1, ?_, ?_⟩
      · refine ⟨_, rfl, cell, 2, 4, rfl, by decide, by decide, by decide, rfl, _, rfl, ?_⟩
        refine ite2 (fun _ => ?_) (fun _ => ?_)
        · refine ⟨_, rfl, cell, 3, 65536, rfl, by decide, by decide, by decide, _, _, rfl, rfl, .inr ⟨by decide, by decide⟩, _, rfl, cell, 4, 65536, rfl, by decide, by decide, by decide, _, _, rfl, rfl, ?_⟩
          have a0 := drawF_lo (c := cell) (k := 3) (m := 65536) (by decide)
          have a1 := drawF_hi (c := cell) (k := 3) (m := 65536) (by decide)
          have b0 := drawF_lo (c := cell) (k := 4) (m := 65536) (by decide)
          have b1 := drawF_hi (c := cell) (k := 4) (m := 65536) (by decide)
          refine ⟨(drawF cell 3 65536 * 65536 + drawF cell 4 65536).toNat, by omega, ?_, rfl⟩
          show _ = [some (V.ref a), some (nv n), some (V.ref R), some (V.int (0 + (i : Int))), some (V.int cell), some (V.int (((drawF cell 3 65536 * 65536 + drawF cell 4 65536).toNat : Nat) : Int)), none, none, none, none, none, none]
          rw [Int.toNat_of_nonneg (by omega)]
          rfl
        · exact ⟨m0, hm0, rfl, rfl⟩
      rintro _ _ ⟨m1, hm1, rfl, rfl⟩
      -- if k > 1 and draw(cell, 5, 4) == 0
      refine ⟨fun σ' H1 => ∃ m : Nat, m < 2 ^ 32 ∧ σ' = [some (.ref a), some (nv n), some (.ref R), some (.int (0 + (i : Int))), some (.int cell), some (nv m), none, none, none, none, none, none] ∧ H' = H1, ?_, ?_⟩
      · refine ⟨_, rfl, _, _, rfl, rfl, decide ((1 : Int) < 0 + (i : Int)), rfl, ?_⟩
        by_cases c : (1 : Int) < 0 + (i : Int)
        · rw [decide_eq_true c]
          refine iteT ⟨_, rfl, cell, 5, 4, rfl, by decide, by decide, by decide, rfl, _, rfl, ?_⟩
          refine ite2 (fun _ => ?_) (fun _ => ?_)
          · have l1 : i - 1 < rs.length := by omega
            have l2 : i - 2 < rs.length := by omega
            refine ⟨_, rfl, _, rfl, _, _, rfl, rfl, R, _, _, nv rs[i - 1], rfl, rfl, SqL.of hL, at_of (j := i - 1) (by omega) ?_, _, rfl, _, rfl, _, _, rfl, rfl, R, _, _, nv rs[i - 2], rfl, rfl, SqL.of hL, at_of (j := i - 2) (by omega) ?_, _, _, rfl, rfl, ?_⟩
            · rw [List.getElem?_map, List.getElem?_eq_getElem l1]
              rfl
            · rw [List.getElem?_map, List.getElem?_eq_getElem l2]
              rfl
            · refine ⟨rs[i - 1] ^^^ rs[i - 2], Nat.xor_lt_two_pow (hb _ (List.getElem_mem _)) (hb _ (List.getElem_mem _)), ?_, rfl⟩
              rw [← xor_nv]
              rfl
          · exact ⟨m1, hm1, rfl, rfl⟩
        · rw [decide_eq_false c]
          exact iteF (iteF ⟨m1, hm1, rfl, rfl⟩)
      rintro _ _ ⟨m2, hm2, rfl, rfl⟩
      -- rows.append(row)
      refine ⟨_, rfl, .inl ⟨rfl, _, SqL.of hL⟩, _, rfl, R, _, _, rfl, rfl, hL, by rw [List.length_map]; exact small1000 (by omega), ?_⟩
      refine ⟨_, _, _, rs ++ [m2], rfl, same_to s5 hR, ?_, by rw [List.length_append, hrs]; rfl, fun r hr' => ?_⟩
      · rw [List.map_append]
        exact upd_same
      · rcases List.mem_append.mp hr' with e | e
        · exact hb r e
        · rw [List.mem_singleton.mp e]
          exact hm2
    · rintro σ H1 ⟨vk, vc, vr, rs, rfl, s5, hL, hrs, hb⟩
      rw [Int.toNat_natCast] at hrs
      -- handed = list(rows); rule = Bits(handed)
      refine ⟨_, rfl, R, _, rfl, .inl (SqL.of hL), fun l hl => ?_⟩
      refine ⟨_, rfl, fun x dx nx ndx ne => ?_⟩
      have hl0 : H l = none := s5.free hl
      have e2 : Same H1 (upd H1 l (.lst (rs.map nv))) := same_upd hl
      have hl2 : (upd H1 l (HO.lst (rs.map nv))) l = some (.lst (rs.map nv)) := upd_same
      refine ⟨x, dx, l, rs, rfl, upd_same, ?_, by omega, hb, fun H3 keep at3 => ⟨rfl, ?_⟩⟩
      · rw [upd_ne (ne_of_none hl2 nx), upd_ne (ne_of_none hl2 ndx)]
        exact hl2
      have e3 : Same (upd H1 l (.lst (rs.map nv))) H3 := Same.made nx ndx fun b o e nb => keep b o nb e
      have hR3 := e3 _ _ (e2 _ _ hL)
      have hl3 := e3 _ _ hl2
      obtain ⟨d3, t3, hx3, ht3⟩ := id at3
      -- if handed != rows or not isinstance(rule, Rule) or rule.many() != n
      have ev := eqv_ints (rs.map (fun n : Nat => (n : Int)))
      refine ⟨_, rfl, _, rfl, _, _, Dp.lst (SqL.of hl3) (dp_nats rs), Dp.lst (SqL.of hR3) (dp_nats rs), PySem.W.ke_shaped_ints _, PySem.W.ke_shaped_ints _, false, by rw [ev]; rfl, iteF ?_⟩
      refine ⟨_, rfl, _, _, _, _, true, rfl, ClsV.own CR, TyX.base (TyOf.ins hx3 GB.cl I.ha I.hn I.htk I.hm), I.up, true, rfl, iteF ?_⟩
      refine ⟨_, rfl, x, d3, _, rfl, hx3, rfl, x, rs, rfl, at3, _, rfl, rfl, false, ?_, iteF ?_⟩
      · show V.bl (!decide (nv rs.length = nv n)) = _
        rw [hrs, decide_eq_true rfl]
        rfl
      -- handed.append(1)
      refine ⟨_, rfl, .inl ⟨rfl, _, SqL.of hl3⟩, l, _, _, rfl, rfl, hl3, by rw [List.length_map]; exact small1000 (by omega), ?_⟩
      have nRl : R ≠ l := ne_of_none hL hl
      have nxl : x ≠ l := ne_of hx3 hl3 (by intro z; cases z)
      have ntl : t3 ≠ l := ne_of ht3 hl3 (by intro z; cases z)
      have sH : Same H (upd H3 l (.lst (rs.map nv ++ [.int 1]))) := same_to (s5.trans (e2.trans e3)) hl0
      have hR4 : (upd H3 l (.lst (rs.map nv ++ [.int 1]))) R = some (.lst (rs.map nv)) := by rw [upd_ne nRl]; exact hR3
      have at4 : BitsAt C (upd H3 l (.lst (rs.map nv ++ [.int 1]))) x rs := ⟨d3, t3, by rw [upd_ne nxl]; exact hx3, by rw [upd_ne ntl]; exact ht3⟩
      generalize upd H3 l (.lst (rs.map nv ++ [.int 1])) = H4 at sH hR4 at4
      refine ⟨8, rfl, by decide, by decide, for_range (lo := 0) (n := (8 : Int).toNat) (fun i σ H' => ∃ v3 v4 v8 v9 v10 v11 : Option V, σ = [some (.ref a), some (nv n), some (.ref R), v3, v4, vr, some (.ref l), some (.ref x), v8, v9, v10, v11] ∧ Same H4 H')
        ⟨_, _, _, _, _, _, rfl, Same.refl _⟩ ?_ ?_⟩
      · rintro i σ H' hi ⟨v3, v4, v8, v9, v10, v11, rfl, s6⟩
        -- the cell
        refine ⟨fun σ' H5 => ∃ cell : Int, σ' = [some (.ref a), some (nv n), some (.ref R), v3, some (.int cell), vr, some (.ref l), some (.ref x), some (.int (0 + (i : Int))), v9, v10, v11] ∧ H' = H5, ?_, ?_⟩
        · refine ⟨_, rfl, _, rfl, a, ns, i, ?_, (sH.trans s6).seq hS, _, rfl, _, _, rfl, rfl, .inl ⟨by decide, by decide⟩, _, _, rfl, rfl, _, rfl, rfl⟩
          show [V.ref a, V.int (0 + (i : Int))] = _
          rw [Int.zero_add]
        rintro _ _ ⟨cell, rfl, rfl⟩
        -- some
        refine ⟨fun σ' H5 => ∃ (S : Addr) (ks : List Nat), σ' = [some (.ref a), some (nv n), some (.ref R), v3, some (.int cell), vr, some (.ref l), some (.ref x), some (.int (0 + (i : Int))), some (.ref S), v10, v11] ∧ Same H' H5 ∧
            H5 S = some (.lst (ks.map nv)) ∧ ks.Nodup ∧ (∀ k ∈ ks, k < n) ∧ ks.length ≤ 8, ?_, ?_⟩
        · refine ⟨_, rfl, _, rfl, by omega, by omega, fun D hD => lc_range (lo := 0) (n := (n : Int).toNat) (fun j H5 => ∃ ks : List Nat, Same H' H5 ∧ H5 D = some (.lst (ks.map nv)) ∧ ks.Nodup ∧ (∀ k ∈ ks, k < j) ∧ ks.length ≤ j)
            ⟨[], same_upd hD, upd_same, List.nodup_nil, fun k h => (by cases h), Nat.le_refl _⟩ ?_ ?_⟩
          · rintro j H5 hj ⟨ks, s7, hK, knd, klt, klen⟩
            refine ⟨rfl, ?_⟩
            refine ⟨_, rfl, _, rfl, _, _, rfl, rfl, .inl ⟨by decide, by decide⟩, _, _, rfl, rfl, _, rfl, _, _, rfl, rfl, (by show (0 : Int) < 4; decide), _, _, rfl, rfl, _, 3, _, rfl, ?_, by decide, by decide, rfl, _, rfl, ?_⟩
            · show (0 : Int) < 1 + (0 + (i : Int)) % 4
              omega
            refine ite2 (fun _ => ?_) (fun _ => ?_)
            · refine ⟨_, rfl, _, hK, by rw [List.length_map]; exact small1000 (by omega), ks ++ [j], same_to s7 hD, ?_, ?_, fun k hk => ?_, ?_⟩
              · rw [List.map_append]
                refine upd_same.trans ?_
                show some (HO.lst (_ ++ [V.int (0 + (j : Int))])) = _
                rw [Int.zero_add]
                rfl
              · rw [List.nodup_append]
                refine ⟨knd, by simp, fun p hp q hq => ?_⟩
                rw [List.mem_singleton.mp hq]
                have := klt p hp
                omega
              · rcases List.mem_append.mp hk with e | e
                · have := klt k e
                  omega
                · rw [List.mem_singleton.mp e]
                  omega
              · rw [List.length_append]
                show ks.length + 1 ≤ j + 1
                omega
            · exact ⟨ks, s7, hK, knd, fun k hk => Nat.lt_succ_of_lt (klt k hk), by omega⟩
          · rintro H5 ⟨ks, s7, hK, knd, klt, klen⟩
            refine ⟨8, rfl, D, _, rfl, SqL.of hK, fun p hp => ?_⟩
            refine ⟨p, ks.take 8, rfl, s7.trans (same_upd hp), ?_, ?_, fun k hk => ?_, ?_⟩
            · rw [cut8]
              exact upd_same
            · exact (List.take_sublist 8 ks).nodup knd
            · have := klt k (List.mem_of_mem_take hk)
              omega
            · rw [List.length_take]
              omega
        rintro _ H5 ⟨S, ks, rfl, s7, hK, knd, klt, klen⟩
        -- asked = some[::-1]
        refine ⟨_, rfl, S, _, rfl, SqL.of hK, fun p hp => ?_⟩
        have s8 : Same H5 (upd H5 p (.lst (ks.map nv).reverse)) := same_upd hp
        have hp8 : (upd H5 p (.lst (ks.map nv).reverse)) p = some (.lst (ks.reverse.map nv)) := by
          rw [List.map_reverse]
          exact upd_same
        generalize upd H5 p (.lst (ks.map nv).reverse) = H6 at s8 hp8
        have sX : Same H4 H6 := (s6.trans s7).trans s8
        have at6 := at4.same sX
        obtain ⟨d6, t6, hx6, ht6⟩ := id at6
        -- found = rule.free(asked)
        refine ⟨_, rfl, x, d6, _, rfl, hx6, rfl, _, rfl, x, p, rs, ks.reverse, rfl, at6, hp8, fun k hk => ?_, (List.reverse_perm ks).nodup_iff.mpr knd, by rw [List.length_reverse]; omega, fun H7 s9 => ?_⟩
        · have := klt k (List.mem_reverse.mp hk)
          omega
        have hK7 := s9 _ _ (s8 _ _ hK)
        have hR7 := s9 _ _ (sX _ _ hR4)
        have hp9 := s9 _ _ hp8
        refine ⟨_, rfl, _, _, _, _, true, rfl, ClsV.ty _, TyX.base (TyOf.bl _), kit_ty (by decide +kernel), true, rfl, iteF ?_⟩
        refine ⟨_, rfl, _, rfl, S, rfl, ⟨_, SqL.of hK7⟩, fun D hD => lc_list (K := K) (a := S) (xs := ks.map nv) (fun j H8 => Same H7 H8 ∧ H8 D = some (.lst (((ks.take j).map (rowAt rs)).map nv)))
          ⟨same_upd hD, upd_same⟩ (fun j H8 _ p => SqL.of (p.1 _ _ hK7)) ?_ ?_⟩
        · rintro j z H8 hj ⟨s10, hA⟩
          obtain ⟨o, ho, rfl⟩ := map_at hj
          have olt : o < rs.length := by
            have := klt o (List.mem_of_getElem? ho)
            omega
          have hrow : (rs.map nv)[o]? = some (nv (rowAt rs o)) := by
            rw [List.getElem?_map, List.getElem?_eq_getElem olt]
            unfold rowAt
            rw [List.getD_eq_getElem?_getD, List.getElem?_eq_getElem olt]
            rfl
          refine ⟨rfl, yesT ?_⟩
          refine ⟨_, rfl, _, rfl, R, _, _, _, rfl, rfl, SqL.of (s10 _ _ hR7), atI_nat hrow, _, hA, ?_, same_to s10 hD, ?_⟩
          · rw [List.length_map, List.length_map]
            exact small1000 (by rw [List.length_take]; omega)
          · rw [take_more ho, List.map_append, List.map_append]
            exact upd_same
        · rintro H8 ⟨s10, hA⟩
          rw [List.length_map, List.take_length] at hA
          refine ⟨D, _, rfl, hA, by rw [List.length_map]; exact klen, fun H9 s11 => ⟨rfl, false, ?_, iteF ?_⟩⟩
          · show V.bl (!decide (V.bl (BM.freeF [] (ks.reverse.map (rowAt rs))) = V.bl (BM.bitsF [0] (ks.map (rowAt rs))))) = V.bl false
            rw [List.map_reverse, BM.agree, decide_eq_true rfl]
            rfl
          have sZ : Same H7 H9 := s10.trans s11
          refine ⟨_, rfl, _, rfl, S, _, rfl, SqL.of (sZ _ _ hK7), fun p2 hp2 => ?_⟩
          have ev2 := eqv_ints (ks.reverse.map (fun n : Nat => (n : Int)))
          have h2 : (upd H9 p2 (HO.lst (ks.map nv).reverse)) p2 = some (.lst (ks.reverse.map nv)) := by
            rw [List.map_reverse]
            exact upd_same
          refine ⟨_, _, Dp.lst (SqL.of (same_upd hp2 _ _ (sZ _ _ hp9))) (dp_nats _), Dp.lst (SqL.of h2) (dp_nats _), PySem.W.ke_shaped_ints _, PySem.W.ke_shaped_ints _, false, by rw [ev2]; rfl, iteF ?_⟩
          exact ⟨_, _, _, _, _, _, rfl, (sX.trans s9).trans (sZ.trans (same_upd hp2))⟩
      · rintro σ H' ⟨v3, v4, v8, v9, v10, v11, rfl, s6⟩
        have at6 := at4.same s6
        obtain ⟨d6, t6, hx6, ht6⟩ := id at6
        refine ⟨_, rfl, x, d6, _, rfl, hx6, rfl, Nat.zero_le _, fun p hp => ?_⟩
        exact ⟨x, p, rs, [], rfl, at6.same (same_upd hp), upd_same, fun k hk => (by cases hk), List.nodup_nil, Nat.zero_le _, fun H7 s9 => ⟨_, _, rfl, rfl, k _⟩⟩
end
theorem all_mk {l : PySem.W.OpenLaw} {w : World} {K : PySem.W.Frag} {h : Heap} {mg : Str → Option Value} {fa f_is_number f_is_within f_check_thing f_check_set f_check_ground f_are_within f_lessened f__law_cell_at f__law_draw f__law_bits f_law f_Bits___init__ f_Bits_many f_Bits_free C_Bits C_Rule : Addr}
    {od_is_number an_is_number : Option Addr} {sl_is_number : Array (Option Value)} {oc_is_number kV_is_number dc_is_number pm_is_number cd_is_number ct_is_number : Value}
    {od_is_within an_is_within : Option Addr} {sl_is_within : Array (Option Value)} {oc_is_within kV_is_within dc_is_within pm_is_within cd_is_within ct_is_within : Value}
    {od_check_thing an_check_thing : Option Addr} {sl_check_thing : Array (Option Value)} {oc_check_thing kV_check_thing dc_check_thing pm_check_thing cd_check_thing ct_check_thing : Value}
    {od_check_set an_check_set : Option Addr} {sl_check_set : Array (Option Value)} {oc_check_set kV_check_set dc_check_set pm_check_set cd_check_set ct_check_set : Value}
    {od_check_ground an_check_ground : Option Addr} {sl_check_ground : Array (Option Value)} {oc_check_ground kV_check_ground dc_check_ground pm_check_ground cd_check_ground ct_check_ground : Value}
    {od_are_within an_are_within : Option Addr} {sl_are_within : Array (Option Value)} {oc_are_within kV_are_within dc_are_within pm_are_within cd_are_within ct_are_within : Value}
    {od_lessened an_lessened : Option Addr} {sl_lessened : Array (Option Value)} {oc_lessened kV_lessened dc_lessened pm_lessened cd_lessened ct_lessened : Value}
    {od__law_cell_at an__law_cell_at : Option Addr} {sl__law_cell_at : Array (Option Value)} {oc__law_cell_at kV__law_cell_at dc__law_cell_at pm__law_cell_at cd__law_cell_at ct__law_cell_at : Value}
    {od__law_draw an__law_draw : Option Addr} {sl__law_draw : Array (Option Value)} {oc__law_draw kV__law_draw dc__law_draw pm__law_draw cd__law_draw ct__law_draw : Value}
    {od__law_bits an__law_bits : Option Addr} {sl__law_bits : Array (Option Value)} {oc__law_bits kV__law_bits dc__law_bits pm__law_bits cd__law_bits ct__law_bits : Value}
    {od_law an_law : Option Addr} {sl_law : Array (Option Value)} {oc_law kV_law dc_law pm_law cd_law ct_law : Value}
    {od_Bits___init__ an_Bits___init__ : Option Addr} {sl_Bits___init__ : Array (Option Value)} {oc_Bits___init__ kV_Bits___init__ dc_Bits___init__ pm_Bits___init__ cd_Bits___init__ ct_Bits___init__ : Value}
    {od_Bits_many an_Bits_many : Option Addr} {sl_Bits_many : Array (Option Value)} {oc_Bits_many kV_Bits_many dc_Bits_many pm_Bits_many cd_Bits_many ct_Bits_many : Value}
    {od_Bits_free an_Bits_free : Option Addr} {sl_Bits_free : Array (Option Value)} {oc_Bits_free kV_Bits_free dc_Bits_free pm_Bits_free cd_Bits_free ct_Bits_free : Value}
    {t_MOST_THINGS : Tok}
    {t_HIGHEST_ROW : Tok} (X : K.In h) (G : h.Ns mainGlobals mg) (hfa : mg "law" = some (.ref fa))
    (aC_Bits : PySem.W.nsIn K mainGlobals "Bits" = some (some (.ref C_Bits)))
    (aC_Rule : PySem.W.nsIn K mainGlobals "Rule" = some (some (.ref C_Rule)))
    (a_is_number : PySem.W.nsIn K mainGlobals "is_number" = some (some (.ref f_is_number)))
    (l_is_number : K.lookup f_is_number = some ⟨oc_is_number, od_is_number, .func (PySem.W.fnOf "is_number" "is_number" (defArgs s_is_number) (defBody s_is_number) (defScope s_is_number) .none kV_is_number dc_is_number pm_is_number an_is_number cd_is_number ct_is_number), sl_is_number⟩)
    (c_is_number : PySem.W.codeIn K cd_is_number "is_number" = true)
    (k_is_number : PySem.W.keepIn K (.ref f_is_number) = true)
    (a_is_within : PySem.W.nsIn K mainGlobals "is_within" = some (some (.ref f_is_within)))
    (l_is_within : K.lookup f_is_within = some ⟨oc_is_within, od_is_within, .func (PySem.W.fnOf "is_within" "is_within" (defArgs s_is_within) (defBody s_is_within) (defScope s_is_within) .none kV_is_within dc_is_within pm_is_within an_is_within cd_is_within ct_is_within), sl_is_within⟩)
    (c_is_within : PySem.W.codeIn K cd_is_within "is_within" = true)
    (k_is_within : PySem.W.keepIn K (.ref f_is_within) = true)
    (a_check_thing : PySem.W.nsIn K mainGlobals "check_thing" = some (some (.ref f_check_thing)))
    (l_check_thing : K.lookup f_check_thing = some ⟨oc_check_thing, od_check_thing, .func (PySem.W.fnOf "check_thing" "check_thing" (defArgs s_check_thing) (defBody s_check_thing) (defScope s_check_thing) .none kV_check_thing dc_check_thing pm_check_thing an_check_thing cd_check_thing ct_check_thing), sl_check_thing⟩)
    (c_check_thing : PySem.W.codeIn K cd_check_thing "check_thing" = true)
    (k_check_thing : PySem.W.keepIn K (.ref f_check_thing) = true)
    (a_check_set : PySem.W.nsIn K mainGlobals "check_set" = some (some (.ref f_check_set)))
    (l_check_set : K.lookup f_check_set = some ⟨oc_check_set, od_check_set, .func (PySem.W.fnOf "check_set" "check_set" (defArgs s_check_set) (defBody s_check_set) (defScope s_check_set) .none kV_check_set dc_check_set pm_check_set an_check_set cd_check_set ct_check_set), sl_check_set⟩)
    (c_check_set : PySem.W.codeIn K cd_check_set "check_set" = true)
    (k_check_set : PySem.W.keepIn K (.ref f_check_set) = true)
    (a_check_ground : PySem.W.nsIn K mainGlobals "check_ground" = some (some (.ref f_check_ground)))
    (l_check_ground : K.lookup f_check_ground = some ⟨oc_check_ground, od_check_ground, .func (PySem.W.fnOf "check_ground" "check_ground" (defArgs s_check_ground) (defBody s_check_ground) (defScope s_check_ground) .none kV_check_ground dc_check_ground pm_check_ground an_check_ground cd_check_ground ct_check_ground), sl_check_ground⟩)
    (c_check_ground : PySem.W.codeIn K cd_check_ground "check_ground" = true)
    (k_check_ground : PySem.W.keepIn K (.ref f_check_ground) = true)
    (a_are_within : PySem.W.nsIn K mainGlobals "are_within" = some (some (.ref f_are_within)))
    (l_are_within : K.lookup f_are_within = some ⟨oc_are_within, od_are_within, .func (PySem.W.fnOf "are_within" "are_within" (defArgs s_are_within) (defBody s_are_within) (defScope s_are_within) .none kV_are_within dc_are_within pm_are_within an_are_within cd_are_within ct_are_within), sl_are_within⟩)
    (c_are_within : PySem.W.codeIn K cd_are_within "are_within" = true)
    (k_are_within : PySem.W.keepIn K (.ref f_are_within) = true)
    (a_lessened : PySem.W.nsIn K mainGlobals "lessened" = some (some (.ref f_lessened)))
    (l_lessened : K.lookup f_lessened = some ⟨oc_lessened, od_lessened, .func (PySem.W.fnOf "lessened" "lessened" (defArgs s_lessened) (defBody s_lessened) (defScope s_lessened) .none kV_lessened dc_lessened pm_lessened an_lessened cd_lessened ct_lessened), sl_lessened⟩)
    (c_lessened : PySem.W.codeIn K cd_lessened "lessened" = true)
    (k_lessened : PySem.W.keepIn K (.ref f_lessened) = true)
    (a__law_cell_at : PySem.W.nsIn K mainGlobals "_law_cell_at" = some (some (.ref f__law_cell_at)))
    (l__law_cell_at : K.lookup f__law_cell_at = some ⟨oc__law_cell_at, od__law_cell_at, .func (PySem.W.fnOf "_law_cell_at" "_law_cell_at" (defArgs s__law_cell_at) (defBody s__law_cell_at) (defScope s__law_cell_at) .none kV__law_cell_at dc__law_cell_at pm__law_cell_at an__law_cell_at cd__law_cell_at ct__law_cell_at), sl__law_cell_at⟩)
    (c__law_cell_at : PySem.W.codeIn K cd__law_cell_at "_law_cell_at" = true)
    (k__law_cell_at : PySem.W.keepIn K (.ref f__law_cell_at) = true)
    (a__law_draw : PySem.W.nsIn K mainGlobals "_law_draw" = some (some (.ref f__law_draw)))
    (l__law_draw : K.lookup f__law_draw = some ⟨oc__law_draw, od__law_draw, .func (PySem.W.fnOf "_law_draw" "_law_draw" (defArgs s__law_draw) (defBody s__law_draw) (defScope s__law_draw) .none kV__law_draw dc__law_draw pm__law_draw an__law_draw cd__law_draw ct__law_draw), sl__law_draw⟩)
    (c__law_draw : PySem.W.codeIn K cd__law_draw "_law_draw" = true)
    (k__law_draw : PySem.W.keepIn K (.ref f__law_draw) = true)
    (a__law_bits : PySem.W.nsIn K mainGlobals "_law_bits" = some (some (.ref f__law_bits)))
    (l__law_bits : K.lookup f__law_bits = some ⟨oc__law_bits, od__law_bits, .func (PySem.W.fnOf "_law_bits" "_law_bits" (defArgs s__law_bits) (defBody s__law_bits) (defScope s__law_bits) .none kV__law_bits dc__law_bits pm__law_bits an__law_bits cd__law_bits ct__law_bits), sl__law_bits⟩)
    (c__law_bits : PySem.W.codeIn K cd__law_bits "_law_bits" = true)
    (k__law_bits : PySem.W.keepIn K (.ref f__law_bits) = true)
    (a_law : PySem.W.nsIn K mainGlobals "law" = some (some (.ref f_law)))
    (l_law : K.lookup f_law = some ⟨oc_law, od_law, .func (PySem.W.fnOf "law" "law" (defArgs s_law) (defBody s_law) (defScope s_law) .none kV_law dc_law pm_law an_law cd_law ct_law), sl_law⟩)
    (c_law : PySem.W.codeIn K cd_law "law" = true)
    (k_law : PySem.W.keepIn K (.ref f_law) = true)
    (a_Bits___init__ : PySem.W.findIn K (.ref C_Bits) "__init__" = some (some (.ref f_Bits___init__)))
    (i_Bits___init__ : PySem.W.isFn K (.ref f_Bits___init__) = true)
    (l_Bits___init__ : K.lookup f_Bits___init__ = some ⟨oc_Bits___init__, od_Bits___init__, .func (PySem.W.fnOf "__init__" "Bits.__init__" (defArgs s_Bits___init__) (defBody s_Bits___init__) (defScope s_Bits___init__) .none kV_Bits___init__ dc_Bits___init__ pm_Bits___init__ an_Bits___init__ cd_Bits___init__ ct_Bits___init__), sl_Bits___init__⟩)
    (c_Bits___init__ : PySem.W.codeIn K cd_Bits___init__ "Bits.__init__" = true)
    (k_Bits___init__ : PySem.W.keepIn K (.ref f_Bits___init__) = true)
    (a_Bits_many : PySem.W.findIn K (.ref C_Bits) "many" = some (some (.ref f_Bits_many)))
    (i_Bits_many : PySem.W.isFn K (.ref f_Bits_many) = true)
    (l_Bits_many : K.lookup f_Bits_many = some ⟨oc_Bits_many, od_Bits_many, .func (PySem.W.fnOf "many" "Bits.many" (defArgs s_Bits_many) (defBody s_Bits_many) (defScope s_Bits_many) .none kV_Bits_many dc_Bits_many pm_Bits_many an_Bits_many cd_Bits_many ct_Bits_many), sl_Bits_many⟩)
    (c_Bits_many : PySem.W.codeIn K cd_Bits_many "Bits.many" = true)
    (k_Bits_many : PySem.W.keepIn K (.ref f_Bits_many) = true)
    (a_Bits_free : PySem.W.findIn K (.ref C_Bits) "free" = some (some (.ref f_Bits_free)))
    (i_Bits_free : PySem.W.isFn K (.ref f_Bits_free) = true)
    (l_Bits_free : K.lookup f_Bits_free = some ⟨oc_Bits_free, od_Bits_free, .func (PySem.W.fnOf "free" "Bits.free" (defArgs s_Bits_free) (defBody s_Bits_free) (defScope s_Bits_free) .none kV_Bits_free dc_Bits_free pm_Bits_free an_Bits_free cd_Bits_free ct_Bits_free), sl_Bits_free⟩)
    (c_Bits_free : PySem.W.codeIn K cd_Bits_free "Bits.free" = true)
    (k_Bits_free : PySem.W.keepIn K (.ref f_Bits_free) = true)
    (pg_Bits : PySem.W.plainGet K C_Bits Str.empty = true)
    (hd_Bits : PySem.W.hasDictIn K C_Bits = true)
    (po_Bits : PySem.W.plainOver K C_Bits = true)
    (sa_Bits : PySem.W.findIn K (.ref C_Bits) "__setattr__" = some (some (.builtin "object.__setattr__")))
    (mk_Bits : PySem.W.makesIn K C_Bits = true)
    (kc_Bits : PySem.W.keepIn K (.ref C_Bits) = true)
    (n_Bits_rows : PySem.W.findIn K (.ref C_Bits) "rows" = some none)
    (ha_Bits : PySem.W.findIn K (.ref C_Bits) "__class__" = some (some (.builtin "object.__class__")))
    (hn_Bits : PySem.W.specialIn K (.builtin "object.__class__") "__get__" = some (some (.builtin "getset_descriptor.__get__")))
    (ht_Bits : PySem.W.takesIn K (.builtin "object.__class__") = some true)
    (hm_Bits : PySem.W.mroIn K C_Bits (.type "object") = some true)
    (ua_Bits : PySem.W.isClsIn K C_Rule = true)
    (ub_Bits : PySem.W.typeIn K (.ref C_Rule) = some (.type "type"))
    (uc_Bits : PySem.W.subIn K (.ref C_Bits) (.ref C_Rule) = some true)
    (v_MOST_THINGS : PySem.W.nsIn K mainGlobals "MOST_THINGS" = some (some (.int 16 t_MOST_THINGS)))
    (v_HIGHEST_ROW : PySem.W.nsIn K mainGlobals "HIGHEST_ROW" = some (some (.int 4294967295 t_HIGHEST_ROW)))
    (z_isinstance : PySem.W.nsIn K mainGlobals "isinstance" = some none)
    (z_int : PySem.W.nsIn K mainGlobals "int" = some none)
    (z_bool : PySem.W.nsIn K mainGlobals "bool" = some none)
    (z_list : PySem.W.nsIn K mainGlobals "list" = some none)
    (z_tuple : PySem.W.nsIn K mainGlobals "tuple" = some none)
    (z_len : PySem.W.nsIn K mainGlobals "len" = some none)
    (z_all : PySem.W.nsIn K mainGlobals "all" = some none)
    (z_range : PySem.W.nsIn K mainGlobals "range" = some none)
    (z_min : PySem.W.nsIn K mainGlobals "min" = some none)
    (z_sorted : PySem.W.nsIn K mainGlobals "sorted" = some none)
    (z_set : PySem.W.nsIn K mainGlobals "set" = some none)
    : ∃ fd : FuncData, (∀ (s : Shared) (v : Value), BindsTo s fd ⟨[v], []⟩ [("_law_script", v)]) ∧ ∀ base : Heap, K.In base → base.Ns mainGlobals mg → FnOk l.prog w K mg base CX0 6 fa fd ["_law_script"] (spLaw K) := by
  have e := hfa.symm.trans (PySem.W.mg_of X G a_law)
  cases e
  have F_is_number := fun_mk (st := s_is_number) l_is_number c_is_number k_is_number
  have g_is_number := PySem.W.mg_of X G a_is_number
  have F_is_within := fun_mk (st := s_is_within) l_is_within c_is_within k_is_within
  have g_is_within := PySem.W.mg_of X G a_is_within
  have F_check_thing := fun_mk (st := s_check_thing) l_check_thing c_check_thing k_check_thing
  have g_check_thing := PySem.W.mg_of X G a_check_thing
  have F_check_set := fun_mk (st := s_check_set) l_check_set c_check_set k_check_set
  have g_check_set := PySem.W.mg_of X G a_check_set
  have F_check_ground := fun_mk (st := s_check_ground) l_check_ground c_check_ground k_check_ground
  have g_check_ground := PySem.W.mg_of X G a_check_ground
  have F_are_within := fun_mk (st := s_are_within) l_are_within c_are_within k_are_within
  have g_are_within := PySem.W.mg_of X G a_are_within
  have F_lessened := fun_mk (st := s_lessened) l_lessened c_lessened k_lessened
  have g_lessened := PySem.W.mg_of X G a_lessened
  have F__law_cell_at := fun_mk (st := s__law_cell_at) l__law_cell_at c__law_cell_at k__law_cell_at
  have g__law_cell_at := PySem.W.mg_of X G a__law_cell_at
  have F__law_draw := fun_mk (st := s__law_draw) l__law_draw c__law_draw k__law_draw
  have g__law_draw := PySem.W.mg_of X G a__law_draw
  have F__law_bits := fun_mk (st := s__law_bits) l__law_bits c__law_bits k__law_bits
  have g__law_bits := PySem.W.mg_of X G a__law_bits
  have F_law := fun_mk (st := s_law) l_law c_law k_law
  have g_law := PySem.W.mg_of X G a_law
  have F_Bits___init__ := fun_mk (st := s_Bits___init__) l_Bits___init__ c_Bits___init__ k_Bits___init__
  have M_Bits___init__ : Meth K C_Bits "__init__" f_Bits___init__ := ⟨a_Bits___init__, i_Bits___init__, k_Bits___init__⟩
  have F_Bits_many := fun_mk (st := s_Bits_many) l_Bits_many c_Bits_many k_Bits_many
  have M_Bits_many : Meth K C_Bits "many" f_Bits_many := ⟨a_Bits_many, i_Bits_many, k_Bits_many⟩
  have F_Bits_free := fun_mk (st := s_Bits_free) l_Bits_free c_Bits_free k_Bits_free
  have M_Bits_free : Meth K C_Bits "free" f_Bits_free := ⟨a_Bits_free, i_Bits_free, k_Bits_free⟩
  have gC_Bits := PySem.W.mg_of X G aC_Bits
  have o_Bits : Own mg "Bits" C_Bits := ⟨_, gC_Bits, rfl⟩
  have gC_Rule := PySem.W.mg_of X G aC_Rule
  have o_Rule : Own mg "Rule" C_Rule := ⟨_, gC_Rule, rfl⟩
  have cl_Bits : Cls K C_Bits := ⟨pg_Bits, hd_Bits, po_Bits, sa_Bits⟩
  have I_Bits : Isi K C_Bits C_Rule := ⟨ha_Bits, hn_Bits, ht_Bits, hm_Bits, kit_up ua_Bits ub_Bits uc_Bits⟩
  have N_MOST_THINGS : Num mg "MOST_THINGS" 16 := ⟨_, PySem.W.mg_of X G v_MOST_THINGS, ⟨_, rfl⟩⟩
  have N_HIGHEST_ROW : Num mg "HIGHEST_ROW" 4294967295 := ⟨_, PySem.W.mg_of X G v_HIGHEST_ROW, ⟨_, rfl⟩⟩
  have B_isinstance := PySem.W.mg_none_of X G z_isinstance
  have B_int := PySem.W.mg_none_of X G z_int
  have B_bool := PySem.W.mg_none_of X G z_bool
  have B_list := PySem.W.mg_none_of X G z_list
  have B_tuple := PySem.W.mg_none_of X G z_tuple
  have B_len := PySem.W.mg_none_of X G z_len
  have B_all := PySem.W.mg_none_of X G z_all
  have B_range := PySem.W.mg_none_of X G z_range
  have B_min := PySem.W.mg_none_of X G z_min
  have B_sorted := PySem.W.mg_none_of X G z_sorted
  have B_set := PySem.W.mg_none_of X G z_set
  refine ⟨PySem.W.fnOf "law" "law" (defArgs s_law) (defBody s_law) (defScope s_law) .none kV_law dc_law pm_law an_law cd_law ct_law, fun s v => .of_eq rfl, fun base _ _ => ?_⟩
  have B : Bl mg := ⟨B_isinstance, B_int, B_bool, B_list, B_tuple, B_len, B_all, B_range, B_min, B_sorted, B_set⟩
  have GB : Gb K mg C_Bits := ⟨cl_Bits, n_Bits_rows, N_HIGHEST_ROW⟩
  have r1 := ok_num (P := l.prog) (w := w) (base := base) B F_is_number g_is_number
  have r2 := ok_within F_is_within g_is_within r1
  have r3 := ok_thing F_check_thing g_check_thing r2
  have r4 := ok_set B F_check_set g_check_set r3
  have r5 := ok_ground (P := l.prog) (w := w) (base := base) B ⟨N_MOST_THINGS⟩ F_check_ground g_check_ground
  have r6 := ok_are B F_are_within g_are_within r2
  have r7 := ok_less (P := l.prog) (w := w) (base := base) B F_lessened g_lessened
  have q1 := ok_init B GB F_Bits___init__ ⟨mk_Bits, a_Bits___init__, i_Bits___init__, kc_Bits⟩ gC_Bits r5 r6
  have q2 := ok_many (P := l.prog) (w := w) (base := base) B GB F_Bits_many M_Bits_many
  have q3 := ok_free B GB F_Bits_free M_Bits_free q2 r4 r7
  have l1 := ok_cellAt (P := l.prog) (w := w) (base := base) B F__law_cell_at g__law_cell_at
  have l2 := ok_draw (P := l.prog) (w := w) (base := base) F__law_draw g__law_draw
  have l3 := ok_lbits (P := l.prog) (w := w) (base := base) F__law_bits g__law_bits
  exact ok_law B ⟨o_Rule⟩ GB I_Bits F_law l1 l2 l3 q1 q2 q3
theorem walk {l : PySem.W.OpenLaw} {q : Program} {loose : List Str} {XP : (Str → Option Value) → Heap → Prop} {YP : World → Heap → Prop} {d : DefRec} {K : Params → PySem.W.Frag} (hn : l.most = some 63) (hdf : d.params.defaults = [])
    (hY : ∀ (w : World) (h : Heap), YP w h → (K w.params).In h)
    (F : ∀ (w : World) (mg : Str → Option Value) (fa : Addr) (h : Heap), (K w.params).In h → h.Ns mainGlobals mg → mg d.name = some (.ref fa) →
      ∃ fd : FuncData, (∀ (s : Shared) (u : Value), BindsTo s fd ⟨[u], []⟩ [("_law_script", u)]) ∧ ∀ base : Heap, (K w.params).In base → base.Ns mainGlobals mg → FnOk l.prog w (K w.params) mg base CX0 6 fa fd ["_law_script"] (spLaw (K w.params))) :
    PySem.W.WalkO q loose XP YP l.row.toRowW d [] (fun f vs => PySem.call f vs) :=
  L2.walk_of (n := 63) (k := 6) (x := "_law_script") (CX := fun _ => CX0) (sp := fun w => spLaw (K w.params)) hn (by decide) hdf ⟨rfl, by decide, by decide⟩ hY F (fun _ _ a ns hl _ hS => ⟨a, ns, rfl, hS, hl, fun _ => rfl⟩) fun _ _ _ _ _ z => z
end Fs
open PySem PySem.W PyProof.Rows in
set_option maxRecDepth 100000 in
set_option maxHeartbeats 0 in
theorem PySem.Challenge.cw_freesets_k04_bits_holds : PySem.Challenge.rw_freesets_k04_bits.Holds := by
  w_on; o_law; k_head; (case hw => w_witness2)
  k_fill
  refine Fs.walk (l := PySem.Challenge.rw_freesets_k04_bits) rfl rfl (fun w h Y => PySem.W.kIn_of Y) ?F
  case F =>
    intro w mg fa h KX G hmg
    refine' Fs.all_mk KX G hmg ?aC_Bits ?aC_Rule ?a_is_number ?l_is_number ?c_is_number ?k_is_number ?a_is_within ?l_is_within ?c_is_within ?k_is_within ?a_check_thing ?l_check_thing ?c_check_thing ?k_check_thing ?a_check_set ?l_check_set ?c_check_set ?k_check_set ?a_check_ground ?l_check_ground ?c_check_ground ?k_check_ground ?a_are_within ?l_are_within ?c_are_within ?k_are_within ?a_lessened ?l_lessened ?c_lessened ?k_lessened ?a__law_cell_at ?l__law_cell_at ?c__law_cell_at ?k__law_cell_at ?a__law_draw ?l__law_draw ?c__law_draw ?k__law_draw ?a__law_bits ?l__law_bits ?c__law_bits ?k__law_bits ?a_law ?l_law ?c_law ?k_law ?a_Bits___init__ ?i_Bits___init__ ?l_Bits___init__ ?c_Bits___init__ ?k_Bits___init__ ?a_Bits_many ?i_Bits_many ?l_Bits_many ?c_Bits_many ?k_Bits_many ?a_Bits_free ?i_Bits_free ?l_Bits_free ?c_Bits_free ?k_Bits_free ?pg_Bits ?hd_Bits ?po_Bits ?sa_Bits ?mk_Bits ?kc_Bits ?n_Bits_rows ?ha_Bits ?hn_Bits ?ht_Bits ?hm_Bits ?ua_Bits ?ub_Bits ?uc_Bits ?v_MOST_THINGS ?v_HIGHEST_ROW ?z_isinstance ?z_int ?z_bool ?z_list ?z_tuple ?z_len ?z_all ?z_range ?z_min ?z_sorted ?z_set
    (case aC_Bits => k_is)
    (case aC_Rule => k_is)
    (case a_is_number => k_is)
    (case l_is_number => k_is)
    (case c_is_number => k_is)
    (case k_is_number => k_is)
    (case a_is_within => k_is)
    (case l_is_within => k_is)
    (case c_is_within => k_is)
    (case k_is_within => k_is)
    (case a_check_thing => k_is)
    (case l_check_thing => k_is)
    (case c_check_thing => k_is)
    (case k_check_thing => k_is)
    (case a_check_set => k_is)
    (case l_check_set => k_is)
    (case c_check_set => k_is)
    (case k_check_set => k_is)
    (case a_check_ground => k_is)
    (case l_check_ground => k_is)
    (case c_check_ground => k_is)
    (case k_check_ground => k_is)
    (case a_are_within => k_is)
    (case l_are_within => k_is)
    (case c_are_within => k_is)
    (case k_are_within => k_is)
    (case a_lessened => k_is)
    (case l_lessened => k_is)
    (case c_lessened => k_is)
    (case k_lessened => k_is)
    (case a__law_cell_at => k_is)
    (case l__law_cell_at => k_is)
    (case c__law_cell_at => k_is)
    (case k__law_cell_at => k_is)
    (case a__law_draw => k_is)
    (case l__law_draw => k_is)
    (case c__law_draw => k_is)
    (case k__law_draw => k_is)
    (case a__law_bits => k_is)
    (case l__law_bits => k_is)
    (case c__law_bits => k_is)
    (case k__law_bits => k_is)
    (case a_law => k_is)
    (case l_law => k_is)
    (case c_law => k_is)
    (case k_law => k_is)
    (case a_Bits___init__ => k_is)
    (case i_Bits___init__ => k_is)
    (case l_Bits___init__ => k_is)
    (case c_Bits___init__ => k_is)
    (case k_Bits___init__ => k_is)
    (case a_Bits_many => k_is)
    (case i_Bits_many => k_is)
    (case l_Bits_many => k_is)
    (case c_Bits_many => k_is)
    (case k_Bits_many => k_is)
    (case a_Bits_free => k_is)
    (case i_Bits_free => k_is)
    (case l_Bits_free => k_is)
    (case c_Bits_free => k_is)
    (case k_Bits_free => k_is)
    (case pg_Bits => k_is)
    (case hd_Bits => k_is)
    (case po_Bits => k_is)
    (case sa_Bits => k_is)
    (case mk_Bits => k_is)
    (case kc_Bits => k_is)
    (case n_Bits_rows => k_is)
    (case ha_Bits => k_is)
    (case hn_Bits => k_is)
    (case ht_Bits => k_is)
    (case hm_Bits => k_is)
    (case ua_Bits => k_is)
    (case ub_Bits => k_is)
    (case uc_Bits => k_is)
    (case v_MOST_THINGS => k_is)
    (case v_HIGHEST_ROW => k_is)
    (case z_isinstance => k_is)
    (case z_int => k_is)
    (case z_bool => k_is)
    (case z_list => k_is)
    (case z_tuple => k_is)
    (case z_len => k_is)
    (case z_all => k_is)
    (case z_range => k_is)
    (case z_min => k_is)
    (case z_sorted => k_is)
    (case z_set => k_is)
