import PyProof.Rows.All
import Wide.All
import OpenK.AllK
import Wide.FinOn
import PyProof.EqAt
import PyProof.EqKinds
import PyProof.TupleCall
import HandS.ForMost
import HandS.Codes
import HandS.IsInst
import HandS.Conv
import HandS.Style
import HandS.SetFor
import KE.KEqSeq
import HandS.Deep
import HandS.Zip
import HandS.TryOnly
import HandS.Text
import HandS.FStr
import KE.GoesMore
import KE.GoesEnum
import PySem.Challenge.RW_freesets_k15_texts
set_option Elab.async false
set_option linter.all false
set_option maxRecDepth 100000
set_option maxHeartbeats 2000000
/-! ### texts: numbers, words, rows -/
namespace Tx
open PySem TL
/-- a number, as it is written -/
def num (n : Nat) : Str := Str.ofString (toString ((n : Nat) : Int))
abbrev blank : Str := Str.ofString " "
abbrev colon : Str := Str.ofString ":"
abbrev dash : Str := Str.ofString "-"
abbrev comma : Str := Str.ofString ","
theorem tl_num' (n : Nat) : tl (num n) = numL n := tl_num n
theorem tl_blank : tl blank = [32] := tl_ofString " "
theorem tl_colon : tl colon = [58] := tl_ofString ":"
theorem tl_dash : tl dash = [45] := tl_ofString "-"
theorem tl_comma : tl comma = [44] := tl_ofString ","
theorem tl_empty : tl Str.empty = [] := rfl
theorem tl_e : tl (Str.ofString "") = [] := tl_ofString ""
theorem e_empty : Str.ofString "" = Str.empty := ext_tl (by rw [tl_e, tl_empty])
theorem num_lt {n s : Nat} (h : s < 48 ∨ 57 < s) : s ∉ tl (num n) := by rw [tl_num']; exact numL_free h
theorem num_len {n : Nat} (h : n < 10 ^ 10) : (num n).length ≤ 10 := by rw [len_tl, tl_num']; exact numL_len (by decide) h
theorem num_ne (n : Nat) : num n ≠ Str.ofString "" := fun e => by
  have := congrArg tl e
  rw [tl_num', tl_e] at this
  exact numL_ne n this
theorem num_int {n : Nat} (h : n < 10 ^ 10) : intText? (num n) = some (n : Int) := int_num (Nat.le_trans (numL_len (k := 10) (by decide) h) (by decide))
theorem numL_nought : ∀ {n : Nat}, (∃ r, numL n = 48 :: r) → n = 0 := by
  intro n
  induction n using Nat.strongRecOn with
  | _ n ih =>
    rintro ⟨r, e⟩
    by_cases h : n < 10
    · rw [numL_lt h] at e
      injection e with e _
      omega
    · rw [numL_step (by omega)] at e
      cases q : numL (n / 10) with
      | nil => exact absurd q (numL_ne _)
      | cons c r' =>
        rw [q] at e
        injection e with e _
        have := ih (n / 10) (by omega) ⟨r', by rw [q, e]⟩
        omega
theorem starts_iff {x y : Str} (hy : tl y ≠ []) : Txt.startswith x y = true ↔ pre (tl y) (tl x) = true := by
  have := at_iff (x := x) hy 0
  rw [List.drop_zero] at this
  rw [← this]
  unfold Txt.startswith PySem.StrLaws.At
  rw [Bool.and_eq_true, decide_eq_true_eq]
theorem num_starts {n : Nat} (h : Txt.startswith (num n) (Str.ofString "0") = true) : n = 0 := by
  have e0 : tl (Str.ofString "0") = [48] := tl_ofString "0"
  rw [starts_iff (by rw [e0]; decide), e0, tl_num'] at h
  refine numL_nought ?_
  cases q : numL n with
  | nil => exact absurd q (numL_ne n)
  | cons c r =>
    rw [q] at h
    have : [c] = [48] := eq_of_beq h
    injection this with this _
    exact ⟨r, by rw [this]⟩
theorem num_zero : num 0 = Str.ofString "0" := rfl
/-- each sign of a number is a figure -/
theorem num_figs (n : Nat) : ∀ c ∈ tl (num n), c ∈ tl (Str.ofString "0123456789") := fun c hc => by
  rw [tl_num'] at hc
  have r := numL_digits n c hc
  have e : tl (Str.ofString "0123456789") = [48, 49, 50, 51, 52, 53, 54, 55, 56, 57] := tl_ofString "0123456789"
  rw [e]
  obtain ⟨r1, r2⟩ := r
  simp only [List.mem_cons, List.not_mem_nil, or_false]
  omega
/-- joined by nothing -/
theorem joinL_nil : ∀ ps : List (List Nat), joinL [] ps = ps.flatten
  | [] => rfl
  | [p] => by show p = p ++ []; rw [List.append_nil]
  | p :: q :: r => by
    show p ++ ([] ++ joinL [] (q :: r)) = p ++ (q :: r).flatten
    rw [joinL_nil (q :: r), List.nil_append]
theorem joinL_cons (S p : List Nat) : ∀ ps : List (List Nat), joinL S (p :: ps) = p ++ (ps.map (S ++ ·)).flatten
  | [] => by show p = p ++ []; rw [List.append_nil]
  | q :: r => by
    show p ++ (S ++ joinL S (q :: r)) = p ++ ((S ++ q) ++ (r.map (S ++ ·)).flatten)
    rw [joinL_cons S q r, List.append_assoc]
/-- the row: what stands behind the head -/
def body (ws : List Str) : Str := Txt.join (Str.ofString "") (ws.map (blank ++ ·))
def row (h : Str) (ws : List Str) : Str := Txt.join blank ((h ++ colon) :: ws)
theorem tl_body (ws : List Str) : tl (body ws) = ((ws.map tl).map ([32] ++ ·)).flatten := by
  unfold body
  rw [join_eq, tl_join, tl_e, joinL_nil, List.map_map, List.map_map]
  congr 1
  refine List.map_congr_left fun w _ => ?_
  show tl (blank ++ w) = [32] ++ tl w
  rw [tl_append, tl_blank]
theorem row_eq (h : Str) (ws : List Str) : h ++ colon ++ body ws = row h ws := by
  refine ext_tl ?_
  unfold row
  rw [tl_append, tl_body, join_eq, tl_join, List.map_cons, tl_blank, joinL_cons]
theorem body_split (ws : List Str) (h : ∀ w ∈ ws, 32 ∉ tl w) : Txt.split (body ws) blank = Str.ofString "" :: ws := by
  have e : body ws = Txt.join blank (Str.ofString "" :: ws) := by
    refine ext_tl ?_
    rw [tl_body, join_eq, tl_join, List.map_cons, tl_blank, tl_e, joinL_cons, List.nil_append]
  rw [e]
  refine split_join tl_blank (by decide +kernel) (by simp) fun p hp => ?_
  rcases List.mem_cons.mp hp with e | e
  · rw [e, tl_e]; simp
  · exact h p e
theorem row_cut {h : Str} (ws : List Str) (n : 58 ∉ tl h) : Txt.partition (row h ws) colon = (h, colon, body ws) := by
  rw [← row_eq]
  exact partition_app tl_colon n
theorem body_nil {ws : List Str} (h : body ws = Str.ofString "") : ws = [] := by
  cases ws with
  | nil => rfl
  | cons w r =>
    have := congrArg tl h
    rw [tl_body, tl_e] at this
    cases this
theorem body_starts {ws : List Str} (h : body ws ≠ Str.ofString "") : Txt.startswith (body ws) blank = true := by
  cases ws with
  | nil => exact absurd rfl h
  | cons w r =>
    rw [starts_iff (by rw [tl_blank]; decide), tl_blank, tl_body]
    exact pre_self [32] _
theorem join_len (y : Str) : ∀ ps : List Str, (Txt.join y ps).length ≤ (ps.map (·.length)).sum + ps.length * y.length
  | [] => by rw [join_eq]; exact Nat.zero_le _
  | [p] => by
    rw [join_eq]
    show p.length ≤ (p.length + 0) + 1 * y.length
    omega
  | p :: q :: r => by
    have ih := join_len y (q :: r)
    rw [join_eq] at ih ⊢
    have e : (Str.join y (p :: q :: r)).length = p.length + y.length + (Str.join y (q :: r)).length := by
      rw [len_tl, len_tl p, len_tl y, len_tl (Str.join y (q :: r))]
      show (tl (p ++ y ++ Str.join y (q :: r))).length = _
      rw [tl_append, tl_append, List.length_append, List.length_append]
    rw [e, List.map_cons, List.sum_cons, List.length_cons, Nat.succ_mul]
    omega
theorem sum_le {ps : List Str} {k : Nat} (h : ∀ p ∈ ps, p.length ≤ k) : (ps.map (·.length)).sum ≤ ps.length * k := by
  induction ps with
  | nil => exact Nat.zero_le _
  | cons p r ih =>
    have := ih fun q hq => h q (List.mem_cons_of_mem _ hq)
    have hp := h p (List.mem_cons_self ..)
    rw [List.map_cons, List.sum_cons, List.length_cons, Nat.succ_mul]
    omega
theorem join_le {y : Str} {ps : List Str} {k : Nat} (h : ∀ p ∈ ps, p.length ≤ k) : (Txt.join y ps).length ≤ ps.length * (k + y.length) := by
  have a := join_len y ps
  have b := sum_le h
  rw [Nat.mul_add]
  omega
theorem append_len (a b : Str) : (a ++ b).length = a.length + b.length := by
  rw [len_tl, tl_append, List.length_append, ← len_tl, ← len_tl]
theorem not_join {s : Nat} {y : Str} {ps : List Str} (hy : s ∉ tl y) (h : ∀ p ∈ ps, s ∉ tl p) : s ∉ tl (Txt.join y ps) := by
  rw [join_eq, tl_join]
  induction ps with
  | nil => simp [joinL]
  | cons p r ih =>
    rw [List.map_cons, joinL_cons]
    intro hm
    rcases List.mem_append.mp hm with e | e
    · exact h p (List.mem_cons_self ..) e
    · obtain ⟨l, hl, hs⟩ := List.mem_flatten.mp e
      obtain ⟨q, hq, rfl⟩ := List.mem_map.mp hl
      obtain ⟨z, hz, rfl⟩ := List.mem_map.mp hq
      rcases List.mem_append.mp hs with e | e
      · exact hy e
      · exact h z (List.mem_cons_of_mem _ hz) e
/-- a tie's word -/
def tie (e : Nat × Nat) : Str := num e.1 ++ dash ++ num e.2
theorem tie_split (e : Nat × Nat) : Txt.split (tie e) dash = [num e.1, num e.2] := by
  have q : tie e = Txt.join dash [num e.1, num e.2] := by rw [join_eq]; rfl
  rw [q]
  refine split_join tl_dash (by decide +kernel) (by simp) fun p hp => ?_
  simp only [List.mem_cons, List.not_mem_nil, or_false] at hp
  rcases hp with rfl | rfl <;> exact num_lt (.inl (by decide))
theorem tie_free {s : Nat} (h : s < 45 ∨ 57 < s) (e : Nat × Nat) : s ∉ tl (tie e) := by
  unfold tie
  rw [tl_append, tl_append, tl_dash]
  intro hm
  rcases List.mem_append.mp hm with hm | hm
  · rcases List.mem_append.mp hm with hm | hm
    · exact num_lt (by omega) hm
    · rw [List.mem_singleton.mp hm] at h
      omega
  · exact num_lt (by omega) hm
/-- wants -/
def want (w : List Nat) : Str := if w = [] then dash else Txt.join comma (w.map num)
theorem want_split {w : List Nat} (h : w ≠ []) : Txt.split (want w) comma = w.map num := by
  unfold want
  rw [if_neg h]
  refine split_join tl_comma (by decide +kernel) (fun e => h (List.map_eq_nil_iff.mp e)) fun p hp => ?_
  obtain ⟨n, _, rfl⟩ := List.mem_map.mp hp
  exact num_lt (.inl (by decide))
theorem want_dash {w : List Nat} (h : w ≠ []) : want w ≠ dash := fun e => by
  unfold want at e
  rw [if_neg h] at e
  have m : 45 ∈ tl dash := by rw [tl_dash]; exact List.mem_singleton.mpr rfl
  rw [← e] at m
  exact not_join (by rw [tl_comma]; decide) (fun p hp => by
    obtain ⟨n, _, rfl⟩ := List.mem_map.mp hp
    exact num_lt (.inl (by decide))) m
theorem want_free {s : Nat} (h : s < 44 ∨ 57 < s) (w : List Nat) : s ∉ tl (want w) := by
  unfold want
  by_cases c : w = []
  · rw [if_pos c, tl_dash]
    intro hm
    rw [List.mem_singleton.mp hm] at h
    omega
  · rw [if_neg c]
    refine not_join (by rw [tl_comma]; intro hm; rw [List.mem_singleton.mp hm] at h; omega) fun p hp => ?_
    obtain ⟨n, _, rfl⟩ := List.mem_map.mp hp
    exact num_lt (by omega)
end Tx
namespace BM

/-- bit h decides, all higher bits alike -/
theorem lt_of_bit {a b h : Nat} (e : a >>> (h + 1) = b >>> (h + 1)) (ha : a.testBit h = false) (hb : b.testBit h = true) : a < b := by
  rw [Nat.shiftRight_eq_div_pow, Nat.shiftRight_eq_div_pow, Nat.pow_succ, ← Nat.div_div_eq_div_mul, ← Nat.div_div_eq_div_mul] at e
  rw [Nat.testBit_eq_decide_div_mod_eq] at ha hb
  have ha' := of_decide_eq_false ha
  have hb' := of_decide_eq_true hb
  have lt : a / 2 ^ h < b / 2 ^ h := by omega
  exact Nat.lt_of_not_le fun le => Nat.lt_irrefl _ (Nat.lt_of_lt_of_le lt (Nat.div_le_div_right le))

def top (t : Nat) : Nat := t.log2

theorem high {r t : Nat} : (r ^^^ t) >>> (top t + 1) = r >>> (top t + 1) := by
  rw [Nat.shiftRight_xor_distrib]
  have : t >>> (top t + 1) = 0 := by
    rw [Nat.shiftRight_eq_div_pow]
    exact Nat.div_eq_of_lt Nat.lt_log2_self
  rw [this, Nat.xor_zero]

theorem xor_top {r t : Nat} (h : t ≠ 0) : (r ^^^ t).testBit (top t) = !(r.testBit (top t)) := by
  rw [Nat.testBit_xor, show t.testBit (top t) = true from Nat.testBit_log2 h]
  cases r.testBit (top t) <;> rfl

theorem lt_iff {r t : Nat} (h : t ≠ 0) : r ^^^ t < r ↔ r.testBit (top t) = true := by
  constructor
  · intro lt
    cases e : r.testBit (top t) with
    | true => rfl
    | false =>
      have : r < r ^^^ t := lt_of_bit high.symm e (by rw [xor_top h, e]; rfl)
      omega
  · intro e
    exact lt_of_bit high (by rw [xor_top h, e]; rfl) e

/-- one step of the lessening -/
def less1 (r t : Nat) : Nat := if r ^^^ t < r then r ^^^ t else r
def less (r : Nat) (ts : List Nat) : Nat := ts.foldl less1 r

theorem less1_top {r t : Nat} (h : t ≠ 0) : (less1 r t).testBit (top t) = false := by
  unfold less1
  by_cases c : r ^^^ t < r
  · rw [if_pos c, xor_top h, (lt_iff h).mp c]; rfl
  · rw [if_neg c]
    cases e : r.testBit (top t) with
    | false => rfl
    | true => exact absurd ((lt_iff h).mpr e) c

/-- the sums of some of them -/
def Spn : List Nat → Nat → Prop
  | [], v => v = 0
  | x :: xs, v => Spn xs v ∨ Spn xs (v ^^^ x)

theorem xx (a b : Nat) : a ^^^ b ^^^ b = a := by rw [Nat.xor_assoc, Nat.xor_self, Nat.xor_zero]
theorem sw (a b c : Nat) : a ^^^ b ^^^ c = a ^^^ c ^^^ b := by rw [Nat.xor_assoc, Nat.xor_comm b c, ← Nat.xor_assoc]

theorem Spn.zero : ∀ xs, Spn xs 0
  | [] => rfl
  | _ :: xs => .inl (Spn.zero xs)

theorem Spn.add : ∀ {xs : List Nat} {u v : Nat}, Spn xs u → Spn xs v → Spn xs (u ^^^ v)
  | [], u, v, hu, hv => by
    have hu : u = 0 := hu
    have hv : v = 0 := hv
    subst hu hv
    rfl
  | x :: xs, u, v, hu, hv => by
    rcases hu with hu | hu <;> rcases hv with hv | hv
    · exact .inl (hu.add hv)
    · refine .inr ?_
      rw [Nat.xor_assoc]
      exact hu.add hv
    · refine .inr ?_
      rw [sw]
      exact hu.add hv
    · refine .inl ?_
      have := hu.add hv
      rw [← Nat.xor_assoc, sw u x v, xx] at this
      exact this

theorem Spn.cons {x : Nat} {xs : List Nat} {v : Nat} (h : Spn xs v) : Spn (x :: xs) v := .inl h
theorem Spn.head {x : Nat} {xs : List Nat} : Spn (x :: xs) x := .inr (by rw [Nat.xor_self]; exact Spn.zero _)
theorem Spn.mem {t : Nat} : ∀ {xs : List Nat}, t ∈ xs → Spn xs t
  | _ :: xs, h => by
    rcases List.mem_cons.mp h with e | e
    · subst e; exact .head
    · exact (Spn.mem e).cons
theorem Spn.iff_of {xs : List Nat} {u v : Nat} (h : Spn xs u) : Spn xs (v ^^^ u) ↔ Spn xs v := by
  constructor
  · intro k
    have := k.add h
    rw [xx] at this
    exact this
  · intro k
    exact k.add h

theorem Spn.perm {xs ys : List Nat} (p : xs.Perm ys) : ∀ v, Spn xs v ↔ Spn ys v := by
  induction p with
  | nil => exact fun v => Iff.rfl
  | cons x _ ih => exact fun v => or_congr (ih _) (ih _)
  | swap x y l =>
    intro v
    show ((Spn l v ∨ Spn l (v ^^^ x)) ∨ (Spn l (v ^^^ y) ∨ Spn l (v ^^^ y ^^^ x))) ↔ ((Spn l v ∨ Spn l (v ^^^ y)) ∨ (Spn l (v ^^^ x) ∨ Spn l (v ^^^ x ^^^ y)))
    rw [sw v y x]
    constructor
    · rintro ((h | h) | (h | h))
      · exact .inl (.inl h)
      · exact .inr (.inl h)
      · exact .inl (.inr h)
      · exact .inr (.inr h)
    · rintro ((h | h) | (h | h))
      · exact .inl (.inl h)
      · exact .inr (.inl h)
      · exact .inl (.inr h)
      · exact .inr (.inr h)
  | trans _ _ h1 h2 => exact fun v => (h1 v).trans (h2 v)

/-- none is a sum of those behind it -/
def Ind : List Nat → Prop
  | [] => True
  | x :: xs => ¬ Spn xs x ∧ Ind xs

theorem Ind.perm {xs ys : List Nat} (p : xs.Perm ys) : Ind xs ↔ Ind ys := by
  induction p with
  | nil => exact Iff.rfl
  | cons x q ih => exact and_congr (not_congr (Spn.perm q x)) ih
  | swap x y l =>
    show (¬ (Spn l y ∨ Spn l (y ^^^ x)) ∧ ¬ Spn l x ∧ Ind l) ↔ (¬ (Spn l x ∨ Spn l (x ^^^ y)) ∧ ¬ Spn l y ∧ Ind l)
    rw [Nat.xor_comm y x, not_or, not_or]
    constructor
    · rintro ⟨⟨a, b⟩, c, d⟩
      exact ⟨⟨c, b⟩, a, d⟩
    · rintro ⟨⟨a, b⟩, c, d⟩
      exact ⟨⟨c, b⟩, a, d⟩
  | trans _ _ h1 h2 => exact h1.trans h2

/-! the taken rows -/
/-- all are not 0, and a later one has not the highest bit of an earlier one -/
def Good (ts : List Nat) : Prop := (∀ t ∈ ts, t ≠ 0) ∧ ts.Pairwise (fun a b => b.testBit (top a) = false)

theorem less_span : ∀ (ts : List Nat) (r : Nat), Spn ts (r ^^^ less r ts)
  | [], r => by show r ^^^ r = 0; exact Nat.xor_self _
  | t :: ts, r => by
    show Spn (t :: ts) (r ^^^ less (less1 r t) ts)
    have ih := less_span ts (less1 r t)
    unfold less1 at ih ⊢
    by_cases c : r ^^^ t < r
    · rw [if_pos c] at ih ⊢
      refine .inr ?_
      rw [sw]
      exact ih
    · rw [if_neg c] at ih ⊢
      exact .inl ih

theorem bit_keep {r t h : Nat} (hr : r.testBit h = false) (ht : t.testBit h = false) : (less1 r t).testBit h = false := by
  unfold less1
  by_cases c : r ^^^ t < r
  · rw [if_pos c, Nat.testBit_xor, hr, ht]; rfl
  · rw [if_neg c]; exact hr
theorem bits_keep {h : Nat} : ∀ (ts : List Nat) (r : Nat), r.testBit h = false → (∀ t ∈ ts, t.testBit h = false) → (less r ts).testBit h = false
  | [], _, hr, _ => hr
  | t :: ts, r, hr, ht => bits_keep ts (less1 r t) (bit_keep hr (ht t (List.mem_cons_self ..))) fun u hu => ht u (List.mem_cons_of_mem _ hu)
theorem less_tops : ∀ (ts : List Nat) (r : Nat), Good ts → ∀ t ∈ ts, (less r ts).testBit (top t) = false
  | [], _, _, t, h => by cases h
  | u :: ts, r, ⟨nz, pw⟩, t, h => by
    have pw' := List.pairwise_cons.mp pw
    rcases List.mem_cons.mp h with e | e
    · subst e
      exact bits_keep ts _ (less1_top (nz t (List.mem_cons_self ..))) fun v hv => pw'.1 v hv
    · exact less_tops ts _ ⟨fun v hv => nz v (List.mem_cons_of_mem _ hv), pw'.2⟩ t e

theorem spn_bit {h : Nat} : ∀ {ts : List Nat} {v : Nat}, (∀ t ∈ ts, t.testBit h = false) → Spn ts v → v.testBit h = false
  | [], v, _, k => by
    have k : v = 0 := k
    rw [k, Nat.zero_testBit]
  | t :: ts, v, ht, k => by
    have ht' : ∀ u ∈ ts, u.testBit h = false := fun u hu => ht u (List.mem_cons_of_mem _ hu)
    rcases k with k | k
    · exact spn_bit ht' k
    · have := spn_bit ht' k
      rw [Nat.testBit_xor, ht t (List.mem_cons_self ..)] at this
      simpa using this
theorem spn_zero : ∀ {ts : List Nat} {v : Nat}, Good ts → Spn ts v → (∀ t ∈ ts, v.testBit (top t) = false) → v = 0
  | [], _, _, k, _ => k
  | t :: ts, v, ⟨nz, pw⟩, k, hv => by
    have pw' := List.pairwise_cons.mp pw
    have G : Good ts := ⟨fun v hv => nz v (List.mem_cons_of_mem _ hv), pw'.2⟩
    have hv' : ∀ u ∈ ts, v.testBit (top u) = false := fun u hu => hv u (List.mem_cons_of_mem _ hu)
    rcases k with k | k
    · exact spn_zero G k hv'
    · have b := spn_bit pw'.1 k
      rw [xor_top (nz t (List.mem_cons_self ..)), hv t (List.mem_cons_self ..)] at b
      cases b

theorem less_zero {ts : List Nat} {r : Nat} (G : Good ts) : less r ts = 0 ↔ Spn ts r := by
  constructor
  · intro e
    have := less_span ts r
    rw [e, Nat.xor_zero] at this
    exact this
  · intro k
    have : Spn ts (less r ts) := by
      have := (less_span ts r).add k
      rw [sw, Nat.xor_self, Nat.zero_xor] at this
      exact this
    exact spn_zero G this (less_tops ts r G)

theorem Good.snoc {ts : List Nat} {r : Nat} (G : Good ts) (h : less r ts ≠ 0) : Good (ts ++ [less r ts]) := by
  refine ⟨fun t ht => ?_, ?_⟩
  · rcases List.mem_append.mp ht with e | e
    · exact G.1 t e
    · rw [List.mem_singleton.mp e]; exact h
  · rw [List.pairwise_append]
    refine ⟨G.2, List.pairwise_singleton _ _, fun a ha b hb => ?_⟩
    rw [List.mem_singleton.mp hb]
    exact less_tops ts r G a ha

theorem spn_snoc {ts : List Nat} {y v : Nat} : Spn (ts ++ [y]) v ↔ Spn (y :: ts) v := Spn.perm (by simp) v

theorem spn_less {ts : List Nat} {r v : Nat} : Spn (less r ts :: ts) v ↔ Spn (r :: ts) v := by
  show (Spn ts v ∨ Spn ts (v ^^^ less r ts)) ↔ (Spn ts v ∨ Spn ts (v ^^^ r))
  have s := less_span ts r
  have e1 : v ^^^ r = v ^^^ less r ts ^^^ (r ^^^ less r ts) := by
    rw [← Nat.xor_assoc, sw v (less r ts) r, xx]
  rw [e1, s.iff_of]

/-- the program's walk: taken so far, the rows to come -/
def freeF : List Nat → List Nat → Bool
  | _, [] => true
  | ts, y :: ys => if less y ts = 0 then false else freeF (ts ++ [less y ts]) ys

theorem freeF_iff : ∀ (ys zs ts : List Nat), Good ts → (∀ v, Spn ts v ↔ Spn zs v) → Ind zs → (freeF ts ys = true ↔ Ind (ys.reverse ++ zs))
  | [], zs, ts, _, _, iz => by
    show (true = true) ↔ Ind zs
    exact ⟨fun _ => iz, fun _ => rfl⟩
  | y :: ys, zs, ts, G, e, iz => by
    show ((if less y ts = 0 then false else freeF (ts ++ [less y ts]) ys) = true) ↔ _
    rw [List.reverse_cons, List.append_assoc]
    by_cases c : less y ts = 0
    · rw [if_pos c]
      refine ⟨fun h => (by cases h), fun h => ?_⟩
      have : Ind (([y] ++ zs) ++ ys.reverse) := (Ind.perm List.perm_append_comm).mp h
      have sy : Spn zs y := (e y).mp ((less_zero G).mp c)
      have h2 : Ind (ys.reverse ++ ([y] ++ zs)) := h
      exact absurd sy (ind_tail h2).1
    · rw [if_neg c]
      have ny : ¬ Spn zs y := fun k => c ((less_zero G).mpr ((e y).mpr k))
      refine freeF_iff ys (y :: zs) (ts ++ [less y ts]) (G.snoc c) (fun v => ?_) ⟨ny, iz⟩
      rw [spn_snoc, spn_less]
      exact or_congr (e _) (e _)
where
  ind_tail : ∀ {as : List Nat} {y : Nat} {zs : List Nat}, Ind (as ++ ([y] ++ zs)) → Ind (y :: zs)
    | [], _, _, h => h
    | _ :: as, _, _, h => ind_tail (as := as) h.2

theorem freeF_ind (ys : List Nat) : freeF [] ys = true ↔ Ind ys.reverse := by
  have := freeF_iff ys [] [] ⟨fun t h => (by cases h), List.Pairwise.nil⟩ (fun v => Iff.rfl) True.intro
  rw [List.append_nil] at this
  exact this

/-- the law's walk: all sums so far, the rows to come -/
def bitsF : List Nat → List Nat → Bool
  | _, [] => true
  | ss, y :: ys => if 0 ∈ ss.map (· ^^^ y) then false else bitsF (ss ++ ss.map (· ^^^ y)) ys

theorem mem_map_xor {ss : List Nat} {y v : Nat} : v ∈ ss.map (· ^^^ y) ↔ (v ^^^ y) ∈ ss := by
  rw [List.mem_map]
  constructor
  · rintro ⟨a, h, rfl⟩
    rw [xx]
    exact h
  · intro h
    exact ⟨_, h, xx _ _⟩

theorem bitsF_iff : ∀ (ys zs ss : List Nat), (∀ v, v ∈ ss ↔ Spn zs v) → Ind zs → (bitsF ss ys = true ↔ Ind (ys.reverse ++ zs))
  | [], zs, ss, _, iz => by
    show (true = true) ↔ Ind zs
    exact ⟨fun _ => iz, fun _ => rfl⟩
  | y :: ys, zs, ss, e, iz => by
    show ((if 0 ∈ ss.map (· ^^^ y) then false else bitsF (ss ++ ss.map (· ^^^ y)) ys) = true) ↔ _
    rw [List.reverse_cons, List.append_assoc]
    by_cases c : 0 ∈ ss.map (· ^^^ y)
    · rw [if_pos c]
      refine ⟨fun h => (by cases h), fun h => ?_⟩
      rw [mem_map_xor, Nat.zero_xor] at c
      exact absurd ((e y).mp c) (freeF_iff.ind_tail h).1
    · rw [if_neg c]
      rw [mem_map_xor, Nat.zero_xor] at c
      refine bitsF_iff ys (y :: zs) _ (fun v => ?_) ⟨fun k => c ((e y).mpr k), iz⟩
      rw [List.mem_append, mem_map_xor]
      exact or_congr (e _) (e _)
theorem bitsF_ind (ys : List Nat) : bitsF [0] ys = true ↔ Ind ys.reverse := by
  have := bitsF_iff ys [] [0] (fun v => by rw [List.mem_singleton]; exact Iff.rfl) True.intro
  rw [List.append_nil] at this
  exact this

theorem agree (xs : List Nat) : freeF [] xs.reverse = bitsF [0] xs := by
  rw [Bool.eq_iff_iff, freeF_ind, bitsF_ind, List.reverse_reverse]
  exact Ind.perm (List.reverse_perm xs).symm
end BM
namespace TM
abbrev Edge := Nat × Nat
/-- a walk over some of the ties leads from a to b -/
def Conn : List Edge → Nat → Nat → Prop
  | [], a, b => a = b
  | e :: l, a, b => Conn l a b ∨ (Conn l a e.1 ∧ Conn l e.2 b) ∨ (Conn l a e.2 ∧ Conn l e.1 b)
theorem Conn.refl : ∀ (l : List Edge) (a : Nat), Conn l a a
  | [], _ => rfl
  | _ :: l, a => .inl (Conn.refl l a)
theorem Conn.symm : ∀ {l : List Edge} {a b : Nat}, Conn l a b → Conn l b a
  | [], _, _, h => (show _ = _ from h).symm
  | _ :: l, _, _, h => by
    rcases h with h | ⟨h, k⟩ | ⟨h, k⟩
    · exact .inl h.symm
    · exact .inr (.inr ⟨k.symm, h.symm⟩)
    · exact .inr (.inl ⟨k.symm, h.symm⟩)
theorem Conn.trans : ∀ {l : List Edge} {a b c : Nat}, Conn l a b → Conn l b c → Conn l a c
  | [], _, _, _, h, k => (show _ = _ from h).trans k
  | _ :: l, _, _, _, h, k => by
    rcases h with h | ⟨h, h'⟩ | ⟨h, h'⟩ <;> rcases k with k | ⟨k, k'⟩ | ⟨k, k'⟩
    · exact .inl (h.trans k)
    · exact .inr (.inl ⟨h.trans k, k'⟩)
    · exact .inr (.inr ⟨h.trans k, k'⟩)
    · exact .inr (.inl ⟨h, h'.trans k⟩)
    · exact .inr (.inl ⟨h, k'⟩)
    · exact .inl (h.trans k')
    · exact .inr (.inr ⟨h, h'.trans k⟩)
    · exact .inl (h.trans k')
    · exact .inr (.inr ⟨h, k'⟩)
theorem Conn.cons {e : Edge} {l : List Edge} {a b : Nat} (h : Conn l a b) : Conn (e :: l) a b := .inl h
theorem Conn.tie {e : Edge} {l : List Edge} : Conn (e :: l) e.1 e.2 := .inr (.inl ⟨.refl _ _, .refl _ _⟩)
/-- the closing: any equivalence that holds l's walks and e -/
theorem Conn.lift {e : Edge} {l m : List Edge} (s : ∀ a b, Conn l a b → Conn m a b) (h : Conn m e.1 e.2) : ∀ a b, Conn (e :: l) a b → Conn m a b := by
  rintro a b (k | ⟨k, k'⟩ | ⟨k, k'⟩)
  · exact s _ _ k
  · exact ((s _ _ k).trans h).trans (s _ _ k')
  · exact ((s _ _ k).trans h.symm).trans (s _ _ k')
theorem Conn.perm {l m : List Edge} (p : l.Perm m) : ∀ a b, Conn l a b ↔ Conn m a b := by
  induction p with
  | nil => exact fun _ _ => Iff.rfl
  | cons x _ ih => exact fun a b => ⟨Conn.lift (fun _ _ k => ((ih _ _).mp k).cons) .tie a b, Conn.lift (fun _ _ k => ((ih _ _).mpr k).cons) .tie a b⟩
  | swap x y l =>
    exact fun a b => ⟨Conn.lift (Conn.lift (fun _ _ k => k.cons.cons) .tie) (Conn.tie.cons) a b, Conn.lift (Conn.lift (fun _ _ k => k.cons.cons) .tie) (Conn.tie.cons) a b⟩
  | trans _ _ h1 h2 => exact fun a b => (h1 a b).trans (h2 a b)
/-- no tie closes a walk of those behind it -/
def Ind : List Edge → Prop
  | [] => True
  | e :: l => ¬ Conn l e.1 e.2 ∧ Ind l
theorem exch {x y : Edge} {l : List Edge} (nx : ¬ Conn l x.1 x.2) (h : Conn (y :: l) x.1 x.2) : Conn (x :: l) y.1 y.2 := by
  rcases h with h | ⟨h, k⟩ | ⟨h, k⟩
  · exact absurd h nx
  · exact .inr (.inl ⟨h.symm, k.symm⟩)
  · exact .inr (.inr ⟨k, h⟩)
theorem ind_swap {x y : Edge} {l : List Edge} (h : Ind (x :: y :: l)) : Ind (y :: x :: l) :=
  ⟨fun k => h.1 (exch h.2.1 k), fun k => h.1 k.cons, h.2.2⟩
theorem Ind.perm {l m : List Edge} (p : l.Perm m) : Ind l ↔ Ind m := by
  induction p with
  | nil => exact Iff.rfl
  | cons x q ih => exact and_congr (not_congr (Conn.perm q _ _)) ih
  | swap x y l => exact ⟨ind_swap, ind_swap⟩
  | trans _ _ h1 h2 => exact h1.trans h2
theorem Conn.sub {l m : List Edge} (s : l.Sublist m) : ∀ a b, Conn l a b → Conn m a b := by
  induction s with
  | slnil => exact fun _ _ h => h
  | cons _ _ ih => exact fun a b h => (ih a b h).cons
  | cons_cons _ _ ih => exact Conn.lift (fun _ _ k => (ih _ _ k).cons) .tie
theorem Ind.sub {l m : List Edge} (s : l.Sublist m) : Ind m → Ind l := by
  induction s with
  | slnil => exact fun h => h
  | cons _ _ ih => exact fun h => ih h.2
  | cons_cons a q ih => exact fun h => ⟨fun k => h.1 (Conn.sub q _ _ k), ih h.2⟩
/-! ### marks -/
def Mk (P : Nat) (m : Nat → Nat) (zs : List Edge) : Prop := ∀ a b, a < P → b < P → (m a = m b ↔ Conn zs a b)
def re (m : Nat → Nat) (e : Edge) : Nat → Nat := fun a => if m a = m e.2 then m e.1 else m a
theorem mk_re {P : Nat} {m : Nat → Nat} {zs : List Edge} {e : Edge} (h : Mk P m zs) (h1 : e.1 < P) (h2 : e.2 < P) (ne : ¬ m e.1 = m e.2) : Mk P (re m e) (e :: zs) := by
  intro a b ha hb
  show (re m e a = re m e b) ↔ (Conn zs a b ∨ (Conn zs a e.1 ∧ Conn zs e.2 b) ∨ (Conn zs a e.2 ∧ Conn zs e.1 b))
  rw [← h a b ha hb, ← h a _ ha h1, ← h _ b h2 hb, ← h a _ ha h2, ← h _ b h1 hb]
  unfold re
  by_cases ca : m a = m e.2 <;> by_cases cb : m b = m e.2
  · rw [if_pos ca, if_pos cb, ca, cb]
    simp
  · rw [if_pos ca, if_neg cb, ca]
    constructor
    · intro k
      exact .inr (.inr ⟨rfl, k⟩)
    · rintro (k | ⟨_, k⟩ | ⟨_, k⟩)
      · exact absurd k.symm cb
      · exact absurd k.symm cb
      · exact k
  · rw [if_neg ca, if_pos cb, cb]
    constructor
    · intro k
      exact .inr (.inl ⟨k, rfl⟩)
    · rintro (k | ⟨k, _⟩ | ⟨k, _⟩)
      · exact absurd k ca
      · exact k
      · exact absurd k ca
  · rw [if_neg ca, if_neg cb]
    constructor
    · intro k
      exact .inl k
    · rintro (k | ⟨_, k⟩ | ⟨k, _⟩)
      · exact k
      · exact absurd k.symm cb
      · exact absurd k ca
/-- the program's walk: marks so far, the ties to come -/
def freeF : (Nat → Nat) → List Edge → Bool
  | _, [] => true
  | m, e :: es => if m e.1 = m e.2 then false else freeF (re m e) es
theorem ind_tail : ∀ {as : List Edge} {y : Edge} {zs : List Edge}, Ind (as ++ ([y] ++ zs)) → Ind (y :: zs)
  | [], _, _, h => h
  | _ :: as, _, _, h => ind_tail (as := as) h.2
theorem freeF_iff {P : Nat} : ∀ (es zs : List Edge) (m : Nat → Nat), Mk P m zs → (∀ e ∈ es, e.1 < P ∧ e.2 < P) → Ind zs → (freeF m es = true ↔ Ind (es.reverse ++ zs))
  | [], zs, m, _, _, iz => by
    show (true = true) ↔ Ind zs
    exact ⟨fun _ => iz, fun _ => rfl⟩
  | e :: es, zs, m, h, hb, iz => by
    obtain ⟨b1, b2⟩ := hb e (List.mem_cons_self ..)
    show ((if m e.1 = m e.2 then false else freeF (re m e) es) = true) ↔ _
    rw [List.reverse_cons, List.append_assoc]
    by_cases c : m e.1 = m e.2
    · rw [if_pos c]
      refine ⟨fun k => (by cases k), fun k => ?_⟩
      exact absurd ((h _ _ b1 b2).mp c) (ind_tail k).1
    · rw [if_neg c]
      exact freeF_iff es (e :: zs) _ (mk_re h b1 b2 c) (fun e' he' => hb e' (List.mem_cons_of_mem _ he')) ⟨fun k => c ((h _ _ b1 b2).mpr k), iz⟩
theorem freeF_ind {P : Nat} (es : List Edge) (hb : ∀ e ∈ es, e.1 < P ∧ e.2 < P) : freeF id es = true ↔ Ind es.reverse := by
  have := freeF_iff (P := P) es [] id (fun a b _ _ => Iff.rfl) hb True.intro
  rw [List.append_nil] at this
  exact this
/-! ### ties with a loose end, taken off -/
def ends : List Edge → List Nat
  | [] => []
  | e :: es => e.1 :: e.2 :: ends es
theorem ends_append : ∀ l m : List Edge, ends (l ++ m) = ends l ++ ends m
  | [], _ => rfl
  | e :: l, m => by
    show e.1 :: e.2 :: ends (l ++ m) = e.1 :: e.2 :: (ends l ++ ends m)
    rw [ends_append l m]
def deg (l : List Edge) (v : Nat) : Nat := (ends l).count v
def keep (l : List Edge) (e : Edge) : Bool := decide (1 < deg l e.1) && decide (1 < deg l e.2)
def strip (l : List Edge) : List Edge := l.filter (keep l)
def iter : Nat → List Edge → List Edge
  | 0, l => l
  | n + 1, l => iter n (strip l)
theorem deg_cons (e : Edge) (l : List Edge) (v : Nat) : deg (e :: l) v = (if e.1 = v then 1 else 0) + (if e.2 = v then 1 else 0) + deg l v := by
  unfold deg
  show (e.1 :: e.2 :: ends l).count v = _
  rw [List.count_cons, List.count_cons]
  by_cases h1 : e.1 = v <;> by_cases h2 : e.2 = v <;> simp [h1, h2] <;> omega
theorem deg_append (l m : List Edge) (v : Nat) : deg (l ++ m) v = deg l v + deg m v := by
  unfold deg
  rw [ends_append, List.count_append]
theorem deg_mem : ∀ {l : List Edge} {e : Edge}, e ∈ l → 1 ≤ deg l e.1 ∧ 1 ≤ deg l e.2
  | d :: l, e, h => by
    rw [deg_cons, deg_cons]
    rcases List.mem_cons.mp h with q | q
    · subst q
      simp
      omega
    · have := deg_mem q
      omega
theorem deg_of : ∀ {l : List Edge} {v : Nat}, 1 ≤ deg l v → ∃ e ∈ l, e.1 = v ∨ e.2 = v
  | [], v, h => by
    have : deg [] v = 0 := rfl
    omega
  | d :: l, v, h => by
    rw [deg_cons] at h
    by_cases h1 : d.1 = v
    · exact ⟨d, List.mem_cons_self .., .inl h1⟩
    by_cases h2 : d.2 = v
    · exact ⟨d, List.mem_cons_self .., .inr h2⟩
    rw [if_neg h1, if_neg h2] at h
    obtain ⟨e, he, k⟩ := deg_of (l := l) (v := v) (by omega)
    exact ⟨e, List.mem_cons_of_mem _ he, k⟩
theorem lone : ∀ {l : List Edge} {u x : Nat}, deg l u = 0 → Conn l u x → x = u
  | [], _, _, _, h => (show _ = _ from h).symm
  | e :: l, u, x, h, k => by
    rw [deg_cons] at h
    have h1 : ¬ e.1 = u := fun c => by rw [if_pos c] at h; omega
    have h2 : ¬ e.2 = u := fun c => by rw [if_pos c] at h; omega
    have h0 : deg l u = 0 := by omega
    rcases k with k | ⟨k, _⟩ | ⟨k, _⟩
    · exact lone h0 k
    · exact absurd (lone h0 k) h1
    · exact absurd (lone h0 k) h2
/-- every touched place has another one with it that one tie alone touches -/
theorem leaves : ∀ {l : List Edge}, Ind l → ∀ a, 1 ≤ deg l a → ∃ b, b ≠ a ∧ Conn l a b ∧ deg l b = 1
  | [], _, a, h => by
    have : deg [] a = 0 := rfl
    omega
  | e :: l, ⟨nc, il⟩, a, h => by
    have ih := leaves il
    have ne : e.1 ≠ e.2 := fun c => nc (by rw [c]; exact .refl _ _)
    have two : ∀ x y, (x = e.1 ∧ y = e.2) ∨ (x = e.2 ∧ y = e.1) → ∃ b, Conn l x b ∧ deg (e :: l) b = 1 := by
      intro x y hxy
      have nxy : ¬ Conn l x y := by
        rcases hxy with ⟨rfl, rfl⟩ | ⟨rfl, rfl⟩
        · exact nc
        · exact fun k => nc k.symm
      by_cases z : deg l x = 0
      · refine ⟨x, .refl _ _, ?_⟩
        rw [deg_cons, z]
        rcases hxy with ⟨rfl, rfl⟩ | ⟨rfl, rfl⟩
        · rw [if_pos rfl, if_neg ne.symm]
        · rw [if_neg ne, if_pos rfl]
      · obtain ⟨b, nb, cb, db⟩ := ih x (by omega)
        refine ⟨b, cb, ?_⟩
        have ny : b ≠ y := fun c => nxy (c ▸ cb)
        rw [deg_cons, db]
        rcases hxy with ⟨rfl, rfl⟩ | ⟨rfl, rfl⟩
        · rw [if_neg nb.symm, if_neg ny.symm]
        · rw [if_neg ny.symm, if_neg nb.symm]
    obtain ⟨bu, cu, du⟩ := two e.1 e.2 (.inl ⟨rfl, rfl⟩)
    obtain ⟨bv, cv, dv⟩ := two e.2 e.1 (.inr ⟨rfl, rfl⟩)
    by_cases c1 : Conn l a e.1
    · refine ⟨bv, fun q => ?_, .inr (.inl ⟨c1, cv⟩), dv⟩
      exact nc (c1.symm.trans (q ▸ cv.symm))
    by_cases c2 : Conn l a e.2
    · refine ⟨bu, fun q => ?_, .inr (.inr ⟨c2, cu⟩), du⟩
      exact nc ((q ▸ cu : Conn l e.1 a).trans c2)
    have a1 : e.1 ≠ a := fun c => c1 (c ▸ .refl _ _)
    have a2 : e.2 ≠ a := fun c => c2 (c ▸ .refl _ _)
    rw [deg_cons, if_neg a1, if_neg a2] at h
    obtain ⟨b, nb, cb, db⟩ := ih a (by omega)
    refine ⟨b, nb, cb.cons, ?_⟩
    have b1 : e.1 ≠ b := fun c => c1 (c ▸ cb)
    have b2 : e.2 ≠ b := fun c => c2 (c ▸ cb)
    rw [deg_cons, if_neg b1, if_neg b2, db]
theorem shorter {l : List Edge} (h : Ind l) (ne : l ≠ []) : (strip l).length < l.length := by
  obtain ⟨e, r, rfl⟩ : ∃ e r, l = e :: r := by
    cases l with
    | nil => exact absurd rfl ne
    | cons e r => exact ⟨e, r, rfl⟩
  obtain ⟨b, _, _, db⟩ := leaves h e.1 (deg_mem (List.mem_cons_self ..)).1
  obtain ⟨d, hd, q⟩ := deg_of (l := e :: r) (v := b) (by omega)
  refine Nat.lt_of_le_of_ne (List.length_filter_le _ _) fun c => ?_
  have k := List.length_filter_eq_length_iff.mp c d hd
  unfold keep at k
  rw [Bool.and_eq_true] at k
  have k1 := of_decide_eq_true k.1
  have k2 := of_decide_eq_true k.2
  rcases q with q | q
  · rw [q] at k1
    omega
  · rw [q] at k2
    omega
theorem strip_nil : ∀ n, iter n [] = []
  | 0 => rfl
  | n + 1 => strip_nil n
theorem iter_of_ind : ∀ (n : Nat) (l : List Edge), Ind l → l.length ≤ n → iter n l = []
  | 0, l, _, h => List.eq_nil_of_length_eq_zero (Nat.le_zero.mp h)
  | n + 1, l, i, h => by
    by_cases c : l = []
    · rw [c]
      exact strip_nil _
    · have := shorter i c
      exact iter_of_ind n _ (i.sub (List.filter_sublist ..)) (by omega)
theorem ind_add {l : List Edge} : ∀ (m s : List Edge), (∀ v, deg (m ++ s) v ≤ deg l v) → (∀ e ∈ m, deg l e.1 ≤ 1 ∨ deg l e.2 ≤ 1) → Ind s → Ind (m ++ s)
  | [], _, _, _, i => i
  | e :: m, s, hd, hl, i => by
    have ih := ind_add m s (fun v => by
      have := hd v
      rw [List.cons_append, deg_cons] at this
      omega) (fun e' he' => hl e' (List.mem_cons_of_mem _ he')) i
    refine ⟨fun c => ?_, ih⟩
    have c : Conn (m ++ s) e.1 e.2 := c
    have d1 := hd e.1
    have d2 := hd e.2
    rw [List.cons_append, deg_cons] at d1 d2
    rw [if_pos rfl] at d1
    rw [if_pos rfl] at d2
    rcases hl e (List.mem_cons_self ..) with q | q
    · have ne : ¬ e.2 = e.1 := fun z => by rw [if_pos z] at d1; omega
      exact ne (lone (by omega) c)
    · have ne : ¬ e.1 = e.2 := fun z => by rw [if_pos z] at d2; omega
      exact ne (lone (by omega) c.symm)
theorem deg_perm {l m : List Edge} (p : l.Perm m) (v : Nat) : deg l v = deg m v := by
  induction p with
  | nil => rfl
  | cons x _ ih => rw [deg_cons, deg_cons, ih]
  | swap x y l => rw [deg_cons, deg_cons, deg_cons, deg_cons]; omega
  | trans _ _ h1 h2 => exact h1.trans h2
theorem ind_of_strip {l : List Edge} (h : Ind (strip l)) : Ind l := by
  have p : ((l.filter fun e => !keep l e) ++ strip l).Perm l := (List.perm_append_comm).trans (List.filter_append_perm (keep l) l)
  refine (Ind.perm p).mp (ind_add (l := l) _ _ (fun v => Nat.le_of_eq (deg_perm p v)) (fun e he => ?_) h)
  have k := (List.mem_filter.mp he).2
  have k' : keep l e = false := by simpa using k
  unfold keep at k'
  rw [Bool.and_eq_false_iff] at k'
  rcases k' with q | q
  · exact .inl (Nat.le_of_not_lt (of_decide_eq_false q))
  · exact .inr (Nat.le_of_not_lt (of_decide_eq_false q))
theorem ind_of_iter : ∀ (n : Nat) (l : List Edge), iter n l = [] → Ind l
  | 0, l, h => by
    have h : l = [] := h
    rw [h]
    exact True.intro
  | n + 1, l, h => ind_of_strip (ind_of_iter n (strip l) h)
theorem iter_iff (l : List Edge) : iter l.length l = [] ↔ Ind l := ⟨ind_of_iter _ _, fun i => iter_of_ind _ _ i (Nat.le_refl _)⟩
def noRing (l : List Edge) : Bool := decide (iter l.length l = [])
theorem agree {P : Nat} (l : List Edge) (hb : ∀ e ∈ l, e.1 < P ∧ e.2 < P) : freeF id l.reverse = noRing l := by
  unfold noRing
  rw [Bool.eq_iff_iff, decide_eq_true_eq, iter_iff, freeF_ind (P := P) _ fun e he => hb e (List.mem_reverse.mp he), List.reverse_reverse]
end TM
namespace PM
/-- each of xs can be given something that it wants, no two the same -/
def Free (W : Nat → List Nat) (xs : List Nat) : Prop := ∃ g : Nat → Nat, (∀ x ∈ xs, g x ∈ W x) ∧ ∀ x ∈ xs, ∀ y ∈ xs, g x = g y → x = y
/-! ### one newcomer -/
structure Pre (h : Nat → Option Nat) (T : List Nat) (z : Nat) : Prop where
  own : ∀ p, h p = some z → p ∈ T
  inj : ∀ p q y, h p = some y → h q = some y → p = q
structure Yes (W : Nat → List Nat) (h : Nat → Option Nat) (T : List Nat) (z : Nat) (h' : Nat → Option Nat) (T' : List Nat) : Prop where
  sub : ∀ p ∈ T, p ∈ T'
  keep : ∀ p, p ∈ T ∨ p ∉ T' → h' p = h p
  val : ∀ p y, h' p = some y → p ∈ W y
  got : ∃ q, q ∈ T' ∧ q ∉ T ∧ h' q = some z ∧ ∀ q', q' ∉ T → h' q' = some z → q' = q
  oth : ∀ y, y ≠ z → ((∃ p, h p = some y) ↔ (∃ p, h' p = some y))
  inj : ∀ y, y ≠ z → ∀ p q, h' p = some y → h' q = some y → p = q
structure No (W : Nat → List Nat) (h : Nat → Option Nat) (T : List Nat) (z : Nat) (T' : List Nat) : Prop where
  sub : ∀ p ∈ T, p ∈ T'
  all : ∀ p ∈ W z, p ∈ T'
  cl : ∀ p ∈ T', p ∉ T → ∃ y, h p = some y ∧ ∀ r ∈ W y, r ∈ T'
/-- between two turns of the walk over what z wants -/
structure Mid (W : Nat → List Nat) (h : Nat → Option Nat) (T : List Nat) (ps : List Nat) (T' : List Nat) : Prop where
  sub : ∀ p ∈ T, p ∈ T'
  all : ∀ p ∈ ps, p ∈ T'
  cl : ∀ p ∈ T', p ∉ T → ∃ y, h p = some y ∧ ∀ r ∈ W y, r ∈ T'
def put (h : Nat → Option Nat) (p z : Nat) : Nat → Option Nat := fun q => if q = p then some z else h q
theorem put_at {h : Nat → Option Nat} {p z : Nat} : put h p z p = some z := if_pos rfl
theorem put_ne {h : Nat → Option Nat} {p z q : Nat} (n : q ≠ p) : put h p z q = h q := if_neg n
variable {W : Nat → List Nat} {h : Nat → Option Nat} {T T1 T2 : List Nat} {z p : Nat}
theorem Mid.start : Mid W h T [] T := ⟨fun _ h => h, fun _ h => (by cases h), fun _ h n => absurd h n⟩
theorem Mid.skip {ps : List Nat} (m : Mid W h T ps T1) (hp : p ∈ T1) : Mid W h T (ps ++ [p]) T1 :=
  ⟨m.sub, fun q hq => by
    rcases List.mem_append.mp hq with e | e
    · exact m.all q e
    · rw [List.mem_singleton.mp e]; exact hp, m.cl⟩
theorem Mid.no {ps : List Nat} {y : Nat} (m : Mid W h T ps T1) (hy : h p = some y) (n : No W h (T1 ++ [p]) y T2) : Mid W h T (ps ++ [p]) T2 := by
  have s : ∀ q ∈ T1, q ∈ T2 := fun q hq => n.sub q (List.mem_append_left _ hq)
  have pp : p ∈ T2 := n.sub p (List.mem_append_right _ (List.mem_singleton.mpr rfl))
  refine ⟨fun q hq => s q (m.sub q hq), fun q hq => ?_, fun q hq nq => ?_⟩
  · rcases List.mem_append.mp hq with e | e
    · exact s q (m.all q e)
    · rw [List.mem_singleton.mp e]; exact pp
  · by_cases c : q ∈ T1
    · obtain ⟨y', h1, h2⟩ := m.cl q c nq
      exact ⟨y', h1, fun r hr => s r (h2 r hr)⟩
    by_cases c2 : q = p
    · subst c2
      exact ⟨y, hy, n.all⟩
    · exact n.cl q hq fun k => by
        rcases List.mem_append.mp k with e | e
        · exact c e
        · exact c2 (List.mem_singleton.mp e)
theorem Mid.stop (m : Mid W h T (W z) T1) : No W h T z T1 := ⟨m.sub, m.all, m.cl⟩
theorem yes_free {ps : List Nat} (pre : Pre h T z) (val : ∀ p y, h p = some y → p ∈ W y) (m : Mid W h T ps T1) (hp : p ∉ T1) (hw : p ∈ W z) (hn : h p = none) : Yes W h T z (put h p z) (T1 ++ [p]) := by
  have pT : p ∉ T := fun k => hp (m.sub p k)
  have pin : p ∈ T1 ++ [p] := List.mem_append_right _ (List.mem_singleton.mpr rfl)
  refine ⟨fun q hq => List.mem_append_left _ (m.sub q hq), fun q hq => ?_, fun q y hy => ?_, ⟨p, pin, pT, put_at, fun q nq hq => ?_⟩, fun y ny => ?_, fun y ny q q' h1 h2 => ?_⟩
  · refine put_ne fun e => ?_
    subst e
    rcases hq with k | k
    · exact pT k
    · exact k pin
  · by_cases e : q = p
    · subst e
      rw [put_at] at hy
      cases hy
      exact hw
    · rw [put_ne e] at hy
      exact val q y hy
  · by_cases e : q = p
    · exact e
    · rw [put_ne e] at hq
      exact absurd (pre.own q hq) nq
  · constructor
    · rintro ⟨q, hq⟩
      refine ⟨q, ?_⟩
      rw [put_ne fun e => by rw [e, hn] at hq; cases hq]
      exact hq
    · rintro ⟨q, hq⟩
      by_cases e : q = p
      · rw [e, put_at] at hq
        exact absurd (Option.some.inj hq).symm ny
      · rw [put_ne e] at hq
        exact ⟨q, hq⟩
  · have n1 : q ≠ p := fun e => by
      rw [e, put_at] at h1
      exact ny (Option.some.inj h1).symm
    have n2 : q' ≠ p := fun e => by
      rw [e, put_at] at h2
      exact ny (Option.some.inj h2).symm
    rw [put_ne n1] at h1
    rw [put_ne n2] at h2
    exact pre.inj q q' y h1 h2
theorem pre_next {ps : List Nat} {y : Nat} (pre : Pre h T z) (hy : h p = some y) : Pre h (T1 ++ [p]) y :=
  ⟨fun q hq => by
    rw [pre.inj q p y hq hy]
    exact List.mem_append_right _ (List.mem_singleton.mpr rfl), pre.inj⟩
theorem yes_back {ps : List Nat} {y : Nat} {h1 : Nat → Option Nat} (pre : Pre h T z) (m : Mid W h T ps T1) (hp : p ∉ T1) (hw : p ∈ W z) (hy : h p = some y) (Y : Yes W h (T1 ++ [p]) y h1 T2) : Yes W h T z (put h1 p z) T2 := by
  have pT : p ∉ T := fun k => hp (m.sub p k)
  have pin1 : p ∈ T1 ++ [p] := List.mem_append_right _ (List.mem_singleton.mpr rfl)
  have pin : p ∈ T2 := Y.sub p pin1
  have yz : y ≠ z := fun e => by
    subst e
    exact pT (pre.own p hy)
  have h1p : h1 p = some y := (Y.keep p (.inl pin1)).trans hy
  have TT : ∀ q ∈ T, q ∈ T1 ++ [p] := fun q hq => List.mem_append_left _ (m.sub q hq)
  refine ⟨fun q hq => Y.sub q (TT q hq), fun q hq => ?_, fun q x hx => ?_, ⟨p, pin, pT, put_at, fun q nq hq => ?_⟩, fun x nx => ?_, fun x nx q q' e1 e2 => ?_⟩
  · have nq : q ≠ p := fun e => by
      subst e
      rcases hq with k | k
      · exact pT k
      · exact k pin
    rw [put_ne nq]
    rcases hq with k | k
    · exact Y.keep q (.inl (TT q k))
    · exact Y.keep q (.inr k)
  · by_cases e : q = p
    · subst e
      rw [put_at] at hx
      cases hx
      exact hw
    · rw [put_ne e] at hx
      exact Y.val q x hx
  · by_cases e : q = p
    · exact e
    · rw [put_ne e] at hq
      obtain ⟨p0, hp0⟩ := (Y.oth z yz.symm).mpr ⟨q, hq⟩
      have p0T := pre.own p0 hp0
      have h1p0 : h1 p0 = some z := (Y.keep p0 (.inl (TT p0 p0T))).trans hp0
      have := Y.inj z yz.symm q p0 hq h1p0
      exact absurd (this ▸ p0T) nq
  · by_cases exy : x = y
    · subst exy
      refine ⟨fun _ => ?_, fun _ => ⟨p, hy⟩⟩
      obtain ⟨q, q1, q2, q3, _⟩ := Y.got
      refine ⟨q, ?_⟩
      have nqp : q ≠ p := fun e => q2 (by rw [e]; exact pin1)
      rw [put_ne nqp]
      exact q3
    · rw [Y.oth x exy]
      constructor
      · rintro ⟨q, hq⟩
        refine ⟨q, ?_⟩
        rw [put_ne fun e => ?_]
        · exact hq
        · rw [e, h1p] at hq
          exact exy (Option.some.inj hq).symm
      · rintro ⟨q, hq⟩
        by_cases e : q = p
        · rw [e, put_at] at hq
          exact absurd (Option.some.inj hq).symm nx
        · rw [put_ne e] at hq
          exact ⟨q, hq⟩
  · have n1 : q ≠ p := fun e => by
      rw [e, put_at] at e1
      exact nx (Option.some.inj e1).symm
    have n2 : q' ≠ p := fun e => by
      rw [e, put_at] at e2
      exact nx (Option.some.inj e2).symm
    rw [put_ne n1] at e1
    rw [put_ne n2] at e2
    by_cases exy : x = y
    · subst exy
      obtain ⟨q0, _, _, _, un⟩ := Y.got
      have out : ∀ r, r ≠ p → h1 r = some x → r ∉ T1 ++ [p] := fun r nr hr k => by
        have := (Y.keep r (.inl k)).symm.trans hr
        exact nr (pre.inj r p x this hy)
      rw [un q (out q n1 e1) e1, un q' (out q' n2 e2) e2]
    · exact Y.inj x exy q q' e1 e2
/-! ### all of a list -/
structure Mat (W : Nat → List Nat) (h : Nat → Option Nat) (xs : List Nat) : Prop where
  val : ∀ p y, h p = some y → p ∈ W y
  ins : ∀ p y, h p = some y → y ∈ xs
  has : ∀ y ∈ xs, ∃ p, h p = some y
  inj : ∀ p q y, h p = some y → h q = some y → p = q
theorem Mat.start : Mat W (fun _ => none) [] := ⟨fun _ _ h => (by cases h), fun _ _ h => (by cases h), fun _ h => (by cases h), fun _ _ _ h => (by cases h)⟩
theorem Mat.pre {xs : List Nat} (M : Mat W h xs) (hz : z ∉ xs) : Pre h [] z := ⟨fun p hp => absurd (M.ins p z hp) hz, M.inj⟩
theorem Mat.more {xs : List Nat} {h' : Nat → Option Nat} (M : Mat W h xs) (hz : z ∉ xs) (Y : Yes W h [] z h' T) : Mat W h' (xs ++ [z]) := by
  obtain ⟨q, _, _, hq, un⟩ := Y.got
  refine ⟨Y.val, fun p y hy => ?_, fun y hy => ?_, fun p p' y h1 h2 => ?_⟩
  · by_cases e : y = z
    · rw [e]
      exact List.mem_append_right _ (List.mem_singleton.mpr rfl)
    · obtain ⟨p0, hp0⟩ := (Y.oth y e).mpr ⟨p, hy⟩
      exact List.mem_append_left _ (M.ins p0 y hp0)
  · rcases List.mem_append.mp hy with e | e
    · exact (Y.oth y fun c => hz (c ▸ e)).mp (M.has y e)
    · rw [List.mem_singleton.mp e]
      exact ⟨q, hq⟩
  · by_cases e : y = z
    · subst e
      rw [un p (fun k => (by cases k)) h1, un p' (fun k => (by cases k)) h2]
    · exact Y.inj y e p p' h1 h2
theorem Mat.free {xs : List Nat} (M : Mat W h xs) : Free W xs := by
  classical
  refine ⟨fun x => if k : ∃ p, h p = some x then k.choose else 0, fun x hx => ?_, fun x hx y hy e => ?_⟩
  · have k := M.has x hx
    show (if k : ∃ p, h p = some x then k.choose else 0) ∈ W x
    rw [dif_pos k]
    exact M.val _ _ k.choose_spec
  · have k := M.has x hx
    have k' := M.has y hy
    simp only [dif_pos k, dif_pos k'] at e
    have a := k.choose_spec
    have b := k'.choose_spec
    rw [e, b] at a
    exact (Option.some.inj a).symm
theorem nodup_le : ∀ (l T : List Nat), l.Nodup → (∀ x ∈ l, x ∈ T) → l.length ≤ T.length
  | [], _, _, _ => Nat.zero_le _
  | x :: l, T, nd, s => by
    have nd' := List.nodup_cons.mp nd
    have hx := s x (List.mem_cons_self ..)
    have ih := nodup_le l (T.erase x) nd'.2 fun y hy => by
      have ne : y ≠ x := fun e => nd'.1 (e ▸ hy)
      exact (List.mem_erase_of_ne ne).mpr (s y (List.mem_cons_of_mem _ hy))
    rw [List.length_erase_of_mem hx] at ih
    have : 0 < T.length := List.length_pos_of_mem hx
    show l.length + 1 ≤ T.length
    omega
theorem nodup_map {α β : Type} (g : α → β) : ∀ (l : List α), l.Nodup → (∀ x ∈ l, ∀ y ∈ l, g x = g y → x = y) → (l.map g).Nodup
  | [], _, _ => List.nodup_nil
  | x :: l, nd, inj => by
    have nd' := List.nodup_cons.mp nd
    rw [List.map_cons, List.nodup_cons]
    refine ⟨fun hm => ?_, nodup_map g l nd'.2 fun a ha b hb => inj a (List.mem_cons_of_mem _ ha) b (List.mem_cons_of_mem _ hb)⟩
    obtain ⟨y, hy, e⟩ := List.mem_map.mp hm
    have := inj y (List.mem_cons_of_mem _ hy) x (List.mem_cons_self ..) e
    exact nd'.1 (this ▸ hy)
theorem not_free {xs L : List Nat} (M : Mat W h xs) (hz : z ∉ xs) (n : No W h [] z T) (nd : T.Nodup) (hL : ∀ x ∈ xs, x ∈ L) (zL : z ∈ L) : ¬ Free W L := by
  rintro ⟨g, gw, gi⟩
  have hol : ∀ p ∈ T, ∃ y, h p = some y ∧ ∀ r ∈ W y, r ∈ T := fun p hp => n.cl p hp (fun k => by cases k)
  let y := fun p => (h p).getD 0
  have hy : ∀ p ∈ T, h p = some (y p) := fun p hp => by
    obtain ⟨u, hu, _⟩ := hol p hp
    show h p = some ((h p).getD 0)
    rw [hu]
    rfl
  have yin : ∀ p ∈ T, y p ∈ xs := fun p hp => M.ins p _ (hy p hp)
  have ndX : (z :: T.map y).Nodup := by
    rw [List.nodup_cons]
    refine ⟨fun hm => ?_, nodup_map y T nd fun p hp q hq e => ?_⟩
    · obtain ⟨p, hp, e⟩ := List.mem_map.mp hm
      exact hz (e ▸ yin p hp)
    · have a := hy p hp
      rw [e] at a
      exact M.inj p q _ a (hy q hq)
  have inL : ∀ x ∈ z :: T.map y, x ∈ L := fun x hx => by
    rcases List.mem_cons.mp hx with e | e
    · rw [e]; exact zL
    · obtain ⟨p, hp, e2⟩ := List.mem_map.mp e
      rw [← e2]
      exact hL _ (yin p hp)
  have ndG : ((z :: T.map y).map g).Nodup := nodup_map g _ ndX fun a ha b hb => gi a (inL a ha) b (inL b hb)
  have := nodup_le _ T ndG fun q hq => by
    obtain ⟨x, hx, rfl⟩ := List.mem_map.mp hq
    have gx := gw x (inL x hx)
    rcases List.mem_cons.mp hx with e | e
    · rw [e] at gx ⊢
      exact n.all _ gx
    · obtain ⟨p, hp, e2⟩ := List.mem_map.mp e
      obtain ⟨u, hu, cu⟩ := hol p hp
      have : y p = u := Option.some.inj ((hy p hp).symm.trans hu)
      rw [← e2, this] at gx ⊢
      exact cu _ gx
  rw [List.length_map, List.length_cons, List.length_map] at this
  omega
/-! ### the law's ways -/
def Reps : List (List Nat) → List Nat → Prop
  | [], [] => True
  | w :: ws, p :: r => p ∈ w ∧ Reps ws r
  | _, _ => False
def Rep (ws : List (List Nat)) : Prop := ∃ r, Reps ws r ∧ r.Nodup
theorem Reps.put {w : List Nat} {p : Nat} (hp : p ∈ w) : ∀ {ws : List (List Nat)} {r : List Nat}, Reps ws r → Reps (ws ++ [w]) (r ++ [p])
  | [], [], _ => ⟨hp, True.intro⟩
  | _ :: _, _ :: _, h => ⟨h.1, h.2.put hp⟩
  | [], _ :: _, h => False.elim h
  | _ :: _, [], h => False.elim h
theorem Reps.last {w : List Nat} : ∀ {ws : List (List Nat)} {r : List Nat}, Reps (ws ++ [w]) r → ∃ r' p, r = r' ++ [p] ∧ Reps ws r' ∧ p ∈ w
  | [], [p], h => ⟨[], p, rfl, True.intro, h.1⟩
  | [], _ :: _ :: _, h => False.elim h.2
  | [], [], h => False.elim h
  | _ :: ws, [], h => False.elim h
  | _ :: ws, q :: r, h => by
    obtain ⟨r', p, e, h1, h2⟩ := Reps.last (ws := ws) (r := r) h.2
    exact ⟨q :: r', p, by rw [e]; rfl, ⟨h.1, h1⟩, h2⟩
theorem Reps.len : ∀ {ws : List (List Nat)} {r : List Nat}, Reps ws r → r.length = ws.length
  | [], [], _ => rfl
  | _ :: _, _ :: _, h => congrArg (· + 1) h.2.len
  | [], _ :: _, h => False.elim h
  | _ :: _, [], h => False.elim h
theorem Reps.mem : ∀ {ws : List (List Nat)} {r : List Nat} {U : List Nat}, Reps ws r → (∀ w ∈ ws, ∀ p ∈ w, p ∈ U) → ∀ p ∈ r, p ∈ U
  | [], [], _, _, _, p, h => by cases h
  | w :: ws, q :: r, U, h, k, p, hp => by
    rcases List.mem_cons.mp hp with e | e
    · rw [e]
      exact k w (List.mem_cons_self ..) q h.1
    · exact Reps.mem h.2 (fun w' hw' => k w' (List.mem_cons_of_mem _ hw')) p e
  | [], _ :: _, _, h, _, _, _ => False.elim h
  | _ :: _, [], _, h, _, _, _ => False.elim h
theorem reps_map {W : Nat → List Nat} {g : Nat → Nat} : ∀ {xs : List Nat}, (∀ x ∈ xs, g x ∈ W x) → Reps (xs.map W) (xs.map g)
  | [], _ => True.intro
  | x :: xs, h => ⟨h x (List.mem_cons_self ..), reps_map fun y hy => h y (List.mem_cons_of_mem _ hy)⟩
theorem map_of_reps {W : Nat → List Nat} : ∀ {xs : List Nat} {r : List Nat}, xs.Nodup → Reps (xs.map W) r → ∃ g : Nat → Nat, r = xs.map g ∧ ∀ x ∈ xs, g x ∈ W x
  | [], [], _, _ => ⟨id, rfl, fun _ h => by cases h⟩
  | [], _ :: _, _, h => False.elim h
  | _ :: _, [], _, h => False.elim h
  | x :: xs, p :: r, nd, h => by
    have nd' := List.nodup_cons.mp nd
    obtain ⟨g, e, k⟩ := map_of_reps nd'.2 h.2
    have off : ∀ y ∈ xs, (if y = x then p else g y) = g y := fun y hy => if_neg fun (c : y = x) => nd'.1 (by rw [← c]; exact hy)
    refine ⟨fun y => if y = x then p else g y, ?_, fun y hy => ?_⟩
    · rw [List.map_cons, if_pos rfl, e]
      congr 1
      exact List.map_congr_left fun y hy => (off y hy).symm
    · show (if y = x then p else g y) ∈ W y
      rcases List.mem_cons.mp hy with c | c
      · rw [if_pos c, c]
        exact h.1
      · rw [off y c]
        exact k y c
theorem inj_of_nodup {g : Nat → Nat} : ∀ {xs : List Nat}, (xs.map g).Nodup → ∀ x ∈ xs, ∀ y ∈ xs, g x = g y → x = y
  | [], _, x, h => by cases h
  | a :: xs, nd, x, hx => fun y hy e => by
    rw [List.map_cons, List.nodup_cons] at nd
    rcases List.mem_cons.mp hx with c | c <;> rcases List.mem_cons.mp hy with d | d
    · rw [c, d]
    · rw [c] at e
      exact absurd (List.mem_map.mpr ⟨y, d, e.symm⟩) nd.1
    · rw [d] at e
      exact absurd (List.mem_map.mpr ⟨x, c, e⟩) nd.1
    · exact inj_of_nodup nd.2 x c y d e
theorem rep_iff {W : Nat → List Nat} {xs : List Nat} (nd : xs.Nodup) : Rep (xs.map W) ↔ Free W xs := by
  constructor
  · rintro ⟨r, h, n⟩
    obtain ⟨g, rfl, k⟩ := map_of_reps nd h
    exact ⟨g, k, inj_of_nodup n⟩
  · rintro ⟨g, k, i⟩
    exact ⟨xs.map g, reps_map k, nodup_map g xs nd i⟩
theorem free_perm {W : Nat → List Nat} {xs ys : List Nat} (h : ∀ x, x ∈ xs ↔ x ∈ ys) : Free W xs ↔ Free W ys := by
  constructor
  · rintro ⟨g, a, b⟩
    exact ⟨g, fun x hx => a x ((h x).mpr hx), fun x hx y hy => b x ((h x).mpr hx) y ((h y).mpr hy)⟩
  · rintro ⟨g, a, b⟩
    exact ⟨g, fun x hx => a x ((h x).mp hx), fun x hx y hy => b x ((h x).mp hx) y ((h y).mp hy)⟩
/-- the ways behind the wants ws -/
structure Ways (ws : List (List Nat)) (ways : List (List Nat)) : Prop where
  srt : ∀ t ∈ ways, t.Pairwise (· ≤ ·)
  snd : ∀ t ∈ ways, ∃ r, Reps ws r ∧ r.Nodup ∧ t.Perm r
  cmp : ∀ r, Reps ws r → r.Nodup → ∃ t ∈ ways, t.Perm r
  nd : ways.Nodup
theorem Ways.start : Ways [] [[]] := by
  refine ⟨fun t ht => ?_, fun t ht => ?_, fun r hr _ => ?_, by simp⟩
  · rw [List.mem_singleton.mp ht]
    exact List.Pairwise.nil
  · rw [List.mem_singleton.mp ht]
    exact ⟨[], True.intro, List.nodup_nil, List.Perm.refl _⟩
  · cases r with
    | nil => exact ⟨[], List.mem_singleton.mpr rfl, List.Perm.refl _⟩
    | cons _ _ => exact False.elim hr
theorem Ways.rep {ws ways : List (List Nat)} (w : Ways ws ways) : ways ≠ [] ↔ Rep ws := by
  constructor
  · intro h
    obtain ⟨t, r, e⟩ : ∃ t r, ways = t :: r := by
      cases ways with
      | nil => exact absurd rfl h
      | cons t r => exact ⟨t, r, rfl⟩
    obtain ⟨r', h1, h2, _⟩ := w.snd t (by rw [e]; exact List.mem_cons_self ..)
    exact ⟨r', h1, h2⟩
  · rintro ⟨r, h1, h2⟩ e
    obtain ⟨t, ht, _⟩ := w.cmp r h1 h2
    rw [e] at ht
    cases ht
/-- behind some of the pairs of a way and a post -/
structure More (L : List (List Nat × Nat)) (more : List (List Nat)) : Prop where
  srt : ∀ t ∈ more, t.Pairwise (· ≤ ·)
  snd : ∀ t ∈ more, ∃ x ∈ L, x.2 ∉ x.1 ∧ t.Perm (x.1 ++ [x.2])
  cmp : ∀ x ∈ L, x.2 ∉ x.1 → ∃ t ∈ more, t.Perm (x.1 ++ [x.2])
  nd : more.Nodup
theorem More.start : More [] [] := ⟨fun _ h => (by cases h), fun _ h => (by cases h), fun _ h => (by cases h), List.nodup_nil⟩
theorem More.skip {L : List (List Nat × Nat)} {more : List (List Nat)} {w : List Nat} {p : Nat} (m : More L more) (h : p ∈ w ∨ ∃ t ∈ more, t.Perm (w ++ [p])) : More (L ++ [(w, p)]) more := by
  refine ⟨m.srt, fun t ht => ?_, fun x hx nx => ?_, m.nd⟩
  · obtain ⟨x, hx, k⟩ := m.snd t ht
    exact ⟨x, List.mem_append_left _ hx, k⟩
  · rcases List.mem_append.mp hx with e | e
    · exact m.cmp x e nx
    · rw [List.mem_singleton.mp e] at nx ⊢
      rcases h with c | c
      · exact absurd c nx
      · exact c
theorem More.add {L : List (List Nat × Nat)} {more : List (List Nat)} {w one : List Nat} {p : Nat} (m : More L more) (hp : p ∉ w) (ho : one.Perm (w ++ [p])) (hs : one.Pairwise (· ≤ ·)) (hn : one ∉ more) : More (L ++ [(w, p)]) (more ++ [one]) := by
  refine ⟨fun t ht => ?_, fun t ht => ?_, fun x hx nx => ?_, ?_⟩
  · rcases List.mem_append.mp ht with e | e
    · exact m.srt t e
    · rw [List.mem_singleton.mp e]; exact hs
  · rcases List.mem_append.mp ht with e | e
    · obtain ⟨x, hx, k⟩ := m.snd t e
      exact ⟨x, List.mem_append_left _ hx, k⟩
    · rw [List.mem_singleton.mp e]
      exact ⟨(w, p), List.mem_append_right _ (List.mem_singleton.mpr rfl), hp, ho⟩
  · rcases List.mem_append.mp hx with e | e
    · obtain ⟨t, ht, k⟩ := m.cmp x e nx
      exact ⟨t, List.mem_append_left _ ht, k⟩
    · rw [List.mem_singleton.mp e]
      exact ⟨one, List.mem_append_right _ (List.mem_singleton.mpr rfl), ho⟩
  · rw [List.nodup_append]
    refine ⟨m.nd, by simp, fun a ha b hb e => ?_⟩
    rw [List.mem_singleton.mp hb] at e
    exact hn (e ▸ ha)
theorem Ways.next {ws ways more : List (List Nat)} {w : List Nat} {L : List (List Nat × Nat)} (W : Ways ws ways) (m : More L more) (hL : ∀ t p, (t, p) ∈ L ↔ t ∈ ways ∧ p ∈ w) : Ways (ws ++ [w]) more := by
  refine ⟨m.srt, fun t ht => ?_, fun r hr nr => ?_, m.nd⟩
  · obtain ⟨⟨u, p⟩, hx, nx, pm⟩ := m.snd t ht
    obtain ⟨hu, hp⟩ := (hL u p).mp hx
    obtain ⟨r, h1, h2, h3⟩ := W.snd u hu
    refine ⟨r ++ [p], h1.put hp, ?_, pm.trans (h3.append_right [p])⟩
    rw [List.nodup_append]
    refine ⟨h2, by simp, fun a ha b hb e => ?_⟩
    rw [List.mem_singleton.mp hb] at e
    exact nx (h3.mem_iff.mpr (e ▸ ha))
  · obtain ⟨r', p, e, h1, h2⟩ := hr.last
    subst e
    rw [List.nodup_append] at nr
    obtain ⟨u, hu, pu⟩ := W.cmp r' h1 nr.1
    have np : p ∉ u := fun k => nr.2.2 p (pu.mem_iff.mp k) p (List.mem_singleton.mpr rfl) rfl
    obtain ⟨t, ht, pt⟩ := m.cmp (u, p) ((hL u p).mpr ⟨hu, h2⟩) np
    exact ⟨t, ht, pt.trans (pu.append_right [p])⟩
/-- two rising lists of the same things are one -/
theorem same_sorted : ∀ {a b : List Nat}, a.Perm b → a.Pairwise (· ≤ ·) → b.Pairwise (· ≤ ·) → a = b := by
  intro a b p ha hb
  exact List.Perm.eq_of_pairwise (fun x y _ _ h1 h2 => Nat.le_antisymm h1 h2) ha hb p
/-! ### how many ways -/
theorem bools : ∀ (n : Nat) (l : List (List Bool)), l.Nodup → (∀ b ∈ l, b.length = n) → l.length ≤ 2 ^ n
  | 0, l, nd, h => by
    match l, nd, h with
    | [], _, _ => exact Nat.zero_le _
    | [_], _, _ => exact Nat.le_refl _
    | a :: b :: r, nd, h =>
      have e1 := List.eq_nil_of_length_eq_zero (h a (List.mem_cons_self ..))
      have e2 := List.eq_nil_of_length_eq_zero (h b (List.mem_cons_of_mem _ (List.mem_cons_self ..)))
      rw [e1, e2] at nd
      exact absurd (List.mem_cons_self ..) (List.nodup_cons.mp nd).1
  | n + 1, l, nd, h => by
    have half : ∀ c : Bool, (l.filter fun b => b.head? == some c).length ≤ 2 ^ n := fun c => by
      have hh : ∀ b ∈ l.filter (fun b => b.head? == some c), b = c :: b.tail := fun b hb => by
        have k := (List.mem_filter.mp hb).2
        cases b with
        | nil => simp at k
        | cons d r =>
          have : d = c := by simpa using k
          rw [this]
          rfl
      have q := bools n ((l.filter fun b => b.head? == some c).map List.tail) (nodup_map _ _ (List.filter_sublist.nodup nd) fun a ha b hb e => by rw [hh a ha, hh b hb, e]) (fun b hb => by
        obtain ⟨a, ha, rfl⟩ := List.mem_map.mp hb
        rw [List.length_tail, h a (List.mem_filter.mp ha).1]
        rfl)
      rw [List.length_map] at q
      exact q
    have cut : ∀ (l : List (List Bool)), (∀ b ∈ l, b.length = n + 1) → l.length = (l.filter fun b => b.head? == some true).length + (l.filter fun b => b.head? == some false).length := by
      intro l
      induction l with
      | nil => exact fun _ => rfl
      | cons a r ih =>
        intro h
        have ih' := ih fun b hb => h b (List.mem_cons_of_mem _ hb)
        have ha := h a (List.mem_cons_self ..)
        cases a with
        | nil => simp at ha
        | cons d s =>
          cases d with
          | true => simp; omega
          | false => simp; omega
    have a := half true
    have b := half false
    rw [cut l h, Nat.pow_succ]
    omega
theorem few {U : List Nat} {l : List (List Nat)} (nd : l.Nodup) (h : ∀ t ∈ l, t.Pairwise (· ≤ ·) ∧ t.Nodup ∧ ∀ p ∈ t, p ∈ U) : l.length ≤ 2 ^ U.length := by
  have q := bools U.length (l.map fun t => U.map fun u => decide (u ∈ t)) (nodup_map _ _ nd fun a ha b hb e => ?_) (fun b hb => ?_)
  · rw [List.length_map] at q
    exact q
  · have ka := h a ha
    have kb := h b hb
    have mem : ∀ u ∈ U, (u ∈ a ↔ u ∈ b) := fun u hu => by
      have := List.map_inj_left.mp e u hu
      rw [Bool.eq_iff_iff, decide_eq_true_eq, decide_eq_true_eq] at this
      exact this
    have p : a.Perm b := (List.perm_ext_iff_of_nodup ka.2.1 kb.2.1).mpr fun u => ⟨fun k => (mem u (ka.2.2 u k)).mp k, fun k => (mem u (kb.2.2 u k)).mpr k⟩
    exact same_sorted p ka.1 kb.1
  · obtain ⟨t, _, rfl⟩ := List.mem_map.mp hb
    rw [List.length_map]
end PM
namespace MT
/-- what point 6 says, over lists of different things -/
structure Mat (F : List Nat → Prop) : Prop where
  nil : F []
  sub : ∀ {xs ys : List Nat}, xs.Nodup → ys.Nodup → (∀ x ∈ xs, x ∈ ys) → F ys → F xs
  exch : ∀ {xs ys : List Nat}, xs.Nodup → ys.Nodup → F xs → F ys → xs.length < ys.length → ∃ y ∈ ys, y ∉ xs ∧ F (y :: xs)
/-! ### counts -/
theorem le_of_sub : ∀ (l T : List Nat), l.Nodup → (∀ x ∈ l, x ∈ T) → l.length ≤ T.length
  | [], _, _, _ => Nat.zero_le _
  | x :: l, T, nd, s => by
    have nd' := List.nodup_cons.mp nd
    have hx := s x (List.mem_cons_self ..)
    have ih := le_of_sub l (T.erase x) nd'.2 fun y hy => by
      have ne : y ≠ x := fun e => nd'.1 (e ▸ hy)
      exact (List.mem_erase_of_ne ne).mpr (s y (List.mem_cons_of_mem _ hy))
    rw [List.length_erase_of_mem hx] at ih
    have : 0 < T.length := List.length_pos_of_mem hx
    show l.length + 1 ≤ T.length
    omega
/-- those in ys, those not -/
def inn (xs ys : List Nat) : List Nat := xs.filter fun x => decide (x ∈ ys)
def out (xs ys : List Nat) : List Nat := xs.filter fun x => !decide (x ∈ ys)
theorem mem_inn {xs ys : List Nat} {x : Nat} : x ∈ inn xs ys ↔ x ∈ xs ∧ x ∈ ys := by simp [inn]
theorem mem_out {xs ys : List Nat} {x : Nat} : x ∈ out xs ys ↔ x ∈ xs ∧ x ∉ ys := by simp [out]
theorem nd_inn {xs ys : List Nat} (h : xs.Nodup) : (inn xs ys).Nodup := List.filter_sublist.nodup h
theorem nd_out {xs ys : List Nat} (h : xs.Nodup) : (out xs ys).Nodup := List.filter_sublist.nodup h
theorem len_io : ∀ (xs ys : List Nat), xs.length = (inn xs ys).length + (out xs ys).length
  | [], _ => rfl
  | x :: xs, ys => by
    have ih := len_io xs ys
    unfold inn out at ih ⊢
    by_cases c : x ∈ ys
    · simp [c]; omega
    · simp [c]; omega
theorem inn_comm {xs ys : List Nat} (hx : xs.Nodup) (hy : ys.Nodup) : (inn xs ys).length = (inn ys xs).length := by
  refine ((List.perm_ext_iff_of_nodup (nd_inn hx) (nd_inn hy)).mpr fun a => ?_).length_eq
  rw [mem_inn, mem_inn]
  exact And.comm
theorem out_lt {xs ys : List Nat} (hx : xs.Nodup) (hy : ys.Nodup) (h : xs.length < ys.length) : (out xs ys).length < (out ys xs).length := by
  have a := len_io xs ys
  have b := len_io ys xs
  have c := inn_comm hx hy
  omega
theorem nd_cons {x : Nat} {xs : List Nat} (h : xs.Nodup) (n : x ∉ xs) : (x :: xs).Nodup := List.nodup_cons.mpr ⟨n, h⟩
theorem nd_app {xs ys : List Nat} (h1 : xs.Nodup) (h2 : ys.Nodup) (d : ∀ x ∈ xs, x ∉ ys) : (xs ++ ys).Nodup := by
  rw [List.nodup_append]
  exact ⟨h1, h2, fun a ha b hb e => d a ha (e ▸ hb)⟩
theorem nd_map {α β : Type} (g : α → β) : ∀ (l : List α), l.Nodup → (∀ x ∈ l, ∀ y ∈ l, g x = g y → x = y) → (l.map g).Nodup
  | [], _, _ => List.nodup_nil
  | x :: l, nd, inj => by
    have nd' := List.nodup_cons.mp nd
    rw [List.map_cons, List.nodup_cons]
    refine ⟨fun hm => ?_, nd_map g l nd'.2 fun a ha b hb => inj a (List.mem_cons_of_mem _ ha) b (List.mem_cons_of_mem _ hb)⟩
    obtain ⟨y, hy, e⟩ := List.mem_map.mp hm
    have := inj y (List.mem_cons_of_mem _ hy) x (List.mem_cons_self ..) e
    exact nd'.1 (this ▸ hy)
theorem Mat.perm {F : List Nat → Prop} (M : Mat F) {xs ys : List Nat} (h : xs.Nodup) (p : xs.Perm ys) : F xs ↔ F ys :=
  ⟨M.sub (p.nodup_iff.mp h) h fun _ k => p.mem_iff.mpr k, M.sub h (p.nodup_iff.mp h) fun _ k => p.mem_iff.mp k⟩
/-! ### what is grown, and ranks -/
def grow (f : List Nat → Bool) : List Nat → List Nat → List Nat
  | t, [] => t
  | t, x :: xs => if f (t ++ [x]) = true then grow f (t ++ [x]) xs else grow f t xs
theorem nd_snoc {x : Nat} {t : List Nat} (h : t.Nodup) (n : x ∉ t) : (t ++ [x]).Nodup := nd_app h (by simp) fun a ha hb => n (List.mem_singleton.mp hb ▸ ha)
structure Grown (f : List Nat → Bool) (t xs g : List Nat) : Prop where
  nd : g.Nodup
  low : ∀ x ∈ t, x ∈ g
  up : ∀ x ∈ g, x ∈ t ∨ x ∈ xs
  free : f g = true
  top : ∀ x ∈ xs, x ∉ g → f (g ++ [x]) = false
theorem grow_is {f : List Nat → Bool} (M : Mat fun xs => f xs = true) : ∀ (xs t : List Nat), (t ++ xs).Nodup → f t = true → Grown f t xs (grow f t xs)
  | [], t, nd, h => by
    rw [List.append_nil] at nd
    exact ⟨nd, fun _ k => k, fun _ k => .inl k, h, fun _ k => by cases k⟩
  | x :: xs, t, nd, h => by
    have nd0 := nd
    rw [List.nodup_append] at nd
    have ndx := List.nodup_cons.mp nd.2.1
    have nx : x ∉ t := fun k => nd.2.2 x k x (List.mem_cons_self ..) rfl
    show Grown f t (x :: xs) (if f (t ++ [x]) = true then grow f (t ++ [x]) xs else grow f t xs)
    by_cases c : f (t ++ [x]) = true
    · rw [if_pos c]
      have G := grow_is M xs (t ++ [x]) (by rw [List.append_assoc]; exact nd0) c
      refine ⟨G.nd, fun y hy => G.low y (List.mem_append_left _ hy), fun y hy => ?_, G.free, fun y hy ny => ?_⟩
      · rcases G.up y hy with e | e
        · rcases List.mem_append.mp e with k | k
          · exact .inl k
          · exact .inr (by rw [List.mem_singleton.mp k]; exact List.mem_cons_self ..)
        · exact .inr (List.mem_cons_of_mem _ e)
      · rcases List.mem_cons.mp hy with e | e
        · exact absurd (G.low y (by rw [e]; exact List.mem_append_right _ (List.mem_singleton.mpr rfl))) ny
        · exact G.top y e ny
    · rw [if_neg c]
      have G := grow_is M xs t (nd_app nd.1 ndx.2 fun a ha hb => nd.2.2 a ha a (List.mem_cons_of_mem _ hb) rfl) h
      refine ⟨G.nd, G.low, fun y hy => ?_, G.free, fun y hy ny => ?_⟩
      · rcases G.up y hy with e | e
        · exact .inl e
        · exact .inr (List.mem_cons_of_mem _ e)
      · rcases List.mem_cons.mp hy with e | e
        · subst e
          cases k : f (grow f t xs ++ [y]) with
          | false => rfl
          | true =>
            refine absurd (M.sub (ys := grow f t xs ++ [y]) (nd_snoc nd.1 nx) (nd_snoc G.nd ny) (fun z hz => ?_) k) c
            rcases List.mem_append.mp hz with q | q
            · exact List.mem_append_left _ (G.low z q)
            · exact List.mem_append_right _ q
        · exact G.top y e ny
/-- none within xs is greater -/
theorem Grown.most {f : List Nat → Bool} (M : Mat fun xs => f xs = true) {xs g ys : List Nat} (G : Grown f [] xs g) (hy : ys.Nodup) (sy : ∀ y ∈ ys, y ∈ xs) (fy : f ys = true) : ys.length ≤ g.length := by
  refine Nat.le_of_not_lt fun lt => ?_
  obtain ⟨y, y1, y2, y3⟩ := M.exch G.nd hy G.free fy lt
  have := G.top y (sy y y1) y2
  have p : f (g ++ [y]) = true := M.sub (ys := y :: g) (nd_snoc G.nd y2) (nd_cons G.nd y2) (fun z hz => by
    rcases List.mem_append.mp hz with q | q
    · exact List.mem_cons_of_mem _ q
    · rw [List.mem_singleton.mp q]; exact List.mem_cons_self ..) y3
  rw [p] at this
  cases this
/-- r is the count of a greatest free set in xs -/
structure Rank (F : List Nat → Prop) (xs : List Nat) (r : Nat) : Prop where
  has : ∃ ys : List Nat, ys.Nodup ∧ (∀ y ∈ ys, y ∈ xs) ∧ F ys ∧ ys.length = r
  most : ∀ ys : List Nat, ys.Nodup → (∀ y ∈ ys, y ∈ xs) → F ys → ys.length ≤ r
theorem Rank.one {F : List Nat → Prop} {xs : List Nat} {r s : Nat} (h : Rank F xs r) (k : Rank F xs s) : r = s := by
  obtain ⟨a, a1, a2, a3, a4⟩ := h.has
  obtain ⟨b, b1, b2, b3, b4⟩ := k.has
  have := h.most b b1 b2 b3
  have := k.most a a1 a2 a3
  omega
theorem rank_grow {f : List Nat → Bool} (M : Mat fun xs => f xs = true) {xs : List Nat} (nd : xs.Nodup) : Rank (fun ys => f ys = true) xs (grow f [] xs).length := by
  have G := grow_is M xs [] nd M.nil
  exact ⟨⟨_, G.nd, fun y hy => (G.up y hy).resolve_left (fun k => by cases k), G.free, rfl⟩, fun ys h1 h2 h3 => G.most M h1 h2 h3⟩
/-- a free set within xs grows to one that nothing of xs can be put to -/
theorem Mat.extend {F : List Nat → Prop} (M : Mat F) {t xs : List Nat} (ht : t.Nodup) (hx : xs.Nodup) (s : ∀ x ∈ t, x ∈ xs) (h : F t) :
    ∃ g : List Nat, g.Nodup ∧ (∀ x ∈ t, x ∈ g) ∧ (∀ x ∈ g, x ∈ xs) ∧ F g ∧ (∀ ys : List Nat, ys.Nodup → (∀ y ∈ ys, y ∈ xs) → F ys → ys.length ≤ g.length) := by
  classical
  have M' : Mat fun xs => decide (F xs) = true := ⟨decide_eq_true M.nil, fun a b c d => decide_eq_true (M.sub a b c (of_decide_eq_true d)), fun a b c d e => by
    obtain ⟨y, y1, y2, y3⟩ := M.exch a b (of_decide_eq_true c) (of_decide_eq_true d) e
    exact ⟨y, y1, y2, decide_eq_true y3⟩⟩
  have G := grow_is M' (out xs t) t (nd_app ht (nd_out hx) fun a ha hb => (mem_out.mp hb).2 ha) (decide_eq_true h)
  refine ⟨_, G.nd, G.low, fun x hx' => ?_, of_decide_eq_true G.free, fun ys h1 h2 h3 => ?_⟩
  · rcases G.up x hx' with e | e
    · exact s x e
    · exact (mem_out.mp e).1
  · refine Nat.le_of_not_lt fun lt => ?_
    obtain ⟨y, y1, y2, y3⟩ := M.exch G.nd h1 (of_decide_eq_true G.free) h3 lt
    have ny : y ∉ t := fun k => y2 (G.low y k)
    have := of_decide_eq_false (G.top y (mem_out.mpr ⟨h2 y y1, ny⟩) y2)
    exact this (M.sub (ys := y :: _) (nd_snoc G.nd y2) (nd_cons G.nd y2) (fun z hz => by
      rcases List.mem_append.mp hz with q | q
      · exact List.mem_cons_of_mem _ q
      · rw [List.mem_singleton.mp q]; exact List.mem_cons_self ..) y3)
theorem Mat.rank {F : List Nat → Prop} (M : Mat F) {xs : List Nat} (hx : xs.Nodup) : ∃ r, Rank F xs r := by
  obtain ⟨g, g1, _, g3, g4, g5⟩ := M.extend List.nodup_nil hx (fun _ h => by cases h) M.nil
  exact ⟨g.length, ⟨g, g1, g3, g4, rfl⟩, g5⟩
theorem Rank.sub {F : List Nat → Prop} {xs ys : List Nat} {r s : Nat} (h : Rank F xs r) (k : Rank F ys s) (hs : ∀ x ∈ xs, x ∈ ys) : r ≤ s := by
  obtain ⟨a, a1, a2, a3, a4⟩ := h.has
  have := k.most a a1 (fun x hx => hs x (a2 x hx)) a3
  omega
theorem Rank.le {F : List Nat → Prop} {xs : List Nat} {r : Nat} (h : Rank F xs r) : r ≤ xs.length := by
  obtain ⟨a, a1, a2, a3, a4⟩ := h.has
  have := le_of_sub a xs a1 a2
  omega
theorem Mat.free_iff {F : List Nat → Prop} (M : Mat F) {xs : List Nat} {r : Nat} (hx : xs.Nodup) (h : Rank F xs r) : F xs ↔ r = xs.length := by
  constructor
  · intro k
    have := h.most xs hx (fun _ h => h) k
    have := h.le
    omega
  · intro e
    obtain ⟨a, a1, a2, a3, a4⟩ := h.has
    refine M.sub hx a1 (fun x hx' => ?_) a3
    refine Classical.byContradiction fun n => ?_
    have := le_of_sub a (xs.erase x) a1 fun y hy => by
      have ne : y ≠ x := fun z => n (z ▸ hy)
      exact (List.mem_erase_of_ne ne).mpr (a2 y hy)
    rw [List.length_erase_of_mem hx'] at this
    have : 0 < xs.length := List.length_pos_of_mem hx'
    omega
/-! ### a ring -/
structure Ring (F : List Nat → Prop) (c : List Nat) : Prop where
  nd : c.Nodup
  dep : ¬ F c
  each : ∀ x ∈ c, F (c.erase x)
/-- a free set and another thing have at most one ring -/
theorem Ring.one {F : List Nat → Prop} (M : Mat F) {s c d : List Nat} {z : Nat} (hs : s.Nodup) (nz : z ∉ s) (fs : F s) (hc : Ring F c) (hd : Ring F d) (sc : ∀ x ∈ c, x = z ∨ x ∈ s) (sd : ∀ x ∈ d, x = z ∨ x ∈ s) : ∀ x ∈ c, x ∈ d := by
  intro x hx
  refine Classical.byContradiction fun nx => ?_
  -- c less x is free; with all of s and z but x it grows to as many as s: then s, z less x would be free, and d in it
  have zd : z ∈ d := Classical.byContradiction fun n => hd.dep (M.sub hd.nd hs (fun y hy => (sd y hy).resolve_left fun e => n (e ▸ hy)) fs)
  have zc : z ∈ c := Classical.byContradiction fun n => hc.dep (M.sub hc.nd hs (fun y hy => (sc y hy).resolve_left fun e => n (e ▸ hy)) fs)
  have xz : x ≠ z := fun e => nx (e ▸ zd)
  have xs : x ∈ s := (sc x hx).resolve_left xz
  have nd1 : (z :: s).Nodup := nd_cons hs nz
  obtain ⟨g, g1, g2, g3, g4, g5⟩ := M.extend (t := c.erase x) (xs := z :: s) (hc.nd.erase x) nd1 (fun y hy => by
    rcases sc y (List.mem_of_mem_erase hy) with e | e
    · rw [e]; exact List.mem_cons_self ..
    · exact List.mem_cons_of_mem _ e) (hc.each x hx)
  have len : s.length ≤ g.length := g5 s hs (fun y hy => List.mem_cons_of_mem _ hy) fs
  have xg : x ∉ g := fun k => hc.dep (M.sub hc.nd g1 (fun y hy => by
    by_cases e : y = x
    · rw [e]; exact k
    · exact g2 y ((List.mem_erase_of_ne e).mpr hy)) g4)
  -- g lies in z :: s without x, which has as many things as s
  have sub2 : ∀ y ∈ g, y ∈ (z :: s).erase x := fun y hy => (List.mem_erase_of_ne (show y ≠ x from fun e => xg (e ▸ hy))).mpr (g3 y hy)
  have l2 : ((z :: s).erase x).length = s.length := by
    rw [List.length_erase_of_mem (List.mem_cons_of_mem _ xs)]
    rfl
  have all : ∀ y ∈ (z :: s).erase x, y ∈ g := fun y hy => by
    refine Classical.byContradiction fun ny => ?_
    have := le_of_sub g (((z :: s).erase x).erase y) g1 fun u hu => (List.mem_erase_of_ne (show u ≠ y from fun e => ny (e ▸ hu))).mpr (sub2 u hu)
    rw [List.length_erase_of_mem hy] at this
    have : 0 < ((z :: s).erase x).length := List.length_pos_of_mem hy
    omega
  refine hd.dep (M.sub hd.nd g1 (fun y hy => ?_) g4)
  have ny : y ≠ x := fun e => nx (e ▸ hy)
  refine all y ((List.mem_erase_of_ne ny).mpr ?_)
  rcases sd y hy with e | e
  · rw [e]; exact List.mem_cons_self ..
  · exact List.mem_cons_of_mem _ e
/-! ### cut -/
theorem Mat.cut {F : List Nat → Prop} (M : Mat F) (b : Nat) : Mat fun xs => F xs ∧ xs.length ≤ b :=
  ⟨⟨M.nil, Nat.zero_le _⟩, fun a c s h => ⟨M.sub a c s h.1, Nat.le_trans (le_of_sub _ _ a s) h.2⟩, fun a c h k l => by
    obtain ⟨y, y1, y2, y3⟩ := M.exch a c h.1 k.1 l
    exact ⟨y, y1, y2, y3, Nat.le_trans l k.2⟩⟩
/-! ### kept: things counted anew -/
theorem Mat.kept {F : List Nat → Prop} (M : Mat F) (m : Nat) (s : Nat → Nat) (inj : ∀ a b, a < m → b < m → s a = s b → a = b) : Mat fun xs => (∀ x ∈ xs, x < m) ∧ F (xs.map s) := by
  have nd : ∀ {xs : List Nat}, xs.Nodup → (∀ x ∈ xs, x < m) → (xs.map s).Nodup := fun h k => nd_map s _ h fun a ha b hb => inj a b (k a ha) (k b hb)
  refine ⟨⟨fun _ h => (by cases h), M.nil⟩, fun a c u h => ⟨fun x hx => h.1 x (u x hx), M.sub (nd a fun x hx => h.1 x (u x hx)) (nd c h.1) (fun y hy => ?_) h.2⟩, fun a c h k l => ?_⟩
  · obtain ⟨x, hx, rfl⟩ := List.mem_map.mp hy
    exact List.mem_map.mpr ⟨x, u x hx, rfl⟩
  · obtain ⟨y, y1, y2, y3⟩ := M.exch (nd a h.1) (nd c k.1) h.2 k.2 (by rw [List.length_map, List.length_map]; exact l)
    obtain ⟨z, hz, rfl⟩ := List.mem_map.mp y1
    refine ⟨z, hz, fun n => y2 (List.mem_map.mpr ⟨z, n, rfl⟩), fun x hx => ?_, y3⟩
    rcases List.mem_cons.mp hx with e | e
    · rw [e]; exact k.1 z hz
    · exact h.1 x e
/-! ### held -/
theorem Mat.heldB {F : List Nat → Prop} (M : Mat F) {B : List Nat} (hB : B.Nodup) (fB : F B) : Mat fun xs => (∀ x ∈ xs, x ∉ B) ∧ F (B ++ xs) := by
  have nd : ∀ {xs : List Nat}, xs.Nodup → (∀ x ∈ xs, x ∉ B) → (B ++ xs).Nodup := fun h k => nd_app hB h fun a ha hb => k a hb ha
  refine ⟨⟨fun _ h => (by cases h), by rw [List.append_nil]; exact fB⟩, fun a c u h => ⟨fun x hx => h.1 x (u x hx), M.sub (nd a fun x hx => h.1 x (u x hx)) (nd c h.1) (fun y hy => ?_) h.2⟩, fun {xs ys} a c h k l => ?_⟩
  · rcases List.mem_append.mp hy with e | e
    · exact List.mem_append_left _ e
    · exact List.mem_append_right _ (u y e)
  · obtain ⟨y, y1, y2, y3⟩ := M.exch (nd a h.1) (nd c k.1) h.2 k.2 (by rw [List.length_append, List.length_append]; omega)
    have yB : y ∉ B := fun q => y2 (List.mem_append_left _ q)
    have ya : y ∉ xs := fun q => y2 (List.mem_append_right _ q)
    have yb : y ∈ ys := (List.mem_append.mp y1).resolve_left yB
    have kk : ∀ x ∈ y :: xs, x ∉ B := fun x hx => by
      rcases List.mem_cons.mp hx with e | e
      · rw [e]; exact yB
      · exact h.1 x e
    refine ⟨y, yb, ya, kk, M.sub (nd (nd_cons a ya) kk) (nd_cons (nd a h.1) y2) (fun z hz => ?_) y3⟩
    rcases List.mem_append.mp hz with e | e
    · exact List.mem_cons_of_mem _ (List.mem_append_left _ e)
    · rcases List.mem_cons.mp e with q | q
      · rw [q]; exact List.mem_cons_self ..
      · exact List.mem_cons_of_mem _ (List.mem_append_right _ q)
/-- put to S, xs makes the rank greater by as many as it has: the same as free with a greatest free set of S -/
theorem Mat.held_iff {F : List Nat → Prop} (M : Mat F) {S B xs : List Nat} {r t : Nat} (hS : S.Nodup) (hB : B.Nodup) (fB : F B) (sB : ∀ x ∈ B, x ∈ S) (rS : Rank F S r) (lB : B.length = r) (hx : xs.Nodup) (dx : ∀ x ∈ xs, x ∉ S) (rt : Rank F (S ++ xs) t) :
    t = r + xs.length ↔ F (B ++ xs) := by
  have ndBx : (B ++ xs).Nodup := nd_app hB hx fun a ha hb => dx a hb (sB a ha)
  have ndSx : (S ++ xs).Nodup := nd_app hS hx fun a ha hb => dx a hb ha
  have sBx : ∀ x ∈ B ++ xs, x ∈ S ++ xs := fun x h => by
    rcases List.mem_append.mp h with e | e
    · exact List.mem_append_left _ (sB x e)
    · exact List.mem_append_right _ e
  obtain ⟨g, g1, g2, g3, g4, g5⟩ := M.extend (t := B) (xs := S ++ xs) hB ndSx (fun x h => List.mem_append_left _ (sB x h)) fB
  have lt : g.length = t := by
    obtain ⟨a, a1, a2, a3, a4⟩ := rt.has
    have := g5 a a1 a2 a3
    have := rt.most g g1 g3 g4
    omega
  -- g holds nothing of S beside B
  have gS : ∀ x ∈ g, x ∈ S → x ∈ B := fun x hx hS' => by
    refine Classical.byContradiction fun n => ?_
    have f2 : F (B ++ [x]) := M.sub (nd_snoc hB n) g1 (fun z hz => by
      rcases List.mem_append.mp hz with e | e
      · exact g2 z e
      · rw [List.mem_singleton.mp e]; exact hx) g4
    have := rS.most _ (nd_snoc hB n) (fun z hz => by
      rcases List.mem_append.mp hz with e | e
      · exact sB z e
      · rw [List.mem_singleton.mp e]; exact hS') f2
    rw [List.length_append] at this
    simp at this
    omega
  have gB : ∀ x ∈ g, x ∈ B ++ xs := fun x hx => by
    rcases List.mem_append.mp (g3 x hx) with e | e
    · exact List.mem_append_left _ (gS x hx e)
    · exact List.mem_append_right _ e
  constructor
  · intro e
    refine M.sub ndBx g1 (fun x hx' => ?_) g4
    refine Classical.byContradiction fun n => ?_
    have := le_of_sub g ((B ++ xs).erase x) g1 fun u hu => (List.mem_erase_of_ne (show u ≠ x from fun e => n (e ▸ hu))).mpr (gB u hu)
    rw [List.length_erase_of_mem hx', List.length_append] at this
    have : 0 < (B ++ xs).length := List.length_pos_of_mem hx'
    rw [List.length_append] at this
    omega
  · intro h
    have a := rt.most _ ndBx sBx h
    have b := le_of_sub g _ g1 gB
    rw [List.length_append] at a b
    omega
/-! ### turned -/
theorem Mat.turned {F : List Nat → Prop} (M : Mat F) {E : List Nat} (hE : E.Nodup) {r : Nat} (rE : Rank F E r) : Mat fun xs => (∀ x ∈ xs, x ∈ E) ∧ Rank F (out E xs) r := by
  have mono : ∀ {xs ys : List Nat}, (∀ x ∈ xs, x ∈ ys) → Rank F (out E ys) r → Rank F (out E xs) r := fun s h => by
    obtain ⟨a, a1, a2, a3, a4⟩ := h.has
    exact ⟨⟨a, a1, fun y hy => (by
      have := mem_out.mp (a2 y hy)
      exact mem_out.mpr ⟨this.1, fun k => this.2 (s y k)⟩), a3, a4⟩, fun ys h1 h2 h3 => rE.most ys h1 (fun y hy => (mem_out.mp (h2 y hy)).1) h3⟩
  refine ⟨⟨fun _ h => (by cases h), ?_⟩, fun a c s h => ⟨fun x hx => h.1 x (s x hx), mono s h.2⟩, fun {xs ys} hx hy h k l => ?_⟩
  · obtain ⟨a, a1, a2, a3, a4⟩ := rE.has
    exact ⟨⟨a, a1, fun y hy => mem_out.mpr ⟨a2 y hy, fun z => by cases z⟩, a3, a4⟩, fun ys h1 h2 h3 => rE.most ys h1 (fun y hy => (mem_out.mp (h2 y hy)).1) h3⟩
  · refine Classical.byContradiction fun no => ?_
    have no' : ∀ y ∈ ys, y ∉ xs → ∀ b : List Nat, b.Nodup → (∀ x ∈ b, x ∈ out E xs) → F b → b.length = r → y ∈ b := fun y y1 y2 b b1 b2 b3 b4 => by
      refine Classical.byContradiction fun nb => no ⟨y, y1, y2, fun x hx' => ?_, ⟨b, b1, fun x hx' => ?_, b3, b4⟩, fun zs h1 h2 h3 => rE.most zs h1 (fun z hz => (mem_out.mp (h2 z hz)).1) h3⟩
      · rcases List.mem_cons.mp hx' with e | e
        · rw [e]; exact k.1 y y1
        · exact h.1 x e
      · have := mem_out.mp (b2 x hx')
        refine mem_out.mpr ⟨this.1, fun q => ?_⟩
        rcases List.mem_cons.mp q with e | e
        · exact nb (e ▸ hx')
        · exact this.2 e
    obtain ⟨b', c1, c2, c3, c4⟩ := k.2.has
    -- what of b' lies outside xs grows, outside xs, to a greatest one
    obtain ⟨b, d1, d2, d3, d4, d5⟩ := M.extend (t := out b' xs) (xs := out E xs) (nd_out c1) (nd_out hE) (fun x hx' => by
      have := mem_out.mp hx'
      exact mem_out.mpr ⟨(mem_out.mp (c2 x this.1)).1, this.2⟩) (M.sub (nd_out c1) c1 (fun x hx' => (mem_out.mp hx').1) c3)
    have lb : b.length = r := by
      obtain ⟨a, a1, a2, a3, a4⟩ := h.2.has
      have := d5 a a1 a2 a3
      have := h.2.most b d1 d3 d4
      omega
    have big : (out b' xs ++ out ys xs).length ≤ b.length := le_of_sub _ b (nd_app (nd_out c1) (nd_out hy) fun x h1 h2 => by
      have := mem_out.mp (c2 x (mem_out.mp h1).1)
      exact this.2 (mem_out.mp h2).1) fun x hx' => by
      rcases List.mem_append.mp hx' with e | e
      · exact d2 x e
      · exact no' x (mem_out.mp e).1 (mem_out.mp e).2 b d1 d3 d4 lb
    have io := len_io b' xs
    have il : (inn b' xs).length ≤ (out xs ys).length := le_of_sub _ _ (nd_inn c1) fun x hx' => by
      have := mem_inn.mp hx'
      exact mem_out.mpr ⟨this.2, fun q => (mem_out.mp (c2 x this.1)).2 q⟩
    have ol := out_lt hx hy l
    rw [List.length_append] at big
    omega
/-! ### beside -/
theorem Mat.beside {F G : List Nat → Prop} (M : Mat F) (N : Mat G) (a : Nat) : Mat fun xs => F (xs.filter fun x => decide (x < a)) ∧ G ((xs.filter fun x => !decide (x < a)).map (· - a)) := by
  have lo : ∀ {x : Nat} {xs : List Nat}, x ∈ (xs.filter fun x => decide (x < a)) ↔ x ∈ xs ∧ x < a := fun {x xs} => by simp
  have hi : ∀ {x : Nat} {xs : List Nat}, x ∈ (xs.filter fun x => !decide (x < a)) ↔ x ∈ xs ∧ a ≤ x := fun {x xs} => by simp
  have ndl : ∀ {xs : List Nat}, xs.Nodup → (xs.filter fun x => decide (x < a)).Nodup := fun h => List.filter_sublist.nodup h
  have ndh : ∀ {xs : List Nat}, xs.Nodup → ((xs.filter fun x => !decide (x < a)).map (· - a)).Nodup := fun h => nd_map _ _ (List.filter_sublist.nodup h) fun x hx y hy e => by
    have := (hi.mp hx).2
    have := (hi.mp hy).2
    have e : x - a = y - a := e
    omega
  have cut : ∀ xs : List Nat, xs.length = (xs.filter fun x => decide (x < a)).length + ((xs.filter fun x => !decide (x < a)).map (· - a)).length := fun xs => by
    rw [List.length_map]
    induction xs with
    | nil => rfl
    | cons x xs ih =>
      by_cases c : x < a
      · simp [c] at ih ⊢; omega
      · simp [c] at ih ⊢; omega
  refine ⟨⟨M.nil, N.nil⟩, fun {xs ys} h1 h2 s h => ⟨M.sub (ndl h1) (ndl h2) (fun x hx => lo.mpr ⟨s x (lo.mp hx).1, (lo.mp hx).2⟩) h.1, N.sub (ndh h1) (ndh h2) (fun x hx => ?_) h.2⟩, fun {xs ys} h1 h2 h k l => ?_⟩
  · obtain ⟨y, hy, rfl⟩ := List.mem_map.mp hx
    exact List.mem_map.mpr ⟨y, hi.mpr ⟨s y (hi.mp hy).1, (hi.mp hy).2⟩, rfl⟩
  · have c1 := cut xs
    have c2 := cut ys
    by_cases c : (xs.filter fun x => decide (x < a)).length < (ys.filter fun x => decide (x < a)).length
    · obtain ⟨y, y1, y2, y3⟩ := M.exch (ndl h1) (ndl h2) h.1 k.1 c
      have ya := (lo.mp y1).2
      refine ⟨y, (lo.mp y1).1, fun q => y2 (lo.mpr ⟨q, ya⟩), ?_, ?_⟩
      · rw [List.filter_cons_of_pos (by simpa using ya)]
        exact y3
      · rw [List.filter_cons_of_neg (by simpa using ya)]
        exact h.2
    · obtain ⟨z, z1, z2, z3⟩ := N.exch (ndh h1) (ndh h2) h.2 k.2 (by omega)
      obtain ⟨y, y1, rfl⟩ := List.mem_map.mp z1
      have ya := (hi.mp y1).2
      refine ⟨y, (hi.mp y1).1, fun q => z2 (List.mem_map.mpr ⟨y, hi.mpr ⟨q, ya⟩, rfl⟩), ?_, ?_⟩
      · rw [List.filter_cons_of_neg (by simpa using ya)]
        exact h.1
      · rw [List.filter_cons_of_pos (by simpa using ya), List.map_cons]
        exact z3
end MT
namespace MT
/-! ### joined: each thing has a rule's number -/
def col (c : Nat → Nat) (i : Nat) (xs : List Nat) : List Nat := xs.filter fun x => decide (c x = i)
theorem mem_col {c : Nat → Nat} {i x : Nat} {xs : List Nat} : x ∈ col c i xs ↔ x ∈ xs ∧ c x = i := by simp [col]
theorem nd_col {c : Nat → Nat} {i : Nat} {xs : List Nat} (h : xs.Nodup) : (col c i xs).Nodup := List.filter_sublist.nodup h
def below (c : Nat → Nat) (k : Nat) (xs : List Nat) : List Nat := xs.filter fun x => decide (c x < k)
theorem below_succ (c : Nat → Nat) (k : Nat) : ∀ xs : List Nat, (below c (k + 1) xs).length = (below c k xs).length + (col c k xs).length
  | [] => rfl
  | x :: xs => by
    have ih := below_succ c k xs
    unfold below col at ih ⊢
    by_cases h1 : c x < k
    · have h2 : c x < k + 1 := by omega
      have h3 : ¬ c x = k := by omega
      simp [h1, h2, h3]; omega
    · by_cases h3 : c x = k
      · have h2 : c x < k + 1 := by omega
        simp [h1, h2, h3]; omega
      · have h2 : ¬ c x < k + 1 := by omega
        simp [h1, h2, h3]; omega
theorem below_all {c : Nat → Nat} {k : Nat} {xs : List Nat} (h : ∀ x ∈ xs, c x < k) : below c k xs = xs := List.filter_eq_self.mpr fun x hx => decide_eq_true (h x hx)
theorem below_le {c d : Nat → Nat} {xs ys : List Nat} : ∀ k, (∀ i, i < k → (col d i ys).length ≤ (col c i xs).length) → (below d k ys).length ≤ (below c k xs).length
  | 0, _ => by
    have : below d 0 ys = [] := List.filter_eq_nil_iff.mpr fun x _ => by simp
    rw [this]
    exact Nat.zero_le _
  | k + 1, h => by
    rw [below_succ, below_succ]
    have a := below_le (c := c) (d := d) (xs := xs) (ys := ys) k fun i hi => h i (by omega)
    have b := h k (by omega)
    omega
/-- a colour with fewer of xs than of ys -/
theorem col_lt {c d : Nat → Nat} {k : Nat} {xs ys : List Nat} (hx : ∀ x ∈ xs, c x < k) (hy : ∀ x ∈ ys, d x < k) (l : xs.length < ys.length) : ∃ i, i < k ∧ (col c i xs).length < (col d i ys).length := by
  refine Classical.byContradiction fun no => ?_
  have := below_le (c := c) (d := d) (xs := xs) (ys := ys) k fun i hi => Nat.le_of_not_lt fun q => no ⟨i, hi, q⟩
  rw [below_all hx, below_all hy] at this
  omega
def Jn (k : Nat) (F : Nat → List Nat → Prop) (xs : List Nat) : Prop := ∃ c : Nat → Nat, (∀ x ∈ xs, c x < k) ∧ ∀ i, i < k → F i (col c i xs)
def set (c : Nat → Nat) (y i : Nat) : Nat → Nat := fun x => if x = y then i else c x
theorem set_at {c : Nat → Nat} {y i : Nat} : set c y i y = i := if_pos rfl
theorem set_ne {c : Nat → Nat} {y i x : Nat} (n : x ≠ y) : set c y i x = c x := if_neg n
theorem jn_exch {k : Nat} {F : Nat → List Nat → Prop} (M : ∀ i, i < k → Mat (F i)) {xs ys : List Nat} (hx : xs.Nodup) (hy : ys.Nodup) (l : xs.length < ys.length) (d : Nat → Nat) (hd : ∀ x ∈ ys, d x < k) (fd : ∀ i, i < k → F i (col d i ys)) :
    ∀ (n : Nat) (c : Nat → Nat), (∀ x ∈ xs, c x < k) → (∀ i, i < k → F i (col c i xs)) → xs.length - (xs.filter fun x => decide (x ∈ ys ∧ c x = d x)).length ≤ n → ∃ y ∈ ys, y ∉ xs ∧ Jn k F (y :: xs)
  | n, c, hc, fc, hn => by
    obtain ⟨i, ik, il⟩ := col_lt hc hd l
    obtain ⟨y, y1, y2, y3⟩ := (M i ik).exch (nd_col hx) (nd_col hy) (fc i ik) (fd i ik) il
    have yy := mem_col.mp y1
    have ndi : (y :: col c i xs).Nodup := nd_cons (nd_col hx) y2
    by_cases yx : y ∈ xs
    · -- y goes from its part to part i
      have cy : c y ≠ i := fun e => y2 (mem_col.mpr ⟨yx, e⟩)
      have hc' : ∀ x ∈ xs, set c y i x < k := fun x hx' => by
        by_cases e : x = y
        · rw [e, set_at]; exact ik
        · rw [set_ne e]; exact hc x hx'
      have fc' : ∀ j, j < k → F j (col (set c y i) j xs) := fun j jk => by
        by_cases e : j = i
        · subst e
          refine (M j jk).sub (nd_col hx) ndi (fun x hx' => ?_) y3
          have := mem_col.mp hx'
          by_cases e2 : x = y
          · rw [e2]; exact List.mem_cons_self ..
          · rw [set_ne e2] at this
            exact List.mem_cons_of_mem _ (mem_col.mpr this)
        · refine (M j jk).sub (nd_col hx) (nd_col hx) (fun x hx' => ?_) (fc j jk)
          have := mem_col.mp hx'
          by_cases e2 : x = y
          · rw [e2, set_at] at this
            exact absurd this.2.symm e
          · rw [set_ne e2] at this
            exact mem_col.mpr this
      have inc : (xs.filter fun x => decide (x ∈ ys ∧ c x = d x)).length + 1 ≤ (xs.filter fun x => decide (x ∈ ys ∧ set c y i x = d x)).length := by
        refine le_of_sub (y :: xs.filter fun x => decide (x ∈ ys ∧ c x = d x)) _ (nd_cons (List.filter_sublist.nodup hx) fun q => ?_) fun x hx' => ?_
        · have := of_decide_eq_true (List.mem_filter.mp q).2
          exact cy (this.2.trans yy.2)
        · rcases List.mem_cons.mp hx' with e | e
          · rw [e]
            exact List.mem_filter.mpr ⟨yx, decide_eq_true ⟨yy.1, by rw [set_at]; exact yy.2.symm⟩⟩
          · have q := List.mem_filter.mp e
            have q2 := of_decide_eq_true q.2
            have nx : x ≠ y := fun z => cy (by rw [← z]; rw [q2.2, z]; exact yy.2)
            exact List.mem_filter.mpr ⟨q.1, decide_eq_true ⟨q2.1, by rw [set_ne nx]; exact q2.2⟩⟩
      have lim := List.length_filter_le (fun x => decide (x ∈ ys ∧ set c y i x = d x)) xs
      cases n with
      | zero => omega
      | succ n => exact jn_exch M hx hy l d hd fd n (set c y i) hc' fc' (by omega)
    · refine ⟨y, yy.1, yx, set c y i, fun x hx' => ?_, fun j jk => ?_⟩
      · rcases List.mem_cons.mp hx' with e | e
        · rw [e, set_at]; exact ik
        · rw [set_ne (show x ≠ y from fun z => yx (z ▸ e))]; exact hc x e
      · have nd2 : (col (set c y i) j (y :: xs)).Nodup := nd_col (nd_cons hx yx)
        by_cases e : j = i
        · subst e
          refine (M j jk).sub nd2 ndi (fun x hx' => ?_) y3
          have := mem_col.mp hx'
          by_cases e2 : x = y
          · rw [e2]; exact List.mem_cons_self ..
          · rw [set_ne e2] at this
            exact List.mem_cons_of_mem _ (mem_col.mpr ⟨(List.mem_cons.mp this.1).resolve_left e2, this.2⟩)
        · refine (M j jk).sub nd2 (nd_col hx) (fun x hx' => ?_) (fc j jk)
          have := mem_col.mp hx'
          by_cases e2 : x = y
          · rw [e2, set_at] at this
            exact absurd this.2.symm e
          · rw [set_ne e2] at this
            exact mem_col.mpr ⟨(List.mem_cons.mp this.1).resolve_left e2, this.2⟩
theorem Mat.joined {k : Nat} {F : Nat → List Nat → Prop} (hk : 0 < k) (M : ∀ i, i < k → Mat (F i)) : Mat (Jn k F) := by
  refine ⟨⟨fun _ => 0, fun _ _ => hk, fun i ik => (M i ik).nil⟩, fun {xs ys} h1 h2 s h => ?_, fun {xs ys} h1 h2 h g l => ?_⟩
  · obtain ⟨c, c1, c2⟩ := h
    exact ⟨c, fun x hx => c1 x (s x hx), fun i ik => (M i ik).sub (nd_col h1) (nd_col h2) (fun x hx => mem_col.mpr ⟨s x (mem_col.mp hx).1, (mem_col.mp hx).2⟩) (c2 i ik)⟩
  · obtain ⟨c, c1, c2⟩ := h
    obtain ⟨d, d1, d2⟩ := g
    exact jn_exch M h1 h2 l d d1 d2 _ c c1 c2 (Nat.le_refl _)
/-! ### kinds -/
theorem Mat.kinds (kind most : Nat → Nat) (m : Nat) : Mat fun xs => ∀ c, c < m → (col kind c xs).length ≤ most c ∧ ∀ x ∈ xs, kind x < m := by
  refine ⟨fun c _ => ⟨Nat.zero_le _, fun x h => by cases h⟩, fun {xs ys} h1 h2 s h c hc => ⟨Nat.le_trans (le_of_sub _ _ (nd_col h1) fun x hx => mem_col.mpr ⟨s x (mem_col.mp hx).1, (mem_col.mp hx).2⟩) (h c hc).1, fun x hx => (h c hc).2 x (s x hx)⟩, fun {xs ys} h1 h2 h g l => ?_⟩
  by_cases m0 : 0 < m
  · have kx := (h 0 m0).2
    have ky := (g 0 m0).2
    obtain ⟨i, ik, il⟩ := col_lt kx ky l
    have : ∃ y ∈ col kind i ys, y ∉ col kind i xs := Classical.byContradiction fun no => by
      have := le_of_sub (col kind i ys) (col kind i xs) (nd_col h2) fun y hy => Classical.byContradiction fun q => no ⟨y, hy, q⟩
      omega
    obtain ⟨y, y1, y2⟩ := this
    have yy := mem_col.mp y1
    have yx : y ∉ xs := fun q => y2 (mem_col.mpr ⟨q, yy.2⟩)
    refine ⟨y, yy.1, yx, fun c hc => ⟨?_, fun x hx => ?_⟩⟩
    · by_cases e : c = i
      · subst e
        have : (col kind c (y :: xs)) = y :: col kind c xs := List.filter_cons_of_pos (by simpa using yy.2)
        rw [this]
        have := (g c hc).1
        show (col kind c xs).length + 1 ≤ most c
        omega
      · have : (col kind c (y :: xs)) = col kind c xs := List.filter_cons_of_neg (by simp; intro z; exact e (z.symm.trans yy.2))
        rw [this]
        exact (h c hc).1
    · rcases List.mem_cons.mp hx with e | e
      · rw [e]; exact ky y yy.1
      · exact kx x e
  · have : ∃ y ∈ ys, y ∉ xs := Classical.byContradiction fun no => by
      have := le_of_sub ys xs h2 fun y hy => Classical.byContradiction fun q => no ⟨y, hy, q⟩
      omega
    obtain ⟨y, y1, y2⟩ := this
    exact ⟨y, y1, y2, fun c hc => absurd (Nat.lt_of_le_of_lt (Nat.zero_le _) hc) m0⟩
/-! ### what is closed: bits and threads alike -/
structure Clo {α : Type} (cl : List α → α → Prop) : Prop where
  mem : ∀ {l : List α} {x : α}, x ∈ l → cl l x
  cut : ∀ {l m : List α} {f : α}, (∀ x ∈ m, cl l x) → cl m f → cl l f
  exch : ∀ {l : List α} {x y : α}, ¬ cl l x → cl (y :: l) x → cl (x :: l) y
def Ind {α : Type} (cl : List α → α → Prop) : List α → Prop
  | [] => True
  | x :: l => ¬ cl l x ∧ Ind cl l
section
variable {α : Type} {cl : List α → α → Prop}
theorem Clo.sub (C : Clo cl) {l m : List α} {f : α} (s : ∀ x ∈ m, x ∈ l) (h : cl m f) : cl l f := C.cut (fun x hx => C.mem (s x hx)) h
theorem Clo.perm (C : Clo cl) {l m : List α} (p : l.Perm m) (f : α) : cl l f ↔ cl m f := ⟨C.sub fun _ h => p.mem_iff.mp h, C.sub fun _ h => p.mem_iff.mpr h⟩
theorem Ind.swap (C : Clo cl) {x y : α} {l : List α} (h : Ind cl (x :: y :: l)) : Ind cl (y :: x :: l) :=
  ⟨fun k => h.1 (C.exch h.2.1 k), fun k => h.1 (C.sub (fun _ q => List.mem_cons_of_mem _ q) k), h.2.2⟩
theorem Ind.perm (C : Clo cl) {l m : List α} (p : l.Perm m) : Ind cl l ↔ Ind cl m := by
  induction p with
  | nil => exact Iff.rfl
  | cons x q ih => exact and_congr (not_congr (C.perm q x)) ih
  | swap x y l => exact ⟨Ind.swap C, Ind.swap C⟩
  | trans _ _ h1 h2 => exact h1.trans h2
theorem Ind.tail : ∀ {a l : List α}, Ind cl (a ++ l) → Ind cl l
  | [], _, h => h
  | _ :: a, _, h => Ind.tail (a := a) h.2
theorem Ind.app_left (C : Clo cl) {a l : List α} (h : Ind cl (a ++ l)) : Ind cl a := Ind.tail (a := l) ((Ind.perm C List.perm_append_comm).mp h)
/-- a first one of xs, from behind, that brings y in -/
theorem first_in (C : Clo cl) {y : α} {zs : List α} (n : ¬ cl zs y) : ∀ {xs : List α}, cl (xs ++ zs) y → ∃ as x bs, xs = as ++ x :: bs ∧ ¬ cl (bs ++ zs) y ∧ cl (x :: (bs ++ zs)) y
  | [], h => absurd h n
  | x :: xs, h => by
    by_cases c : cl (xs ++ zs) y
    · obtain ⟨as, u, bs, e, k1, k2⟩ := first_in C n c
      exact ⟨x :: as, u, bs, by rw [e]; rfl, k1, k2⟩
    · exact ⟨[], x, xs, rfl, c, h⟩
theorem steinitz (C : Clo cl) : ∀ (ys xs zs : List α), Ind cl (ys ++ zs) → (∀ y ∈ ys, cl (xs ++ zs) y) → ys.length ≤ xs.length
  | [], _, _, _, _ => Nat.zero_le _
  | y :: ys, xs, zs, i, h => by
    have ny : ¬ cl zs y := fun k => i.1 (C.sub (fun _ q => List.mem_append_right _ q) k)
    obtain ⟨as, x, bs, e, k1, k2⟩ := first_in C ny (h y (List.mem_cons_self ..))
    have kx : cl (y :: (bs ++ zs)) x := C.exch k1 k2
    have ih := steinitz C ys (as ++ bs) (y :: zs) ((Ind.perm C (List.perm_middle.symm)).mp i) fun u hu => by
      refine C.cut (m := xs ++ zs) (fun v hv => ?_) (h u (List.mem_cons_of_mem _ hu))
      rw [e] at hv
      have step : ∀ w ∈ y :: (bs ++ zs), cl (as ++ bs ++ y :: zs) w := fun w hw => C.mem (by
        rcases List.mem_cons.mp hw with q | q
        · rw [q]; exact List.mem_append_right _ (List.mem_cons_self ..)
        · rcases List.mem_append.mp q with r | r
          · exact List.mem_append_left _ (List.mem_append_right _ r)
          · exact List.mem_append_right _ (List.mem_cons_of_mem _ r))
      rcases List.mem_append.mp hv with q | q
      · rcases List.mem_append.mp q with r | r
        · exact C.mem (List.mem_append_left _ (List.mem_append_left _ r))
        · rcases List.mem_cons.mp r with t | t
          · rw [t]
            exact C.cut step kx
          · exact C.mem (List.mem_append_left _ (List.mem_append_right _ t))
      · exact C.mem (List.mem_append_right _ (List.mem_cons_of_mem _ q))
    rw [e]
    rw [List.length_append] at ih ⊢
    show ys.length + 1 ≤ as.length + (bs.length + 1)
    omega
theorem Clo.mat (C : Clo cl) (row : Nat → α) : Mat fun xs => Ind cl (xs.map row) := by
  refine ⟨True.intro, fun {xs ys} h1 h2 s h => ?_, fun {xs ys} h1 h2 h g l => ?_⟩
  · have p : ys.Perm (xs ++ out ys xs) := (List.perm_ext_iff_of_nodup h2 (nd_app h1 (nd_out h2) fun a ha hb => (mem_out.mp hb).2 ha)).mpr fun a => by
      constructor
      · intro ha
        by_cases c : a ∈ xs
        · exact List.mem_append_left _ c
        · exact List.mem_append_right _ (mem_out.mpr ⟨ha, c⟩)
      · intro ha
        rcases List.mem_append.mp ha with e | e
        · exact s a e
        · exact (mem_out.mp e).1
    have := (Ind.perm C (p.map row)).mp h
    rw [List.map_append] at this
    exact Ind.app_left C this
  · refine Classical.byContradiction fun no => ?_
    have all : ∀ y ∈ ys.map row, cl (xs.map row ++ []) y := fun r hr => by
      rw [List.append_nil]
      obtain ⟨y, hy, rfl⟩ := List.mem_map.mp hr
      by_cases c : y ∈ xs
      · exact C.mem (List.mem_map.mpr ⟨y, c, rfl⟩)
      · exact Classical.byContradiction fun k => no ⟨y, hy, c, k, h⟩
    have := steinitz C (ys.map row) (xs.map row) [] (by rw [List.append_nil]; exact g) all
    rw [List.length_map, List.length_map] at this
    omega
end
/-! ### whole sets -/
structure Base (F : List Nat → Prop) (E b : List Nat) : Prop where
  nd : b.Nodup
  sub : ∀ x ∈ b, x ∈ E
  free : F b
  rank : Rank F E b.length
theorem Base.len {F : List Nat → Prop} {E a b : List Nat} (h : Base F E a) (k : Base F E b) : a.length = b.length := h.rank.one k.rank
theorem Base.of_len {F : List Nat → Prop} {E a b : List Nat} (h : Base F E a) (nd : b.Nodup) (sub : ∀ x ∈ b, x ∈ E) (free : F b) (l : b.length = a.length) : Base F E b := ⟨nd, sub, free, l ▸ h.rank⟩
/-- a thing goes out, one of the other comes in -/
theorem Base.change {F : List Nat → Prop} (M : Mat F) {E a b : List Nat} (ha : Base F E a) (hb : Base F E b) {x : Nat} (xa : x ∈ a) (xb : x ∉ b) : ∃ y ∈ b, y ∉ a ∧ Base F E (y :: a.erase x) := by
  have l : (a.erase x).length < b.length := by
    rw [List.length_erase_of_mem xa, ← ha.len hb]
    have : 0 < a.length := List.length_pos_of_mem xa
    omega
  obtain ⟨y, y1, y2, y3⟩ := M.exch (ha.nd.erase x) hb.nd (M.sub (ha.nd.erase x) ha.nd (fun z hz => List.mem_of_mem_erase hz) ha.free) hb.free l
  have yx : y ≠ x := fun e => xb (e ▸ y1)
  have ya : y ∉ a := fun k => y2 ((List.mem_erase_of_ne yx).mpr k)
  refine ⟨y, y1, ya, ha.of_len (nd_cons (ha.nd.erase x) y2) (fun z hz => ?_) y3 ?_⟩
  · rcases List.mem_cons.mp hz with e | e
    · rw [e]; exact hb.sub y y1
    · exact ha.sub z (List.mem_of_mem_erase e)
  · show (a.erase x).length + 1 = a.length
    rw [List.length_erase_of_mem xa]
    have : 0 < a.length := List.length_pos_of_mem xa
    omega
/-- .. both ways -/
theorem Base.both {F : List Nat → Prop} (M : Mat F) {E a b : List Nat} (hE : E.Nodup) (ha : Base F E a) (hb : Base F E b) {x : Nat} (xa : x ∈ a) (xb : x ∉ b) : ∃ y ∈ b, y ∉ a ∧ Base F E (y :: a.erase x) ∧ Base F E (x :: b.erase y) := by
  -- the things of b that may give place to x
  let good := b.filter fun y => @decide (F (x :: b.erase y)) (Classical.propDecidable _)
  have mg : ∀ {y}, y ∈ good ↔ y ∈ b ∧ F (x :: b.erase y) := fun {y} => by
    show y ∈ b.filter _ ↔ _
    rw [List.mem_filter]
    exact and_congr Iff.rfl (@decide_eq_true_iff _ (Classical.propDecidable _))
  have lb : ∀ {y}, y ∈ b → (x :: b.erase y).length = b.length := fun {y} hy => by
    show (b.erase y).length + 1 = b.length
    rw [List.length_erase_of_mem hy]
    have : 0 < b.length := List.length_pos_of_mem hy
    omega
  have ndxb : ∀ {y}, (x :: b.erase y).Nodup := fun {y} => nd_cons (hb.nd.erase y) fun k => xb (List.mem_of_mem_erase k)
  refine Classical.byContradiction fun no => ?_
  have notin : ∀ y ∈ good, y ∈ a.erase x ∨ ¬ F (y :: a.erase x) := fun y hy => by
    by_cases c : y ∈ a.erase x
    · exact .inl c
    · refine .inr fun f => ?_
      have q := mg.mp hy
      have yx : y ≠ x := fun e => xb (e ▸ q.1)
      have ya : y ∉ a := fun k => c ((List.mem_erase_of_ne yx).mpr k)
      refine no ⟨y, q.1, ya, ha.of_len (nd_cons (ha.nd.erase x) c) (fun z hz => ?_) f ?_, hb.of_len ndxb (fun z hz => ?_) q.2 (lb q.1)⟩
      · rcases List.mem_cons.mp hz with e | e
        · rw [e]; exact hb.sub y q.1
        · exact ha.sub z (List.mem_of_mem_erase e)
      · show (a.erase x).length + 1 = a.length
        rw [List.length_erase_of_mem xa]
        have : 0 < a.length := List.length_pos_of_mem xa
        omega
      · rcases List.mem_cons.mp hz with e | e
        · rw [e]; exact ha.sub x xa
        · exact hb.sub z (List.mem_of_mem_erase e)
  -- x with the good ones is not free: else it grows within b and x to as many as b, and one of b is left out that is good
  have dep : ¬ F (x :: good) := fun f => by
    have gs : ∀ z ∈ good, z ∈ b := fun z hz => (mg.mp hz).1
    have ndg : good.Nodup := List.filter_sublist.nodup hb.nd
    obtain ⟨g, g1, g2, g3, g4, g5⟩ := M.extend (t := x :: good) (xs := x :: b) (nd_cons ndg fun k => xb (gs x k)) (nd_cons hb.nd xb) (fun z hz => by
      rcases List.mem_cons.mp hz with e | e
      · rw [e]; exact List.mem_cons_self ..
      · exact List.mem_cons_of_mem _ (gs z e)) f
    have gl : b.length ≤ g.length := g5 b hb.nd (fun z hz => List.mem_cons_of_mem _ hz) hb.free
    have gE : g.length ≤ b.length := hb.rank.most g g1 (fun z hz => by
      rcases List.mem_cons.mp (g3 z hz) with e | e
      · rw [e]; exact ha.sub x xa
      · exact hb.sub z e) g4
    -- some y of b is not in g
    have : ∃ y ∈ b, y ∉ g := Classical.byContradiction fun q => by
      have := le_of_sub (x :: b) g (nd_cons hb.nd xb) fun z hz => by
        rcases List.mem_cons.mp hz with e | e
        · rw [e]; exact g2 x (List.mem_cons_self ..)
        · exact Classical.byContradiction fun r => q ⟨z, e, r⟩
      have e : (x :: b).length = b.length + 1 := rfl
      omega
    obtain ⟨y, y1, y2⟩ := this
    refine y2 (g2 y (List.mem_cons_of_mem _ (mg.mpr ⟨y1, ?_⟩)))
    -- all of x, b less y lies in g
    refine M.sub ndxb g1 (fun z hz => ?_) g4
    refine Classical.byContradiction fun nz => ?_
    have := le_of_sub g ((x :: b.erase y).erase z) g1 fun u hu => by
      refine (List.mem_erase_of_ne (show u ≠ z from fun e => nz (e ▸ hu))).mpr ?_
      rcases List.mem_cons.mp (g3 u hu) with e | e
      · rw [e]; exact List.mem_cons_self ..
      · exact List.mem_cons_of_mem _ ((List.mem_erase_of_ne (show u ≠ y from fun q => y2 (q ▸ hu))).mpr e)
    rw [List.length_erase_of_mem hz, lb y1] at this
    have : 0 < b.length := List.length_pos_of_mem y1
    omega
  -- but a less x spans the good ones: a greatest free set of a less x and the good ones has as many as a less x
  have nda : (a.erase x).Nodup := ha.nd.erase x
  have fa : F (a.erase x) := M.sub nda ha.nd (fun z hz => List.mem_of_mem_erase hz) ha.free
  have ndg : good.Nodup := List.filter_sublist.nodup hb.nd
  -- take a greatest free set of the good ones, extend it in a
  obtain ⟨h, h1, _, h3, h4, h5⟩ := M.extend (t := []) (xs := good) List.nodup_nil ndg (fun _ k => by cases k) M.nil
  have ndu : (a ++ out good a).Nodup := nd_app ha.nd (nd_out ndg) fun p hp hq => (mem_out.mp hq).2 hp
  obtain ⟨g, g1, g2, g3, g4, g5⟩ := M.extend (t := h) (xs := (a.erase x) ++ out good (a.erase x)) h1 (nd_app nda (nd_out ndg) fun p hp hq => (mem_out.mp hq).2 hp) (fun z hz => by
    by_cases c : z ∈ a.erase x
    · exact List.mem_append_left _ c
    · exact List.mem_append_right _ (mem_out.mpr ⟨h3 z hz, c⟩)) h4
  have gl : g.length = (a.erase x).length := by
    have l1 := g5 (a.erase x) nda (fun z hz => List.mem_append_left _ hz) fa
    refine Nat.le_antisymm (Nat.le_of_not_lt fun lt => ?_) l1
    obtain ⟨y, y1, y2, y3⟩ := M.exch nda g1 fa g4 lt
    rcases List.mem_append.mp (g3 y y1) with e | e
    · exact y2 e
    · rcases notin y (mem_out.mp e).1 with q | q
      · exact y2 q
      · exact q y3
  -- a has one more than g: a thing of a can be put to g, and it is x
  have la : g.length < a.length := by
    rw [gl, List.length_erase_of_mem xa]
    have : 0 < a.length := List.length_pos_of_mem xa
    omega
  obtain ⟨y, y1, y2, y3⟩ := M.exch g1 ha.nd g4 ha.free la
  have yx : y = x := Classical.byContradiction fun n => by
    have ye : y ∈ a.erase x := (List.mem_erase_of_ne n).mpr y1
    have := g5 (y :: g) (nd_cons g1 y2) (fun z hz => by
      rcases List.mem_cons.mp hz with e | e
      · rw [e]; exact List.mem_append_left _ ye
      · exact g3 z e) y3
    have e : (y :: g).length = g.length + 1 := rfl
    omega
  subst yx
  -- so y, h is free, and h is a greatest free set of the good ones: y with all good ones would then be free
  have fyh : F (y :: h) := M.sub (nd_cons h1 fun k => xb ((mg.mp (h3 y k)).1)) (nd_cons g1 y2) (fun z hz => by
    rcases List.mem_cons.mp hz with e | e
    · rw [e]; exact List.mem_cons_self ..
    · exact List.mem_cons_of_mem _ (g2 z e)) y3
  -- good itself is free (it lies in b), so h has all of it
  have fgood : F good := M.sub ndg hb.nd (fun z hz => (mg.mp hz).1) hb.free
  have lg : good.length ≤ h.length := h5 good ndg (fun _ k => k) fgood
  refine dep (M.sub (nd_cons ndg fun k => xb ((mg.mp k).1)) (nd_cons h1 fun k => xb ((mg.mp (h3 y k)).1)) (fun z hz => ?_) fyh)
  rcases List.mem_cons.mp hz with e | e
  · rw [e]; exact List.mem_cons_self ..
  · refine List.mem_cons_of_mem _ (Classical.byContradiction fun nz => ?_)
    have := le_of_sub h (good.erase z) h1 fun u hu => (List.mem_erase_of_ne (show u ≠ z from fun q => nz (q ▸ hu))).mpr (h3 u hu)
    rw [List.length_erase_of_mem e] at this
    have : 0 < good.length := List.length_pos_of_mem e
    omega
end MT
/-! ### the four sorts as one: what a rule is made of, and what is free -/
namespace MT
theorem Mat.low {F : List Nat → Prop} (M : Mat F) (n : Nat) : Mat fun xs => (∀ x ∈ xs, x < n) ∧ F xs :=
  ⟨⟨fun _ h => (by cases h), M.nil⟩, fun a c s h => ⟨fun x hx => h.1 x (s x hx), M.sub a c s h.2⟩, fun a c h k l => by
    obtain ⟨y, y1, y2, y3⟩ := M.exch a c h.2 k.2 l
    exact ⟨y, y1, y2, fun x hx => (by
      rcases List.mem_cons.mp hx with e | e
      · rw [e]; exact k.1 y y1
      · exact h.1 x e), y3⟩⟩
theorem Mat.congr {F G : List Nat → Prop} (M : Mat F) (h : ∀ xs : List Nat, xs.Nodup → (F xs ↔ G xs)) : Mat G :=
  ⟨(h [] List.nodup_nil).mp M.nil, fun a c s g => (h _ a).mp (M.sub a c s ((h _ c).mpr g)), fun a c f g l => by
    obtain ⟨y, y1, y2, y3⟩ := M.exch a c ((h _ a).mpr f) ((h _ c).mpr g) l
    exact ⟨y, y1, y2, (h _ (nd_cons a y2)).mp y3⟩⟩
theorem clo_bits : Clo BM.Spn := by
  refine ⟨fun h => BM.Spn.mem h, fun {l m f} h k => ?_, fun {l x y} n h => ?_⟩
  · induction m generalizing f with
    | nil =>
      have k : f = 0 := k
      rw [k]
      exact BM.Spn.zero l
    | cons y m ih =>
      have hm : ∀ x ∈ m, BM.Spn l x := fun x hx => h x (List.mem_cons_of_mem _ hx)
      rcases k with k | k
      · exact ih hm k
      · exact (BM.Spn.iff_of (h y (List.mem_cons_self ..))).mp (ih hm k)
  · rcases h with h | h
    · exact absurd h n
    · exact .inr (by rw [Nat.xor_comm]; exact h)
theorem ind_bits : ∀ l : List Nat, Ind BM.Spn l ↔ BM.Ind l
  | [] => Iff.rfl
  | _ :: l => and_congr Iff.rfl (ind_bits l)
def cn (l : List (Nat × Nat)) (e : Nat × Nat) : Prop := TM.Conn l e.1 e.2
theorem conn_mem : ∀ {l : List (Nat × Nat)} {e : Nat × Nat}, e ∈ l → cn l e
  | d :: l, e, h => by
    rcases List.mem_cons.mp h with q | q
    · rw [q]; exact TM.Conn.tie
    · exact TM.Conn.cons (conn_mem q)
theorem clo_ties : Clo cn := by
  refine ⟨conn_mem, fun {l m f} h k => ?_, fun {l x y} n h => TM.exch n h⟩
  have : ∀ a b, TM.Conn m a b → TM.Conn l a b := by
    clear k
    induction m with
    | nil => exact fun a b q => (show a = b from q) ▸ TM.Conn.refl l a
    | cons y m ih => exact TM.Conn.lift (ih fun x hx => h x (List.mem_cons_of_mem _ hx)) (h y (List.mem_cons_self ..))
  exact this _ _ k
theorem ind_ties : ∀ l : List (Nat × Nat), Ind cn l ↔ TM.Ind l
  | [] => Iff.rfl
  | _ :: l => and_congr Iff.rfl (ind_ties l)
/-- posts: each post takes one thing at most -/
theorem mat_post (W : Nat → List Nat) (p : Nat) : Mat fun xs => (∀ x ∈ xs, p ∈ W x) ∧ xs.length ≤ 1 := by
  refine ⟨⟨fun _ h => (by cases h), Nat.zero_le _⟩, fun a c s h => ⟨fun x hx => h.1 x (s x hx), Nat.le_trans (le_of_sub _ _ a s) h.2⟩, fun {xs ys} a c h k l => ?_⟩
  have e : xs = [] := List.eq_nil_of_length_eq_zero (by omega)
  subst e
  cases ys with
  | nil => exact absurd l (Nat.lt_irrefl _)
  | cons y r => exact ⟨y, List.mem_cons_self .., fun q => (by cases q), fun x hx => (by rw [List.mem_singleton.mp hx]; exact k.1 y (List.mem_cons_self ..)), Nat.le_refl _⟩
theorem mat_posts {W : Nat → List Nat} {m : Nat} (hm : 0 < m) (hW : ∀ x, ∀ p ∈ W x, p < m) : Mat (PM.Free W) := by
  refine (Mat.joined (k := m) (F := fun p xs => (∀ x ∈ xs, p ∈ W x) ∧ xs.length ≤ 1) hm fun p _ => mat_post W p).congr fun xs nd => ?_
  constructor
  · rintro ⟨c, c1, c2⟩
    refine ⟨c, fun x hx => (c2 (c x) (c1 x hx)).1 x (mem_col.mpr ⟨hx, rfl⟩), fun x hx y hy e => ?_⟩
    refine Classical.byContradiction fun ne => ?_
    have := le_of_sub [x, y] (col c (c x) xs) (by simp [ne]) fun z hz => by
      rcases List.mem_cons.mp hz with q | q
      · rw [q]; exact mem_col.mpr ⟨hx, rfl⟩
      · rw [List.mem_singleton.mp q]; exact mem_col.mpr ⟨hy, e.symm⟩
    have l2 : ([x, y] : List Nat).length = 2 := rfl
    have := (c2 (c x) (c1 x hx)).2
    omega
  · rintro ⟨g, g1, g2⟩
    refine ⟨g, fun x hx => hW x _ (g1 x hx), fun p _ => ⟨fun x hx => ?_, ?_⟩⟩
    · have := mem_col.mp hx
      rw [← this.2]
      exact g1 x this.1
    · match h : col g p xs, nd_col (c := g) (i := p) nd with
      | [], _ => exact Nat.zero_le _
      | [_], _ => exact Nat.le_refl _
      | a :: b :: r, ndc =>
        have ma : a ∈ col g p xs := by rw [h]; exact List.mem_cons_self ..
        have mb : b ∈ col g p xs := by rw [h]; exact List.mem_cons_of_mem _ (List.mem_cons_self ..)
        have e := g2 a (mem_col.mp ma).1 b (mem_col.mp mb).1 ((mem_col.mp ma).2.trans (mem_col.mp mb).2.symm)
        have := (List.nodup_cons.mp ndc).1
        exact absurd (by rw [e]; exact List.mem_cons_self ..) this
theorem count_col (kind : Nat → Nat) (c : Nat) : ∀ xs : List Nat, (xs.map kind).count c = (col kind c xs).length
  | [] => rfl
  | x :: xs => by
    have ih := count_col kind c xs
    rw [List.map_cons, List.count_cons, ih]
    unfold col
    by_cases e : kind x = c
    · simp [e]
    · simp [e]
end MT
/-! ### any rule: how many things, which sets are free; and what is made of rules -/
namespace MT
structure Rl where
  n : Nat
  F : List Nat → Prop
  mat : Mat F
  low : ∀ xs, F xs → ∀ x ∈ xs, x < n
  n16 : n ≤ 16
theorem Rl.rk (r : Rl) : ∃ k, Rank r.F (List.range r.n) k := r.mat.rank List.nodup_range
noncomputable def Rl.top (r : Rl) : Nat := Classical.choose r.rk
theorem Rl.top_is (r : Rl) : Rank r.F (List.range r.n) r.top := Classical.choose_spec r.rk
noncomputable def Rl.turned (r : Rl) : Rl where
  n := r.n
  F := fun xs => (∀ x ∈ xs, x ∈ List.range r.n) ∧ Rank r.F (out (List.range r.n) xs) r.top
  mat := r.mat.turned List.nodup_range r.top_is
  low := fun xs h x hx => List.mem_range.mp (h.1 x hx)
  n16 := r.n16
def Rl.cut (r : Rl) (b : Nat) : Rl := ⟨r.n, fun xs => r.F xs ∧ xs.length ≤ b, r.mat.cut b, fun xs h => r.low xs h.1, r.n16⟩
theorem at_lt {S : List Nat} {a : Nat} (h : a < S.length) : S[a]? = some (S.getD a 0) := by
  rw [List.getD_eq_getElem?_getD, List.getElem?_eq_getElem h]
  rfl
theorem at_mem {S : List Nat} {a : Nat} (h : a < S.length) : S.getD a 0 ∈ S := List.mem_of_getElem? (at_lt h)
theorem at_inj {S : List Nat} (h : S.Nodup) (a b : Nat) (ha : a < S.length) (hb : b < S.length) (e : S.getD a 0 = S.getD b 0) : a = b := by
  have ea := at_lt ha
  have eb := at_lt hb
  rw [List.getElem?_eq_getElem ha] at ea
  rw [List.getElem?_eq_getElem hb] at eb
  have := Option.some.inj ea
  have := Option.some.inj eb
  have k := List.pairwise_iff_getElem.mp h
  refine Classical.byContradiction fun ne => ?_
  rcases Nat.lt_or_gt_of_ne ne with l | l
  · exact k a b ha hb l (by omega)
  · exact k b a hb ha l (by omega)
def Rl.kept (r : Rl) (S : List Nat) (hS : S.Nodup) (l : S.length ≤ 16) : Rl :=
  ⟨S.length, fun xs => (∀ x ∈ xs, x < S.length) ∧ r.F (xs.map (S.getD · 0)), r.mat.kept S.length (S.getD · 0) (at_inj hS), fun xs h => h.1, l⟩
theorem heldM {F : List Nat → Prop} (M : Mat F) {S R : List Nat} (hS : S.Nodup) (hR : R.Nodup) (d : ∀ x ∈ R, x ∉ S) :
    Mat fun xs => (∀ x ∈ xs, x < R.length) ∧ ∃ s, Rank F S s ∧ Rank F (S ++ xs.map (R.getD · 0)) (s + xs.length) := by
  obtain ⟨s, rS⟩ := M.rank hS
  obtain ⟨B, b1, b2, b3, b4⟩ := rS.has
  refine ((M.heldB b1 b3).kept R.length (R.getD · 0) (at_inj hR)).congr fun xs nd => ?_
  refine and_congr_right fun lo => ?_
  have ndm : (xs.map (R.getD · 0)).Nodup := nd_map _ _ nd fun a ha b hb => at_inj hR a b (lo a ha) (lo b hb)
  have dx : ∀ x ∈ xs.map (R.getD · 0), x ∉ S := fun x hx => by
    obtain ⟨y, hy, rfl⟩ := List.mem_map.mp hx
    exact d _ (at_mem (lo y hy))
  obtain ⟨t, rt⟩ := M.rank (nd_app hS ndm fun a ha hb => dx a hb ha)
  have key := M.held_iff hS b1 b3 b2 rS b4 ndm dx rt
  rw [List.length_map] at key
  constructor
  · intro k
    refine ⟨s, rS, ?_⟩
    rw [← key.mpr k.2]
    exact rt
  · rintro ⟨s', h1, h2⟩
    have e := h1.one rS
    subst e
    exact ⟨fun x hx hb => dx x hx (b2 x hb), key.mp (rt.one h2)⟩
def Rl.held (r : Rl) (S R : List Nat) (hS : S.Nodup) (hR : R.Nodup) (d : ∀ x ∈ R, x ∉ S) (l : R.length ≤ 16) : Rl :=
  ⟨R.length, fun xs => (∀ x ∈ xs, x < R.length) ∧ ∃ s, Rank r.F S s ∧ Rank r.F (S ++ xs.map (R.getD · 0)) (s + xs.length), heldM r.mat hS hR d, fun xs h => h.1, l⟩
def Rl.beside (r s : Rl) (l : r.n + s.n ≤ 16) : Rl where
  n := r.n + s.n
  F := fun xs => r.F (xs.filter fun x => decide (x < r.n)) ∧ s.F ((xs.filter fun x => !decide (x < r.n)).map (· - r.n))
  mat := r.mat.beside s.mat r.n
  low := fun xs h x hx => by
    by_cases c : x < r.n
    · omega
    · have := s.low _ h.2 (x - r.n) (List.mem_map.mpr ⟨x, List.mem_filter.mpr ⟨hx, by simp [c]⟩, rfl⟩)
      omega
  n16 := l
def Rl.nth (rs : List Rl) (i : Nat) (xs : List Nat) : Prop := ∀ r, rs[i]? = some r → r.F xs
theorem Rl.nth_is {rs : List Rl} {i : Nat} {r : Rl} (h : rs[i]? = some r) (xs : List Nat) : Rl.nth rs i xs ↔ r.F xs :=
  ⟨fun k => k r h, fun k r' e => by rw [Option.some.inj (e.symm.trans h)]; exact k⟩
theorem Rl.nth_mat {rs : List Rl} {i : Nat} (h : i < rs.length) : Mat (Rl.nth rs i) :=
  (rs[i].mat).congr fun xs _ => (Rl.nth_is (List.getElem?_eq_getElem h) xs).symm
def Rl.joined (rs : List Rl) (n : Nat) (h : 0 < rs.length) (l : n ≤ 16) : Rl :=
  ⟨n, fun xs => (∀ x ∈ xs, x < n) ∧ Jn rs.length (Rl.nth rs) xs, (Mat.joined h fun _ hi => Rl.nth_mat hi).low n, fun xs h => h.1, l⟩
end MT
namespace Fs
open PySem L2
def top (i : Nat) : Stmt := PySem.Challenge.pw_freesets_k15_texts.main.body.getD i (.Pass ⟨0, 0, 0, 0⟩)
abbrev s_is_number : Stmt := top 7
abbrev n_is_number : List Str := ["value"]
theorem sc_is_number : FnScope n_is_number ["value"] (defScope s_is_number) :=
  ⟨rfl, rfl, rfl, by decide +kernel, rfl, by decide +kernel, by decide +kernel⟩
abbrev s_is_within : Stmt := top 8
abbrev n_is_within : List Str := ["value", "low", "high"]
theorem sc_is_within : FnScope n_is_within ["value", "low", "high"] (defScope s_is_within) :=
  ⟨rfl, rfl, rfl, by decide +kernel, rfl, by decide +kernel, by decide +kernel⟩
abbrev s_check_thing : Stmt := top 9
abbrev n_check_thing : List Str := ["thing", "many"]
theorem sc_check_thing : FnScope n_check_thing ["thing", "many"] (defScope s_check_thing) :=
  ⟨rfl, rfl, rfl, by decide +kernel, rfl, by decide +kernel, by decide +kernel⟩
abbrev s_check_set : Stmt := top 10
abbrev n_check_set : List Str := ["some", "many", "seen", "thing"]
theorem sc_check_set : FnScope n_check_set ["some", "many"] (defScope s_check_set) :=
  ⟨rfl, rfl, rfl, by decide +kernel, rfl, by decide +kernel, by decide +kernel⟩
abbrev s_Threads___init__ : Stmt := inClass (top 18) 0
abbrev n_Threads___init__ : List Str := ["self", "places", "ties", "tie"]
theorem sc_Threads___init__ : FnScope n_Threads___init__ ["self", "places", "ties"] (defScope s_Threads___init__) :=
  ⟨rfl, rfl, rfl, by decide +kernel, rfl, by decide +kernel, by decide +kernel⟩
abbrev s_Threads_many : Stmt := inClass (top 18) 1
abbrev n_Threads_many : List Str := ["self"]
theorem sc_Threads_many : FnScope n_Threads_many ["self"] (defScope s_Threads_many) :=
  ⟨rfl, rfl, rfl, by decide +kernel, rfl, by decide +kernel, by decide +kernel⟩
abbrev s_Threads_free : Stmt := inClass (top 18) 2
abbrev n_Threads_free : List Str := ["self", "some", "marks", "thing", "near", "far", "stays", "goes", "mark"]
theorem sc_Threads_free : FnScope n_Threads_free ["self", "some"] (defScope s_Threads_free) :=
  ⟨rfl, rfl, rfl, by decide +kernel, rfl, by decide +kernel, by decide +kernel⟩
abbrev s_Kinds___init__ : Stmt := inClass (top 19) 0
abbrev n_Kinds___init__ : List Str := ["self", "kinds", "most"]
theorem sc_Kinds___init__ : FnScope n_Kinds___init__ ["self", "kinds", "most"] (defScope s_Kinds___init__) :=
  ⟨rfl, rfl, rfl, by decide +kernel, rfl, by decide +kernel, by decide +kernel⟩
abbrev s_Kinds_many : Stmt := inClass (top 19) 1
abbrev n_Kinds_many : List Str := ["self"]
theorem sc_Kinds_many : FnScope n_Kinds_many ["self"] (defScope s_Kinds_many) :=
  ⟨rfl, rfl, rfl, by decide +kernel, rfl, by decide +kernel, by decide +kernel⟩
abbrev s_Kinds_free : Stmt := inClass (top 19) 2
abbrev n_Kinds_free : List Str := ["self", "some", "counts", "thing", "has", "may"]
theorem sc_Kinds_free : FnScope n_Kinds_free ["self", "some"] (defScope s_Kinds_free) :=
  ⟨rfl, rfl, rfl, by decide +kernel, rfl, by decide +kernel, by decide +kernel⟩
abbrev s_Posts___init__ : Stmt := inClass (top 20) 0
abbrev n_Posts___init__ : List Str := ["self", "wants", "posts"]
theorem sc_Posts___init__ : FnScope n_Posts___init__ ["self", "wants"] (defScope s_Posts___init__) :=
  ⟨rfl, rfl, rfl, by decide +kernel, rfl, by decide +kernel, by decide +kernel⟩
abbrev s_Posts_many : Stmt := inClass (top 20) 1
abbrev n_Posts_many : List Str := ["self"]
theorem sc_Posts_many : FnScope n_Posts_many ["self"] (defScope s_Posts_many) :=
  ⟨rfl, rfl, rfl, by decide +kernel, rfl, by decide +kernel, by decide +kernel⟩
abbrev s_Posts_free : Stmt := inClass (top 20) 2
abbrev n_Posts_free : List Str := ["self", "some", "holders", "thing"]
theorem sc_Posts_free : FnScope n_Posts_free ["self", "some"] (defScope s_Posts_free) :=
  ⟨rfl, rfl, rfl, by decide +kernel, rfl, by decide +kernel, by decide +kernel⟩
abbrev s_Bits___init__ : Stmt := inClass (top 21) 0
abbrev n_Bits___init__ : List Str := ["self", "rows"]
theorem sc_Bits___init__ : FnScope n_Bits___init__ ["self", "rows"] (defScope s_Bits___init__) :=
  ⟨rfl, rfl, rfl, by decide +kernel, rfl, by decide +kernel, by decide +kernel⟩
abbrev s_Bits_many : Stmt := inClass (top 21) 1
abbrev n_Bits_many : List Str := ["self"]
theorem sc_Bits_many : FnScope n_Bits_many ["self"] (defScope s_Bits_many) :=
  ⟨rfl, rfl, rfl, by decide +kernel, rfl, by decide +kernel, by decide +kernel⟩
abbrev s_Bits_free : Stmt := inClass (top 21) 2
abbrev n_Bits_free : List Str := ["self", "some", "taken", "thing", "row"]
theorem sc_Bits_free : FnScope n_Bits_free ["self", "some"] (defScope s_Bits_free) :=
  ⟨rfl, rfl, rfl, by decide +kernel, rfl, by decide +kernel, by decide +kernel⟩
abbrev s_check_ground : Stmt := top 22
abbrev n_check_ground : List Str := ["things"]
theorem sc_check_ground : FnScope n_check_ground ["things"] (defScope s_check_ground) :=
  ⟨rfl, rfl, rfl, by decide +kernel, rfl, by decide +kernel, by decide +kernel⟩
abbrev s_are_within : Stmt := top 23
abbrev n_are_within : List Str := ["values", "low", "high", "value"]
theorem sc_are_within : FnScope n_are_within ["values", "low", "high"] (defScope s_are_within) :=
  ⟨rfl, rfl, rfl, by decide +kernel, rfl, by decide +kernel, by decide +kernel⟩
abbrev s_is_tie : Stmt := top 24
abbrev n_is_tie : List Str := ["tie", "places", "place"]
theorem sc_is_tie : FnScope n_is_tie ["tie", "places"] (defScope s_is_tie) :=
  ⟨rfl, rfl, rfl, by decide +kernel, rfl, by decide +kernel, by decide +kernel⟩
abbrev s_are_posts : Stmt := top 25
abbrev n_are_posts : List Str := ["posts"]
theorem sc_are_posts : FnScope n_are_posts ["posts"] (defScope s_are_posts) :=
  ⟨rfl, rfl, rfl, by decide +kernel, rfl, by decide +kernel, by decide +kernel⟩
abbrev s_gets_post : Stmt := top 26
abbrev n_gets_post : List Str := ["thing", "wants", "holders", "tried", "post"]
theorem sc_gets_post : FnScope n_gets_post ["thing", "wants", "holders", "tried"] (defScope s_gets_post) :=
  ⟨rfl, rfl, rfl, by decide +kernel, rfl, by decide +kernel, by decide +kernel⟩
abbrev s_lessened : Stmt := top 27
abbrev n_lessened : List Str := ["row", "taken", "other"]
theorem sc_lessened : FnScope n_lessened ["row", "taken"] (defScope s_lessened) :=
  ⟨rfl, rfl, rfl, by decide +kernel, rfl, by decide +kernel, by decide +kernel⟩
abbrev s_written : Stmt := top 31
abbrev n_written : List Str := ["rule", "near", "far", "posts"]
theorem sc_written : FnScope n_written ["rule"] (defScope s_written) :=
  ⟨rfl, rfl, rfl, by decide +kernel, rfl, by decide +kernel, by decide +kernel⟩
abbrev s_read : Stmt := top 32
abbrev n_read : List Str := ["text", "head", "colon", "body", "words"]
theorem sc_read : FnScope n_read ["text"] (defScope s_read) :=
  ⟨rfl, rfl, rfl, by decide +kernel, rfl, by decide +kernel, by decide +kernel⟩
abbrev s_made_of : Stmt := top 33
abbrev n_made_of : List Str := ["name", "more", "things", "word"]
theorem sc_made_of : FnScope n_made_of ["name", "more", "things"] (defScope s_made_of) :=
  ⟨rfl, rfl, rfl, by decide +kernel, rfl, by decide +kernel, by decide +kernel⟩
abbrev s_row_of : Stmt := top 34
abbrev n_row_of : List Str := ["head", "things", "word"]
theorem sc_row_of : FnScope n_row_of ["head", "things"] (defScope s_row_of) :=
  ⟨rfl, rfl, rfl, by decide +kernel, rfl, by decide +kernel, by decide +kernel⟩
abbrev s_strings_of : Stmt := top 35
abbrev n_strings_of : List Str := ["numbers", "number"]
theorem sc_strings_of : FnScope n_strings_of ["numbers"] (defScope s_strings_of) :=
  ⟨rfl, rfl, rfl, by decide +kernel, rfl, by decide +kernel, by decide +kernel⟩
abbrev s_tie_of : Stmt := top 36
abbrev n_tie_of : List Str := ["word"]
theorem sc_tie_of : FnScope n_tie_of ["word"] (defScope s_tie_of) :=
  ⟨rfl, rfl, rfl, by decide +kernel, rfl, by decide +kernel, by decide +kernel⟩
abbrev s_posts_of : Stmt := top 37
abbrev n_posts_of : List Str := ["word"]
theorem sc_posts_of : FnScope n_posts_of ["word"] (defScope s_posts_of) :=
  ⟨rfl, rfl, rfl, by decide +kernel, rfl, by decide +kernel, by decide +kernel⟩
abbrev s_numbers_of : Stmt := top 38
abbrev n_numbers_of : List Str := ["words", "word"]
theorem sc_numbers_of : FnScope n_numbers_of ["words"] (defScope s_numbers_of) :=
  ⟨rfl, rfl, rfl, by decide +kernel, rfl, by decide +kernel, by decide +kernel⟩
abbrev s_number_of : Stmt := top 39
abbrev n_number_of : List Str := ["word", "figure"]
theorem sc_number_of : FnScope n_number_of ["word"] (defScope s_number_of) :=
  ⟨rfl, rfl, rfl, by decide +kernel, rfl, by decide +kernel, by decide +kernel⟩
abbrev s__law_cell_at : Stmt := top 41
abbrev n__law_cell_at : List Str := ["_law_script", "_law_k"]
theorem sc__law_cell_at : FnScope n__law_cell_at ["_law_script", "_law_k"] (defScope s__law_cell_at) :=
  ⟨rfl, rfl, rfl, by decide +kernel, rfl, by decide +kernel, by decide +kernel⟩
abbrev s__law_draw : Stmt := top 42
abbrev n__law_draw : List Str := ["_law_cell", "_law_k", "_law_many", "_law_mixed"]
theorem sc__law_draw : FnScope n__law_draw ["_law_cell", "_law_k", "_law_many"] (defScope s__law_draw) :=
  ⟨rfl, rfl, rfl, by decide +kernel, rfl, by decide +kernel, by decide +kernel⟩
abbrev s__law_made : Stmt := top 43
abbrev n__law_made : List Str := ["_law_cell", "_law_n", "_law_kind", "_law_places", "_law_ties", "_law_rule", "_law_told", "_law_most", "_law_kinds", "_law_wants", "_law_k", "_law_first", "_law_rows", "_law_tie", "_law_bound", "_law_p", "_law_posts", "_law_post", "_law_row"]
theorem sc__law_made : FnScope n__law_made ["_law_cell", "_law_n"] (defScope s__law_made) :=
  ⟨rfl, rfl, rfl, by decide +kernel, rfl, by decide +kernel, by decide +kernel⟩
abbrev s_law : Stmt := top 44
abbrev n_law : List Str := ["_law_script", "_law_n", "_law_rule", "_law_text", "_law_told", "_law_other", "_law_at", "_law_cell", "_law_some", "_law_k"]
theorem sc_law : FnScope n_law ["_law_script"] (defScope s_law) :=
  ⟨rfl, rfl, rfl, by decide +kernel, rfl, by decide +kernel, by decide +kernel⟩

/-! ### words of our own, for any of the program's laws -/
section
/-- which names of the built-ins are still theirs -/
structure Bl (mg : Str → Option Value) : Prop where
  isinstance_ : mg "isinstance" = none
  int_ : mg "int" = none
  bool_ : mg "bool" = none
  list_ : mg "list" = none
  tuple_ : mg "tuple" = none
  len_ : mg "len" = none
  all_ : mg "all" = none
  range_ : mg "range" = none
  min_ : mg "min" = none
  sorted_ : mg "sorted" = none
  set_ : mg "set" = none
theorem room65 {k : Nat} {A : Around} (hr : Room k A) : A.units + 65 < cLine := by
  have := hr.un
  omega
theorem yesT {σ : St} {H : Hp} {A B : Hp → Prop} (h : A H) : tYes σ H (fun b H3 => if b = true then A H3 else B H3) := by
  show (if true = true then A H else B H)
  exact iteT h
theorem take_more {α : Type} {l : List α} {i : Nat} {x : α} (h : l[i]? = some x) : l.take (i + 1) = l.take i ++ [x] := by
  rw [List.take_add_one, h]
  rfl
theorem map_at {α β : Type} {f : α → β} {l : List α} {i : Nat} {y : β} (h : (l.map f)[i]? = some y) : ∃ x, l[i]? = some x ∧ y = f x := by
  rw [List.getElem?_map] at h
  cases e : l[i]? with
  | none => rw [e] at h; cases h
  | some x => rw [e] at h; exact ⟨x, rfl, (Option.some.inj h).symm⟩
theorem flat_ints : ∀ xs : List Int, (xs.map V.int).all flatV = true
  | [] => rfl
  | _ :: xs => flat_ints xs
theorem in_ints (x : Int) : ∀ xs : List Int, inV (.int x) (xs.map V.int) = decide (x ∈ xs)
  | [] => rfl
  | y :: xs => by
    have ih := in_ints x xs
    show ((y == x) || inV (.int x) (xs.map V.int)) = decide (x ∈ y :: xs)
    rw [ih]
    by_cases e : y = x
    · subst e; simp
    · have e' : ¬ x = y := fun z => e z.symm
      simp [e, e']
theorem flat_nats : ∀ xs : List Nat, (xs.map (fun n : Nat => V.int (n : Int))).all flatV = true
  | [] => rfl
  | _ :: xs => flat_nats xs
theorem in_nats (x : Nat) : ∀ xs : List Nat, inV (.int (x : Int)) (xs.map (fun n : Nat => V.int (n : Int))) = decide (x ∈ xs)
  | [] => rfl
  | y :: xs => by
    have ih := in_nats x xs
    show (((y : Int) == (x : Int)) || inV (.int (x : Int)) (xs.map (fun n : Nat => V.int (n : Int)))) = decide (x ∈ y :: xs)
    rw [ih]
    by_cases e : y = x
    · subst e; simp
    · have e' : ¬ x = y := fun z => e z.symm
      have e2 : ((y : Int) == (x : Int)) = false := beq_false_of_ne (by omega)
      rw [e2]
      simp [e']
/-- two lists of numbers are data -/
theorem dp_ints {K : PySem.W.Frag} {H : Hp} : ∀ xs : List Int, DpAll K H (xs.map V.int) (xs.map PyData.int)
  | [] => .nil
  | x :: xs => .cons (.int x) (dp_ints xs)
theorem eqv_ints (xs : List Int) : PyData.eqv (.list (xs.map PyData.int)) (.list (xs.map PyData.int)) = true := SeqAt.eqv_refl _ (SeqAt.canLay_of_shaped (PySem.W.ke_shaped_ints xs))
/-- a number that is not negative -/
abbrev nv (n : Nat) : V := .int (n : Int)
theorem nv_ints (l : List Nat) : l.map nv = (l.map (fun n : Nat => (n : Int))).map V.int := by
  rw [List.map_map]
  rfl
theorem nd_cast : ∀ {xs : List Nat}, xs.Nodup → (xs.map (fun n : Nat => (n : Int))).Nodup
  | [], _ => List.nodup_nil
  | x :: xs, h => by
    have h' := List.nodup_cons.mp h
    rw [List.map_cons, List.nodup_cons]
    refine ⟨fun hm => ?_, nd_cast h'.2⟩
    obtain ⟨y, hy, e⟩ := List.mem_map.mp hm
    have : y = x := by omega
    rw [this] at hy
    exact h'.1 hy
theorem dec_nv (n : Nat) : decide (nv n = V.int 0) = decide (n = 0) := by
  rw [Bool.eq_iff_iff, decide_eq_true_eq, decide_eq_true_eq]
  constructor
  · intro e
    have := V.int.inj e
    omega
  · intro e
    rw [e]
    rfl
theorem dp_nats {K : PySem.W.Frag} {H : Hp} (xs : List Nat) : DpAll K H (xs.map nv) ((xs.map (fun n : Nat => (n : Int))).map PyData.int) := by
  rw [nv_ints]
  exact dp_ints _
theorem same_upd {H : Hp} {l : Addr} {o : HO} (h : H l = none) : Same H (upd H l o) := fun b u e => by
  rw [upd_ne (ne_of_none e h)]
  exact e
theorem same_to {H H1 : Hp} {l : Addr} {o : HO} (s : Same H H1) (h : H l = none) : Same H (upd H1 l o) := fun b u e => by
  rw [upd_ne (ne_of_none e h)]
  exact s b u e
end
section
variable {P : Program} {w : World} {K : PySem.W.Frag} {mg : Str → Option Value} {base : Heap} {f : Addr} {fd : FuncData}
/-- tuple(x), list(x), len(x), where they may stand in a comprehension -/
def rTupOf (K : PySem.W.Frag) : List V → Hp → VK → Prop := fun xs H Q => ∃ p ys, xs = [.ref p] ∧ ((SqL K H p ys ∧ ∀ l, H l = none → Q (.ref l) (upd H l (.tup ys))) ∨ (SqT K H p ys ∧ Q (.ref p) H))
def rLstOf (K : PySem.W.Frag) : List V → Hp → VK → Prop := fun xs H Q => ∃ p ys, xs = [.ref p] ∧ (SqL K H p ys ∨ SqT K H p ys) ∧ ∀ l, H l = none → Q (.ref l) (upd H l (.lst ys))
def rLenOf (K : PySem.W.Frag) : List V → Hp → VK → Prop := fun xs H Q => ∃ p ys, xs = [.ref p] ∧ (SqL K H p ys ∨ SqT K H p ys) ∧ Q (.int ys.length) H
theorem call_tupK {X : Cx} {K : PySem.W.Frag} (eK : X.K = K) : CallR X (.type "tuple") (rTupOf K) := by subst eK; exact call_tuple_of
theorem call_lstK {X : Cx} {K : PySem.W.Frag} (eK : X.K = K) : CallR X (.type "list") (rLstOf K) := by subst eK; exact call_list_of
theorem call_lenK {X : Cx} {K : PySem.W.Frag} (eK : X.K = K) : CallR X (.builtin "len") (rLenOf K) := by subst eK; exact call_len_seq
theorem call_isiK {X : Cx} {K : PySem.W.Frag} (eK : X.K = K) : CallR X (.builtin "isinstance") (rIsi K) := by subst eK; exact call_isi
/-- a tuple as a target, where it may stand in a comprehension -/
theorem pg_tupK {X : Cx} {K : PySem.W.Frag} {es : List Expr} {k : Nat} {t : TGs} {n : Nat} {pos : Pos} (eK : X.K = K) (hc : X.calm = true) (h : PGs X es t)
    (hn : (assignEach es X.env).length = n := by rfl) (hst : (assignEach es X.env).findIdx? (·.1) = none := by rfl) : PG X (.Tuple es k pos) (gTup K n t) := by
  subst eK
  exact pg_tup hc h hn hst
/-- xs.count(e), where it may stand in a comprehension -/
theorem pe_cntK {X : Cx} {K : PySem.W.Frag} {o e : Expr} {to : TE} {t : TA} {apos cpos : Pos} (eK : X.K = K) (ho : PE X o to) (ha : PA X [e] t)
    (hbase : attributeBase o "count" X.env (eval o X.env) = eval o X.env := by rfl)
    (hfew : ((backTo cpos (starEach [e] X.env)).all (fun x => !x.1) && (backToKw cpos (keywordEach [] X.env)).all (fun x => x.1.isSome)
      && decide ([e].length + ([] : List Keyword).length + (if ([] : List Keyword).isEmpty then 0 else 1) < 30)) = true := by rfl)
    (hline : (apos.endLine == cpos.line) = true := by rfl) (hs : starEach [e] X.env = [(false, eval e X.env)] := by rfl) :
    PE X (.Call (.Attribute o "count" apos) [e] [] cpos) (tBM K "list" (rCntI K) to t) := by
  subst eK
  exact pe_bm PySem.F.plainAttrs_list PySem.F.slot_list_count PySem.F.type_list_count mt_lcount ho ha hbase hfew hline hs rfl
/-! ### is_number, is_within, check_thing, check_set -/
def spNum : Sp := fun vs H Q _ => ∃ i : Int, vs = [.int i] ∧ Q (.bl true) H
theorem ok_num (B : Bl mg) (F : L2.Fun K "is_number" "is_number" s_is_number f fd) (g : mg "is_number" = some (.ref f)) : C8.Cal P w K mg base 1 "is_number" spNum [] := by
  refine ⟨f, fd, ["value"], [], F.ok sc_is_number (fun vs H Q E h => ?_) (fun cdv A outer s H vs Q E hr h => ?_), g, F.kp, F.binds (ps := ["value"]) (fun _ _ _ _ _ _ us hl => match us, hl with | [_], _ => rfl), .nil⟩
  · obtain ⟨i, rfl, _⟩ := h
    rfl
  · obtain ⟨i, rfl, q⟩ := h
    refine ⟨_, (pss_one (ps_ret (pe_and (pe_callB (call_isiK (K := K) rfl) (by rfl) B.isinstance_ (by decide +kernel) (pa_cons (pv 0) (pa_cons (pe_bltn (v := .ty "int") (u := .type "int") (by rfl) B.int_ (by decide +kernel) rfl) pa_nil))) (pe_one (pe_not (pe_callB (call_isiK (K := K) rfl) (by rfl) B.isinstance_ (by decide +kernel) (pa_cons (pv 0) (pa_cons (pe_bltn (v := .ty "bool") (u := .type "bool") (by rfl) B.bool_ (by decide +kernel) rfl) pa_nil)))))))), ?_⟩
    exact ⟨_, rfl, _, _, _, _, true, rfl, ClsV.ty _, TyX.base (TyOf.int i), kit_ty (by decide +kernel), true, rfl, iteT ⟨_, rfl, _, _, _, _, false, rfl, ClsV.ty _, TyX.base (TyOf.int i), kit_ty (by decide +kernel), false, rfl, q⟩⟩
def spWithin : Sp := fun vs H Q _ => ∃ i lo hi : Int, vs = [.int i, .int lo, .int hi] ∧ Q (.bl (decide (lo ≤ i) && decide (i ≤ hi))) H
theorem ok_within (F : L2.Fun K "is_within" "is_within" s_is_within f fd) (g : mg "is_within" = some (.ref f)) (c_is_number : C8.Cal P w K mg base 1 "is_number" spNum []) : C8.Cal P w K mg base 2 "is_within" spWithin [] := by
  refine ⟨f, fd, ["value", "low", "high"], [], F.ok sc_is_within (fun vs H Q E h => ?_) (fun cdv A outer s H vs Q E hr h => ?_), g, F.kp, F.binds (ps := ["value", "low", "high"]) (fun _ _ _ _ _ _ us hl => match us, hl with | [_, _, _], _ => rfl), .nil⟩
  · obtain ⟨i, lo, hi, rfl, _⟩ := h
    rfl
  · obtain ⟨i, lo, hi, rfl, q⟩ := h
    refine ⟨_, (pss_one (ps_ret (pe_and (C8.pe_c c_is_number hr (by first | decide | exact Nat.le_refl _ | omega) rfl (pa_cons (pv 0) pa_nil)) (pe_one (pe_chain op_le op_le (pv 1) (pv 0) (pv 2)))))), ?_⟩
    refine ⟨_, rfl, i, rfl, true, rfl, iteT ⟨_, rfl, _, rfl, lo, i, rfl, rfl, decide (lo ≤ i), rfl, ?_⟩⟩
    cases e : decide (lo ≤ i) with
    | true =>
      rw [e] at q
      exact iteT ⟨_, rfl, i, hi, rfl, rfl, q⟩
    | false =>
      rw [e] at q
      exact iteF q
def spThing : Sp := fun vs H Q _ => ∃ i n : Int, vs = [.int i, .int n] ∧ 0 ≤ i ∧ i < n ∧ Q .non H
theorem ok_thing (F : L2.Fun K "check_thing" "check_thing" s_check_thing f fd) (g : mg "check_thing" = some (.ref f)) (c_is_within : C8.Cal P w K mg base 2 "is_within" spWithin []) : C8.Cal P w K mg base 3 "check_thing" spThing [] := by
  refine ⟨f, fd, ["thing", "many"], [], F.ok sc_check_thing (fun vs H Q E h => ?_) (fun cdv A outer s H vs Q E hr h => ?_), g, F.kp, F.binds (ps := ["thing", "many"]) (fun _ _ _ _ _ _ us hl => match us, hl with | [_, _], _ => rfl), .nil⟩
  · obtain ⟨i, n, rfl, _⟩ := h
    rfl
  · obtain ⟨i, n, rfl, h0, h1, q⟩ := h
    refine ⟨_, (pss_one (ps_if (pt_not (pt_val (C8.pe_c c_is_within hr (by first | decide | exact Nat.le_refl _ | omega) rfl (pa_cons (pv 0) (pa_cons pe_int (pa_cons (pe_op op_sub (pv 1) pe_int) pa_nil)))))) (pss_one ps_never) pss_nil)), ?_⟩
    have e : (decide ((0 : Int) ≤ i) && decide (i ≤ n - 1)) = true := by
      rw [Bool.and_eq_true]
      exact ⟨decide_eq_true h0, decide_eq_true (by omega)⟩
    exact ⟨_, rfl, _, rfl, _, _, rfl, rfl, i, 0, n - 1, rfl, true, by rw [e], iteF q⟩
def spSet : Sp := fun vs H Q _ => ∃ (a : Addr) (xs : List Int) (n : Int), vs = [.ref a, .int n] ∧ H a = some (.lst (xs.map V.int)) ∧ (∀ x ∈ xs, 0 ≤ x ∧ x < n) ∧ xs.Nodup ∧ xs.length ≤ 1000 ∧ ∀ H', Same H H' → Q .non H'
theorem ok_set (B : Bl mg) (F : L2.Fun K "check_set" "check_set" s_check_set f fd) (g : mg "check_set" = some (.ref f)) (c_check_thing : C8.Cal P w K mg base 3 "check_thing" spThing []) : C8.Cal P w K mg base 4 "check_set" spSet [] := by
  refine ⟨f, fd, ["some", "many"], [], F.ok sc_check_set (fun vs H Q E h => ?_) (fun cdv A outer s H vs Q E hr h => ?_), g, F.kp, F.binds (ps := ["some", "many"]) (fun _ _ _ _ _ _ us hl => match us, hl with | [_, _], _ => rfl), .nil⟩
  · obtain ⟨a, xs, n, rfl, _⟩ := h
    rfl
  · obtain ⟨a, xs, n, rfl, ha, hx, hnd, hlen, q⟩ := h
    refine ⟨_, (pss_cons (ps_if (pt_not (pt_val (pe_callB (call_isiK (K := K) rfl) (by rfl) B.isinstance_ (by decide +kernel) (pa_cons (pv 0) (pa_cons (pe_bltn (v := .ty "list") (u := .type "list") (by rfl) B.list_ (by decide +kernel) rfl) pa_nil))))) (pss_one ps_never) pss_nil)
      (pss_cons (ps_set (i := 2) sc_check_set.nd rfl (Or.inl rfl) (pe_lst pa_nil))
      (pss_one (ps_for PassesOwn.never rfl (pi_list (pv 0)) (pg_name (i := 3) sc_check_set.nd rfl (Or.inl rfl)) (pss_cons (ps_expr (C8.pe_c c_check_thing hr (by first | decide | exact Nat.le_refl _ | omega) rfl (pa_cons (pv 3) (pa_cons (pv 1) pa_nil))))
      (pss_cons (ps_if (pt_cmpR op_in_seq (pv 3) (pv 2) (by rfl)) (pss_one ps_never) pss_nil)
      (pss_one (ps_expr (pe_bm PySem.F.plainAttrs_list PySem.F.slot_list_append PySem.F.type_list_append mt_append (pv 2) (pa_cons (pv 3) pa_nil)))))))))), ?_⟩
    refine ⟨_, rfl, _, _, _, _, true, rfl, ClsV.ty _, TyX.base (TyOf.lst ha), kit_ty (by decide +kernel), true, rfl, iteF ?_⟩
    refine ⟨Nat.zero_le _, fun l hl => ?_⟩
    refine ⟨_, rfl, a, rfl, ⟨_, SqL.of (same_upd hl _ _ ha)⟩, for_list (K := K) (a := a) (xs := xs.map V.int) (fun i σ H' => ∃ v : Option V, σ = [some (.ref a), some (.int n), some (.ref l), v] ∧ Same H H' ∧ H' l = some (.lst ((xs.take i).map V.int)))
      ⟨none, rfl, same_upd hl, upd_same⟩ (fun i σ H' _ ⟨_, _, s5, _⟩ => SqL.of (s5 _ _ ha)) ?_ ?_⟩
    · rintro i y σ H' hi ⟨v, rfl, s5, hL⟩
      obtain ⟨x, hx', rfl⟩ := map_at hi
      obtain ⟨x0, x1⟩ := hx x (List.mem_of_getElem? hx')
      have hin : inV (.int x) ((xs.take i).map V.int) = false := by
        rw [in_ints]
        refine decide_eq_false fun hm => ?_
        obtain ⟨j, hj⟩ := List.getElem?_of_mem hm
        have hji : j < i := Nat.lt_of_not_le fun le => by
          rw [List.getElem?_take, if_neg (by omega)] at hj
          cases hj
        rw [List.getElem?_take, if_pos hji] at hj
        have := nd_ix hnd hj hx'
        omega
      have hl' : (xs.take i).length ≤ 1000 := Nat.le_trans (by rw [List.length_take]; omega) hlen
      refine ⟨_, rfl, _, rfl, x, n, rfl, x0, x1, ?_⟩
      refine ⟨_, rfl, _, rfl, l, _, rfl, .inl (SqL.of hL), rfl, flat_ints _, false, by rw [if_neg Bool.false_ne_true, hin], iteF ?_⟩
      refine ⟨_, rfl, .inl ⟨rfl, _, SqL.of hL⟩, _, rfl, l, _, _, rfl, rfl, hL, by rw [List.length_map]; exact small1000 hl', ?_⟩
      refine ⟨_, rfl, same_to s5 hl, ?_⟩
      rw [take_more hx', List.map_append]
      exact upd_same
    · rintro σ H' ⟨v, rfl, s5, hL⟩
      exact q _ s5
end
/-! ### the law's own readers: a cell of the script, a draw -/
def cellAt (ns : List Int) (k : Nat) : Int := ns.getD k 0
def drawF (c k m : Int) : Int :=
  let x := (c % 1000000007 * 48271 + k * 69621 + 7) % 1000000007
  x * x / 1013 % 1000003 % m
theorem drawF_lo {c k m : Int} (h : 0 < m) : 0 ≤ drawF c k m := Int.emod_nonneg _ (by omega)
theorem drawF_hi {c k m : Int} (h : 0 < m) : drawF c k m < m := Int.emod_lt_of_pos _ h
section
variable {P : Program} {w : World} {K : PySem.W.Frag} {mg : Str → Option Value} {base : Heap} {f : Addr} {fd : FuncData}
def spCellAt (K : PySem.W.Frag) : Sp := fun vs H Q _ => ∃ (a : Addr) (ns : List Int) (k : Nat), vs = [.ref a, .int (k : Int)] ∧ SqL K H a (ns.map V.int) ∧ Q (.int (cellAt ns k)) H
theorem ok_cellAt (B : Bl mg) (F : L2.Fun K "_law_cell_at" "_law_cell_at" s__law_cell_at f fd) (g : mg "_law_cell_at" = some (.ref f)) : C8.Cal P w K mg base 1 "_law_cell_at" (spCellAt K) [] := by
  refine ⟨f, fd, ["_law_script", "_law_k"], [], F.ok sc__law_cell_at (fun vs H Q E h => ?_) (fun cdv A outer s H vs Q E hr h => ?_), g, F.kp, F.binds (ps := ["_law_script", "_law_k"]) (fun _ _ _ _ _ _ us hl => match us, hl with | [_, _], _ => rfl), .nil⟩
  · obtain ⟨a, ns, k, rfl, _⟩ := h
    rfl
  · obtain ⟨a, ns, k, rfl, ha, q⟩ := h
    refine ⟨_, (pss_cons (ps_if (pt_cmpR op_lt (pv 1) (pe_callB (call_lenK (K := K) rfl) (by rfl) B.len_ (by decide +kernel) (pa_cons (pv 0) pa_nil)) (nomark _)) (pss_one (ps_ret (pe_ix (r := rIxL K) ix_list (pv 0) (pv 1) (fun _ _ => rfl)))) pss_nil)
      (pss_one (ps_ret pe_int))), ?_⟩
    refine ⟨_, rfl, _, rfl, a, _, rfl, .inl ha, (k : Int), ((ns.map V.int).length : Int), rfl, rfl, _, rfl, ?_⟩
    rw [List.length_map]
    by_cases c : (k : Int) < (ns.length : Int)
    · have hk : k < ns.length := by omega
      rw [decide_eq_true c]
      have e : cellAt ns k = ns[k] := by
        unfold cellAt
        rw [List.getD_eq_getElem?_getD, List.getElem?_eq_getElem hk]
        rfl
      rw [e] at q
      refine iteT ⟨_, rfl, _, rfl, a, _, _, _, rfl, rfl, ha, atI_nat (v := V.int ns[k]) ?_, q⟩
      rw [List.getElem?_map, List.getElem?_eq_getElem hk]
      rfl
    · rw [decide_eq_false c]
      have e : cellAt ns k = 0 := by
        unfold cellAt
        rw [List.getD_eq_getElem?_getD, List.getElem?_eq_none (by omega)]
        rfl
      rw [e] at q
      exact iteF q
def spDraw : Sp := fun vs H Q _ => ∃ c k m : Int, vs = [.int c, .int k, .int m] ∧ 0 < m ∧ -1000 < k ∧ k < 1000 ∧ Q (.int (drawF c k m)) H
theorem ok_draw (F : L2.Fun K "_law_draw" "_law_draw" s__law_draw f fd) (g : mg "_law_draw" = some (.ref f)) : C8.Cal P w K mg base 1 "_law_draw" spDraw [] := by
  refine ⟨f, fd, ["_law_cell", "_law_k", "_law_many"], [], F.ok sc__law_draw (fun vs H Q E h => ?_) (fun cdv A outer s H vs Q E hr h => ?_), g, F.kp, F.binds (ps := ["_law_cell", "_law_k", "_law_many"]) (fun _ _ _ _ _ _ us hl => match us, hl with | [_, _, _], _ => rfl), .nil⟩
  · obtain ⟨c, k, m, rfl, _⟩ := h
    rfl
  · obtain ⟨c, k, m, rfl, hm, k0, k1, q⟩ := h
    refine ⟨_, (pss_cons (ps_set (i := 3) sc__law_draw.nd rfl (Or.inl rfl) (pe_op op_mod (pe_op op_add (pe_op op_add (pe_op op_mul (pe_op op_mod (pv 0) pe_int) pe_int) (pe_op op_mul (pv 1) pe_int)) pe_int) pe_int))
      (pss_one (ps_ret (pe_op op_mod (pe_op op_mod (pe_op op_fdiv (pe_op op_mul (pv 3) (pv 3)) pe_int) pe_int) (pv 2))))), ?_⟩
    have x0 : 0 ≤ (c % 1000000007 * 48271 + k * 69621 + 7) % 1000000007 := Int.emod_nonneg _ (by decide)
    have x1 : (c % 1000000007 * 48271 + k * 69621 + 7) % 1000000007 < 1000000007 := Int.emod_lt_of_pos _ (by decide)
    have bx : ∀ x : Int, 0 ≤ x → x < 1000000007 → -(2 ^ 64) < x ∧ x < 2 ^ 64 := fun x a b => ⟨by omega, by omega⟩
    refine ⟨_, rfl, _, _, rfl, rfl, (by show (0 : Int) < 1000000007; decide), _, _, rfl, rfl, .inr ⟨by decide, by decide⟩,
      _, rfl, _, _, rfl, rfl, .inr ⟨by decide, by decide⟩, _, _, rfl, rfl, _, _, rfl, rfl, _, _, rfl, rfl, (by show (0 : Int) < 1000000007; decide), ?_⟩
    refine ⟨_, rfl, _, rfl, _, _, rfl, rfl, .inl (bx _ x0 x1), _, _, rfl, rfl, ⟨by decide, by decide⟩, _, _, rfl, rfl, (by show (0 : Int) < 1000003; decide), _, rfl, _, _, rfl, rfl, hm, q⟩
end
/-! ### check_ground -/
section
variable {P : Program} {w : World} {K : PySem.W.Frag} {mg : Str → Option Value} {base : Heap} {f : Addr} {fd : FuncData}
/-- what stands under the program's own names of numbers -/
def Num (mg : Str → Option Value) (x : Str) (i : Int) : Prop := ∃ u, mg x = some u ∧ RelV (.int i) u
/-- a class under its name -/
def Own (mg : Str → Option Value) (x : Str) (C : Addr) : Prop := ∃ u, mg x = some u ∧ RelV (.ref C) u
/-- what isinstance asks of a class of the program, and of the one above it -/
structure Isi (K : PySem.W.Frag) (C CR : Addr) : Prop where
  ha : PySem.W.findIn K (.ref C) "__class__" = some (some (.builtin "object.__class__"))
  hn : PySem.W.specialIn K (.builtin "object.__class__") "__get__" = some (some (.builtin "getset_descriptor.__get__"))
  htk : PySem.W.takesIn K (.builtin "object.__class__") = some true
  hm : PySem.W.mroIn K C (.type "object") = some true
  up : PySem.W.kitOne K (.ref C) (.ref CR) = some true
theorem kit_up {C CR : Addr} (h2 : PySem.W.isClsIn K CR = true) (h3 : PySem.W.typeIn K (.ref CR) = some (.type "type")) (h4 : PySem.W.subIn K (.ref C) (.ref CR) = some true) : PySem.W.kitOne K (.ref C) (.ref CR) = some true := by
  unfold PySem.W.kitOne
  by_cases c : (Value.ref C == Value.ref CR) = true
  · rw [if_pos c]
  · rw [if_neg c]
    have h2' : (PySem.W.clsIn K CR).isSome = true := h2
    have e2 : ((PySem.W.clsIn K CR).isSome && PySem.W.typeIn K (.ref CR) == some (.type "type")) = true := by
      rw [h2', h3] <;> rfl
    show (if ((PySem.W.clsIn K CR).isSome && PySem.W.typeIn K (.ref CR) == some (.type "type")) = true then PySem.W.subIn K (.ref C) (.ref CR) else none) = some true
    rw [if_pos e2]
    exact h4
def spGround : Sp := fun vs H Q _ => ∃ (a : Addr) (xs : List V), vs = [.ref a] ∧ H a = some (.lst xs) ∧ xs.length ≤ 16 ∧ Q .non H
structure Gl_ (mg : Str → Option Value) (CR : Addr) : Prop where
  Rule : Own mg "Rule" CR
def spLaw (K : PySem.W.Frag) : Sp := fun vs H Q _ => ∃ (a : Addr) (ns : List Int), vs = [.ref a] ∧ SqL K H a (ns.map V.int) ∧ ns.length ≤ 63 ∧ ∀ H', Q (.bl true) H'
structure Gg (mg : Str → Option Value) : Prop where
  MOST_THINGS : Num mg "MOST_THINGS" 16
theorem ok_ground (B : Bl mg) (G : Gg mg) (F : L2.Fun K "check_ground" "check_ground" s_check_ground f fd) (g : mg "check_ground" = some (.ref f)) : C8.Cal P w K mg base 1 "check_ground" spGround [] := by
  refine ⟨f, fd, ["things"], [], F.ok sc_check_ground (fun vs H Q E h => ?_) (fun cdv A outer s H vs Q E hr h => ?_), g, F.kp, F.binds (ps := ["things"]) (fun _ _ _ _ _ _ us hl => match us, hl with | [_], _ => rfl), .nil⟩
  · obtain ⟨a, xs, rfl, _⟩ := h
    rfl
  · obtain ⟨a, xs, rfl, ha, hl, q⟩ := h
    refine ⟨_, (pss_cons (ps_if (pt_not (pt_val (pe_callB (call_isiK (K := K) rfl) (by rfl) B.isinstance_ (by decide +kernel) (pa_cons (pv 0) (pa_cons (pe_bltn (v := .ty "list") (u := .type "list") (by rfl) B.list_ (by decide +kernel) rfl) pa_nil))))) (pss_one ps_never) pss_nil)
      (pss_one (ps_if (pt_cmpR op_gt (pe_callB (call_lenK (K := K) rfl) (by rfl) B.len_ (by decide +kernel) (pa_cons (pv 0) pa_nil)) (C8.pe_gc rfl G.MOST_THINGS) (nomark _)) (pss_one ps_never) pss_nil))), ?_⟩
    refine ⟨_, rfl, _, _, _, _, true, rfl, ClsV.ty _, TyX.base (TyOf.lst ha), kit_ty (by decide +kernel), true, rfl, iteF ?_⟩
    refine ⟨_, rfl, a, _, rfl, .inl (SqL.of ha), _, _, rfl, rfl, false, ?_, iteF q⟩
    have : ¬ ((16 : Int) < (xs.length : Int)) := by omega
    show V.bl (decide ((16 : Int) < (xs.length : Int))) = V.bl false
    rw [decide_eq_false this]
end
/-! ### are_within -/
section
variable {P : Program} {w : World} {K : PySem.W.Frag} {mg : Str → Option Value} {base : Heap} {f : Addr} {fd : FuncData}
def inB (lo hi x : Int) : Bool := decide (lo ≤ x) && decide (x ≤ hi)
def spAre : Sp := fun vs H Q _ => ∃ (a : Addr) (xs : List Int) (lo hi : Int), vs = [.ref a, .int lo, .int hi] ∧ H a = some (.lst (xs.map V.int)) ∧ xs.length ≤ 1000 ∧ ∀ H', Same H H' → Q (.bl (xs.all (inB lo hi))) H'
theorem all_map {α : Type} (p : α → Bool) : ∀ xs : List α, (xs.map p).all id = xs.all p
  | [] => rfl
  | x :: xs => by
    show (p x && (xs.map p).all id) = (p x && xs.all p)
    rw [all_map p xs]
theorem ok_are (B : Bl mg) (F : L2.Fun K "are_within" "are_within" s_are_within f fd) (g : mg "are_within" = some (.ref f)) (c_is_within : C8.Cal P w K mg base 2 "is_within" spWithin []) : C8.Cal P w K mg base 3 "are_within" spAre [] := by
  refine ⟨f, fd, ["values", "low", "high"], [], F.ok sc_are_within (fun vs H Q E h => ?_) (fun cdv A outer s H vs Q E hr h => ?_), g, F.kp, F.binds (ps := ["values", "low", "high"]) (fun _ _ _ _ _ _ us hl => match us, hl with | [_, _, _], _ => rfl), .nil⟩
  · obtain ⟨a, xs, lo, hi, rfl, _⟩ := h
    rfl
  · obtain ⟨a, xs, lo, hi, rfl, ha, hlen, q⟩ := h
    refine ⟨_, (pss_one (ps_ret (pe_and (pe_callB (call_isiK (K := K) rfl) (by rfl) B.isinstance_ (by decide +kernel) (pa_cons (pv 0) (pa_cons (pe_bltn (v := .ty "list") (u := .type "list") (by rfl) B.list_ (by decide +kernel) rfl) pa_nil))) (pe_one (pe_callB (cr_all rfl) (by rfl) B.all_ (by decide +kernel) (pa_cons (pe_lc (own := [("value", 3)]) rfl sc_are_within.nd (pi_list (pv 0)) (blkOk_by (own := [("value", 3)]) (N := n_are_within) (sc := defScope s_are_within) (by decide +kernel)) (fun _ _ _ _ _ => (pg_name (i := 3) sc_are_within.nd rfl (Or.inl rfl))) (fun _ _ _ _ _ => pts_nil) (fun _ _ _ _ _ => (C8.pe_c c_is_within hr (by first | decide | exact Nat.le_refl _ | omega) rfl (pa_cons (pv 3) (pa_cons (pv 1) (pa_cons (pv 2) pa_nil)))))) pa_nil)))))), ?_⟩
    refine ⟨_, rfl, _, _, _, _, true, rfl, ClsV.ty _, TyX.base (TyOf.lst ha), kit_ty (by decide +kernel), true, rfl, iteT ?_⟩
    refine ⟨_, rfl, a, rfl, ⟨_, SqL.of ha⟩, fun D hD => lc_list (K := K) (a := a) (xs := xs.map V.int) (fun i H' => Same H H' ∧ H' D = some (.lst (((xs.take i).map (inB lo hi)).map V.bl)))
      ⟨same_upd hD, upd_same⟩ (fun i H' _ p => SqL.of (p.1 _ _ ha)) ?_ ?_⟩
    · rintro i y H' hi' ⟨s5, hL⟩
      obtain ⟨x, hx, rfl⟩ := map_at hi'
      refine ⟨rfl, yesT ?_⟩
      refine ⟨_, rfl, _, rfl, _, rfl, x, lo, hi, rfl, _, hL, ?_, same_to s5 hD, ?_⟩
      · rw [List.length_map, List.length_map]
        exact small1000 (Nat.le_trans (by rw [List.length_take]; omega) hlen)
      · rw [take_more hx, List.map_append, List.map_append]
        exact upd_same
    · rintro H' ⟨s5, hL⟩
      rw [List.length_map, List.take_length] at hL
      refine ⟨D, _, rfl, SqL.of hL, ?_⟩
      rw [all_map]
      exact q _ s5
end
/-! ### lists of pairs of numbers -/
section
/-- at these addresses stand tuples of these pairs -/
def prs (H : Hp) : List Addr → List (Nat × Nat) → Prop
  | [], [] => True
  | t :: ts, e :: es => H t = some (.tup [nv e.1, nv e.2]) ∧ prs H ts es
  | _, _ => False
theorem prs.len {H : Hp} : ∀ {ts : List Addr} {es : List (Nat × Nat)}, prs H ts es → ts.length = es.length
  | [], [], _ => rfl
  | _ :: _, _ :: _, h => congrArg (· + 1) h.2.len
  | [], _ :: _, h => False.elim h
  | _ :: _, [], h => False.elim h
theorem prs.keep {H H' : Hp} : ∀ {ts : List Addr} {es : List (Nat × Nat)}, prs H ts es → (∀ t xs, H t = some (.tup xs) → H' t = some (.tup xs)) → prs H' ts es
  | [], [], _, _ => True.intro
  | _ :: _, _ :: _, h, k => ⟨k _ _ h.1, h.2.keep k⟩
  | [], _ :: _, h, _ => False.elim h
  | _ :: _, [], h, _ => False.elim h
theorem prs.same {H H' : Hp} {ts : List Addr} {es : List (Nat × Nat)} (h : prs H ts es) (s : Same H H') : prs H' ts es := h.keep fun t xs e => s _ _ e
theorem prs.at {H : Hp} : ∀ {ts : List Addr} {es : List (Nat × Nat)} {i : Nat} {t : Addr}, prs H ts es → ts[i]? = some t → ∃ e, es[i]? = some e ∧ H t = some (.tup [nv e.1, nv e.2])
  | t :: ts, e :: es, 0, u, h, q => by
    have z : t = u := Option.some.inj q
    subst z
    exact ⟨e, rfl, h.1⟩
  | t :: ts, e :: es, i + 1, u, h, q => prs.at (ts := ts) (es := es) h.2 q
  | [], _, _, _, _, q => by simp at q
  | _ :: _, [], _, _, h, _ => False.elim h
theorem prs.put {H : Hp} {t : Addr} {e : Nat × Nat} (ht : H t = some (.tup [nv e.1, nv e.2])) : ∀ {ts : List Addr} {es : List (Nat × Nat)}, prs H ts es → prs H (ts ++ [t]) (es ++ [e])
  | [], [], _ => ⟨ht, True.intro⟩
  | _ :: _, _ :: _, h => ⟨h.1, h.2.put ht⟩
  | [], _ :: _, h => False.elim h
  | _ :: _, [], h => False.elim h
/-- a list that is no tuple is written: the pairs stay -/
theorem prs.upd {H : Hp} {ts : List Addr} {es : List (Nat × Nat)} {l : Addr} {o u : HO} (h : prs H ts es) (hl : H l = some o) (n : ∀ xs, o ≠ .tup xs) : prs (upd H l u) ts es := h.keep fun t xs e => by
  have : t ≠ l := fun z => by
    rw [z, hl] at e
    exact n xs (Option.some.inj e)
  rw [upd_ne this]
  exact e
def pd (e : Nat × Nat) : PyData := .tuple [.int (e.1 : Int), .int (e.2 : Int)]
theorem dp_prs {K : PySem.W.Frag} {H : Hp} : ∀ {ts : List Addr} {es : List (Nat × Nat)}, prs H ts es → DpAll K H (ts.map V.ref) (es.map pd)
  | [], [], _ => .nil
  | _ :: _, _ :: _, h => .cons (.tup (SqT.of h.1) (.cons (.int _) (.cons (.int _) .nil))) (dp_prs h.2)
  | [], _ :: _, h => False.elim h
  | _ :: _, [], h => False.elim h
theorem pd_lay : ∀ es : List (Nat × Nat), PyData.canLayAll0 (es.map pd) = true
  | [] => rfl
  | e :: es => by simp [PyData.canLayAll0, PyData.canLay0, pd_lay es, pd]
theorem pd_depth : ∀ es : List (Nat × Nat), PyData.depthAll (es.map pd) ≤ 1
  | [] => by simp [PyData.depthAll]
  | e :: es => by
    have h1 := pd_depth es
    have h2 : (pd e).depth = 1 := by simp [pd, PyData.depth, PyData.depthAll]
    simp only [List.map_cons, PyData.depthAll]
    omega
theorem pd_shaped (es : List (Nat × Nat)) : SeqAt.shaped (.list (es.map pd)) = true := by
  have h1 := pd_depth es
  have h2 : PyData.depth (.list (es.map pd)) ≤ 64 := by
    simp only [PyData.depth]
    omega
  show (PyData.canLay0 (.list (es.map pd)) && decide (PyData.depth (.list (es.map pd)) ≤ 64)) = true
  rw [Bool.and_eq_true]
  exact ⟨by simp only [PyData.canLay0]; exact pd_lay es, decide_eq_true h2⟩
theorem pd_same (es : List (Nat × Nat)) : PyData.eqv (.list (es.map pd)) (.list (es.map pd)) = true := SeqAt.eqv_refl _ (SeqAt.canLay_of_shaped (pd_shaped es))
theorem count_cast (k : Nat) : ∀ l : List Nat, (l.map (fun n : Nat => (n : Int))).count (k : Int) = l.count k
  | [] => rfl
  | x :: l => by
    rw [List.map_cons, List.count_cons, List.count_cons, count_cast k l]
    by_cases e : x = k
    · subst e; simp
    · have e2 : ((x : Int) == (k : Int)) = false := beq_false_of_ne (by omega)
      rw [e2]
      simp [e]
end
/-! ### lists of lists (or tuples) of numbers -/
section
/-- at these addresses stand these lists of numbers, as mk says (.lst, .tup) -/
def rws (mk : List V → HO) (H : Hp) : List Addr → List (List Nat) → Prop
  | [], [] => True
  | t :: ts, w :: ws => H t = some (mk (w.map nv)) ∧ rws mk H ts ws
  | _, _ => False
variable {mk : List V → HO}
theorem rws.len {H : Hp} : ∀ {ts : List Addr} {ws : List (List Nat)}, rws mk H ts ws → ts.length = ws.length
  | [], [], _ => rfl
  | _ :: _, _ :: _, h => congrArg (· + 1) h.2.len
  | [], _ :: _, h => False.elim h
  | _ :: _, [], h => False.elim h
theorem rws.keep {H H' : Hp} : ∀ {ts : List Addr} {ws : List (List Nat)}, rws mk H ts ws → (∀ t xs, t ∈ ts → H t = some (mk xs) → H' t = some (mk xs)) → rws mk H' ts ws
  | [], [], _, _ => True.intro
  | _ :: _, _ :: _, h, k => ⟨k _ _ (List.mem_cons_self ..) h.1, h.2.keep fun t xs m => k t xs (List.mem_cons_of_mem _ m)⟩
  | [], _ :: _, h, _ => False.elim h
  | _ :: _, [], h, _ => False.elim h
theorem rws.same {H H' : Hp} {ts : List Addr} {ws : List (List Nat)} (h : rws mk H ts ws) (s : Same H H') : rws mk H' ts ws := h.keep fun _ _ _ e => s _ _ e
theorem rws.at {H : Hp} : ∀ {ts : List Addr} {ws : List (List Nat)} {i : Nat} {t : Addr}, rws mk H ts ws → ts[i]? = some t → ∃ w, ws[i]? = some w ∧ H t = some (mk (w.map nv))
  | t :: ts, w :: ws, 0, u, h, q => by
    have z : t = u := Option.some.inj q
    subst z
    exact ⟨w, rfl, h.1⟩
  | t :: ts, w :: ws, i + 1, u, h, q => rws.at (ts := ts) (ws := ws) h.2 q
  | [], _, _, _, _, q => by simp at q
  | _ :: _, [], _, _, h, _ => False.elim h
theorem rws.mem {H : Hp} : ∀ {ts : List Addr} {ws : List (List Nat)} {t : Addr}, rws mk H ts ws → t ∈ ts → ∃ w ∈ ws, H t = some (mk (w.map nv))
  | t :: ts, w :: ws, u, h, q => by
    rcases List.mem_cons.mp q with e | e
    · rw [e]
      exact ⟨w, List.mem_cons_self .., h.1⟩
    · obtain ⟨w', hw, k⟩ := rws.mem h.2 e
      exact ⟨w', List.mem_cons_of_mem _ hw, k⟩
  | [], _, _, _, q => by cases q
  | _ :: _, [], _, h, _ => False.elim h
theorem rws.put {H : Hp} {t : Addr} {w : List Nat} (ht : H t = some (mk (w.map nv))) : ∀ {ts : List Addr} {ws : List (List Nat)}, rws mk H ts ws → rws mk H (ts ++ [t]) (ws ++ [w])
  | [], [], _ => ⟨ht, True.intro⟩
  | _ :: _, _ :: _, h => ⟨h.1, h.2.put ht⟩
  | [], _ :: _, h => False.elim h
  | _ :: _, [], h => False.elim h
/-- something that is no such row is written: the rows stay -/
theorem rws.upd {H : Hp} {ts : List Addr} {ws : List (List Nat)} {l : Addr} {u : HO} (h : rws mk H ts ws) (n : l ∉ ts) : rws mk (upd H l u) ts ws := h.keep fun t xs m e => by
  have ne : t ≠ l := fun z => n (by rw [← z]; exact m)
  rw [upd_ne ne]
  exact e
theorem rws.not_mem {H : Hp} {ts : List Addr} {ws : List (List Nat)} {l : Addr} {o : HO} (h : rws mk H ts ws) (hl : H l = some o) (n : ∀ xs, o ≠ mk xs) : l ∉ ts := fun m => by
  obtain ⟨w, _, e⟩ := h.mem m
  rw [hl] at e
  exact n _ (Option.some.inj e)
theorem rws.not_none {H : Hp} {ts : List Addr} {ws : List (List Nat)} {l : Addr} (h : rws mk H ts ws) (hl : H l = none) : l ∉ ts := fun m => by
  obtain ⟨w, _, e⟩ := h.mem m
  rw [hl] at e
  cases e
def wd (w : List Nat) : List PyData := (w.map (fun n : Nat => (n : Int))).map PyData.int
def rd (w : List Nat) : PyData := .list (wd w)
def td (w : List Nat) : PyData := .tuple (wd w)
theorem dp_row {K : PySem.W.Frag} {H : Hp} {t : Addr} {w : List Nat} (h : H t = some (.lst (w.map nv))) : Dp K H (.ref t) (rd w) := .lst (SqL.of h) (dp_nats w)
theorem dp_tup {K : PySem.W.Frag} {H : Hp} {t : Addr} {w : List Nat} (h : H t = some (.tup (w.map nv))) : Dp K H (.ref t) (td w) := .tup (SqT.of h) (dp_nats w)
theorem dp_rows {K : PySem.W.Frag} {H : Hp} {dm : List Nat → PyData} (hd : ∀ t w, H t = some (mk (w.map nv)) → Dp K H (.ref t) (dm w)) : ∀ {ts : List Addr} {ws : List (List Nat)}, rws mk H ts ws → DpAll K H (ts.map V.ref) (ws.map dm)
  | [], [], _ => .nil
  | _ :: _, _ :: _, h => .cons (hd _ _ h.1) (dp_rows hd h.2)
  | [], _ :: _, h => False.elim h
  | _ :: _, [], h => False.elim h
theorem wd_lay (w : List Nat) : PyData.canLayAll0 (wd w) = true := PySem.W.ke_canLayAll0 _
theorem wd_depth (w : List Nat) : PyData.depthAll (wd w) = 0 := PySem.W.ke_depthAll _
theorem flat_lay {dm : List Nat → PyData} (h1 : ∀ w, (dm w).canLay0 = true) : ∀ ws : List (List Nat), PyData.canLayAll0 (ws.map dm) = true
  | [] => rfl
  | w :: ws => by simp [PyData.canLayAll0, h1 w, flat_lay h1 ws]
theorem flat_depth {dm : List Nat → PyData} (h2 : ∀ w, (dm w).depth = 1) : ∀ ws : List (List Nat), PyData.depthAll (ws.map dm) ≤ 1
  | [] => by simp [PyData.depthAll]
  | w :: ws => by
    have k1 := flat_depth h2 ws
    have k2 := h2 w
    simp only [List.map_cons, PyData.depthAll]
    omega
theorem rows_shaped {dm : List Nat → PyData} (h1 : ∀ w, (dm w).canLay0 = true) (h2 : ∀ w, (dm w).depth = 1) (ws : List (List Nat)) : SeqAt.shaped (.list (ws.map dm)) = true := by
  have k1 := flat_depth h2 ws
  have k2 : PyData.depth (.list (ws.map dm)) ≤ 64 := by
    simp only [PyData.depth]
    omega
  show (PyData.canLay0 (.list (ws.map dm)) && decide (PyData.depth (.list (ws.map dm)) ≤ 64)) = true
  rw [Bool.and_eq_true]
  exact ⟨by simp only [PyData.canLay0]; exact flat_lay h1 ws, decide_eq_true k2⟩
theorem rd_lay (w : List Nat) : (rd w).canLay0 = true := by simp only [rd, PyData.canLay0]; exact wd_lay w
theorem td_lay (w : List Nat) : (td w).canLay0 = true := by simp only [td, PyData.canLay0]; exact wd_lay w
theorem rd_depth (w : List Nat) : (rd w).depth = 1 := by simp only [rd, PyData.depth, wd_depth]
theorem td_depth (w : List Nat) : (td w).depth = 1 := by simp only [td, PyData.depth, wd_depth]
theorem td_shaped (w : List Nat) : SeqAt.shaped (td w) = true := by
  show ((td w).canLay0 && decide ((td w).depth ≤ 64)) = true
  rw [td_lay, td_depth]
  rfl
theorem rows_same (ws : List (List Nat)) : PyData.eqv (.list (ws.map rd)) (.list (ws.map rd)) = true := SeqAt.eqv_refl _ (SeqAt.canLay_of_shaped (rows_shaped rd_lay rd_depth ws))
theorem wd_eqv : ∀ a b : List Nat, PyData.eqvAll (wd a) (wd b) = decide (a = b)
  | [], [] => rfl
  | [], _ :: _ => by rw [decide_eq_false (by intro z; cases z)]; simp [wd, PyData.eqvAll]
  | _ :: _, [] => by rw [decide_eq_false (by intro z; cases z)]; simp [wd, PyData.eqvAll]
  | x :: a, y :: b => by
    have ih := wd_eqv a b
    show PyData.eqvAll (PyData.int x :: wd a) (PyData.int y :: wd b) = _
    simp only [PyData.eqvAll, PyData.eqv, ih]
    by_cases e : x = y
    · subst e
      by_cases e2 : a = b
      · subst e2; simp
      · simp [e2]
    · have e3 : ((x : Int) == (y : Int)) = false := beq_false_of_ne (by omega)
      rw [e3, decide_eq_false (p := x :: a = y :: b) (by intro z; exact e (List.cons.inj z).1)]
      rfl
theorem td_eqv (a b : List Nat) : PyData.eqv (td a) (td b) = decide (a = b) := by
  simp only [td, PyData.eqv]
  exact wd_eqv a b
theorem td_any (w : List Nat) : ∀ ws : List (List Nat), ((ws.map td).any fun z => PyData.eqv z (td w)) = decide (w ∈ ws)
  | [] => rfl
  | x :: ws => by
    rw [List.map_cons, List.any_cons, td_any w ws, td_eqv]
    by_cases e : x = w
    · subst e; simp
    · have e' : ¬ w = x := fun z => e z.symm
      simp [e, e']
theorem ne_nil_eqv {dm : List Nat → PyData} (ws : List (List Nat)) : PyData.eqv (.list (ws.map dm)) (.list []) = decide (ws = []) := by
  cases ws with
  | nil => rfl
  | cons e es =>
    rw [decide_eq_false (by intro z; cases z)]
    simp [PyData.eqv, PyData.eqvAll]
end
/-! ### zip of a list and a tuple; xs[k] += e -/
section
open PySem.Spec PyProof.Rows
/-- what such a zip gives: new pairs -/
def ItM (K : PySem.W.Frag) (a b : Addr) : It where
  go := fun i H => ∃ xs ys x y, SqL K H a xs ∧ SqT K H b ys ∧ xs[i]? = some x ∧ ys[i]? = some y
  yld := fun i H v H' => ∃ T x y, v = V.ref T ∧ H T = none ∧ H' = upd H T (.tup [x, y]) ∧ (∀ l, SqL K H a l → l[i]? = some x) ∧ (∀ l, SqT K H b l → l[i]? = some y)
  stop := fun i H => ∃ xs ys, SqL K H a xs ∧ SqT K H b ys ∧ i ≤ xs.length ∧ i ≤ ys.length ∧ (i = xs.length ∨ i = ys.length)
/-- the zip's own cells, at turn i -/
def zmS (z TI TO i1 i2 a b : Addr) (i : Nat) (h : Heap) : Prop := IsZip h z TI TO .none ∧ IsTupOf2 h TI (.ref i1) (.ref i2) ∧ (∃ x y, IsTupOf2 h TO x y) ∧ h.IsListIter i1 a i ∧ h.IsTupleIter i2 b i
theorem five {z TI TO i1 i2 c : Addr} (h : c ∈ [z, TI, TO, i1, i2]) : c = z ∨ c = TI ∨ c = TO ∨ c = i1 ∨ c = i2 := by simpa using h
theorem turnM {P : Program} {w : World} {K : PySem.W.Frag} {es : List Expr} {kk : Nat} {tp : Pos} {z TI TO i1 i2 a b : Addr} (S : ZipSep2 z TI TO i1 i2 [i1, a] [i2, b]) (na : a ≠ i1) (nb : b ≠ i2) :
    Turn P w K (.Tuple es kk tp) (ItM K a b) [z, TI, TO, i1, i2] z (zmS z TI TO i1 i2 a b) := by
  have noT : ∀ {c}, c ∉ [z, TI, TO, i1, i2] → c ≠ z ∧ c ≠ TO ∧ c ≠ i1 ∧ c ≠ i2 := fun {c} h => ⟨fun e => h (by rw [e]; simp), fun e => h (by rw [e]; simp), fun e => h (by rw [e]; simp), fun e => h (by rw [e]; simp)⟩
  refine ⟨by simp, fun i h st c hc => ?_, fun i h h' st k => ?_, ?_, ?_, fun A i s Q E st q => wpAny_pyIter_zip st.1 q⟩
  · obtain ⟨s1, s2, ⟨_, _, s3⟩, ⟨_, u1, _, u2⟩, ⟨_, t1, _, t2⟩⟩ := st
    rcases five hc with e | e | e | e | e <;> rw [e]
    · exact ⟨_, s1, fun _ q => nomatch q⟩
    · exact ⟨_, s2, fun _ q => nomatch q⟩
    · exact ⟨_, s3, fun _ q => nomatch q⟩
    · exact ⟨_, u1, fun _ q => by rw [u2] at q; cases q⟩
    · exact ⟨_, t1, fun _ q => by rw [t2] at q; cases q⟩
  · obtain ⟨s1, s2, ⟨x, y, s3⟩, s4, s5⟩ := st
    exact ⟨k _ (by simp) _ s1, k _ (by simp) _ s2, ⟨x, y, k _ (by simp) _ s3⟩, s4.at fun o => k _ (by simp) o, s5.at fun o => k _ (by simp) o⟩
  · intro X hP hw hK hc i pins s σ H E I hf st hg
    subst hP hw hK
    obtain ⟨s1, s2, ⟨x0, y0, s3⟩, s4, s5⟩ := st
    obtain ⟨xs, ys, x, y, qx, qy, ex, ey⟩ := hg
    obtain ⟨us, r1, p1, _⟩ := I.list qx
    obtain ⟨vs, r2, p2, _⟩ := I.tuple qy
    obtain ⟨u, eu, ru⟩ := r1.get ex
    obtain ⟨v, ev, rv⟩ := r2.get ey
    have hh := I.ok.hd hc
    have hin : X.A.in1.handled = none := hh
    have D1 := Draws.list (prog := X.prog) (w := X.w) hin i1 a na us.toArray
    have D2 := Draws.tuple (prog := X.prog) (w := X.w) hin i2 b nb vs.toArray
    have l1 : i < us.toArray.size := by
      have := (List.getElem?_eq_some_iff.mp eu).1
      simpa using this
    have l2 : i < vs.toArray.size := by
      have := (List.getElem?_eq_some_iff.mp ev).1
      simpa using this
    have zl : z < s.heap.objs.size := Heap.lt_size s1
    refine wpAny_pyNext_zipD2_item S D1 D2 s1 s2 s3 ⟨s4, p1.isList⟩ ⟨s5, p2⟩ l1 l2 fun x1 x2 h1 tk e1 e2 z1 z2 w1 w2 new sz ke => ?_
    have q1 : x1 = u := by
      have : us.toArray[i]? = some x1 := e1
      rw [List.getElem?_toArray, eu] at this
      exact (Option.some.inj this).symm
    have q2 : x2 = v := by
      have : vs.toArray[i]? = some x2 := e2
      rw [List.getElem?_toArray, ev] at this
      exact (Option.some.inj this).symm
    subst q1 q2
    refine ⟨_, rfl, wpAny_letOwnedTupleGo_zip (s := { s with heap := h1, toks := tk }) z1 fun h2 z3 sb => ?_⟩
    have tup : h2.get? s.heap.objs.size = some { cls := .type "tuple", data := .seq #[x1, x2] } := (sb.2 _ (Nat.ne_of_gt zl)).trans new
    have ob : ObjOk X.prog X.w (upd H s.heap.objs.size (.tup [x, y])) h2 s.heap.objs.size (.tup [x, y]) := ⟨by show 2 ≤ sizeLine; decide, [x1, x2], .cons ru (.cons rv .nil), ⟨_, tup, rfl, _, rfl⟩⟩
    have stay : ∀ c o, c ∉ [z, TI, TO, i1, i2] → s.heap.get? c = some o → h2.get? c = some o := fun c o hc' e => by
      obtain ⟨n1, n2, n3, n4⟩ := noT hc'
      exact (sb.2 c n1).trans (ke c o n1 n2 n3 n4 e)
    refine ⟨.ref s.heap.objs.size, _, I.turnedNew (t' := tk) stay hf (Nat.le_refl _) ob, rfl, ⟨_, x, y, rfl, I.hok.fresh (Nat.le_refl _), rfl, fun l hl => (by rw [I.list_inj hl qx]; exact ex), fun l hl => (by rw [I.tuple_inj hl qy]; exact ey)⟩, ⟨z3, ?_, ⟨x1, x2, ?_⟩, ?_, ?_⟩, fun c hc' => ?_⟩
    · exact (sb.2 _ S.TIz).trans (ke _ _ S.TIz S.TITO S.TIi1 S.TIi2 s2)
    · exact (sb.2 _ S.TOz).trans z2
    · exact w1.1.at fun o q => (sb.2 _ S.zi1.symm).trans q
    · exact w2.1.at fun o q => (sb.2 _ S.zi2.symm).trans q
    · have lt : c < s.heap.objs.size := by
        rcases five hc' with e | e | e | e | e <;> rw [e]
        · exact zl
        · exact Heap.lt_size s2
        · exact Heap.lt_size s3
        · obtain ⟨_, q, _⟩ := s4; exact Heap.lt_size q
        · obtain ⟨_, q, _⟩ := s5; exact Heap.lt_size q
      exact (upd_ne (Nat.ne_of_lt lt)).trans (hf c hc').1
  · intro X hP hw hK hc i pins s σ H E I hf st hg
    subst hP hw hK
    obtain ⟨s1, s2, ⟨x0, y0, s3⟩, s4, s5⟩ := st
    obtain ⟨xs, ys, qx, qy, k1, k2, k3⟩ := hg
    obtain ⟨us, r1, p1, _⟩ := I.list qx
    obtain ⟨vs, r2, p2, _⟩ := I.tuple qy
    have hh := I.ok.hd hc
    have hin : X.A.in1.handled = none := hh
    have z1 : us.toArray.size = xs.length := by rw [List.size_toArray]; exact r1.length.symm
    have z2 : vs.toArray.size = ys.length := by rw [List.size_toArray]; exact r2.length.symm
    refine wpAny_pyNext_zipD2_end S (Draws.list (prog := X.prog) (w := X.w) hin i1 a na us.toArray) (Draws.tuple (prog := X.prog) (w := X.w) hin i2 b nb vs.toArray) s1 s2 s3 ⟨s4, p1.isList⟩ ⟨s5, p2⟩ (by omega) (by omega) (by omega) fun h1 tk ke => ?_
    refine ⟨rfl, I.turnedL (t' := tk) (fun c o hc' e => ?_) hf⟩
    obtain ⟨n1, n2, n3, n4⟩ := noT hc'
    exact ke c o n1 n2 n3 n4 e
def iZipM (K : PySem.W.Frag) (ta : TA) : TI := fun σ H R => ta σ H fun vs H1 => ∃ a b xs ys, vs = [V.ref a, V.ref b] ∧ SqL K H1 a xs ∧ SqT K H1 b ys ∧ R (ItM K a b) H1
theorem pi_zipM {X : Cx} {K : PySem.W.Frag} {e e2 : Expr} {ta : TA} {p pos tp : Pos} {es : List Expr} {kk : Nat} (eK : X.K = K) (hg : Gl X "zip") (hm : X.mg "zip" = none) (ha : PA X [e, e2] ta)
    (hs : starEach [e, e2] X.env = (false, eval e X.env) :: starEach [e2] X.env := by rfl) (hpl : (backTo pos (starEach [e2] X.env)).any (·.1) = false := by rfl) :
    PI X (.Tuple es kk tp) (.Call (.Name "zip" p) [e, e2] [] pos) (iZipM K ta) := by
  subst eK
  refine ⟨fun pins s σ H R I h => ?_⟩
  refine Call_ (ld_blt I hg hm PyProof.Rows.boot_zip (PyProof.Rows.callWith_type1 (thn (ha.run pos pins s σ H _ I h) fun us s1 hq => ?_) hs hpl))
  obtain ⟨vs, H1, I1, r1, a, b, xs, ys, ex, qx, qy, q⟩ := hq
  subst ex
  cases r1 with
  | cons ra rr =>
    cases rr with
    | cons rb rn =>
      cases rn
      cases ra
      cases rb
      obtain ⟨u1, _, p1, _⟩ := I1.list qx
      obtain ⟨u2, _, p2, _⟩ := I1.tuple qy
      obtain ⟨o2, ho2, _⟩ := id p2
      have la : a < s1.heap.objs.size := p1.lt
      have lb : b < s1.heap.objs.size := Heap.lt_size ho2
      refine zip_begins2 (begins_list a u1.toArray) (begins_tuple b u2.toArray) p1.isList p2 fun h1 c1 c2 c3 c4 c5 _ ke => wpAny_pyIter_zip c1 ?_
      have I2 : Inv X pins σ H1 { s1 with heap := h1 } := I1.kept (t' := s1.toks) ke
      have S := zip_sep2 (N := s1.heap.objs.size) (fp1 := [a]) (fp2 := [b]) (fun c hc => by rw [List.mem_singleton.mp hc]; exact la) (fun c hc => by rw [List.mem_singleton.mp hc]; exact lb)
      refine ⟨_, _, _, _, H1, rfl, I2, turnM S (Nat.ne_of_lt la) (Nat.ne_of_lt (Nat.lt_succ_of_lt lb)), ⟨c1, c2, ⟨_, _, c3⟩, ⟨_, c4, rfl, rfl⟩, ⟨_, c5, rfl, rfl⟩⟩, fun c hc => ?_, q⟩
      have le : s1.heap.objs.size ≤ c := by
        rcases five hc with z | z | z | z | z <;> rw [z]
        · exact Nat.le_add_right _ _
        · exact Nat.le_add_right _ _
        · exact Nat.le_add_right _ _
        · exact Nat.le_refl _
        · exact Nat.le_add_right _ _
      exact I1.fpOk le (I1.hok.fresh le)
/-- a comprehension over such a zip, of one length -/
theorem lc_zipM {K : PySem.W.Frag} {a b : Addr} {xs ys : List V} {g : TG} {tt : TT} {te : TE} {vs : List Nat} {σ : L2.St} {H1 : Hp} {D : Addr} {Qd : Hp → Prop} (hl : xs.length = ys.length) (Pv : Nat → Hp → Prop) (h0 : Pv 0 (upd H1 D (.lst []))) (hq : ∀ i H, Pv i H → SqL K H a xs ∧ SqT K H b ys)
    (hs : ∀ i x y T H, xs[i]? = some x → ys[i]? = some y → Pv i H → H T = none → g (.ref T) (wipe σ vs) (upd H T (.tup [x, y])) fun σ2 H2 => wipe σ2 vs = wipe σ vs ∧ tt σ2 H2 fun t H3 =>
      if t = true then te σ2 H3 fun z H4 => ∃ acc, H4 D = some (.lst acc) ∧ acc.length < sizeLine ∧ Pv (i + 1) (upd H4 D (.lst (acc ++ [z]))) else Pv (i + 1) H3) (hd : ∀ H, Pv xs.length H → Qd H) :
    ∃ W : Nat → Nat → Hp → Prop, (∃ m, W 0 m (upd H1 D (.lst []))) ∧ ∀ i m H, W i m H →
      ((ItM K a b).stop i H ∧ Qd H) ∨ ((ItM K a b).go i H ∧ ∃ Nx : Hp → Prop, (∀ H', Nx H' → ∃ m', m' < m ∧ W (i + 1) m' H') ∧ ∀ x H', (ItM K a b).yld i H x H' → g x (wipe σ vs) H' fun σ2 H2 => wipe σ2 vs = wipe σ vs ∧ tt σ2 H2 fun t H3 =>
        if t = true then te σ2 H3 fun z H4 => ∃ acc, H4 D = some (.lst acc) ∧ acc.length < sizeLine ∧ Nx (upd H4 D (.lst (acc ++ [z]))) else Nx H3) := by
  refine ⟨fun i m H => m = xs.length - i ∧ i ≤ xs.length ∧ Pv i H, ⟨_, rfl, Nat.zero_le _, h0⟩, ?_⟩
  rintro i m H ⟨rfl, le, p⟩
  obtain ⟨qx, qy⟩ := hq i H p
  rcases Nat.lt_or_ge i xs.length with lt | ge
  · have l2 : i < ys.length := by omega
    refine .inr ⟨⟨xs, ys, xs[i], ys[i], qx, qy, List.getElem?_eq_getElem lt, List.getElem?_eq_getElem l2⟩, Pv (i + 1), fun H' p' => ⟨xs.length - (i + 1), by omega, rfl, lt, p'⟩, fun v H' y => ?_⟩
    obtain ⟨T, x, y, rfl, nT, rfl, k1, k2⟩ := y
    exact hs i x y T H (k1 xs qx) (k2 ys qy) p nT
  · have e : i = xs.length := by omega
    subst e
    exact .inl ⟨⟨xs, ys, qx, qy, Nat.le_refl _, by omega, .inl rfl⟩, hd H p⟩
/-- reading xs[k], for xs[k] += e -/
def rGetL (K : PySem.W.Frag) : V → V → Hp → VK → Prop := fun o i H Q => ∃ (p : Addr) (xs : List V) (k : Nat) (v : V), o = .ref p ∧ i = .int (k : Int) ∧ SqL K H p xs ∧ xs[k]? = some v ∧ Q v H
theorem get_list {X : Cx} : PGet X (rGetL X.K) := by
  intro pins s σ H o i ov iv Q I ro ri h
  obtain ⟨p, xs, k, v, rfl, rfl, qx, ev, q⟩ := h
  cases ro
  obtain ⟨t, rfl⟩ := ri
  obtain ⟨us, r, pl, z⟩ := I.list qx
  obtain ⟨u, eu, ru⟩ := r.get ev
  have lt : k < us.length := (List.getElem?_eq_some_iff.mp eu).1
  have z2 := r.length
  have z3 : xs.length ≤ 16777216 := z
  exact wpAny_getItem_list pl.isList (Int.natCast_nonneg _) (by omega) (by rw [Int.toNat_natCast]; simpa using eu) ⟨v, H, I, ru, q⟩
end
namespace Ki
section
variable {P : Program} {w : World} {K : PySem.W.Frag} {mg : Str → Option Value} {base : Heap} {f C CR : Addr} {fd : FuncData}
/-! ### Kinds -/
abbrev kk : Str := "kinds"
abbrev mk : Str := "most"
theorem ne_km : ¬ (kk = mk) := by decide +kernel
theorem ne_mk : ¬ (mk = kk) := by decide +kernel
/-- the fields of a Kinds -/
def kf (a b : Addr) : List (Str × V) := putF mk (.ref b) (putF kk (.ref a) [])
theorem kf_kinds (a b : Addr) : (kf a b).lookup kk = some (.ref a) := by
  unfold kf
  rw [lookup_putF, if_neg ne_km, lookup_putF, if_pos rfl]
theorem kf_most (a b : Addr) : (kf a b).lookup mk = some (.ref b) := by
  unfold kf
  rw [lookup_putF, if_pos rfl]
theorem kf_no (a b : Addr) {m : Str} (h1 : ¬ m = mk) (h2 : ¬ m = kk) : (kf a b).lookup m = none := by
  unfold kf
  rw [lookup_putF, if_neg h1, lookup_putF, if_neg h2]
  rfl
theorem kf_many (a b : Addr) : (kf a b).lookup ("many" : Str) = none := kf_no a b (by decide +kernel) (by decide +kernel)
theorem kf_free (a b : Addr) : (kf a b).lookup ("free" : Str) = none := kf_no a b (by decide +kernel) (by decide +kernel)
/-- a Kinds of these kinds and bounds stands at p -/
def KiAt (C : Addr) (H : Hp) (p : Addr) (ks ms : List Nat) : Prop := ∃ dx a b, H p = some (.ins C dx (kf a b)) ∧ H a = some (.tup (ks.map nv)) ∧ H b = some (.tup (ms.map nv))
theorem KiAt.same {H H' : Hp} {p : Addr} {ks ms : List Nat} (h : KiAt C H p ks ms) (s : Same H H') : KiAt C H' p ks ms := by
  obtain ⟨dx, a, b, h1, h2, h3⟩ := h
  exact ⟨dx, a, b, s _ _ h1, s _ _ h2, s _ _ h3⟩
structure Gk (K : PySem.W.Frag) (mg : Str → Option Value) (C : Addr) : Prop where
  cl : Cls K C
  nK : NoAttr K C "kinds"
  nM : NoAttr K C "most"
  MOST_OF_A_KIND : Num mg "MOST_OF_A_KIND" 16
def KOk (ks ms : List Nat) : Prop := (∀ k ∈ ks, k < ms.length) ∧ ∀ m ∈ ms, m ≤ 16
theorem all_in {ns : List Nat} {lo hi : Int} (h : ∀ n ∈ ns, lo ≤ (n : Int) ∧ (n : Int) ≤ hi) : (ns.map (fun n : Nat => (n : Int))).all (inB lo hi) = true := by
  rw [List.all_eq_true]
  intro x hx
  obtain ⟨n, hn, rfl⟩ := List.mem_map.mp hx
  unfold inB
  rw [Bool.and_eq_true]
  exact ⟨decide_eq_true (h n hn).1, decide_eq_true (h n hn).2⟩
def spInit (C : Addr) : Sp := fun vs H Q _ => ∃ (p dx a b : Addr) (ks ms : List Nat), vs = [.ref p, .ref a, .ref b] ∧ H p = some (.ins C dx []) ∧ H a = some (.lst (ks.map nv)) ∧ H b = some (.lst (ms.map nv)) ∧ ks.length ≤ 16 ∧ ms.length ≤ 1000 ∧ KOk ks ms ∧
  ∀ H', (∀ c o, c ≠ p → H c = some o → H' c = some o) → KiAt C H' p ks ms → Q .non H'
theorem ok_init (B : Bl mg) (G : Gk K mg C) (F : L2.Fun K "__init__" "Kinds.__init__" s_Kinds___init__ f fd) (M : L2.Mk K C f) (g : mg "Kinds" = some (.ref C)) (c_check_ground : C8.Cal P w K mg base 1 "check_ground" spGround [])
    (c_are_within : C8.Cal P w K mg base 3 "are_within" spAre []) : C8.Mak P w K mg base 4 "Kinds" C (spInit C) [] := by
  refine ⟨f, fd, ["self", "kinds", "most"], [], M, F.ok sc_Kinds___init__ (fun vs H Q E h => ?_) (fun cdv A outer s H vs Q E hr h => ?_), g, F.binds (ps := ["self", "kinds", "most"]) (fun _ _ _ _ _ _ us hl => match us, hl with | [_, _, _], _ => rfl), .nil⟩
  · obtain ⟨p, dx, a, b, ks, ms, rfl, _⟩ := h
    rfl
  · obtain ⟨p, dx, a, b, ks, ms, rfl, hp, ha, hb, kl, ml, hok, q⟩ := h
    refine ⟨_, (pss_cons (ps_if (pt_not (pt_val (C8.pe_c c_are_within hr (by first | decide | exact Nat.le_refl _ | omega) rfl (pa_cons (pv 2) (pa_cons pe_int (pa_cons (C8.pe_gc rfl G.MOST_OF_A_KIND) pa_nil)))))) (pss_one ps_never) pss_nil)
      (pss_cons (ps_expr (C8.pe_c c_check_ground hr (by first | decide | exact Nat.le_refl _ | omega) rfl (pa_cons (pv 1) pa_nil)))
      (pss_cons (ps_if (pt_not (pt_val (C8.pe_c c_are_within hr (by first | decide | exact Nat.le_refl _ | omega) rfl (pa_cons (pv 1) (pa_cons pe_int (pa_cons (pe_op op_sub (pe_callB (call_lenK (K := K) rfl) (by rfl) B.len_ (by decide +kernel) (pa_cons (pv 2) pa_nil)) pe_int) pa_nil)))))) (pss_one ps_never) pss_nil)
      (pss_cons (ps_fld (pv 0) (pe_callTy (call_tupK (K := K) rfl) (by rfl) B.tuple_ (by decide +kernel) (pa_cons (pv 1) pa_nil)) rfl)
      (pss_one (ps_fld (pv 0) (pe_callTy (call_tupK (K := K) rfl) (by rfl) B.tuple_ (by decide +kernel) (pa_cons (pv 2) pa_nil)) rfl)))))), ?_⟩
    have ha' := ha
    have hb' := hb
    rw [nv_ints] at ha' hb'
    have e1 : (ms.map (fun n : Nat => (n : Int))).all (inB 0 16) = true := all_in fun n hn => by
      have := hok.2 n hn
      omega
    have e2 : (ks.map (fun n : Nat => (n : Int))).all (inB 0 ((ms.length : Int) - 1)) = true := all_in fun n hn => by
      have := hok.1 n hn
      omega
    refine ⟨_, rfl, b, _, 0, 16, rfl, hb', by rw [List.length_map]; exact ml, fun H1 s1 => ⟨true, by rw [e1], iteF ?_⟩⟩
    refine ⟨_, rfl, a, _, rfl, s1 _ _ ha, by rw [List.length_map]; exact kl, ?_⟩
    refine ⟨_, rfl, _, rfl, b, _, rfl, .inl (SqL.of (s1 _ _ hb)), _, _, rfl, rfl, a, _, 0, (((ms.map nv).length : Nat) : Int) - 1, rfl, s1 _ _ ha', by rw [List.length_map]; omega, fun H2 s2 => ⟨true, by rw [List.length_map, e2], iteF ?_⟩⟩
    have s12 := s1.trans s2
    refine ⟨_, rfl, a, _, rfl, .inl ⟨SqL.of (s12 _ _ ha), fun t ht => ?_⟩⟩
    have st : Same H2 (upd H2 t (.tup (ks.map nv))) := same_upd ht
    have h3 : (upd H2 t (HO.tup (ks.map nv))) t = some (.tup (ks.map nv)) := upd_same
    generalize upd H2 t (HO.tup (ks.map nv)) = H3 at st h3
    have s13 := s12.trans st
    refine ⟨_, rfl, p, C, dx, _, rfl, s13 _ _ hp, G.cl, G.nK, (by show 0 < 1000; decide), ?_⟩
    have keep : ∀ c o, c ≠ p → H c = some o → (upd H3 p (.ins C dx (putF kk (.ref t) []))) c = some o := fun c o nc e => by
      rw [upd_ne nc]
      exact s13 _ _ e
    have hp4 : (upd H3 p (HO.ins C dx (putF kk (.ref t) []))) p = some (.ins C dx (putF kk (.ref t) [])) := upd_same
    have npt : t ≠ p := ne_of h3 (s13 _ _ hp) (by intro z; cases z)
    have ht4 : (upd H3 p (HO.ins C dx (putF kk (.ref t) []))) t = some (.tup (ks.map nv)) := by
      rw [upd_ne npt]
      exact h3
    generalize upd H3 p (HO.ins C dx (putF kk (.ref t) [])) = H4 at keep hp4 ht4
    have nbp : b ≠ p := ne_of hb hp (by intro z; cases z)
    refine ⟨_, rfl, b, _, rfl, .inl ⟨SqL.of (keep _ _ nbp hb), fun u hu => ?_⟩⟩
    have su : Same H4 (upd H4 u (.tup (ms.map nv))) := same_upd hu
    have npu : p ≠ u := ne_of_none hp4 hu
    refine ⟨_, rfl, p, C, dx, _, rfl, su _ _ hp4, G.cl, G.nM, (by show 1 < 1000; decide), ?_⟩
    refine q _ (fun c o nc e => ?_) ⟨dx, t, u, upd_same, ?_, ?_⟩
    · rw [upd_ne nc]
      exact su _ _ (keep _ _ nc e)
    · rw [upd_ne npt]
      exact su _ _ ht4
    · rw [upd_ne npu.symm]
      exact upd_same
def spMany (C : Addr) : Sp := fun vs H Q _ => ∃ (p : Addr) (ks ms : List Nat), vs = [.ref p] ∧ KiAt C H p ks ms ∧ Q (nv ks.length) H
theorem ok_many (B : Bl mg) (G : Gk K mg C) (F : L2.Fun K "many" "Kinds.many" s_Kinds_many f fd) (M : Meth K C "many" f) : C8.Met P w K mg base 1 C "many" (spMany C) [] := by
  refine ⟨f, fd, ["self"], [], G.cl, M, F.ok sc_Kinds_many (fun vs H Q E h => ?_) (fun cdv A outer s H vs Q E hr h => ?_), F.binds (ps := ["self"]) (fun _ _ _ _ _ _ us hl => match us, hl with | [_], _ => rfl), .nil⟩
  · obtain ⟨p, ks, ms, rfl, _⟩ := h
    rfl
  · obtain ⟨p, ks, ms, rfl, ⟨dx, a, b, hp, ha, hb⟩, q⟩ := h
    refine ⟨_, (pss_one (ps_ret (pe_callB (call_lenK (K := K) rfl) (by rfl) B.len_ (by decide +kernel) (pa_cons (pe_fld (pv 0) rfl) pa_nil)))), ?_⟩
    refine ⟨_, rfl, p, C, dx, _, _, rfl, hp, G.cl, G.nK, kf_kinds _ _, a, _, rfl, .inr (SqT.of ha), ?_⟩
    rw [List.length_map]
    exact q
/-- how many of kind c among xs -/
def cnt (ks : List Nat) (xs : List Nat) (c : Nat) : Nat := (xs.map fun x => ks.getD x 0).count c
def freeK (ks ms xs : List Nat) : Bool := (List.range ms.length).all fun c => decide (cnt ks xs c ≤ ms.getD c 0)
theorem cnt_snoc (ks xs : List Nat) (x c : Nat) : cnt ks (xs ++ [x]) c = cnt ks xs c + if ks.getD x 0 = c then 1 else 0 := by
  unfold cnt
  rw [List.map_append, List.count_append]
  congr 1
  show [ks.getD x 0].count c = _
  rw [List.count_singleton]
  by_cases e : ks.getD x 0 = c
  · rw [if_pos e, if_pos (by simpa using e)]
  · rw [if_neg e, if_neg (by simpa using e)]
def spFree (C : Addr) : Sp := fun vs H Q _ => ∃ (p a : Addr) (ks ms xs : List Nat), vs = [.ref p, .ref a] ∧ KiAt C H p ks ms ∧ H a = some (.lst (xs.map nv)) ∧ KOk ks ms ∧ ms.length ≤ 1000 ∧ (∀ x ∈ xs, x < ks.length) ∧ xs.Nodup ∧ xs.length ≤ 1000 ∧
  ∀ H', Same H H' → Q (.bl (freeK ks ms xs)) H'
theorem rep_all {v : V} (f : Nat → V) (h : ∀ c, f c = v) : ∀ n, (List.replicate n [v]).flatten = (List.range n).map f
  | 0 => rfl
  | n + 1 => by
    rw [List.replicate_succ', List.flatten_append, rep_all f h n, List.range_succ, List.map_append]
    show _ ++ [v] = _ ++ [f n]
    rw [h n]
theorem set_range {m k : Nat} (f g : Nat → V) (h : ∀ c, c ≠ k → f c = g c) : ((List.range m).map f).set k (g k) = (List.range m).map g := by
  refine List.ext_getElem? fun i => ?_
  rw [List.getElem?_set, List.getElem?_map, List.getElem?_map, List.length_map, List.length_range]
  by_cases e : k = i
  · subst e
    rw [if_pos rfl]
    by_cases l : k < m
    · rw [if_pos l, List.getElem?_range l]
      rfl
    · rw [if_neg l, List.getElem?_eq_none (by rw [List.length_range]; omega)]
      rfl
  · rw [if_neg e]
    by_cases l : i < m
    · rw [List.getElem?_range l]
      show some (f i) = some (g i)
      rw [h i fun z => e z.symm]
    · rw [List.getElem?_eq_none (by rw [List.length_range]; omega)]
      rfl
theorem all_take (f : Nat → Bool) : ∀ n, ((List.range n).map f).all id = (List.range n).all f := fun n => all_map f _
theorem ok_free (B : Bl mg) (bzip : mg "zip" = none) (G : Gk K mg C) (F : L2.Fun K "free" "Kinds.free" s_Kinds_free f fd) (M : Meth K C "free" f) (m_many : C8.Met P w K mg base 1 C "many" (spMany C) []) (c_check_set : C8.Cal P w K mg base 4 "check_set" spSet []) :
    C8.Met P w K mg base 5 C "free" (spFree C) [] := by
  refine ⟨f, fd, ["self", "some"], [], G.cl, M, F.ok sc_Kinds_free (fun vs H Q E h => ?_) (fun cdv A outer s H vs Q E hr h => ?_), F.binds (ps := ["self", "some"]) (fun _ _ _ _ _ _ us hl => match us, hl with | [_, _], _ => rfl), .nil⟩
  · obtain ⟨p, a, ks, ms, xs, rfl, _⟩ := h
    rfl
  · obtain ⟨p, a, ks, ms, xs, rfl, hb, ha, hok, ml, hx, hnd, hlen, q⟩ := h
    refine ⟨_, (pss_cons (ps_expr (C8.pe_c c_check_set hr (by first | decide | exact Nat.le_refl _ | omega) rfl (pa_cons (pv 1) (pa_cons (C8.pe_mt0 (pl := _) m_many hr (by decide) (pv 0)) pa_nil))))
      (pss_cons (ps_set (i := 2) sc_Kinds_free.nd rfl (Or.inl rfl) (pe_op op_rep (pe_lst (pa_cons pe_int pa_nil)) (pe_callB (call_lenK (K := K) rfl) (by rfl) B.len_ (by decide +kernel) (pa_cons (pe_fld (pv 0) rfl) pa_nil))))
      (pss_cons (ps_for PassesOwn.never rfl (pi_list (pv 1)) (pg_name (i := 3) sc_Kinds_free.nd rfl (Or.inl rfl)) (pss_one (ps_augS (pv 2) (pe_ix (r := rIxT K) ix_tup (pe_fld (pv 0) rfl) (pv 3) (fun _ _ => rfl)) get_list pe_int ip_add set_list)))
      (pss_one (ps_ret (pe_callB (cr_all rfl) (by rfl) B.all_ (by decide +kernel) (pa_cons (pe_lc (own := [("has", 4), ("may", 5)]) rfl sc_Kinds_free.nd (pi_zipM (K := K) rfl rfl bzip (pa_cons (pv 2) (pa_cons (pe_fld (pv 0) rfl) pa_nil))) (blkOk_by (own := [("has", 4), ("may", 5)]) (N := n_Kinds_free) (sc := defScope s_Kinds_free) (by decide +kernel)) (fun _ _ _ _ _ => (pg_tupK (K := K) (n := 2) rfl (by rfl) (pgs_cons (pg_name (i := 4) sc_Kinds_free.nd rfl (Or.inl rfl)) (pgs_cons (pg_name (i := 5) sc_Kinds_free.nd rfl (Or.inl rfl)) pgs_nil)))) (fun _ _ _ _ _ => pts_nil) (fun _ _ _ _ _ => (pe_cmpR op_le (pv 4) (pv 5) (nomark _)))) pa_nil))))))), ?_⟩
    obtain ⟨dx, t, u, hp, ht, hu⟩ := id hb
    have ha' := ha
    rw [nv_ints] at ha'
    refine ⟨_, rfl, _, rfl, p, dx, _, rfl, hp, kf_many _ _, p, ks, ms, rfl, hb, a, _, _, rfl, ha', fun x hx' => ?_, nd_cast hnd, by rw [List.length_map]; exact hlen, fun H1 s1 => ?_⟩
    · obtain ⟨n, hn, rfl⟩ := List.mem_map.mp hx'
      have := hx n hn
      omega
    -- counts = [0] * len(self.most)
    refine ⟨(by show 1 ≤ sizeLine; decide), fun z hz => ?_⟩
    have sz : Same H1 (upd H1 z (.lst [.int 0])) := same_upd hz
    have hz2 : (upd H1 z (HO.lst [.int 0])) z = some (.lst [.int 0]) := upd_same
    generalize upd H1 z (HO.lst [.int 0]) = H2 at sz hz2
    have s12 := s1.trans sz
    refine ⟨_, rfl, p, C, dx, _, _, rfl, s12 _ _ hp, G.cl, G.nM, kf_most _ _, u, _, rfl, .inr (SqT.of (s12 _ _ hu)), z, _, _, rfl, rfl, hz2, by omega, by rw [List.length_map]; omega, ?_, fun l hl => ?_⟩
    · show 1 * (((ms.map nv).length : Nat) : Int).toNat ≤ sizeLine
      rw [List.length_map, Int.toNat_natCast, Nat.one_mul]
      exact Nat.le_of_lt (small1000 ml)
    have l0 : H l = none := s12.free hl
    refine ⟨_, rfl, a, rfl, ⟨_, SqL.of (same_upd hl _ _ (s12 _ _ ha))⟩, for_list (K := K) (a := a) (xs := xs.map nv) (fun i σ H' => ∃ v : Option V, σ = [some (.ref p), some (.ref a), some (.ref l), v, none, none] ∧ Same H H' ∧ H' l = some (.lst ((List.range ms.length).map fun c => nv (cnt ks (xs.take i) c))))
      ⟨none, rfl, s12.trans (same_upd hl), ?_⟩ (fun i σ H' _ ⟨_, _, s5, _⟩ => SqL.of (s5 _ _ ha)) ?_ ?_⟩
    · refine upd_same.trans ?_
      show some (HO.lst (List.replicate (((ms.map nv).length : Nat) : Int).toNat [V.int 0]).flatten) = _
      rw [List.length_map, Int.toNat_natCast, rep_all (fun c => nv (cnt ks (xs.take 0) c)) fun c => rfl]
    · rintro i y σ H' hi ⟨v, rfl, s5, hL⟩
      obtain ⟨x, hx', rfl⟩ := map_at hi
      have xlt := hx x (List.mem_of_getElem? hx')
      have ek : ks[x]? = some (ks.getD x 0) := by
        rw [List.getD_eq_getElem?_getD, List.getElem?_eq_getElem xlt]
        rfl
      have kin : ks.getD x 0 < ms.length := hok.1 _ (List.mem_of_getElem? ek)
      have hrow : (ks.map nv)[x]? = some (nv (ks.getD x 0)) := by
        rw [List.getElem?_map, ek]
        rfl
      have hget : ((List.range ms.length).map fun c => nv (cnt ks (xs.take i) c))[ks.getD x 0]? = some (nv (cnt ks (xs.take i) (ks.getD x 0))) := by
        rw [List.getElem?_map, List.getElem?_range kin]
        rfl
      refine ⟨_, rfl, _, rfl, p, C, dx, _, _, rfl, s5 _ _ hp, G.cl, G.nK, kf_kinds _ _, _, rfl, t, _, _, _, rfl, rfl, SqT.of (s5 _ _ ht), atI_nat hrow, ?_⟩
      refine ⟨l, _, ks.getD x 0, _, rfl, rfl, SqL.of hL, hget, _, _, rfl, rfl, l, _, _, ks.getD x 0, rfl, rfl, hL, ?_, ?_⟩
      · unfold ixN
        rw [List.length_map, List.length_range, if_pos (Int.natCast_nonneg _), if_pos (by omega)]
        rfl
      refine ⟨_, rfl, same_to s5 l0, ?_⟩
      refine upd_same.trans ?_
      have hs := set_range (m := ms.length) (k := ks.getD x 0) (fun c => nv (cnt ks (xs.take i) c)) (fun c => nv (cnt ks (xs.take (i + 1)) c)) fun c nc => by
        show nv _ = nv _
        rw [take_more hx', cnt_snoc, if_neg fun z => nc z.symm]
        rfl
      have e1 : nv (cnt ks (xs.take (i + 1)) (ks.getD x 0)) = V.int ((cnt ks (xs.take i) (ks.getD x 0) : Int) + 1) := by
        rw [take_more hx', cnt_snoc, if_pos rfl]
        rfl
      rw [← hs]
      show some (HO.lst (List.set ((List.range ms.length).map fun c => nv (cnt ks (xs.take i) c)) (ks.getD x 0) (V.int ((cnt ks (xs.take i) (ks.getD x 0) : Int) + 1)))) = _
      rw [← e1]
    · rintro σ H' ⟨v, rfl, s5, hL⟩
      rw [List.length_map, List.take_length] at hL
      have hu' := s5 _ _ hu
      refine ⟨_, rfl, _, rfl, p, C, dx, _, _, rfl, s5 _ _ hp, G.cl, G.nM, kf_most _ _, l, u, _, _, rfl, SqL.of hL, SqT.of hu', fun D hD => lc_zipM (K := K) (a := l) (b := u) (xs := (List.range ms.length).map fun c => nv (cnt ks xs c)) (ys := ms.map nv) (by rw [List.length_map, List.length_map, List.length_range])
        (fun j H2 => Same H' H2 ∧ H2 D = some (.lst ((((List.range ms.length).take j).map fun c => decide (cnt ks xs c ≤ ms.getD c 0)).map V.bl)))
        ⟨same_upd hD, upd_same⟩ (fun j H2 p => ⟨SqL.of (p.1 _ _ hL), SqT.of (p.1 _ _ hu')⟩) ?_ ?_⟩
      · rintro j y1 y2 T H2 h1 h2 ⟨s6, hA⟩ nT
        obtain ⟨c, hc, rfl⟩ := map_at h1
        obtain ⟨m, hm, rfl⟩ := map_at h2
        have jl : j < ms.length := (List.getElem?_eq_some_iff.mp hm).1
        have ejc : j = c := by
          rw [List.getElem?_range jl] at hc
          exact Option.some.inj hc
        subst ejc
        have em : ms.getD j 0 = m := by
          rw [List.getD_eq_getElem?_getD, hm]
          rfl
        have sT : Same H2 (upd H2 T (.tup [nv (cnt ks xs j), nv m])) := same_upd nT
        refine ⟨T, _, rfl, SqT.of upd_same, rfl, _, _, rfl, _, _, rfl, rfl, rfl, yesT ?_⟩
        refine ⟨_, rfl, _, rfl, _, _, rfl, rfl, _, sT _ _ hA, ?_, same_to (s6.trans sT) hD, ?_⟩
        · rw [List.length_map, List.length_map, List.length_take, List.length_range]
          exact small1000 (by omega)
        · rw [take_more hc, List.map_append, List.map_append]
          refine upd_same.trans ?_
          show some (HO.lst (_ ++ [V.bl (decide ((cnt ks xs j : Int) ≤ (m : Int)))])) = some (HO.lst (_ ++ [V.bl (decide (cnt ks xs j ≤ ms.getD j 0))]))
          rw [em]
          congr 5
          rw [Bool.eq_iff_iff, decide_eq_true_eq, decide_eq_true_eq]
          omega
      · rintro H2 ⟨s6, hA⟩
        rw [List.length_map, List.length_range, List.take_of_length_le (by rw [List.length_range]; omega)] at hA
        refine ⟨D, _, rfl, SqL.of hA, ?_⟩
        rw [all_map]
        exact q _ (s5.trans s6)
end
end Ki
namespace Th
section
variable {P : Program} {w : World} {K : PySem.W.Frag} {mg : Str → Option Value} {base : Heap} {f C CR : Addr} {fd : FuncData}
/-! ### is_tie -/
def spTie : Sp := fun vs H Q _ => ∃ (t : Addr) (N : Nat) (e : Nat × Nat), vs = [.ref t, nv N] ∧ H t = some (.tup [nv e.1, nv e.2]) ∧ e.1 < N ∧ e.2 < N ∧ ∀ H', Same H H' → Q (.bl true) H'
theorem all_true : ∀ n, (List.replicate n true).all id = true
  | 0 => rfl
  | n + 1 => all_true n
theorem ok_tie (B : Bl mg) (F : L2.Fun K "is_tie" "is_tie" s_is_tie f fd) (g : mg "is_tie" = some (.ref f)) (c_is_within : C8.Cal P w K mg base 2 "is_within" spWithin []) : C8.Cal P w K mg base 3 "is_tie" spTie [] := by
  refine ⟨f, fd, ["tie", "places"], [], F.ok sc_is_tie (fun vs H Q E h => ?_) (fun cdv A outer s H vs Q E hr h => ?_), g, F.kp, F.binds (ps := ["tie", "places"]) (fun _ _ _ _ _ _ us hl => match us, hl with | [_, _], _ => rfl), .nil⟩
  · obtain ⟨t, N, e, rfl, _⟩ := h
    rfl
  · obtain ⟨t, N, e, rfl, ht, h1, h2, q⟩ := h
    refine ⟨_, (pss_cons (ps_if (PW.pt (pw_or (pt_not (pt_val (pe_callB (call_isiK (K := K) rfl) (by rfl) B.isinstance_ (by decide +kernel) (pa_cons (pv 0) (pa_cons (pe_bltn (v := .ty "tuple") (u := .type "tuple") (by rfl) B.tuple_ (by decide +kernel) rfl) pa_nil))))) (pw_or1 (pt_cmpR op_ne (pe_callB (call_lenK (K := K) rfl) (by rfl) B.len_ (by decide +kernel) (pa_cons (pv 0) pa_nil)) pe_int (nomark _))))) (pss_one (ps_ret pe_bl)) pss_nil)
      (pss_one (ps_ret (pe_callB (cr_all rfl) (by rfl) B.all_ (by decide +kernel) (pa_cons (pe_lc (own := [("place", 2)]) rfl sc_is_tie.nd (pi_tup (pv 0)) (blkOk_by (own := [("place", 2)]) (N := n_is_tie) (sc := defScope s_is_tie) (by decide +kernel)) (fun _ _ _ _ _ => (pg_name (i := 2) sc_is_tie.nd rfl (Or.inl rfl))) (fun _ _ _ _ _ => pts_nil) (fun _ _ _ _ _ => (C8.pe_c c_is_within hr (by first | decide | exact Nat.le_refl _ | omega) rfl (pa_cons (pv 2) (pa_cons pe_int (pa_cons (pe_op op_sub (pv 1) pe_int) pa_nil)))))) pa_nil))))), ?_⟩
    refine ⟨_, rfl, _, _, _, _, true, rfl, ClsV.ty _, TyX.base (TyOf.tup ht), kit_ty (by decide +kernel), true, rfl, iteF ?_⟩
    refine ⟨_, rfl, t, _, rfl, .inr (SqT.of ht), rfl, false, rfl, iteF ?_⟩
    refine ⟨_, rfl, t, rfl, ⟨_, SqT.of ht⟩, fun D hD => lc_tup (K := K) (a := t) (xs := [nv e.1, nv e.2]) (fun i H' => Same H H' ∧ H' D = some (.lst ((List.replicate i true).map V.bl)))
      ⟨same_upd hD, upd_same⟩ (fun i H' _ p => SqT.of (p.1 _ _ ht)) ?_ ?_⟩
    · rintro i y H' hi ⟨s5, hL⟩
      obtain ⟨n, hn, rfl⟩ : ∃ n : Nat, n < N ∧ y = nv n := by
        have hm : y ∈ [nv e.1, nv e.2] := List.mem_of_getElem? hi
        rcases List.mem_cons.mp hm with z | z
        · exact ⟨_, h1, z⟩
        · exact ⟨_, h2, List.mem_singleton.mp z⟩
      have i2 : i < 2 := (List.getElem?_eq_some_iff.mp hi).1
      have eB : (decide ((0 : Int) ≤ (n : Int)) && decide ((n : Int) ≤ (N : Int) - 1)) = true := by
        rw [Bool.and_eq_true]
        exact ⟨decide_eq_true (by omega), decide_eq_true (by omega)⟩
      refine ⟨rfl, yesT ?_⟩
      refine ⟨_, rfl, _, rfl, _, _, rfl, rfl, n, 0, (N : Int) - 1, rfl, _, hL, ?_, same_to s5 hD, ?_⟩
      · rw [List.length_map, List.length_replicate]
        exact small1000 (by omega)
      · rw [eB, List.replicate_succ', List.map_append]
        exact upd_same
    · rintro H' ⟨s5, hL⟩
      refine ⟨D, _, rfl, SqL.of hL, ?_⟩
      rw [all_true]
      exact q _ s5
/-! ### Threads -/
abbrev pk : Str := "places"
abbrev tk : Str := "ties"
theorem ne_pt : ¬ (pk = tk) := by decide +kernel
theorem ne_tp : ¬ (tk = pk) := by decide +kernel
/-- the fields of a Threads of N places whose tuple stands at t -/
def tf (N : Nat) (t : Addr) : List (Str × V) := putF tk (.ref t) (putF pk (nv N) [])
theorem tf_places (N : Nat) (t : Addr) : (tf N t).lookup pk = some (nv N) := by
  unfold tf
  rw [lookup_putF, if_neg ne_pt, lookup_putF, if_pos rfl]
theorem tf_ties (N : Nat) (t : Addr) : (tf N t).lookup tk = some (.ref t) := by
  unfold tf
  rw [lookup_putF, if_pos rfl]
theorem tf_no (N : Nat) (t : Addr) {m : Str} (h1 : ¬ m = tk) (h2 : ¬ m = pk) : (tf N t).lookup m = none := by
  unfold tf
  rw [lookup_putF, if_neg h1, lookup_putF, if_neg h2]
  rfl
theorem tf_many (N : Nat) (t : Addr) : (tf N t).lookup ("many" : Str) = none := tf_no N t (by decide +kernel) (by decide +kernel)
theorem tf_free (N : Nat) (t : Addr) : (tf N t).lookup ("free" : Str) = none := tf_no N t (by decide +kernel) (by decide +kernel)
def Bnd (N : Nat) (es : List (Nat × Nat)) : Prop := ∀ e ∈ es, e.1 < N ∧ e.2 < N
/-- a Threads of these ties stands at p -/
def ThAt (C : Addr) (H : Hp) (p : Addr) (N : Nat) (es : List (Nat × Nat)) : Prop := ∃ dx t ts, H p = some (.ins C dx (tf N t)) ∧ H t = some (.tup (ts.map V.ref)) ∧ prs H ts es
theorem ThAt.same {H H' : Hp} {p : Addr} {N : Nat} {es : List (Nat × Nat)} (h : ThAt C H p N es) (s : Same H H') : ThAt C H' p N es := by
  obtain ⟨dx, t, ts, h1, h2, h3⟩ := h
  exact ⟨dx, t, ts, s _ _ h1, s _ _ h2, h3.same s⟩
structure Gt (K : PySem.W.Frag) (mg : Str → Option Value) (C : Addr) : Prop where
  cl : Cls K C
  nP : NoAttr K C "places"
  nT : NoAttr K C "ties"
  MOST_PLACES : Num mg "MOST_PLACES" 20
def spInit (C : Addr) : Sp := fun vs H Q _ => ∃ (p dx a : Addr) (N : Nat) (ts : List Addr) (es : List (Nat × Nat)), vs = [.ref p, nv N, .ref a] ∧ H p = some (.ins C dx []) ∧ H a = some (.lst (ts.map V.ref)) ∧ prs H ts es ∧ 1 ≤ N ∧ N ≤ 20 ∧ es.length ≤ 16 ∧ Bnd N es ∧
  ∀ H', (∀ b o, b ≠ p → H b = some o → H' b = some o) → ThAt C H' p N es → Q .non H'
theorem ok_init (B : Bl mg) (G : Gt K mg C) (F : L2.Fun K "__init__" "Threads.__init__" s_Threads___init__ f fd) (M : L2.Mk K C f) (g : mg "Threads" = some (.ref C)) (c_is_within : C8.Cal P w K mg base 2 "is_within" spWithin []) (c_check_ground : C8.Cal P w K mg base 1 "check_ground" spGround [])
    (c_is_tie : C8.Cal P w K mg base 3 "is_tie" spTie []) : C8.Mak P w K mg base 4 "Threads" C (spInit C) [] := by
  refine ⟨f, fd, ["self", "places", "ties"], [], M, F.ok sc_Threads___init__ (fun vs H Q E h => ?_) (fun cdv A outer s H vs Q E hr h => ?_), g, F.binds (ps := ["self", "places", "ties"]) (fun _ _ _ _ _ _ us hl => match us, hl with | [_, _, _], _ => rfl), .nil⟩
  · obtain ⟨p, dx, a, N, ts, es, rfl, _⟩ := h
    rfl
  · obtain ⟨p, dx, a, N, ts, es, rfl, hp, ha, hpr, N1, N2, hl, hb, q⟩ := h
    refine ⟨_, (pss_cons (ps_if (pt_not (pt_val (C8.pe_c c_is_within hr (by first | decide | exact Nat.le_refl _ | omega) rfl (pa_cons (pv 1) (pa_cons pe_int (pa_cons (C8.pe_gc rfl G.MOST_PLACES) pa_nil)))))) (pss_one ps_never) pss_nil)
      (pss_cons (ps_expr (C8.pe_c c_check_ground hr (by first | decide | exact Nat.le_refl _ | omega) rfl (pa_cons (pv 2) pa_nil)))
      (pss_cons (ps_if (pt_not (pt_val (pe_callB (cr_all rfl) (by rfl) B.all_ (by decide +kernel) (pa_cons (pe_lc (own := [("tie", 3)]) rfl sc_Threads___init__.nd (pi_list (pv 2)) (blkOk_by (own := [("tie", 3)]) (N := n_Threads___init__) (sc := defScope s_Threads___init__) (by decide +kernel)) (fun _ _ _ _ _ => (pg_name (i := 3) sc_Threads___init__.nd rfl (Or.inl rfl))) (fun _ _ _ _ _ => pts_nil) (fun _ _ _ _ _ => (C8.pe_c c_is_tie hr (by first | decide | exact Nat.le_refl _ | omega) rfl (pa_cons (pv 3) (pa_cons (pv 1) pa_nil))))) pa_nil)))) (pss_one ps_never) pss_nil)
      (pss_cons (ps_fld (pv 0) (pv 1) rfl)
      (pss_one (ps_fld (pv 0) (pe_callTy (call_tupK (K := K) rfl) (by rfl) B.tuple_ (by decide +kernel) (pa_cons (pe_lc (own := [("tie", 3)]) rfl sc_Threads___init__.nd (pi_list (pv 2)) (blkOk_by (own := [("tie", 3)]) (N := n_Threads___init__) (sc := defScope s_Threads___init__) (by decide +kernel)) (fun _ _ _ _ _ => (pg_name (i := 3) sc_Threads___init__.nd rfl (Or.inl rfl))) (fun _ _ _ _ _ => pts_nil) (fun _ _ _ _ _ => (pe_tup (pa_cons (pe_ix (r := rIxT K) ix_tup (pv 3) pe_int (fun _ _ => rfl)) (pa_cons (pe_ix (r := rIxT K) ix_tup (pv 3) pe_int (fun _ _ => rfl)) pa_nil))))) pa_nil)) rfl)))))), ?_⟩
    have eB : (decide ((1 : Int) ≤ (N : Int)) && decide ((N : Int) ≤ 20)) = true := by
      rw [Bool.and_eq_true]
      exact ⟨decide_eq_true (by omega), decide_eq_true (by omega)⟩
    have tl : ts.length ≤ 16 := by rw [hpr.len]; exact hl
    refine ⟨_, rfl, N, 1, 20, rfl, true, by rw [eB], iteF ?_⟩
    refine ⟨_, rfl, a, _, rfl, ha, by rw [List.length_map]; exact tl, ?_⟩
    -- all([is_tie(tie, places) for tie in ties])
    refine ⟨_, rfl, a, rfl, ⟨_, SqL.of ha⟩, fun D hD => lc_list (K := K) (a := a) (xs := ts.map V.ref) (fun i H' => Same H H' ∧ H' D = some (.lst ((List.replicate i true).map V.bl)))
      ⟨same_upd hD, upd_same⟩ (fun i H' _ p => SqL.of (p.1 _ _ ha)) ?_ ?_⟩
    · rintro i y H' hi ⟨s5, hL⟩
      obtain ⟨t, ht, rfl⟩ := map_at hi
      obtain ⟨e, he, hte⟩ := hpr.at ht
      obtain ⟨b1, b2⟩ := hb e (List.mem_of_getElem? he)
      have il : i < ts.length := (List.getElem?_eq_some_iff.mp ht).1
      refine ⟨rfl, yesT ?_⟩
      refine ⟨_, rfl, _, rfl, t, N, e, rfl, s5 _ _ hte, b1, b2, fun H2 s6 => ⟨_, s6 _ _ hL, ?_, same_to (s5.trans s6) hD, ?_⟩⟩
      · rw [List.length_map, List.length_replicate]
        exact small1000 (by omega)
      · rw [List.replicate_succ', List.map_append]
        exact upd_same
    rintro H1 ⟨s1, hL⟩
    refine ⟨D, _, rfl, SqL.of hL, true, by rw [all_true], iteF ?_⟩
    -- self.places = places
    have npD : p ≠ D := ne_of_none hp hD
    refine ⟨_, rfl, _, rfl, p, C, dx, [], rfl, s1 _ _ hp, G.cl, G.nP, (by show 0 < 1000; decide), ?_⟩
    have k2 : ∀ b o, b ≠ p → H b = some o → (upd H1 p (.ins C dx (putF pk (nv N) []))) b = some o := fun b o nb e => by
      rw [upd_ne nb]
      exact s1 _ _ e
    have hp2 : (upd H1 p (.ins C dx (putF pk (nv N) []))) p = some (.ins C dx (putF pk (nv N) [])) := upd_same
    generalize upd H1 p (.ins C dx (putF pk (nv N) [])) = H2 at k2 hp2
    have nap : a ≠ p := ne_of ha hp (by intro z; cases z)
    have ha2 := k2 _ _ nap ha
    have hpr2 : prs H2 ts es := hpr.keep fun t xs e => k2 _ _ (ne_of e hp (by intro z; cases z)) e
    -- self.ties = tuple([(tie[0], tie[1]) for tie in ties])
    refine ⟨_, rfl, a, rfl, ⟨_, SqL.of ha2⟩, fun D2 hD2 => lc_list (K := K) (a := a) (xs := ts.map V.ref) (fun i H' => Same H2 H' ∧ ∃ ds, H' D2 = some (.lst (ds.map V.ref)) ∧ prs H' ds (es.take i))
      ⟨same_upd hD2, [], upd_same, True.intro⟩ (fun i H' _ p => SqL.of (p.1 _ _ ha2)) ?_ ?_⟩
    · rintro i y H' hi ⟨s5, ds, hL2, hds⟩
      obtain ⟨t, ht, rfl⟩ := map_at hi
      obtain ⟨e, he, hte⟩ := hpr2.at ht
      have il : i < ts.length := (List.getElem?_eq_some_iff.mp ht).1
      have hte' := s5 _ _ hte
      refine ⟨rfl, yesT ?_⟩
      refine ⟨_, rfl, t, _, _, _, rfl, rfl, SqT.of hte', atI_nat (j := 0) rfl, _, rfl, t, _, _, _, rfl, rfl, SqT.of hte', atI_nat (j := 1) rfl, (by show 2 ≤ sizeLine; decide), fun u hu => ?_⟩
      have nDu : D2 ≠ u := ne_of_none hL2 hu
      have dl : ds.length ≤ 16 := by
        rw [hds.len, List.length_take]
        omega
      have su : Same H' (upd H' u (.tup [nv e.1, nv e.2])) := same_upd hu
      refine ⟨_, su _ _ hL2, by rw [List.length_map]; exact small1000 (by omega), same_to (s5.trans su) hD2, ds ++ [u], ?_, ?_⟩
      · rw [List.map_append]
        exact upd_same
      · rw [take_more he]
        have pu : prs (upd H' u (.tup [nv e.1, nv e.2])) (ds ++ [u]) (es.take i ++ [e]) := prs.put upd_same (hds.same su)
        exact pu.upd (su _ _ hL2) (by intro xs z; cases z)
    · rintro H3 ⟨s3, ds, hL3, hds⟩
      rw [List.length_map, hpr.len, List.take_length] at hds
      refine ⟨D2, _, rfl, .inl ⟨SqL.of hL3, fun t ht => ?_⟩⟩
      have npt : p ≠ t := ne_of_none (s3 _ _ hp2) ht
      have st : Same H3 (upd H3 t (.tup (ds.map V.ref))) := same_upd ht
      refine ⟨_, rfl, p, C, dx, _, rfl, st _ _ (s3 _ _ hp2), G.cl, G.nT, (by show 1 < 1000; decide), ?_⟩
      refine q _ (fun b o nb e => ?_) ⟨dx, t, ds, upd_same, ?_, ?_⟩
      · rw [upd_ne nb]
        exact st _ _ (s3 _ _ (k2 _ _ nb e))
      · rw [upd_ne npt.symm]
        exact upd_same
      · exact (hds.same st).upd (st _ _ (s3 _ _ hp2)) (by intro xs z; cases z)
def spMany (C : Addr) : Sp := fun vs H Q _ => ∃ (p : Addr) (N : Nat) (es : List (Nat × Nat)), vs = [.ref p] ∧ ThAt C H p N es ∧ Q (nv es.length) H
theorem ok_many (B : Bl mg) (G : Gt K mg C) (F : L2.Fun K "many" "Threads.many" s_Threads_many f fd) (M : Meth K C "many" f) : C8.Met P w K mg base 1 C "many" (spMany C) [] := by
  refine ⟨f, fd, ["self"], [], G.cl, M, F.ok sc_Threads_many (fun vs H Q E h => ?_) (fun cdv A outer s H vs Q E hr h => ?_), F.binds (ps := ["self"]) (fun _ _ _ _ _ _ us hl => match us, hl with | [_], _ => rfl), .nil⟩
  · obtain ⟨p, N, es, rfl, _⟩ := h
    rfl
  · obtain ⟨p, N, es, rfl, ⟨dx, t, ts, hp, ht, hts⟩, q⟩ := h
    refine ⟨_, (pss_one (ps_ret (pe_callB (call_lenK (K := K) rfl) (by rfl) B.len_ (by decide +kernel) (pa_cons (pe_fld (pv 0) rfl) pa_nil)))), ?_⟩
    refine ⟨_, rfl, p, C, dx, _, _, rfl, hp, G.cl, G.nT, tf_ties _ _, t, _, rfl, .inr (SqT.of ht), ?_⟩
    rw [List.length_map, hts.len]
    exact q
def edAt (es : List (Nat × Nat)) (k : Nat) : Nat × Nat := es.getD k (0, 0)
theorem edAt_of {es : List (Nat × Nat)} {k : Nat} (h : k < es.length) : es[k]? = some (edAt es k) := by
  unfold edAt
  rw [List.getD_eq_getElem?_getD, List.getElem?_eq_getElem h]
  rfl
def spFree (C : Addr) : Sp := fun vs H Q _ => ∃ (p a : Addr) (N : Nat) (es : List (Nat × Nat)) (xs : List Nat), vs = [.ref p, .ref a] ∧ ThAt C H p N es ∧ H a = some (.lst (xs.map nv)) ∧ N ≤ 20 ∧ Bnd N es ∧ (∀ x ∈ xs, x < es.length) ∧ xs.Nodup ∧ xs.length ≤ 1000 ∧
  ∀ H', Same H H' → Q (.bl (TM.freeF id (xs.map (edAt es)))) H'
theorem rg_nats (N : Nat) : rgV 0 (N : Int) = (List.range N).map fun a => nv (id a) := by
  unfold rgV
  rw [show ((N : Int) - 0).toNat = N by omega]
  refine List.map_congr_left fun a _ => ?_
  show V.int (0 + (a : Int)) = V.int (a : Int)
  rw [Int.zero_add]
theorem dec_nv2 (n m : Nat) : V.bl (decide (nv n = nv m)) = V.bl (decide (n = m)) := by
  congr 1
  rw [Bool.eq_iff_iff, decide_eq_true_eq, decide_eq_true_eq]
  constructor
  · intro e
    have := V.int.inj e
    omega
  · intro e
    rw [e]
theorem ok_free (B : Bl mg) (G : Gt K mg C) (F : L2.Fun K "free" "Threads.free" s_Threads_free f fd) (M : Meth K C "free" f) (m_many : C8.Met P w K mg base 1 C "many" (spMany C) []) (c_check_set : C8.Cal P w K mg base 4 "check_set" spSet []) :
    C8.Met P w K mg base 5 C "free" (spFree C) [] := by
  refine ⟨f, fd, ["self", "some"], [], G.cl, M, F.ok sc_Threads_free (fun vs H Q E h => ?_) (fun cdv A outer s H vs Q E hr h => ?_), F.binds (ps := ["self", "some"]) (fun _ _ _ _ _ _ us hl => match us, hl with | [_, _], _ => rfl), .nil⟩
  · obtain ⟨p, a, N, es, xs, rfl, _⟩ := h
    rfl
  · obtain ⟨p, a, N, es, xs, rfl, hb, ha, hN, hbd, hx, hnd, hlen, q⟩ := h
    refine ⟨_, (pss_cons (ps_expr (C8.pe_c c_check_set hr (by first | decide | exact Nat.le_refl _ | omega) rfl (pa_cons (pv 1) (pa_cons (C8.pe_mt0 (pl := _) m_many hr (by decide) (pv 0)) pa_nil))))
      (pss_cons (ps_set (i := 2) sc_Threads_free.nd rfl (Or.inl rfl) (pe_listRg rfl (by rfl) B.list_ (prg_1 (by rfl) B.range_ (pe_fld (pv 0) rfl))))
      (pss_cons (ps_for PassesOwn.never rfl (pi_list (pv 1)) (pg_name (i := 3) sc_Threads_free.nd rfl (Or.inl rfl)) (pss_cons (ps_asg (pe_ix (r := rIxT K) ix_tup (pe_fld (pv 0) rfl) (pv 3) (fun _ _ => rfl)) (pg_tupK (K := K) (n := 2) rfl (by rfl) (pgs_cons (pg_name (i := 4) sc_Threads_free.nd rfl (Or.inl rfl)) (pgs_cons (pg_name (i := 5) sc_Threads_free.nd rfl (Or.inl rfl)) pgs_nil))))
      (pss_cons (ps_set (i := 6) sc_Threads_free.nd rfl (Or.inr rfl) (pe_ix (r := rIxL K) ix_list (pv 2) (pv 4) (fun _ _ => rfl)))
      (pss_cons (ps_set (i := 7) sc_Threads_free.nd rfl (Or.inr rfl) (pe_ix (r := rIxL K) ix_list (pv 2) (pv 5) (fun _ _ => rfl)))
      (pss_cons (ps_if (pt_cmpR op_eq (pv 6) (pv 7) (nomark _)) (pss_one (ps_ret pe_bl)) pss_nil)
      (pss_one (ps_setLc (i := 2) (own := [("mark", 8)]) rfl sc_Threads_free.nd rfl rfl (sw_true rfl rfl rfl (by decide +kernel)) (pi_list (pv 2)) (blkOk_by (own := [("mark", 8)]) (N := n_Threads_free) (sc := defScope s_Threads_free) (by decide +kernel)) (fun _ _ _ _ _ => (pg_name (i := 8) sc_Threads_free.nd rfl (Or.inl rfl))) (fun _ _ _ _ _ => pts_nil) (fun _ _ _ _ _ => (pe_ifExp (pt_cmpR op_eq (pv 8) (pv 7) (nomark _)) (pv 6) (pv 8))))))))))
      (pss_one (ps_ret pe_bl))))), ?_⟩
    obtain ⟨dx, t, ts, hp, ht, hts⟩ := id hb
    have ha' := ha
    rw [nv_ints] at ha'
    refine ⟨_, rfl, _, rfl, p, dx, _, rfl, hp, tf_many _ _, p, N, es, rfl, hb, a, _, _, rfl, ha', fun x hx' => ?_, nd_cast hnd, by rw [List.length_map]; exact hlen, fun H1 s1 => ?_⟩
    · obtain ⟨n, hn, rfl⟩ := List.mem_map.mp hx'
      have := hx n hn
      omega
    -- marks = list(range(self.places))
    refine ⟨_, rfl, p, C, dx, _, _, rfl, s1 _ _ hp, G.cl, G.nP, tf_places _ _, (N : Int), rfl, RgOk.of_le (by omega) (by omega) (by omega) (by omega), fun l0 hl0 => ?_⟩
    refine ⟨_, rfl, a, rfl, ⟨_, SqL.of (same_upd hl0 _ _ (s1 _ _ ha))⟩, for_list (K := K) (a := a) (xs := xs.map nv) (fun i σ H' => ∃ (v3 v4 v5 v6 v7 : Option V) (l : Addr) (m : Nat → Nat), σ = [some (.ref p), some (.ref a), some (.ref l), v3, v4, v5, v6, v7, none] ∧ Same H H' ∧
        H' l = some (.lst ((List.range N).map fun a => nv (m a))) ∧ TM.freeF m ((xs.drop i).map (edAt es)) = TM.freeF id (xs.map (edAt es)))
      ⟨none, none, none, none, none, l0, id, rfl, s1.trans (same_upd hl0), ?_, rfl⟩ (fun i σ H' _ ⟨_, _, _, _, _, _, _, _, s5, _⟩ => SqL.of (s5 _ _ ha)) ?_ ?_⟩
    · rw [← rg_nats]
      exact upd_same
    · rintro i y σ H' hi ⟨v3, v4, v5, v6, v7, l, m, rfl, s5, hL, inv⟩
      obtain ⟨x, hx', rfl⟩ := map_at hi
      have xlt := hx x (List.mem_of_getElem? hx')
      have ilt : i < xs.length := (List.getElem?_eq_some_iff.mp hx').1
      have hed := edAt_of xlt
      have tlt : x < ts.length := by rw [hts.len]; exact xlt
      obtain ⟨e, he, hte⟩ := hts.at (List.getElem?_eq_getElem tlt)
      have ee : e = edAt es x := Option.some.inj (he.symm.trans hed)
      obtain ⟨b1, b2⟩ := hbd e (List.mem_of_getElem? he)
      have hrow : (ts.map V.ref)[x]? = some (V.ref ts[x]) := by
        rw [List.getElem?_map, List.getElem?_eq_getElem tlt]
        rfl
      have edrop : xs.drop i = x :: xs.drop (i + 1) := by
        have e2 := (List.getElem?_eq_some_iff.mp hx').2
        rw [List.drop_eq_getElem_cons ilt, e2]
      have st : TM.freeF m (e :: (xs.drop (i + 1)).map (edAt es)) = TM.freeF id (xs.map (edAt es)) := by
        rw [← inv, edrop, List.map_cons, ee]
      have mk : ∀ k, k < N → ((List.range N).map fun a => nv (m a))[k]? = some (nv (m k)) := fun k hk => by
        rw [List.getElem?_map, List.getElem?_range hk]
        rfl
      -- near, far = self.ties[thing]
      refine ⟨_, rfl, p, C, dx, _, _, rfl, s5 _ _ hp, G.cl, G.nT, tf_ties _ _, _, rfl, t, _, _, _, rfl, rfl, SqT.of (s5 _ _ ht), atI_nat hrow, ?_⟩
      refine ⟨_, _, rfl, SqT.of (s5 _ _ hte), rfl, _, _, rfl, _, _, rfl, rfl, ?_⟩
      -- stays = marks[near]; goes = marks[far]
      refine ⟨_, rfl, _, rfl, l, _, _, _, rfl, rfl, SqL.of hL, atI_nat (mk _ b1), ?_⟩
      refine ⟨_, rfl, _, rfl, l, _, _, _, rfl, rfl, SqL.of hL, atI_nat (mk _ b2), ?_⟩
      refine ⟨_, rfl, _, rfl, rfl, _, dec_nv2 _ _, ?_⟩
      by_cases c : m e.1 = m e.2
      · rw [decide_eq_true c]
        have e' : TM.freeF m (e :: (xs.drop (i + 1)).map (edAt es)) = false := if_pos c
        rw [e'] at st
        refine iteT ?_
        have qq := q H' s5
        rw [← st] at qq
        exact qq
      · rw [decide_eq_false c]
        have e' : TM.freeF m (e :: (xs.drop (i + 1)).map (edAt es)) = TM.freeF (TM.re m e) ((xs.drop (i + 1)).map (edAt es)) := if_neg c
        rw [e'] at st
        refine iteF ⟨_, rfl, l, rfl, ⟨_, SqL.of hL⟩, fun D hD => lc_list (K := K) (a := l) (xs := (List.range N).map fun a => nv (m a)) (fun j H2 => Same H' H2 ∧ H2 D = some (.lst (((List.range N).take j).map fun a => nv (TM.re m e a))))
          ⟨same_upd hD, upd_same⟩ (fun j H2 _ p => SqL.of (p.1 _ _ hL)) ?_ ?_⟩
        · rintro j z H2 hj ⟨s6, hA⟩
          obtain ⟨o, ho, rfl⟩ := map_at hj
          have jl : j < N := by
            have := (List.getElem?_eq_some_iff.mp ho).1
            rw [List.length_range] at this
            exact this
          refine ⟨rfl, yesT ?_⟩
          have fin : ∀ v, v = nv (TM.re m e o) → ∃ acc, H2 D = some (.lst acc) ∧ acc.length < sizeLine ∧ Same H' (upd H2 D (.lst (acc ++ [v]))) ∧ (upd H2 D (.lst (acc ++ [v]))) D = some (.lst (((List.range N).take (j + 1)).map fun a => nv (TM.re m e a))) := fun v hv => by
            refine ⟨_, hA, ?_, same_to s6 hD, ?_⟩
            · rw [List.length_map, List.length_take]
              exact small1000 (by omega)
            · rw [take_more ho, List.map_append, hv]
              exact upd_same
          refine ⟨_, rfl, _, rfl, rfl, _, dec_nv2 _ _, ?_⟩
          by_cases c2 : m o = m e.2
          · rw [decide_eq_true c2]
            exact iteT ⟨_, rfl, fin _ (congrArg nv (if_pos c2).symm)⟩
          · rw [decide_eq_false c2]
            exact iteF ⟨_, rfl, fin _ (congrArg nv (if_neg c2).symm)⟩
        · rintro H2 ⟨s6, hA⟩
          rw [List.length_map, List.take_length] at hA
          exact ⟨_, _, _, _, _, D, TM.re m e, rfl, s5.trans s6, hA, st⟩
    · rintro σ H' ⟨v3, v4, v5, v6, v7, l, m, rfl, s5, hL, inv⟩
      rw [List.length_map, List.drop_length] at inv
      have qq := q H' s5
      rw [← inv] at qq
      exact qq
end
end Th
namespace Po
section
variable {P : Program} {w : World} {K : PySem.W.Frag} {mg : Str → Option Value} {base : Heap} {f C CR : Addr} {fd : FuncData}
/-! ### are_posts -/
structure Gp (K : PySem.W.Frag) (mg : Str → Option Value) (C : Addr) : Prop where
  cl : Cls K C
  nW : NoAttr K C "wants"
  HIGHEST_POST : Num mg "HIGHEST_POST" 30
def PostsOk (ns : List Nat) : Prop := (∀ n ∈ ns, n < 31) ∧ ns.Nodup
theorem PostsOk.len {ns : List Nat} (h : PostsOk ns) : ns.length ≤ 31 := by
  have := PM.nodup_le ns (List.range 31) h.2 fun x hx => List.mem_range.mpr (h.1 x hx)
  rw [List.length_range] at this
  exact this
def spPosts : Sp := fun vs H Q _ => ∃ (a : Addr) (ns : List Nat), vs = [.ref a] ∧ H a = some (.lst (ns.map nv)) ∧ PostsOk ns ∧ ∀ H', Same H H' → Q (.bl true) H'
theorem ok_posts (B : Bl mg) (G : Gp K mg C) (F : L2.Fun K "are_posts" "are_posts" s_are_posts f fd) (g : mg "are_posts" = some (.ref f)) (c_are_within : C8.Cal P w K mg base 3 "are_within" spAre []) : C8.Cal P w K mg base 4 "are_posts" spPosts [] := by
  refine ⟨f, fd, ["posts"], [], F.ok sc_are_posts (fun vs H Q E h => ?_) (fun cdv A outer s H vs Q E hr h => ?_), g, F.kp, F.binds (ps := ["posts"]) (fun _ _ _ _ _ _ us hl => match us, hl with | [_], _ => rfl), .nil⟩
  · obtain ⟨a, ns, rfl, _⟩ := h
    rfl
  · obtain ⟨a, ns, rfl, ha, hok, q⟩ := h
    refine ⟨_, (pss_one (ps_ret (pe_and (C8.pe_c c_are_within hr (by first | decide | exact Nat.le_refl _ | omega) rfl (pa_cons (pv 0) (pa_cons pe_int (pa_cons (C8.pe_gc rfl G.HIGHEST_POST) pa_nil)))) (pe_one (pe_cmpR op_eq (RZ.pe_lenSetI (by rfl) B.len_ (by rfl) B.set_ (pv 0)) (pe_callB (call_lenK (K := K) rfl) (by rfl) B.len_ (by decide +kernel) (pa_cons (pv 0) pa_nil)) (nomark _)))))), ?_⟩
    have hl := hok.len
    have hal : (ns.map (fun n : Nat => (n : Int))).all (inB 0 30) = true := by
      rw [List.all_eq_true]
      intro x hx
      obtain ⟨n, hn, rfl⟩ := List.mem_map.mp hx
      have := hok.1 n hn
      unfold inB
      rw [Bool.and_eq_true]
      exact ⟨decide_eq_true (by omega), decide_eq_true (by omega)⟩
    have ha' := ha
    rw [nv_ints] at ha'
    refine ⟨_, rfl, a, _, 0, 30, rfl, ha', by rw [List.length_map]; omega, fun H1 s1 => ⟨true, by rw [hal], iteT ?_⟩⟩
    refine ⟨_, rfl, a, _, rfl, SqL.of (s1 _ _ ha'), nd_cast hok.2, by rw [List.length_map]; omega, _, rfl, a, _, rfl, .inl (SqL.of (s1 _ _ ha')), rfl, ?_⟩
    have qq := q _ s1
    rw [List.length_map, List.length_map, List.length_map, decide_eq_true rfl]
    exact qq
/-! ### Posts -/
abbrev pf (t : Addr) : List (Str × V) := [("wants", .ref t)]
/-- a tuple of tuples of these posts stands at t -/
def WantsAt (H : Hp) (t : Addr) (ws : List (List Nat)) : Prop := ∃ ts, H t = some (.tup (ts.map V.ref)) ∧ rws .tup H ts ws
theorem WantsAt.keep {H H' : Hp} {t : Addr} {ws : List (List Nat)} (h : WantsAt H t ws) (k : ∀ b xs, H b = some (.tup xs) → H' b = some (.tup xs)) : WantsAt H' t ws := by
  obtain ⟨ts, h1, h2⟩ := h
  exact ⟨ts, k _ _ h1, h2.keep fun b xs _ e => k b xs e⟩
def PostsAt (C : Addr) (H : Hp) (p : Addr) (ws : List (List Nat)) : Prop := ∃ dx t, H p = some (.ins C dx (pf t)) ∧ WantsAt H t ws
theorem PostsAt.keep {H H' : Hp} {p : Addr} {ws : List (List Nat)} (h : PostsAt C H p ws) (k : ∀ b o, (∀ xs, o ≠ .lst xs) → H b = some o → H' b = some o) : PostsAt C H' p ws := by
  obtain ⟨dx, t, h1, h2⟩ := h
  exact ⟨dx, t, k _ _ (by intro xs z; cases z) h1, h2.keep fun b xs e => k _ _ (by intro xs z; cases z) e⟩
theorem PostsAt.same {H H' : Hp} {p : Addr} {ws : List (List Nat)} (h : PostsAt C H p ws) (s : Same H H') : PostsAt C H' p ws := h.keep fun b o _ e => s _ _ e
def spInit (C : Addr) : Sp := fun vs H Q _ => ∃ (p dx a : Addr) (ts : List Addr) (ws : List (List Nat)), vs = [.ref p, .ref a] ∧ H p = some (.ins C dx []) ∧ H a = some (.lst (ts.map V.ref)) ∧ rws .lst H ts ws ∧ ws.length ≤ 16 ∧ (∀ w ∈ ws, PostsOk w) ∧
  ∀ H', (∀ b o, b ≠ p → H b = some o → H' b = some o) → PostsAt C H' p ws → Q .non H'
theorem all_true : ∀ n, (List.replicate n true).all id = true
  | 0 => rfl
  | n + 1 => all_true n
theorem ok_init (B : Bl mg) (G : Gp K mg C) (F : L2.Fun K "__init__" "Posts.__init__" s_Posts___init__ f fd) (M : L2.Mk K C f) (g : mg "Posts" = some (.ref C)) (c_check_ground : C8.Cal P w K mg base 1 "check_ground" spGround [])
    (c_are_posts : C8.Cal P w K mg base 4 "are_posts" spPosts []) : C8.Mak P w K mg base 5 "Posts" C (spInit C) [] := by
  refine ⟨f, fd, ["self", "wants"], [], M, F.ok sc_Posts___init__ (fun vs H Q E h => ?_) (fun cdv A outer s H vs Q E hr h => ?_), g, F.binds (ps := ["self", "wants"]) (fun _ _ _ _ _ _ us hl => match us, hl with | [_, _], _ => rfl), .nil⟩
  · obtain ⟨p, dx, a, ts, ws, rfl, _⟩ := h
    rfl
  · obtain ⟨p, dx, a, ts, ws, rfl, hp, ha, hts, hl, hb, q⟩ := h
    refine ⟨_, (pss_cons (ps_expr (C8.pe_c c_check_ground hr (by first | decide | exact Nat.le_refl _ | omega) rfl (pa_cons (pv 1) pa_nil)))
      (pss_cons (ps_if (pt_not (pt_val (pe_callB (cr_all rfl) (by rfl) B.all_ (by decide +kernel) (pa_cons (pe_lc (own := [("posts", 2)]) rfl sc_Posts___init__.nd (pi_list (pv 1)) (blkOk_by (own := [("posts", 2)]) (N := n_Posts___init__) (sc := defScope s_Posts___init__) (by decide +kernel)) (fun _ _ _ _ _ => (pg_name (i := 2) sc_Posts___init__.nd rfl (Or.inl rfl))) (fun _ _ _ _ _ => pts_nil) (fun _ _ _ _ _ => (C8.pe_c c_are_posts hr (by first | decide | exact Nat.le_refl _ | omega) rfl (pa_cons (pv 2) pa_nil)))) pa_nil)))) (pss_one ps_never) pss_nil)
      (pss_one (ps_fld (pv 0) (pe_callTy (call_tupK (K := K) rfl) (by rfl) B.tuple_ (by decide +kernel) (pa_cons (pe_lc (own := [("posts", 2)]) rfl sc_Posts___init__.nd (pi_list (pv 1)) (blkOk_by (own := [("posts", 2)]) (N := n_Posts___init__) (sc := defScope s_Posts___init__) (by decide +kernel)) (fun _ _ _ _ _ => (pg_name (i := 2) sc_Posts___init__.nd rfl (Or.inl rfl))) (fun _ _ _ _ _ => pts_nil) (fun _ _ _ _ _ => (pe_callTy (call_tupK (K := K) rfl) (by rfl) B.tuple_ (by decide +kernel) (pa_cons (pv 2) pa_nil)))) pa_nil)) rfl)))), ?_⟩
    have tl : ts.length ≤ 16 := by rw [hts.len]; exact hl
    refine ⟨_, rfl, a, _, rfl, ha, by rw [List.length_map]; exact tl, ?_⟩
    -- all([are_posts(posts) for posts in wants])
    refine ⟨_, rfl, a, rfl, ⟨_, SqL.of ha⟩, fun D hD => lc_list (K := K) (a := a) (xs := ts.map V.ref) (fun i H' => Same H H' ∧ H' D = some (.lst ((List.replicate i true).map V.bl)))
      ⟨same_upd hD, upd_same⟩ (fun i H' _ p => SqL.of (p.1 _ _ ha)) ?_ ?_⟩
    · rintro i y H' hi ⟨s5, hL⟩
      obtain ⟨t, ht, rfl⟩ := map_at hi
      obtain ⟨e, he, hte⟩ := hts.at ht
      have il : i < ts.length := (List.getElem?_eq_some_iff.mp ht).1
      refine ⟨rfl, yesT ?_⟩
      refine ⟨_, rfl, t, e, rfl, s5 _ _ hte, hb e (List.mem_of_getElem? he), fun H2 s6 => ⟨_, s6 _ _ hL, ?_, same_to (s5.trans s6) hD, ?_⟩⟩
      · rw [List.length_map, List.length_replicate]
        exact small1000 (by omega)
      · rw [List.replicate_succ', List.map_append]
        exact upd_same
    rintro H1 ⟨s1, hL⟩
    refine ⟨D, _, rfl, SqL.of hL, true, by rw [all_true], iteF ?_⟩
    have ha2 := s1 _ _ ha
    have hts2 := hts.same s1
    -- self.wants = tuple([tuple(posts) for posts in wants])
    refine ⟨_, rfl, a, rfl, ⟨_, SqL.of ha2⟩, fun D2 hD2 => lc_list (K := K) (a := a) (xs := ts.map V.ref) (fun i H' => Same H1 H' ∧ ∃ ds, H' D2 = some (.lst (ds.map V.ref)) ∧ rws .tup H' ds (ws.take i))
      ⟨same_upd hD2, [], upd_same, True.intro⟩ (fun i H' _ p => SqL.of (p.1 _ _ ha2)) ?_ ?_⟩
    · rintro i y H' hi ⟨s5, ds, hL2, hds⟩
      obtain ⟨t, ht, rfl⟩ := map_at hi
      obtain ⟨e, he, hte⟩ := hts2.at ht
      have il : i < ts.length := (List.getElem?_eq_some_iff.mp ht).1
      have hte' := s5 _ _ hte
      refine ⟨rfl, yesT ?_⟩
      refine ⟨_, rfl, t, _, rfl, .inl ⟨SqL.of hte', fun u hu => ?_⟩⟩
      have dl : ds.length ≤ 16 := by
        rw [hds.len, List.length_take]
        omega
      have su : Same H' (upd H' u (.tup (e.map nv))) := same_upd hu
      have hL3 := su _ _ hL2
      refine ⟨_, hL3, by rw [List.length_map]; exact small1000 (by omega), same_to (s5.trans su) hD2, ds ++ [u], ?_, ?_⟩
      · rw [List.map_append]
        exact upd_same
      · rw [take_more he]
        have pu : rws .tup (upd H' u (.tup (e.map nv))) (ds ++ [u]) (ws.take i ++ [e]) := rws.put upd_same (hds.same su)
        exact pu.upd (pu.not_mem hL3 (by intro xs z; cases z))
    · rintro H3 ⟨s3, ds, hL3, hds⟩
      rw [List.length_map, hts.len, List.take_length] at hds
      refine ⟨D2, _, rfl, .inl ⟨SqL.of hL3, fun t ht => ?_⟩⟩
      have hp3 := s3 _ _ (s1 _ _ hp)
      have npt : p ≠ t := ne_of_none hp3 ht
      have st : Same H3 (upd H3 t (.tup (ds.map V.ref))) := same_upd ht
      refine ⟨_, rfl, p, C, dx, _, rfl, st _ _ hp3, G.cl, G.nW, (by show 0 < 1000; decide), ?_⟩
      refine q _ (fun b o nb e => ?_) ⟨dx, t, upd_same, ds, ?_, ?_⟩
      · rw [upd_ne nb]
        exact st _ _ (s3 _ _ (s1 _ _ e))
      · rw [upd_ne npt.symm]
        exact upd_same
      · exact (hds.same st).upd ((hds.same st).not_mem (st _ _ hp3) (by intro xs z; cases z))
def spMany (C : Addr) : Sp := fun vs H Q _ => ∃ (p : Addr) (ws : List (List Nat)), vs = [.ref p] ∧ PostsAt C H p ws ∧ Q (nv ws.length) H
theorem ok_many (B : Bl mg) (G : Gp K mg C) (F : L2.Fun K "many" "Posts.many" s_Posts_many f fd) (M : Meth K C "many" f) : C8.Met P w K mg base 1 C "many" (spMany C) [] := by
  refine ⟨f, fd, ["self"], [], G.cl, M, F.ok sc_Posts_many (fun vs H Q E h => ?_) (fun cdv A outer s H vs Q E hr h => ?_), F.binds (ps := ["self"]) (fun _ _ _ _ _ _ us hl => match us, hl with | [_], _ => rfl), .nil⟩
  · obtain ⟨p, ws, rfl, _⟩ := h
    rfl
  · obtain ⟨p, ws, rfl, ⟨dx, t, hp, ts, ht, hts⟩, q⟩ := h
    refine ⟨_, (pss_one (ps_ret (pe_callB (call_lenK (K := K) rfl) (by rfl) B.len_ (by decide +kernel) (pa_cons (pe_fld (pv 0) rfl) pa_nil)))), ?_⟩
    refine ⟨_, rfl, p, C, dx, _, _, rfl, hp, G.cl, G.nW, rfl, t, _, rfl, .inr (SqT.of ht), ?_⟩
    rw [List.length_map, hts.len]
    exact q
/-! ### gets_post -/
/-- what a thing wants -/
def wAt (ws : List (List Nat)) (k : Nat) : List Nat := ws.getD k []
theorem wAt_of {ws : List (List Nat)} {k : Nat} (h : k < ws.length) : ws[k]? = some (wAt ws k) := by
  unfold wAt
  rw [List.getD_eq_getElem?_getD, List.getElem?_eq_getElem h]
  rfl
/-- the dict says who holds what -/
def Hold (kvs : List (Key × V)) (h : Nat → Option Nat) : Prop := ∀ p : Nat, valV kvs (Sum.inl (p : Int)) = (h p).map nv
theorem Hold.put {kvs : List (Key × V)} {h : Nat → Option Nat} (H : Hold kvs h) (p z : Nat) : Hold (putK kvs (Sum.inl (p : Int)) (nv z)) (PM.put h p z) := fun q => by
  rw [valV_put]
  unfold PM.put
  by_cases e : q = p
  · subst e
    rw [if_pos rfl, if_pos rfl]
    rfl
  · have e2 : ¬ ((Sum.inl (q : Int) : Key) = Sum.inl (p : Int)) := fun z => e (by have := Sum.inl.inj z; omega)
    rw [if_neg e2, if_neg e]
    exact H q
theorem putK_len (kvs : List (Key × V)) (k : Key) (v : V) : (putK kvs k v).length ≤ kvs.length + 1 := by
  unfold putK
  by_cases c : (kvs.any fun kv => decide (kv.1 = k)) = true
  · rw [if_pos c, List.length_map]
    omega
  · rw [if_neg c, List.length_append]
    exact Nat.le_refl _
def spGets (d : Nat) : Sp := fun vs H Q _ => ∃ (z : Nat) (wt hd tr : Addr) (ws : List (List Nat)) (kvs : List (Key × V)) (h : Nat → Option Nat) (T : List Nat), vs = [nv z, .ref wt, .ref hd, .ref tr] ∧ WantsAt H wt ws ∧ H hd = some (.dK kvs) ∧ H tr = some (.lst (T.map nv)) ∧
  z < ws.length ∧ (∀ w ∈ ws, PostsOk w) ∧ Hold kvs h ∧ PM.Pre h T z ∧ (∀ p y, h p = some y → p ∈ wAt ws y) ∧ (∀ p y, h p = some y → y < ws.length) ∧ T.Nodup ∧ (∀ p ∈ T, p < 31) ∧ 31 ≤ T.length + d ∧ kvs.length ≤ 100000 ∧
  (∀ (H' : Hp) (kvs' : List (Key × V)) (h' : Nat → Option Nat) (T' : List Nat), (∀ b o, b ≠ hd → b ≠ tr → H b = some o → H' b = some o) → H' hd = some (.dK kvs') → H' tr = some (.lst (T'.map nv)) → Hold kvs' h' → PM.Yes (wAt ws) h T z h' T' →
    (∀ p y, h' p = some y → y < ws.length) → T'.Nodup → (∀ p ∈ T', p < 31) → kvs'.length + T.length ≤ kvs.length + T'.length → Q (.bl true) H') ∧
  (∀ (H' : Hp) (T' : List Nat), (∀ b o, b ≠ tr → H b = some o → H' b = some o) → H' tr = some (.lst (T'.map nv)) → PM.No (wAt ws) h T z T' → T'.Nodup → (∀ p ∈ T', p < 31) → T.length ≤ T'.length → Q (.bl false) H')
end
section
variable {P : Program} {w : World} {K : PySem.W.Frag} {mg : Str → Option Value} {base : Heap} {f C CR : Addr} {fd : FuncData}
theorem gets_step {k d : Nat} {sp0 : Sp} (F : L2.Fun K "gets_post" "gets_post" s_gets_post f fd) (g : mg "gets_post" = some (.ref f)) (c_gets_post : C8.Cal P w K mg base k "gets_post" sp0 []) (up : ∀ d', d = d' + 1 → sp0 = spGets d') :
    C8.Cal P w K mg base (k + 1) "gets_post" (spGets d) [] := by
  refine ⟨f, fd, ["thing", "wants", "holders", "tried"], [], F.ok sc_gets_post (fun vs H Q E h => ?_) (fun cdv A outer s H vs Q E hr h => ?_), g, F.kp, F.binds (ps := ["thing", "wants", "holders", "tried"]) (fun _ _ _ _ _ _ us hl => match us, hl with | [_, _, _, _], _ => rfl), .nil⟩
  · obtain ⟨z, wt, hd, tr, ws, kvs, h, T, rfl, _⟩ := h
    rfl
  · obtain ⟨z, wt, hd, tr, ws, kvs, h, T, rfl, hW, hH, hT, hz, hok, hold, pre, val, ylt, nd, p31, dl, kl, kY, kN⟩ := h
    refine ⟨_, (pss_cons (ps_for PassesOwn.never rfl (pi_tup (pe_ix (r := rIxT K) ix_tup (pv 1) (pv 0) (fun _ _ => rfl))) (pg_name (i := 4) sc_gets_post.nd rfl (Or.inl rfl)) (pss_cons (ps_if (pt_cmpR op_in_seq (pv 4) (pv 3) (by rfl)) (pss_one ps_continue) pss_nil)
      (pss_cons (ps_expr (pe_bm PySem.F.plainAttrs_list PySem.F.slot_list_append PySem.F.type_list_append mt_append (pv 3) (pa_cons (pv 4) pa_nil)))
      (pss_one (ps_if (PW.pt (pw_or (pt_cmp (pc_dnotin (hu_of hr) (pv 4) (pv 2))) (pw_or1 (pt_val (C8.pe_c c_gets_post hr (by first | decide | exact Nat.le_refl _ | omega) rfl (pa_cons (pe_dget (hu_of hr) (pv 2) (pv 4) (fun _ _ => rfl)) (pa_cons (pv 1) (pa_cons (pv 2) (pa_cons (pv 3) pa_nil))))))))) (pss_cons (ps_dput (hu_of hr) (pv 2) (pv 4) (pv 0) rfl)
      (pss_one (ps_ret pe_bl))) pss_nil)))))
      (pss_one (ps_ret pe_bl))), ?_⟩
    obtain ⟨ts, hwt, hts⟩ := id hW
    have tz : z < ts.length := by rw [hts.len]; exact hz
    obtain ⟨wz, ewz, htz⟩ := hts.at (List.getElem?_eq_getElem tz)
    have ez : wz = wAt ws z := Option.some.inj (ewz.symm.trans (wAt_of hz))
    have okz : PostsOk wz := hok wz (List.mem_of_getElem? ewz)
    subst ez
    have hrow : (ts.map V.ref)[z]? = some (V.ref ts[z]) := by
      rw [List.getElem?_map, List.getElem?_eq_getElem tz]
      rfl
    have nht : hd ≠ tr := ne_of hH hT (by intro q; cases q)
    have kt : ∀ {H' : Hp}, (∀ b o, b ≠ tr → H b = some o → H' b = some o) → ∀ b xs, H b = some (.tup xs) → H' b = some (.tup xs) := fun kp b xs e => kp b _ (ne_of e hT (by intro q; cases q)) e
    refine ⟨_, rfl, _, rfl, wt, _, _, _, rfl, rfl, SqT.of hwt, atI_nat hrow, _, rfl, ⟨_, SqT.of htz⟩, for_tup (K := K) (a := ts[z]) (xs := (wAt ws z).map nv) (fun i σ H' => ∃ (v : Option V) (T1 : List Nat), σ = [some (nv z), some (.ref wt), some (.ref hd), some (.ref tr), v] ∧
        (∀ b o, b ≠ tr → H b = some o → H' b = some o) ∧ H' tr = some (.lst (T1.map nv)) ∧ PM.Mid (wAt ws) h T ((wAt ws z).take i) T1 ∧ T1.Nodup ∧ (∀ p ∈ T1, p < 31) ∧ T.length ≤ T1.length)
      ⟨none, T, rfl, fun _ _ _ e => e, hT, PM.Mid.start, nd, p31, Nat.le_refl _⟩ (fun i σ H' _ ⟨_, _, _, kp, _⟩ => SqT.of (kt kp _ _ htz)) ?_ ?_⟩
    · rintro i y σ H' hi ⟨v, T1, rfl, kp, hT1, mid, nd1, p1, tl⟩
      obtain ⟨p, hp, rfl⟩ := map_at hi
      have pw : p ∈ wAt ws z := List.mem_of_getElem? hp
      have pl : p < 31 := okz.1 p pw
      have tk := take_more hp
      refine ⟨_, rfl, _, rfl, tr, _, rfl, .inl (SqL.of hT1), rfl, flat_nats _, decide (p ∈ T1), ?_, ?_⟩
      · rw [if_neg Bool.false_ne_true]
        exact congrArg V.bl (in_nats p T1)
      by_cases c : p ∈ T1
      · rw [decide_eq_true c]
        refine iteT ?_
        refine ⟨_, T1, rfl, kp, hT1, ?_, nd1, p1, tl⟩
        rw [tk]
        exact mid.skip c
      rw [decide_eq_false c]
      refine iteF ?_
      have nd2 : (T1 ++ [p]).Nodup := by
        rw [List.nodup_append]
        refine ⟨nd1, by simp, fun a ha b hb e => ?_⟩
        rw [List.mem_singleton.mp hb] at e
        exact c (e ▸ ha)
      have p2 : ∀ q ∈ T1 ++ [p], q < 31 := fun q hq => by
        rcases List.mem_append.mp hq with e | e
        · exact p1 q e
        · rw [List.mem_singleton.mp e]; exact pl
      have l31 : (T1 ++ [p]).length ≤ 31 := (show PostsOk (T1 ++ [p]) from ⟨p2, nd2⟩).len
      have l2 : (T1 ++ [p]).length = T1.length + 1 := by rw [List.length_append]; rfl
      -- tried.append(post)
      refine ⟨_, rfl, .inl ⟨rfl, _, SqL.of hT1⟩, _, rfl, tr, _, _, rfl, rfl, hT1, by rw [List.length_map]; exact small1000 (by omega), ?_⟩
      have kp2 : ∀ b o, b ≠ tr → H b = some o → (upd H' tr (.lst (T1.map nv ++ [nv p]))) b = some o := fun b o nb e => by
        rw [upd_ne nb]
        exact kp b o nb e
      have hT2 : (upd H' tr (.lst (T1.map nv ++ [nv p]))) tr = some (.lst ((T1 ++ [p]).map nv)) := by
        rw [List.map_append]
        exact upd_same
      generalize upd H' tr (.lst (T1.map nv ++ [nv p])) = H2 at kp2 hT2
      have hH2 := kp2 _ _ nht hH
      have hv := hold p
      refine ⟨_, rfl, _, rfl, hd, _, rfl, DGet.k (k := Sum.inl (p : Int)) hH2, _, rfl, ?_⟩
      cases hc : h p with
      | none =>
        rw [hv, hc]
        refine iteT (iteT ?_)
        refine ⟨_, rfl, _, rfl, _, rfl, hd, _, rfl, DPut.k (k := Sum.inl (p : Int)) hH2 (Nat.lt_of_le_of_lt kl (by decide)), ?_⟩
        refine kY _ _ _ (T1 ++ [p]) (fun b o n1 n2 e => ?_) upd_same ?_ (hold.put p z) (PM.yes_free pre val mid c pw hc) (fun q y' e => ?_) nd2 p2 ?_
        · rw [upd_ne n1]
          exact kp2 b o n2 e
        · rw [upd_ne nht.symm]
          exact hT2
        · by_cases eq : q = p
          · rw [eq, PM.put_at] at e
            rw [← Option.some.inj e]
            exact hz
          · rw [PM.put_ne eq] at e
            exact ylt q y' e
        · have := putK_len kvs (Sum.inl (p : Int)) (nv z)
          omega
      | some y =>
        rw [hv, hc]
        refine iteF ?_
        obtain ⟨d', rfl⟩ : ∃ d', d = d' + 1 := ⟨d - 1, by omega⟩
        have es := up d' rfl
        have dg : DGet H2 hd (kV (Sum.inl (p : Int))) (some (nv y)) := by
          have := DGet.k (k := (Sum.inl (p : Int) : Key)) hH2
          rw [hv, hc] at this
          exact this
        refine ⟨_, rfl, _, rfl, hd, nv y, rfl, dg, _, rfl, _, rfl, _, rfl, ?_⟩
        rw [es]
        have kt2 := kt kp2
        refine ⟨y, wt, hd, tr, ws, kvs, h, T1 ++ [p], rfl, hW.keep kt2, hH2, hT2, ylt p y hc, hok, hold, PM.pre_next (ps := []) pre hc, val, ylt, nd2, p2, by omega, kl, ?_, ?_⟩
        · intro H3 kvs3 h3 T3 kp3 hH3 hT3 hold3 Y ylt3 nd3 p3 len3
          refine ⟨true, rfl, iteT ?_⟩
          have k3 : kvs3.length ≤ kvs.length + 31 := by
            have := (show PostsOk T3 from ⟨p3, nd3⟩).len
            omega
          refine ⟨_, rfl, _, rfl, _, rfl, hd, _, rfl, DPut.k (k := Sum.inl (p : Int)) hH3 (Nat.lt_of_le_of_lt (Nat.le_trans k3 (Nat.add_le_add_right kl 31)) (by decide)), ?_⟩
          refine kY _ _ _ T3 (fun b o n1 n2 e => ?_) upd_same ?_ (hold3.put p z) (PM.yes_back pre mid c pw hc Y) (fun q y' e => ?_) nd3 p3 ?_
          · rw [upd_ne n1]
            exact kp3 b o n1 n2 (kp2 b o n2 e)
          · rw [upd_ne nht.symm]
            exact hT3
          · by_cases eq : q = p
            · rw [eq, PM.put_at] at e
              rw [← Option.some.inj e]
              exact hz
            · rw [PM.put_ne eq] at e
              exact ylt3 q y' e
          · have := putK_len kvs3 (Sum.inl (p : Int)) (nv z)
            omega
        · intro H3 T3 kp3 hT3 N nd3 p3 len3
          refine ⟨false, rfl, iteF ?_⟩
          refine ⟨_, T3, rfl, fun b o nb e => kp3 b o nb (kp2 b o nb e), hT3, ?_, nd3, p3, by omega⟩
          rw [tk]
          exact mid.no hc N
    · rintro σ H' ⟨v, T1, rfl, kp, hT1, mid, nd1, p1, tl⟩
      rw [List.length_map, List.take_length] at mid
      exact kN _ T1 kp hT1 mid.stop nd1 p1 tl
theorem ok_gets (F : L2.Fun K "gets_post" "gets_post" s_gets_post f fd) (g : mg "gets_post" = some (.ref f)) : ∀ d, C8.Cal P w K mg base (d + 2) "gets_post" (spGets d) []
  | 0 => gets_step (k := 1) (sp0 := fun _ _ _ _ => False) F g ⟨f, fd, ["thing", "wants", "holders", "tried"], [], F.ok (k := 0) sc_gets_post (fun _ _ _ _ h => h.elim) (fun _ _ _ _ _ _ _ _ _ h => h.elim), g, F.kp, F.binds (ps := ["thing", "wants", "holders", "tried"]) (fun _ _ _ _ _ _ us hl => match us, hl with | [_, _, _, _], _ => rfl), .nil⟩ (fun d' e => by omega)
  | d + 1 => gets_step (k := d + 2) F g (ok_gets F g d) (fun d' e => by rw [show d' = d by omega])
def spFree (C : Addr) : Sp := fun vs H Q _ => ∃ (p a : Addr) (ws : List (List Nat)) (xs : List Nat), vs = [.ref p, .ref a] ∧ PostsAt C H p ws ∧ H a = some (.lst (xs.map nv)) ∧ (∀ w ∈ ws, PostsOk w) ∧ (∀ x ∈ xs, x < ws.length) ∧ xs.Nodup ∧ xs.length ≤ 1000 ∧
  ∀ H' (b : Bool), Same H H' → (b = true ↔ PM.Free (wAt ws) xs) → Q (.bl b) H'
theorem ok_free (B : Bl mg) (G : Gp K mg C) (F : L2.Fun K "free" "Posts.free" s_Posts_free f fd) (M : Meth K C "free" f) (m_many : C8.Met P w K mg base 1 C "many" (spMany C) []) (c_check_set : C8.Cal P w K mg base 4 "check_set" spSet [])
    (c_gets_post : C8.Cal P w K mg base 33 "gets_post" (spGets 31) []) : C8.Met P w K mg base 34 C "free" (spFree C) [] := by
  refine ⟨f, fd, ["self", "some"], [], G.cl, M, F.ok sc_Posts_free (fun vs H Q E h => ?_) (fun cdv A outer s H vs Q E hr h => ?_), F.binds (ps := ["self", "some"]) (fun _ _ _ _ _ _ us hl => match us, hl with | [_, _], _ => rfl), .nil⟩
  · obtain ⟨p, a, ws, xs, rfl, _⟩ := h
    rfl
  · obtain ⟨p, a, ws, xs, rfl, hb, ha, hok, hx, hnd, hlen, q⟩ := h
    refine ⟨_, (pss_cons (ps_expr (C8.pe_c c_check_set hr (by first | decide | exact Nat.le_refl _ | omega) rfl (pa_cons (pv 1) (pa_cons (C8.pe_mt0 (pl := _) m_many hr (by decide) (pv 0)) pa_nil))))
      (pss_cons (ps_set (i := 2) sc_Posts_free.nd rfl (Or.inl rfl) pe_dnewK)
      (pss_cons (ps_for PassesOwn.never rfl (pi_list (pv 1)) (pg_name (i := 3) sc_Posts_free.nd rfl (Or.inl rfl)) (pss_one (ps_if (pt_not (pt_val (C8.pe_c c_gets_post hr (by first | decide | exact Nat.le_refl _ | omega) rfl (pa_cons (pv 3) (pa_cons (pe_fld (pv 0) rfl) (pa_cons (pv 2) (pa_cons (pe_lst pa_nil) pa_nil))))))) (pss_one (ps_ret pe_bl)) pss_nil)))
      (pss_one (ps_ret pe_bl))))), ?_⟩
    obtain ⟨dx, t, hp, hW⟩ := id hb
    have ha' := ha
    rw [nv_ints] at ha'
    refine ⟨_, rfl, _, rfl, p, dx, _, rfl, hp, rfl, p, ws, rfl, hb, a, _, _, rfl, ha', fun x hx' => ?_, nd_cast hnd, by rw [List.length_map]; exact hlen, fun H1 s1 => ?_⟩
    · obtain ⟨n, hn, rfl⟩ := List.mem_map.mp hx'
      have := hx n hn
      omega
    -- holders = {}
    intro hd hhd
    have hd0 : H hd = none := s1.free hhd
    refine ⟨_, rfl, a, rfl, ⟨_, SqL.of (same_upd hhd _ _ (s1 _ _ ha))⟩, for_list (K := K) (a := a) (xs := xs.map nv) (fun i σ H' => ∃ (v : Option V) (kvs : List (Key × V)) (h : Nat → Option Nat), σ = [some (.ref p), some (.ref a), some (.ref hd), v] ∧ Same H H' ∧
        H' hd = some (.dK kvs) ∧ Hold kvs h ∧ PM.Mat (wAt ws) h (xs.take i) ∧ kvs.length ≤ 31 * i)
      ⟨none, [], fun _ => none, rfl, s1.trans (same_upd hhd), upd_same, fun _ => rfl, PM.Mat.start, Nat.le_refl _⟩ (fun i σ H' _ ⟨_, _, _, _, s5, _⟩ => SqL.of (s5 _ _ ha)) ?_ ?_⟩
    · rintro i y σ H' hi ⟨v, kvs, h, rfl, s5, hH, hold, mat, kl⟩
      obtain ⟨x, hx', rfl⟩ := map_at hi
      have xlt := hx x (List.mem_of_getElem? hx')
      have ilt : i < xs.length := (List.getElem?_eq_some_iff.mp hx').1
      have nx : x ∉ xs.take i := fun hm => by
        obtain ⟨j, hj⟩ := List.getElem?_of_mem hm
        have hji : j < i := Nat.lt_of_not_le fun le => by
          rw [List.getElem?_take, if_neg (by omega)] at hj
          cases hj
        rw [List.getElem?_take, if_pos hji] at hj
        have := nd_ix hnd hj hx'
        omega
      refine ⟨_, rfl, _, rfl, p, C, dx, _, _, rfl, s5 _ _ hp, G.cl, G.nW, rfl, _, rfl, Nat.zero_le _, fun tr htr => ?_⟩
      have st : Same H' (upd H' tr (.lst [])) := same_upd htr
      have tr0 : H tr = none := s5.free htr
      have nht : hd ≠ tr := ne_of_none hH htr
      have W2 : WantsAt (upd H' tr (.lst [])) t ws := hW.keep fun b zs e => st _ _ (s5 _ _ e)
      refine ⟨x, t, hd, tr, ws, kvs, h, [], rfl, W2, st _ _ hH, upd_same, xlt, hok, hold, mat.pre nx, mat.val, fun r y' e => hx y' (List.mem_of_mem_take (mat.ins r y' e)), List.nodup_nil, fun r hr' => (by cases hr'), Nat.le_refl _, by omega, ?_, ?_⟩
      · intro H3 kvs3 h3 T3 kp3 hH3 hT3 hold3 Y ylt3 nd3 p3 len3
        refine ⟨true, rfl, iteF ?_⟩
        have t31 := (show PostsOk T3 from ⟨p3, nd3⟩).len
        refine ⟨_, kvs3, h3, rfl, fun b o e => kp3 b o (ne_of_none e hd0) (ne_of_none e tr0) (st _ _ (s5 _ _ e)), hH3, hold3, ?_, ?_⟩
        · rw [take_more hx']
          exact mat.more nx Y
        · have : ([] : List Nat).length = 0 := rfl
          omega
      · intro H3 T3 kp3 hT3 N nd3 p3 len3
        refine ⟨false, rfl, iteT ?_⟩
        have nf := PM.not_free (L := xs) mat nx N nd3 (fun r hr' => List.mem_of_mem_take hr') (List.mem_of_getElem? hx')
        exact q H3 false (fun b o e => kp3 b o (ne_of_none e tr0) (st _ _ (s5 _ _ e))) ⟨fun e => (by cases e), fun e => absurd e nf⟩
    · rintro σ H' ⟨v, kvs, h, rfl, s5, hH, hold, mat, kl⟩
      rw [List.length_map, List.take_length] at mat
      exact q H' true s5 ⟨fun _ => mat.free, fun _ => rfl⟩
end
end Po
namespace Bi
section
variable {P : Program} {w : World} {K : PySem.W.Frag} {mg : Str → Option Value} {base : Heap} {f C CR : Addr} {fd : FuncData}
/-! ### lessened -/
theorem min_less (r o : Nat) : (if Builtin.bitXor (r : Int) (o : Int) < (r : Int) then Builtin.bitXor (r : Int) (o : Int) else (r : Int)) = ((BM.less1 r o : Nat) : Int) := by
  rw [Bits.bitXor_pp (Int.natCast_nonneg _) (Int.natCast_nonneg _), Int.toNat_natCast, Int.toNat_natCast]
  unfold BM.less1
  by_cases c : r ^^^ o < r
  · rw [if_pos c, if_pos (by omega)]
  · rw [if_neg c, if_neg (by omega)]
theorem less_more {r : Nat} {ts : List Nat} {i o : Nat} (h : ts[i]? = some o) : BM.less r (ts.take (i + 1)) = BM.less1 (BM.less r (ts.take i)) o := by
  unfold BM.less
  rw [take_more h, List.foldl_append]
  rfl
def spLess : Sp := fun vs H Q _ => ∃ (r : Nat) (a : Addr) (ts : List Nat), vs = [nv r, .ref a] ∧ H a = some (.lst (ts.map nv)) ∧ Q (nv (BM.less r ts)) H
theorem ok_less (B : Bl mg) (F : L2.Fun K "lessened" "lessened" s_lessened f fd) (g : mg "lessened" = some (.ref f)) : C8.Cal P w K mg base 1 "lessened" spLess [] := by
  refine ⟨f, fd, ["row", "taken"], [], F.ok sc_lessened (fun vs H Q E h => ?_) (fun cdv A outer s H vs Q E hr h => ?_), g, F.kp, F.binds (ps := ["row", "taken"]) (fun _ _ _ _ _ _ us hl => match us, hl with | [_, _], _ => rfl), .nil⟩
  · obtain ⟨r, a, ts, rfl, _⟩ := h
    rfl
  · obtain ⟨r, a, ts, rfl, ha, q⟩ := h
    refine ⟨_, (pss_cons (ps_for PassesOwn.never rfl (pi_list (pv 1)) (pg_name (i := 2) sc_lessened.nd rfl (Or.inl rfl)) (pss_one (ps_set (i := 0) sc_lessened.nd rfl (Or.inl rfl) (pe_callB (call_min2 rfl) (by rfl) B.min_ (by decide +kernel) (pa_cons (pv 0) (pa_cons (pe_op op_xor (pv 0) (pv 2)) pa_nil))))))
      (pss_one (ps_ret (pv 0)))), ?_⟩
    refine ⟨_, rfl, a, rfl, ⟨_, SqL.of ha⟩, for_list (K := K) (a := a) (xs := ts.map nv) (fun i σ H' => ∃ v : Option V, σ = [some (nv (BM.less r (ts.take i))), some (.ref a), v] ∧ H' = H)
      ⟨none, rfl, rfl⟩ (fun i σ H' _ ⟨_, _, e⟩ => by rw [e]; exact SqL.of ha) ?_ ?_⟩
    · rintro i y σ H' hi ⟨v, rfl, rfl⟩
      obtain ⟨o, ho, rfl⟩ := map_at hi
      refine ⟨_, rfl, _, rfl, _, rfl, _, _, rfl, rfl, _, _, rfl, ?_⟩
      refine ⟨some (nv o), ?_, rfl⟩
      rw [less_more ho, min_less]
      rfl
    · rintro σ H' ⟨v, rfl, rfl⟩
      rw [List.length_map, List.take_length]
      exact ⟨_, rfl, q⟩
/-! ### Bits -/
/-- the fields of a Bits whose tuple stands at t -/
abbrev bf (t : Addr) : List (Str × V) := [("rows", .ref t)]
/-- a Bits of these rows stands at p -/
def BitsAt (C : Addr) (H : Hp) (p : Addr) (rows : List Nat) : Prop := ∃ dx t, H p = some (.ins C dx (bf t)) ∧ H t = some (.tup (rows.map nv))
theorem BitsAt.same {H H' : Hp} {p : Addr} {rows : List Nat} (h : BitsAt C H p rows) (s : Same H H') : BitsAt C H' p rows := by
  obtain ⟨dx, t, h1, h2⟩ := h
  exact ⟨dx, t, s _ _ h1, s _ _ h2⟩
structure Gb (K : PySem.W.Frag) (mg : Str → Option Value) (C : Addr) : Prop where
  cl : Cls K C
  nR : NoAttr K C "rows"
  HIGHEST_ROW : Num mg "HIGHEST_ROW" 4294967295
def spInit (C : Addr) : Sp := fun vs H Q _ => ∃ (p dx a : Addr) (rows : List Nat), vs = [.ref p, .ref a] ∧ H p = some (.ins C dx []) ∧ H a = some (.lst (rows.map nv)) ∧ rows.length ≤ 16 ∧ (∀ r ∈ rows, r < 2 ^ 32) ∧
  ∀ H', (∀ b o, b ≠ p → H b = some o → H' b = some o) → BitsAt C H' p rows → Q .non H'
theorem ok_init (B : Bl mg) (G : Gb K mg C) (F : L2.Fun K "__init__" "Bits.__init__" s_Bits___init__ f fd) (M : Mk K C f) (g : mg "Bits" = some (.ref C)) (c_check_ground : C8.Cal P w K mg base 1 "check_ground" spGround [])
    (c_are_within : C8.Cal P w K mg base 3 "are_within" spAre []) : C8.Mak P w K mg base 4 "Bits" C (spInit C) [] := by
  refine ⟨f, fd, ["self", "rows"], [], M, F.ok sc_Bits___init__ (fun vs H Q E h => ?_) (fun cdv A outer s H vs Q E hr h => ?_), g, F.binds (ps := ["self", "rows"]) (fun _ _ _ _ _ _ us hl => match us, hl with | [_, _], _ => rfl), .nil⟩
  · obtain ⟨p, dx, a, rows, rfl, _⟩ := h
    rfl
  · obtain ⟨p, dx, a, rows, rfl, hp, ha, hl, hb, q⟩ := h
    refine ⟨_, (pss_cons (ps_expr (C8.pe_c c_check_ground hr (by first | decide | exact Nat.le_refl _ | omega) rfl (pa_cons (pv 1) pa_nil)))
      (pss_cons (ps_if (pt_not (pt_val (C8.pe_c c_are_within hr (by first | decide | exact Nat.le_refl _ | omega) rfl (pa_cons (pv 1) (pa_cons pe_int (pa_cons (C8.pe_gc rfl G.HIGHEST_ROW) pa_nil)))))) (pss_one ps_never) pss_nil)
      (pss_one (ps_fld (pv 0) (pe_callTy (call_tupK (K := K) rfl) (by rfl) B.tuple_ (by decide +kernel) (pa_cons (pv 1) pa_nil)) rfl)))), ?_⟩
    have hal : (rows.map (fun n : Nat => (n : Int))).all (inB 0 4294967295) = true := by
      rw [List.all_eq_true]
      intro x hx
      obtain ⟨n, hn, rfl⟩ := List.mem_map.mp hx
      have := hb n hn
      unfold inB
      rw [Bool.and_eq_true]
      exact ⟨decide_eq_true (by omega), decide_eq_true (by omega)⟩
    have ha' := ha
    rw [nv_ints] at ha'
    refine ⟨_, rfl, a, _, rfl, ha, by rw [List.length_map]; exact hl, ?_⟩
    refine ⟨_, rfl, a, _, 0, 4294967295, rfl, ha', by rw [List.length_map]; omega, fun H1 s1 => ⟨true, by rw [hal], iteF ?_⟩⟩
    refine ⟨_, rfl, a, _, rfl, .inl ⟨SqL.of (s1 _ _ ha), fun t ht => ?_⟩⟩
    have hp1 := same_upd (o := .tup (rows.map nv)) ht _ _ (s1 _ _ hp)
    refine ⟨_, rfl, p, C, dx, _, rfl, hp1, G.cl, G.nR, (by show 0 < 1000; decide), ?_⟩
    have npt : p ≠ t := ne_of_none (s1 _ _ hp) ht
    refine q _ (fun b o nb e => ?_) ⟨dx, t, upd_same, ?_⟩
    · rw [upd_ne nb]
      exact same_upd ht _ _ (s1 _ _ e)
    · rw [upd_ne npt.symm]
      exact upd_same
def spMany (C : Addr) : Sp := fun vs H Q _ => ∃ (p : Addr) (rows : List Nat), vs = [.ref p] ∧ BitsAt C H p rows ∧ Q (nv rows.length) H
theorem ok_many (B : Bl mg) (G : Gb K mg C) (F : L2.Fun K "many" "Bits.many" s_Bits_many f fd) (M : Meth K C "many" f) : C8.Met P w K mg base 1 C "many" (spMany C) [] := by
  refine ⟨f, fd, ["self"], [], G.cl, M, F.ok sc_Bits_many (fun vs H Q E h => ?_) (fun cdv A outer s H vs Q E hr h => ?_), F.binds (ps := ["self"]) (fun _ _ _ _ _ _ us hl => match us, hl with | [_], _ => rfl), .nil⟩
  · obtain ⟨p, rows, rfl, _⟩ := h
    rfl
  · obtain ⟨p, rows, rfl, ⟨dx, t, hp, ht⟩, q⟩ := h
    refine ⟨_, (pss_one (ps_ret (pe_callB (call_lenK (K := K) rfl) (by rfl) B.len_ (by decide +kernel) (pa_cons (pe_fld (pv 0) rfl) pa_nil)))), ?_⟩
    refine ⟨_, rfl, p, C, dx, _, _, rfl, hp, G.cl, G.nR, rfl, t, _, rfl, .inr (SqT.of ht), ?_⟩
    rw [List.length_map]
    exact q
def rowAt (rows : List Nat) (k : Nat) : Nat := rows.getD k 0
def spFree (C : Addr) : Sp := fun vs H Q _ => ∃ (p a : Addr) (rows xs : List Nat), vs = [.ref p, .ref a] ∧ BitsAt C H p rows ∧ H a = some (.lst (xs.map nv)) ∧ (∀ x ∈ xs, x < rows.length) ∧ xs.Nodup ∧ xs.length ≤ 1000 ∧
  ∀ H', Same H H' → Q (.bl (BM.freeF [] (xs.map (rowAt rows)))) H'
theorem ok_free (B : Bl mg) (G : Gb K mg C) (F : L2.Fun K "free" "Bits.free" s_Bits_free f fd) (M : Meth K C "free" f) (m_many : C8.Met P w K mg base 1 C "many" (spMany C) []) (c_check_set : C8.Cal P w K mg base 4 "check_set" spSet [])
    (c_lessened : C8.Cal P w K mg base 1 "lessened" spLess []) : C8.Met P w K mg base 5 C "free" (spFree C) [] := by
  refine ⟨f, fd, ["self", "some"], [], G.cl, M, F.ok sc_Bits_free (fun vs H Q E h => ?_) (fun cdv A outer s H vs Q E hr h => ?_), F.binds (ps := ["self", "some"]) (fun _ _ _ _ _ _ us hl => match us, hl with | [_, _], _ => rfl), .nil⟩
  · obtain ⟨p, a, rows, xs, rfl, _⟩ := h
    rfl
  · obtain ⟨p, a, rows, xs, rfl, hb, ha, hx, hnd, hlen, q⟩ := h
    refine ⟨_, (pss_cons (ps_expr (C8.pe_c c_check_set hr (by first | decide | exact Nat.le_refl _ | omega) rfl (pa_cons (pv 1) (pa_cons (C8.pe_mt0 (pl := _) m_many hr (by decide) (pv 0)) pa_nil))))
      (pss_cons (ps_set (i := 2) sc_Bits_free.nd rfl (Or.inl rfl) (pe_lst pa_nil))
      (pss_cons (ps_for PassesOwn.never rfl (pi_list (pv 1)) (pg_name (i := 3) sc_Bits_free.nd rfl (Or.inl rfl)) (pss_cons (ps_set (i := 4) sc_Bits_free.nd rfl (Or.inl rfl) (C8.pe_c c_lessened hr (by first | decide | exact Nat.le_refl _ | omega) rfl (pa_cons (pe_ix (r := rIxT K) ix_tup (pe_fld (pv 0) rfl) (pv 3) (fun _ _ => rfl)) (pa_cons (pv 2) pa_nil))))
      (pss_cons (ps_if (pt_cmpR op_eq (pv 4) pe_int (nomark _)) (pss_one (ps_ret pe_bl)) pss_nil)
      (pss_one (ps_expr (pe_bm PySem.F.plainAttrs_list PySem.F.slot_list_append PySem.F.type_list_append mt_append (pv 2) (pa_cons (pv 4) pa_nil)))))))
      (pss_one (ps_ret pe_bl))))), ?_⟩
    obtain ⟨dx, t, hp, ht⟩ := id hb
    have ha' := ha
    rw [nv_ints] at ha'
    refine ⟨_, rfl, _, rfl, p, dx, _, rfl, hp, rfl, p, rows, rfl, hb, a, _, _, rfl, ha', fun x hx' => ?_, nd_cast hnd, by rw [List.length_map]; exact hlen, fun H1 s1 => ?_⟩
    · obtain ⟨n, hn, rfl⟩ := List.mem_map.mp hx'
      have := hx n hn
      omega
    refine ⟨Nat.zero_le _, fun l hl => ?_⟩
    have hl0 : H l = none := s1.free hl
    refine ⟨_, rfl, a, rfl, ⟨_, SqL.of (same_upd hl _ _ (s1 _ _ ha))⟩, for_list (K := K) (a := a) (xs := xs.map nv) (fun i σ H' => ∃ (v u : Option V) (ts : List Nat), σ = [some (.ref p), some (.ref a), some (.ref l), v, u] ∧ Same H H' ∧ H' l = some (.lst (ts.map nv)) ∧
        ts.length ≤ i ∧ BM.freeF ts ((xs.drop i).map (rowAt rows)) = BM.freeF [] (xs.map (rowAt rows)))
      ⟨none, none, [], rfl, s1.trans (same_upd hl), upd_same, Nat.le_refl _, rfl⟩ (fun i σ H' _ ⟨_, _, _, _, s5, _⟩ => SqL.of (s5 _ _ ha)) ?_ ?_⟩
    · rintro i y σ H' hi ⟨v, u, ts, rfl, s5, hL, hts, inv⟩
      obtain ⟨x, hx', rfl⟩ := map_at hi
      have xlt := hx x (List.mem_of_getElem? hx')
      have ilt : i < xs.length := (List.getElem?_eq_some_iff.mp hx').1
      have hrow : (rows.map nv)[x]? = some (nv (rowAt rows x)) := by
        rw [List.getElem?_map, List.getElem?_eq_getElem xlt]
        unfold rowAt
        rw [List.getD_eq_getElem?_getD, List.getElem?_eq_getElem xlt]
        rfl
      have edrop : xs.drop i = x :: xs.drop (i + 1) := by
        have := List.drop_eq_getElem_cons ilt
        rw [this]
        have e2 := (List.getElem?_eq_some_iff.mp hx').2
        rw [e2]
      have st : BM.freeF ts (rowAt rows x :: (xs.drop (i + 1)).map (rowAt rows)) = BM.freeF [] (xs.map (rowAt rows)) := by
        rw [← inv, edrop, List.map_cons]
      refine ⟨_, rfl, p, C, dx, _, _, rfl, s5 _ _ hp, G.cl, G.nR, rfl, _, rfl, t, _, _, _, rfl, rfl, SqT.of (s5 _ _ ht), atI_nat hrow, ?_⟩
      refine ⟨_, rfl, rowAt rows x, l, ts, rfl, hL, ?_⟩
      refine ⟨_, rfl, rfl, _, dec_nv_bl _, ?_⟩
      by_cases c : BM.less (rowAt rows x) ts = 0
      · rw [decide_eq_true c]
        have e : BM.freeF ts (rowAt rows x :: (xs.drop (i + 1)).map (rowAt rows)) = false := if_pos c
        rw [e] at st
        refine iteT ?_
        have qq := q H' s5
        rw [← st] at qq
        exact qq
      · rw [decide_eq_false c]
        have e : BM.freeF ts (rowAt rows x :: (xs.drop (i + 1)).map (rowAt rows)) = BM.freeF (ts ++ [BM.less (rowAt rows x) ts]) ((xs.drop (i + 1)).map (rowAt rows)) := if_neg c
        rw [e] at st
        refine iteF ⟨_, rfl, .inl ⟨rfl, _, SqL.of hL⟩, _, rfl, l, _, _, rfl, rfl, hL, by rw [List.length_map]; exact small1000 (by omega), ?_⟩
        refine ⟨_, _, ts ++ [BM.less (rowAt rows x) ts], rfl, same_to s5 hl0, ?_, ?_, st⟩
        · rw [List.map_append]
          exact upd_same
        · rw [List.length_append]
          show ts.length + 1 ≤ i + 1
          omega
    · rintro σ H' ⟨v, u, ts, rfl, s5, hL, hts, inv⟩
      rw [List.length_map, List.drop_length] at inv
      have qq := q H' s5
      rw [← inv] at qq
      exact qq
where
  dec_nv_bl (n : Nat) : V.bl (decide (nv n = V.int 0)) = V.bl (decide (n = 0)) := by rw [dec_nv]
end
end Bi
end Fs
namespace Fs
inductive SD
  | th (N : Nat) (es : List (Nat × Nat))
  | ki (ks ms : List Nat)
  | po (ws : List (List Nat))
  | bi (rows : List Nat)
def SD.n : SD → Nat
  | .th _ es => es.length
  | .ki ks _ => ks.length
  | .po ws => ws.length
  | .bi rows => rows.length
def SD.Ok : SD → Prop
  | .th N es => 1 ≤ N ∧ N ≤ 20 ∧ Th.Bnd N es ∧ es.length ≤ 16
  | .ki ks ms => Ki.KOk ks ms ∧ ms.length ≤ 1000 ∧ ks.length ≤ 16
  | .po ws => (∀ w ∈ ws, Po.PostsOk w) ∧ ws.length ≤ 16
  | .bi rows => (∀ r ∈ rows, r < 2 ^ 32) ∧ rows.length ≤ 16
def SD.core : SD → List Nat → Prop
  | .th _ es, xs => TM.Ind (xs.map (Th.edAt es))
  | .ki ks ms, xs => Ki.freeK ks ms xs = true
  | .po ws, xs => PM.Free (Po.wAt ws) xs
  | .bi rows, xs => BM.Ind (xs.map (Bi.rowAt rows))
def SD.F (d : SD) (xs : List Nat) : Prop := (∀ x ∈ xs, x < d.n) ∧ d.core xs
theorem SD.Ok.n16 : ∀ {d : SD}, d.Ok → d.n ≤ 16
  | .th _ _, h => h.2.2.2
  | .ki _ _, h => h.2.2
  | .po _, h => h.2
  | .bi _, h => h.2
theorem freeK_iff {ks ms xs : List Nat} : Ki.freeK ks ms xs = true ↔ ∀ c, c < ms.length → (MT.col (fun x => ks.getD x 0) c xs).length ≤ ms.getD c 0 := by
  unfold Ki.freeK
  rw [List.all_eq_true]
  constructor
  · intro h c hc
    have := of_decide_eq_true (h c (List.mem_range.mpr hc))
    rw [← MT.count_col]
    exact this
  · intro h c hc
    refine decide_eq_true ?_
    have := h c (List.mem_range.mp hc)
    rw [← MT.count_col] at this
    exact this
theorem wAt_lt {ws : List (List Nat)} (h : ∀ w ∈ ws, Po.PostsOk w) (x : Nat) : ∀ p ∈ Po.wAt ws x, p < 31 := fun p hp => by
  by_cases l : x < ws.length
  · exact (h _ (List.mem_of_getElem? (Po.wAt_of l))).1 p hp
  · have : Po.wAt ws x = [] := by
      unfold Po.wAt
      rw [List.getD_eq_getElem?_getD, List.getElem?_eq_none (by omega)]
      rfl
    rw [this] at hp
    cases hp
theorem SD.mat : ∀ {d : SD}, d.Ok → MT.Mat d.F
  | .th N es, h => ((MT.clo_ties.mat (Th.edAt es)).congr fun xs _ => MT.ind_ties _).low _
  | .ki ks ms, h => by
    refine ((MT.Mat.kinds (fun x => ks.getD x 0) (fun c => ms.getD c 0) ms.length).low ks.length).congr fun xs nd => ?_
    refine and_congr_right fun low => ?_
    show _ ↔ Ki.freeK ks ms xs = true
    rw [freeK_iff]
    constructor
    · exact fun k c hc => (k c hc).1
    · refine fun k c hc => ⟨k c hc, fun x hx => ?_⟩
      have l := low x hx
      refine h.1.1 _ (List.mem_of_getElem? (i := x) ?_)
      rw [List.getD_eq_getElem?_getD, List.getElem?_eq_getElem l]
      rfl
  | .po ws, h => (MT.mat_posts (m := 31) (by decide) (wAt_lt h.1)).low _
  | .bi rows, h => ((MT.clo_bits.mat (Bi.rowAt rows)).congr fun xs _ => MT.ind_bits _).low _
end Fs
namespace Fs
open PySem L2
def SD.rl (d : SD) (h : d.Ok) : MT.Rl := ⟨d.n, d.F, SD.mat h, fun xs k => k.1, h.n16⟩
/-! ### a rule of one of the four sorts, drawn -/
structure Cs where
  t : Addr
  k : Addr
  p : Addr
  b : Addr
/-- such a rule stands at p -/
def SD.At (c : Cs) (H : Hp) (p : Addr) : SD → Prop
  | .th N es => Th.ThAt c.t H p N es
  | .ki ks ms => Ki.KiAt c.k H p ks ms
  | .po ws => Po.PostsAt c.p H p ws
  | .bi rows => Bi.BitsAt c.b H p rows
theorem SD.At.same {c : Cs} {H H' : Hp} {p : Addr} (s : Same H H') : ∀ {d : SD}, d.At c H p → d.At c H' p
  | .th _ _, h => Th.ThAt.same h s
  | .ki _ _, h => Ki.KiAt.same h s
  | .po _, h => Po.PostsAt.same h s
  | .bi _, h => Bi.BitsAt.same h s
/-! ### calls by rules of more than one class -/
section
variable {P : Program} {w : World} {K : PySem.W.Frag} {mg : Str → Option Value} {base : Heap} {f : Addr} {fd : FuncData} {sp sp' : Sp} {dvs : List V}
theorem room_up {k k' : Nat} {A : Around} (kk : k ≤ k') (hr : Room k' A) : Room k A := ⟨hr.hd, by have := hr.dp; omega, by have := hr.un; omega⟩
theorem fn_up {CX : CXT} {k k' : Nat} {ps : List Str} (h : FnOk P w K mg base CX k f fd ps sp) (kk : k ≤ k') (imp : ∀ vs H Q E, sp' vs H Q E → sp vs H Q E) : FnOk P w K mg base CX k' f fd ps sp' :=
  ⟨fun vs H Q E s => h.len vs H Q E (imp _ _ _ _ s), fun A outer s H args us vs Q E hr he hb hv hs => h.run A outer s H args us vs Q E (room_up kk hr) he hb hv (imp _ _ _ _ hs)⟩
theorem cal_up {k k' : Nat} {x : Str} (h : C8.Cal P w K mg base k x sp dvs) (kk : k ≤ k') (imp : ∀ vs H Q E, sp' vs H Q E → sp vs H Q E) : C8.Cal P w K mg base k' x sp' dvs := by
  obtain ⟨f, fd, ps, ds, a, b, c, d, e⟩ := h.ex
  exact ⟨f, fd, ps, ds, fn_up a kk imp, b, c, d, e⟩
theorem met_up {k k' : Nat} {C : Addr} {m : Str} (h : C8.Met P w K mg base k C m sp dvs) (kk : k ≤ k') (imp : ∀ vs H Q E, sp' vs H Q E → sp vs H Q E) : C8.Met P w K mg base k' C m sp' dvs := by
  obtain ⟨f, fd, ps, ds, a, b, c, d, e⟩ := h.ex
  exact ⟨f, fd, ps, ds, a, b, fn_up c kk imp, d, e⟩
theorem mak_up {k k' : Nat} {C : Addr} {x : Str} (h : C8.Mak P w K mg base k x C sp dvs) (kk : k ≤ k') (imp : ∀ vs H Q E, sp' vs H Q E → sp vs H Q E) : C8.Mak P w K mg base k' x C sp' dvs := by
  obtain ⟨f, fd, ps, ds, a, b, c, d, e⟩ := h.ex
  exact ⟨f, fd, ps, ds, a, fn_up b kk imp, c, d, e⟩
/-- the promise, asked of what is of class C -/
def spIn (C : Addr) (sp : Sp) : Sp := fun vs H Q E => (∃ p dx fs r, vs = .ref p :: r ∧ H p = some (.ins C dx fs)) ∧ sp vs H Q E
/-- one promise of a method for all classes of S -/
def MetG (P : Program) (w : World) (K : PySem.W.Frag) (mg : Str → Option Value) (base : Heap) (k : Nat) (S : Addr → Prop) (m : Str) (sp : Sp) : Prop := ∀ C, S C → C8.Met P w K mg base k C m (spIn C sp) []
def tMethG (S : Addr → Prop) (m : Str) (sp : Sp) (ta : TE) (t : TA) : TE := fun σ H Q => ∃ C, S C ∧ tMeth C m (spIn C sp) [] C8.E0 ta t σ H Q
theorem pe_mtG {X : Cx} {k j : Nat} {S : Addr → Prop} {m : Str} {sp : Sp} {pos apos : Pos} {e o : Expr} {es : List Expr} {ta : TE} {t : TA} {pl : Sem Bool} (c : MetG X.prog X.w X.K X.mg X.base k S m sp) (hr : Room j X.A) (hk : k ≤ j) (ho : PE X o ta) (ha : PA X (e :: es) t)
    (h1 : starEach (e :: es) X.env = (false, eval e X.env) :: starEach es X.env := by rfl) (h2 : ((backTo pos (starEach es X.env)).any (·.1)) = false := by rfl)
    (h3 : eval ((o.Attribute m apos).Call (e :: es) [] pos) X.env = (do
      let ov ← eval o X.env
      standAt apos.atName
      let (f, first) ← holding [ov] (getMethod ov m pl)
      callWith pos f first (backTo pos (starEach (e :: es) X.env)) (backToKw pos (keywordEach [] X.env))) := by rfl) :
    PE X ((o.Attribute m apos).Call (e :: es) [] pos) (tMethG S m sp ta t) :=
  ⟨fun pins s σ H Q I h => by
    obtain ⟨C, hC, h⟩ := h
    exact (C8.pe_mt (c C hC) hr hk ho ha h1 h2 h3).run pins s σ H Q I h⟩
theorem pe_mt0G {X : Cx} {k j : Nat} {S : Addr → Prop} {m : Str} {sp : Sp} {pos apos : Pos} {o : Expr} {ta : TE} {pl : Sem Bool} (c : MetG X.prog X.w X.K X.mg X.base k S m sp) (hr : Room j X.A) (hk : k ≤ j) (ho : PE X o ta)
    (h3 : eval ((o.Attribute m apos).Call [] [] pos) X.env = (do
      let ov ← eval o X.env
      standAt apos.atName
      let (f, first) ← holding [ov] (getMethod ov m pl)
      callWith pos f first (backTo pos (starEach [] X.env)) (backToKw pos (keywordEach [] X.env))) := by rfl) :
    PE X ((o.Attribute m apos).Call [] [] pos) (tMethG S m sp ta tNil) :=
  ⟨fun pins s σ H Q I h => by
    obtain ⟨C, hC, h⟩ := h
    exact (C8.pe_mt0 (c C hC) hr hk ho h3).run pins s σ H Q I h⟩
/-- how a rule of any class stands in the heap, by how high it is made: h -/
structure RK where
  S : Addr → Prop
  At : Nat → Hp → Addr → MT.Rl → Prop
  same : ∀ {h H H' p r}, Same H H' → At h H p r → At h H' p r
  cls : ∀ {h H p r}, At h H p r → ∃ C dx fs, S C ∧ H p = some (.ins C dx fs) ∧ fs.lookup ("free" : Str) = none ∧ fs.lookup ("many" : Str) = none
def spFreeG (A : RK) (h : Nat) : Sp := fun vs H Q _ => ∃ (p a : Addr) (r : MT.Rl) (xs : List Nat), vs = [.ref p, .ref a] ∧ A.At h H p r ∧ H a = some (.lst (xs.map nv)) ∧ xs.Nodup ∧ (∀ x ∈ xs, x < r.n) ∧
  ∀ H' (b : Bool), Same H H' → (b = true ↔ r.F xs) → Q (.bl b) H'
def spManyG (A : RK) (h : Nat) : Sp := fun vs H Q _ => ∃ (p : Addr) (r : MT.Rl), vs = [.ref p] ∧ A.At h H p r ∧ ∀ H', Same H H' → Q (nv r.n) H'
end
end Fs
namespace MS
theorem filter_congr' {α : Type} {p q : α → Bool} : ∀ {l : List α}, (∀ x ∈ l, p x = q x) → l.filter p = l.filter q
  | [], _ => rfl
  | x :: l, h => by
    have ih := filter_congr' (l := l) fun y hy => h y (List.mem_cons_of_mem _ hy)
    rw [List.filter_cons, List.filter_cons, ih, h x (List.mem_cons_self ..)]
end MS
namespace Fs
open PySem L2
theorem eq_nv (a b : Nat) : V.bl (decide (nv a = nv b)) = V.bl (decide (a = b)) := by
  congr 1
  rw [Bool.eq_iff_iff, decide_eq_true_eq, decide_eq_true_eq]
  constructor
  · intro k
    have := V.int.inj k
    omega
  · intro k
    rw [k]
theorem pe_c0 {X : Cx} {k j : Nat} {x : Str} {sp : Sp} {dvs : List V} {p pos : Pos} (c : C8.Cal X.prog X.w X.K X.mg X.base k x sp dvs) (hr : Room j X.A) (hk : k ≤ j) (hg : Gl X x) (hdb : (x == ("__debug__" : Str)) = false := by decide) : PE X (.Call (.Name x p) [] [] pos) (tCall sp dvs C8.E0 tNil) := by
  obtain ⟨f, fd, ps, ds, F, hm, kp, b, d⟩ := c.ex
  exact pe_call0 F (hr.mono hk) hg hm kp b d pass0 hdb
end Fs
namespace Fs
open PySem L2
theorem nodup_le {xs : List Nat} {n : Nat} (h : xs.Nodup) (l : ∀ x ∈ xs, x < n) : xs.length ≤ n := by
  have := MT.le_of_sub xs (List.range n) h fun x hx => List.mem_range.mpr (l x hx)
  rw [List.length_range] at this
  exact this
/-! ### rules as texts -/
def SD.words : SD → List Str
  | .th _ es => es.map Tx.tie
  | .ki ks _ => ks.map Tx.num
  | .po ws => ws.map Tx.want
  | .bi rows => rows.map Tx.num
def SD.headW : SD → List Str
  | .th N _ => [Str.ofString "threads", Tx.num N]
  | .ki _ ms => Str.ofString "kinds" :: ms.map Tx.num
  | .po _ => [Str.ofString "posts"]
  | .bi _ => [Str.ofString "bits"]
def SD.head (d : SD) : Str := Txt.join Tx.blank d.headW
def SD.txt (d : SD) : Str := Tx.row d.head d.words
section
open TL
theorem tl_threads : tl (Str.ofString "threads") = [116, 104, 114, 101, 97, 100, 115] := tl_ofString "threads"
theorem tl_kinds : tl (Str.ofString "kinds") = [107, 105, 110, 100, 115] := tl_ofString "kinds"
theorem tl_posts : tl (Str.ofString "posts") = [112, 111, 115, 116, 115] := tl_ofString "posts"
theorem tl_bits : tl (Str.ofString "bits") = [98, 105, 116, 115] := tl_ofString "bits"
theorem SD.head_free {s : Nat} (h : s = 32 ∨ s = 58) : ∀ {d : SD}, ∀ w ∈ d.headW, s ∉ tl w
  | .th N _, w, hw => by
    simp only [SD.headW, List.mem_cons, List.not_mem_nil, or_false] at hw
    rcases hw with rfl | rfl
    · rw [tl_threads]; rcases h with rfl | rfl <;> decide
    · exact Tx.num_lt (by omega)
  | .ki _ ms, w, hw => by
    simp only [SD.headW, List.mem_cons, List.mem_map] at hw
    rcases hw with rfl | ⟨n, _, rfl⟩
    · rw [tl_kinds]; rcases h with rfl | rfl <;> decide
    · exact Tx.num_lt (by omega)
  | .po _, w, hw => by
    simp only [SD.headW, List.mem_cons, List.not_mem_nil, or_false] at hw
    subst hw
    rw [tl_posts]; rcases h with rfl | rfl <;> decide
  | .bi _, w, hw => by
    simp only [SD.headW, List.mem_cons, List.not_mem_nil, or_false] at hw
    subst hw
    rw [tl_bits]; rcases h with rfl | rfl <;> decide
theorem SD.words_free : ∀ {d : SD}, ∀ w ∈ d.words, 32 ∉ tl w
  | .th _ es, w, hw => by
    obtain ⟨e, _, rfl⟩ := List.mem_map.mp hw
    exact Tx.tie_free (.inl (by decide)) e
  | .ki ks _, w, hw => by
    obtain ⟨e, _, rfl⟩ := List.mem_map.mp hw
    exact Tx.num_lt (.inl (by decide))
  | .po ws, w, hw => by
    obtain ⟨e, _, rfl⟩ := List.mem_map.mp hw
    exact Tx.want_free (.inl (by decide)) e
  | .bi rows, w, hw => by
    obtain ⟨e, _, rfl⟩ := List.mem_map.mp hw
    exact Tx.num_lt (.inl (by decide))
theorem SD.headW_ne : ∀ d : SD, d.headW ≠ []
  | .th _ _, h => by cases h
  | .ki _ _, h => by cases h
  | .po _, h => by cases h
  | .bi _, h => by cases h
theorem SD.head_split (d : SD) : Txt.split d.head Tx.blank = d.headW := split_join Tx.tl_blank (by decide +kernel) d.headW_ne fun p hp => SD.head_free (.inl rfl) p hp
theorem SD.cut (d : SD) : Txt.partition d.txt Tx.colon = (d.head, Tx.colon, Tx.body d.words) :=
  Tx.row_cut _ (Tx.not_join (by rw [Tx.tl_blank]; decide) fun p hp => SD.head_free (.inr rfl) p hp)
/-- the numbers that are written -/
def SD.small : SD → Prop
  | .th N es => N < 10 ^ 10 ∧ ∀ e ∈ es, e.1 < 10 ^ 10 ∧ e.2 < 10 ^ 10
  | .ki ks ms => (∀ n ∈ ks, n < 10 ^ 10) ∧ ∀ n ∈ ms, n < 10 ^ 10
  | .po ws => ∀ w ∈ ws, w.length ≤ 31 ∧ ∀ n ∈ w, n < 10 ^ 10
  | .bi rows => ∀ n ∈ rows, n < 10 ^ 10
theorem SD.Ok.small : ∀ {d : SD}, d.Ok → d.small
  | .th N es, h => ⟨by have := h.2.1; omega, fun e he => by
      have b := h.2.2.1 e he
      have := h.2.1
      omega⟩
  | .ki ks ms, h => ⟨fun n hn => by
      have := h.1.1 n hn
      have := h.2.1
      omega, fun n hn => by
      have := h.1.2 n hn
      omega⟩
  | .po ws, h => fun w hw => ⟨by
      have k := h.1 w hw
      have := nodup_le k.2 k.1
      omega, fun n hn => by
      have := (h.1 w hw).1 n hn
      omega⟩
  | .bi rows, h => fun n hn => by
      have := h.1 n hn
      omega
theorem SD.word_len : ∀ {d : SD}, d.small → ∀ w ∈ d.words, w.length ≤ 400
  | .th _ es, h, w, hw => by
    obtain ⟨e, he, rfl⟩ := List.mem_map.mp hw
    have a := Tx.num_len (h.2 e he).1
    have b := Tx.num_len (h.2 e he).2
    show (Tx.num e.1 ++ Tx.dash ++ Tx.num e.2).length ≤ 400
    rw [Tx.append_len, Tx.append_len]
    have : Tx.dash.length = 1 := by rw [len_tl, Tx.tl_dash]; rfl
    omega
  | .ki ks _, h, w, hw => by
    obtain ⟨n, hn, rfl⟩ := List.mem_map.mp hw
    exact Nat.le_trans (Tx.num_len (h.1 n hn)) (by decide)
  | .po ws, h, w, hw => by
    obtain ⟨v, hv, rfl⟩ := List.mem_map.mp hw
    obtain ⟨l, k⟩ := h v hv
    unfold Tx.want
    by_cases c : v = []
    · rw [if_pos c, len_tl, Tx.tl_dash]; decide
    · rw [if_neg c]
      have := Tx.join_le (y := Tx.comma) (ps := v.map Tx.num) (k := 10) fun p hp => by
        obtain ⟨n, hn, rfl⟩ := List.mem_map.mp hp
        exact Tx.num_len (k n hn)
      have e : Tx.comma.length = 1 := by rw [len_tl, Tx.tl_comma]; rfl
      rw [e, List.length_map] at this
      omega
  | .bi rows, h, w, hw => by
    obtain ⟨n, hn, rfl⟩ := List.mem_map.mp hw
    exact Nat.le_trans (Tx.num_len (h n hn)) (by decide)
theorem SD.headW_len : ∀ {d : SD}, d.small → ∀ w ∈ d.headW, w.length ≤ 10
  | .th N es, h, w, hw => by
    simp only [SD.headW, List.mem_cons, List.not_mem_nil, or_false] at hw
    rcases hw with rfl | rfl
    · rw [len_tl, tl_threads]; decide
    · exact Tx.num_len h.1
  | .ki _ ms, h, w, hw => by
    simp only [SD.headW, List.mem_cons, List.mem_map] at hw
    rcases hw with rfl | ⟨n, hn, rfl⟩
    · rw [len_tl, tl_kinds]; decide
    · exact Tx.num_len (h.2 n hn)
  | .po _, h, w, hw => by
    simp only [SD.headW, List.mem_cons, List.not_mem_nil, or_false] at hw
    subst hw
    rw [len_tl, tl_posts]; decide
  | .bi _, h, w, hw => by
    simp only [SD.headW, List.mem_cons, List.not_mem_nil, or_false] at hw
    subst hw
    rw [len_tl, tl_bits]; decide
theorem SD.words_count : ∀ {d : SD}, d.words.length = d.n
  | .th _ es => List.length_map ..
  | .ki ks _ => List.length_map ..
  | .po ws => List.length_map ..
  | .bi rows => List.length_map ..
theorem SD.headW_count : ∀ {d : SD}, d.Ok → d.headW.length ≤ 1001
  | .th _ _, _ => by show 2 ≤ 1001; decide
  | .ki _ ms, h => by
    show (ms.map Tx.num).length + 1 ≤ 1001
    rw [List.length_map]
    have := h.2.1
    omega
  | .po _, _ => by show 1 ≤ 1001; decide
  | .bi _, _ => by show 1 ≤ 1001; decide
end
/-! ### what is written -/
section
variable {P : Program} {w : World} {K : PySem.W.Frag} {mg : Str → Option Value} {base : Heap} {f : Addr} {fd : FuncData}
theorem pe_joinK {X : Cx} {K : PySem.W.Frag} {o e : Expr} {to te : TE} {apos pos : Pos} (eK : X.K = K) (ho : PE X o to) (he : PE X e te) (hs : starEach [e] X.env = [(false, eval e X.env)] := by rfl) (hbase : attributeBase o "join" X.env (eval o X.env) = eval o X.env := by rfl) (hline : (apos.endLine == pos.line) = true := by rfl) :
    PE X (.Call (.Attribute o "join" apos) [e] [] pos) (tM1 (fun x xs H Q => ∃ a p, ∃ ys : List Str, x = .str a ∧ xs = [.ref p] ∧ (SqL K H p (ys.map V.str) ∨ SqT K H p (ys.map V.str)) ∧
      (ys.map (·.length)).sum + ys.length * a.length ≤ 16777216 ∧ Q (.str (Txt.join a ys)) H) to te) := by
  subst eK
  exact pe_join ho he hs hbase hline
theorem log_small {n : Nat} (h : n < 10 ^ 10) : ((n : Int)).natAbs.log2 < 1920 := by
  rw [Int.natAbs_natCast]
  by_cases z : n = 0
  · rw [z]; decide
  · exact (Nat.log2_lt z).mpr (Nat.lt_trans h (by decide +kernel))
theorem size_small {y : Str} {ps : List Str} {k m : Nat} (hy : y.length ≤ 1) (h : ∀ p ∈ ps, p.length ≤ k) (hm : ps.length * (k + 1) ≤ m) : (ps.map (·.length)).sum + ps.length * y.length ≤ m := by
  have a := Tx.sum_le h
  have b : ps.length * y.length ≤ ps.length * 1 := Nat.mul_le_mul_left _ hy
  rw [Nat.mul_add] at hm
  omega
theorem join_small {y : Str} {ps : List Str} {k m : Nat} (hy : y.length ≤ 1) (h : ∀ p ∈ ps, p.length ≤ k) (hm : ps.length * (k + 1) ≤ m) : (Txt.join y ps).length ≤ m :=
  Nat.le_trans (Tx.join_len y ps) (size_small hy h hm)
theorem len_blank : Tx.blank.length = 1 := by rw [TL.len_tl, Tx.tl_blank]; rfl
theorem len_colon : Tx.colon.length = 1 := by rw [TL.len_tl, Tx.tl_colon]; rfl
theorem len_dash : Tx.dash.length = 1 := by rw [TL.len_tl, Tx.tl_dash]; rfl
theorem len_comma : Tx.comma.length = 1 := by rw [TL.len_tl, Tx.tl_comma]; rfl
theorem len_e : (Str.ofString "").length = 0 := by rw [TL.len_tl, Tx.tl_e]; rfl
def spStrings : Sp := fun vs H Q _ => ∃ (a : Addr) (ns : List Nat), vs = [.ref a] ∧ H a = some (.tup (ns.map nv)) ∧ ns.length ≤ 1000 ∧ (∀ n ∈ ns, n < 10 ^ 10) ∧
  ∀ H' q, Same H H' → H q = none → H' q = some (.lst ((ns.map Tx.num).map V.str)) → Q (.ref q) H'
theorem ok_strings (bstr : mg "str" = none) (F : L2.Fun K "strings_of" "strings_of" s_strings_of f fd) (g : mg "strings_of" = some (.ref f)) : C8.Cal P w K mg base 1 "strings_of" spStrings [] := by
  refine ⟨f, fd, ["numbers"], [], F.ok sc_strings_of (fun vs H Q E h => ?_) (fun cdv A' outer s H vs Q E hr h => ?_), g, F.kp, F.binds (ps := ["numbers"]) (fun _ _ _ _ _ _ us hl => match us, hl with | [_], _ => rfl), .nil⟩
  · obtain ⟨a, ns, rfl, _⟩ := h
    rfl
  · obtain ⟨a, ns, rfl, ha, hl, hn, q⟩ := h
    refine ⟨_, (pss_one (ps_ret (pe_lc (own := [("number", 1)]) rfl sc_strings_of.nd (pi_tup (pv 0)) (blkOk_by (own := [("number", 1)]) (N := n_strings_of) (sc := defScope s_strings_of) (by decide +kernel)) (fun _ _ _ _ _ => (pg_name (i := 1) sc_strings_of.nd rfl (Or.inl rfl))) (fun _ _ _ _ _ => pts_nil) (fun _ _ _ _ _ => (pe_callTy call_str_int (by rfl) bstr (by decide +kernel) (pa_cons (pv 1) pa_nil)))))), ?_⟩
    refine ⟨_, rfl, a, rfl, ⟨_, SqT.of ha⟩, fun D hD => lc_tup (K := K) (a := a) (xs := ns.map nv) (fun i H' => Same H H' ∧ H' D = some (.lst (((ns.take i).map Tx.num).map V.str)))
      ⟨same_upd hD, upd_same⟩ (fun i H' _ p => SqT.of (p.1 _ _ ha)) ?_ ?_⟩
    · rintro i y H' hi ⟨s5, hA⟩
      obtain ⟨n, en, rfl⟩ := map_at hi
      refine ⟨rfl, yesT ?_⟩
      refine ⟨_, rfl, (n : Int), rfl, log_small (hn n (List.mem_of_getElem? en)), _, hA, ?_, same_to s5 hD, ?_⟩
      · rw [List.length_map, List.length_map]
        exact small1000 (Nat.le_trans (by rw [List.length_take]; omega) hl)
      · rw [take_more en, List.map_append, List.map_append]
        exact upd_same
    · rintro H' ⟨s5, hA⟩
      rw [List.length_map, List.take_length] at hA
      exact q _ D s5 hD hA
def spRow : Sp := fun vs H Q _ => ∃ (a b : Addr) (hs ws : List Str), vs = [.ref a, .ref b] ∧ H a = some (.lst (hs.map V.str)) ∧ H b = some (.lst (ws.map V.str)) ∧ hs.length ≤ 1001 ∧ (∀ h ∈ hs, h.length ≤ 10) ∧ ws.length ≤ 16 ∧ (∀ w ∈ ws, w.length ≤ 400) ∧
  ∀ H', Same H H' → Q (.str (Tx.row (Txt.join Tx.blank hs) ws)) H'
theorem ok_row (F : L2.Fun K "row_of" "row_of" s_row_of f fd) (g : mg "row_of" = some (.ref f)) : C8.Cal P w K mg base 1 "row_of" spRow [] := by
  refine ⟨f, fd, ["head", "things"], [], F.ok sc_row_of (fun vs H Q E h => ?_) (fun cdv A' outer s H vs Q E hr h => ?_), g, F.kp, F.binds (ps := ["head", "things"]) (fun _ _ _ _ _ _ us hl => match us, hl with | [_, _], _ => rfl), .nil⟩
  · obtain ⟨a, b, hs, ws, rfl, _⟩ := h
    rfl
  · obtain ⟨a, b, hs, ws, rfl, ha, hb, hl, hh, wl, hw, q⟩ := h
    refine ⟨_, (pss_one (ps_ret (pe_op op_add_str (pe_op op_add_str (pe_joinK (K := K) rfl pe_str (pv 0)) pe_str) (pe_joinK (K := K) rfl pe_str (pe_lc (own := [("word", 2)]) rfl sc_row_of.nd (pi_list (pv 1)) (blkOk_by (own := [("word", 2)]) (N := n_row_of) (sc := defScope s_row_of) (by decide +kernel)) (fun _ _ _ _ _ => (pg_name (i := 2) sc_row_of.nd rfl (Or.inl rfl))) (fun _ _ _ _ _ => pts_nil) (fun _ _ _ _ _ => (pe_op op_add_str pe_str (pv 2)))))))), ?_⟩
    have j1 : (Txt.join (Str.ofString " ") hs).length ≤ 16777000 := join_small (y := Tx.blank) (m := 16777000) (Nat.le_of_eq len_blank) hh (by omega)
    refine ⟨⟨_, rfl⟩, _, rfl, _, a, hs, rfl, rfl, .inl (SqL.of ha), size_small (Nat.le_of_eq len_blank) hh (by omega), _, _, rfl, rfl, ?_, ⟨_, rfl⟩, ?_⟩
    · have : (Str.ofString ":").length = 1 := len_colon
      rw [this]
      have : sizeLine = 16777216 := rfl
      omega
    refine ⟨_, rfl, b, rfl, ⟨_, SqL.of hb⟩, fun D hD => lc_list (K := K) (a := b) (xs := ws.map V.str) (fun i H' => Same H H' ∧ H' D = some (.lst (((ws.take i).map (Tx.blank ++ ·)).map V.str)))
      ⟨same_upd hD, upd_same⟩ (fun i H' _ p => SqL.of (p.1 _ _ hb)) ?_ ?_⟩
    · rintro i y H' hi ⟨s5, hA⟩
      obtain ⟨z, ez, rfl⟩ := map_at hi
      have zl := hw z (List.mem_of_getElem? ez)
      refine ⟨rfl, yesT ?_⟩
      refine ⟨_, rfl, _, _, rfl, rfl, ?_, _, hA, ?_, same_to s5 hD, ?_⟩
      · have : (Str.ofString " ").length = 1 := len_blank
        rw [this]
        have : sizeLine = 16777216 := rfl
        omega
      · rw [List.length_map, List.length_map]
        exact small1000 (Nat.le_trans (by rw [List.length_take]; omega) (by omega : ws.length ≤ 1000))
      · rw [take_more ez, List.map_append, List.map_append]
        exact upd_same
    · rintro H' ⟨s5, hA⟩
      rw [List.length_map, List.take_length] at hA
      have w2 : ∀ p ∈ ws.map (Tx.blank ++ ·), p.length ≤ 401 := fun p hp => by
        obtain ⟨z, hz, rfl⟩ := List.mem_map.mp hp
        have := hw z hz
        rw [Tx.append_len, len_blank]
        omega
      refine ⟨_, D, ws.map (Tx.blank ++ ·), rfl, rfl, .inl (SqL.of hA), size_small (by rw [len_e]; decide) w2 (by rw [List.length_map]; omega), _, _, rfl, rfl, ?_, ?_⟩
      · have j2 := join_small (y := Str.ofString "") (m := 10000) (by rw [len_e]; decide) w2 (by rw [List.length_map]; omega)
        have j3 : (Txt.join (Str.ofString " ") hs).length ≤ 15000 := join_small (y := Tx.blank) (m := 15000) (Nat.le_of_eq len_blank) hh (by omega)
        rw [Tx.append_len]
        have : (Str.ofString ":").length = 1 := len_colon
        rw [this]
        have : sizeLine = 16777216 := rfl
        omega
      · have qq := q _ s5
        rw [← Tx.row_eq] at qq
        exact qq
end
def tFs (ts : List TE) : TE := fun σ H Q => tJs ts Str.empty σ H fun out H1 => Q (.str out) H1
theorem pe_fs {X : Cx} {v1 v2 : Expr} {rest : List Expr} {ts : List TE} {pos : Pos} (h : PJ X (v1 :: v2 :: rest) ts) : PE X (.JoinedStr (v1 :: v2 :: rest) pos) (tFs ts) := pe_joined h
def tTru (K : PySem.W.Frag) (ta : TE) : TT := fun σ H Q => ta σ H fun x H' => ∃ k, TruV K x H' k ∧ Q k H'
theorem pt_truthK {X : Cx} {a : Expr} {ta : TE} {K : PySem.W.Frag} (eK : X.K = K) (ha : PE X a ta) (he : ∀ whole, isTrue a X.env whole = (do let v ← whole; standAt a.pos; holding [v] (truthy v))) :
    PT X a (tTru K ta) := by
  subst eK
  exact pt_truth ha he
section
variable {P : Program} {w : World} {K : PySem.W.Frag} {mg : Str → Option Value} {base : Heap} {f : Addr} {fd : FuncData} {c : Cs}
/-- what isinstance asks of a class -/
structure Ins (K : PySem.W.Frag) (C : Addr) : Prop where
  ha : PySem.W.findIn K (.ref C) "__class__" = some (some (.builtin "object.__class__"))
  hn : PySem.W.specialIn K (.builtin "object.__class__") "__get__" = some (some (.builtin "getset_descriptor.__get__"))
  htk : PySem.W.takesIn K (.builtin "object.__class__") = some true
  hm : PySem.W.mroIn K C (.type "object") = some true
theorem kit_self {C : Addr} : PySem.W.kitOne K (.ref C) (.ref C) = some true := by
  unfold PySem.W.kitOne
  have c : (Value.ref C == Value.ref C) = true := beq_self_eq_true _
  rw [if_pos c]
theorem kit_not {C CR : Addr} (ne : C ≠ CR) (h2 : PySem.W.isClsIn K CR = true) (h3 : PySem.W.typeIn K (.ref CR) = some (.type "type")) (h4 : PySem.W.subIn K (.ref C) (.ref CR) = some false) : PySem.W.kitOne K (.ref C) (.ref CR) = some false := by
  unfold PySem.W.kitOne
  have c : ¬ (Value.ref C == Value.ref CR) = true := fun e => by
    have e := eq_of_beq e
    injection e with e
    exact ne e
  rw [if_neg c]
  have h2' : (PySem.W.clsIn K CR).isSome = true := h2
  have e2 : ((PySem.W.clsIn K CR).isSome && PySem.W.typeIn K (.ref CR) == some (.type "type")) = true := by
    rw [h2', h3] <;> rfl
  show (if ((PySem.W.clsIn K CR).isSome && PySem.W.typeIn K (.ref CR) == some (.type "type")) = true then PySem.W.subIn K (.ref C) (.ref CR) else none) = some false
  rw [if_pos e2]
  exact h4
/-- the four classes: what they are under their names, and which is which -/
structure Srt (K : PySem.W.Frag) (mg : Str → Option Value) (c : Cs) : Prop where
  Threads : Own mg "Threads" c.t
  Kinds : Own mg "Kinds" c.k
  Posts : Own mg "Posts" c.p
  Bits : Own mg "Bits" c.b
  it : Ins K c.t
  ik : Ins K c.k
  ip : Ins K c.p
  ib : Ins K c.b
  kt : PySem.W.kitOne K (.ref c.k) (.ref c.t) = some false
  pt : PySem.W.kitOne K (.ref c.p) (.ref c.t) = some false
  pk : PySem.W.kitOne K (.ref c.p) (.ref c.k) = some false
  bt : PySem.W.kitOne K (.ref c.b) (.ref c.t) = some false
  bk : PySem.W.kitOne K (.ref c.b) (.ref c.k) = some false
  bp : PySem.W.kitOne K (.ref c.b) (.ref c.p) = some false
theorem empty_app (x : Str) : Str.empty ++ x = x := TL.ext_tl (by rw [TL.tl_append]; rfl)
def spWritten (c : Cs) : Sp := fun vs H Q _ => ∃ (p : Addr) (d : SD), vs = [.ref p] ∧ d.At c H p ∧ d.Ok ∧ ∀ H', Same H H' → Q (.str d.txt) H'
theorem ok_written (B : Bl mg) (bstr : mg "str" = none) (G : Srt K mg c) (GT : Th.Gt K mg c.t) (GK : Ki.Gk K mg c.k) (GP : Po.Gp K mg c.p) (GB : Bi.Gb K mg c.b) (F : L2.Fun K "written" "written" s_written f fd) (g : mg "written" = some (.ref f)) (c_row_of : C8.Cal P w K mg base 1 "row_of" spRow [])
    (c_strings_of : C8.Cal P w K mg base 1 "strings_of" spStrings []) : C8.Cal P w K mg base 2 "written" (spWritten c) [] := by
  refine ⟨f, fd, ["rule"], [], F.ok sc_written (fun vs H Q E h => ?_) (fun cdv A' outer s H vs Q E hr h => ?_), g, F.kp, F.binds (ps := ["rule"]) (fun _ _ _ _ _ _ us hl => match us, hl with | [_], _ => rfl), .nil⟩
  · obtain ⟨p, d, rfl, _⟩ := h
    rfl
  · obtain ⟨p, d, rfl, hat, hok, q⟩ := h
    refine ⟨_, (pss_cons (ps_if (pt_val (pe_callB (call_isiK (K := K) rfl) (by rfl) B.isinstance_ (by decide +kernel) (pa_cons (pv 0) (pa_cons (C8.pe_gc rfl G.Threads) pa_nil)))) (pss_one (ps_ret (C8.pe_c c_row_of hr (by first | decide | exact Nat.le_refl _ | omega) rfl (pa_cons (pe_lst (pa_cons pe_str (pa_cons (pe_callTy call_str_int (by rfl) bstr (by decide +kernel) (pa_cons (pe_fld (pv 0) rfl) pa_nil)) pa_nil))) (pa_cons (pe_lc (own := [("near", 1), ("far", 2)]) rfl sc_written.nd (pi_tup (pe_fld (pv 0) rfl)) (blkOk_by (own := [("near", 1), ("far", 2)]) (N := n_written) (sc := defScope s_written) (by decide +kernel)) (fun _ _ _ _ _ => (pg_tupK (K := K) (n := 2) rfl (by rfl) (pgs_cons (pg_name (i := 1) sc_written.nd rfl (Or.inl rfl)) (pgs_cons (pg_name (i := 2) sc_written.nd rfl (Or.inl rfl)) pgs_nil)))) (fun _ _ _ _ _ => pts_nil) (fun _ _ _ _ _ => (pe_fs (.cons (pe_fmt (pv 1)) (.cons pe_str (.cons (pe_fmt (pv 2)) .nil)))))) pa_nil))))) pss_nil)
      (pss_cons (ps_if (pt_val (pe_callB (call_isiK (K := K) rfl) (by rfl) B.isinstance_ (by decide +kernel) (pa_cons (pv 0) (pa_cons (C8.pe_gc rfl G.Kinds) pa_nil)))) (pss_one (ps_ret (C8.pe_c c_row_of hr (by first | decide | exact Nat.le_refl _ | omega) rfl (pa_cons (pe_op op_cat (pe_lst (pa_cons pe_str pa_nil)) (C8.pe_c c_strings_of hr (by first | decide | exact Nat.le_refl _ | omega) rfl (pa_cons (pe_fld (pv 0) rfl) pa_nil))) (pa_cons (C8.pe_c c_strings_of hr (by first | decide | exact Nat.le_refl _ | omega) rfl (pa_cons (pe_fld (pv 0) rfl) pa_nil)) pa_nil))))) pss_nil)
      (pss_cons (ps_if (pt_val (pe_callB (call_isiK (K := K) rfl) (by rfl) B.isinstance_ (by decide +kernel) (pa_cons (pv 0) (pa_cons (C8.pe_gc rfl G.Posts) pa_nil)))) (pss_one (ps_ret (C8.pe_c c_row_of hr (by first | decide | exact Nat.le_refl _ | omega) rfl (pa_cons (pe_lst (pa_cons pe_str pa_nil)) (pa_cons (pe_lc (own := [("posts", 3)]) rfl sc_written.nd (pi_tup (pe_fld (pv 0) rfl)) (blkOk_by (own := [("posts", 3)]) (N := n_written) (sc := defScope s_written) (by decide +kernel)) (fun _ _ _ _ _ => (pg_name (i := 3) sc_written.nd rfl (Or.inl rfl))) (fun _ _ _ _ _ => pts_nil) (fun _ _ _ _ _ => (pe_ifExp (pt_truthK (K := K) rfl (pv 3) (by intro _; rfl)) (pe_joinK (K := K) rfl pe_str (C8.pe_c c_strings_of hr (by first | decide | exact Nat.le_refl _ | omega) rfl (pa_cons (pv 3) pa_nil))) pe_str))) pa_nil))))) pss_nil)
      (pss_cons (ps_if (pt_val (pe_callB (call_isiK (K := K) rfl) (by rfl) B.isinstance_ (by decide +kernel) (pa_cons (pv 0) (pa_cons (C8.pe_gc rfl G.Bits) pa_nil)))) (pss_one (ps_ret (C8.pe_c c_row_of hr (by first | decide | exact Nat.le_refl _ | omega) rfl (pa_cons (pe_lst (pa_cons pe_str pa_nil)) (pa_cons (C8.pe_c c_strings_of hr (by first | decide | exact Nat.le_refl _ | omega) rfl (pa_cons (pe_fld (pv 0) rfl) pa_nil)) pa_nil))))) pss_nil)
      (pss_one ps_never))))), ?_⟩
    have sm := hok.small
    have wl : ∀ w ∈ d.words, w.length ≤ 400 := SD.word_len sm
    have hl : ∀ w ∈ d.headW, w.length ≤ 10 := SD.headW_len sm
    have hc := SD.headW_count hok
    have wc : d.words.length ≤ 16 := by rw [SD.words_count]; exact hok.n16
    cases d with
    | th N es =>
      obtain ⟨dx, t, ts, hp, ht, hts⟩ := hat
      refine ⟨_, rfl, _, _, _, _, true, rfl, ClsV.own c.t, TyX.base (TyOf.ins hp GT.cl G.it.ha G.it.hn G.it.htk G.it.hm), kit_self, true, rfl, iteT ?_⟩
      refine ⟨_, rfl, p, c.t, dx, _, _, rfl, hp, GT.cl, GT.nP, Th.tf_places _ _, (N : Int), rfl, log_small sm.1, (by show 2 ≤ sizeLine; decide), fun u nu => ?_⟩
      have s1 : Same H (upd H u (.lst [V.str (Str.ofString "threads"), V.str (Str.ofString (toString ((N : Nat) : Int)))])) := same_upd nu
      have hu : (upd H u (HO.lst [V.str (Str.ofString "threads"), V.str (Str.ofString (toString ((N : Nat) : Int)))])) u = some (.lst ([Str.ofString "threads", Tx.num N].map V.str)) := upd_same
      refine ⟨_, rfl, p, c.t, dx, _, _, rfl, s1 _ _ hp, GT.cl, GT.nT, Th.tf_ties _ _, ?_⟩
      generalize upd H u (HO.lst [V.str (Str.ofString "threads"), V.str (Str.ofString (toString ((N : Nat) : Int)))]) = H1 at s1 hu ⊢
      have ht1 := s1 _ _ ht
      have hts1 := hts.same s1
      have tl := hts.len
      have el : es.length ≤ 16 := hok.2.2.2
      refine ⟨t, rfl, ⟨_, SqT.of ht1⟩, fun D hD => lc_tup (K := K) (a := t) (xs := ts.map V.ref) (fun i H' => Same H1 H' ∧ H' D = some (.lst (((es.take i).map Tx.tie).map V.str)))
        ⟨same_upd hD, upd_same⟩ (fun i H' _ p => SqT.of (p.1 _ _ ht1)) ?_ ?_⟩
      · rintro i y H' hi ⟨s5, hA⟩
        obtain ⟨tp, et, rfl⟩ := map_at hi
        obtain ⟨e, ee, hte⟩ := hts1.at et
        obtain ⟨e1, e2⟩ := sm.2 e (List.mem_of_getElem? ee)
        have n1 := Tx.num_len e1
        have n2 := Tx.num_len e2
        have sz : sizeLine = 16777216 := rfl
        have d1 : (Str.ofString "-").length = 1 := len_dash
        refine ⟨tp, _, rfl, SqT.of (s5 _ _ hte), rfl, _, _, rfl, _, _, rfl, rfl, rfl, yesT ?_⟩
        refine ⟨_, rfl, .inr ⟨(e.1 : Int), rfl, log_small e1, _, rfl, ?_, _, rfl, ?_, _, rfl, .inr ⟨(e.2 : Int), rfl, log_small e2, _, rfl, ?_, _, hA, ?_, same_to s5 hD, ?_⟩⟩⟩
        · show (Str.empty ++ Tx.num e.1).length ≤ sizeLine
          rw [empty_app]
          omega
        · show (Str.empty ++ Tx.num e.1 ++ Str.ofString "-").length ≤ sizeLine
          rw [empty_app, Tx.append_len]
          omega
        · show (Str.empty ++ Tx.num e.1 ++ Str.ofString "-" ++ Tx.num e.2).length ≤ sizeLine
          rw [empty_app, Tx.append_len, Tx.append_len]
          omega
        · rw [List.length_map, List.length_map]
          exact small1000 (Nat.le_trans (by rw [List.length_take]; omega) (by omega : es.length ≤ 1000))
        · rw [take_more ee, List.map_append, List.map_append]
          show upd _ D (HO.lst (_ ++ [V.str (Str.empty ++ Tx.num e.1 ++ Str.ofString "-" ++ Tx.num e.2)])) D = _
          rw [empty_app]
          exact upd_same
      · rintro H' ⟨s5, hA⟩
        rw [List.length_map, tl, List.take_length] at hA
        exact ⟨u, D, [Str.ofString "threads", Tx.num N], es.map Tx.tie, rfl, s5 _ _ hu, hA, hc, hl, wc, wl, fun H2 s2 => q _ (s1.trans (s5.trans s2))⟩
    | ki ks ms =>
      obtain ⟨dx, a, b, hp, ha, hb⟩ := hat
      refine ⟨_, rfl, _, _, _, _, false, rfl, ClsV.own c.t, TyX.base (TyOf.ins hp GK.cl G.ik.ha G.ik.hn G.ik.htk G.ik.hm), G.kt, false, rfl, iteF ?_⟩
      refine ⟨_, rfl, _, _, _, _, true, rfl, ClsV.own c.k, TyX.base (TyOf.ins hp GK.cl G.ik.ha G.ik.hn G.ik.htk G.ik.hm), kit_self, true, rfl, iteT ?_⟩
      have k16 : ks.length ≤ 16 := hok.2.2
      refine ⟨(by show 1 ≤ sizeLine; decide), fun u nu => ?_⟩
      have s1 : Same H (upd H u (.lst [.str "kinds"])) := same_upd nu
      have hu : (upd H u (HO.lst [.str "kinds"])) u = some (.lst [.str "kinds"]) := upd_same
      generalize upd H u (HO.lst [.str "kinds"]) = H1 at s1 hu
      refine ⟨_, rfl, p, c.k, dx, _, _, rfl, s1 _ _ hp, GK.cl, GK.nM, Ki.kf_most _ _, b, ms, rfl, s1 _ _ hb, hok.2.1, sm.2, fun H2 m s2 nm hm => ?_⟩
      refine ⟨u, m, _, _, rfl, rfl, s2 _ _ hu, hm, ?_, fun v nvv => ?_⟩
      · rw [List.length_map, List.length_map]
        show 1 + ms.length ≤ sizeLine
        have := hok.2.1
        have : sizeLine = 16777216 := rfl
        omega
      have s3 := (s1.trans s2).trans (same_upd (o := .lst ([V.str "kinds"] ++ (ms.map Tx.num).map V.str)) nvv)
      have hv : (upd H2 v (HO.lst ([V.str "kinds"] ++ (ms.map Tx.num).map V.str))) v = some (.lst ((Str.ofString "kinds" :: ms.map Tx.num).map V.str)) := upd_same
      generalize upd H2 v (HO.lst ([V.str "kinds"] ++ (ms.map Tx.num).map V.str)) = H3 at s3 hv
      refine ⟨_, rfl, p, c.k, dx, _, _, rfl, s3 _ _ hp, GK.cl, GK.nK, Ki.kf_kinds _ _, a, ks, rfl, s3 _ _ ha, by omega, sm.1, fun H4 m2 s4 nm2 hm2 => ?_⟩
      exact ⟨v, m2, Str.ofString "kinds" :: ms.map Tx.num, ks.map Tx.num, rfl, s4 _ _ hv, hm2, hc, hl, wc, wl, fun H5 s5 => q _ (s3.trans (s4.trans s5))⟩
    | po ws =>
      obtain ⟨dx, t, hp, ts, ht, hts⟩ := hat
      refine ⟨_, rfl, _, _, _, _, false, rfl, ClsV.own c.t, TyX.base (TyOf.ins hp GP.cl G.ip.ha G.ip.hn G.ip.htk G.ip.hm), G.pt, false, rfl, iteF ?_⟩
      refine ⟨_, rfl, _, _, _, _, false, rfl, ClsV.own c.k, TyX.base (TyOf.ins hp GP.cl G.ip.ha G.ip.hn G.ip.htk G.ip.hm), G.pk, false, rfl, iteF ?_⟩
      refine ⟨_, rfl, _, _, _, _, true, rfl, ClsV.own c.p, TyX.base (TyOf.ins hp GP.cl G.ip.ha G.ip.hn G.ip.htk G.ip.hm), kit_self, true, rfl, iteT ?_⟩
      have k16 : ws.length ≤ 16 := hok.2
      refine ⟨(by show 1 ≤ sizeLine; decide), fun u nu => ?_⟩
      have s1 : Same H (upd H u (.lst [.str "posts"])) := same_upd nu
      have hu : (upd H u (HO.lst [.str "posts"])) u = some (.lst ([Str.ofString "posts"].map V.str)) := upd_same
      generalize upd H u (HO.lst [.str "posts"]) = H1 at s1 hu
      have ht1 := s1 _ _ ht
      have hts1 := hts.same s1
      have tl := hts.len
      refine ⟨_, rfl, p, c.p, dx, _, _, rfl, s1 _ _ hp, GP.cl, GP.nW, rfl, ?_⟩
      refine ⟨t, rfl, ⟨_, SqT.of ht1⟩, fun D hD => lc_tup (K := K) (a := t) (xs := ts.map V.ref) (fun i H' => Same H1 H' ∧ H' D = some (.lst (((ws.take i).map Tx.want).map V.str)))
        ⟨same_upd hD, upd_same⟩ (fun i H' _ p => SqT.of (p.1 _ _ ht1)) ?_ ?_⟩
      · rintro i y H' hi ⟨s5, hA⟩
        obtain ⟨tp, et, rfl⟩ := map_at hi
        obtain ⟨e, ee, hte⟩ := hts1.at et
        obtain ⟨e1, e2⟩ := sm e (List.mem_of_getElem? ee)
        have hte5 := s5 _ _ hte
        have lim : (((ws.take i).map Tx.want).map V.str).length < sizeLine := by
          rw [List.length_map, List.length_map]
          exact small1000 (Nat.le_trans (by rw [List.length_take]; omega) (by omega : ws.length ≤ 1000))
        refine ⟨rfl, yesT ?_⟩
        refine ⟨_, rfl, decide (e ≠ []), ?_, ?_⟩
        · exact .inr (.inl ⟨_, SqT.of hte5, by cases e <;> simp⟩)
        by_cases z : e = []
        · rw [show decide (e ≠ []) = false by simp [z]]
          refine iteF ⟨_, hA, lim, same_to s5 hD, ?_⟩
          rw [take_more ee, List.map_append, List.map_append, show [e].map Tx.want = [Tx.dash] by rw [z]; rfl]
          exact upd_same
        · rw [show decide (e ≠ []) = true by simp [z]]
          refine iteT ⟨⟨_, rfl⟩, _, rfl, tp, e, rfl, hte5, by omega, e2, fun H6 m s6 nm hm => ?_⟩
          refine ⟨_, m, e.map Tx.num, rfl, rfl, .inl (SqL.of hm), size_small (k := 10) (Nat.le_of_eq len_comma) (fun p hp => ?_) (by rw [List.length_map]; omega), _, s6 _ _ hA, lim, same_to (s5.trans s6) hD, ?_⟩
          · obtain ⟨n, hn, rfl⟩ := List.mem_map.mp hp
            exact Tx.num_len (e2 n hn)
          · rw [take_more ee, List.map_append, List.map_append, show [e].map Tx.want = [Txt.join Tx.comma (e.map Tx.num)] by show [Tx.want e] = _; unfold Tx.want; rw [if_neg z]]
            exact upd_same
      · rintro H' ⟨s5, hA⟩
        rw [List.length_map, tl, List.take_length] at hA
        exact ⟨u, D, [Str.ofString "posts"], ws.map Tx.want, rfl, s5 _ _ hu, hA, hc, hl, wc, wl, fun H2 s2 => q _ (s1.trans (s5.trans s2))⟩
    | bi rows =>
      obtain ⟨dx, a, hp, ha⟩ := hat
      refine ⟨_, rfl, _, _, _, _, false, rfl, ClsV.own c.t, TyX.base (TyOf.ins hp GB.cl G.ib.ha G.ib.hn G.ib.htk G.ib.hm), G.bt, false, rfl, iteF ?_⟩
      refine ⟨_, rfl, _, _, _, _, false, rfl, ClsV.own c.k, TyX.base (TyOf.ins hp GB.cl G.ib.ha G.ib.hn G.ib.htk G.ib.hm), G.bk, false, rfl, iteF ?_⟩
      refine ⟨_, rfl, _, _, _, _, false, rfl, ClsV.own c.p, TyX.base (TyOf.ins hp GB.cl G.ib.ha G.ib.hn G.ib.htk G.ib.hm), G.bp, false, rfl, iteF ?_⟩
      refine ⟨_, rfl, _, _, _, _, true, rfl, ClsV.own c.b, TyX.base (TyOf.ins hp GB.cl G.ib.ha G.ib.hn G.ib.htk G.ib.hm), kit_self, true, rfl, iteT ?_⟩
      have k16 : rows.length ≤ 16 := hok.2
      refine ⟨(by show 1 ≤ sizeLine; decide), fun u nu => ?_⟩
      have s1 : Same H (upd H u (.lst [.str "bits"])) := same_upd nu
      have hu : (upd H u (HO.lst [.str "bits"])) u = some (.lst ([Str.ofString "bits"].map V.str)) := upd_same
      generalize upd H u (HO.lst [.str "bits"]) = H1 at s1 hu
      refine ⟨_, rfl, p, c.b, dx, _, _, rfl, s1 _ _ hp, GB.cl, GB.nR, rfl, a, rows, rfl, s1 _ _ ha, by omega, sm, fun H4 m2 s4 nm2 hm2 => ?_⟩
      exact ⟨u, m2, [Str.ofString "bits"], rows.map Tx.num, rfl, s4 _ _ hu, hm2, hc, hl, wc, wl, fun H5 s5 => q _ (s1.trans (s4.trans s5))⟩
end
/-! ### what is read -/
section
variable {P : Program} {w : World} {K : PySem.W.Frag} {mg : Str → Option Value} {base : Heap} {f : Addr} {fd : FuncData} {c : Cs}
/-- over a text -/
theorem lc_str {x : Str} {g : TG} {tt : TT} {te : TE} {vs : List Nat} {σ : St} {H1 : Hp} {D : Addr} {Qd : Hp → Prop} (Pv : Nat → Hp → Prop) (h0 : Pv 0 (upd H1 D (.lst [])))
    (hs : ∀ i (a : Nat) H, x.cps[i]? = some a → Pv i H → g (.str ⟨#[a]⟩) (wipe σ vs) H fun σ2 H2 => wipe σ2 vs = wipe σ vs ∧ tt σ2 H2 fun b H3 =>
      if b = true then te σ2 H3 fun y H4 => ∃ acc, H4 D = some (.lst acc) ∧ acc.length < sizeLine ∧ Pv (i + 1) (upd H4 D (.lst (acc ++ [y]))) else Pv (i + 1) H3) (hd : ∀ H, Pv x.cps.size H → Qd H) :
    ∃ W : Nat → Nat → Hp → Prop, (∃ m, W 0 m (upd H1 D (.lst []))) ∧ ∀ i m H, W i m H →
      ((Its x).stop i H ∧ Qd H) ∨ ((Its x).go i H ∧ ∃ Nx : Hp → Prop, (∀ H', Nx H' → ∃ m', m' < m ∧ W (i + 1) m' H') ∧ ∀ y H', (Its x).yld i H y H' → g y (wipe σ vs) H' fun σ2 H2 => wipe σ2 vs = wipe σ vs ∧ tt σ2 H2 fun b H3 =>
        if b = true then te σ2 H3 fun y H4 => ∃ acc, H4 D = some (.lst acc) ∧ acc.length < sizeLine ∧ Nx (upd H4 D (.lst (acc ++ [y]))) else Nx H3) := by
  refine ⟨fun i m H => m = x.cps.size - i ∧ i ≤ x.cps.size ∧ Pv i H, ⟨x.cps.size, by simp, Nat.zero_le _, h0⟩, ?_⟩
  rintro i m H ⟨rfl, hi, p⟩
  by_cases hlt : i < x.cps.size
  · refine .inr ⟨hlt, Pv (i + 1), fun H' p' => ⟨x.cps.size - (i + 1), by omega, rfl, hlt, p'⟩, fun y H' q => ?_⟩
    obtain ⟨rfl, a, ea, rfl⟩ := q
    exact hs i a _ ea p
  · have e : i = x.cps.size := by omega
    subst e
    exact .inl ⟨Nat.le_refl _, hd H p⟩
def Txt_ (mg : Str → Option Value) (x t : Str) : Prop := ∃ u, mg x = some u ∧ RelV (.str t) u
structure Gn (mg : Str → Option Value) : Prop where
  MOST_FIGURES : Num mg "MOST_FIGURES" 10
  FIGURES : Txt_ mg "FIGURES" "0123456789"
theorem eq_str (a b : Str) : V.bl (decide (V.str a = V.str b)) = V.bl (decide (a = b)) := by
  congr 1
  rw [Bool.eq_iff_iff, decide_eq_true_eq, decide_eq_true_eq]
  exact ⟨fun e => V.str.inj e, fun e => by rw [e]⟩
def spNumber : Sp := fun vs H Q _ => ∃ n : Nat, vs = [.str (Tx.num n)] ∧ n < 10 ^ 10 ∧ ∀ H', Same H H' → Q (nv n) H'
theorem ok_number (B : Bl mg) (G : Gn mg) (F : L2.Fun K "number_of" "number_of" s_number_of f fd) (g : mg "number_of" = some (.ref f)) : C8.Cal P w K mg base 1 "number_of" spNumber [] := by
  refine ⟨f, fd, ["word"], [], F.ok sc_number_of (fun vs H Q E h => ?_) (fun cdv A' outer s H vs Q E hr h => ?_), g, F.kp, F.binds (ps := ["word"]) (fun _ _ _ _ _ _ us hl => match us, hl with | [_], _ => rfl), .nil⟩
  · obtain ⟨n, rfl, _⟩ := h
    rfl
  · obtain ⟨n, rfl, hn, q⟩ := h
    refine ⟨_, (pss_cons (ps_if (PW.pt (pw_or (pt_cmpR op_eq (pv 0) pe_str (nomark _)) (pw_or (pt_cmpR op_gt (pe_callB call_len_str (by rfl) B.len_ (by decide +kernel) (pa_cons (pv 0) pa_nil)) (C8.pe_gc rfl G.MOST_FIGURES) (nomark _)) (pw_or1 (pt_not (pt_val (pe_callB (cr_all rfl) (by rfl) B.all_ (by decide +kernel) (pa_cons (pe_lc (own := [("figure", 1)]) rfl sc_number_of.nd (pi_str (pv 0)) (blkOk_by (own := [("figure", 1)]) (N := n_number_of) (sc := defScope s_number_of) (by decide +kernel)) (fun _ _ _ _ _ => (pg_name (i := 1) sc_number_of.nd rfl (Or.inl rfl))) (fun _ _ _ _ _ => pts_nil) (fun _ _ _ _ _ => (pe_cmpR op_in_sign (pv 1) (C8.pe_gc rfl G.FIGURES) (by rfl)))) pa_nil)))))))) (pss_one ps_never) pss_nil)
      (pss_cons (ps_if (PW.pt (pw_and (pt_val (pe_m1 PySem.F.slot_str_startswith PySem.F.type_str_startswith mt_startswith (pv 0) pe_str)) (pw_and1 (pt_cmpR op_ne (pv 0) pe_str (nomark _))))) (pss_one ps_never) pss_nil)
      (pss_one (ps_ret (pe_callTy call_int_str (by rfl) B.int_ (by decide +kernel) (pa_cons (pv 0) pa_nil)))))), ?_⟩
    have nl := Tx.num_len hn
    have sz : sizeLine = 16777216 := rfl
    refine ⟨_, rfl, rfl, false, ?_, iteF ?_⟩
    · rw [eq_str, decide_eq_false (Tx.num_ne n)]
    refine ⟨_, rfl, _, rfl, by omega, _, _, rfl, rfl, false, ?_, iteF ?_⟩
    · show V.bl (decide ((10 : Int) < ((Tx.num n).length : Int))) = _
      rw [decide_eq_false (by omega)]
    have hs : (Tx.num n).cps.size ≤ 10 := nl
    refine ⟨_, rfl, _, rfl, fun D hD => lc_str (x := Tx.num n) (fun i H' => Same H H' ∧ H' D = some (.lst ((List.replicate i true).map V.bl)))
      ⟨same_upd hD, upd_same⟩ ?_ ?_⟩
    · rintro i a H' hi ⟨s5, hA⟩
      have il := (Array.getElem?_eq_some_iff.mp hi).1
      have fig : a ∈ TL.tl (Str.ofString "0123456789") := Tx.num_figs n a (Array.mem_toList_iff.mpr (Array.mem_of_getElem? hi))
      refine ⟨rfl, yesT ?_⟩
      refine ⟨_, rfl, a, _, rfl, rfl, _, hA, ?_, same_to s5 hD, ?_⟩
      · rw [List.length_map, List.length_replicate]
        omega
      · rw [List.replicate_succ', List.map_append, decide_eq_true fig]
        exact upd_same
    rintro H1 ⟨s1, hA⟩
    refine ⟨D, _, rfl, SqL.of hA, true, ?_, iteF ?_⟩
    · rw [List.all_eq_true.mpr]
      intro x hx
      exact (List.eq_of_mem_replicate hx) ▸ rfl
    refine ⟨_, rfl, ⟨_, rfl⟩, _, _, rfl, rfl, Txt.startswith (Tx.num n) (Str.ofString "0"), rfl, ?_⟩
    have fin : ∀ H', Same H H' → Q (nv n) H' := q
    by_cases b : Txt.startswith (Tx.num n) (Str.ofString "0") = true
    · have z := Tx.num_starts b
      rw [b]
      refine iteT ⟨_, rfl, rfl, false, ?_, iteF ⟨_, rfl, _, _, rfl, Tx.num_int hn, by omega, q _ s1⟩⟩
      rw [z]
      show V.bl (!decide (V.str (Tx.num 0) = V.str (Str.ofString "0"))) = _
      rw [decide_eq_true (congrArg V.str Tx.num_zero)]
      rfl
    · have b : Txt.startswith (Tx.num n) (Str.ofString "0") = false := Bool.eq_false_iff.mpr b
      rw [b]
      exact iteF (iteF ⟨_, rfl, _, _, rfl, Tx.num_int hn, by omega, q _ s1⟩)
def spNumbers : Sp := fun vs H Q _ => ∃ (a : Addr) (ns : List Nat), vs = [.ref a] ∧ H a = some (.lst ((ns.map Tx.num).map V.str)) ∧ ns.length ≤ 1000 ∧ (∀ n ∈ ns, n < 10 ^ 10) ∧ ∀ H' q, Same H H' → H q = none → H' q = some (.lst (ns.map nv)) → Q (.ref q) H'
theorem ok_numbers (F : L2.Fun K "numbers_of" "numbers_of" s_numbers_of f fd) (g : mg "numbers_of" = some (.ref f)) (c_number_of : C8.Cal P w K mg base 1 "number_of" spNumber []) : C8.Cal P w K mg base 2 "numbers_of" spNumbers [] := by
  refine ⟨f, fd, ["words"], [], F.ok sc_numbers_of (fun vs H Q E h => ?_) (fun cdv A' outer s H vs Q E hr h => ?_), g, F.kp, F.binds (ps := ["words"]) (fun _ _ _ _ _ _ us hl => match us, hl with | [_], _ => rfl), .nil⟩
  · obtain ⟨a, ns, rfl, _⟩ := h
    rfl
  · obtain ⟨a, ns, rfl, ha, hl, hn, q⟩ := h
    refine ⟨_, (pss_one (ps_ret (pe_lc (own := [("word", 1)]) rfl sc_numbers_of.nd (pi_list (pv 0)) (blkOk_by (own := [("word", 1)]) (N := n_numbers_of) (sc := defScope s_numbers_of) (by decide +kernel)) (fun _ _ _ _ _ => (pg_name (i := 1) sc_numbers_of.nd rfl (Or.inl rfl))) (fun _ _ _ _ _ => pts_nil) (fun _ _ _ _ _ => (C8.pe_c c_number_of hr (by first | decide | exact Nat.le_refl _ | omega) rfl (pa_cons (pv 1) pa_nil)))))), ?_⟩
    refine ⟨_, rfl, a, rfl, ⟨_, SqL.of ha⟩, fun D hD => lc_list (K := K) (a := a) (xs := (ns.map Tx.num).map V.str) (fun i H' => Same H H' ∧ H' D = some (.lst ((ns.take i).map nv)))
      ⟨same_upd hD, upd_same⟩ (fun i H' _ p => SqL.of (p.1 _ _ ha)) ?_ ?_⟩
    · rintro i y H' hi ⟨s5, hA⟩
      obtain ⟨z, hz, rfl⟩ := map_at hi
      obtain ⟨n, en, rfl⟩ := map_at hz
      refine ⟨rfl, yesT ?_⟩
      refine ⟨_, rfl, n, rfl, hn n (List.mem_of_getElem? en), fun H6 s6 => ⟨_, s6 _ _ hA, ?_, same_to (s5.trans s6) hD, ?_⟩⟩
      · rw [List.length_map]
        exact small1000 (Nat.le_trans (by rw [List.length_take]; omega) hl)
      · rw [take_more en, List.map_append]
        exact upd_same
    · rintro H' ⟨s5, hA⟩
      rw [List.length_map, List.length_map, List.take_length] at hA
      exact q _ D s5 hD hA
def spTieOf : Sp := fun vs H Q _ => ∃ e : Nat × Nat, vs = [.str (Tx.tie e)] ∧ e.1 < 10 ^ 10 ∧ e.2 < 10 ^ 10 ∧ ∀ H' t, Same H H' → H t = none → H' t = some (.tup [nv e.1, nv e.2]) → Q (.ref t) H'
theorem ok_tieOf (B : Bl mg) (F : L2.Fun K "tie_of" "tie_of" s_tie_of f fd) (g : mg "tie_of" = some (.ref f)) (c_numbers_of : C8.Cal P w K mg base 2 "numbers_of" spNumbers []) : C8.Cal P w K mg base 3 "tie_of" spTieOf [] := by
  refine ⟨f, fd, ["word"], [], F.ok sc_tie_of (fun vs H Q E h => ?_) (fun cdv A' outer s H vs Q E hr h => ?_), g, F.kp, F.binds (ps := ["word"]) (fun _ _ _ _ _ _ us hl => match us, hl with | [_], _ => rfl), .nil⟩
  · obtain ⟨e, rfl, _⟩ := h
    rfl
  · obtain ⟨e, rfl, e1, e2, q⟩ := h
    refine ⟨_, (pss_one (ps_ret (pe_callTy (call_tupK (K := K) rfl) (by rfl) B.tuple_ (by decide +kernel) (pa_cons (C8.pe_c c_numbers_of hr (by first | decide | exact Nat.le_refl _ | omega) rfl (pa_cons (pe_split (pv 0) pe_str) pa_nil)) pa_nil)))), ?_⟩
    have n1 := Tx.num_len e1
    have n2 := Tx.num_len e2
    have sz : sizeLine = 16777216 := rfl
    have tl : (Tx.tie e).length ≤ 21 := by
      show (Tx.num e.1 ++ Tx.dash ++ Tx.num e.2).length ≤ 21
      rw [Tx.append_len, Tx.append_len, len_dash]
      omega
    refine ⟨_, rfl, ⟨_, rfl⟩, _, _, rfl, rfl, by decide +kernel, by omega, fun p np => ?_⟩
    have sp : Txt.split (Tx.tie e) (Str.ofString "-") = [Tx.num e.1, Tx.num e.2] := Tx.tie_split e
    rw [sp]
    have s1 : Same H (upd H p (.lst ([Tx.num e.1, Tx.num e.2].map V.str))) := same_upd np
    refine ⟨p, [e.1, e.2], rfl, upd_same, (by show 2 ≤ 1000; decide), fun n hn => ?_, fun H2 m s2 nm hm => ?_⟩
    · simp only [List.mem_cons, List.not_mem_nil, or_false] at hn
      rcases hn with rfl | rfl
      · exact e1
      · exact e2
    · have s12 := s1.trans s2
      exact ⟨m, _, rfl, .inl ⟨SqL.of hm, fun t nt => q _ t (s12.trans (same_upd nt)) (s12.free nt) upd_same⟩⟩
def spPostsOf : Sp := fun vs H Q _ => ∃ v : List Nat, vs = [.str (Tx.want v)] ∧ v.length ≤ 31 ∧ (∀ n ∈ v, n < 10 ^ 10) ∧ ∀ H' t, Same H H' → H t = none → H' t = some (.lst (v.map nv)) → Q (.ref t) H'
theorem ok_postsOf (F : L2.Fun K "posts_of" "posts_of" s_posts_of f fd) (g : mg "posts_of" = some (.ref f)) (c_numbers_of : C8.Cal P w K mg base 2 "numbers_of" spNumbers []) : C8.Cal P w K mg base 3 "posts_of" spPostsOf [] := by
  refine ⟨f, fd, ["word"], [], F.ok sc_posts_of (fun vs H Q E h => ?_) (fun cdv A' outer s H vs Q E hr h => ?_), g, F.kp, F.binds (ps := ["word"]) (fun _ _ _ _ _ _ us hl => match us, hl with | [_], _ => rfl), .nil⟩
  · obtain ⟨e, rfl, _⟩ := h
    rfl
  · obtain ⟨v, rfl, vl, hv, q⟩ := h
    refine ⟨_, (pss_one (ps_ret (pe_ifExp (pt_cmpR op_eq (pv 0) pe_str (nomark _)) (pe_lst pa_nil) (C8.pe_c c_numbers_of hr (by first | decide | exact Nat.le_refl _ | omega) rfl (pa_cons (pe_split (pv 0) pe_str) pa_nil))))), ?_⟩
    have sz : sizeLine = 16777216 := rfl
    refine ⟨_, rfl, rfl, decide (Tx.want v = Str.ofString "-"), eq_str _ _, ?_⟩
    by_cases z : v = []
    · have e : Tx.want v = Str.ofString "-" := by unfold Tx.want; rw [if_pos z]
      rw [decide_eq_true e]
      refine iteT ⟨Nat.zero_le _, fun t nt => q _ t (same_upd nt) nt ?_⟩
      rw [z]
      exact upd_same
    · have e : ¬ Tx.want v = Str.ofString "-" := Tx.want_dash z
      rw [decide_eq_false e]
      have wl : (Tx.want v).length ≤ 400 := by
        unfold Tx.want
        rw [if_neg z]
        exact join_small (k := 10) (Nat.le_of_eq len_comma) (fun p hp => by
          obtain ⟨n, hn, rfl⟩ := List.mem_map.mp hp
          exact Tx.num_len (hv n hn)) (by rw [List.length_map]; omega)
      refine iteF ⟨_, rfl, ⟨_, rfl⟩, _, _, rfl, rfl, by decide +kernel, by omega, fun p np => ?_⟩
      have sp : Txt.split (Tx.want v) (Str.ofString ",") = v.map Tx.num := Tx.want_split z
      rw [sp]
      have s1 : Same H (upd H p (.lst ((v.map Tx.num).map V.str))) := same_upd np
      exact ⟨p, v, rfl, upd_same, by omega, hv, fun H2 m s2 nm hm => q _ m (s1.trans s2) (s1.free nm) hm⟩
end
section
variable {P : Program} {w : World} {K : PySem.W.Frag} {mg : Str → Option Value} {base : Heap} {f : Addr} {fd : FuncData} {c : Cs}
theorem made_same {H : Hp} {x dx C : Addr} (nx : H x = none) (nd : H dx = none) : Same H (upd (upd H dx (.own x)) x (.ins C dx [])) := fun b o e => by
  rw [upd_ne (ne_of_none e nx), upd_ne (ne_of_none e nd)]
  exact e
def spMadeOf (c : Cs) : Sp := fun vs H Q _ => ∃ (hd : Str) (a b : Addr) (more : List Str) (d : SD), vs = [.str hd, .ref a, .ref b] ∧ d.headW = hd :: more ∧ H a = some (.lst (more.map V.str)) ∧ H b = some (.lst (d.words.map V.str)) ∧ d.Ok ∧
  ∀ H' p, Same H H' → d.At c H' p → Q (.ref p) H'
theorem ne_str {a b : String} (h : TL.tl (Str.ofString a) ≠ TL.tl (Str.ofString b)) : V.bl (decide (V.str (Str.ofString a) = V.str (Str.ofString b))) = V.bl false := by
  rw [eq_str, decide_eq_false fun e => h (congrArg TL.tl e)]
theorem same_str {a : Str} : V.bl (decide (V.str a = V.str a)) = V.bl true := by
  rw [decide_eq_true rfl]
theorem ok_madeOf (B : Bl mg) (F : L2.Fun K "made_of" "made_of" s_made_of f fd) (g : mg "made_of" = some (.ref f)) (c_number_of : C8.Cal P w K mg base 1 "number_of" spNumber []) (c_numbers_of : C8.Cal P w K mg base 2 "numbers_of" spNumbers []) (c_tie_of : C8.Cal P w K mg base 3 "tie_of" spTieOf [])
    (c_posts_of : C8.Cal P w K mg base 3 "posts_of" spPostsOf []) (k_Threads : C8.Mak P w K mg base 4 "Threads" c.t (Th.spInit c.t) []) (k_Kinds : C8.Mak P w K mg base 4 "Kinds" c.k (Ki.spInit c.k) []) (k_Posts : C8.Mak P w K mg base 5 "Posts" c.p (Po.spInit c.p) [])
    (k_Bits : C8.Mak P w K mg base 4 "Bits" c.b (Bi.spInit c.b) []) : C8.Cal P w K mg base 7 "made_of" (spMadeOf c) [] := by
  refine ⟨f, fd, ["name", "more", "things"], [], F.ok sc_made_of (fun vs H Q E h => ?_) (fun cdv A' outer s H vs Q E hr h => ?_), g, F.kp, F.binds (ps := ["name", "more", "things"]) (fun _ _ _ _ _ _ us hl => match us, hl with | [_, _, _], _ => rfl), .nil⟩
  · obtain ⟨hd, a, b, more, d, rfl, _⟩ := h
    rfl
  · obtain ⟨hd, a, b, more, d, rfl, eh, ha, hb, hok, q⟩ := h
    refine ⟨_, (pss_cons (ps_if (PW.pt (pw_and (pt_cmpR op_eq (pv 0) pe_str (nomark _)) (pw_and1 (pt_cmpR op_eq (pe_callB (call_lenK (K := K) rfl) (by rfl) B.len_ (by decide +kernel) (pa_cons (pv 1) pa_nil)) pe_int (nomark _))))) (pss_one (ps_ret (C8.pe_mk k_Threads hr (by decide) rfl (pa_cons (C8.pe_c c_number_of hr (by first | decide | exact Nat.le_refl _ | omega) rfl (pa_cons (pe_ix (r := rIxL K) ix_list (pv 1) pe_int (fun _ _ => rfl)) pa_nil)) (pa_cons (pe_lc (own := [("word", 3)]) rfl sc_made_of.nd (pi_list (pv 2)) (blkOk_by (own := [("word", 3)]) (N := n_made_of) (sc := defScope s_made_of) (by decide +kernel)) (fun _ _ _ _ _ => (pg_name (i := 3) sc_made_of.nd rfl (Or.inl rfl))) (fun _ _ _ _ _ => pts_nil) (fun _ _ _ _ _ => (C8.pe_c c_tie_of hr (by first | decide | exact Nat.le_refl _ | omega) rfl (pa_cons (pv 3) pa_nil)))) pa_nil))))) pss_nil)
      (pss_cons (ps_if (pt_cmpR op_eq (pv 0) pe_str (nomark _)) (pss_one (ps_ret (C8.pe_mk k_Kinds hr (by decide) rfl (pa_cons (C8.pe_c c_numbers_of hr (by first | decide | exact Nat.le_refl _ | omega) rfl (pa_cons (pv 2) pa_nil)) (pa_cons (C8.pe_c c_numbers_of hr (by first | decide | exact Nat.le_refl _ | omega) rfl (pa_cons (pv 1) pa_nil)) pa_nil))))) pss_nil)
      (pss_cons (ps_if (PW.pt (pw_and (pt_cmpR op_eq (pv 0) pe_str (nomark _)) (pw_and1 (pt_cmpR (op_eqD hr.units) (pv 1) (pe_lst pa_nil) (nomark _))))) (pss_one (ps_ret (C8.pe_mk k_Posts hr (by decide) rfl (pa_cons (pe_lc (own := [("word", 3)]) rfl sc_made_of.nd (pi_list (pv 2)) (blkOk_by (own := [("word", 3)]) (N := n_made_of) (sc := defScope s_made_of) (by decide +kernel)) (fun _ _ _ _ _ => (pg_name (i := 3) sc_made_of.nd rfl (Or.inl rfl))) (fun _ _ _ _ _ => pts_nil) (fun _ _ _ _ _ => (C8.pe_c c_posts_of hr (by first | decide | exact Nat.le_refl _ | omega) rfl (pa_cons (pv 3) pa_nil)))) pa_nil)))) pss_nil)
      (pss_cons (ps_if (PW.pt (pw_and (pt_cmpR op_eq (pv 0) pe_str (nomark _)) (pw_and1 (pt_cmpR (op_eqD hr.units) (pv 1) (pe_lst pa_nil) (nomark _))))) (pss_one (ps_ret (C8.pe_mk k_Bits hr (by decide) rfl (pa_cons (C8.pe_c c_numbers_of hr (by first | decide | exact Nat.le_refl _ | omega) rfl (pa_cons (pv 2) pa_nil)) pa_nil)))) pss_nil)
      (pss_one ps_never))))), ?_⟩
    have sm := hok.small
    cases d with
    | th N es =>
      injection eh with e1 e2
      subst e1 e2
      have el : es.length ≤ 16 := hok.2.2.2
      refine ⟨_, rfl, rfl, true, same_str, iteT ⟨_, rfl, a, _, rfl, .inl (SqL.of ha), rfl, true, rfl, iteT ?_⟩⟩
      refine ⟨_, rfl, a, _, _, _, rfl, rfl, SqL.of ha, (atI_nat (xs := [Tx.num N].map V.str) (j := 0) (v := V.str (Tx.num N)) rfl), N, rfl, sm.1, fun H1 s1 => ?_⟩
      have hb1 := s1 _ _ hb
      refine ⟨_, rfl, b, rfl, ⟨_, SqL.of hb1⟩, fun D hD => lc_list (K := K) (a := b) (xs := (es.map Tx.tie).map V.str) (fun i H' => Same H1 H' ∧ ∃ ts : List Addr, H' D = some (.lst (ts.map V.ref)) ∧ prs H' ts (es.take i))
        ⟨same_upd hD, [], upd_same, True.intro⟩ (fun i H' _ p => SqL.of (p.1 _ _ hb1)) ?_ ?_⟩
      · rintro i y H' hi ⟨s5, ts, hA, hts⟩
        obtain ⟨z, hz, rfl⟩ := map_at hi
        obtain ⟨e, ee, rfl⟩ := map_at hz
        obtain ⟨m1, m2⟩ := sm.2 e (List.mem_of_getElem? ee)
        refine ⟨rfl, yesT ?_⟩
        refine ⟨_, rfl, e, rfl, m1, m2, fun H6 t s6 nt ht => ⟨_, s6 _ _ hA, ?_, same_to (s5.trans s6) hD, ts ++ [t], ?_, ?_⟩⟩
        · rw [List.length_map, hts.len]
          exact small1000 (Nat.le_trans (by rw [List.length_take]; omega) (by omega : es.length ≤ 1000))
        · rw [List.map_append]
          exact upd_same
        · rw [take_more ee]
          exact (prs.put ht (hts.same s6)).upd (s6 _ _ hA) (by intro xs w; cases w)
      · rintro H' ⟨s5, ts, hA, hts⟩
        rw [List.length_map, List.length_map, List.take_length] at hts
        intro x dx nx ndx ne
        have sm2 := made_same (C := c.t) nx ndx
        refine ⟨x, dx, D, N, ts, es, rfl, upd_same, sm2 _ _ hA, hts.same sm2, hok.1, hok.2.1, el, hok.2.2.1, fun H7 keep at7 => ⟨rfl, ?_⟩⟩
        exact q H7 x (s1.trans (s5.trans (Same.made nx ndx fun b o e nb => keep b o nb e))) at7
    | ki ks ms =>
      injection eh with e1 e2
      subst e1 e2
      have kl : ks.length ≤ 16 := hok.2.2
      refine ⟨_, rfl, rfl, false, ne_str (by rw [tl_kinds, tl_threads]; decide), iteF (iteF ?_)⟩
      refine ⟨_, rfl, rfl, true, same_str, iteT ?_⟩
      refine ⟨_, rfl, b, ks, rfl, hb, by omega, sm.1, fun H1 m1 s1 nm1 hm1 => ?_⟩
      refine ⟨_, rfl, a, ms, rfl, s1 _ _ ha, hok.2.1, sm.2, fun H2 m2 s2 nm2 hm2 => ?_⟩
      intro x dx nx ndx ne
      have sm2 := made_same (C := c.k) nx ndx
      refine ⟨x, dx, m1, m2, ks, ms, rfl, upd_same, sm2 _ _ (s2 _ _ hm1), sm2 _ _ hm2, kl, hok.2.1, hok.1, fun H7 keep at7 => ⟨rfl, ?_⟩⟩
      exact q H7 x (s1.trans (s2.trans (Same.made nx ndx fun b o e nb => keep b o nb e))) at7
    | po ws =>
      injection eh with e1 e2
      subst e1 e2
      have wl : ws.length ≤ 16 := hok.2
      refine ⟨_, rfl, rfl, false, ne_str (by rw [tl_posts, tl_threads]; decide), iteF (iteF ?_)⟩
      refine ⟨_, rfl, rfl, false, ne_str (by rw [tl_posts, tl_kinds]; decide), iteF ?_⟩
      refine ⟨_, rfl, rfl, true, same_str, iteT ?_⟩
      refine ⟨_, rfl, Nat.zero_le _, fun u nu => ?_⟩
      have s0 : Same H (upd H u (.lst [])) := same_upd nu
      refine ⟨_, _, Dp.lst (SqL.of (s0 _ _ ha)) .nil, Dp.lst (SqL.of upd_same) .nil, by decide +kernel, by decide +kernel, true, rfl, iteT ?_⟩
      generalize upd H u (HO.lst []) = H1 at s0 ⊢
      have hb1 := s0 _ _ hb
      refine ⟨_, rfl, b, rfl, ⟨_, SqL.of hb1⟩, fun D hD => lc_list (K := K) (a := b) (xs := (ws.map Tx.want).map V.str) (fun i H' => Same H1 H' ∧ ∃ ts : List Addr, H' D = some (.lst (ts.map V.ref)) ∧ rws .lst H' ts (ws.take i) ∧ D ∉ ts)
        ⟨same_upd hD, [], upd_same, True.intro, by simp⟩ (fun i H' _ p => SqL.of (p.1 _ _ hb1)) ?_ ?_⟩
      · rintro i y H' hi ⟨s5, ts, hA, hts, nD⟩
        obtain ⟨z, hz, rfl⟩ := map_at hi
        obtain ⟨e, ee, rfl⟩ := map_at hz
        obtain ⟨m1, m2⟩ := sm e (List.mem_of_getElem? ee)
        refine ⟨rfl, yesT ?_⟩
        refine ⟨_, rfl, e, rfl, m1, m2, fun H6 t s6 nt ht => ⟨_, s6 _ _ hA, ?_, same_to (s5.trans s6) hD, ts ++ [t], ?_, ?_, ?_⟩⟩
        · rw [List.length_map, hts.len]
          exact small1000 (Nat.le_trans (by rw [List.length_take]; omega) (by omega : ws.length ≤ 1000))
        · rw [List.map_append]
          exact upd_same
        all_goals
          have nD2 : D ∉ ts ++ [t] := fun z => by
            rcases List.mem_append.mp z with z | z
            · exact nD z
            · rw [List.mem_singleton.mp z] at hA
              rw [hA] at nt
              cases nt
        · rw [take_more ee]
          exact (rws.put ht (hts.same s6)).upd nD2
        · exact nD2
      · rintro H' ⟨s5, ts, hA, hts, nD⟩
        rw [List.length_map, List.length_map, List.take_length] at hts
        intro x dx nx ndx ne
        have sm2 := made_same (C := c.p) nx ndx
        refine ⟨x, dx, D, ts, ws, rfl, upd_same, sm2 _ _ hA, hts.same sm2, wl, hok.1, fun H7 keep at7 => ⟨rfl, ?_⟩⟩
        exact q H7 x (s0.trans (s5.trans (Same.made nx ndx fun b o e nb => keep b o nb e))) at7
    | bi rows =>
      injection eh with e1 e2
      subst e1 e2
      have kl : rows.length ≤ 16 := hok.2
      refine ⟨_, rfl, rfl, false, ne_str (by rw [tl_bits, tl_threads]; decide), iteF (iteF ?_)⟩
      refine ⟨_, rfl, rfl, false, ne_str (by rw [tl_bits, tl_kinds]; decide), iteF ?_⟩
      refine ⟨_, rfl, rfl, false, ne_str (by rw [tl_bits, tl_posts]; decide), iteF (iteF ?_)⟩
      refine ⟨_, rfl, rfl, true, same_str, iteT ?_⟩
      refine ⟨_, rfl, Nat.zero_le _, fun u nu => ?_⟩
      have s0 : Same H (upd H u (.lst [])) := same_upd nu
      refine ⟨_, _, Dp.lst (SqL.of (s0 _ _ ha)) .nil, Dp.lst (SqL.of upd_same) .nil, by decide +kernel, by decide +kernel, true, rfl, iteT ?_⟩
      generalize upd H u (HO.lst []) = H1 at s0 ⊢
      refine ⟨_, rfl, b, rows, rfl, s0 _ _ hb, by omega, sm, fun H2 m1 s1 nm1 hm1 => ?_⟩
      intro x dx nx ndx ne
      have sm2 := made_same (C := c.b) nx ndx
      refine ⟨x, dx, m1, rows, rfl, upd_same, sm2 _ _ hm1, kl, hok.1, fun H7 keep at7 => ⟨rfl, ?_⟩⟩
      exact q H7 x (s0.trans (s1.trans (Same.made nx ndx fun b o e nb => keep b o nb e))) at7
end
section
variable {P : Program} {w : World} {K : PySem.W.Frag} {mg : Str → Option Value} {base : Heap} {f : Addr} {fd : FuncData} {c : Cs}
def spRead (c : Cs) : Sp := fun vs H Q _ => ∃ d : SD, vs = [.str d.txt] ∧ d.Ok ∧ ∀ H' p, Same H H' → d.At c H' p → Q (.ref p) H'
theorem txt_len {d : SD} (h : d.Ok) : d.txt.length ≤ 20000 ∧ d.head.length ≤ 12000 ∧ (Tx.body d.words).length ≤ 7000 := by
  have sm := h.small
  have wl : ∀ w ∈ d.words, w.length ≤ 400 := SD.word_len sm
  have hl : ∀ w ∈ d.headW, w.length ≤ 10 := SD.headW_len sm
  have hc := SD.headW_count h
  have wc : d.words.length ≤ 16 := by rw [SD.words_count]; exact h.n16
  have a : d.head.length ≤ 12000 := join_small (Nat.le_of_eq len_blank) hl (by omega)
  have b : (Tx.body d.words).length ≤ 7000 := join_small (k := 401) (by rw [len_e]; decide) (fun p hp => by
    obtain ⟨z, hz, rfl⟩ := List.mem_map.mp hp
    have := wl z hz
    rw [Tx.append_len, len_blank]
    omega) (by rw [List.length_map]; omega)
  refine ⟨?_, a, b⟩
  show (Tx.row d.head d.words).length ≤ 20000
  rw [← Tx.row_eq, Tx.append_len, Tx.append_len, len_colon]
  omega
theorem cut_one {α : Type} (f : α → V) (x : α) {r : List α} : cutV ((x :: r).map f) (some 1) none = r.map f := by
  unfold cutV
  have e : HT.sIx ((x :: r).map f).length 0 (some 1) = 1 := by
    unfold HT.sIx
    simp
  have e2 : HT.sIx ((x :: r).map f).length ((x :: r).map f).length none = ((x :: r).map f).length := rfl
  rw [e, e2, List.map_cons, List.drop_succ_cons, List.drop_zero, List.length_cons]
  exact List.take_of_length_le (by omega)
theorem ok_read (B : Bl mg) (bstr : mg "str" = none) (F : L2.Fun K "read" "read" s_read f fd) (g : mg "read" = some (.ref f)) (c_made_of : C8.Cal P w K mg base 7 "made_of" (spMadeOf c) []) : C8.Cal P w K mg base 8 "read" (spRead c) [] := by
  refine ⟨f, fd, ["text"], [], F.ok sc_read (fun vs H Q E h => ?_) (fun cdv A' outer s H vs Q E hr h => ?_), g, F.kp, F.binds (ps := ["text"]) (fun _ _ _ _ _ _ us hl => match us, hl with | [_], _ => rfl), .nil⟩
  · obtain ⟨d, rfl, _⟩ := h
    rfl
  · obtain ⟨d, rfl, hok, q⟩ := h
    refine ⟨_, (pss_cons (ps_if (pt_not (pt_val (pe_callB (call_isiK (K := K) rfl) (by rfl) B.isinstance_ (by decide +kernel) (pa_cons (pv 0) (pa_cons (pe_bltn (v := .ty "str") (u := .type "str") (by rfl) bstr (by decide +kernel) rfl) pa_nil))))) (pss_one ps_never) pss_nil)
      (pss_cons (ps_asg (pe_partition (pv 0) pe_str) (pg_tupK (K := K) (n := 3) rfl (by rfl) (pgs_cons (pg_name (i := 1) sc_read.nd rfl (Or.inl rfl)) (pgs_cons (pg_name (i := 2) sc_read.nd rfl (Or.inl rfl)) (pgs_cons (pg_name (i := 3) sc_read.nd rfl (Or.inl rfl)) pgs_nil)))))
      (pss_cons (ps_if (pt_cmpR op_eq (pv 2) pe_str (nomark _)) (pss_one ps_never) pss_nil)
      (pss_cons (ps_if (PW.pt (pw_and (pt_cmpR op_ne (pv 3) pe_str (nomark _)) (pw_and1 (pt_not (pt_val (pe_m1 PySem.F.slot_str_startswith PySem.F.type_str_startswith mt_startswith (pv 3) pe_str)))))) (pss_one ps_never) pss_nil)
      (pss_cons (ps_set (i := 4) sc_read.nd rfl (Or.inl rfl) (pe_split (pv 1) pe_str))
      (pss_one (ps_try_thru0 (pss_one (ps_ret (C8.pe_c c_made_of hr (by first | decide | exact Nat.le_refl _ | omega) rfl (pa_cons (pe_ix (r := rIxL K) ix_list (pv 4) pe_int (fun _ _ => rfl)) (pa_cons (pe_slice sl_list (pv 4) (po_some pe_int) po_none) (pa_cons (pe_slice sl_list (pe_split (pv 3) pe_str) (po_some pe_int) po_none) pa_nil))))))))))))), ?_⟩
    obtain ⟨tl, hl, bl⟩ := txt_len hok
    have sz : sizeLine = 16777216 := rfl
    refine ⟨_, rfl, _, _, _, _, true, rfl, ClsV.ty _, TyX.base (TyOf.str _), kit_ty (by decide +kernel), true, rfl, iteF ?_⟩
    refine ⟨_, rfl, ⟨_, rfl⟩, _, _, rfl, rfl, by decide +kernel, by omega, fun t nt => ?_⟩
    have cut : Txt.partition d.txt (Str.ofString ":") = (d.head, Str.ofString ":", Tx.body d.words) := d.cut
    rw [cut]
    have s1 : Same H (upd H t (.tup [V.str d.head, V.str (Str.ofString ":"), V.str (Tx.body d.words)])) := same_upd nt
    refine ⟨t, _, rfl, SqT.of upd_same, rfl, _, _, rfl, _, _, rfl, _, _, rfl, rfl, ?_⟩
    generalize upd H t (HO.tup [V.str d.head, V.str (Str.ofString ":"), V.str (Tx.body d.words)]) = H1 at s1 ⊢
    refine ⟨_, rfl, rfl, false, ne_str (by rw [Tx.tl_colon, Tx.tl_e]; decide), iteF ?_⟩
    -- behind the blank
    have hsp : Txt.split d.head (Str.ofString " ") = d.headW := d.head_split
    have bsp : Txt.split (Tx.body d.words) (Str.ofString " ") = Str.ofString "" :: d.words := Tx.body_split d.words SD.words_free
    obtain ⟨hd, more, eh⟩ : ∃ hd more, d.headW = hd :: more := by
      cases e : d.headW with
      | nil => exact absurd e d.headW_ne
      | cons x r => exact ⟨x, r, rfl⟩
    refine ⟨_, rfl, rfl, !decide (Tx.body d.words = Str.ofString ""), ?_, ?_⟩
    · show V.bl (!decide (V.str (Tx.body d.words) = V.str (Str.ofString ""))) = _
      congr 2
      exact V.bl.inj (eq_str _ _)
    by_cases z : Tx.body d.words = Str.ofString ""
    · rw [decide_eq_true z]
      refine iteF (iteF ?_)
      exact ⟨_, rfl, ⟨_, rfl⟩, _, _, rfl, rfl, by decide +kernel, (show d.head.length + 2 ≤ sizeLine by omega), fun ws nws => by
        rw [hsp]
        have s2 := s1.trans (same_upd (o := .lst (d.headW.map V.str)) nws)
        have hws : (upd H1 ws (HO.lst (d.headW.map V.str))) ws = some (.lst (d.headW.map V.str)) := upd_same
        generalize upd H1 ws (HO.lst (d.headW.map V.str)) = H2 at s2 hws ⊢
        rw [eh] at hws
        refine ⟨_, rfl, ws, _, _, _, rfl, rfl, SqL.of hws, (atI_nat (xs := (hd :: more).map V.str) (j := 0) (v := V.str hd) rfl), ?_⟩
        refine ⟨_, rfl, (1 : Int), rfl, ws, _, rfl, SqL.of hws, fun m nm => ?_⟩
        have e1 : cutV ((hd :: more).map V.str) (some 1) none = more.map V.str := cut_one V.str _
        rw [e1]
        have s3 := s2.trans (same_upd (o := .lst (more.map V.str)) nm)
        have hm : (upd H2 m (HO.lst (more.map V.str))) m = some (.lst (more.map V.str)) := upd_same
        generalize upd H2 m (HO.lst (more.map V.str)) = H3 at s3 hm ⊢
        refine ⟨_, rfl, ⟨_, rfl⟩, _, _, rfl, rfl, by decide +kernel, (show (Tx.body d.words).length + 2 ≤ sizeLine by omega), fun bs nbs => ?_⟩
        rw [bsp]
        have hbs : (upd H3 bs (HO.lst ((Str.ofString "" :: d.words).map V.str))) bs = some (.lst ((Str.ofString "" :: d.words).map V.str)) := upd_same
        have s4 : Same H3 (upd H3 bs (.lst ((Str.ofString "" :: d.words).map V.str))) := same_upd nbs
        generalize upd H3 bs (HO.lst ((Str.ofString "" :: d.words).map V.str)) = H4 at s4 hbs ⊢
        refine ⟨(1 : Int), rfl, bs, _, rfl, SqL.of hbs, fun n nn => ?_⟩
        have e2 : cutV ((Str.ofString "" :: d.words).map V.str) (some 1) none = d.words.map V.str := cut_one V.str _
        rw [e2]
        have s5 : Same H4 (upd H4 n (.lst (d.words.map V.str))) := same_upd nn
        exact ⟨hd, m, n, more, d, rfl, eh, s5 _ _ (s4 _ _ hm), upd_same, hok, fun H' p s6 at6 => q H' p (s3.trans (s4.trans (s5.trans s6))) at6⟩⟩
    · rw [decide_eq_false z]
      refine iteT ⟨_, rfl, ⟨_, rfl⟩, _, _, rfl, rfl, true, ?_, iteF ?_⟩
      · exact congrArg V.bl (Tx.body_starts z)
      exact ⟨_, rfl, ⟨_, rfl⟩, _, _, rfl, rfl, by decide +kernel, (show d.head.length + 2 ≤ sizeLine by omega), fun ws nws => by
        rw [hsp]
        have s2 := s1.trans (same_upd (o := .lst (d.headW.map V.str)) nws)
        have hws : (upd H1 ws (HO.lst (d.headW.map V.str))) ws = some (.lst (d.headW.map V.str)) := upd_same
        generalize upd H1 ws (HO.lst (d.headW.map V.str)) = H2 at s2 hws ⊢
        rw [eh] at hws
        refine ⟨_, rfl, ws, _, _, _, rfl, rfl, SqL.of hws, (atI_nat (xs := (hd :: more).map V.str) (j := 0) (v := V.str hd) rfl), ?_⟩
        refine ⟨_, rfl, (1 : Int), rfl, ws, _, rfl, SqL.of hws, fun m nm => ?_⟩
        have e1 : cutV ((hd :: more).map V.str) (some 1) none = more.map V.str := cut_one V.str _
        rw [e1]
        have s3 := s2.trans (same_upd (o := .lst (more.map V.str)) nm)
        have hm : (upd H2 m (HO.lst (more.map V.str))) m = some (.lst (more.map V.str)) := upd_same
        generalize upd H2 m (HO.lst (more.map V.str)) = H3 at s3 hm ⊢
        refine ⟨_, rfl, ⟨_, rfl⟩, _, _, rfl, rfl, by decide +kernel, (show (Tx.body d.words).length + 2 ≤ sizeLine by omega), fun bs nbs => ?_⟩
        rw [bsp]
        have hbs : (upd H3 bs (HO.lst ((Str.ofString "" :: d.words).map V.str))) bs = some (.lst ((Str.ofString "" :: d.words).map V.str)) := upd_same
        have s4 : Same H3 (upd H3 bs (.lst ((Str.ofString "" :: d.words).map V.str))) := same_upd nbs
        generalize upd H3 bs (HO.lst ((Str.ofString "" :: d.words).map V.str)) = H4 at s4 hbs ⊢
        refine ⟨(1 : Int), rfl, bs, _, rfl, SqL.of hbs, fun n nn => ?_⟩
        have e2 : cutV ((Str.ofString "" :: d.words).map V.str) (some 1) none = d.words.map V.str := cut_one V.str _
        rw [e2]
        have s5 : Same H4 (upd H4 n (.lst (d.words.map V.str))) := same_upd nn
        exact ⟨hd, m, n, more, d, rfl, eh, s5 _ _ (s4 _ _ hm), upd_same, hok, fun H' p s6 at6 => q H' p (s3.trans (s4.trans (s5.trans s6))) at6⟩⟩
end
theorem op_neDK {X : Cx} {K : PySem.W.Frag} (eK : X.K = K) (hu : X.A.units + 64 < cLine) : OpR X (compareOp .NotEq) (rNeD K) := by subst eK; exact op_neD hu
theorem pi_listK {X : Cx} {K : PySem.W.Frag} {tg l : Expr} {tl : TE} (eK : X.K = K) (hl : PE X l tl) : PI X tg l (iList K tl) := by subst eK; exact pi_list hl
/-! ### what the law makes: a rule and its text -/
section
variable {P : Program} {w : World} {K : PySem.W.Frag} {mg : Str → Option Value} {base : Heap} {f : Addr} {fd : FuncData} {c : Cs}
theorem draw_nat {c k : Int} {N : Nat} (h : 1 ≤ N) : ∃ m : Nat, m < N ∧ drawF c k (N : Int) = (m : Int) := by
  have h0 := drawF_lo (c := c) (k := k) (m := (N : Int)) (by omega)
  have h1 := drawF_hi (c := c) (k := k) (m := (N : Int)) (by omega)
  exact ⟨(drawF c k (N : Int)).toNat, by omega, by omega⟩
theorem ite2 {p : Prop} [Decidable p] {A B : Prop} (h1 : p → A) (h2 : ¬ p → B) : if p then A else B := by
  by_cases c : p
  · rw [if_pos c]; exact h1 c
  · rw [if_neg c]; exact h2 c
theorem SD.At.keepL {H H' : Hp} {p : Addr} (k : ∀ b o, (∀ xs, o ≠ .lst xs) → H b = some o → H' b = some o) : ∀ {d : SD}, d.At c H p → d.At c H' p
  | .th _ _, ⟨dx, t, ts, h1, h2, h3⟩ => ⟨dx, t, ts, k _ _ (fun _ z => by cases z) h1, k _ _ (fun _ z => by cases z) h2, h3.keep fun t xs e => k _ _ (fun _ z => by cases z) e⟩
  | .ki _ _, ⟨dx, a, b, h1, h2, h3⟩ => ⟨dx, a, b, k _ _ (fun _ z => by cases z) h1, k _ _ (fun _ z => by cases z) h2, k _ _ (fun _ z => by cases z) h3⟩
  | .po _, h => Po.PostsAt.keep h k
  | .bi _, ⟨dx, t, h1, h2⟩ => ⟨dx, t, k _ _ (fun _ z => by cases z) h1, k _ _ (fun _ z => by cases z) h2⟩
theorem SD.At.wipe {H : Hp} {p D : Addr} {xs : List V} {o : HO} {d : SD} (h : d.At c H p) (hD : H D = some (.lst xs)) : d.At c (upd H D o) p := h.keepL fun b u n e => by
  have nb : b ≠ D := fun z => by
    rw [z, hD] at e
    exact n _ (Option.some.inj e).symm
  rw [upd_ne nb]
  exact e
theorem th_head (N : Nat) (es : List (Nat × Nat)) : Str.ofString "threads " ++ Str.ofString (toString ((N : Nat) : Int)) ++ Str.ofString ":" = (SD.th N es).head ++ Tx.colon := by
  refine TL.ext_tl ?_
  show _ = TL.tl (Txt.join Tx.blank [Str.ofString "threads", Tx.num N] ++ Tx.colon)
  rw [TL.join_eq]
  show _ = TL.tl (Str.ofString "threads" ++ Tx.blank ++ Tx.num N ++ Tx.colon)
  rw [TL.tl_append, TL.tl_append, TL.tl_append, TL.tl_append, TL.tl_append, tl_threads, Tx.tl_blank]
  have e : TL.tl (Str.ofString "threads ") = [116, 104, 114, 101, 97, 100, 115, 32] := TL.tl_ofString "threads "
  rw [e]
  rfl
theorem po_head (ws : List (List Nat)) : Str.ofString "posts:" = (SD.po ws).head ++ Tx.colon := by
  refine TL.ext_tl ?_
  show _ = TL.tl (Txt.join Tx.blank [Str.ofString "posts"] ++ Tx.colon)
  rw [TL.join_eq]
  show _ = TL.tl (Str.ofString "posts" ++ Tx.colon)
  rw [TL.tl_append, tl_posts, Tx.tl_colon]
  exact TL.tl_ofString "posts:"
theorem bi_head (rows : List Nat) : Str.ofString "bits:" = (SD.bi rows).head ++ Tx.colon := by
  refine TL.ext_tl ?_
  show _ = TL.tl (Txt.join Tx.blank [Str.ofString "bits"] ++ Tx.colon)
  rw [TL.join_eq]
  show _ = TL.tl (Str.ofString "bits" ++ Tx.colon)
  rw [TL.tl_append, tl_bits, Tx.tl_colon]
  exact TL.tl_ofString "bits:"
/-- the words with the head: not too long -/
theorem told_size {d : SD} (h : d.Ok) : ((((d.head ++ Tx.colon) :: d.words).map (·.length)).sum + ((d.head ++ Tx.colon) :: d.words).length * (Str.ofString " ").length ≤ 16777216) := by
  have sm := h.small
  obtain ⟨_, hl, _⟩ := txt_len h
  have wl : ∀ w ∈ d.words, w.length ≤ 400 := SD.word_len sm
  have wc : d.words.length ≤ 16 := by rw [SD.words_count]; exact h.n16
  have a := Tx.sum_le wl
  have b : (Str.ofString " ").length = 1 := len_blank
  have e := Nat.mul_le_mul wc (Nat.le_refl 400)
  rw [List.map_cons, List.sum_cons, List.length_cons, b, Tx.append_len, len_colon]
  omega
theorem rd_shaped (v : List Nat) : SeqAt.shaped (rd v) = true := PySem.W.ke_shaped_ints _
theorem row_nil (v : List Nat) : (!PyData.eqv (rd v) (.list [])) = decide (v ≠ []) := by
  cases v with
  | nil => decide +kernel
  | cons x r =>
    have e : PyData.eqv (rd (x :: r)) (.list []) = false := by simp [rd, wd, PyData.eqv, PyData.eqvAll]
    rw [e]
    simp
def spMade (c : Cs) : Sp := fun vs H Q _ => ∃ (cell : Int) (n : Nat), vs = [.int cell, nv n] ∧ n ≤ 16 ∧
  ∀ H' t p (d : SD), Same H H' → H t = none → H' t = some (.tup [.ref p, .str d.txt]) → d.n = n → d.Ok → d.At c H' p → Q (.ref t) H'
theorem ok_made (B : Bl mg) (bstr : mg "str" = none) (F : L2.Fun K "_law_made" "_law_made" s__law_made f fd) (g : mg "_law_made" = some (.ref f)) (c__law_draw : C8.Cal P w K mg base 1 "_law_draw" spDraw []) (k_Threads : C8.Mak P w K mg base 4 "Threads" c.t (Th.spInit c.t) [])
    (k_Kinds : C8.Mak P w K mg base 4 "Kinds" c.k (Ki.spInit c.k) []) (k_Posts : C8.Mak P w K mg base 5 "Posts" c.p (Po.spInit c.p) []) (k_Bits : C8.Mak P w K mg base 4 "Bits" c.b (Bi.spInit c.b) []) : C8.Cal P w K mg base 7 "_law_made" (spMade c) [] := by
  refine ⟨f, fd, ["_law_cell", "_law_n"], [], F.ok sc__law_made (fun vs H Q E h => ?_) (fun cdv A outer s H vs Q E hr h => ?_), g, F.kp, F.binds (ps := ["_law_cell", "_law_n"]) (fun _ _ _ _ _ _ us hl => match us, hl with | [_, _], _ => rfl), .nil⟩
  · obtain ⟨cell, n, rfl, _⟩ := h
    rfl
  · obtain ⟨cell, n, rfl, n16x, q⟩ := h
    refine ⟨_, (pss_cons (ps_set (i := 2) sc__law_made.nd rfl (Or.inl rfl) (C8.pe_c c__law_draw hr (by first | decide | exact Nat.le_refl _ | omega) rfl (pa_cons (pv 0) (pa_cons pe_int (pa_cons pe_int pa_nil)))))
      (pss_cons (ps_if (pt_cmpR op_eq (pv 2) pe_int (nomark _)) (C8.pss_cut (ps_set (i := 3) sc__law_made.nd rfl (Or.inr rfl) (pe_op op_add pe_int (C8.pe_c c__law_draw hr (by first | decide | exact Nat.le_refl _ | omega) rfl (pa_cons (pv 0) (pa_cons pe_int (pa_cons pe_int pa_nil))))))
      (pss_cons (ps_setLc (i := 4) (own := [("_law_k", 10)]) rfl sc__law_made.nd rfl rfl (sw_true rfl rfl rfl (by decide +kernel)) (pi_range1 rfl B.range_ (pa_cons (pv 1) pa_nil)) (blkOk_by (own := [("_law_k", 10)]) (N := n__law_made) (sc := defScope s__law_made) (by decide +kernel)) (fun _ _ _ _ _ => (pg_name (i := 10) sc__law_made.nd rfl (Or.inl rfl))) (fun _ _ _ _ _ => pts_nil) (fun _ _ _ _ _ => (pe_tup (pa_cons (C8.pe_c c__law_draw hr (by first | decide | exact Nat.le_refl _ | omega) rfl (pa_cons (pe_op op_add (pv 0) (pe_op op_mul pe_int (pv 10))) (pa_cons pe_int (pa_cons (pv 3) pa_nil)))) (pa_cons (C8.pe_c c__law_draw hr (by first | decide | exact Nat.le_refl _ | omega) rfl (pa_cons (pe_op op_add (pv 0) (pe_op op_mul pe_int (pv 10))) (pa_cons pe_int (pa_cons (pv 3) pa_nil)))) pa_nil)))))
      (pss_cons (ps_set (i := 5) sc__law_made.nd rfl (Or.inl rfl) (C8.pe_mk k_Threads hr (by decide) rfl (pa_cons (pv 3) (pa_cons (pv 4) pa_nil))))
      (pss_cons (ps_set (i := 6) sc__law_made.nd rfl (Or.inl rfl) (pe_op op_cat (pe_lst (pa_cons (pe_op op_add_str (pe_op op_add_str pe_str (pe_callTy call_str_int (by rfl) bstr (by decide +kernel) (pa_cons (pv 3) pa_nil))) pe_str) pa_nil)) (pe_lc (own := [("_law_tie", 13)]) rfl sc__law_made.nd (pi_list (pv 4)) (blkOk_by (own := [("_law_tie", 13)]) (N := n__law_made) (sc := defScope s__law_made) (by decide +kernel)) (fun _ _ _ _ _ => (pg_name (i := 13) sc__law_made.nd rfl (Or.inl rfl))) (fun _ _ _ _ _ => pts_nil) (fun _ _ _ _ _ => (pe_op op_add_str (pe_op op_add_str (pe_callTy call_str_int (by rfl) bstr (by decide +kernel) (pa_cons (pe_ix (r := rIxT K) ix_tup (pv 13) pe_int (fun _ _ => rfl)) pa_nil)) pe_str) (pe_callTy call_str_int (by rfl) bstr (by decide +kernel) (pa_cons (pe_ix (r := rIxT K) ix_tup (pv 13) pe_int (fun _ _ => rfl)) pa_nil)))))))
      (pss_cons (ps_expr (pe_bm0 PySem.F.plainAttrs_list PySem.F.slot_list_clear PySem.F.type_list_clear mt_clear (pv 4)))
      (pss_one (ps_ret (pe_tup (pa_cons (pv 5) (pa_cons (pe_joinK (K := K) rfl pe_str (pv 6)) pa_nil)))))))))) pss_nil)
      (pss_cons (ps_if (pt_cmpR op_eq (pv 2) pe_int (nomark _)) (pss_cons (ps_set (i := 7) sc__law_made.nd rfl (Or.inr rfl) (pe_lc (own := [("_law_k", 10)]) rfl sc__law_made.nd (pi_range1 rfl B.range_ (pa_cons (pe_op op_add (C8.pe_c c__law_draw hr (by first | decide | exact Nat.le_refl _ | omega) rfl (pa_cons (pv 0) (pa_cons pe_int (pa_cons pe_int pa_nil)))) (pe_callTy call_int1 (by rfl) B.int_ (by decide +kernel) (pa_cons (pe_cmpR op_gt (pv 1) pe_int (nomark _)) pa_nil))) pa_nil)) (blkOk_by (own := [("_law_k", 10)]) (N := n__law_made) (sc := defScope s__law_made) (by decide +kernel)) (fun _ _ _ _ _ => (pg_name (i := 10) sc__law_made.nd rfl (Or.inl rfl))) (fun _ _ _ _ _ => pts_nil) (fun _ _ _ _ _ => (C8.pe_c c__law_draw hr (by first | decide | exact Nat.le_refl _ | omega) rfl (pa_cons (pe_op op_add (pv 0) (pe_op op_mul pe_int (pv 10))) (pa_cons pe_int (pa_cons pe_int pa_nil)))))))
      (pss_cons (ps_setLc (i := 8) (own := [("_law_k", 10)]) rfl sc__law_made.nd rfl rfl (sw_true rfl rfl rfl (by decide +kernel)) (pi_range1 rfl B.range_ (pa_cons (pv 1) pa_nil)) (blkOk_by (own := [("_law_k", 10)]) (N := n__law_made) (sc := defScope s__law_made) (by decide +kernel)) (fun _ _ _ _ _ => (pg_name (i := 10) sc__law_made.nd rfl (Or.inl rfl))) (fun _ _ _ _ _ => pts_nil) (fun _ _ _ _ _ => (C8.pe_c c__law_draw hr (by first | decide | exact Nat.le_refl _ | omega) rfl (pa_cons (pe_op op_add (pv 0) (pe_op op_mul pe_int (pv 10))) (pa_cons pe_int (pa_cons (pe_callB (call_lenK (K := K) rfl) (by rfl) B.len_ (by decide +kernel) (pa_cons (pv 7) pa_nil)) pa_nil))))))
      (pss_cons (ps_set (i := 5) sc__law_made.nd rfl (Or.inl rfl) (C8.pe_mk k_Kinds hr (by decide) rfl (pa_cons (pv 8) (pa_cons (pv 7) pa_nil))))
      (pss_cons (ps_set (i := 6) sc__law_made.nd rfl (Or.inl rfl) (pe_op op_cat (pe_lst (pa_cons (pe_op op_add_str (pe_joinK (K := K) rfl pe_str (pe_op op_cat (pe_lst (pa_cons pe_str pa_nil)) (pe_lc (own := [("_law_bound", 14)]) rfl sc__law_made.nd (pi_list (pv 7)) (blkOk_by (own := [("_law_bound", 14)]) (N := n__law_made) (sc := defScope s__law_made) (by decide +kernel)) (fun _ _ _ _ _ => (pg_name (i := 14) sc__law_made.nd rfl (Or.inl rfl))) (fun _ _ _ _ _ => pts_nil) (fun _ _ _ _ _ => (pe_callTy call_str_int (by rfl) bstr (by decide +kernel) (pa_cons (pv 14) pa_nil)))))) pe_str) pa_nil)) (pe_lc (own := [("_law_kind", 2)]) rfl sc__law_made.nd (pi_list (pv 8)) (blkOk_by (own := [("_law_kind", 2)]) (N := n__law_made) (sc := defScope s__law_made) (by decide +kernel)) (fun _ _ _ _ _ => (pg_name (i := 2) sc__law_made.nd rfl (Or.inl rfl))) (fun _ _ _ _ _ => pts_nil) (fun _ _ _ _ _ => (pe_callTy call_str_int (by rfl) bstr (by decide +kernel) (pa_cons (pv 2) pa_nil))))))
      (pss_cons (ps_expr (pe_bm0 PySem.F.plainAttrs_list PySem.F.slot_list_clear PySem.F.type_list_clear mt_clear (pv 7)))
      (pss_one (ps_ret (pe_tup (pa_cons (pv 5) (pa_cons (pe_joinK (K := K) rfl pe_str (pv 6)) pa_nil)))))))))) pss_nil)
      (pss_cons (ps_if (pt_cmpR op_eq (pv 2) pe_int (nomark _)) (pss_cons (ps_set (i := 9) sc__law_made.nd rfl (Or.inl rfl) (pe_lst pa_nil))
      (pss_cons (ps_for PassesOwn.never rfl (pi_range1 rfl B.range_ (pa_cons (pv 1) pa_nil)) (pg_name (i := 10) sc__law_made.nd rfl (Or.inr rfl)) (C8.pss_cut (ps_set (i := 11) sc__law_made.nd rfl (Or.inr rfl) (C8.pe_c c__law_draw hr (by first | decide | exact Nat.le_refl _ | omega) rfl (pa_cons (pe_op op_add (pv 0) (pe_op op_mul pe_int (pv 10))) (pa_cons pe_int (pa_cons pe_int pa_nil)))))
      (pss_one (ps_expr (pe_bm PySem.F.plainAttrs_list PySem.F.slot_list_append PySem.F.type_list_append mt_append (pv 9) (pa_cons (pe_revL (pe_lc (own := [("_law_p", 15)]) rfl sc__law_made.nd (pi_range1 rfl B.range_ (pa_cons pe_int pa_nil)) (blkOk_by (own := [("_law_p", 15)]) (N := n__law_made) (sc := defScope s__law_made) (by decide +kernel)) (fun _ _ _ _ _ => (pg_name (i := 15) sc__law_made.nd rfl (Or.inl rfl))) (fun _ _ _ _ _ => (pts_one (pt_cmpR op_eq (C8.pe_c c__law_draw hr (by first | decide | exact Nat.le_refl _ | omega) rfl (pa_cons (pe_op op_add (pe_op op_add (pv 0) (pe_op op_mul pe_int (pv 10))) (pe_op op_mul pe_int (pv 15))) (pa_cons pe_int (pa_cons pe_int pa_nil)))) pe_int (nomark _)))) (fun _ _ _ _ _ => (pe_op op_add (pv 11) (pv 15))))) pa_nil))))))
      (pss_cons (ps_set (i := 5) sc__law_made.nd rfl (Or.inl rfl) (C8.pe_mk k_Posts hr (by decide) rfl (pa_cons (pv 9) pa_nil)))
      (pss_cons (ps_set (i := 6) sc__law_made.nd rfl (Or.inl rfl) (pe_op op_cat (pe_lst (pa_cons pe_str pa_nil)) (pe_lc (own := [("_law_posts", 16)]) rfl sc__law_made.nd (pi_list (pv 9)) (blkOk_by (own := [("_law_posts", 16)]) (N := n__law_made) (sc := defScope s__law_made) (by decide +kernel)) (fun _ _ _ _ _ => (pg_name (i := 16) sc__law_made.nd rfl (Or.inl rfl))) (fun _ _ _ _ _ => pts_nil) (fun _ _ _ _ _ => (pe_ifExp (pt_cmpR (op_neDK (K := K) rfl hr.units) (pv 16) (pe_lst pa_nil) (nomark _)) (pe_joinK (K := K) rfl pe_str (by exact pe_lc (own := [("_law_post", 17)]) rfl sc__law_made.nd (pi_listK (K := K) rfl (pv 16)) (blkOk_by (own := [("_law_post", 17)]) (N := n__law_made) (by rfl)) (fun _ _ _ _ _ => (pg_name (i := 17) sc__law_made.nd rfl (Or.inl rfl))) (fun _ _ _ _ _ => pts_nil) (fun _ _ _ _ _ => (pe_callTy call_str_int (by rfl) bstr (by decide +kernel) (pa_cons (pv 17) pa_nil))))) pe_str)))))
      (pss_cons (ps_expr (pe_bm0 PySem.F.plainAttrs_list PySem.F.slot_list_clear PySem.F.type_list_clear mt_clear (pv 9)))
      (pss_one (ps_ret (pe_tup (pa_cons (pv 5) (pa_cons (pe_joinK (K := K) rfl pe_str (pv 6)) pa_nil)))))))))) pss_nil)
      (pss_cons (ps_setLc (i := 12) (own := [("_law_k", 10)]) rfl sc__law_made.nd rfl rfl (sw_true rfl rfl rfl (by decide +kernel)) (pi_range1 rfl B.range_ (pa_cons (pv 1) pa_nil)) (blkOk_by (own := [("_law_k", 10)]) (N := n__law_made) (sc := defScope s__law_made) (by decide +kernel)) (fun _ _ _ _ _ => (pg_name (i := 10) sc__law_made.nd rfl (Or.inl rfl))) (fun _ _ _ _ _ => pts_nil) (fun _ _ _ _ _ => (pe_op op_mul (C8.pe_c c__law_draw hr (by first | decide | exact Nat.le_refl _ | omega) rfl (pa_cons (pe_op op_add (pv 0) (pe_op op_mul pe_int (pv 10))) (pa_cons pe_int (pa_cons pe_int pa_nil)))) (pe_op op_shl pe_int (C8.pe_c c__law_draw hr (by first | decide | exact Nat.le_refl _ | omega) rfl (pa_cons (pe_op op_add (pv 0) (pe_op op_mul pe_int (pv 10))) (pa_cons pe_int (pa_cons pe_int pa_nil))))))))
      (pss_cons (ps_set (i := 5) sc__law_made.nd rfl (Or.inl rfl) (C8.pe_mk k_Bits hr (by decide) rfl (pa_cons (pv 12) pa_nil)))
      (pss_cons (ps_set (i := 6) sc__law_made.nd rfl (Or.inl rfl) (pe_op op_cat (pe_lst (pa_cons pe_str pa_nil)) (pe_lc (own := [("_law_row", 18)]) rfl sc__law_made.nd (pi_list (pv 12)) (blkOk_by (own := [("_law_row", 18)]) (N := n__law_made) (sc := defScope s__law_made) (by decide +kernel)) (fun _ _ _ _ _ => (pg_name (i := 18) sc__law_made.nd rfl (Or.inl rfl))) (fun _ _ _ _ _ => pts_nil) (fun _ _ _ _ _ => (pe_callTy call_str_int (by rfl) bstr (by decide +kernel) (pa_cons (pv 18) pa_nil))))))
      (pss_cons (ps_expr (pe_bm0 PySem.F.plainAttrs_list PySem.F.slot_list_clear PySem.F.type_list_clear mt_clear (pv 12)))
      (pss_one (ps_ret (pe_tup (pa_cons (pv 5) (pa_cons (pe_joinK (K := K) rfl pe_str (pv 6)) pa_nil))))))))))))), ?_⟩
    have sz : sizeLine = 16777216 := rfl
    have lcol : (Str.ofString ":").length = 1 := len_colon
    have ldash : (Str.ofString "-").length = 1 := len_dash
    refine ⟨_, rfl, cell, 0, 4, rfl, by decide, by decide, by decide, ?_⟩
    refine ⟨_, rfl, rfl, _, rfl, ?_⟩
    refine ite2 (fun _ => ?_) (fun _ => ?_)
    · -- threads
      obtain ⟨m, hm, em⟩ := draw_nat (c := cell) (k := 1) (N := 20) (by decide)
      have eN : 1 + drawF cell 1 20 = ((1 + m : Nat) : Int) := by
        rw [show (20 : Int) = ((20 : Nat) : Int) from rfl, em]
        omega
      refine ⟨fun σ' H1 => σ' = [some (.int cell), some (nv n), some (V.int (drawF cell 0 4)), some (nv (1 + m)), none, none, none, none, none, none, none, none, none, none, none, none, none, none, none] ∧ H = H1, ?_, ?_⟩
      · refine ⟨_, rfl, cell, 1, 20, rfl, by decide, by decide, by decide, _, _, rfl, rfl, ?_, rfl⟩
        show _ = [some (V.int cell), some (nv n), some (V.int (drawF cell 0 4)), some (V.int (((1 + m : Nat)) : Int)), none, none, none, none, none, none, none, none, none, none, none, none, none, none, none]
        rw [← eN]
        rfl
      rintro _ _ ⟨rfl, rfl⟩
      refine ⟨_, rfl, _, rfl, by omega, by omega, fun D hD => lc_range (lo := 0) (n := (n : Int).toNat) (fun j H2 => Same H H2 ∧ ∃ ts es, H2 D = some (.lst (ts.map V.ref)) ∧ prs H2 ts es ∧ es.length = j ∧ Th.Bnd (1 + m) es)
        ⟨same_upd hD, [], [], upd_same, True.intro, rfl, fun _ h => by cases h⟩ ?_ ?_⟩
      · rintro j H2 hj ⟨s6, ts, es, hA, hts, el, hb⟩
        have jl : j < n := by omega
        obtain ⟨a1, l1, d1⟩ := draw_nat (c := cell + 31 * (0 + (j : Int))) (k := 2) (N := 1 + m) (by omega)
        obtain ⟨a2, l2, d2⟩ := draw_nat (c := cell + 37 * (0 + (j : Int))) (k := 3) (N := 1 + m) (by omega)
        refine ⟨rfl, yesT ?_⟩
        refine ⟨_, rfl, _, rfl, _, _, rfl, rfl, .inl ⟨by decide, by decide⟩, _, _, rfl, rfl, _, rfl, _, 2, _, rfl, by omega, by decide, by decide, _, rfl, _, rfl, _, _, rfl, rfl, .inl ⟨by decide, by decide⟩, _, _, rfl, rfl, _, rfl, _, 3, _, rfl, by omega, by decide, by decide, (by show 2 ≤ sizeLine; decide), fun u hu => ?_⟩
        have eT : HO.tup [V.int (drawF (cell + 31 * (0 + (j : Int))) 2 ((1 + m : Nat) : Int)), V.int (drawF (cell + 37 * (0 + (j : Int))) 3 ((1 + m : Nat) : Int))] = HO.tup [nv a1, nv a2] := by rw [d1, d2]
        have su : Same H2 (upd H2 u (.tup [V.int (drawF (cell + 31 * (0 + (j : Int))) 2 ((1 + m : Nat) : Int)), V.int (drawF (cell + 37 * (0 + (j : Int))) 3 ((1 + m : Nat) : Int))])) := same_upd hu
        have hU : (upd H2 u (HO.tup [V.int (drawF (cell + 31 * (0 + (j : Int))) 2 ((1 + m : Nat) : Int)), V.int (drawF (cell + 37 * (0 + (j : Int))) 3 ((1 + m : Nat) : Int))])) u = some (.tup [nv a1, nv a2]) := by
          rw [eT]
          exact upd_same
        refine ⟨_, su _ _ hA, ?_, same_to (s6.trans su) hD, ts ++ [u], es ++ [(a1, a2)], ?_, ?_, by rw [List.length_append, el]; rfl, fun e he => ?_⟩
        · rw [List.length_map, hts.len, el]
          exact small1000 (by omega)
        · rw [List.map_append]
          exact upd_same
        · exact (prs.put (e := (a1, a2)) hU (hts.same su)).upd (su _ _ hA) (by intro xs z; cases z)
        · rcases List.mem_append.mp he with r | r
          · exact hb e r
          · rw [List.mem_singleton.mp r]
            exact ⟨l1, l2⟩
      · rintro H2 ⟨s6, ts, es, hA, hts, el, hb⟩
        rw [Int.toNat_natCast] at el
        refine ⟨_, rfl, _, rfl, ?_⟩
        intro x dx nx ndx ne
        have sm := made_same (C := c.t) nx ndx
        refine ⟨x, dx, D, 1 + m, ts, es, rfl, upd_same, sm _ _ hA, hts.same sm, by omega, by omega, by omega, hb, fun H4 keep at4 => ⟨rfl, ?_⟩⟩
        have s24 : Same H2 H4 := Same.made nx ndx fun b o e nb => keep b o nb e
        have ok : (SD.th (1 + m) es).Ok := ⟨by omega, by omega, hb, by omega⟩
        have at4 : (SD.th (1 + m) es).At c H4 x := at4
        have smal := ok.small
        have nl := Tx.num_len smal.1
        have nl : (Str.ofString (toString (((1 + m : Nat)) : Int))).length ≤ 10 := nl
        have tlen : (Str.ofString "threads ").length = 8 := by rw [TL.len_tl, TL.tl_ofString]; rfl
        refine ⟨_, rfl, _, rfl, log_small smal.1, _, _, rfl, rfl, by rw [tlen]; omega, _, _, rfl, rfl, by rw [Tx.append_len, tlen]; omega, (by show 1 ≤ sizeLine; decide), fun u hu => ?_⟩
        have eh := th_head (1 + m) es
        rw [eh] at *
        have su : Same H4 (upd H4 u (.lst [V.str ((SD.th (1 + m) es).head ++ Tx.colon)])) := same_upd hu
        have hU : (upd H4 u (HO.lst [V.str ((SD.th (1 + m) es).head ++ Tx.colon)])) u = some (.lst [V.str ((SD.th (1 + m) es).head ++ Tx.colon)]) := upd_same
        generalize upd H4 u (HO.lst [V.str ((SD.th (1 + m) es).head ++ Tx.colon)]) = H5 at su hU ⊢
        have s25 := s24.trans su
        have hA5 := s25 _ _ hA
        have hts5 := hts.same s25
        refine ⟨_, rfl, D, rfl, ⟨_, SqL.of hA5⟩, fun D2 hD2 => lc_list (K := K) (a := D) (xs := ts.map V.ref) (fun i H' => Same H5 H' ∧ H' D2 = some (.lst (((es.take i).map Tx.tie).map V.str)))
          ⟨same_upd hD2, upd_same⟩ (fun i H' _ p => SqL.of (p.1 _ _ hA5)) ?_ ?_⟩
        · rintro i y H' hi ⟨s7, hB⟩
          obtain ⟨tp, et, rfl⟩ := map_at hi
          obtain ⟨e, ee, hte⟩ := hts5.at et
          obtain ⟨e1, e2⟩ := smal.2 e (List.mem_of_getElem? ee)
          have n1 : (Str.ofString (toString ((e.1 : Nat) : Int))).length ≤ 10 := Tx.num_len e1
          have n2 : (Str.ofString (toString ((e.2 : Nat) : Int))).length ≤ 10 := Tx.num_len e2
          have hte' := s7 _ _ hte
          refine ⟨rfl, yesT ?_⟩
          refine ⟨_, rfl, tp, _, _, _, rfl, rfl, SqT.of hte', rfl, (e.1 : Int), rfl, log_small e1, _, _, rfl, rfl, by omega, _, rfl, tp, _, _, _, rfl, rfl, SqT.of hte', rfl, (e.2 : Int), rfl, log_small e2, _, _, rfl, rfl, by rw [Tx.append_len]; omega, _, hB, ?_, same_to s7 hD2, ?_⟩
          · rw [List.length_map, List.length_map]
            exact small1000 (Nat.le_trans (by rw [List.length_take]; omega) (by omega : es.length ≤ 1000))
          · rw [take_more ee, List.map_append, List.map_append]
            exact upd_same
        · rintro H6 ⟨s56, hB⟩
          rw [List.length_map, hts.len, List.take_length] at hB
          refine ⟨u, D2, _, _, rfl, rfl, s56 _ _ hU, hB, ?_, fun v hv => ?_⟩
          · rw [List.length_map, List.length_map]
            show 1 + es.length ≤ sizeLine
            omega
          have s67 : Same H6 (upd H6 v (.lst ([V.str ((SD.th (1 + m) es).head ++ Tx.colon)] ++ (es.map Tx.tie).map V.str))) := same_upd hv
          have hV : (upd H6 v (HO.lst ([V.str ((SD.th (1 + m) es).head ++ Tx.colon)] ++ (es.map Tx.tie).map V.str))) v = some (.lst ((((SD.th (1 + m) es).head ++ Tx.colon) :: (SD.th (1 + m) es).words).map V.str)) := upd_same
          generalize upd H6 v (HO.lst ([V.str ((SD.th (1 + m) es).head ++ Tx.colon)] ++ (es.map Tx.tie).map V.str)) = H7 at s67 hV ⊢
          have s57 := s56.trans s67
          have s47 := su.trans s57
          have hA7 := s57 _ _ hA5
          refine ⟨_, rfl, .inl ⟨rfl, _, SqL.of hA7⟩, D, _, rfl, rfl, hA7, ?_⟩
          have nDv : v ≠ D := fun z => by
            rw [z, hA7] at hV
            injection hV with hV
            injection hV with hV
            cases ts with
            | nil => cases hV
            | cons t r => injection hV with z _; cases z
          have hV8 : (upd H7 D (HO.lst [])) v = some (.lst ((((SD.th (1 + m) es).head ++ Tx.colon) :: (SD.th (1 + m) es).words).map V.str)) := by rw [upd_ne nDv]; exact hV
          have at8 := (at4.same s47).wipe (o := .lst []) hA7
          have sH : Same H (upd H7 D (.lst [])) := same_to (s6.trans (s24.trans s47)) hD
          generalize upd H7 D (HO.lst []) = H8 at hV8 at8 sH ⊢
          refine ⟨_, rfl, ⟨_, rfl⟩, _, rfl, _, v, _, rfl, rfl, .inl (SqL.of hV8), told_size ok, (by show 2 ≤ sizeLine; decide), fun r hr' => ?_⟩
          exact q _ r x (.th (1 + m) es) (sH.trans (same_upd hr')) (sH.free hr') upd_same el ok (at8.same (same_upd hr'))
    refine ⟨_, rfl, rfl, _, rfl, ?_⟩
    refine ite2 (fun _ => ?_) (fun _ => ?_)
    · -- kinds
      obtain ⟨m, hm, em⟩ := draw_nat (c := cell) (k := 4) (N := 5) (by decide)
      obtain ⟨L, eL, L5, Lp⟩ : ∃ L : Nat, drawF cell 4 5 + (if decide ((0 : Int) < (n : Int)) = true then 1 else 0) = ((L : Nat) : Int) ∧ L ≤ 5 ∧ (0 < n → 0 < L) := by
        rw [show (5 : Int) = ((5 : Nat) : Int) from rfl, em]
        by_cases z : 0 < n
        · refine ⟨m + 1, ?_, by omega, fun _ => by omega⟩
          rw [decide_eq_true (by omega : (0 : Int) < (n : Int)), if_pos rfl]
          omega
        · refine ⟨m, ?_, by omega, fun k => absurd k z⟩
          rw [decide_eq_false (by omega : ¬ (0 : Int) < (n : Int)), if_neg Bool.false_ne_true]
          omega
      refine ⟨_, rfl, cell, 4, 5, rfl, by decide, by decide, by decide, _, rfl, _, _, rfl, rfl, .inr ⟨_, rfl, _, _, rfl, rfl, (L : Int), ?_, by omega, by omega, fun D hD => lc_range (lo := 0) (n := (L : Int).toNat) (fun j H2 => Same H H2 ∧ ∃ ms : List Nat, H2 D = some (.lst (ms.map nv)) ∧ ms.length = j ∧ ∀ x ∈ ms, x ≤ 16)
        ⟨same_upd hD, [], upd_same, rfl, fun _ h => by cases h⟩ ?_ ?_⟩⟩
      · exact congrArg (fun i => [V.int i]) eL
      · rintro j H2 hj ⟨s6, ms, hA, el, hb⟩
        rw [Int.toNat_natCast] at hj
        obtain ⟨a1, l1, d1⟩ := draw_nat (c := cell + 17 * (0 + (j : Int))) (k := 5) (N := 17) (by decide)
        refine ⟨rfl, yesT ?_⟩
        refine ⟨_, rfl, _, rfl, _, _, rfl, rfl, .inl ⟨by decide, by decide⟩, _, _, rfl, rfl, _, 5, 17, rfl, by decide, by decide, by decide, _, hA, by rw [List.length_map]; exact small1000 (by omega), same_to s6 hD, ms ++ [a1], ?_, by rw [List.length_append, el]; rfl, fun x hx => ?_⟩
        · rw [List.map_append]
          refine upd_same.trans ?_
          show some (HO.lst (_ ++ [V.int (drawF (cell + 17 * (0 + (j : Int))) 5 ((17 : Nat) : Int))])) = _
          rw [d1]
          rfl
        · rcases List.mem_append.mp hx with r | r
          · exact hb x r
          · rw [List.mem_singleton.mp r]
            omega
      rintro H2 ⟨s6, ms, hA, ml, mb⟩
      rw [Int.toNat_natCast] at ml
      refine ⟨_, rfl, _, rfl, by omega, by omega, fun D2 hD2 => lc_range (lo := 0) (n := (n : Int).toNat) (fun j H3 => Same H2 H3 ∧ ∃ ks : List Nat, H3 D2 = some (.lst (ks.map nv)) ∧ ks.length = j ∧ ∀ x ∈ ks, x < ms.length)
        ⟨same_upd hD2, [], upd_same, rfl, fun _ h => by cases h⟩ ?_ ?_⟩
      · rintro j H3 hj ⟨s7, ks, hB, kl, kb⟩
        have jl : j < n := by omega
        have lp := Lp (by omega)
        obtain ⟨a1, l1, d1⟩ := draw_nat (c := cell + 31 * (0 + (j : Int))) (k := 6) (N := ms.length) (by omega)
        refine ⟨rfl, yesT ?_⟩
        refine ⟨_, rfl, _, rfl, _, _, rfl, rfl, .inl ⟨by decide, by decide⟩, _, _, rfl, rfl, _, rfl, D, _, rfl, .inl (SqL.of (s7 _ _ hA)), cell + 31 * (0 + (j : Int)), 6, ((ms.length : Nat) : Int), ?_, by omega, by decide, by decide, _, hB, by rw [List.length_map]; exact small1000 (by omega), same_to s7 hD2, ks ++ [a1], ?_, by rw [List.length_append, kl]; rfl, fun x hx => ?_⟩
        · rw [List.length_map]
          rfl
        · rw [List.map_append]
          refine upd_same.trans ?_
          show some (HO.lst (_ ++ [V.int (drawF (cell + 31 * (0 + (j : Int))) 6 ((ms.length : Nat) : Int))])) = _
          rw [d1]
          rfl
        · rcases List.mem_append.mp hx with r | r
          · exact kb x r
          · rw [List.mem_singleton.mp r]
            exact l1
      rintro H3 ⟨s7, ks, hB, kl, kb⟩
      rw [Int.toNat_natCast] at kl
      have hA3 := s7 _ _ hA
      refine ⟨_, rfl, _, rfl, ?_⟩
      intro x dx nx ndx ne
      have sm := made_same (C := c.k) nx ndx
      refine ⟨x, dx, D2, D, ks, ms, rfl, upd_same, sm _ _ hB, sm _ _ hA3, by omega, by omega, ⟨kb, mb⟩, fun H4 keep at4 => ⟨rfl, ?_⟩⟩
      have s34 : Same H3 H4 := Same.made nx ndx fun b o e nb => keep b o nb e
      have ok : (SD.ki ks ms).Ok := ⟨⟨kb, mb⟩, by omega, by omega⟩
      have at4 : (SD.ki ks ms).At c H4 x := at4
      have smal := ok.small
      obtain ⟨_, hl, _⟩ := txt_len ok
      have hA4 := s34 _ _ hA3
      have hB4 := s34 _ _ hB
      refine ⟨⟨_, rfl⟩, (by show 1 ≤ sizeLine; decide), fun u hu => ?_⟩
      have su : Same H4 (upd H4 u (.lst [V.str (Str.ofString "kinds")])) := same_upd hu
      have hU : (upd H4 u (HO.lst [V.str (Str.ofString "kinds")])) u = some (.lst [V.str (Str.ofString "kinds")]) := upd_same
      generalize upd H4 u (HO.lst [V.str (Str.ofString "kinds")]) = H5 at su hU ⊢
      have hA5 := su _ _ hA4
      refine ⟨_, rfl, D, rfl, ⟨_, SqL.of hA5⟩, fun D3 hD3 => lc_list (K := K) (a := D) (xs := ms.map nv) (fun i H' => Same H5 H' ∧ H' D3 = some (.lst (((ms.take i).map Tx.num).map V.str)))
        ⟨same_upd hD3, upd_same⟩ (fun i H' _ p => SqL.of (p.1 _ _ hA5)) ?_ ?_⟩
      · rintro i y H' hi ⟨s8, hC⟩
        obtain ⟨e, ee, rfl⟩ := map_at hi
        refine ⟨rfl, yesT ?_⟩
        refine ⟨_, rfl, (e : Int), rfl, log_small (smal.2 e (List.mem_of_getElem? ee)), _, hC, ?_, same_to s8 hD3, ?_⟩
        · rw [List.length_map, List.length_map]
          exact small1000 (Nat.le_trans (by rw [List.length_take]; omega) (by omega : ms.length ≤ 1000))
        · rw [take_more ee, List.map_append, List.map_append]
          exact upd_same
      rintro H6 ⟨s56, hC⟩
      rw [List.length_map, List.take_length] at hC
      refine ⟨u, D3, _, _, rfl, rfl, s56 _ _ hU, hC, ?_, fun v hv => ?_⟩
      · rw [List.length_map, List.length_map]
        show 1 + ms.length ≤ sizeLine
        omega
      have s67 : Same H6 (upd H6 v (.lst ([V.str (Str.ofString "kinds")] ++ (ms.map Tx.num).map V.str))) := same_upd hv
      have hV : (upd H6 v (HO.lst ([V.str (Str.ofString "kinds")] ++ (ms.map Tx.num).map V.str))) v = some (.lst ((SD.ki ks ms).headW.map V.str)) := upd_same
      generalize upd H6 v (HO.lst ([V.str (Str.ofString "kinds")] ++ (ms.map Tx.num).map V.str)) = H7 at s67 hV ⊢
      have s57 := s56.trans s67
      have s47 := su.trans s57
      refine ⟨_, v, _, rfl, rfl, .inl (SqL.of hV), size_small (Nat.le_of_eq len_blank) (SD.headW_len smal) (by have := SD.headW_count ok; omega), _, _, rfl, rfl, ?_, (by show 1 ≤ sizeLine; decide), fun u2 hu2 => ?_⟩
      · show (SD.ki ks ms).head.length + (Str.ofString ":").length ≤ sizeLine
        omega
      have su2 : Same H7 (upd H7 u2 (.lst [V.str ((SD.ki ks ms).head ++ Tx.colon)])) := same_upd hu2
      have hU2 : (upd H7 u2 (HO.lst [V.str (Txt.join (Str.ofString " ") (SD.ki ks ms).headW ++ Str.ofString ":")])) u2 = some (.lst [V.str ((SD.ki ks ms).head ++ Tx.colon)]) := upd_same
      have su2 : Same H7 (upd H7 u2 (HO.lst [V.str (Txt.join (Str.ofString " ") (SD.ki ks ms).headW ++ Str.ofString ":")])) := su2
      generalize upd H7 u2 (HO.lst [V.str (Txt.join (Str.ofString " ") (SD.ki ks ms).headW ++ Str.ofString ":")]) = H8 at su2 hU2 ⊢
      have s48 := s47.trans su2
      have hB8 := s48 _ _ hB4
      refine ⟨_, rfl, D2, rfl, ⟨_, SqL.of hB8⟩, fun D4 hD4 => lc_list (K := K) (a := D2) (xs := ks.map nv) (fun i H' => Same H8 H' ∧ H' D4 = some (.lst (((ks.take i).map Tx.num).map V.str)))
        ⟨same_upd hD4, upd_same⟩ (fun i H' _ p => SqL.of (p.1 _ _ hB8)) ?_ ?_⟩
      · rintro i y H' hi ⟨s9, hC⟩
        obtain ⟨e, ee, rfl⟩ := map_at hi
        refine ⟨rfl, yesT ?_⟩
        refine ⟨_, rfl, (e : Int), rfl, log_small (smal.1 e (List.mem_of_getElem? ee)), _, hC, ?_, same_to s9 hD4, ?_⟩
        · rw [List.length_map, List.length_map]
          exact small1000 (Nat.le_trans (by rw [List.length_take]; omega) (by omega : ks.length ≤ 1000))
        · rw [take_more ee, List.map_append, List.map_append]
          exact upd_same
      rintro H9 ⟨s89, hC9⟩
      rw [List.length_map, List.take_length] at hC9
      refine ⟨u2, D4, _, _, rfl, rfl, s89 _ _ hU2, hC9, ?_, fun v2 hv2 => ?_⟩
      · rw [List.length_map, List.length_map]
        show 1 + ks.length ≤ sizeLine
        omega
      have s9a : Same H9 (upd H9 v2 (.lst ([V.str ((SD.ki ks ms).head ++ Tx.colon)] ++ (ks.map Tx.num).map V.str))) := same_upd hv2
      have hV2 : (upd H9 v2 (HO.lst ([V.str ((SD.ki ks ms).head ++ Tx.colon)] ++ (ks.map Tx.num).map V.str))) v2 = some (.lst ((((SD.ki ks ms).head ++ Tx.colon) :: (SD.ki ks ms).words).map V.str)) := upd_same
      generalize upd H9 v2 (HO.lst ([V.str ((SD.ki ks ms).head ++ Tx.colon)] ++ (ks.map Tx.num).map V.str)) = Ha at s9a hV2 ⊢
      have s4a := s48.trans (s89.trans s9a)
      have hAa := s4a _ _ hA4
      refine ⟨_, rfl, .inl ⟨rfl, _, SqL.of hAa⟩, D, _, rfl, rfl, hAa, ?_⟩
      have nDv : v2 ≠ D := fun z => by
        rw [z, hAa] at hV2
        injection hV2 with hV2
        injection hV2 with hV2
        cases ms with
        | nil => cases hV2
        | cons t r => injection hV2 with z _; cases z
      have hVb : (upd Ha D (HO.lst [])) v2 = some (.lst ((((SD.ki ks ms).head ++ Tx.colon) :: (SD.ki ks ms).words).map V.str)) := by rw [upd_ne nDv]; exact hV2
      have atb := (at4.same s4a).wipe (o := .lst []) hAa
      have sH : Same H (upd Ha D (.lst [])) := same_to (s6.trans (s7.trans (s34.trans s4a))) hD
      generalize upd Ha D (HO.lst []) = Hb at hVb atb sH ⊢
      refine ⟨_, rfl, ⟨_, rfl⟩, _, rfl, _, v2, _, rfl, rfl, .inl (SqL.of hVb), told_size ok, (by show 2 ≤ sizeLine; decide), fun r hr' => ?_⟩
      exact q _ r x (.ki ks ms) (sH.trans (same_upd hr')) (sH.free hr') upd_same kl ok (atb.same (same_upd hr'))
    refine ⟨_, rfl, rfl, _, rfl, ?_⟩
    refine ite2 (fun _ => ?_) (fun _ => ?_)
    · -- posts
      refine ⟨Nat.zero_le _, fun R hR => ?_⟩
      refine ⟨_, rfl, _, rfl, by omega, by omega, for_range (lo := 0) (n := (n : Int).toNat) (fun i σ H' => ∃ (vk vf : Option V) (ts : List Addr) (ws : List (List Nat)), σ = [some (.int cell), some (nv n), some (V.int (drawF cell 0 4)), none, none, none, none, none, none, some (.ref R), vk, vf, none, none, none, none, none, none, none] ∧ Same H H' ∧
          H' R = some (.lst (ts.map V.ref)) ∧ rws .lst H' ts ws ∧ R ∉ ts ∧ ws.length = i ∧ (∀ v ∈ ws, Po.PostsOk v))
        ⟨none, none, [], [], rfl, same_upd hR, upd_same, True.intro, (fun h => by cases h), rfl, (fun r h => by cases h)⟩ ?_ ?_⟩
      · rintro i σ H' hi ⟨vk, vf, ts, ws, rfl, s5, hL, hts, nR, hws, hok⟩
        have hi' : i < n := by omega
        have tl : ts.length = i := by rw [hts.len, hws]
        obtain ⟨st, hst, est⟩ := draw_nat (c := cell + 41 * (0 + (i : Int))) (k := 1) (N := 25) (by decide)
        refine ⟨fun σ' H1 => σ' = [some (.int cell), some (nv n), some (V.int (drawF cell 0 4)), none, none, none, none, none, none, some (.ref R), some (V.int (0 + (i : Int))), some (nv st), none, none, none, none, none, none, none] ∧ H' = H1, ?_, ?_⟩
        · refine ⟨_, rfl, _, rfl, _, _, rfl, rfl, .inl ⟨by decide, by decide⟩, _, _, rfl, rfl, _, 1, 25, rfl, by decide, by decide, by decide, ?_, rfl⟩
          show _ = [some (V.int cell), some (nv n), some (V.int (drawF cell 0 4)), none, none, none, none, none, none, some (.ref R), some (V.int (0 + (i : Int))), some (V.int ((st : Nat) : Int)), none, none, none, none, none, none, none]
          rw [← est]
          rfl
        rintro _ _ ⟨rfl, rfl⟩
        refine ⟨_, rfl, .inl ⟨rfl, _, SqL.of hL⟩, 7, rfl, by decide, by decide, fun D hD => lc_range (lo := 0) (n := (7 : Int).toNat) (fun j H2 => ∃ qs : List Nat, Same H' H2 ∧ H2 D = some (.lst (qs.map nv)) ∧ (∀ q ∈ qs, st ≤ q ∧ q < st + j) ∧ qs.Nodup ∧ qs.length ≤ j)
          ⟨[], same_upd hD, upd_same, (fun q h => by cases h), List.nodup_nil, Nat.le_refl _⟩ ?_ ?_⟩
        · rintro j H2 hj ⟨qs, s6, hq, qb, qn, ql⟩
          have j5 : j < 7 := hj
          refine ⟨rfl, ?_⟩
          refine ⟨_, rfl, _, rfl, _, _, rfl, rfl, .inl ⟨by decide, by decide⟩, _, _, rfl, rfl, _, rfl, _, _, rfl, rfl, .inl ⟨by decide, by decide⟩, _, _, rfl, rfl, _, 7, 3, rfl, by decide, by decide, by decide, rfl, _, rfl, ?_⟩
          refine ite2 (fun _ => ?_) (fun _ => ?_)
          · refine ⟨_, rfl, _, rfl, _, _, rfl, rfl, _, hq, by rw [List.length_map]; exact small1000 (by omega), qs ++ [st + j], same_to s6 hD, ?_, fun q hq' => ?_, ?_, ?_⟩
            · rw [List.map_append]
              refine upd_same.trans ?_
              show some (HO.lst (_ ++ [V.int ((st : Int) + (0 + (j : Int)))])) = _
              rw [show ((st : Int) + (0 + (j : Int))) = ((st + j : Nat) : Int) by omega]
              rfl
            · rcases List.mem_append.mp hq' with e | e
              · have := qb q e
                omega
              · rw [List.mem_singleton.mp e]
                omega
            · rw [List.nodup_append]
              refine ⟨qn, by simp, fun x hx y hy => ?_⟩
              rw [List.mem_singleton.mp hy]
              have := qb x hx
              omega
            · rw [List.length_append]
              show qs.length + 1 ≤ j + 1
              omega
          · exact ⟨qs, s6, hq, fun q hq' => (by have := qb q hq'; omega), qn, by omega⟩
        · rintro H2 ⟨qs, s6, hq, qb, qn, ql⟩
          have q7 : ∀ q ∈ qs, st ≤ q ∧ q < st + 7 := qb
          refine ⟨D, _, rfl, SqL.of hq, fun D3 hD3 => ?_⟩
          have s3 : Same H2 (upd H2 D3 (.lst (qs.map nv).reverse)) := same_upd hD3
          have h3 : (upd H2 D3 (HO.lst (qs.map nv).reverse)) D3 = some (.lst (qs.reverse.map nv)) := by
            rw [List.map_reverse]
            exact upd_same
          generalize upd H2 D3 (HO.lst (qs.map nv).reverse) = H3 at s3 h3 ⊢
          have hL3 := s3 _ _ (s6 _ _ hL)
          have nDR : R ≠ D3 := ne_of_none (s6 _ _ hL) hD3
          have nR2 : R ∉ ts ++ [D3] := fun h => by
            rcases List.mem_append.mp h with e | e
            · exact nR e
            · exact nDR (List.mem_singleton.mp e)
          refine ⟨R, _, _, rfl, rfl, hL3, by rw [List.length_map]; exact small1000 (by omega), ?_⟩
          refine ⟨_, _, ts ++ [D3], ws ++ [qs.reverse], rfl, same_to (s5.trans (s6.trans s3)) hR, ?_, (rws.put h3 (hts.same (s6.trans s3))).upd nR2, nR2, by rw [List.length_append, hws]; rfl, fun v hv => ?_⟩
          · rw [List.map_append]
            exact upd_same
          · rcases List.mem_append.mp hv with e | e
            · exact hok v e
            · rw [List.mem_singleton.mp e]
              exact ⟨fun y hy => (by have := q7 y (List.mem_reverse.mp hy); omega), (List.reverse_perm qs).nodup_iff.mpr qn⟩
      · rintro σ H1 ⟨vk, vf, ts, ws, rfl, s5, hL, hts, nR, hws, hok⟩
        rw [Int.toNat_natCast] at hws
        have tl : ts.length = n := by rw [hts.len, hws]
        refine ⟨_, rfl, ?_⟩
        intro x dx nx ndx ne
        have sm := made_same (C := c.p) nx ndx
        refine ⟨x, dx, R, ts, ws, rfl, upd_same, sm _ _ hL, hts.same sm, by omega, hok, fun H4 keep at4 => ⟨rfl, ?_⟩⟩
        have s14 : Same H1 H4 := Same.made nx ndx fun b o e nb => keep b o nb e
        have ok : (SD.po ws).Ok := ⟨hok, by omega⟩
        have at4 : (SD.po ws).At c H4 x := at4
        have smal := ok.small
        refine ⟨(by show 1 ≤ sizeLine; decide), fun u hu => ?_⟩
        have eh := po_head ws
        have su : Same H4 (upd H4 u (.lst [V.str (Str.ofString "posts:")])) := same_upd hu
        have hU : (upd H4 u (HO.lst [V.str (Str.ofString "posts:")])) u = some (.lst [V.str ((SD.po ws).head ++ Tx.colon)]) := by rw [← eh]; exact upd_same
        generalize upd H4 u (HO.lst [V.str (Str.ofString "posts:")]) = H5 at su hU ⊢
        have s15 := s14.trans su
        have hL5 := s15 _ _ hL
        have hts5 := hts.same s15
        refine ⟨_, rfl, R, rfl, ⟨_, SqL.of hL5⟩, fun D2 hD2 => lc_list (K := K) (a := R) (xs := ts.map V.ref) (fun i H' => Same H5 H' ∧ H' D2 = some (.lst (((ws.take i).map Tx.want).map V.str)))
          ⟨same_upd hD2, upd_same⟩ (fun i H' _ p => SqL.of (p.1 _ _ hL5)) ?_ ?_⟩
        · rintro i y H' hi ⟨s7, hB⟩
          obtain ⟨tp, et, rfl⟩ := map_at hi
          obtain ⟨e, ee, hte⟩ := hts5.at et
          obtain ⟨e1, e2⟩ := smal e (List.mem_of_getElem? ee)
          have lim : (((ws.take i).map Tx.want).map V.str).length < sizeLine := by
            rw [List.length_map, List.length_map]
            exact small1000 (Nat.le_trans (by rw [List.length_take]; omega) (by omega : ws.length ≤ 1000))
          refine ⟨rfl, yesT ?_⟩
          refine ⟨_, rfl, Nat.zero_le _, fun z0 nz0 => ?_⟩
          have sz0 : Same H' (upd H' z0 (.lst [])) := same_upd nz0
          refine ⟨_, _, dp_row (sz0 _ _ (s7 _ _ hte)), Dp.lst (SqL.of upd_same) .nil, rd_shaped e, by decide +kernel, decide (e ≠ []), ?_, ?_⟩
          · exact congrArg V.bl (row_nil e)
          generalize upd H' z0 (HO.lst []) = Hz at sz0 ⊢
          have hte' := sz0 _ _ (s7 _ _ hte)
          have hB' := sz0 _ _ hB
          have s7' := s7.trans sz0
          by_cases z : e = []
          · rw [show decide (e ≠ []) = false by simp [z]]
            refine iteF ⟨_, hB', lim, same_to s7' hD2, ?_⟩
            rw [take_more ee, List.map_append, List.map_append, show [e].map Tx.want = [Tx.dash] by rw [z]; rfl]
            exact upd_same
          · rw [show decide (e ≠ []) = true by simp [z]]
            refine iteT ⟨⟨_, rfl⟩, _, rfl, tp, rfl, ⟨_, SqL.of hte'⟩, fun D5 hD5 => lc_list (K := K) (a := tp) (xs := e.map nv) (fun i H'' => Same Hz H'' ∧ H'' D5 = some (.lst (((e.take i).map Tx.num).map V.str)))
              ⟨same_upd hD5, upd_same⟩ (fun i H'' _ p => SqL.of (p.1 _ _ hte')) ?_ ?_⟩
            · rintro i2 y2 H'' hi2 ⟨s9, hC⟩
              obtain ⟨p2, ep, rfl⟩ := map_at hi2
              refine ⟨rfl, yesT ?_⟩
              refine ⟨_, rfl, (p2 : Int), rfl, log_small (e2 p2 (List.mem_of_getElem? ep)), _, hC, ?_, same_to s9 hD5, ?_⟩
              · rw [List.length_map, List.length_map]
                exact small1000 (Nat.le_trans (by rw [List.length_take]; omega) (by omega : e.length ≤ 1000))
              · rw [take_more ep, List.map_append, List.map_append]
                exact upd_same
            rintro H9 ⟨s9, hC⟩
            rw [List.length_map, List.take_length] at hC
            refine ⟨_, D5, e.map Tx.num, rfl, rfl, .inl (SqL.of hC), size_small (k := 10) (Nat.le_of_eq len_comma) (fun p hp => ?_) (by rw [List.length_map]; omega), _, s9 _ _ hB', lim, same_to (s7'.trans s9) hD2, ?_⟩
            · obtain ⟨n, hn, rfl⟩ := List.mem_map.mp hp
              exact Tx.num_len (e2 n hn)
            · rw [take_more ee, List.map_append, List.map_append, show [e].map Tx.want = [Txt.join Tx.comma (e.map Tx.num)] by show [Tx.want e] = _; unfold Tx.want; rw [if_neg z]]
              exact upd_same
        · rintro H6 ⟨s56, hB⟩
          rw [List.length_map, hts.len, List.take_length] at hB
          refine ⟨u, D2, _, _, rfl, rfl, s56 _ _ hU, hB, ?_, fun v hv => ?_⟩
          · rw [List.length_map, List.length_map]
            show 1 + ws.length ≤ sizeLine
            omega
          have s67 : Same H6 (upd H6 v (.lst ([V.str ((SD.po ws).head ++ Tx.colon)] ++ (ws.map Tx.want).map V.str))) := same_upd hv
          have hV : (upd H6 v (HO.lst ([V.str ((SD.po ws).head ++ Tx.colon)] ++ (ws.map Tx.want).map V.str))) v = some (.lst ((((SD.po ws).head ++ Tx.colon) :: (SD.po ws).words).map V.str)) := upd_same
          generalize upd H6 v (HO.lst ([V.str ((SD.po ws).head ++ Tx.colon)] ++ (ws.map Tx.want).map V.str)) = H7 at s67 hV ⊢
          have s57 := s56.trans s67
          have s47 := su.trans s57
          have hL7 := s57 _ _ hL5
          refine ⟨_, rfl, .inl ⟨rfl, _, SqL.of hL7⟩, R, _, rfl, rfl, hL7, ?_⟩
          have nDv : v ≠ R := fun z => by
            rw [z, hL7] at hV
            injection hV with hV
            injection hV with hV
            cases ts with
            | nil => cases hV
            | cons t r => injection hV with z _; cases z
          have hV8 : (upd H7 R (HO.lst [])) v = some (.lst ((((SD.po ws).head ++ Tx.colon) :: (SD.po ws).words).map V.str)) := by rw [upd_ne nDv]; exact hV
          have at8 := (at4.same s47).wipe (o := .lst []) hL7
          have sH : Same H (upd H7 R (.lst [])) := same_to (s5.trans (s14.trans s47)) hR
          generalize upd H7 R (HO.lst []) = H8 at hV8 at8 sH ⊢
          refine ⟨_, rfl, ⟨_, rfl⟩, _, rfl, _, v, _, rfl, rfl, .inl (SqL.of hV8), told_size ok, (by show 2 ≤ sizeLine; decide), fun r hr' => ?_⟩
          exact q _ r x (.po ws) (sH.trans (same_upd hr')) (sH.free hr') upd_same hws ok (at8.same (same_upd hr'))
    · -- bits
      refine ⟨_, rfl, _, rfl, by omega, by omega, fun D hD => lc_range (lo := 0) (n := (n : Int).toNat) (fun j H2 => Same H H2 ∧ ∃ rows : List Nat, H2 D = some (.lst (rows.map nv)) ∧ rows.length = j ∧ ∀ r ∈ rows, r < 2 ^ 32)
        ⟨same_upd hD, [], upd_same, rfl, fun _ h => by cases h⟩ ?_ ?_⟩
      · rintro j H2 hj ⟨s6, rows, hA, el, hb⟩
        have jl : j < n := by omega
        obtain ⟨a1, l1, d1⟩ := draw_nat (c := cell + 31 * (0 + (j : Int))) (k := 2) (N := 65536) (by decide)
        obtain ⟨sh, hsh, esh⟩ := draw_nat (c := cell + 29 * (0 + (j : Int))) (k := 3) (N := 17) (by decide)
        have p16 : 2 ^ sh ≤ 2 ^ 16 := Nat.pow_le_pow_right (n := 2) (by decide) (by omega)
        refine ⟨rfl, yesT ?_⟩
        refine ⟨_, rfl, _, rfl, _, _, rfl, rfl, .inl ⟨by decide, by decide⟩, _, _, rfl, rfl, _, 2, 65536, rfl, by decide, by decide, by decide, _, rfl, _, rfl, _, _, rfl, rfl, .inl ⟨by decide, by decide⟩, _, _, rfl, rfl, _, 3, 17, rfl, by decide, by decide, by decide, _, _, rfl, rfl, ⟨drawF_lo (by decide), ?_, by decide⟩, _, _, rfl, rfl, ?_, _, hA, by rw [List.length_map]; exact small1000 (by omega), same_to s6 hD, rows ++ [a1 * 2 ^ sh], ?_, by rw [List.length_append, el]; rfl, fun x hx => ?_⟩
        · have := drawF_hi (c := cell + 29 * (0 + (j : Int))) (k := 3) (m := 17) (by decide)
          omega
        · have h0 := drawF_lo (c := cell + 31 * (0 + (j : Int))) (k := 2) (m := 65536) (by decide)
          have h1 := drawF_hi (c := cell + 31 * (0 + (j : Int))) (k := 2) (m := 65536) (by decide)
          exact .inl ⟨by show _ < drawF (cell + 31 * (0 + (j : Int))) 2 65536; omega, by show drawF (cell + 31 * (0 + (j : Int))) 2 65536 < _; omega⟩
        · rw [List.map_append]
          refine upd_same.trans ?_
          show some (HO.lst (_ ++ [V.int (drawF (cell + 31 * (0 + (j : Int))) 2 ((65536 : Nat) : Int) * (1 * 2 ^ (drawF (cell + 29 * (0 + (j : Int))) 3 ((17 : Nat) : Int)).toNat))])) = _
          rw [d1, esh, Int.toNat_natCast, Int.one_mul]
          rw [show ((a1 : Int) * 2 ^ sh) = ((a1 * 2 ^ sh : Nat) : Int) by rw [Int.natCast_mul, Int.natCast_pow]; rfl]
          rfl
        · rcases List.mem_append.mp hx with r | r
          · exact hb x r
          · rw [List.mem_singleton.mp r]
            have := Nat.mul_le_mul (show a1 ≤ 65535 by omega) p16
            omega
      rintro H2 ⟨s6, rows, hA, el, hb⟩
      rw [Int.toNat_natCast] at el
      refine ⟨_, rfl, ?_⟩
      intro x dx nx ndx ne
      have sm := made_same (C := c.b) nx ndx
      refine ⟨x, dx, D, rows, rfl, upd_same, sm _ _ hA, by omega, hb, fun H4 keep at4 => ⟨rfl, ?_⟩⟩
      have s24 : Same H2 H4 := Same.made nx ndx fun b o e nb => keep b o nb e
      have ok : (SD.bi rows).Ok := ⟨hb, by omega⟩
      have at4 : (SD.bi rows).At c H4 x := at4
      have smal := ok.small
      refine ⟨(by show 1 ≤ sizeLine; decide), fun u hu => ?_⟩
      have eh := bi_head rows
      have su : Same H4 (upd H4 u (.lst [V.str (Str.ofString "bits:")])) := same_upd hu
      have hU : (upd H4 u (HO.lst [V.str (Str.ofString "bits:")])) u = some (.lst [V.str ((SD.bi rows).head ++ Tx.colon)]) := by rw [← eh]; exact upd_same
      generalize upd H4 u (HO.lst [V.str (Str.ofString "bits:")]) = H5 at su hU ⊢
      have s25 := s24.trans su
      have hA5 := s25 _ _ hA
      refine ⟨_, rfl, D, rfl, ⟨_, SqL.of hA5⟩, fun D2 hD2 => lc_list (K := K) (a := D) (xs := rows.map nv) (fun i H' => Same H5 H' ∧ H' D2 = some (.lst (((rows.take i).map Tx.num).map V.str)))
        ⟨same_upd hD2, upd_same⟩ (fun i H' _ p => SqL.of (p.1 _ _ hA5)) ?_ ?_⟩
      · rintro i y H' hi ⟨s8, hC⟩
        obtain ⟨e, ee, rfl⟩ := map_at hi
        refine ⟨rfl, yesT ?_⟩
        refine ⟨_, rfl, (e : Int), rfl, log_small (smal e (List.mem_of_getElem? ee)), _, hC, ?_, same_to s8 hD2, ?_⟩
        · rw [List.length_map, List.length_map]
          exact small1000 (Nat.le_trans (by rw [List.length_take]; omega) (by omega : rows.length ≤ 1000))
        · rw [take_more ee, List.map_append, List.map_append]
          exact upd_same
      · rintro H6 ⟨s56, hB⟩
        rw [List.length_map, List.take_length] at hB
        refine ⟨u, D2, _, _, rfl, rfl, s56 _ _ hU, hB, ?_, fun v hv => ?_⟩
        · rw [List.length_map, List.length_map]
          show 1 + rows.length ≤ sizeLine
          omega
        have s67 : Same H6 (upd H6 v (.lst ([V.str ((SD.bi rows).head ++ Tx.colon)] ++ (rows.map Tx.num).map V.str))) := same_upd hv
        have hV : (upd H6 v (HO.lst ([V.str ((SD.bi rows).head ++ Tx.colon)] ++ (rows.map Tx.num).map V.str))) v = some (.lst ((((SD.bi rows).head ++ Tx.colon) :: (SD.bi rows).words).map V.str)) := upd_same
        generalize upd H6 v (HO.lst ([V.str ((SD.bi rows).head ++ Tx.colon)] ++ (rows.map Tx.num).map V.str)) = H7 at s67 hV ⊢
        have s57 := s56.trans s67
        have s47 := su.trans s57
        have hA7 := s57 _ _ hA5
        refine ⟨_, rfl, .inl ⟨rfl, _, SqL.of hA7⟩, D, _, rfl, rfl, hA7, ?_⟩
        have nDv : v ≠ D := fun z => by
          rw [z, hA7] at hV
          injection hV with hV
          injection hV with hV
          cases rows with
          | nil => cases hV
          | cons t r => injection hV with z _; cases z
        have hV8 : (upd H7 D (HO.lst [])) v = some (.lst ((((SD.bi rows).head ++ Tx.colon) :: (SD.bi rows).words).map V.str)) := by rw [upd_ne nDv]; exact hV
        have at8 := (at4.same s47).wipe (o := .lst []) hA7
        have sH : Same H (upd H7 D (.lst [])) := same_to (s6.trans (s24.trans s47)) hD
        generalize upd H7 D (HO.lst []) = H8 at hV8 at8 sH ⊢
        refine ⟨_, rfl, ⟨_, rfl⟩, _, rfl, _, v, _, rfl, rfl, .inl (SqL.of hV8), told_size ok, (by show 2 ≤ sizeLine; decide), fun r hr' => ?_⟩
        exact q _ r x (.bi rows) (sH.trans (same_upd hr')) (sH.free hr') upd_same el ok (at8.same (same_upd hr'))
end
/-! ### the rules of this law -/
def A18 (c : Cs) : RK where
  S := fun C => C = c.t ∨ C = c.k ∨ C = c.p ∨ C = c.b
  At := fun _ H p r => ∃ (d : SD) (h : d.Ok), d.At c H p ∧ r = d.rl h
  same := fun s ⟨d, h, a, e⟩ => ⟨d, h, a.same s, e⟩
  cls := fun ⟨d, h, a, e⟩ => by
    cases d with
    | th N es =>
      obtain ⟨dx, t, ts, hp, _⟩ := a
      exact ⟨c.t, dx, _, .inl rfl, hp, Th.tf_free _ _, Th.tf_many _ _⟩
    | ki ks ms =>
      obtain ⟨dx, _, _, hp, _⟩ := a
      exact ⟨c.k, dx, _, .inr (.inl rfl), hp, Ki.kf_free _ _, Ki.kf_many _ _⟩
    | po ws =>
      obtain ⟨dx, t, hp, _⟩ := a
      exact ⟨c.p, dx, _, .inr (.inr (.inl rfl)), hp, rfl, rfl⟩
    | bi rows =>
      obtain ⟨dx, t, hp, _⟩ := a
      exact ⟨c.b, dx, _, .inr (.inr (.inr rfl)), hp, rfl, rfl⟩
/-! ### rules of the four sorts, asked by their methods -/
structure Dis (c : Cs) : Prop where
  tk : c.t ≠ c.k
  tp : c.t ≠ c.p
  tb : c.t ≠ c.b
  kp : c.k ≠ c.p
  kb : c.k ≠ c.b
  pb : c.p ≠ c.b
section
variable {P : Program} {w : World} {K : PySem.W.Frag} {mg : Str → Option Value} {base : Heap} {c : Cs}
def SD.cl (c : Cs) : SD → Addr
  | .th _ _ => c.t
  | .ki _ _ => c.k
  | .po _ => c.p
  | .bi _ => c.b
theorem SD.At.cls {H : Hp} {p : Addr} : ∀ {d : SD}, d.At c H p → ∃ dx fs, H p = some (.ins (d.cl c) dx fs) ∧ fs.lookup ("free" : Str) = none ∧ fs.lookup ("many" : Str) = none
  | .th _ _, ⟨dx, _, _, hp, _⟩ => ⟨dx, _, hp, Th.tf_free _ _, Th.tf_many _ _⟩
  | .ki _ _, ⟨dx, _, _, hp, _⟩ => ⟨dx, _, hp, Ki.kf_free _ _, Ki.kf_many _ _⟩
  | .po _, ⟨dx, _, hp, _⟩ => ⟨dx, _, hp, rfl, rfl⟩
  | .bi _, ⟨dx, _, hp, _⟩ => ⟨dx, _, hp, rfl, rfl⟩
theorem SD.At.cl_eq {H : Hp} {p C dx : Addr} {fs : List (Str × V)} {d : SD} (h : d.At c H p) (hp : H p = some (.ins C dx fs)) : d.cl c = C := by
  obtain ⟨dx', fs', e, _⟩ := h.cls
  rw [hp] at e
  injection e with e
  injection e with e1 _ _
  exact e1.symm
theorem ties_iff4 {N : Nat} {es : List (Nat × Nat)} {xs : List Nat} (hb : Th.Bnd N es) (hx : ∀ x ∈ xs, x < es.length) : TM.freeF id (xs.map (Th.edAt es)) = true ↔ TM.Ind (xs.map (Th.edAt es)) := by
  rw [TM.freeF_ind (P := N) _ fun e he => ?_, ← MT.ind_ties, ← MT.ind_ties]
  · exact MT.Ind.perm MT.clo_ties (List.reverse_perm _)
  · obtain ⟨x, hx', rfl⟩ := List.mem_map.mp he
    exact hb _ (List.mem_of_getElem? (Th.edAt_of (hx x hx')))
theorem met_free4 (D : Dis c) (h1 : C8.Met P w K mg base 5 c.t "free" (Th.spFree c.t) []) (h2 : C8.Met P w K mg base 5 c.k "free" (Ki.spFree c.k) []) (h3 : C8.Met P w K mg base 34 c.p "free" (Po.spFree c.p) []) (h4 : C8.Met P w K mg base 5 c.b "free" (Bi.spFree c.b) []) :
    MetG P w K mg base 34 (A18 c).S "free" (spFreeG (A18 c) 0) := by
  rintro C (rfl | rfl | rfl | rfl)
  · refine met_up h1 (by decide) fun vs H Q E s => ?_
    obtain ⟨⟨p, dx, fs, rest, ev, hp⟩, p', a, r, xs, ev', ⟨d, hok, at1, rfl⟩, ha, nd, hx, q⟩ := s
    rw [ev'] at ev
    injection ev with e1 _
    injection e1 with e1
    subst e1
    have hx' : ∀ x ∈ xs, x < d.n := hx
    have l := nodup_le nd hx'
    have n16 := hok.n16
    have cq := at1.cl_eq hp
    cases d with
    | th N es => exact ⟨p', a, N, es, xs, ev', at1, ha, hok.2.1, hok.2.2.1, hx', nd, by omega, fun H' s => q H' _ s ((ties_iff4 hok.2.2.1 hx').trans ⟨fun k => ⟨hx', k⟩, fun k => k.2⟩)⟩
    | ki ks ms => exact absurd cq.symm D.tk
    | po ws => exact absurd cq.symm D.tp
    | bi rows => exact absurd cq.symm D.tb
  · refine met_up h2 (by decide) fun vs H Q E s => ?_
    obtain ⟨⟨p, dx, fs, rest, ev, hp⟩, p', a, r, xs, ev', ⟨d, hok, at1, rfl⟩, ha, nd, hx, q⟩ := s
    rw [ev'] at ev
    injection ev with e1 _
    injection e1 with e1
    subst e1
    have hx' : ∀ x ∈ xs, x < d.n := hx
    have l := nodup_le nd hx'
    have n16 := hok.n16
    have cq := at1.cl_eq hp
    cases d with
    | th N es => exact absurd cq D.tk
    | ki ks ms => exact ⟨p', a, ks, ms, xs, ev', at1, ha, hok.1, hok.2.1, hx', nd, by omega, fun H' s => q H' _ s ⟨fun k => ⟨hx', k⟩, fun k => k.2⟩⟩
    | po ws => exact absurd cq.symm D.kp
    | bi rows => exact absurd cq.symm D.kb
  · refine met_up h3 (Nat.le_refl _) fun vs H Q E s => ?_
    obtain ⟨⟨p, dx, fs, rest, ev, hp⟩, p', a, r, xs, ev', ⟨d, hok, at1, rfl⟩, ha, nd, hx, q⟩ := s
    rw [ev'] at ev
    injection ev with e1 _
    injection e1 with e1
    subst e1
    have hx' : ∀ x ∈ xs, x < d.n := hx
    have l := nodup_le nd hx'
    have n16 := hok.n16
    have cq := at1.cl_eq hp
    cases d with
    | th N es => exact absurd cq D.tp
    | ki ks ms => exact absurd cq D.kp
    | po ws => exact ⟨p', a, ws, xs, ev', at1, ha, hok.1, hx', nd, by omega, fun H' b s hb => q H' b s (hb.trans ⟨fun k => ⟨hx', k⟩, fun k => k.2⟩)⟩
    | bi rows => exact absurd cq.symm D.pb
  · refine met_up h4 (by decide) fun vs H Q E s => ?_
    obtain ⟨⟨p, dx, fs, rest, ev, hp⟩, p', a, r, xs, ev', ⟨d, hok, at1, rfl⟩, ha, nd, hx, q⟩ := s
    rw [ev'] at ev
    injection ev with e1 _
    injection e1 with e1
    subst e1
    have hx' : ∀ x ∈ xs, x < d.n := hx
    have l := nodup_le nd hx'
    have n16 := hok.n16
    have cq := at1.cl_eq hp
    cases d with
    | th N es => exact absurd cq D.tb
    | ki ks ms => exact absurd cq D.kb
    | po ws => exact absurd cq D.pb
    | bi rows => exact ⟨p', a, rows, xs, ev', at1, ha, hx', nd, by omega, fun H' s => q H' _ s (((BM.freeF_ind _).trans (BM.Ind.perm (List.reverse_perm _))).trans ⟨fun k => ⟨hx', k⟩, fun k => k.2⟩)⟩
theorem met_many4 (D : Dis c) (h1 : C8.Met P w K mg base 1 c.t "many" (Th.spMany c.t) []) (h2 : C8.Met P w K mg base 1 c.k "many" (Ki.spMany c.k) []) (h3 : C8.Met P w K mg base 1 c.p "many" (Po.spMany c.p) []) (h4 : C8.Met P w K mg base 1 c.b "many" (Bi.spMany c.b) []) :
    MetG P w K mg base 34 (A18 c).S "many" (spManyG (A18 c) 0) := by
  rintro C (rfl | rfl | rfl | rfl)
  · refine met_up h1 (by decide) fun vs H Q E s => ?_
    obtain ⟨⟨p, dx, fs, rest, ev, hp⟩, p', r, ev', ⟨d, hok, at1, rfl⟩, q⟩ := s
    rw [ev'] at ev
    injection ev with e1 _
    injection e1 with e1
    subst e1
    have cq := at1.cl_eq hp
    cases d with
    | th N es => exact ⟨p', N, es, ev', at1, q H fun _ _ z => z⟩
    | ki ks ms => exact absurd cq.symm D.tk
    | po ws => exact absurd cq.symm D.tp
    | bi rows => exact absurd cq.symm D.tb
  · refine met_up h2 (by decide) fun vs H Q E s => ?_
    obtain ⟨⟨p, dx, fs, rest, ev, hp⟩, p', r, ev', ⟨d, hok, at1, rfl⟩, q⟩ := s
    rw [ev'] at ev
    injection ev with e1 _
    injection e1 with e1
    subst e1
    have cq := at1.cl_eq hp
    cases d with
    | th N es => exact absurd cq D.tk
    | ki ks ms => exact ⟨p', ks, ms, ev', at1, q H fun _ _ z => z⟩
    | po ws => exact absurd cq.symm D.kp
    | bi rows => exact absurd cq.symm D.kb
  · refine met_up h3 (by decide) fun vs H Q E s => ?_
    obtain ⟨⟨p, dx, fs, rest, ev, hp⟩, p', r, ev', ⟨d, hok, at1, rfl⟩, q⟩ := s
    rw [ev'] at ev
    injection ev with e1 _
    injection e1 with e1
    subst e1
    have cq := at1.cl_eq hp
    cases d with
    | th N es => exact absurd cq D.tp
    | ki ks ms => exact absurd cq D.kp
    | po ws => exact ⟨p', ws, ev', at1, q H fun _ _ z => z⟩
    | bi rows => exact absurd cq.symm D.pb
  · refine met_up h4 (by decide) fun vs H Q E s => ?_
    obtain ⟨⟨p, dx, fs, rest, ev, hp⟩, p', r, ev', ⟨d, hok, at1, rfl⟩, q⟩ := s
    rw [ev'] at ev
    injection ev with e1 _
    injection e1 with e1
    subst e1
    have cq := at1.cl_eq hp
    cases d with
    | th N es => exact absurd cq D.tb
    | ki ks ms => exact absurd cq D.kb
    | po ws => exact absurd cq D.pb
    | bi rows => exact ⟨p', rows, ev', at1, q H fun _ _ z => z⟩
end
section
variable {P : Program} {w : World} {K : PySem.W.Frag} {mg : Str → Option Value} {base : Heap} {f CR : Addr} {fd : FuncData} {c : Cs}
structure Up (K : PySem.W.Frag) (mg : Str → Option Value) (c : Cs) (CR : Addr) : Prop where
  Rule : Own mg "Rule" CR
  t : PySem.W.kitOne K (.ref c.t) (.ref CR) = some true
  k : PySem.W.kitOne K (.ref c.k) (.ref CR) = some true
  p : PySem.W.kitOne K (.ref c.p) (.ref CR) = some true
  b : PySem.W.kitOne K (.ref c.b) (.ref CR) = some true
theorem is_rule (S : Srt K mg c) (G : Up K mg c CR) (GT : Th.Gt K mg c.t) (GK : Ki.Gk K mg c.k) (GP : Po.Gp K mg c.p) (GB : Bi.Gb K mg c.b) : ∀ d : SD, Cls K (d.cl c) ∧ Ins K (d.cl c) ∧ PySem.W.kitOne K (.ref (d.cl c)) (.ref CR) = some true ∧ (A18 c).S (d.cl c)
  | .th _ _ => ⟨GT.cl, S.it, G.t, .inl rfl⟩
  | .ki _ _ => ⟨GK.cl, S.ik, G.k, .inr (.inl rfl)⟩
  | .po _ => ⟨GP.cl, S.ip, G.p, .inr (.inr (.inl rfl))⟩
  | .bi _ => ⟨GB.cl, S.ib, G.b, .inr (.inr (.inr rfl))⟩
theorem ne_same (x : Str) : V.bl (!decide (V.str x = V.str x)) = V.bl false := by
  rw [decide_eq_true rfl]
  rfl
theorem ok_law (B : Bl mg) (bstr : mg "str" = none) (S : Srt K mg c) (G : Up K mg c CR) (GT : Th.Gt K mg c.t) (GK : Ki.Gk K mg c.k) (GP : Po.Gp K mg c.p) (GB : Bi.Gb K mg c.b) (F : L2.Fun K "law" "law" s_law f fd) (c__law_cell_at : C8.Cal P w K mg base 1 "_law_cell_at" (spCellAt K) []) (c__law_draw : C8.Cal P w K mg base 1 "_law_draw" spDraw [])
    (c__law_made : C8.Cal P w K mg base 7 "_law_made" (spMade c) []) (c_written : C8.Cal P w K mg base 2 "written" (spWritten c) []) (c_read : C8.Cal P w K mg base 8 "read" (spRead c) []) (m_many : MetG P w K mg base 34 (A18 c).S "many" (spManyG (A18 c) 0)) (m_free : MetG P w K mg base 34 (A18 c).S "free" (spFreeG (A18 c) 0)) :
    FnOk P w K mg base CX0 35 f fd ["_law_script"] (spLaw K) := by
  refine F.ok sc_law (fun vs H Q E h => ?_) (fun cdv A outer s H vs Q E hr h => ?_)
  · obtain ⟨a, ns, rfl, _⟩ := h
    rfl
  · obtain ⟨a, ns, rfl, hS, hlen, kk⟩ := h
    refine ⟨_, (C8.pss_cut (ps_set (i := 1) sc_law.nd rfl (Or.inl rfl) (pe_op op_mod (C8.pe_c c__law_cell_at hr (by first | decide | exact Nat.le_refl _ | omega) rfl (pa_cons (pv 0) (pa_cons pe_int pa_nil))) pe_int))
      (pss_cons (ps_asg (C8.pe_c c__law_made hr (by first | decide | exact Nat.le_refl _ | omega) rfl (pa_cons (C8.pe_c c__law_cell_at hr (by first | decide | exact Nat.le_refl _ | omega) rfl (pa_cons (pv 0) (pa_cons pe_int pa_nil))) (pa_cons (pv 1) pa_nil))) (pg_tupK (K := K) (n := 2) rfl (by rfl) (pgs_cons (pg_name (i := 2) sc_law.nd rfl (Or.inl rfl)) (pgs_cons (pg_name (i := 3) sc_law.nd rfl (Or.inl rfl)) pgs_nil))))
      (pss_cons (ps_set (i := 4) sc_law.nd rfl (Or.inl rfl) (C8.pe_c c_written hr (by first | decide | exact Nat.le_refl _ | omega) rfl (pa_cons (pv 2) pa_nil)))
      (pss_cons (ps_if (PW.pt (pw_or (pt_not (pt_val (pe_callB (call_isiK (K := K) rfl) (by rfl) B.isinstance_ (by decide +kernel) (pa_cons (pv 4) (pa_cons (pe_bltn (v := .ty "str") (u := .type "str") (by rfl) bstr (by decide +kernel) rfl) pa_nil))))) (pw_or1 (pt_cmpR op_ne (pv 4) (pv 3) (nomark _))))) (pss_one (ps_ret pe_bl)) pss_nil)
      (pss_cons (ps_set (i := 5) sc_law.nd rfl (Or.inl rfl) (C8.pe_c c_read hr (by first | decide | exact Nat.le_refl _ | omega) rfl (pa_cons (pv 3) pa_nil)))
      (pss_cons (ps_if (PW.pt (pw_or (pt_not (pt_val (pe_callB (call_isiK (K := K) rfl) (by rfl) B.isinstance_ (by decide +kernel) (pa_cons (pv 5) (pa_cons (C8.pe_gc rfl G.Rule) pa_nil))))) (pw_or (pt_cmpR op_ne (pe_mt0G (pl := _) m_many hr (by first | decide | omega) (pv 5)) (pv 1) (nomark _)) (pw_or1 (pt_cmpR op_ne (C8.pe_c c_written hr (by first | decide | exact Nat.le_refl _ | omega) rfl (pa_cons (pv 5) pa_nil)) (pv 3) (nomark _)))))) (pss_one (ps_ret pe_bl)) pss_nil)
      (pss_cons (ps_for PassesOwn.never rfl (pi_range1 rfl B.range_ (pa_cons pe_int pa_nil)) (pg_name (i := 6) sc_law.nd rfl (Or.inr rfl)) (pss_cons (ps_set (i := 7) sc_law.nd rfl (Or.inr rfl) (pe_op op_add (C8.pe_c c__law_cell_at hr (by first | decide | exact Nat.le_refl _ | omega) rfl (pa_cons (pv 0) (pa_cons (pe_op op_add pe_int (pv 6)) pa_nil))) (pe_op op_mul pe_int (pv 6))))
      (pss_cons (ps_setLc (i := 8) (own := [("_law_k", 9)]) rfl sc_law.nd rfl rfl (sw_true rfl rfl rfl (by decide +kernel)) (pi_range1 rfl B.range_ (pa_cons (pv 1) pa_nil)) (blkOk_by (own := [("_law_k", 9)]) (N := n_law) (sc := defScope s_law) (by decide +kernel)) (fun _ _ _ _ _ => (pg_name (i := 9) sc_law.nd rfl (Or.inl rfl))) (fun _ _ _ _ _ => (pts_one (pt_cmpR op_eq (C8.pe_c c__law_draw hr (by first | decide | exact Nat.le_refl _ | omega) rfl (pa_cons (pe_op op_add (pv 7) (pe_op op_mul pe_int (pv 9))) (pa_cons pe_int (pa_cons (pe_op op_add pe_int (pe_op op_mod (pv 6) pe_int)) pa_nil)))) pe_int (nomark _)))) (fun _ _ _ _ _ => (pv 9)))
      (pss_one (ps_if (pt_cmpR op_ne (pe_mtG (pl := _) m_free hr (by first | decide | omega) (pv 2) (pa_cons (pv 8) pa_nil)) (pe_mtG (pl := _) m_free hr (by first | decide | omega) (pv 5) (pa_cons (pv 8) pa_nil)) (nomark _)) (pss_one (ps_ret pe_bl)) pss_nil)))))
      (pss_one (ps_ret (pe_cmpR op_eq (C8.pe_c c_written hr (by first | decide | exact Nat.le_refl _ | omega) rfl (pa_cons (pv 2) pa_nil)) (pv 3) (nomark _))))))))))), ?_⟩
    obtain ⟨n, en⟩ : ∃ n : Nat, cellAt ns 0 % 17 = (n : Int) := ⟨(cellAt ns 0 % 17).toNat, by have := Int.emod_nonneg (cellAt ns 0) (by decide : (17 : Int) ≠ 0); omega⟩
    have n16 : n ≤ 16 := by
      have := Int.emod_lt_of_pos (cellAt ns 0) (by decide : (0 : Int) < 17)
      omega
    refine ⟨fun σ' H1 => σ' = [some (.ref a), some (nv n), none, none, none, none, none, none, none, none] ∧ H = H1, ?_, ?_⟩
    · refine ⟨_, rfl, a, ns, 0, rfl, hS, _, _, rfl, rfl, (by show (0 : Int) < 17; decide), ?_, rfl⟩
      show _ = [some (V.ref a), some (V.int ((n : Nat) : Int)), none, none, none, none, none, none, none, none]
      rw [← en]
      rfl
    rintro _ _ ⟨rfl, rfl⟩
    refine ⟨_, rfl, a, ns, 1, rfl, hS, _, rfl, _, n, rfl, n16, fun H1 t p d s1 nt ht dn ok at1 => ⟨t, _, rfl, SqT.of ht, rfl, _, _, rfl, _, _, rfl, rfl, ?_⟩⟩
    refine ⟨_, rfl, p, d, rfl, at1, ok, fun H2 s2 => ?_⟩
    refine ⟨_, rfl, _, _, _, _, true, rfl, ClsV.ty _, TyX.base (TyOf.str _), kit_ty (by decide +kernel), true, rfl, iteF ⟨_, rfl, _, rfl, rfl, false, ne_same _, iteF ?_⟩⟩
    refine ⟨_, rfl, d, rfl, ok, fun H3 p2 s3 at3 => ?_⟩
    obtain ⟨dx2, fs2, hp2, lf2, lm2⟩ := at3.cls
    obtain ⟨i1, i2, i3, i4⟩ := is_rule S G GT GK GP GB d
    have s13 := s2.trans s3
    have at13 := at1.same s13
    obtain ⟨dx1, fs1, hp1, lf1, lm1⟩ := at13.cls
    refine ⟨_, rfl, _, _, _, _, true, rfl, ClsV.own CR, TyX.base (TyOf.ins hp2 i1 i2.ha i2.hn i2.htk i2.hm), i3, true, rfl, iteF ?_⟩
    refine ⟨d.cl c, i4, _, rfl, p2, dx2, fs2, rfl, hp2, lm2, ⟨p2, dx2, fs2, _, rfl, hp2⟩, p2, d.rl ok, rfl, ⟨d, ok, at3, rfl⟩, fun H4 s4 => ⟨_, rfl, rfl, false, ?_, iteF ?_⟩⟩
    · show V.bl (!decide (nv d.n = nv n)) = _
      rw [dn, decide_eq_true rfl]
      rfl
    refine ⟨_, rfl, p2, d, rfl, at3.same s4, ok, fun H5 s5 => ⟨_, rfl, rfl, false, ne_same _, iteF ?_⟩⟩
    have s45 := s4.trans s5
    have hS5 : SqL K H5 a (ns.map V.int) := (s1.trans (s13.trans s45)).seq hS
    refine ⟨6, rfl, by decide, by decide, for_range (lo := 0) (n := (6 : Int).toNat) (fun i σ H' => ∃ v6 v7 v8 : Option V, σ = [some (.ref a), some (nv n), some (.ref p), some (.str d.txt), some (.str d.txt), some (.ref p2), v6, v7, v8, none] ∧ Same H5 H')
      ⟨none, none, none, rfl, fun _ _ z => z⟩ ?_ ?_⟩
    · rintro i σ H' hi ⟨v6, v7, v8, rfl, s6⟩
      have i6 : i < 6 := hi
      refine ⟨_, rfl, _, rfl, _, _, rfl, rfl, a, ns, 2 + i, ?_, s6.seq hS5, _, rfl, _, _, rfl, rfl, .inl ⟨by decide, by decide⟩, _, _, rfl, rfl, ?_⟩
      · show [V.ref a, V.int (2 + (0 + (i : Int)))] = [V.ref a, V.int ((2 + i : Nat) : Int)]
        rw [show (2 + (0 + (i : Int))) = ((2 + i : Nat) : Int) by omega]
      refine ⟨_, rfl, _, rfl, by omega, by omega, fun D hD => lc_range (lo := 0) (n := (n : Int).toNat) (fun j H2 => Same H' H2 ∧ ∃ xs : List Nat, H2 D = some (.lst (xs.map nv)) ∧ xs.length ≤ j ∧ xs.Nodup ∧ ∀ x ∈ xs, x < j)
        ⟨same_upd hD, [], upd_same, Nat.le_refl _, List.nodup_nil, fun _ h => by cases h⟩ ?_ ?_⟩
      · rintro j H2 hj ⟨s7, xs, hA, xl, xn, xb⟩
        rw [Int.toNat_natCast] at hj
        refine ⟨rfl, ?_⟩
        refine ⟨_, rfl, _, rfl, _, _, rfl, rfl, .inl ⟨by decide, by decide⟩, _, _, rfl, rfl, _, rfl, _, _, rfl, rfl, (by show (0 : Int) < 3; decide), _, _, rfl, rfl, _, 1, _, rfl, ?_, by decide, by decide, rfl, _, rfl, ?_⟩
        · show (0 : Int) < 2 + (0 + (i : Int)) % 3
          omega
        refine ite2 (fun _ => ?_) (fun _ => ?_)
        · refine ⟨_, rfl, _, hA, by rw [List.length_map]; exact small1000 (by omega), same_to s7 hD, xs ++ [j], ?_, by rw [List.length_append]; show xs.length + 1 ≤ j + 1; omega, ?_, fun x hx => ?_⟩
          · rw [List.map_append]
            refine upd_same.trans ?_
            show some (HO.lst (_ ++ [V.int (0 + (j : Int))])) = _
            rw [Int.zero_add]
            rfl
          · exact MT.nd_snoc xn fun h => Nat.lt_irrefl _ (xb j h)
          · rcases List.mem_append.mp hx with e | e
            · have := xb x e
              omega
            · rw [List.mem_singleton.mp e]
              omega
        · exact ⟨s7, xs, hA, by omega, xn, fun x hx => by have := xb x hx; omega⟩
      · rintro H2 ⟨s7, xs, hA, xl, xn, xb⟩
        rw [Int.toNat_natCast] at xb
        have xb' : ∀ x ∈ xs, x < (d.rl ok).n := fun x hx => by
          show x < d.n
          rw [dn]
          exact xb x hx
        have s47 := s45.trans (s6.trans s7)
        have h1 := s47 _ _ hp1
        have h2 := s47 _ _ hp2
        refine ⟨d.cl c, i4, _, rfl, p, dx1, fs1, rfl, h1, lf1, _, rfl, ⟨p, dx1, fs1, _, rfl, h1⟩, p, D, d.rl ok, xs, rfl, ⟨d, ok, at13.same s47, rfl⟩, hA, xn, xb', fun H8 b s8 hb => ?_⟩
        have h2 := s8 _ _ h2
        refine ⟨d.cl c, i4, _, rfl, p2, dx2, fs2, rfl, h2, lf2, _, rfl, ⟨p2, dx2, fs2, _, rfl, h2⟩, p2, D, d.rl ok, xs, rfl, ⟨d, ok, at3.same (s47.trans s8), rfl⟩, s8 _ _ hA, xn, xb', fun H9 b2 s9 hb2 => ?_⟩
        have eb : b = b2 := by rw [Bool.eq_iff_iff, hb, hb2]
        refine ⟨rfl, false, ?_, iteF ⟨_, _, _, rfl, s6.trans (s7.trans (s8.trans s9))⟩⟩
        rw [eb, decide_eq_true rfl]
        rfl
    · rintro σ H' ⟨v6, v7, v8, rfl, s6⟩
      refine ⟨_, rfl, p, d, rfl, at13.same (s45.trans s6), ok, fun H9 s9 => ⟨_, rfl, rfl, ?_⟩⟩
      rw [decide_eq_true rfl]
      exact kk _
end
/-- two classes whose methods have other names are two -/
theorem apart {K : PySem.W.Frag} {C D f g : Addr} {m q1 q2 : Str} {oc1 dV1 kV1 dc1 pm1 cd1 ct1 oc2 dV2 kV2 dc2 pm2 cd2 ct2 : Value} {od1 an1 od2 an2 : Option Addr} {sl1 sl2 : Array (Option Value)} {n1 n2 : Str} {a1 a2 : Arguments} {b1 b2 : List Stmt} {s1 s2 : Scope}
    (h1 : PySem.W.findIn K (.ref C) m = some (some (.ref f))) (h2 : PySem.W.findIn K (.ref D) m = some (some (.ref g))) (k1 : K.lookup f = some ⟨oc1, od1, .func (PySem.W.fnOf n1 q1 a1 b1 s1 dV1 kV1 dc1 pm1 an1 cd1 ct1), sl1⟩)
    (k2 : K.lookup g = some ⟨oc2, od2, .func (PySem.W.fnOf n2 q2 a2 b2 s2 dV2 kV2 dc2 pm2 an2 cd2 ct2), sl2⟩) (ne : q1 ≠ q2) : C ≠ D := by
  intro e
  subst e
  rw [h1] at h2
  injection h2 with h2
  injection h2 with h2
  injection h2 with h2
  subst h2
  rw [k1] at k2
  injection k2 with k2
  injection k2 with _ _ k3 _
  injection k3 with k3
  have : (PySem.W.fnOf n1 q1 a1 b1 s1 dV1 kV1 dc1 pm1 an1 cd1 ct1).qualname = (PySem.W.fnOf n2 q2 a2 b2 s2 dV2 kV2 dc2 pm2 an2 cd2 ct2).qualname := by rw [k3]
  exact ne this
theorem all_mk {l : PySem.W.OpenLaw} {w : World} {K : PySem.W.Frag} {h : Heap} {mg : Str → Option Value} {fa f_is_number f_is_within f_check_thing f_check_set f_check_ground f_are_within f_is_tie f_are_posts f_gets_post f_lessened f_written f_read f_made_of f_row_of f_strings_of f_tie_of f_posts_of f_numbers_of f_number_of f__law_cell_at f__law_draw f__law_made f_law f_Threads___init__ f_Threads_many f_Threads_free f_Kinds___init__ f_Kinds_many f_Kinds_free f_Posts___init__ f_Posts_many f_Posts_free f_Bits___init__ f_Bits_many f_Bits_free C_Threads C_Kinds C_Posts C_Bits C_Rule : Addr}
    {od_is_number an_is_number : Option Addr} {sl_is_number : Array (Option Value)} {oc_is_number kV_is_number dc_is_number pm_is_number cd_is_number ct_is_number : Value}
    {od_is_within an_is_within : Option Addr} {sl_is_within : Array (Option Value)} {oc_is_within kV_is_within dc_is_within pm_is_within cd_is_within ct_is_within : Value}
    {od_check_thing an_check_thing : Option Addr} {sl_check_thing : Array (Option Value)} {oc_check_thing kV_check_thing dc_check_thing pm_check_thing cd_check_thing ct_check_thing : Value}
    {od_check_set an_check_set : Option Addr} {sl_check_set : Array (Option Value)} {oc_check_set kV_check_set dc_check_set pm_check_set cd_check_set ct_check_set : Value}
    {od_check_ground an_check_ground : Option Addr} {sl_check_ground : Array (Option Value)} {oc_check_ground kV_check_ground dc_check_ground pm_check_ground cd_check_ground ct_check_ground : Value}
    {od_are_within an_are_within : Option Addr} {sl_are_within : Array (Option Value)} {oc_are_within kV_are_within dc_are_within pm_are_within cd_are_within ct_are_within : Value}
    {od_is_tie an_is_tie : Option Addr} {sl_is_tie : Array (Option Value)} {oc_is_tie kV_is_tie dc_is_tie pm_is_tie cd_is_tie ct_is_tie : Value}
    {od_are_posts an_are_posts : Option Addr} {sl_are_posts : Array (Option Value)} {oc_are_posts kV_are_posts dc_are_posts pm_are_posts cd_are_posts ct_are_posts : Value}
    {od_gets_post an_gets_post : Option Addr} {sl_gets_post : Array (Option Value)} {oc_gets_post kV_gets_post dc_gets_post pm_gets_post cd_gets_post ct_gets_post : Value}
    {od_lessened an_lessened : Option Addr} {sl_lessened : Array (Option Value)} {oc_lessened kV_lessened dc_lessened pm_lessened cd_lessened ct_lessened : Value}
    {od_written an_written : Option Addr} {sl_written : Array (Option Value)} {oc_written kV_written dc_written pm_written cd_written ct_written : Value}
    {od_read an_read : Option Addr} {sl_read : Array (Option Value)} {oc_read kV_read dc_read pm_read cd_read ct_read : Value}
    {od_made_of an_made_of : Option Addr} {sl_made_of : Array (Option Value)} {oc_made_of kV_made_of dc_made_of pm_made_of cd_made_of ct_made_of : Value}
    {od_row_of an_row_of : Option Addr} {sl_row_of : Array (Option Value)} {oc_row_of kV_row_of dc_row_of pm_row_of cd_row_of ct_row_of : Value}
    {od_strings_of an_strings_of : Option Addr} {sl_strings_of : Array (Option Value)} {oc_strings_of kV_strings_of dc_strings_of pm_strings_of cd_strings_of ct_strings_of : Value}
    {od_tie_of an_tie_of : Option Addr} {sl_tie_of : Array (Option Value)} {oc_tie_of kV_tie_of dc_tie_of pm_tie_of cd_tie_of ct_tie_of : Value}
    {od_posts_of an_posts_of : Option Addr} {sl_posts_of : Array (Option Value)} {oc_posts_of kV_posts_of dc_posts_of pm_posts_of cd_posts_of ct_posts_of : Value}
    {od_numbers_of an_numbers_of : Option Addr} {sl_numbers_of : Array (Option Value)} {oc_numbers_of kV_numbers_of dc_numbers_of pm_numbers_of cd_numbers_of ct_numbers_of : Value}
    {od_number_of an_number_of : Option Addr} {sl_number_of : Array (Option Value)} {oc_number_of kV_number_of dc_number_of pm_number_of cd_number_of ct_number_of : Value}
    {od__law_cell_at an__law_cell_at : Option Addr} {sl__law_cell_at : Array (Option Value)} {oc__law_cell_at kV__law_cell_at dc__law_cell_at pm__law_cell_at cd__law_cell_at ct__law_cell_at : Value}
    {od__law_draw an__law_draw : Option Addr} {sl__law_draw : Array (Option Value)} {oc__law_draw kV__law_draw dc__law_draw pm__law_draw cd__law_draw ct__law_draw : Value}
    {od__law_made an__law_made : Option Addr} {sl__law_made : Array (Option Value)} {oc__law_made kV__law_made dc__law_made pm__law_made cd__law_made ct__law_made : Value}
    {od_law an_law : Option Addr} {sl_law : Array (Option Value)} {oc_law kV_law dc_law pm_law cd_law ct_law : Value}
    {od_Threads___init__ an_Threads___init__ : Option Addr} {sl_Threads___init__ : Array (Option Value)} {oc_Threads___init__ kV_Threads___init__ dc_Threads___init__ pm_Threads___init__ cd_Threads___init__ ct_Threads___init__ : Value}
    {od_Threads_many an_Threads_many : Option Addr} {sl_Threads_many : Array (Option Value)} {oc_Threads_many kV_Threads_many dc_Threads_many pm_Threads_many cd_Threads_many ct_Threads_many : Value}
    {od_Threads_free an_Threads_free : Option Addr} {sl_Threads_free : Array (Option Value)} {oc_Threads_free kV_Threads_free dc_Threads_free pm_Threads_free cd_Threads_free ct_Threads_free : Value}
    {od_Kinds___init__ an_Kinds___init__ : Option Addr} {sl_Kinds___init__ : Array (Option Value)} {oc_Kinds___init__ kV_Kinds___init__ dc_Kinds___init__ pm_Kinds___init__ cd_Kinds___init__ ct_Kinds___init__ : Value}
    {od_Kinds_many an_Kinds_many : Option Addr} {sl_Kinds_many : Array (Option Value)} {oc_Kinds_many kV_Kinds_many dc_Kinds_many pm_Kinds_many cd_Kinds_many ct_Kinds_many : Value}
    {od_Kinds_free an_Kinds_free : Option Addr} {sl_Kinds_free : Array (Option Value)} {oc_Kinds_free kV_Kinds_free dc_Kinds_free pm_Kinds_free cd_Kinds_free ct_Kinds_free : Value}
    {od_Posts___init__ an_Posts___init__ : Option Addr} {sl_Posts___init__ : Array (Option Value)} {oc_Posts___init__ kV_Posts___init__ dc_Posts___init__ pm_Posts___init__ cd_Posts___init__ ct_Posts___init__ : Value}
    {od_Posts_many an_Posts_many : Option Addr} {sl_Posts_many : Array (Option Value)} {oc_Posts_many kV_Posts_many dc_Posts_many pm_Posts_many cd_Posts_many ct_Posts_many : Value}
    {od_Posts_free an_Posts_free : Option Addr} {sl_Posts_free : Array (Option Value)} {oc_Posts_free kV_Posts_free dc_Posts_free pm_Posts_free cd_Posts_free ct_Posts_free : Value}
    {od_Bits___init__ an_Bits___init__ : Option Addr} {sl_Bits___init__ : Array (Option Value)} {oc_Bits___init__ kV_Bits___init__ dc_Bits___init__ pm_Bits___init__ cd_Bits___init__ ct_Bits___init__ : Value}
    {od_Bits_many an_Bits_many : Option Addr} {sl_Bits_many : Array (Option Value)} {oc_Bits_many kV_Bits_many dc_Bits_many pm_Bits_many cd_Bits_many ct_Bits_many : Value}
    {od_Bits_free an_Bits_free : Option Addr} {sl_Bits_free : Array (Option Value)} {oc_Bits_free kV_Bits_free dc_Bits_free pm_Bits_free cd_Bits_free ct_Bits_free : Value}
    {t_FIGURES : Tok}
    {t_MOST_THINGS : Tok}
    {t_MOST_PLACES : Tok}
    {t_MOST_OF_A_KIND : Tok}
    {t_HIGHEST_POST : Tok}
    {t_HIGHEST_ROW : Tok}
    {t_MOST_FIGURES : Tok} (X : K.In h) (G : h.Ns mainGlobals mg) (hfa : mg "law" = some (.ref fa))
    (aC_Threads : PySem.W.nsIn K mainGlobals "Threads" = some (some (.ref C_Threads)))
    (aC_Kinds : PySem.W.nsIn K mainGlobals "Kinds" = some (some (.ref C_Kinds)))
    (aC_Posts : PySem.W.nsIn K mainGlobals "Posts" = some (some (.ref C_Posts)))
    (aC_Bits : PySem.W.nsIn K mainGlobals "Bits" = some (some (.ref C_Bits)))
    (aC_Rule : PySem.W.nsIn K mainGlobals "Rule" = some (some (.ref C_Rule)))
    (a_is_number : PySem.W.nsIn K mainGlobals "is_number" = some (some (.ref f_is_number)))
    (l_is_number : K.lookup f_is_number = some ⟨oc_is_number, od_is_number, .func (PySem.W.fnOf "is_number" "is_number" (defArgs s_is_number) (defBody s_is_number) (defScope s_is_number) .none kV_is_number dc_is_number pm_is_number an_is_number cd_is_number ct_is_number), sl_is_number⟩)
    (c_is_number : PySem.W.codeIn K cd_is_number "is_number" = true)
    (k_is_number : PySem.W.keepIn K (.ref f_is_number) = true)
    (a_is_within : PySem.W.nsIn K mainGlobals "is_within" = some (some (.ref f_is_within)))
    (l_is_within : K.lookup f_is_within = some ⟨oc_is_within, od_is_within, .func (PySem.W.fnOf "is_within" "is_within" (defArgs s_is_within) (defBody s_is_within) (defScope s_is_within) .none kV_is_within dc_is_within pm_is_within an_is_within cd_is_within ct_is_within), sl_is_within⟩)
    (c_is_within : PySem.W.codeIn K cd_is_within "is_within" = true)
    (k_is_within : PySem.W.keepIn K (.ref f_is_within) = true)
    (a_check_thing : PySem.W.nsIn K mainGlobals "check_thing" = some (some (.ref f_check_thing)))
    (l_check_thing : K.lookup f_check_thing = some ⟨oc_check_thing, od_check_thing, .func (PySem.W.fnOf "check_thing" "check_thing" (defArgs s_check_thing) (defBody s_check_thing) (defScope s_check_thing) .none kV_check_thing dc_check_thing pm_check_thing an_check_thing cd_check_thing ct_check_thing), sl_check_thing⟩)
    (c_check_thing : PySem.W.codeIn K cd_check_thing "check_thing" = true)
    (k_check_thing : PySem.W.keepIn K (.ref f_check_thing) = true)
    (a_check_set : PySem.W.nsIn K mainGlobals "check_set" = some (some (.ref f_check_set)))
    (l_check_set : K.lookup f_check_set = some ⟨oc_check_set, od_check_set, .func (PySem.W.fnOf "check_set" "check_set" (defArgs s_check_set) (defBody s_check_set) (defScope s_check_set) .none kV_check_set dc_check_set pm_check_set an_check_set cd_check_set ct_check_set), sl_check_set⟩)
    (c_check_set : PySem.W.codeIn K cd_check_set "check_set" = true)
    (k_check_set : PySem.W.keepIn K (.ref f_check_set) = true)
    (a_check_ground : PySem.W.nsIn K mainGlobals "check_ground" = some (some (.ref f_check_ground)))
    (l_check_ground : K.lookup f_check_ground = some ⟨oc_check_ground, od_check_ground, .func (PySem.W.fnOf "check_ground" "check_ground" (defArgs s_check_ground) (defBody s_check_ground) (defScope s_check_ground) .none kV_check_ground dc_check_ground pm_check_ground an_check_ground cd_check_ground ct_check_ground), sl_check_ground⟩)
    (c_check_ground : PySem.W.codeIn K cd_check_ground "check_ground" = true)
    (k_check_ground : PySem.W.keepIn K (.ref f_check_ground) = true)
    (a_are_within : PySem.W.nsIn K mainGlobals "are_within" = some (some (.ref f_are_within)))
    (l_are_within : K.lookup f_are_within = some ⟨oc_are_within, od_are_within, .func (PySem.W.fnOf "are_within" "are_within" (defArgs s_are_within) (defBody s_are_within) (defScope s_are_within) .none kV_are_within dc_are_within pm_are_within an_are_within cd_are_within ct_are_within), sl_are_within⟩)
    (c_are_within : PySem.W.codeIn K cd_are_within "are_within" = true)
    (k_are_within : PySem.W.keepIn K (.ref f_are_within) = true)
    (a_is_tie : PySem.W.nsIn K mainGlobals "is_tie" = some (some (.ref f_is_tie)))
    (l_is_tie : K.lookup f_is_tie = some ⟨oc_is_tie, od_is_tie, .func (PySem.W.fnOf "is_tie" "is_tie" (defArgs s_is_tie) (defBody s_is_tie) (defScope s_is_tie) .none kV_is_tie dc_is_tie pm_is_tie an_is_tie cd_is_tie ct_is_tie), sl_is_tie⟩)
    (c_is_tie : PySem.W.codeIn K cd_is_tie "is_tie" = true)
    (k_is_tie : PySem.W.keepIn K (.ref f_is_tie) = true)
    (a_are_posts : PySem.W.nsIn K mainGlobals "are_posts" = some (some (.ref f_are_posts)))
    (l_are_posts : K.lookup f_are_posts = some ⟨oc_are_posts, od_are_posts, .func (PySem.W.fnOf "are_posts" "are_posts" (defArgs s_are_posts) (defBody s_are_posts) (defScope s_are_posts) .none kV_are_posts dc_are_posts pm_are_posts an_are_posts cd_are_posts ct_are_posts), sl_are_posts⟩)
    (c_are_posts : PySem.W.codeIn K cd_are_posts "are_posts" = true)
    (k_are_posts : PySem.W.keepIn K (.ref f_are_posts) = true)
    (a_gets_post : PySem.W.nsIn K mainGlobals "gets_post" = some (some (.ref f_gets_post)))
    (l_gets_post : K.lookup f_gets_post = some ⟨oc_gets_post, od_gets_post, .func (PySem.W.fnOf "gets_post" "gets_post" (defArgs s_gets_post) (defBody s_gets_post) (defScope s_gets_post) .none kV_gets_post dc_gets_post pm_gets_post an_gets_post cd_gets_post ct_gets_post), sl_gets_post⟩)
    (c_gets_post : PySem.W.codeIn K cd_gets_post "gets_post" = true)
    (k_gets_post : PySem.W.keepIn K (.ref f_gets_post) = true)
    (a_lessened : PySem.W.nsIn K mainGlobals "lessened" = some (some (.ref f_lessened)))
    (l_lessened : K.lookup f_lessened = some ⟨oc_lessened, od_lessened, .func (PySem.W.fnOf "lessened" "lessened" (defArgs s_lessened) (defBody s_lessened) (defScope s_lessened) .none kV_lessened dc_lessened pm_lessened an_lessened cd_lessened ct_lessened), sl_lessened⟩)
    (c_lessened : PySem.W.codeIn K cd_lessened "lessened" = true)
    (k_lessened : PySem.W.keepIn K (.ref f_lessened) = true)
    (a_written : PySem.W.nsIn K mainGlobals "written" = some (some (.ref f_written)))
    (l_written : K.lookup f_written = some ⟨oc_written, od_written, .func (PySem.W.fnOf "written" "written" (defArgs s_written) (defBody s_written) (defScope s_written) .none kV_written dc_written pm_written an_written cd_written ct_written), sl_written⟩)
    (c_written : PySem.W.codeIn K cd_written "written" = true)
    (k_written : PySem.W.keepIn K (.ref f_written) = true)
    (a_read : PySem.W.nsIn K mainGlobals "read" = some (some (.ref f_read)))
    (l_read : K.lookup f_read = some ⟨oc_read, od_read, .func (PySem.W.fnOf "read" "read" (defArgs s_read) (defBody s_read) (defScope s_read) .none kV_read dc_read pm_read an_read cd_read ct_read), sl_read⟩)
    (c_read : PySem.W.codeIn K cd_read "read" = true)
    (k_read : PySem.W.keepIn K (.ref f_read) = true)
    (a_made_of : PySem.W.nsIn K mainGlobals "made_of" = some (some (.ref f_made_of)))
    (l_made_of : K.lookup f_made_of = some ⟨oc_made_of, od_made_of, .func (PySem.W.fnOf "made_of" "made_of" (defArgs s_made_of) (defBody s_made_of) (defScope s_made_of) .none kV_made_of dc_made_of pm_made_of an_made_of cd_made_of ct_made_of), sl_made_of⟩)
    (c_made_of : PySem.W.codeIn K cd_made_of "made_of" = true)
    (k_made_of : PySem.W.keepIn K (.ref f_made_of) = true)
    (a_row_of : PySem.W.nsIn K mainGlobals "row_of" = some (some (.ref f_row_of)))
    (l_row_of : K.lookup f_row_of = some ⟨oc_row_of, od_row_of, .func (PySem.W.fnOf "row_of" "row_of" (defArgs s_row_of) (defBody s_row_of) (defScope s_row_of) .none kV_row_of dc_row_of pm_row_of an_row_of cd_row_of ct_row_of), sl_row_of⟩)
    (c_row_of : PySem.W.codeIn K cd_row_of "row_of" = true)
    (k_row_of : PySem.W.keepIn K (.ref f_row_of) = true)
    (a_strings_of : PySem.W.nsIn K mainGlobals "strings_of" = some (some (.ref f_strings_of)))
    (l_strings_of : K.lookup f_strings_of = some ⟨oc_strings_of, od_strings_of, .func (PySem.W.fnOf "strings_of" "strings_of" (defArgs s_strings_of) (defBody s_strings_of) (defScope s_strings_of) .none kV_strings_of dc_strings_of pm_strings_of an_strings_of cd_strings_of ct_strings_of), sl_strings_of⟩)
    (c_strings_of : PySem.W.codeIn K cd_strings_of "strings_of" = true)
    (k_strings_of : PySem.W.keepIn K (.ref f_strings_of) = true)
    (a_tie_of : PySem.W.nsIn K mainGlobals "tie_of" = some (some (.ref f_tie_of)))
    (l_tie_of : K.lookup f_tie_of = some ⟨oc_tie_of, od_tie_of, .func (PySem.W.fnOf "tie_of" "tie_of" (defArgs s_tie_of) (defBody s_tie_of) (defScope s_tie_of) .none kV_tie_of dc_tie_of pm_tie_of an_tie_of cd_tie_of ct_tie_of), sl_tie_of⟩)
    (c_tie_of : PySem.W.codeIn K cd_tie_of "tie_of" = true)
    (k_tie_of : PySem.W.keepIn K (.ref f_tie_of) = true)
    (a_posts_of : PySem.W.nsIn K mainGlobals "posts_of" = some (some (.ref f_posts_of)))
    (l_posts_of : K.lookup f_posts_of = some ⟨oc_posts_of, od_posts_of, .func (PySem.W.fnOf "posts_of" "posts_of" (defArgs s_posts_of) (defBody s_posts_of) (defScope s_posts_of) .none kV_posts_of dc_posts_of pm_posts_of an_posts_of cd_posts_of ct_posts_of), sl_posts_of⟩)
    (c_posts_of : PySem.W.codeIn K cd_posts_of "posts_of" = true)
    (k_posts_of : PySem.W.keepIn K (.ref f_posts_of) = true)
    (a_numbers_of : PySem.W.nsIn K mainGlobals "numbers_of" = some (some (.ref f_numbers_of)))
    (l_numbers_of : K.lookup f_numbers_of = some ⟨oc_numbers_of, od_numbers_of, .func (PySem.W.fnOf "numbers_of" "numbers_of" (defArgs s_numbers_of) (defBody s_numbers_of) (defScope s_numbers_of) .none kV_numbers_of dc_numbers_of pm_numbers_of an_numbers_of cd_numbers_of ct_numbers_of), sl_numbers_of⟩)
    (c_numbers_of : PySem.W.codeIn K cd_numbers_of "numbers_of" = true)
    (k_numbers_of : PySem.W.keepIn K (.ref f_numbers_of) = true)
    (a_number_of : PySem.W.nsIn K mainGlobals "number_of" = some (some (.ref f_number_of)))
    (l_number_of : K.lookup f_number_of = some ⟨oc_number_of, od_number_of, .func (PySem.W.fnOf "number_of" "number_of" (defArgs s_number_of) (defBody s_number_of) (defScope s_number_of) .none kV_number_of dc_number_of pm_number_of an_number_of cd_number_of ct_number_of), sl_number_of⟩)
    (c_number_of : PySem.W.codeIn K cd_number_of "number_of" = true)
    (k_number_of : PySem.W.keepIn K (.ref f_number_of) = true)
    (a__law_cell_at : PySem.W.nsIn K mainGlobals "_law_cell_at" = some (some (.ref f__law_cell_at)))
    (l__law_cell_at : K.lookup f__law_cell_at = some ⟨oc__law_cell_at, od__law_cell_at, .func (PySem.W.fnOf "_law_cell_at" "_law_cell_at" (defArgs s__law_cell_at) (defBody s__law_cell_at) (defScope s__law_cell_at) .none kV__law_cell_at dc__law_cell_at pm__law_cell_at an__law_cell_at cd__law_cell_at ct__law_cell_at), sl__law_cell_at⟩)
    (c__law_cell_at : PySem.W.codeIn K cd__law_cell_at "_law_cell_at" = true)
    (k__law_cell_at : PySem.W.keepIn K (.ref f__law_cell_at) = true)
    (a__law_draw : PySem.W.nsIn K mainGlobals "_law_draw" = some (some (.ref f__law_draw)))
    (l__law_draw : K.lookup f__law_draw = some ⟨oc__law_draw, od__law_draw, .func (PySem.W.fnOf "_law_draw" "_law_draw" (defArgs s__law_draw) (defBody s__law_draw) (defScope s__law_draw) .none kV__law_draw dc__law_draw pm__law_draw an__law_draw cd__law_draw ct__law_draw), sl__law_draw⟩)
    (c__law_draw : PySem.W.codeIn K cd__law_draw "_law_draw" = true)
    (k__law_draw : PySem.W.keepIn K (.ref f__law_draw) = true)
    (a__law_made : PySem.W.nsIn K mainGlobals "_law_made" = some (some (.ref f__law_made)))
    (l__law_made : K.lookup f__law_made = some ⟨oc__law_made, od__law_made, .func (PySem.W.fnOf "_law_made" "_law_made" (defArgs s__law_made) (defBody s__law_made) (defScope s__law_made) .none kV__law_made dc__law_made pm__law_made an__law_made cd__law_made ct__law_made), sl__law_made⟩)
    (c__law_made : PySem.W.codeIn K cd__law_made "_law_made" = true)
    (k__law_made : PySem.W.keepIn K (.ref f__law_made) = true)
    (a_law : PySem.W.nsIn K mainGlobals "law" = some (some (.ref f_law)))
    (l_law : K.lookup f_law = some ⟨oc_law, od_law, .func (PySem.W.fnOf "law" "law" (defArgs s_law) (defBody s_law) (defScope s_law) .none kV_law dc_law pm_law an_law cd_law ct_law), sl_law⟩)
    (c_law : PySem.W.codeIn K cd_law "law" = true)
    (k_law : PySem.W.keepIn K (.ref f_law) = true)
    (a_Threads___init__ : PySem.W.findIn K (.ref C_Threads) "__init__" = some (some (.ref f_Threads___init__)))
    (i_Threads___init__ : PySem.W.isFn K (.ref f_Threads___init__) = true)
    (l_Threads___init__ : K.lookup f_Threads___init__ = some ⟨oc_Threads___init__, od_Threads___init__, .func (PySem.W.fnOf "__init__" "Threads.__init__" (defArgs s_Threads___init__) (defBody s_Threads___init__) (defScope s_Threads___init__) .none kV_Threads___init__ dc_Threads___init__ pm_Threads___init__ an_Threads___init__ cd_Threads___init__ ct_Threads___init__), sl_Threads___init__⟩)
    (c_Threads___init__ : PySem.W.codeIn K cd_Threads___init__ "Threads.__init__" = true)
    (k_Threads___init__ : PySem.W.keepIn K (.ref f_Threads___init__) = true)
    (a_Threads_many : PySem.W.findIn K (.ref C_Threads) "many" = some (some (.ref f_Threads_many)))
    (i_Threads_many : PySem.W.isFn K (.ref f_Threads_many) = true)
    (l_Threads_many : K.lookup f_Threads_many = some ⟨oc_Threads_many, od_Threads_many, .func (PySem.W.fnOf "many" "Threads.many" (defArgs s_Threads_many) (defBody s_Threads_many) (defScope s_Threads_many) .none kV_Threads_many dc_Threads_many pm_Threads_many an_Threads_many cd_Threads_many ct_Threads_many), sl_Threads_many⟩)
    (c_Threads_many : PySem.W.codeIn K cd_Threads_many "Threads.many" = true)
    (k_Threads_many : PySem.W.keepIn K (.ref f_Threads_many) = true)
    (a_Threads_free : PySem.W.findIn K (.ref C_Threads) "free" = some (some (.ref f_Threads_free)))
    (i_Threads_free : PySem.W.isFn K (.ref f_Threads_free) = true)
    (l_Threads_free : K.lookup f_Threads_free = some ⟨oc_Threads_free, od_Threads_free, .func (PySem.W.fnOf "free" "Threads.free" (defArgs s_Threads_free) (defBody s_Threads_free) (defScope s_Threads_free) .none kV_Threads_free dc_Threads_free pm_Threads_free an_Threads_free cd_Threads_free ct_Threads_free), sl_Threads_free⟩)
    (c_Threads_free : PySem.W.codeIn K cd_Threads_free "Threads.free" = true)
    (k_Threads_free : PySem.W.keepIn K (.ref f_Threads_free) = true)
    (a_Kinds___init__ : PySem.W.findIn K (.ref C_Kinds) "__init__" = some (some (.ref f_Kinds___init__)))
    (i_Kinds___init__ : PySem.W.isFn K (.ref f_Kinds___init__) = true)
    (l_Kinds___init__ : K.lookup f_Kinds___init__ = some ⟨oc_Kinds___init__, od_Kinds___init__, .func (PySem.W.fnOf "__init__" "Kinds.__init__" (defArgs s_Kinds___init__) (defBody s_Kinds___init__) (defScope s_Kinds___init__) .none kV_Kinds___init__ dc_Kinds___init__ pm_Kinds___init__ an_Kinds___init__ cd_Kinds___init__ ct_Kinds___init__), sl_Kinds___init__⟩)
    (c_Kinds___init__ : PySem.W.codeIn K cd_Kinds___init__ "Kinds.__init__" = true)
    (k_Kinds___init__ : PySem.W.keepIn K (.ref f_Kinds___init__) = true)
    (a_Kinds_many : PySem.W.findIn K (.ref C_Kinds) "many" = some (some (.ref f_Kinds_many)))
    (i_Kinds_many : PySem.W.isFn K (.ref f_Kinds_many) = true)
    (l_Kinds_many : K.lookup f_Kinds_many = some ⟨oc_Kinds_many, od_Kinds_many, .func (PySem.W.fnOf "many" "Kinds.many" (defArgs s_Kinds_many) (defBody s_Kinds_many) (defScope s_Kinds_many) .none kV_Kinds_many dc_Kinds_many pm_Kinds_many an_Kinds_many cd_Kinds_many ct_Kinds_many), sl_Kinds_many⟩)
    (c_Kinds_many : PySem.W.codeIn K cd_Kinds_many "Kinds.many" = true)
    (k_Kinds_many : PySem.W.keepIn K (.ref f_Kinds_many) = true)
    (a_Kinds_free : PySem.W.findIn K (.ref C_Kinds) "free" = some (some (.ref f_Kinds_free)))
    (i_Kinds_free : PySem.W.isFn K (.ref f_Kinds_free) = true)
    (l_Kinds_free : K.lookup f_Kinds_free = some ⟨oc_Kinds_free, od_Kinds_free, .func (PySem.W.fnOf "free" "Kinds.free" (defArgs s_Kinds_free) (defBody s_Kinds_free) (defScope s_Kinds_free) .none kV_Kinds_free dc_Kinds_free pm_Kinds_free an_Kinds_free cd_Kinds_free ct_Kinds_free), sl_Kinds_free⟩)
    (c_Kinds_free : PySem.W.codeIn K cd_Kinds_free "Kinds.free" = true)
    (k_Kinds_free : PySem.W.keepIn K (.ref f_Kinds_free) = true)
    (a_Posts___init__ : PySem.W.findIn K (.ref C_Posts) "__init__" = some (some (.ref f_Posts___init__)))
    (i_Posts___init__ : PySem.W.isFn K (.ref f_Posts___init__) = true)
    (l_Posts___init__ : K.lookup f_Posts___init__ = some ⟨oc_Posts___init__, od_Posts___init__, .func (PySem.W.fnOf "__init__" "Posts.__init__" (defArgs s_Posts___init__) (defBody s_Posts___init__) (defScope s_Posts___init__) .none kV_Posts___init__ dc_Posts___init__ pm_Posts___init__ an_Posts___init__ cd_Posts___init__ ct_Posts___init__), sl_Posts___init__⟩)
    (c_Posts___init__ : PySem.W.codeIn K cd_Posts___init__ "Posts.__init__" = true)
    (k_Posts___init__ : PySem.W.keepIn K (.ref f_Posts___init__) = true)
    (a_Posts_many : PySem.W.findIn K (.ref C_Posts) "many" = some (some (.ref f_Posts_many)))
    (i_Posts_many : PySem.W.isFn K (.ref f_Posts_many) = true)
    (l_Posts_many : K.lookup f_Posts_many = some ⟨oc_Posts_many, od_Posts_many, .func (PySem.W.fnOf "many" "Posts.many" (defArgs s_Posts_many) (defBody s_Posts_many) (defScope s_Posts_many) .none kV_Posts_many dc_Posts_many pm_Posts_many an_Posts_many cd_Posts_many ct_Posts_many), sl_Posts_many⟩)
    (c_Posts_many : PySem.W.codeIn K cd_Posts_many "Posts.many" = true)
    (k_Posts_many : PySem.W.keepIn K (.ref f_Posts_many) = true)
    (a_Posts_free : PySem.W.findIn K (.ref C_Posts) "free" = some (some (.ref f_Posts_free)))
    (i_Posts_free : PySem.W.isFn K (.ref f_Posts_free) = true)
    (l_Posts_free : K.lookup f_Posts_free = some ⟨oc_Posts_free, od_Posts_free, .func (PySem.W.fnOf "free" "Posts.free" (defArgs s_Posts_free) (defBody s_Posts_free) (defScope s_Posts_free) .none kV_Posts_free dc_Posts_free pm_Posts_free an_Posts_free cd_Posts_free ct_Posts_free), sl_Posts_free⟩)
    (c_Posts_free : PySem.W.codeIn K cd_Posts_free "Posts.free" = true)
    (k_Posts_free : PySem.W.keepIn K (.ref f_Posts_free) = true)
    (a_Bits___init__ : PySem.W.findIn K (.ref C_Bits) "__init__" = some (some (.ref f_Bits___init__)))
    (i_Bits___init__ : PySem.W.isFn K (.ref f_Bits___init__) = true)
    (l_Bits___init__ : K.lookup f_Bits___init__ = some ⟨oc_Bits___init__, od_Bits___init__, .func (PySem.W.fnOf "__init__" "Bits.__init__" (defArgs s_Bits___init__) (defBody s_Bits___init__) (defScope s_Bits___init__) .none kV_Bits___init__ dc_Bits___init__ pm_Bits___init__ an_Bits___init__ cd_Bits___init__ ct_Bits___init__), sl_Bits___init__⟩)
    (c_Bits___init__ : PySem.W.codeIn K cd_Bits___init__ "Bits.__init__" = true)
    (k_Bits___init__ : PySem.W.keepIn K (.ref f_Bits___init__) = true)
    (a_Bits_many : PySem.W.findIn K (.ref C_Bits) "many" = some (some (.ref f_Bits_many)))
    (i_Bits_many : PySem.W.isFn K (.ref f_Bits_many) = true)
    (l_Bits_many : K.lookup f_Bits_many = some ⟨oc_Bits_many, od_Bits_many, .func (PySem.W.fnOf "many" "Bits.many" (defArgs s_Bits_many) (defBody s_Bits_many) (defScope s_Bits_many) .none kV_Bits_many dc_Bits_many pm_Bits_many an_Bits_many cd_Bits_many ct_Bits_many), sl_Bits_many⟩)
    (c_Bits_many : PySem.W.codeIn K cd_Bits_many "Bits.many" = true)
    (k_Bits_many : PySem.W.keepIn K (.ref f_Bits_many) = true)
    (a_Bits_free : PySem.W.findIn K (.ref C_Bits) "free" = some (some (.ref f_Bits_free)))
    (i_Bits_free : PySem.W.isFn K (.ref f_Bits_free) = true)
    (l_Bits_free : K.lookup f_Bits_free = some ⟨oc_Bits_free, od_Bits_free, .func (PySem.W.fnOf "free" "Bits.free" (defArgs s_Bits_free) (defBody s_Bits_free) (defScope s_Bits_free) .none kV_Bits_free dc_Bits_free pm_Bits_free an_Bits_free cd_Bits_free ct_Bits_free), sl_Bits_free⟩)
    (c_Bits_free : PySem.W.codeIn K cd_Bits_free "Bits.free" = true)
    (k_Bits_free : PySem.W.keepIn K (.ref f_Bits_free) = true)
    (pg_Threads : PySem.W.plainGet K C_Threads Str.empty = true)
    (hd_Threads : PySem.W.hasDictIn K C_Threads = true)
    (po_Threads : PySem.W.plainOver K C_Threads = true)
    (sa_Threads : PySem.W.findIn K (.ref C_Threads) "__setattr__" = some (some (.builtin "object.__setattr__")))
    (mk_Threads : PySem.W.makesIn K C_Threads = true)
    (kc_Threads : PySem.W.keepIn K (.ref C_Threads) = true)
    (pg_Kinds : PySem.W.plainGet K C_Kinds Str.empty = true)
    (hd_Kinds : PySem.W.hasDictIn K C_Kinds = true)
    (po_Kinds : PySem.W.plainOver K C_Kinds = true)
    (sa_Kinds : PySem.W.findIn K (.ref C_Kinds) "__setattr__" = some (some (.builtin "object.__setattr__")))
    (mk_Kinds : PySem.W.makesIn K C_Kinds = true)
    (kc_Kinds : PySem.W.keepIn K (.ref C_Kinds) = true)
    (pg_Posts : PySem.W.plainGet K C_Posts Str.empty = true)
    (hd_Posts : PySem.W.hasDictIn K C_Posts = true)
    (po_Posts : PySem.W.plainOver K C_Posts = true)
    (sa_Posts : PySem.W.findIn K (.ref C_Posts) "__setattr__" = some (some (.builtin "object.__setattr__")))
    (mk_Posts : PySem.W.makesIn K C_Posts = true)
    (kc_Posts : PySem.W.keepIn K (.ref C_Posts) = true)
    (pg_Bits : PySem.W.plainGet K C_Bits Str.empty = true)
    (hd_Bits : PySem.W.hasDictIn K C_Bits = true)
    (po_Bits : PySem.W.plainOver K C_Bits = true)
    (sa_Bits : PySem.W.findIn K (.ref C_Bits) "__setattr__" = some (some (.builtin "object.__setattr__")))
    (mk_Bits : PySem.W.makesIn K C_Bits = true)
    (kc_Bits : PySem.W.keepIn K (.ref C_Bits) = true)
    (n_Threads_places : PySem.W.findIn K (.ref C_Threads) "places" = some none)
    (n_Threads_ties : PySem.W.findIn K (.ref C_Threads) "ties" = some none)
    (n_Kinds_kinds : PySem.W.findIn K (.ref C_Kinds) "kinds" = some none)
    (n_Kinds_most : PySem.W.findIn K (.ref C_Kinds) "most" = some none)
    (n_Posts_wants : PySem.W.findIn K (.ref C_Posts) "wants" = some none)
    (n_Bits_rows : PySem.W.findIn K (.ref C_Bits) "rows" = some none)
    (ha_Threads : PySem.W.findIn K (.ref C_Threads) "__class__" = some (some (.builtin "object.__class__")))
    (hn_Threads : PySem.W.specialIn K (.builtin "object.__class__") "__get__" = some (some (.builtin "getset_descriptor.__get__")))
    (ht_Threads : PySem.W.takesIn K (.builtin "object.__class__") = some true)
    (hm_Threads : PySem.W.mroIn K C_Threads (.type "object") = some true)
    (ua_Threads : PySem.W.isClsIn K C_Rule = true)
    (ub_Threads : PySem.W.typeIn K (.ref C_Rule) = some (.type "type"))
    (uc_Threads : PySem.W.subIn K (.ref C_Threads) (.ref C_Rule) = some true)
    (ha_Kinds : PySem.W.findIn K (.ref C_Kinds) "__class__" = some (some (.builtin "object.__class__")))
    (hn_Kinds : PySem.W.specialIn K (.builtin "object.__class__") "__get__" = some (some (.builtin "getset_descriptor.__get__")))
    (ht_Kinds : PySem.W.takesIn K (.builtin "object.__class__") = some true)
    (hm_Kinds : PySem.W.mroIn K C_Kinds (.type "object") = some true)
    (ua_Kinds : PySem.W.isClsIn K C_Rule = true)
    (ub_Kinds : PySem.W.typeIn K (.ref C_Rule) = some (.type "type"))
    (uc_Kinds : PySem.W.subIn K (.ref C_Kinds) (.ref C_Rule) = some true)
    (ha_Posts : PySem.W.findIn K (.ref C_Posts) "__class__" = some (some (.builtin "object.__class__")))
    (hn_Posts : PySem.W.specialIn K (.builtin "object.__class__") "__get__" = some (some (.builtin "getset_descriptor.__get__")))
    (ht_Posts : PySem.W.takesIn K (.builtin "object.__class__") = some true)
    (hm_Posts : PySem.W.mroIn K C_Posts (.type "object") = some true)
    (ua_Posts : PySem.W.isClsIn K C_Rule = true)
    (ub_Posts : PySem.W.typeIn K (.ref C_Rule) = some (.type "type"))
    (uc_Posts : PySem.W.subIn K (.ref C_Posts) (.ref C_Rule) = some true)
    (ha_Bits : PySem.W.findIn K (.ref C_Bits) "__class__" = some (some (.builtin "object.__class__")))
    (hn_Bits : PySem.W.specialIn K (.builtin "object.__class__") "__get__" = some (some (.builtin "getset_descriptor.__get__")))
    (ht_Bits : PySem.W.takesIn K (.builtin "object.__class__") = some true)
    (hm_Bits : PySem.W.mroIn K C_Bits (.type "object") = some true)
    (ua_Bits : PySem.W.isClsIn K C_Rule = true)
    (ub_Bits : PySem.W.typeIn K (.ref C_Rule) = some (.type "type"))
    (uc_Bits : PySem.W.subIn K (.ref C_Bits) (.ref C_Rule) = some true)
    (ia_Threads : PySem.W.isClsIn K C_Threads = true)
    (ib_Threads : PySem.W.typeIn K (.ref C_Threads) = some (.type "type"))
    (ia_Kinds : PySem.W.isClsIn K C_Kinds = true)
    (ib_Kinds : PySem.W.typeIn K (.ref C_Kinds) = some (.type "type"))
    (ia_Posts : PySem.W.isClsIn K C_Posts = true)
    (ib_Posts : PySem.W.typeIn K (.ref C_Posts) = some (.type "type"))
    (vc_Kinds_Threads : PySem.W.subIn K (.ref C_Kinds) (.ref C_Threads) = some false)
    (vc_Posts_Threads : PySem.W.subIn K (.ref C_Posts) (.ref C_Threads) = some false)
    (vc_Posts_Kinds : PySem.W.subIn K (.ref C_Posts) (.ref C_Kinds) = some false)
    (vc_Bits_Threads : PySem.W.subIn K (.ref C_Bits) (.ref C_Threads) = some false)
    (vc_Bits_Kinds : PySem.W.subIn K (.ref C_Bits) (.ref C_Kinds) = some false)
    (vc_Bits_Posts : PySem.W.subIn K (.ref C_Bits) (.ref C_Posts) = some false)
    (v_FIGURES : PySem.W.nsIn K mainGlobals "FIGURES" = some (some (.str "0123456789" t_FIGURES)))
    (v_MOST_THINGS : PySem.W.nsIn K mainGlobals "MOST_THINGS" = some (some (.int 16 t_MOST_THINGS)))
    (v_MOST_PLACES : PySem.W.nsIn K mainGlobals "MOST_PLACES" = some (some (.int 20 t_MOST_PLACES)))
    (v_MOST_OF_A_KIND : PySem.W.nsIn K mainGlobals "MOST_OF_A_KIND" = some (some (.int 16 t_MOST_OF_A_KIND)))
    (v_HIGHEST_POST : PySem.W.nsIn K mainGlobals "HIGHEST_POST" = some (some (.int 30 t_HIGHEST_POST)))
    (v_HIGHEST_ROW : PySem.W.nsIn K mainGlobals "HIGHEST_ROW" = some (some (.int 4294967295 t_HIGHEST_ROW)))
    (v_MOST_FIGURES : PySem.W.nsIn K mainGlobals "MOST_FIGURES" = some (some (.int 10 t_MOST_FIGURES)))
    (z_isinstance : PySem.W.nsIn K mainGlobals "isinstance" = some none)
    (z_int : PySem.W.nsIn K mainGlobals "int" = some none)
    (z_bool : PySem.W.nsIn K mainGlobals "bool" = some none)
    (z_list : PySem.W.nsIn K mainGlobals "list" = some none)
    (z_tuple : PySem.W.nsIn K mainGlobals "tuple" = some none)
    (z_len : PySem.W.nsIn K mainGlobals "len" = some none)
    (z_all : PySem.W.nsIn K mainGlobals "all" = some none)
    (z_range : PySem.W.nsIn K mainGlobals "range" = some none)
    (z_min : PySem.W.nsIn K mainGlobals "min" = some none)
    (z_sorted : PySem.W.nsIn K mainGlobals "sorted" = some none)
    (z_set : PySem.W.nsIn K mainGlobals "set" = some none)
    (z_str : PySem.W.nsIn K mainGlobals "str" = some none)
    (z_zip : PySem.W.nsIn K mainGlobals "zip" = some none)
    : ∃ fd : FuncData, (∀ (s : Shared) (v : Value), BindsTo s fd ⟨[v], []⟩ [("_law_script", v)]) ∧ ∀ base : Heap, K.In base → base.Ns mainGlobals mg → FnOk l.prog w K mg base CX0 35 fa fd ["_law_script"] (spLaw K) := by
  have e := hfa.symm.trans (PySem.W.mg_of X G a_law)
  cases e
  have F_is_number := fun_mk (st := s_is_number) l_is_number c_is_number k_is_number
  have g_is_number := PySem.W.mg_of X G a_is_number
  have F_is_within := fun_mk (st := s_is_within) l_is_within c_is_within k_is_within
  have g_is_within := PySem.W.mg_of X G a_is_within
  have F_check_thing := fun_mk (st := s_check_thing) l_check_thing c_check_thing k_check_thing
  have g_check_thing := PySem.W.mg_of X G a_check_thing
  have F_check_set := fun_mk (st := s_check_set) l_check_set c_check_set k_check_set
  have g_check_set := PySem.W.mg_of X G a_check_set
  have F_check_ground := fun_mk (st := s_check_ground) l_check_ground c_check_ground k_check_ground
  have g_check_ground := PySem.W.mg_of X G a_check_ground
  have F_are_within := fun_mk (st := s_are_within) l_are_within c_are_within k_are_within
  have g_are_within := PySem.W.mg_of X G a_are_within
  have F_is_tie := fun_mk (st := s_is_tie) l_is_tie c_is_tie k_is_tie
  have g_is_tie := PySem.W.mg_of X G a_is_tie
  have F_are_posts := fun_mk (st := s_are_posts) l_are_posts c_are_posts k_are_posts
  have g_are_posts := PySem.W.mg_of X G a_are_posts
  have F_gets_post := fun_mk (st := s_gets_post) l_gets_post c_gets_post k_gets_post
  have g_gets_post := PySem.W.mg_of X G a_gets_post
  have F_lessened := fun_mk (st := s_lessened) l_lessened c_lessened k_lessened
  have g_lessened := PySem.W.mg_of X G a_lessened
  have F_written := fun_mk (st := s_written) l_written c_written k_written
  have g_written := PySem.W.mg_of X G a_written
  have F_read := fun_mk (st := s_read) l_read c_read k_read
  have g_read := PySem.W.mg_of X G a_read
  have F_made_of := fun_mk (st := s_made_of) l_made_of c_made_of k_made_of
  have g_made_of := PySem.W.mg_of X G a_made_of
  have F_row_of := fun_mk (st := s_row_of) l_row_of c_row_of k_row_of
  have g_row_of := PySem.W.mg_of X G a_row_of
  have F_strings_of := fun_mk (st := s_strings_of) l_strings_of c_strings_of k_strings_of
  have g_strings_of := PySem.W.mg_of X G a_strings_of
  have F_tie_of := fun_mk (st := s_tie_of) l_tie_of c_tie_of k_tie_of
  have g_tie_of := PySem.W.mg_of X G a_tie_of
  have F_posts_of := fun_mk (st := s_posts_of) l_posts_of c_posts_of k_posts_of
  have g_posts_of := PySem.W.mg_of X G a_posts_of
  have F_numbers_of := fun_mk (st := s_numbers_of) l_numbers_of c_numbers_of k_numbers_of
  have g_numbers_of := PySem.W.mg_of X G a_numbers_of
  have F_number_of := fun_mk (st := s_number_of) l_number_of c_number_of k_number_of
  have g_number_of := PySem.W.mg_of X G a_number_of
  have F__law_cell_at := fun_mk (st := s__law_cell_at) l__law_cell_at c__law_cell_at k__law_cell_at
  have g__law_cell_at := PySem.W.mg_of X G a__law_cell_at
  have F__law_draw := fun_mk (st := s__law_draw) l__law_draw c__law_draw k__law_draw
  have g__law_draw := PySem.W.mg_of X G a__law_draw
  have F__law_made := fun_mk (st := s__law_made) l__law_made c__law_made k__law_made
  have g__law_made := PySem.W.mg_of X G a__law_made
  have F_law := fun_mk (st := s_law) l_law c_law k_law
  have g_law := PySem.W.mg_of X G a_law
  have F_Threads___init__ := fun_mk (st := s_Threads___init__) l_Threads___init__ c_Threads___init__ k_Threads___init__
  have M_Threads___init__ : Meth K C_Threads "__init__" f_Threads___init__ := ⟨a_Threads___init__, i_Threads___init__, k_Threads___init__⟩
  have F_Threads_many := fun_mk (st := s_Threads_many) l_Threads_many c_Threads_many k_Threads_many
  have M_Threads_many : Meth K C_Threads "many" f_Threads_many := ⟨a_Threads_many, i_Threads_many, k_Threads_many⟩
  have F_Threads_free := fun_mk (st := s_Threads_free) l_Threads_free c_Threads_free k_Threads_free
  have M_Threads_free : Meth K C_Threads "free" f_Threads_free := ⟨a_Threads_free, i_Threads_free, k_Threads_free⟩
  have F_Kinds___init__ := fun_mk (st := s_Kinds___init__) l_Kinds___init__ c_Kinds___init__ k_Kinds___init__
  have M_Kinds___init__ : Meth K C_Kinds "__init__" f_Kinds___init__ := ⟨a_Kinds___init__, i_Kinds___init__, k_Kinds___init__⟩
  have F_Kinds_many := fun_mk (st := s_Kinds_many) l_Kinds_many c_Kinds_many k_Kinds_many
  have M_Kinds_many : Meth K C_Kinds "many" f_Kinds_many := ⟨a_Kinds_many, i_Kinds_many, k_Kinds_many⟩
  have F_Kinds_free := fun_mk (st := s_Kinds_free) l_Kinds_free c_Kinds_free k_Kinds_free
  have M_Kinds_free : Meth K C_Kinds "free" f_Kinds_free := ⟨a_Kinds_free, i_Kinds_free, k_Kinds_free⟩
  have F_Posts___init__ := fun_mk (st := s_Posts___init__) l_Posts___init__ c_Posts___init__ k_Posts___init__
  have M_Posts___init__ : Meth K C_Posts "__init__" f_Posts___init__ := ⟨a_Posts___init__, i_Posts___init__, k_Posts___init__⟩
  have F_Posts_many := fun_mk (st := s_Posts_many) l_Posts_many c_Posts_many k_Posts_many
  have M_Posts_many : Meth K C_Posts "many" f_Posts_many := ⟨a_Posts_many, i_Posts_many, k_Posts_many⟩
  have F_Posts_free := fun_mk (st := s_Posts_free) l_Posts_free c_Posts_free k_Posts_free
  have M_Posts_free : Meth K C_Posts "free" f_Posts_free := ⟨a_Posts_free, i_Posts_free, k_Posts_free⟩
  have F_Bits___init__ := fun_mk (st := s_Bits___init__) l_Bits___init__ c_Bits___init__ k_Bits___init__
  have M_Bits___init__ : Meth K C_Bits "__init__" f_Bits___init__ := ⟨a_Bits___init__, i_Bits___init__, k_Bits___init__⟩
  have F_Bits_many := fun_mk (st := s_Bits_many) l_Bits_many c_Bits_many k_Bits_many
  have M_Bits_many : Meth K C_Bits "many" f_Bits_many := ⟨a_Bits_many, i_Bits_many, k_Bits_many⟩
  have F_Bits_free := fun_mk (st := s_Bits_free) l_Bits_free c_Bits_free k_Bits_free
  have M_Bits_free : Meth K C_Bits "free" f_Bits_free := ⟨a_Bits_free, i_Bits_free, k_Bits_free⟩
  have gC_Threads := PySem.W.mg_of X G aC_Threads
  have o_Threads : Own mg "Threads" C_Threads := ⟨_, gC_Threads, rfl⟩
  have gC_Kinds := PySem.W.mg_of X G aC_Kinds
  have o_Kinds : Own mg "Kinds" C_Kinds := ⟨_, gC_Kinds, rfl⟩
  have gC_Posts := PySem.W.mg_of X G aC_Posts
  have o_Posts : Own mg "Posts" C_Posts := ⟨_, gC_Posts, rfl⟩
  have gC_Bits := PySem.W.mg_of X G aC_Bits
  have o_Bits : Own mg "Bits" C_Bits := ⟨_, gC_Bits, rfl⟩
  have gC_Rule := PySem.W.mg_of X G aC_Rule
  have o_Rule : Own mg "Rule" C_Rule := ⟨_, gC_Rule, rfl⟩
  have cl_Threads : Cls K C_Threads := ⟨pg_Threads, hd_Threads, po_Threads, sa_Threads⟩
  have cl_Kinds : Cls K C_Kinds := ⟨pg_Kinds, hd_Kinds, po_Kinds, sa_Kinds⟩
  have cl_Posts : Cls K C_Posts := ⟨pg_Posts, hd_Posts, po_Posts, sa_Posts⟩
  have cl_Bits : Cls K C_Bits := ⟨pg_Bits, hd_Bits, po_Bits, sa_Bits⟩
  have I_Threads : Isi K C_Threads C_Rule := ⟨ha_Threads, hn_Threads, ht_Threads, hm_Threads, kit_up ua_Threads ub_Threads uc_Threads⟩
  have I_Kinds : Isi K C_Kinds C_Rule := ⟨ha_Kinds, hn_Kinds, ht_Kinds, hm_Kinds, kit_up ua_Kinds ub_Kinds uc_Kinds⟩
  have I_Posts : Isi K C_Posts C_Rule := ⟨ha_Posts, hn_Posts, ht_Posts, hm_Posts, kit_up ua_Posts ub_Posts uc_Posts⟩
  have I_Bits : Isi K C_Bits C_Rule := ⟨ha_Bits, hn_Bits, ht_Bits, hm_Bits, kit_up ua_Bits ub_Bits uc_Bits⟩
  have N_MOST_THINGS : Num mg "MOST_THINGS" 16 := ⟨_, PySem.W.mg_of X G v_MOST_THINGS, ⟨_, rfl⟩⟩
  have N_MOST_PLACES : Num mg "MOST_PLACES" 20 := ⟨_, PySem.W.mg_of X G v_MOST_PLACES, ⟨_, rfl⟩⟩
  have N_MOST_OF_A_KIND : Num mg "MOST_OF_A_KIND" 16 := ⟨_, PySem.W.mg_of X G v_MOST_OF_A_KIND, ⟨_, rfl⟩⟩
  have N_HIGHEST_POST : Num mg "HIGHEST_POST" 30 := ⟨_, PySem.W.mg_of X G v_HIGHEST_POST, ⟨_, rfl⟩⟩
  have N_HIGHEST_ROW : Num mg "HIGHEST_ROW" 4294967295 := ⟨_, PySem.W.mg_of X G v_HIGHEST_ROW, ⟨_, rfl⟩⟩
  have N_MOST_FIGURES : Num mg "MOST_FIGURES" 10 := ⟨_, PySem.W.mg_of X G v_MOST_FIGURES, ⟨_, rfl⟩⟩
  have N_FIGURES : Txt_ mg "FIGURES" "0123456789" := ⟨_, PySem.W.mg_of X G v_FIGURES, ⟨_, rfl⟩⟩
  have B_isinstance := PySem.W.mg_none_of X G z_isinstance
  have B_int := PySem.W.mg_none_of X G z_int
  have B_bool := PySem.W.mg_none_of X G z_bool
  have B_list := PySem.W.mg_none_of X G z_list
  have B_tuple := PySem.W.mg_none_of X G z_tuple
  have B_len := PySem.W.mg_none_of X G z_len
  have B_all := PySem.W.mg_none_of X G z_all
  have B_range := PySem.W.mg_none_of X G z_range
  have B_min := PySem.W.mg_none_of X G z_min
  have B_sorted := PySem.W.mg_none_of X G z_sorted
  have B_set := PySem.W.mg_none_of X G z_set
  have B_str := PySem.W.mg_none_of X G z_str
  have B_zip := PySem.W.mg_none_of X G z_zip
  refine ⟨PySem.W.fnOf "law" "law" (defArgs s_law) (defBody s_law) (defScope s_law) .none kV_law dc_law pm_law an_law cd_law ct_law, fun s v => .of_eq rfl, fun base _ _ => ?_⟩
  have B : Bl mg := ⟨B_isinstance, B_int, B_bool, B_list, B_tuple, B_len, B_all, B_range, B_min, B_sorted, B_set⟩
  have GT : Th.Gt K mg C_Threads := ⟨cl_Threads, n_Threads_places, n_Threads_ties, N_MOST_PLACES⟩
  have GK : Ki.Gk K mg C_Kinds := ⟨cl_Kinds, n_Kinds_kinds, n_Kinds_most, N_MOST_OF_A_KIND⟩
  have GP : Po.Gp K mg C_Posts := ⟨cl_Posts, n_Posts_wants, N_HIGHEST_POST⟩
  have GB : Bi.Gb K mg C_Bits := ⟨cl_Bits, n_Bits_rows, N_HIGHEST_ROW⟩
  have D : Dis ⟨C_Threads, C_Kinds, C_Posts, C_Bits⟩ := ⟨apart a_Threads_many a_Kinds_many l_Threads_many l_Kinds_many (by decide), apart a_Threads_many a_Posts_many l_Threads_many l_Posts_many (by decide), apart a_Threads_many a_Bits_many l_Threads_many l_Bits_many (by decide),
    apart a_Kinds_many a_Posts_many l_Kinds_many l_Posts_many (by decide), apart a_Kinds_many a_Bits_many l_Kinds_many l_Bits_many (by decide), apart a_Posts_many a_Bits_many l_Posts_many l_Bits_many (by decide)⟩
  have S : Srt K mg ⟨C_Threads, C_Kinds, C_Posts, C_Bits⟩ := ⟨o_Threads, o_Kinds, o_Posts, o_Bits, ⟨I_Threads.ha, I_Threads.hn, I_Threads.htk, I_Threads.hm⟩, ⟨I_Kinds.ha, I_Kinds.hn, I_Kinds.htk, I_Kinds.hm⟩, ⟨I_Posts.ha, I_Posts.hn, I_Posts.htk, I_Posts.hm⟩, ⟨I_Bits.ha, I_Bits.hn, I_Bits.htk, I_Bits.hm⟩,
    kit_not (Ne.symm D.tk) ia_Threads ib_Threads vc_Kinds_Threads, kit_not (Ne.symm D.tp) ia_Threads ib_Threads vc_Posts_Threads, kit_not (Ne.symm D.kp) ia_Kinds ib_Kinds vc_Posts_Kinds,
    kit_not (Ne.symm D.tb) ia_Threads ib_Threads vc_Bits_Threads, kit_not (Ne.symm D.kb) ia_Kinds ib_Kinds vc_Bits_Kinds, kit_not (Ne.symm D.pb) ia_Posts ib_Posts vc_Bits_Posts⟩
  have U : Up K mg ⟨C_Threads, C_Kinds, C_Posts, C_Bits⟩ C_Rule := ⟨o_Rule, I_Threads.up, I_Kinds.up, I_Posts.up, I_Bits.up⟩
  have r1 := ok_num (P := l.prog) (w := w) (base := base) B F_is_number g_is_number
  have r2 := ok_within F_is_within g_is_within r1
  have r3 := ok_thing F_check_thing g_check_thing r2
  have r4 := ok_set B F_check_set g_check_set r3
  have r5 := ok_ground (P := l.prog) (w := w) (base := base) B ⟨N_MOST_THINGS⟩ F_check_ground g_check_ground
  have r6 := ok_are B F_are_within g_are_within r2
  have r7 := Po.ok_posts B GP F_are_posts g_are_posts r6
  have r8 := Po.ok_gets (P := l.prog) (w := w) (base := base) F_gets_post g_gets_post 31
  have r9 := Th.ok_tie B F_is_tie g_is_tie r2
  have ra := Bi.ok_less (P := l.prog) (w := w) (base := base) B F_lessened g_lessened
  have t1 := Th.ok_init B GT F_Threads___init__ ⟨mk_Threads, a_Threads___init__, i_Threads___init__, kc_Threads⟩ gC_Threads r2 r5 r9
  have t2 := Th.ok_many (P := l.prog) (w := w) (base := base) B GT F_Threads_many M_Threads_many
  have t3 := Th.ok_free B GT F_Threads_free M_Threads_free t2 r4
  have k1 := Ki.ok_init B GK F_Kinds___init__ ⟨mk_Kinds, a_Kinds___init__, i_Kinds___init__, kc_Kinds⟩ gC_Kinds r5 r6
  have k2 := Ki.ok_many (P := l.prog) (w := w) (base := base) B GK F_Kinds_many M_Kinds_many
  have k3 := Ki.ok_free B B_zip GK F_Kinds_free M_Kinds_free k2 r4
  have q1 := Po.ok_init B GP F_Posts___init__ ⟨mk_Posts, a_Posts___init__, i_Posts___init__, kc_Posts⟩ gC_Posts r5 r7
  have q2 := Po.ok_many (P := l.prog) (w := w) (base := base) B GP F_Posts_many M_Posts_many
  have q3 := Po.ok_free B GP F_Posts_free M_Posts_free q2 r4 r8
  have b1 := Bi.ok_init B GB F_Bits___init__ ⟨mk_Bits, a_Bits___init__, i_Bits___init__, kc_Bits⟩ gC_Bits r5 r6
  have b2 := Bi.ok_many (P := l.prog) (w := w) (base := base) B GB F_Bits_many M_Bits_many
  have b3 := Bi.ok_free B GB F_Bits_free M_Bits_free b2 r4 ra
  have mf := met_free4 (c := ⟨C_Threads, C_Kinds, C_Posts, C_Bits⟩) D t3 k3 q3 b3
  have mm := met_many4 (c := ⟨C_Threads, C_Kinds, C_Posts, C_Bits⟩) D t2 k2 q2 b2
  have w1 := ok_strings (P := l.prog) (w := w) (base := base) B_str F_strings_of g_strings_of
  have w2 := ok_row (P := l.prog) (w := w) (base := base) F_row_of g_row_of
  have w3 := ok_written (c := ⟨C_Threads, C_Kinds, C_Posts, C_Bits⟩) B B_str S GT GK GP GB F_written g_written w2 w1
  have n1 := ok_number (P := l.prog) (w := w) (base := base) B ⟨N_MOST_FIGURES, N_FIGURES⟩ F_number_of g_number_of
  have n2 := ok_numbers F_numbers_of g_numbers_of n1
  have n3 := ok_tieOf B F_tie_of g_tie_of n2
  have n4 := ok_postsOf F_posts_of g_posts_of n2
  have n5 := ok_madeOf (c := ⟨C_Threads, C_Kinds, C_Posts, C_Bits⟩) B F_made_of g_made_of n1 n2 n3 n4 t1 k1 q1 b1
  have n6 := ok_read B B_str F_read g_read n5
  have l1 := ok_cellAt (P := l.prog) (w := w) (base := base) B F__law_cell_at g__law_cell_at
  have l2 := ok_draw (P := l.prog) (w := w) (base := base) F__law_draw g__law_draw
  have l3 := ok_made (c := ⟨C_Threads, C_Kinds, C_Posts, C_Bits⟩) B B_str F__law_made g__law_made l2 t1 k1 q1 b1
  exact ok_law B B_str S U GT GK GP GB F_law l1 l2 l3 w3 n6 mm mf
theorem walk {l : PySem.W.OpenLaw} {q : Program} {loose : List Str} {XP : (Str → Option Value) → Heap → Prop} {YP : World → Heap → Prop} {d : DefRec} {K : Params → PySem.W.Frag} (hn : l.most = some 63) (hdf : d.params.defaults = [])
    (hY : ∀ (w : World) (h : Heap), YP w h → (K w.params).In h)
    (F : ∀ (w : World) (mg : Str → Option Value) (fa : Addr) (h : Heap), (K w.params).In h → h.Ns mainGlobals mg → mg d.name = some (.ref fa) →
      ∃ fd : FuncData, (∀ (s : Shared) (u : Value), BindsTo s fd ⟨[u], []⟩ [("_law_script", u)]) ∧ ∀ base : Heap, (K w.params).In base → base.Ns mainGlobals mg → FnOk l.prog w (K w.params) mg base CX0 35 fa fd ["_law_script"] (spLaw (K w.params))) :
    PySem.W.WalkO q loose XP YP l.row.toRowW d [] (fun f vs => PySem.call f vs) :=
  L2.walk_of (n := 63) (k := 35) (x := "_law_script") (CX := fun _ => CX0) (sp := fun w => spLaw (K w.params)) hn (by decide) hdf ⟨rfl, by decide, by decide⟩ hY F (fun _ _ a ns hl _ hS => ⟨a, ns, rfl, hS, hl, fun _ => rfl⟩) fun _ _ _ _ _ z => z
end Fs
open PySem PySem.W PyProof.Rows in
set_option maxRecDepth 100000 in
set_option maxHeartbeats 0 in
theorem PySem.Challenge.cw_freesets_k15_texts_holds : PySem.Challenge.rw_freesets_k15_texts.Holds := by
  w_on; o_law; k_head; (case hw => w_witness2)
  k_fill
  refine Fs.walk (l := PySem.Challenge.rw_freesets_k15_texts) rfl rfl (fun w h Y => PySem.W.kIn_of Y) ?F
  case F =>
    intro w mg fa h KX G hmg
    refine' Fs.all_mk KX G hmg ?aC_Threads ?aC_Kinds ?aC_Posts ?aC_Bits ?aC_Rule ?a_is_number ?l_is_number ?c_is_number ?k_is_number ?a_is_within ?l_is_within ?c_is_within ?k_is_within ?a_check_thing ?l_check_thing ?c_check_thing ?k_check_thing ?a_check_set ?l_check_set ?c_check_set ?k_check_set ?a_check_ground ?l_check_ground ?c_check_ground ?k_check_ground ?a_are_within ?l_are_within ?c_are_within ?k_are_within ?a_is_tie ?l_is_tie ?c_is_tie ?k_is_tie ?a_are_posts ?l_are_posts ?c_are_posts ?k_are_posts ?a_gets_post ?l_gets_post ?c_gets_post ?k_gets_post ?a_lessened ?l_lessened ?c_lessened ?k_lessened ?a_written ?l_written ?c_written ?k_written ?a_read ?l_read ?c_read ?k_read ?a_made_of ?l_made_of ?c_made_of ?k_made_of ?a_row_of ?l_row_of ?c_row_of ?k_row_of ?a_strings_of ?l_strings_of ?c_strings_of ?k_strings_of ?a_tie_of ?l_tie_of ?c_tie_of ?k_tie_of ?a_posts_of ?l_posts_of ?c_posts_of ?k_posts_of ?a_numbers_of ?l_numbers_of ?c_numbers_of ?k_numbers_of ?a_number_of ?l_number_of ?c_number_of ?k_number_of ?a__law_cell_at ?l__law_cell_at ?c__law_cell_at ?k__law_cell_at ?a__law_draw ?l__law_draw ?c__law_draw ?k__law_draw ?a__law_made ?l__law_made ?c__law_made ?k__law_made ?a_law ?l_law ?c_law ?k_law ?a_Threads___init__ ?i_Threads___init__ ?l_Threads___init__ ?c_Threads___init__ ?k_Threads___init__ ?a_Threads_many ?i_Threads_many ?l_Threads_many ?c_Threads_many ?k_Threads_many ?a_Threads_free ?i_Threads_free ?l_Threads_free ?c_Threads_free ?k_Threads_free ?a_Kinds___init__ ?i_Kinds___init__ ?l_Kinds___init__ ?c_Kinds___init__ ?k_Kinds___init__ ?a_Kinds_many ?i_Kinds_many ?l_Kinds_many ?c_Kinds_many ?k_Kinds_many ?a_Kinds_free ?i_Kinds_free ?l_Kinds_free ?c_Kinds_free ?k_Kinds_free ?a_Posts___init__ ?i_Posts___init__ ?l_Posts___init__ ?c_Posts___init__ ?k_Posts___init__ ?a_Posts_many ?i_Posts_many ?l_Posts_many ?c_Posts_many ?k_Posts_many ?a_Posts_free ?i_Posts_free ?l_Posts_free ?c_Posts_free ?k_Posts_free ?a_Bits___init__ ?i_Bits___init__ ?l_Bits___init__ ?c_Bits___init__ ?k_Bits___init__ ?a_Bits_many ?i_Bits_many ?l_Bits_many ?c_Bits_many ?k_Bits_many ?a_Bits_free ?i_Bits_free ?l_Bits_free ?c_Bits_free ?k_Bits_free ?pg_Threads ?hd_Threads ?po_Threads ?sa_Threads ?mk_Threads ?kc_Threads ?pg_Kinds ?hd_Kinds ?po_Kinds ?sa_Kinds ?mk_Kinds ?kc_Kinds ?pg_Posts ?hd_Posts ?po_Posts ?sa_Posts ?mk_Posts ?kc_Posts ?pg_Bits ?hd_Bits ?po_Bits ?sa_Bits ?mk_Bits ?kc_Bits ?n_Threads_places ?n_Threads_ties ?n_Kinds_kinds ?n_Kinds_most ?n_Posts_wants ?n_Bits_rows ?ha_Threads ?hn_Threads ?ht_Threads ?hm_Threads ?ua_Threads ?ub_Threads ?uc_Threads ?ha_Kinds ?hn_Kinds ?ht_Kinds ?hm_Kinds ?ua_Kinds ?ub_Kinds ?uc_Kinds ?ha_Posts ?hn_Posts ?ht_Posts ?hm_Posts ?ua_Posts ?ub_Posts ?uc_Posts ?ha_Bits ?hn_Bits ?ht_Bits ?hm_Bits ?ua_Bits ?ub_Bits ?uc_Bits ?ia_Threads ?ib_Threads ?ia_Kinds ?ib_Kinds ?ia_Posts ?ib_Posts ?vc_Kinds_Threads ?vc_Posts_Threads ?vc_Posts_Kinds ?vc_Bits_Threads ?vc_Bits_Kinds ?vc_Bits_Posts ?v_FIGURES ?v_MOST_THINGS ?v_MOST_PLACES ?v_MOST_OF_A_KIND ?v_HIGHEST_POST ?v_HIGHEST_ROW ?v_MOST_FIGURES ?z_isinstance ?z_int ?z_bool ?z_list ?z_tuple ?z_len ?z_all ?z_range ?z_min ?z_sorted ?z_set ?z_str ?z_zip
    (case aC_Threads => k_is)
    (case aC_Kinds => k_is)
    (case aC_Posts => k_is)
    (case aC_Bits => k_is)
    (case aC_Rule => k_is)
    (case a_is_number => k_is)
    (case l_is_number => k_is)
    (case c_is_number => k_is)
    (case k_is_number => k_is)
    (case a_is_within => k_is)
    (case l_is_within => k_is)
    (case c_is_within => k_is)
    (case k_is_within => k_is)
    (case a_check_thing => k_is)
    (case l_check_thing => k_is)
    (case c_check_thing => k_is)
    (case k_check_thing => k_is)
    (case a_check_set => k_is)
    (case l_check_set => k_is)
    (case c_check_set => k_is)
    (case k_check_set => k_is)
    (case a_check_ground => k_is)
    (case l_check_ground => k_is)
    (case c_check_ground => k_is)
    (case k_check_ground => k_is)
    (case a_are_within => k_is)
    (case l_are_within => k_is)
    (case c_are_within => k_is)
    (case k_are_within => k_is)
    (case a_is_tie => k_is)
    (case l_is_tie => k_is)
    (case c_is_tie => k_is)
    (case k_is_tie => k_is)
    (case a_are_posts => k_is)
    (case l_are_posts => k_is)
    (case c_are_posts => k_is)
    (case k_are_posts => k_is)
    (case a_gets_post => k_is)
    (case l_gets_post => k_is)
    (case c_gets_post => k_is)
    (case k_gets_post => k_is)
    (case a_lessened => k_is)
    (case l_lessened => k_is)
    (case c_lessened => k_is)
    (case k_lessened => k_is)
    (case a_written => k_is)
    (case l_written => k_is)
    (case c_written => k_is)
    (case k_written => k_is)
    (case a_read => k_is)
    (case l_read => k_is)
    (case c_read => k_is)
    (case k_read => k_is)
    (case a_made_of => k_is)
    (case l_made_of => k_is)
    (case c_made_of => k_is)
    (case k_made_of => k_is)
    (case a_row_of => k_is)
    (case l_row_of => k_is)
    (case c_row_of => k_is)
    (case k_row_of => k_is)
    (case a_strings_of => k_is)
    (case l_strings_of => k_is)
    (case c_strings_of => k_is)
    (case k_strings_of => k_is)
    (case a_tie_of => k_is)
    (case l_tie_of => k_is)
    (case c_tie_of => k_is)
    (case k_tie_of => k_is)
    (case a_posts_of => k_is)
    (case l_posts_of => k_is)
    (case c_posts_of => k_is)
    (case k_posts_of => k_is)
    (case a_numbers_of => k_is)
    (case l_numbers_of => k_is)
    (case c_numbers_of => k_is)
    (case k_numbers_of => k_is)
    (case a_number_of => k_is)
    (case l_number_of => k_is)
    (case c_number_of => k_is)
    (case k_number_of => k_is)
    (case a__law_cell_at => k_is)
    (case l__law_cell_at => k_is)
    (case c__law_cell_at => k_is)
    (case k__law_cell_at => k_is)
    (case a__law_draw => k_is)
    (case l__law_draw => k_is)
    (case c__law_draw => k_is)
    (case k__law_draw => k_is)
    (case a__law_made => k_is)
    (case l__law_made => k_is)
    (case c__law_made => k_is)
    (case k__law_made => k_is)
    (case a_law => k_is)
    (case l_law => k_is)
    (case c_law => k_is)
    (case k_law => k_is)
    (case a_Threads___init__ => k_is)
    (case i_Threads___init__ => k_is)
    (case l_Threads___init__ => k_is)
    (case c_Threads___init__ => k_is)
    (case k_Threads___init__ => k_is)
    (case a_Threads_many => k_is)
    (case i_Threads_many => k_is)
    (case l_Threads_many => k_is)
    (case c_Threads_many => k_is)
    (case k_Threads_many => k_is)
    (case a_Threads_free => k_is)
    (case i_Threads_free => k_is)
    (case l_Threads_free => k_is)
    (case c_Threads_free => k_is)
    (case k_Threads_free => k_is)
    (case a_Kinds___init__ => k_is)
    (case i_Kinds___init__ => k_is)
    (case l_Kinds___init__ => k_is)
    (case c_Kinds___init__ => k_is)
    (case k_Kinds___init__ => k_is)
    (case a_Kinds_many => k_is)
    (case i_Kinds_many => k_is)
    (case l_Kinds_many => k_is)
    (case c_Kinds_many => k_is)
    (case k_Kinds_many => k_is)
    (case a_Kinds_free => k_is)
    (case i_Kinds_free => k_is)
    (case l_Kinds_free => k_is)
    (case c_Kinds_free => k_is)
    (case k_Kinds_free => k_is)
    (case a_Posts___init__ => k_is)
    (case i_Posts___init__ => k_is)
    (case l_Posts___init__ => k_is)
    (case c_Posts___init__ => k_is)
    (case k_Posts___init__ => k_is)
    (case a_Posts_many => k_is)
    (case i_Posts_many => k_is)
    (case l_Posts_many => k_is)
    (case c_Posts_many => k_is)
    (case k_Posts_many => k_is)
    (case a_Posts_free => k_is)
    (case i_Posts_free => k_is)
    (case l_Posts_free => k_is)
    (case c_Posts_free => k_is)
    (case k_Posts_free => k_is)
    (case a_Bits___init__ => k_is)
    (case i_Bits___init__ => k_is)
    (case l_Bits___init__ => k_is)
    (case c_Bits___init__ => k_is)
    (case k_Bits___init__ => k_is)
    (case a_Bits_many => k_is)
    (case i_Bits_many => k_is)
    (case l_Bits_many => k_is)
    (case c_Bits_many => k_is)
    (case k_Bits_many => k_is)
    (case a_Bits_free => k_is)
    (case i_Bits_free => k_is)
    (case l_Bits_free => k_is)
    (case c_Bits_free => k_is)
    (case k_Bits_free => k_is)
    (case pg_Threads => k_is)
    (case hd_Threads => k_is)
    (case po_Threads => k_is)
    (case sa_Threads => k_is)
    (case mk_Threads => k_is)
    (case kc_Threads => k_is)
    (case pg_Kinds => k_is)
    (case hd_Kinds => k_is)
    (case po_Kinds => k_is)
    (case sa_Kinds => k_is)
    (case mk_Kinds => k_is)
    (case kc_Kinds => k_is)
    (case pg_Posts => k_is)
    (case hd_Posts => k_is)
    (case po_Posts => k_is)
    (case sa_Posts => k_is)
    (case mk_Posts => k_is)
    (case kc_Posts => k_is)
    (case pg_Bits => k_is)
    (case hd_Bits => k_is)
    (case po_Bits => k_is)
    (case sa_Bits => k_is)
    (case mk_Bits => k_is)
    (case kc_Bits => k_is)
    (case n_Threads_places => k_is)
    (case n_Threads_ties => k_is)
    (case n_Kinds_kinds => k_is)
    (case n_Kinds_most => k_is)
    (case n_Posts_wants => k_is)
    (case n_Bits_rows => k_is)
    (case ha_Threads => k_is)
    (case hn_Threads => k_is)
    (case ht_Threads => k_is)
    (case hm_Threads => k_is)
    (case ua_Threads => k_is)
    (case ub_Threads => k_is)
    (case uc_Threads => k_is)
    (case ha_Kinds => k_is)
    (case hn_Kinds => k_is)
    (case ht_Kinds => k_is)
    (case hm_Kinds => k_is)
    (case ua_Kinds => k_is)
    (case ub_Kinds => k_is)
    (case uc_Kinds => k_is)
    (case ha_Posts => k_is)
    (case hn_Posts => k_is)
    (case ht_Posts => k_is)
    (case hm_Posts => k_is)
    (case ua_Posts => k_is)
    (case ub_Posts => k_is)
    (case uc_Posts => k_is)
    (case ha_Bits => k_is)
    (case hn_Bits => k_is)
    (case ht_Bits => k_is)
    (case hm_Bits => k_is)
    (case ua_Bits => k_is)
    (case ub_Bits => k_is)
    (case uc_Bits => k_is)
    (case ia_Threads => k_is)
    (case ib_Threads => k_is)
    (case ia_Kinds => k_is)
    (case ib_Kinds => k_is)
    (case ia_Posts => k_is)
    (case ib_Posts => k_is)
    (case vc_Kinds_Threads => k_is)
    (case vc_Posts_Threads => k_is)
    (case vc_Posts_Kinds => k_is)
    (case vc_Bits_Threads => k_is)
    (case vc_Bits_Kinds => k_is)
    (case vc_Bits_Posts => k_is)
    (case v_FIGURES => k_is)
    (case v_MOST_THINGS => k_is)
    (case v_MOST_PLACES => k_is)
    (case v_MOST_OF_A_KIND => k_is)
    (case v_HIGHEST_POST => k_is)
    (case v_HIGHEST_ROW => k_is)
    (case v_MOST_FIGURES => k_is)
    (case z_isinstance => k_is)
    (case z_int => k_is)
    (case z_bool => k_is)
    (case z_list => k_is)
    (case z_tuple => k_is)
    (case z_len => k_is)
    (case z_all => k_is)
    (case z_range => k_is)
    (case z_min => k_is)
    (case z_sorted => k_is)
    (case z_set => k_is)
    (case z_str => k_is)
    (case z_zip => k_is)
