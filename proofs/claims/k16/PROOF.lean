import PyProof.Rows.All
import Wide.All
import OpenK.AllK
import Wide.FinOn
import PyProof.EqAt
import PyProof.EqKinds
import PyProof.TupleCall
import HandS.ForMost
import HandS.Codes
import HandS.IsInst
import HandS.Conv
import HandS.Style
import HandS.SetFor
import KE.KEqSeq
import HandS.Deep
import HandS.Zip
import HandS.Text
import HandS.FStr
import HandS.ExcCtx
import HandS.SuiteRaise
import HandS.RaiseFrom
import HandS.WordsExc
import HandS.ExcIs
import KE.GoesMore
import KE.GoesEnum
import KE.GoesRaise
import PySem.Challenge.RW_freesets_k16_bad_texts
set_option Elab.async false
set_option linter.all false
set_option maxRecDepth 100000
set_option maxHeartbeats 2000000
/-! ### texts: numbers, words, rows -/
namespace Tx
open PySem TL
/-- a number, as it is written -/
def num (n : Nat) : Str := Str.ofString (toString ((n : Nat) : Int))
abbrev blank : Str := Str.ofString " "
abbrev colon : Str := Str.ofString ":"
abbrev dash : Str := Str.ofString "-"
abbrev comma : Str := Str.ofString ","
theorem tl_num' (n : Nat) : tl (num n) = numL n := tl_num n
theorem tl_blank : tl blank = [32] := tl_ofString " "
theorem tl_colon : tl colon = [58] := tl_ofString ":"
theorem tl_dash : tl dash = [45] := tl_ofString "-"
theorem tl_comma : tl comma = [44] := tl_ofString ","
theorem tl_empty : tl Str.empty = [] := rfl
theorem tl_e : tl (Str.ofString "") = [] := tl_ofString ""
theorem e_empty : Str.ofString "" = Str.empty := ext_tl (by rw [tl_e, tl_empty])
theorem num_lt {n s : Nat} (h : s < 48 ∨ 57 < s) : s ∉ tl (num n) := by rw [tl_num']; exact numL_free h
theorem num_len {n : Nat} (h : n < 10 ^ 10) : (num n).length ≤ 10 := by rw [len_tl, tl_num']; exact numL_len (by decide) h
theorem num_ne (n : Nat) : num n ≠ Str.ofString "" := fun e => by
  have := congrArg tl e
  rw [tl_num', tl_e] at this
  exact numL_ne n this
theorem num_int {n : Nat} (h : n < 10 ^ 10) : intText? (num n) = some (n : Int) := int_num (Nat.le_trans (numL_len (k := 10) (by decide) h) (by decide))
theorem numL_nought : ∀ {n : Nat}, (∃ r, numL n = 48 :: r) → n = 0 := by
  intro n
  induction n using Nat.strongRecOn with
  | _ n ih =>
    rintro ⟨r, e⟩
    by_cases h : n < 10
    · rw [numL_lt h] at e
      injection e with e _
      omega
    · rw [numL_step (by omega)] at e
      cases q : numL (n / 10) with
      | nil => exact absurd q (numL_ne _)
      | cons c r' =>
        rw [q] at e
        injection e with e _
        have := ih (n / 10) (by omega) ⟨r', by rw [q, e]⟩
        omega
theorem starts_iff {x y : Str} (hy : tl y ≠ []) : Txt.startswith x y = true ↔ pre (tl y) (tl x) = true := by
  have := at_iff (x := x) hy 0
  rw [List.drop_zero] at this
  rw [← this]
  unfold Txt.startswith PySem.StrLaws.At
  rw [Bool.and_eq_true, decide_eq_true_eq]
theorem num_starts {n : Nat} (h : Txt.startswith (num n) (Str.ofString "0") = true) : n = 0 := by
  have e0 : tl (Str.ofString "0") = [48] := tl_ofString "0"
  rw [starts_iff (by rw [e0]; decide), e0, tl_num'] at h
  refine numL_nought ?_
  cases q : numL n with
  | nil => exact absurd q (numL_ne n)
  | cons c r =>
    rw [q] at h
    have : [c] = [48] := eq_of_beq h
    injection this with this _
    exact ⟨r, by rw [this]⟩
theorem num_zero : num 0 = Str.ofString "0" := rfl
/-- each sign of a number is a figure -/
theorem num_figs (n : Nat) : ∀ c ∈ tl (num n), c ∈ tl (Str.ofString "0123456789") := fun c hc => by
  rw [tl_num'] at hc
  have r := numL_digits n c hc
  have e : tl (Str.ofString "0123456789") = [48, 49, 50, 51, 52, 53, 54, 55, 56, 57] := tl_ofString "0123456789"
  rw [e]
  obtain ⟨r1, r2⟩ := r
  simp only [List.mem_cons, List.not_mem_nil, or_false]
  omega
/-- joined by nothing -/
theorem joinL_nil : ∀ ps : List (List Nat), joinL [] ps = ps.flatten
  | [] => rfl
  | [p] => by show p = p ++ []; rw [List.append_nil]
  | p :: q :: r => by
    show p ++ ([] ++ joinL [] (q :: r)) = p ++ (q :: r).flatten
    rw [joinL_nil (q :: r), List.nil_append]
theorem joinL_cons (S p : List Nat) : ∀ ps : List (List Nat), joinL S (p :: ps) = p ++ (ps.map (S ++ ·)).flatten
  | [] => by show p = p ++ []; rw [List.append_nil]
  | q :: r => by
    show p ++ (S ++ joinL S (q :: r)) = p ++ ((S ++ q) ++ (r.map (S ++ ·)).flatten)
    rw [joinL_cons S q r, List.append_assoc]
/-- the row: what stands behind the head -/
def body (ws : List Str) : Str := Txt.join (Str.ofString "") (ws.map (blank ++ ·))
def row (h : Str) (ws : List Str) : Str := Txt.join blank ((h ++ colon) :: ws)
theorem tl_body (ws : List Str) : tl (body ws) = ((ws.map tl).map ([32] ++ ·)).flatten := by
  unfold body
  rw [join_eq, tl_join, tl_e, joinL_nil, List.map_map, List.map_map]
  congr 1
  refine List.map_congr_left fun w _ => ?_
  show tl (blank ++ w) = [32] ++ tl w
  rw [tl_append, tl_blank]
theorem row_eq (h : Str) (ws : List Str) : h ++ colon ++ body ws = row h ws := by
  refine ext_tl ?_
  unfold row
  rw [tl_append, tl_body, join_eq, tl_join, List.map_cons, tl_blank, joinL_cons]
theorem body_split (ws : List Str) (h : ∀ w ∈ ws, 32 ∉ tl w) : Txt.split (body ws) blank = Str.ofString "" :: ws := by
  have e : body ws = Txt.join blank (Str.ofString "" :: ws) := by
    refine ext_tl ?_
    rw [tl_body, join_eq, tl_join, List.map_cons, tl_blank, tl_e, joinL_cons, List.nil_append]
  rw [e]
  refine split_join tl_blank (by decide +kernel) (by simp) fun p hp => ?_
  rcases List.mem_cons.mp hp with e | e
  · rw [e, tl_e]; simp
  · exact h p e
theorem row_cut {h : Str} (ws : List Str) (n : 58 ∉ tl h) : Txt.partition (row h ws) colon = (h, colon, body ws) := by
  rw [← row_eq]
  exact partition_app tl_colon n
theorem body_nil {ws : List Str} (h : body ws = Str.ofString "") : ws = [] := by
  cases ws with
  | nil => rfl
  | cons w r =>
    have := congrArg tl h
    rw [tl_body, tl_e] at this
    cases this
theorem body_starts {ws : List Str} (h : body ws ≠ Str.ofString "") : Txt.startswith (body ws) blank = true := by
  cases ws with
  | nil => exact absurd rfl h
  | cons w r =>
    rw [starts_iff (by rw [tl_blank]; decide), tl_blank, tl_body]
    exact pre_self [32] _
theorem join_len (y : Str) : ∀ ps : List Str, (Txt.join y ps).length ≤ (ps.map (·.length)).sum + ps.length * y.length
  | [] => by rw [join_eq]; exact Nat.zero_le _
  | [p] => by
    rw [join_eq]
    show p.length ≤ (p.length + 0) + 1 * y.length
    omega
  | p :: q :: r => by
    have ih := join_len y (q :: r)
    rw [join_eq] at ih ⊢
    have e : (Str.join y (p :: q :: r)).length = p.length + y.length + (Str.join y (q :: r)).length := by
      rw [len_tl, len_tl p, len_tl y, len_tl (Str.join y (q :: r))]
      show (tl (p ++ y ++ Str.join y (q :: r))).length = _
      rw [tl_append, tl_append, List.length_append, List.length_append]
    rw [e, List.map_cons, List.sum_cons, List.length_cons, Nat.succ_mul]
    omega
theorem sum_le {ps : List Str} {k : Nat} (h : ∀ p ∈ ps, p.length ≤ k) : (ps.map (·.length)).sum ≤ ps.length * k := by
  induction ps with
  | nil => exact Nat.zero_le _
  | cons p r ih =>
    have := ih fun q hq => h q (List.mem_cons_of_mem _ hq)
    have hp := h p (List.mem_cons_self ..)
    rw [List.map_cons, List.sum_cons, List.length_cons, Nat.succ_mul]
    omega
theorem join_le {y : Str} {ps : List Str} {k : Nat} (h : ∀ p ∈ ps, p.length ≤ k) : (Txt.join y ps).length ≤ ps.length * (k + y.length) := by
  have a := join_len y ps
  have b := sum_le h
  rw [Nat.mul_add]
  omega
theorem append_len (a b : Str) : (a ++ b).length = a.length + b.length := by
  rw [len_tl, tl_append, List.length_append, ← len_tl, ← len_tl]
theorem not_join {s : Nat} {y : Str} {ps : List Str} (hy : s ∉ tl y) (h : ∀ p ∈ ps, s ∉ tl p) : s ∉ tl (Txt.join y ps) := by
  rw [join_eq, tl_join]
  induction ps with
  | nil => simp [joinL]
  | cons p r ih =>
    rw [List.map_cons, joinL_cons]
    intro hm
    rcases List.mem_append.mp hm with e | e
    · exact h p (List.mem_cons_self ..) e
    · obtain ⟨l, hl, hs⟩ := List.mem_flatten.mp e
      obtain ⟨q, hq, rfl⟩ := List.mem_map.mp hl
      obtain ⟨z, hz, rfl⟩ := List.mem_map.mp hq
      rcases List.mem_append.mp hs with e | e
      · exact hy e
      · exact h z (List.mem_cons_of_mem _ hz) e
/-- a tie's word -/
def tie (e : Nat × Nat) : Str := num e.1 ++ dash ++ num e.2
theorem tie_split (e : Nat × Nat) : Txt.split (tie e) dash = [num e.1, num e.2] := by
  have q : tie e = Txt.join dash [num e.1, num e.2] := by rw [join_eq]; rfl
  rw [q]
  refine split_join tl_dash (by decide +kernel) (by simp) fun p hp => ?_
  simp only [List.mem_cons, List.not_mem_nil, or_false] at hp
  rcases hp with rfl | rfl <;> exact num_lt (.inl (by decide))
theorem tie_free {s : Nat} (h : s < 45 ∨ 57 < s) (e : Nat × Nat) : s ∉ tl (tie e) := by
  unfold tie
  rw [tl_append, tl_append, tl_dash]
  intro hm
  rcases List.mem_append.mp hm with hm | hm
  · rcases List.mem_append.mp hm with hm | hm
    · exact num_lt (by omega) hm
    · rw [List.mem_singleton.mp hm] at h
      omega
  · exact num_lt (by omega) hm
/-- wants -/
def want (w : List Nat) : Str := if w = [] then dash else Txt.join comma (w.map num)
theorem want_split {w : List Nat} (h : w ≠ []) : Txt.split (want w) comma = w.map num := by
  unfold want
  rw [if_neg h]
  refine split_join tl_comma (by decide +kernel) (fun e => h (List.map_eq_nil_iff.mp e)) fun p hp => ?_
  obtain ⟨n, _, rfl⟩ := List.mem_map.mp hp
  exact num_lt (.inl (by decide))
theorem want_dash {w : List Nat} (h : w ≠ []) : want w ≠ dash := fun e => by
  unfold want at e
  rw [if_neg h] at e
  have m : 45 ∈ tl dash := by rw [tl_dash]; exact List.mem_singleton.mpr rfl
  rw [← e] at m
  exact not_join (by rw [tl_comma]; decide) (fun p hp => by
    obtain ⟨n, _, rfl⟩ := List.mem_map.mp hp
    exact num_lt (.inl (by decide))) m
theorem want_free {s : Nat} (h : s < 44 ∨ 57 < s) (w : List Nat) : s ∉ tl (want w) := by
  unfold want
  by_cases c : w = []
  · rw [if_pos c, tl_dash]
    intro hm
    rw [List.mem_singleton.mp hm] at h
    omega
  · rw [if_neg c]
    refine not_join (by rw [tl_comma]; intro hm; rw [List.mem_singleton.mp hm] at h; omega) fun p hp => ?_
    obtain ⟨n, _, rfl⟩ := List.mem_map.mp hp
    exact num_lt (by omega)
end Tx
/-! ### an exception out of a list comprehension -/
namespace LcX
open PySem PySem.Spec PyProof.Rows L2
section
variable {M : Model} {A : Around} {E : Value → Shared → Prop} {s : Shared} {Z : Obj → Prop} {base : Heap} {env : Env} {outer : List Env} {L e : Addr}
/-- noted by another frame, or by none: this frame notes it -/
theorem looks_anyZ {fl : Value} {Q : Unit → Shared → Prop} (hZ : PXN.Steady1 Z) (hfr : A.frames = some (env :: outer)) (hf : env.frame = some L) (hne : (fl == rawInt L) = false)
    (hkb : base.StaysIn s.heap) (hen : base.get? e = none) (hl : s.heap.FunFrames base (env :: outer)) (ht : HandSPX.TracedZ s.heap base e Z fl)
    (hQ : ∀ h', HandSPX.HeldZ base (env :: outer) e Z L h' → s.heap.UpToSlots h' → Q () { s with heap := h' }) : wpAny M A (noteFrame (.ref e) env) Q E s := by
  obtain ⟨oe, vs, T, oT, ts, he, hz, hd, h1, hnT, hTe, hT, hdT, h3⟩ := ht
  unfold noteFrame
  simp only [hf]
  refine wpAny_bind (wpAny_field he hd h1 ?_)
  rw [if_pos (show (Value.ref T != Value.none) = true from by simp)]
  refine wpAny_bind (wpAny_field hT hdT h3 ?_)
  rw [if_neg (show ¬ ((fl == rawInt L) = true) from by rw [hne]; exact Bool.false_ne_true)]
  refine wpAny_bind (wpAny_setField hT hdT (Array.getElem?_eq_some_iff.mp h3).1 ?_)
  have other : ∀ b, b ≠ T → (s.heap.update T (Obj.mapFields (·.setIfInBounds 3 Value.none))).get? b = s.heap.get? b := fun b hb => Heap.get?_update_other _ _ (Ne.symm hb)
  have noRecord : ∀ b o, s.heap.get? b = some o → (∀ vs, o.data ≠ .fields vs) → b ≠ T := fun b o hb hnf q => by
    rw [q, hT] at hb; injection hb with hb; subst hb; exact hnf ts hdT
  refine PXN.wpAny_entryZ hZ hfr (hl.of_keeps fun b o hb hnf => ⟨o, (other b (noRecord b o hb hnf)).trans hb, rfl⟩) hf ((other e (Ne.symm hTe)).trans he)
    (fun b o hbo => (other b fun q => by rw [q, hnT] at hbo; cases hbo).trans (hkb b o hbo)) hen hd (Array.getElem?_eq_some_iff.mp h1).1 hz fun h' hN => ?_
  obtain ⟨x1, x2, x3, x4⟩ := hN
  exact hQ h' ⟨x1, hen, x2, x3⟩ fun b o hb hnf => x4 b o ((other b (noRecord b o hb hnf)).trans hb) hnf
end

/-- the context of a block, with what is wished of an exception that leaves the block -/
abbrev blkX (X : Cx) (s : Shared) (H : Hp) (scope : Scope) (cenv : Env) (fp : List Addr) (xe : Value → Shared → Prop) : Cx :=
  { X with s_0 := s, H_0 := H, env := cenv, outer := X.stack, ex := fp, fn := fun x => scope.names.lookup x == some .cell, pn := [], xe := xe }
section
variable {X : Cx} {pins : List (Addr × Obj)} {σ : L2.St} {H3 : Hp} {s3 : Shared}
/-- an exception in the block's air goes on in the def's own -/
theorem takes_blk {W : WX} {scope : Scope} {ce : Env} {fp : List Addr} (hs : X.stack = X.env :: X.outer) (hf : X.env.frame = some X.env.locals) (hcf : ce.frame = X.env.frame) (hC : s3.heap.objs.size ≤ ce.locals)
    (I3 : Inv X pins σ H3 s3) (f3 : ∀ b ∈ fp, FpOk X pins H3 b) (tk : L2N.Takes X W) :
    L2N.Takes (blkX X s3 H3 scope ce fp (notedBy (model X.prog X.w) X.A ce (CompFails (model X.prog X.w) X.A X.xe ce))) (fun cls d _ H => W cls d σ H) := by
  intro u s' x
  obtain ⟨a, B, sI, pins', σ', H', cls, d, rfl, J, nb, up, sky, na, os, ag, w⟩ := x
  obtain ⟨m, hn, _⟩ := id J.loc
  have hn : sI.heap.Ns ce.locals m := hn
  have nC : H' ce.locals = none := J.free
  have hfr : X.A.frames = some (X.env :: X.outer) := by rw [I3.ok.frames, hs]
  have hlt : X.env.locals < s3.heap.objs.size := I3.lt
  have hCL : ce.locals ≠ X.env.locals := fun z => by
    rw [z] at hC
    exact absurd (Nat.lt_of_lt_of_le hlt hC) (Nat.lt_irrefl _)
  have below : ∀ b o, s3.heap.get? b = some o → b ∉ [ce.locals] := fun b o e hm => by
    have z := List.mem_singleton.mp hm
    have l := Heap.lt_size e
    rw [z] at l
    exact absurd (Nat.lt_of_lt_of_le l hC) (Nat.lt_irrefl _)
  show wpAny (model X.prog X.w) X.A (noteFrame (.ref a) ce) (fun _ s'' => CompFails (model X.prog X.w) X.A X.xe ce (.ref a) s'') _ s'
  rw [noteFrame_env _ hcf]
  have fin : ∀ h1, HandSPX.HeldZ B (X.env :: X.outer) a (L2N.Zn cls d) X.env.locals h1 → s'.heap.UpToSlots h1 → CompFails (model X.prog X.w) X.A X.xe ce (.ref a) { s' with heap := h1 } := by
    intro h1 hh up1
    have hn1 : h1.Ns ce.locals m := (hn.upToSlots up).upToSlots up1
    refine ⟨m, hn1, fun h2 m2 hn2 hs2 => ?_⟩
    obtain ⟨b1, b0, f1, oe, vs, T, oT, ts, he, hz, hd, e1, hnT, hTe, hT, hdT, e3⟩ := hh
    obtain ⟨oL, es, ep, hoL, hdL, _⟩ := id hn1
    have aC : a ≠ ce.locals := fun z => by
      rw [z, hoL] at he; cases he
      rw [hdL] at hd; cases hd
    have tC : T ≠ ce.locals := fun z => by
      rw [z, hoL] at hT; cases hT
      rw [hdL] at hdT; cases hdT
    obtain ⟨B', hB'⟩ : ∃ B', B' = PySem.W.hideAll B [ce.locals] := ⟨_, rfl⟩
    have oB : ∀ b o, B'.get? b = some o → B.get? b = some o := fun b o e => by rw [hB'] at e; exact PySem.W.of_hideAll _ e
    have nB : B'.get? ce.locals = none := by rw [hB']; exact PySem.W.hideAll_none _ (List.mem_singleton.mpr rfl)
    have noB : ∀ b, B.get? b = none → B'.get? b = none := fun b e => by
      cases q : B'.get? b with
      | none => rfl
      | some o => have z := oB b o q; rw [e] at z; cases z
    have b2 : B'.StaysIn h2 := fun b o hb => (hs2.2 b fun q => by rw [q, nB] at hb; cases hb).trans (b1 b o (oB b o hb))
    have f2 : h2.FunFrames B' (X.env :: X.outer) := funFrames_none (Heap.FunFrames.sameBut hs2 hn2 f1) fun b hb => noB b (f1.mem hb).1
    have he2 : h2.get? a = some oe := (hs2.2 a aC).trans he
    have hT2 : h2.get? T = some oT := (hs2.2 T tC).trans hT
    have held2 : HandSPX.HeldZ B' (X.env :: X.outer) a (L2N.Zn cls d) X.env.locals h2 := ⟨b2, noB _ b0, f2, oe, vs, T, oT, ts, he2, hz, hd, e1, noB _ hnT, hTe, hT2, hdT, e3⟩
    unfold PySem.passOn
    refine wpAny_bind (wpAny_field he2 hd e1 ?_)
    rw [if_neg (show ¬ ((Value.ref T == Value.none) = true) from by simp)]
    have go : wpAny (model X.prog X.w) X.A (setFlight (.ref a) ce.frame) (fun _ s4 => wpAny (model X.prog X.w) X.A (throw (.ref a) : Sem Value) (fun _ _ => False) X.xe s4) X.xe { s' with heap := h2 } := by
      rw [hcf, hf]
      refine HandSPX.setFlight_onZ (s := { s' with heap := h2 }) held2 fun h3 held3 up3 => wpAny_throw (tk _ _ ?_)
      have JX : Inv X pins σ H' { sI with heap := PySem.W.hideAll sI.heap [ce.locals] } := by
        refine I3.call' (ch := fp) (s' := { sI with heap := PySem.W.hideAll sI.heap [ce.locals] }) J.os ?_ ?_ J.bare fun b hb => ⟨(f3 b hb).2.2.2.1, (f3 b hb).2.1, (f3 b hb).2.2.2.2.1, (f3 b hb).2.2.2.2.2⟩
        · refine ⟨fun b o e n hb hx => PySem.W.hideAll_get _ (J.base.keep b o e n hb hx) (below b o e), fun b o e n hb hx => ?_, fun b o e n hx => J.base.free b o e n hx, fun b o e hx => ?_, J.base.tups, J.base.frzs, J.base.tbls⟩
          · obtain ⟨sl, q⟩ := J.base.slot b o e n hb hx
            exact ⟨sl, PySem.W.hideAll_get _ q (below b o e)⟩
          · obtain ⟨o', q⟩ := J.base.there b o e hx
            exact ⟨o', PySem.W.hideAll_get _ q (below b o e)⟩
        · intro b ob e
          refine (J.hok b ob e).stay (fun c w' hc q => PySem.W.hideAll_get _ q fun hm => ?_) (fun _ q => q) fun _ _ q => q
          have z := List.mem_singleton.mp hm
          have z2 : H' c = none := by rw [z]; exact nC
          rcases hc with hc | hc
          · rw [hc, e] at z2; cases z2
          · rw [hc] at z2; cases z2
      refine ⟨a, B', { sI with heap := PySem.W.hideAll sI.heap [ce.locals] }, pins, σ, H', cls, d, rfl, JX, fun b o e hb => ?_, fun b o e hnf => ?_, .inr (.inr (by rw [hs]; exact held3)), na, os, ag, w⟩
      · rw [hB']
        refine PySem.W.hideAll_get _ (nb b o (PySem.W.of_hideAll _ e) hb) fun hm => ?_
        rw [PySem.W.hideAll_none _ hm] at e; cases e
      · have nbC : b ≠ ce.locals := fun z => by
          rw [z, PySem.W.hideAll_none _ (List.mem_singleton.mpr rfl)] at e; cases e
        obtain ⟨sl, q⟩ := up b o (PySem.W.of_hideAll _ e) hnf
        obtain ⟨sl1, q1⟩ := up1 b _ q hnf
        have q2 : h2.get? b = some { o with slots := sl1 } := (hs2.2 b nbC).trans q1
        obtain ⟨sl3, q3⟩ := up3 b _ q2 hnf
        exact ⟨sl3, q3⟩
    first
      | exact wpAny_bind go
      | exact wpAny_bind (wpAny_pure (wpAny_bind go))
  have sky : Sky B X.stack a (L2N.Zn cls d) ce.locals s'.heap := sky
  rw [hs] at sky
  rcases sky with ⟨hB, hna, hl, oe, vs, he, hz, hd, h1⟩ | fl | hh
  · exact PXN.look_newZ L2N.Zn.steady hfr hl hf he hB hna hd h1 hz fin
  · exact PXN.looks_onZ L2N.Zn.steady hfr hf fl fin
  · obtain ⟨k1, k2, k3, k4⟩ := hh
    refine looks_anyZ L2N.Zn.steady hfr hf ?_ k1 k2 k3 k4 fin
    rw [beq_eq_false_iff_ne]
    intro z
    simp [rawInt] at z
    exact hCL (Int.ofNat.inj z)
end

section
variable {X : Cx}
/-- [elt for target in iter if ..] whose element may raise -/
theorem pe_lcX {E : XK} {elt tg iter : Expr} {ifs : List Expr} {scope : Scope} {own : List (Str × Nat)} {pos : Pos} {wi : TI} {g : TG} {tt : TT} {te : TE} (hs : X.stack = X.env :: X.outer) (hf : X.env.frame = some X.env.locals) (tk : L2N.Takes X (fun cls d _ H => E cls d H))
    (hc : X.calm = true) (hN : X.N.Nodup) (hi : PI X tg iter wi) (ok : BlkOk X.N X.env.scope scope own)
    (hg : ∀ (s : Shared) (H : Hp) (C : Addr) (cl : List (Str × Addr)) (fp : List Addr) (xe : Value → Shared → Prop), PG (blkX X s H scope (compEnvC scope cl C X.env) fp xe) tg g)
    (ht : ∀ (s : Shared) (H : Hp) (C : Addr) (cl : List (Str × Addr)) (fp : List Addr) (xe : Value → Shared → Prop), L2N.Takes (blkX X s H scope (compEnvC scope cl C X.env) fp xe) (fun cls d _ H => E cls d H) → PTs (blkX X s H scope (compEnvC scope cl C X.env) fp xe) ifs tt)
    (he : ∀ (s : Shared) (H : Hp) (C : Addr) (cl : List (Str × Addr)) (fp : List Addr) (xe : Value → Shared → Prop), L2N.Takes (blkX X s H scope (compEnvC scope cl C X.env) fp xe) (fun cls d _ H => E cls d H) → PE (blkX X s H scope (compEnvC scope cl C X.env) fp xe) elt te)
    (hsf : ∀ x, foldedSetIterable iter X.env x = pure x := by intro _; rfl) :
    PE X (.ListComp elt [⟨tg, iter, ifs, 0⟩] scope pos) (tLc wi g tt te (own.map (·.2))) := by
  refine ⟨fun pins s σ H Q I h => ?_⟩
  rw [eval_ListComp]
  have hfree : ∀ y ∈ scope.names, y.2 = .free → ∃ c, X.env.cells.lookup y.1 = some c := fun y hy e => by
    rcases ok.free y hy e with k | k
    · exact I.ok.has _ (.inl k)
    · exact I.ok.has _ (.inr k)
  refine comprehension_at (use := none) rfl hsf (closure_ok hfree) ok.kind (fun y hy e => by rw [ok.uniq y hy, e])
    (thn (hi.run pins s σ H _ I h) fun xv s1 hx => thn hx fun itv s2 h2 => ?_)
  obtain ⟨it, fp, tn, J, H2, e, I2, T, st2, f2, q⟩ := h2
  subst e
  refine wpAny_newObj_type (newEnv_comp ?_) (by show 0 ≤ sizeLine; decide)
  generalize hD : s2.heap.objs.size = D
  have hDn : H2 D = none := I2.hok.fresh (Nat.le_of_eq hD)
  obtain ⟨W, ⟨m0, w0⟩, turn⟩ := q D hDn
  generalize hs3 : ({ s2 with heap := s2.heap.push { cls := .type "list", data := .seq ([] : List Value).toArray } } : Shared) = s3
  have I3 : Inv X pins σ (upd H2 D (.lst [])) s3 := by
    rw [← hs3]
    refine I2.laid (t' := s2.toks) (fun b o e => Heap.get?_push_of_some _ e) (Nat.le_of_eq hD) ⟨Nat.zero_le _, [], 0, .nil, ?_⟩
    rw [← hD]
    exact Heap.get?_push_size _ rfl
  have h3 : s3.heap = s2.heap.push { cls := .type "list", data := .seq ([] : List Value).toArray } := by rw [← hs3]
  have sz : ∀ b ∈ fp, b < s2.heap.objs.size := fun b hb => by
    obtain ⟨o, e, _⟩ := T.obj _ _ st2 b hb
    exact Heap.lt_size e
  have f3 : ∀ b ∈ fp, FpOk X pins (upd H2 D (.lst [])) b ∧ b < s3.heap.objs.size := fun b hb => by
    have hlt := sz b hb
    refine ⟨⟨?_, (f2 b hb).2⟩, by rw [h3, Heap.size_push]; exact Nat.lt_succ_of_lt hlt⟩
    rw [upd_ne (by rw [← hD]; exact Nat.ne_of_lt hlt)]
    exact (f2 b hb).1
  have st3 : tn 0 s3.heap := T.keep _ _ _ st2 fun b _ o e => by rw [h3]; exact Heap.get?_push_of_some _ e
  have I4 := block_start I3 ok hN f3
  have hE := fun (cl : List (Str × Addr)) => takes_blk (scope := scope) (ce := compEnvC scope cl s3.heap.objs.size X.env) (fp := fp) hs hf rfl (Nat.le_refl _) I3 (fun b hb => (f3 b hb).1) tk
  have pg := hg s3 (upd H2 D (.lst [])) s3.heap.objs.size (cellsFrom (s3.heap.objs.size + 1) scope.names (cloFrom X.env.cells scope.names [])) fp (notedBy (model X.prog X.w) X.A (compEnvC scope (cellsFrom (s3.heap.objs.size + 1) scope.names (cloFrom X.env.cells scope.names [])) s3.heap.objs.size X.env) (CompFails (model X.prog X.w) X.A X.xe (compEnvC scope (cellsFrom (s3.heap.objs.size + 1) scope.names (cloFrom X.env.cells scope.names [])) s3.heap.objs.size X.env)))
  have pt := ht s3 (upd H2 D (.lst [])) s3.heap.objs.size (cellsFrom (s3.heap.objs.size + 1) scope.names (cloFrom X.env.cells scope.names [])) fp _ (hE _)
  have pe := he s3 (upd H2 D (.lst [])) s3.heap.objs.size (cellsFrom (s3.heap.objs.size + 1) scope.names (cloFrom X.env.cells scope.names [])) fp _ (hE _)
  show codeAny _ _ (.compStart (.ListComp elt [⟨tg, iter, ifs, 0⟩] scope pos) 0 (.ref it) (.ref D) (compEnvC scope (cellsFrom (s3.heap.objs.size + 1) scope.names (cloFrom X.env.cells scope.names [])) s3.heap.objs.size X.env)) (compEnds (model X.prog X.w) X.A X.xe none (EP X pins σ Q) (.ref D) (compEnvC scope (cellsFrom (s3.heap.objs.size + 1) scope.names (cloFrom X.env.cells scope.names [])) s3.heap.objs.size X.env)) { s3 with heap := pushCells (s3.heap.push { cls := .type "dict", data := .dict #[] }) scope.names }
  have nfp : ∀ b ∈ fp, (upd H2 D (.lst [])) b = none := fun b hb => (f3 b hb).1.1
  clear hE
  generalize hce : compEnvC scope (cellsFrom (s3.heap.objs.size + 1) scope.names (cloFrom X.env.cells scope.names [])) s3.heap.objs.size X.env = ce at I4 pg pt pe ⊢
  have cL : ce.locals = s3.heap.objs.size := by subst hce; rfl
  generalize hH3 : upd H2 D (.lst []) = H3 at I3 I4 pg pt pe w0 nfp f3
  generalize hs4 : ({ s3 with heap := pushCells (s3.heap.push { cls := .type "dict", data := .dict #[] }) scope.names } : Shared) = s4 at I4 ⊢
  have st4 : tn 0 s4.heap := T.keep _ _ _ st3 fun b _ o e => by rw [← hs4]; exact pushCells_keeps _ _ _ _ (Heap.get?_push_of_some _ e)
  generalize hxe : notedBy (model X.prog X.w) X.A ce (CompFails (model X.prog X.w) X.A X.xe ce) = xe at pg pt pe
  have I4 : Inv (blkX X s3 H3 scope ce fp xe) [] (wipe σ (own.map (·.2))) H3 s4 := I4.wish xe
  have stat : ∀ {σ' : L2.St} {H' : Hp} {s' : Shared}, Inv (blkX X s3 H3 scope ce fp xe) [] σ' H' s' → (∀ b ∈ fp, H' b = none) → ∀ b ∈ fp, FpOk (blkX X s3 H3 scope ce fp xe) [] H' b := fun {σ' H' s'} I' hn b hb =>
    ⟨hn b hb, (I'.ok.exf b hb).1, I'.ok.exfs b hb, .inl hb, fun x c e => (I'.ok.exf b hb).2 x c e, fun p hp => absurd (show p ∈ ([] : List (Addr × Obj)) ++ [] from hp) (by simp)⟩
  have xeq : ∀ e s', xe e s' → notedBy (model X.prog X.w) X.A ce (fun e s' => compEnds (model X.prog X.w) X.A X.xe none (EP X pins σ Q) (.ref D) ce (.error e) s') e s' := fun e s' z => by rw [← hxe] at z; exact z
  have loop : codeAny (model X.prog X.w) X.A (.compLoop (.ListComp elt [⟨tg, iter, ifs, 0⟩] scope pos) 0 (.ref it) (.ref D) ce) (compEnds (model X.prog X.w) X.A X.xe none (EP X pins σ Q) (.ref D) ce) s4 := by
    refine compLoop_any (fun n s' => ∃ i H', Inv (blkX X s3 H3 scope ce fp xe) [] (wipe σ (own.map (·.2))) H' s' ∧ tn i s'.heap ∧ (∀ b ∈ fp, H' b = none) ∧ W i n H') ?_ m0 ⟨0, H3, I4, st4, nfp, w0⟩
    rintro n s5 ⟨i, H5, I5, st5, n5, w5⟩
    rcases turn i n H5 w5 with ⟨stop, qq⟩ | ⟨go, Nx, hNx, step⟩
    · have td := T.done (blkX X s3 H3 scope ce fp xe) rfl rfl rfl hc i [] s5 _ H5 (fun _ _ => False) I5 (stat I5 n5) st5 stop
      refine thnF td fun r s6 ⟨hr, I6⟩ => ?_
      subst hr
      have I7 : Inv X pins σ H5 s6 := I3.call' (ch := fp) I6.os I6.base I6.hok I6.bare fun b hb => ⟨(f3 b hb).1.2.2.2.1, (f3 b hb).1.2.1, (f3 b hb).1.2.2.2.2.1, (f3 b hb).1.2.2.2.2.2⟩
      have nC : H5 s3.heap.objs.size = none := by
        have z : H5 ce.locals = none := I6.free
        rw [cL] at z
        exact z
      obtain ⟨m, hn, _⟩ := I6.loc
      have hn : s6.heap.Ns ce.locals m := hn
      refine ⟨m, hn, fun h'' sb => ?_⟩
      rw [cL] at sb
      obtain ⟨f0, f1, f2, f3, f4, f5⟩ := I3.fpOk (H' := H5) (Nat.le_refl _) nC
      exact ⟨.ref D, H5, I7.turned (t' := s6.toks) (fun b o hb e => (sb.2 b hb).trans e) f0 f1 f3 f4 f5, rfl, qq⟩
    · have ti := T.item (blkX X s3 H3 scope ce fp xe) rfl rfl rfl hc i [] s5 _ H5 (fun _ _ => False) I5 (stat I5 n5) st5 go
      refine thnF ti fun r s6 ⟨u, hr, h6⟩ => ?_
      subst hr
      refine thnF h6 fun _ s7 ⟨x, H7, I7, r7, y7, st7, n7⟩ => ?_
      have I7' := I7.pinned (stat I7 n7) (T.obj _ _ st7)
      refine wpAny_mono (pg.run _ s7 _ H7 x u _ I7' r7 (step x H7 y7)) (fun _ s8 ⟨σ8, H8, I8, hw8, q8⟩ => ?_) xeq
      refine wpAny_mono (pt.run _ s8 σ8 H8 _ I8 q8) (fun b s9 ⟨H9, I9, q9⟩ => ?_) xeq
      have fin : ∀ {s' : Shared} {H' : Hp}, Inv (blkX X s3 H3 scope ce fp xe) ([] ++ pinsAt fp s7.heap) σ8 H' s' → Nx H' → ∃ m, m < n ∧ ∃ i H', Inv (blkX X s3 H3 scope ce fp xe) [] (wipe σ (own.map (·.2))) H' s' ∧ tn i s'.heap ∧ (∀ b ∈ fp, H' b = none) ∧ W i m H' := fun {s' H'} I' nx => by
        obtain ⟨m', hm, w'⟩ := hNx H' nx
        have pin' : ∀ b ∈ fp, ∀ o, s7.heap.get? b = some o → s'.heap.get? b = some o ∧ H' b = none := fun b hb o e =>
          let z := I'.pin (b, o) (List.mem_append_right _ (List.mem_append_right _ (mem_pinsAt hb e)))
          ⟨z.1, z.2.1⟩
        have hl : (wipe σ (own.map (·.2))).length = σ8.length := by rw [← hw8, wipe_length]
        refine ⟨m', hm, i + 1, H', (I'.unpinned (pins := [])).weak hl (fun j v e => ?_), T.keep _ _ _ st7 fun b hb o e => (pin' b hb o e).1, fun b hb => ?_, w'⟩
        · rw [← hw8] at e
          exact (wipe_some e).1
        · obtain ⟨o, e, _⟩ := T.obj _ _ st7 b hb
          exact (pin' b hb o e).2
      cases b with
      | false =>
        simp only [Bool.false_eq_true, if_false] at q9 ⊢
        exact fin I9 q9
      | true =>
        simp only [if_true] at q9 ⊢
        refine wpAny_mono (pe.run _ s9 σ8 H9 _ I9 q9) (fun z s10 ⟨yv, H10, I10, r10, acc, hD10, hz10, nx⟩ => ?_) xeq
        exact app_ok (X := blkX X s3 H3 scope ce fp xe) I10 hD10 hz10 r10 fun s11 I11 => fin I11 nx
  exact codeAny_compStart_list loop (T.self X.A 0 _ _ _ st4 loop)
end
end LcX
/-! ### defs that raise where nothing is handled; what they let out -/
namespace RzX
open PySem PySem.Spec PyProof.Rows L2
section
variable {P : Program} {w : World} {K : PySem.W.Frag} {mg : Str → Option Value} {base : Heap}
/-- as Fun.okX, the exceptions' context None -/
theorem okN {x qual : Str} {st : Stmt} {f : Addr} {fd : FuncData} {N ps : List Str} {k : Nat} {sp : Sp} (F : L2.Fun K x qual st f fd) (S : FnScope N ps (defScope st)) (len : ∀ vs H Q E, sp vs H Q E → vs.length = ps.length)
    (hbody : ∀ (cdv : Value) (A : Around) (outer : List Env) (s : Shared) (H : Hp) (vs : List V) (Q : VK) (E : XK), Room k (A.deeper (envOfC qual (defScope st) s.heap.objs.size f cdv)) → sp vs H Q E →
      ∃ t, PSs (cxOf (L2N.CX P w) P w K mg base N qual (defScope st) f cdv A outer s H E) (defBody st) t ∧ t { nx := fun _ H' => Q .non H', rt := Q } (start N vs) H) : FnOk P w K mg base (L2N.CX P w) (k + 1) f fd ps sp := by
  obtain ⟨oc, od, kV, doc, pm, an, cdv, ct, osl, rfl, lk, hcd⟩ := F.ex
  exact fn_of lk hcd S len fun A outer s H vs Q E hr hsp => hbody cdv A outer s H vs Q E hr hsp
/-- a def that may be called by its name and may raise -/
structure Cal (CX : CXT) (P : Program) (w : World) (K : PySem.W.Frag) (mg : Str → Option Value) (base : Heap) (k : Nat) (x : Str) (sp : Sp) (dvs : List V) : Prop where
  ex : ∃ (f : Addr) (fd : FuncData) (ps : List Str) (ds : List Value), FnOk P w K mg base CX k f fd ps sp ∧ mg x = some (.ref f) ∧ PySem.W.keepIn K (.ref f) = true ∧ Binds K fd ps ds ∧ Vals dvs ds
structure Mak (CX : CXT) (P : Program) (w : World) (K : PySem.W.Frag) (mg : Str → Option Value) (base : Heap) (k : Nat) (x : Str) (C : Addr) (sp : Sp) (dvs : List V) : Prop where
  ex : ∃ (f : Addr) (fd : FuncData) (ps : List Str) (ds : List Value), Mk K C f ∧ FnOk P w K mg base CX k f fd ps sp ∧ mg x = some (.ref C) ∧ Binds K fd ps ds ∧ Vals dvs ds
/-- an own class over ValueError without own __init__ -/
structure Exc (K : PySem.W.Frag) (mg : Str → Option Value) (x : Str) (C : Addr) : Prop where
  ein : PySem.W.excIn K C [.type "ValueError", .type "Exception", .type "BaseException", .type "object"] "ValueError.__new__" = true
  gC : mg x = some (.ref C)
  kC : PySem.W.keepIn K (.ref C) = true
  sub : PySem.W.subIn K (.ref C) (.type "BaseException") = some true
  typ : PySem.W.typeIn K (.ref C) = some (.type "type")
end
section
variable {X : Cx} {k j : Nat} {C : Addr} {x m : Str} {sp : Sp} {dvs : List V} {p pos apos p2 : Pos} {e o : Expr} {es : List Expr} {ta : TE} {t : TA} {E : XK} {i : Nat}
theorem pe_c (c : Cal (L2N.CX X.prog X.w) X.prog X.w X.K X.mg X.base k x sp dvs) (tk : L2N.Takes X (fun cls d _ H => E cls d H)) (hr : Room j X.A) (hk : k ≤ j) (hg : Gl X x) (ha : PA X (e :: es) t)
    (hdb : (x == ("__debug__" : Str)) = false := by decide) (he : starEach (e :: es) X.env = (false, eval e X.env) :: starEach es X.env := by rfl) (hpl : (backTo pos (starEach es X.env)).any (·.1) = false := by rfl) :
    PE X (.Call (.Name x p) (e :: es) [] pos) (tCall sp dvs E t) := by
  obtain ⟨f, fd, ps, ds, F, hm, kp, b, d⟩ := c.ex
  exact pe_call F (hr.mono hk) hg hm kp b d (L2N.passes_call tk fun _ _ _ _ h => h) ha hdb he hpl
theorem pe_mk (c : Mak (L2N.CX X.prog X.w) X.prog X.w X.K X.mg X.base k x C sp dvs) (tk : L2N.Takes X (fun cls d _ H => E cls d H)) (hr : Room j X.A) (hk : k + 1 ≤ j) (hg : Gl X x) (ha : PA X (e :: es) t)
    (hdb : (x == ("__debug__" : Str)) = false := by decide) (he : starEach (e :: es) X.env = (false, eval e X.env) :: starEach es X.env := by rfl) (hpl : (backTo pos (starEach es X.env)).any (·.1) = false := by rfl) :
    PE X (.Call (.Name x p) (e :: es) [] pos) (tMake C sp dvs E t) := by
  obtain ⟨f, fd, ps, ds, M, F, hm, b, d⟩ := c.ex
  exact pe_make M F (hr.mono hk) hg hm b d (L2N.passes_call tk fun _ _ _ _ h => h) ha hdb he hpl
/-- raise C('..') -/
theorem ps_rz {W : WX} (c : Exc X.K X.mg x C) (tk : L2N.Takes X W) (hc : X.calm = true) (hg : Gl X x) (hdb : (x == ("__debug__" : Str)) = false := by decide) :
    PS X (.Raise (some (.Call (.Name x p) [.Constant (.str m) i p2] [] apos)) none pos) (fun _ σ H => W (.ref C) none σ H) :=
  L2N.ps_raise hc tk (L2N.pmk_own PySem.F.excBase_ValueError c.ein c.gC c.kC (raises_own c.sub c.typ) hg hdb)
end
end RzX
/-! ### an except suite that raises from None -/
namespace RzX
open PySem PySem.Spec PyProof.Rows L2
section
variable {X : Cx} {k j : Nat} {C : Addr} {x m : Str} {sp : Sp} {p pos apos p2 : Pos} {e o : Expr} {es : List Expr} {t : TA} {W : WX} {i : Nat}
/-- as pmk_own, the record's fields told -/
theorem pmk_own5 (c : Exc X.K X.mg x C) (hg : Gl X x) (hdb : (x == ("__debug__" : Str)) = false := by decide) : L2H.PMk5 X (.Call (.Name x p) [.Constant (.str m) i p2] [] pos) (fun _ H Q => Q (.ref C) none H) := by
  intro pins s σ H Q I h
  refine wpAny_Call_Name_kw (ld_glob I hg c.gC ?_ hdb)
  have ha : PA X [.Constant (.str m) i p2] (tCons (tC (.str m)) tNil) := pa_cons pe_str pa_nil
  refine PySem.W.callWith_K (h₀ := X.base) I.ok.mod.kin c.kC (thn (ha.run pos pins s σ H (fun vs H1 => vs = [V.str m] ∧ H = H1) I ⟨rfl, rfl⟩) fun us s1 hh => ?_)
  obtain ⟨vs, H1, I1, r1, ev, eH⟩ := hh
  subst ev
  rw [← eH] at I1
  refine ⟨I1.kIn, ?_⟩
  cases r1 with
  | cons ru rn =>
    rename_i u us'
    cases rn
    show wpAny _ _ (call (.ref C) [u]) _ _ _
    obtain ⟨bm, N, nm, qn, bs, hdct, sn, sub, ab, col, dd, k0, k1, k2, k3, k5, mN, hC, hN, hni, T⟩ := exc_obj I1.kIn c.ein
    refine wpAny_call_exc_subT PySem.F.excBase_ValueError T hC hN hni (fun h' e hm => ?_) (by show 1 ≤ sizeLine; rw [sizeLine_eq]; omega)
    exact L2H.mk_of5 I1 hm (raises_own c.sub c.typ) h (I1.hok.gone hm.new)
/-- a def that may raise, called where the wish knows the slots -/
theorem pe_cS (c : Cal (L2N.CX X.prog X.w) X.prog X.w X.K X.mg X.base k x sp []) (tk : L2N.Takes X W) (hr : Room j X.A) (hk : k ≤ j) (hg : Gl X x) (ha : PA X (e :: es) t)
    (hdb : (x == ("__debug__" : Str)) = false := by decide) (he : starEach (e :: es) X.env = (false, eval e X.env) :: starEach es X.env := by rfl) (hpl : (backTo pos (starEach es X.env)).any (·.1) = false := by rfl) :
    PE X (.Call (.Name x p) (e :: es) [] pos) (tCallS sp (WE W) t) := by
  obtain ⟨f, fd, ps, ds, F, hm, kp, b, d⟩ := c.ex
  cases d
  exact pe_callS F (hr.mono hk) hg hm kp b (fun σ => L2N.passAt tk σ) ha hdb he hpl
theorem ps_rz2 (c : Exc X.K X.mg x C) (tk : L2.Takes X W) (hc : X.calm = true) (hg : Gl X x) (hdb : (x == ("__debug__" : Str)) = false := by decide) :
    PS X (.Raise (some (.Call (.Name x p) [.Constant (.str m) i p2] [] apos)) none pos) (fun _ σ H => W (.ref C) none σ H) :=
  L2.ps_raise hc tk (L2.pmk_own PySem.F.excBase_ValueError c.ein c.gC c.kC (raises_own c.sub c.typ) hg hdb)
end
end RzX
/-! ### try: a call / except X as e: what the suite knows of e -/
namespace RzX
open PySem PySem.Spec PyProof.Rows L2
section
variable {X : Cx} {k j : Nat} {x : Str} {sp : Sp} {p pos : Pos} {e : Expr} {es : List Expr} {t : TA} {W : WX}
theorem pe_cL (c : Cal (L2.CX X.prog X.w) X.prog X.w X.K X.mg X.base k x sp []) (tk : L2.Takes X W) (hr : Room j X.A) (hk : k ≤ j) (hg : Gl X x) (ha : PA X (e :: es) t)
    (hdb : (x == ("__debug__" : Str)) = false := by decide) (he : starEach (e :: es) X.env = (false, eval e X.env) :: starEach es X.env := by rfl) (hpl : (backTo pos (starEach es X.env)).any (·.1) = false := by rfl) :
    PE X (.Call (.Name x p) (e :: es) [] pos) (tCallS sp (WE W) t) := by
  obtain ⟨f, fd, ps, ds, F, hm, kp, b, d⟩ := c.ex
  cases d
  exact pe_callS F (hr.mono hk) hg hm kp b (fun σ => L2.passAt tk σ) ha hdb he hpl
/-- the suite's reading, for an exception of this class without a dict -/
def tIfE (C : Addr) (cls : Value) (d : Option Addr) (t : TS) : TS := fun D σ H => cls = .ref C ∧ d = none ∧ t D σ H
theorem pss_if {body : List Stmt} {C : Addr} {cls : Value} {d : Option Addr} {t : TS} (h : cls = .ref C → d = none → PSs X body t) : PSs X body (tIfE C cls d t) :=
  ⟨fun pins s σ H D I z => (h z.1 z.2.1).run pins s σ H D I z.2.2⟩
end
end RzX
/-! ### any text, split at one sign -/
namespace Tx
open PySem PySem.Spec L2 TL
def cutL (s : Nat) : List Nat → List (List Nat)
  | [] => [[]]
  | c :: r => if c = s then [] :: cutL s r else match cutL s r with
    | p :: ps => (c :: p) :: ps
    | [] => [[c]]
theorem cutL_ne (s : Nat) : ∀ l, cutL s l ≠ []
  | [] => by unfold cutL; simp
  | c :: r => by
    unfold cutL
    split
    · simp
    · split <;> simp
theorem cutL_free (s : Nat) : ∀ l, ∀ p ∈ cutL s l, s ∉ p
  | [], p, h => by
    unfold cutL at h
    rw [List.mem_singleton.mp h]; simp
  | c :: r, p, h => by
    have ih := cutL_free s r
    unfold cutL at h
    split at h
    · rcases List.mem_cons.mp h with e | e
      · rw [e]; simp
      · exact ih p e
    · rename_i hc
      split at h
      · rename_i q qs e1
        rcases List.mem_cons.mp h with e | e
        · rw [e]
          intro z
          rcases List.mem_cons.mp z with z | z
          · exact hc z.symm
          · exact ih q (by rw [e1]; exact List.mem_cons_self) z
        · exact ih p (by rw [e1]; exact List.mem_cons_of_mem _ e)
      · rw [List.mem_singleton.mp h]
        intro z
        exact hc (List.mem_singleton.mp z).symm
theorem cutL_join (s : Nat) : ∀ l, joinL [s] (cutL s l) = l
  | [] => rfl
  | c :: r => by
    have ih := cutL_join s r
    unfold cutL
    split
    · rename_i e
      subst e
      cases h : cutL c r with
      | nil => exact absurd h (cutL_ne c r)
      | cons q qs =>
        rw [h] at ih
        show [] ++ ([c] ++ joinL [c] (q :: qs)) = c :: r
        rw [ih]; rfl
    · split
      · rename_i q qs e1
        rw [e1] at ih
        rw [joinL_cons] at ih ⊢
        rw [List.cons_append, ih]
      · rename_i e1
        exact absurd e1 (cutL_ne s r)
theorem cutL_len (s : Nat) : ∀ l, (cutL s l).length ≤ l.length + 1
  | [] => Nat.le_refl _
  | c :: r => by
    have ih := cutL_len s r
    unfold cutL
    split
    · simpa using ih
    · split
      · rename_i q qs e1
        rw [e1] at ih
        simp only [List.length_cons] at ih ⊢
        omega
      · simp
theorem cutL_short (s : Nat) : ∀ l, ∀ p ∈ cutL s l, p.length ≤ l.length
  | [], p, h => by
    unfold cutL at h
    rw [List.mem_singleton.mp h]; simp
  | c :: r, p, h => by
    have ih := cutL_short s r
    unfold cutL at h
    split at h
    · rcases List.mem_cons.mp h with e | e
      · rw [e]; simp
      · have := ih p e
        rw [List.length_cons]; omega
    · split at h
      · rename_i q qs e1
        rcases List.mem_cons.mp h with e | e
        · have := ih q (by rw [e1]; exact List.mem_cons_self)
          rw [e, List.length_cons, List.length_cons]; omega
        · have := ih p (by rw [e1]; exact List.mem_cons_of_mem _ e)
          rw [List.length_cons]; omega
      · rw [List.mem_singleton.mp h]
        simp
theorem map_tl_S : ∀ ps : List (List Nat), (ps.map SX.S).map tl = ps
  | [] => rfl
  | p :: ps => by
    rw [List.map_cons, List.map_cons, map_tl_S ps]
theorem split_cut {x y : Str} {s : Nat} (hy : tl y = [s]) (hk : y.cps.all (· < 256) = true) : Txt.split x y = (cutL s (tl x)).map SX.S := by
  have e : x = Txt.join y ((cutL s (tl x)).map SX.S) := by
    refine ext_tl ?_
    rw [join_eq, tl_join, map_tl_S, hy, cutL_join]
  have e2 : Txt.split x y = Txt.split (Txt.join y ((cutL s (tl x)).map SX.S)) y := by rw [← e]
  rw [e2]
  refine split_join hy hk (by intro z; exact cutL_ne s (tl x) (List.map_eq_nil_iff.mp z)) fun p hp => ?_
  obtain ⟨a, ha, rfl⟩ := List.mem_map.mp hp
  exact cutL_free s _ a ha
end Tx
namespace Fs
open PySem L2
def top (i : Nat) : Stmt := PySem.Challenge.pw_freesets_k16_bad_texts.main.body.getD i (.Pass ⟨0, 0, 0, 0⟩)
abbrev s_is_number : Stmt := top 10
abbrev n_is_number : List Str := ["value"]
theorem sc_is_number : FnScope n_is_number ["value"] (defScope s_is_number) :=
  ⟨rfl, rfl, rfl, by decide +kernel, rfl, by decide +kernel, by decide +kernel⟩
abbrev s_is_within : Stmt := top 11
abbrev n_is_within : List Str := ["value", "low", "high"]
theorem sc_is_within : FnScope n_is_within ["value", "low", "high"] (defScope s_is_within) :=
  ⟨rfl, rfl, rfl, by decide +kernel, rfl, by decide +kernel, by decide +kernel⟩
abbrev s_check_thing : Stmt := top 12
abbrev n_check_thing : List Str := ["thing", "many"]
theorem sc_check_thing : FnScope n_check_thing ["thing", "many"] (defScope s_check_thing) :=
  ⟨rfl, rfl, rfl, by decide +kernel, rfl, by decide +kernel, by decide +kernel⟩
abbrev s_check_set : Stmt := top 13
abbrev n_check_set : List Str := ["some", "many", "seen", "thing"]
theorem sc_check_set : FnScope n_check_set ["some", "many"] (defScope s_check_set) :=
  ⟨rfl, rfl, rfl, by decide +kernel, rfl, by decide +kernel, by decide +kernel⟩
abbrev s_Threads___init__ : Stmt := inClass (top 21) 0
abbrev n_Threads___init__ : List Str := ["self", "places", "ties", "tie"]
theorem sc_Threads___init__ : FnScope n_Threads___init__ ["self", "places", "ties"] (defScope s_Threads___init__) :=
  ⟨rfl, rfl, rfl, by decide +kernel, rfl, by decide +kernel, by decide +kernel⟩
abbrev s_Kinds___init__ : Stmt := inClass (top 22) 0
abbrev n_Kinds___init__ : List Str := ["self", "kinds", "most"]
theorem sc_Kinds___init__ : FnScope n_Kinds___init__ ["self", "kinds", "most"] (defScope s_Kinds___init__) :=
  ⟨rfl, rfl, rfl, by decide +kernel, rfl, by decide +kernel, by decide +kernel⟩
abbrev s_Posts___init__ : Stmt := inClass (top 23) 0
abbrev n_Posts___init__ : List Str := ["self", "wants", "posts"]
theorem sc_Posts___init__ : FnScope n_Posts___init__ ["self", "wants"] (defScope s_Posts___init__) :=
  ⟨rfl, rfl, rfl, by decide +kernel, rfl, by decide +kernel, by decide +kernel⟩
abbrev s_Bits___init__ : Stmt := inClass (top 24) 0
abbrev n_Bits___init__ : List Str := ["self", "rows"]
theorem sc_Bits___init__ : FnScope n_Bits___init__ ["self", "rows"] (defScope s_Bits___init__) :=
  ⟨rfl, rfl, rfl, by decide +kernel, rfl, by decide +kernel, by decide +kernel⟩
abbrev s_check_ground : Stmt := top 25
abbrev n_check_ground : List Str := ["things"]
theorem sc_check_ground : FnScope n_check_ground ["things"] (defScope s_check_ground) :=
  ⟨rfl, rfl, rfl, by decide +kernel, rfl, by decide +kernel, by decide +kernel⟩
abbrev s_are_within : Stmt := top 26
abbrev n_are_within : List Str := ["values", "low", "high", "value"]
theorem sc_are_within : FnScope n_are_within ["values", "low", "high"] (defScope s_are_within) :=
  ⟨rfl, rfl, rfl, by decide +kernel, rfl, by decide +kernel, by decide +kernel⟩
abbrev s_is_tie : Stmt := top 27
abbrev n_is_tie : List Str := ["tie", "places", "place"]
theorem sc_is_tie : FnScope n_is_tie ["tie", "places"] (defScope s_is_tie) :=
  ⟨rfl, rfl, rfl, by decide +kernel, rfl, by decide +kernel, by decide +kernel⟩
abbrev s_are_posts : Stmt := top 28
abbrev n_are_posts : List Str := ["posts"]
theorem sc_are_posts : FnScope n_are_posts ["posts"] (defScope s_are_posts) :=
  ⟨rfl, rfl, rfl, by decide +kernel, rfl, by decide +kernel, by decide +kernel⟩
abbrev s_read : Stmt := top 34
abbrev n_read : List Str := ["text", "head", "colon", "body", "words"]
theorem sc_read : FnScope n_read ["text"] (defScope s_read) :=
  ⟨rfl, rfl, rfl, by decide +kernel, rfl, by decide +kernel, by decide +kernel⟩
abbrev s_made_of : Stmt := top 35
abbrev n_made_of : List Str := ["name", "more", "things", "word"]
theorem sc_made_of : FnScope n_made_of ["name", "more", "things"] (defScope s_made_of) :=
  ⟨rfl, rfl, rfl, by decide +kernel, rfl, by decide +kernel, by decide +kernel⟩
abbrev s_tie_of : Stmt := top 36
abbrev n_tie_of : List Str := ["word"]
theorem sc_tie_of : FnScope n_tie_of ["word"] (defScope s_tie_of) :=
  ⟨rfl, rfl, rfl, by decide +kernel, rfl, by decide +kernel, by decide +kernel⟩
abbrev s_posts_of : Stmt := top 37
abbrev n_posts_of : List Str := ["word"]
theorem sc_posts_of : FnScope n_posts_of ["word"] (defScope s_posts_of) :=
  ⟨rfl, rfl, rfl, by decide +kernel, rfl, by decide +kernel, by decide +kernel⟩
abbrev s_numbers_of : Stmt := top 38
abbrev n_numbers_of : List Str := ["words", "word"]
theorem sc_numbers_of : FnScope n_numbers_of ["words"] (defScope s_numbers_of) :=
  ⟨rfl, rfl, rfl, by decide +kernel, rfl, by decide +kernel, by decide +kernel⟩
abbrev s_number_of : Stmt := top 39
abbrev n_number_of : List Str := ["word", "figure"]
theorem sc_number_of : FnScope n_number_of ["word"] (defScope s_number_of) :=
  ⟨rfl, rfl, rfl, by decide +kernel, rfl, by decide +kernel, by decide +kernel⟩
abbrev s__law_cell_at : Stmt := top 41
abbrev n__law_cell_at : List Str := ["_law_script", "_law_k"]
theorem sc__law_cell_at : FnScope n__law_cell_at ["_law_script", "_law_k"] (defScope s__law_cell_at) :=
  ⟨rfl, rfl, rfl, by decide +kernel, rfl, by decide +kernel, by decide +kernel⟩
abbrev s__law_draw : Stmt := top 42
abbrev n__law_draw : List Str := ["_law_cell", "_law_k", "_law_many", "_law_mixed"]
theorem sc__law_draw : FnScope n__law_draw ["_law_cell", "_law_k", "_law_many"] (defScope s__law_draw) :=
  ⟨rfl, rfl, rfl, by decide +kernel, rfl, by decide +kernel, by decide +kernel⟩
abbrev s__law_refused : Stmt := top 43
abbrev n__law_refused : List Str := ["_law_text", "error", "_law_others"]
theorem sc__law_refused : FnScope n__law_refused ["_law_text"] (defScope s__law_refused) :=
  ⟨rfl, rfl, rfl, by decide +kernel, rfl, by decide +kernel, by decide +kernel⟩
abbrev s__law_words : Stmt := top 44
abbrev n__law_words : List Str := ["_law_kind", "_law_cell", "_law_n", "_law_ties", "_law_k", "_law_tie"]
theorem sc__law_words : FnScope n__law_words ["_law_kind", "_law_cell", "_law_n"] (defScope s__law_words) :=
  ⟨rfl, rfl, rfl, by decide +kernel, rfl, by decide +kernel, by decide +kernel⟩
abbrev s__law_bad_word : Stmt := top 45
abbrev n__law_bad_word : List Str := ["_law_kind", "_law_which", "_law_ways", "_law_words_here"]
theorem sc__law_bad_word : FnScope n__law_bad_word ["_law_kind", "_law_which"] (defScope s__law_bad_word) :=
  ⟨rfl, rfl, rfl, by decide +kernel, rfl, by decide +kernel, by decide +kernel⟩
abbrev s__law_head : Stmt := top 46
abbrev n__law_head : List Str := ["_law_which"]
theorem sc__law_head : FnScope n__law_head ["_law_which"] (defScope s__law_head) :=
  ⟨rfl, rfl, rfl, by decide +kernel, rfl, by decide +kernel, by decide +kernel⟩
abbrev s_law : Stmt := top 47
abbrev n_law : List Str := ["_law_script", "_law_kind", "_law_n", "_law_head_here", "_law_words_here", "_law_at", "_law_cell", "_law_place", "_law_bad", "_law_made", "_law_first", "_law_ways", "_law_good", "_law_many"]
theorem sc_law : FnScope n_law ["_law_script"] (defScope s_law) :=
  ⟨rfl, rfl, rfl, by decide +kernel, rfl, by decide +kernel, by decide +kernel⟩

/-! ### words of our own, for any of the program's laws -/
section
/-- which names of the built-ins are still theirs -/
structure Bl (mg : Str → Option Value) : Prop where
  isinstance_ : mg "isinstance" = none
  int_ : mg "int" = none
  bool_ : mg "bool" = none
  list_ : mg "list" = none
  tuple_ : mg "tuple" = none
  len_ : mg "len" = none
  all_ : mg "all" = none
  range_ : mg "range" = none
  min_ : mg "min" = none
  sorted_ : mg "sorted" = none
  set_ : mg "set" = none
theorem room65 {k : Nat} {A : Around} (hr : Room k A) : A.units + 65 < cLine := by
  have := hr.un
  omega
theorem yesT {σ : St} {H : Hp} {A B : Hp → Prop} (h : A H) : tYes σ H (fun b H3 => if b = true then A H3 else B H3) := by
  show (if true = true then A H else B H)
  exact iteT h
theorem take_more {α : Type} {l : List α} {i : Nat} {x : α} (h : l[i]? = some x) : l.take (i + 1) = l.take i ++ [x] := by
  rw [List.take_add_one, h]
  rfl
theorem map_at {α β : Type} {f : α → β} {l : List α} {i : Nat} {y : β} (h : (l.map f)[i]? = some y) : ∃ x, l[i]? = some x ∧ y = f x := by
  rw [List.getElem?_map] at h
  cases e : l[i]? with
  | none => rw [e] at h; cases h
  | some x => rw [e] at h; exact ⟨x, rfl, (Option.some.inj h).symm⟩
theorem flat_ints : ∀ xs : List Int, (xs.map V.int).all flatV = true
  | [] => rfl
  | _ :: xs => flat_ints xs
theorem in_ints (x : Int) : ∀ xs : List Int, inV (.int x) (xs.map V.int) = decide (x ∈ xs)
  | [] => rfl
  | y :: xs => by
    have ih := in_ints x xs
    show ((y == x) || inV (.int x) (xs.map V.int)) = decide (x ∈ y :: xs)
    rw [ih]
    by_cases e : y = x
    · subst e; simp
    · have e' : ¬ x = y := fun z => e z.symm
      simp [e, e']
theorem flat_nats : ∀ xs : List Nat, (xs.map (fun n : Nat => V.int (n : Int))).all flatV = true
  | [] => rfl
  | _ :: xs => flat_nats xs
theorem in_nats (x : Nat) : ∀ xs : List Nat, inV (.int (x : Int)) (xs.map (fun n : Nat => V.int (n : Int))) = decide (x ∈ xs)
  | [] => rfl
  | y :: xs => by
    have ih := in_nats x xs
    show (((y : Int) == (x : Int)) || inV (.int (x : Int)) (xs.map (fun n : Nat => V.int (n : Int)))) = decide (x ∈ y :: xs)
    rw [ih]
    by_cases e : y = x
    · subst e; simp
    · have e' : ¬ x = y := fun z => e z.symm
      have e2 : ((y : Int) == (x : Int)) = false := beq_false_of_ne (by omega)
      rw [e2]
      simp [e']
/-- two lists of numbers are data -/
theorem dp_ints {K : PySem.W.Frag} {H : Hp} : ∀ xs : List Int, DpAll K H (xs.map V.int) (xs.map PyData.int)
  | [] => .nil
  | x :: xs => .cons (.int x) (dp_ints xs)
theorem eqv_ints (xs : List Int) : PyData.eqv (.list (xs.map PyData.int)) (.list (xs.map PyData.int)) = true := SeqAt.eqv_refl _ (SeqAt.canLay_of_shaped (PySem.W.ke_shaped_ints xs))
/-- a number that is not negative -/
abbrev nv (n : Nat) : V := .int (n : Int)
theorem nv_ints (l : List Nat) : l.map nv = (l.map (fun n : Nat => (n : Int))).map V.int := by
  rw [List.map_map]
  rfl
theorem nd_cast : ∀ {xs : List Nat}, xs.Nodup → (xs.map (fun n : Nat => (n : Int))).Nodup
  | [], _ => List.nodup_nil
  | x :: xs, h => by
    have h' := List.nodup_cons.mp h
    rw [List.map_cons, List.nodup_cons]
    refine ⟨fun hm => ?_, nd_cast h'.2⟩
    obtain ⟨y, hy, e⟩ := List.mem_map.mp hm
    have : y = x := by omega
    rw [this] at hy
    exact h'.1 hy
theorem dec_nv (n : Nat) : decide (nv n = V.int 0) = decide (n = 0) := by
  rw [Bool.eq_iff_iff, decide_eq_true_eq, decide_eq_true_eq]
  constructor
  · intro e
    have := V.int.inj e
    omega
  · intro e
    rw [e]
    rfl
theorem dp_nats {K : PySem.W.Frag} {H : Hp} (xs : List Nat) : DpAll K H (xs.map nv) ((xs.map (fun n : Nat => (n : Int))).map PyData.int) := by
  rw [nv_ints]
  exact dp_ints _
theorem same_upd {H : Hp} {l : Addr} {o : HO} (h : H l = none) : Same H (upd H l o) := fun b u e => by
  rw [upd_ne (ne_of_none e h)]
  exact e
theorem same_to {H H1 : Hp} {l : Addr} {o : HO} (s : Same H H1) (h : H l = none) : Same H (upd H1 l o) := fun b u e => by
  rw [upd_ne (ne_of_none e h)]
  exact s b u e
end
section
variable {P : Program} {w : World} {K : PySem.W.Frag} {mg : Str → Option Value} {base : Heap} {f : Addr} {fd : FuncData}
/-- tuple(x), list(x), len(x), where they may stand in a comprehension -/
def rTupOf (K : PySem.W.Frag) : List V → Hp → VK → Prop := fun xs H Q => ∃ p ys, xs = [.ref p] ∧ ((SqL K H p ys ∧ ∀ l, H l = none → Q (.ref l) (upd H l (.tup ys))) ∨ (SqT K H p ys ∧ Q (.ref p) H))
def rLstOf (K : PySem.W.Frag) : List V → Hp → VK → Prop := fun xs H Q => ∃ p ys, xs = [.ref p] ∧ (SqL K H p ys ∨ SqT K H p ys) ∧ ∀ l, H l = none → Q (.ref l) (upd H l (.lst ys))
def rLenOf (K : PySem.W.Frag) : List V → Hp → VK → Prop := fun xs H Q => ∃ p ys, xs = [.ref p] ∧ (SqL K H p ys ∨ SqT K H p ys) ∧ Q (.int ys.length) H
theorem call_tupK {X : Cx} {K : PySem.W.Frag} (eK : X.K = K) : CallR X (.type "tuple") (rTupOf K) := by subst eK; exact call_tuple_of
theorem call_lstK {X : Cx} {K : PySem.W.Frag} (eK : X.K = K) : CallR X (.type "list") (rLstOf K) := by subst eK; exact call_list_of
theorem call_lenK {X : Cx} {K : PySem.W.Frag} (eK : X.K = K) : CallR X (.builtin "len") (rLenOf K) := by subst eK; exact call_len_seq
theorem call_isiK {X : Cx} {K : PySem.W.Frag} (eK : X.K = K) : CallR X (.builtin "isinstance") (rIsi K) := by subst eK; exact call_isi
/-- a tuple as a target, where it may stand in a comprehension -/
theorem pg_tupK {X : Cx} {K : PySem.W.Frag} {es : List Expr} {k : Nat} {t : TGs} {n : Nat} {pos : Pos} (eK : X.K = K) (hc : X.calm = true) (h : PGs X es t)
    (hn : (assignEach es X.env).length = n := by rfl) (hst : (assignEach es X.env).findIdx? (·.1) = none := by rfl) : PG X (.Tuple es k pos) (gTup K n t) := by
  subst eK
  exact pg_tup hc h hn hst
/-- xs.count(e), where it may stand in a comprehension -/
theorem pe_cntK {X : Cx} {K : PySem.W.Frag} {o e : Expr} {to : TE} {t : TA} {apos cpos : Pos} (eK : X.K = K) (ho : PE X o to) (ha : PA X [e] t)
    (hbase : attributeBase o "count" X.env (eval o X.env) = eval o X.env := by rfl)
    (hfew : ((backTo cpos (starEach [e] X.env)).all (fun x => !x.1) && (backToKw cpos (keywordEach [] X.env)).all (fun x => x.1.isSome)
      && decide ([e].length + ([] : List Keyword).length + (if ([] : List Keyword).isEmpty then 0 else 1) < 30)) = true := by rfl)
    (hline : (apos.endLine == cpos.line) = true := by rfl) (hs : starEach [e] X.env = [(false, eval e X.env)] := by rfl) :
    PE X (.Call (.Attribute o "count" apos) [e] [] cpos) (tBM K "list" (rCntI K) to t) := by
  subst eK
  exact pe_bm PySem.F.plainAttrs_list PySem.F.slot_list_count PySem.F.type_list_count mt_lcount ho ha hbase hfew hline hs rfl
/-! ### is_number, is_within, check_thing, check_set -/
def spNum : Sp := fun vs H Q _ => ∃ i : Int, vs = [.int i] ∧ Q (.bl true) H
theorem ok_num (B : Bl mg) (F : L2.Fun K "is_number" "is_number" s_is_number f fd) (g : mg "is_number" = some (.ref f)) : C8.Cal P w K mg base 1 "is_number" spNum [] := by
  refine ⟨f, fd, ["value"], [], F.ok sc_is_number (fun vs H Q E h => ?_) (fun cdv A outer s H vs Q E hr h => ?_), g, F.kp, F.binds (ps := ["value"]) (fun _ _ _ _ _ _ us hl => match us, hl with | [_], _ => rfl), .nil⟩
  · obtain ⟨i, rfl, _⟩ := h
    rfl
  · obtain ⟨i, rfl, q⟩ := h
    refine ⟨_, (pss_one (ps_ret (pe_and (pe_callB (call_isiK (K := K) rfl) (by rfl) B.isinstance_ (by decide +kernel) (pa_cons (pv 0) (pa_cons (pe_bltn (v := .ty "int") (u := .type "int") (by rfl) B.int_ (by decide +kernel) rfl) pa_nil))) (pe_one (pe_not (pe_callB (call_isiK (K := K) rfl) (by rfl) B.isinstance_ (by decide +kernel) (pa_cons (pv 0) (pa_cons (pe_bltn (v := .ty "bool") (u := .type "bool") (by rfl) B.bool_ (by decide +kernel) rfl) pa_nil)))))))), ?_⟩
    exact ⟨_, rfl, _, _, _, _, true, rfl, ClsV.ty _, TyX.base (TyOf.int i), kit_ty (by decide +kernel), true, rfl, iteT ⟨_, rfl, _, _, _, _, false, rfl, ClsV.ty _, TyX.base (TyOf.int i), kit_ty (by decide +kernel), false, rfl, q⟩⟩
def spWithin : Sp := fun vs H Q _ => ∃ i lo hi : Int, vs = [.int i, .int lo, .int hi] ∧ Q (.bl (decide (lo ≤ i) && decide (i ≤ hi))) H
theorem ok_within (F : L2.Fun K "is_within" "is_within" s_is_within f fd) (g : mg "is_within" = some (.ref f)) (c_is_number : C8.Cal P w K mg base 1 "is_number" spNum []) : C8.Cal P w K mg base 2 "is_within" spWithin [] := by
  refine ⟨f, fd, ["value", "low", "high"], [], F.ok sc_is_within (fun vs H Q E h => ?_) (fun cdv A outer s H vs Q E hr h => ?_), g, F.kp, F.binds (ps := ["value", "low", "high"]) (fun _ _ _ _ _ _ us hl => match us, hl with | [_, _, _], _ => rfl), .nil⟩
  · obtain ⟨i, lo, hi, rfl, _⟩ := h
    rfl
  · obtain ⟨i, lo, hi, rfl, q⟩ := h
    refine ⟨_, (pss_one (ps_ret (pe_and (C8.pe_c c_is_number hr (by first | decide | exact Nat.le_refl _ | omega) rfl (pa_cons (pv 0) pa_nil)) (pe_one (pe_chain op_le op_le (pv 1) (pv 0) (pv 2)))))), ?_⟩
    refine ⟨_, rfl, i, rfl, true, rfl, iteT ⟨_, rfl, _, rfl, lo, i, rfl, rfl, decide (lo ≤ i), rfl, ?_⟩⟩
    cases e : decide (lo ≤ i) with
    | true =>
      rw [e] at q
      exact iteT ⟨_, rfl, i, hi, rfl, rfl, q⟩
    | false =>
      rw [e] at q
      exact iteF q
def spThing : Sp := fun vs H Q _ => ∃ i n : Int, vs = [.int i, .int n] ∧ 0 ≤ i ∧ i < n ∧ Q .non H
theorem ok_thing (F : L2.Fun K "check_thing" "check_thing" s_check_thing f fd) (g : mg "check_thing" = some (.ref f)) (c_is_within : C8.Cal P w K mg base 2 "is_within" spWithin []) : C8.Cal P w K mg base 3 "check_thing" spThing [] := by
  refine ⟨f, fd, ["thing", "many"], [], F.ok sc_check_thing (fun vs H Q E h => ?_) (fun cdv A outer s H vs Q E hr h => ?_), g, F.kp, F.binds (ps := ["thing", "many"]) (fun _ _ _ _ _ _ us hl => match us, hl with | [_, _], _ => rfl), .nil⟩
  · obtain ⟨i, n, rfl, _⟩ := h
    rfl
  · obtain ⟨i, n, rfl, h0, h1, q⟩ := h
    refine ⟨_, (pss_one (ps_if (pt_not (pt_val (C8.pe_c c_is_within hr (by first | decide | exact Nat.le_refl _ | omega) rfl (pa_cons (pv 0) (pa_cons pe_int (pa_cons (pe_op op_sub (pv 1) pe_int) pa_nil)))))) (pss_one ps_never) pss_nil)), ?_⟩
    have e : (decide ((0 : Int) ≤ i) && decide (i ≤ n - 1)) = true := by
      rw [Bool.and_eq_true]
      exact ⟨decide_eq_true h0, decide_eq_true (by omega)⟩
    exact ⟨_, rfl, _, rfl, _, _, rfl, rfl, i, 0, n - 1, rfl, true, by rw [e], iteF q⟩
def spSet : Sp := fun vs H Q _ => ∃ (a : Addr) (xs : List Int) (n : Int), vs = [.ref a, .int n] ∧ H a = some (.lst (xs.map V.int)) ∧ (∀ x ∈ xs, 0 ≤ x ∧ x < n) ∧ xs.Nodup ∧ xs.length ≤ 1000 ∧ ∀ H', Same H H' → Q .non H'
theorem ok_set (B : Bl mg) (F : L2.Fun K "check_set" "check_set" s_check_set f fd) (g : mg "check_set" = some (.ref f)) (c_check_thing : C8.Cal P w K mg base 3 "check_thing" spThing []) : C8.Cal P w K mg base 4 "check_set" spSet [] := by
  refine ⟨f, fd, ["some", "many"], [], F.ok sc_check_set (fun vs H Q E h => ?_) (fun cdv A outer s H vs Q E hr h => ?_), g, F.kp, F.binds (ps := ["some", "many"]) (fun _ _ _ _ _ _ us hl => match us, hl with | [_, _], _ => rfl), .nil⟩
  · obtain ⟨a, xs, n, rfl, _⟩ := h
    rfl
  · obtain ⟨a, xs, n, rfl, ha, hx, hnd, hlen, q⟩ := h
    refine ⟨_, (pss_cons (ps_if (pt_not (pt_val (pe_callB (call_isiK (K := K) rfl) (by rfl) B.isinstance_ (by decide +kernel) (pa_cons (pv 0) (pa_cons (pe_bltn (v := .ty "list") (u := .type "list") (by rfl) B.list_ (by decide +kernel) rfl) pa_nil))))) (pss_one ps_never) pss_nil)
      (pss_cons (ps_set (i := 2) sc_check_set.nd rfl (Or.inl rfl) (pe_lst pa_nil))
      (pss_one (ps_for PassesOwn.never rfl (pi_list (pv 0)) (pg_name (i := 3) sc_check_set.nd rfl (Or.inl rfl)) (pss_cons (ps_expr (C8.pe_c c_check_thing hr (by first | decide | exact Nat.le_refl _ | omega) rfl (pa_cons (pv 3) (pa_cons (pv 1) pa_nil))))
      (pss_cons (ps_if (pt_cmpR op_in_seq (pv 3) (pv 2) (by rfl)) (pss_one ps_never) pss_nil)
      (pss_one (ps_expr (pe_bm PySem.F.plainAttrs_list PySem.F.slot_list_append PySem.F.type_list_append mt_append (pv 2) (pa_cons (pv 3) pa_nil)))))))))), ?_⟩
    refine ⟨_, rfl, _, _, _, _, true, rfl, ClsV.ty _, TyX.base (TyOf.lst ha), kit_ty (by decide +kernel), true, rfl, iteF ?_⟩
    refine ⟨Nat.zero_le _, fun l hl => ?_⟩
    refine ⟨_, rfl, a, rfl, ⟨_, SqL.of (same_upd hl _ _ ha)⟩, for_list (K := K) (a := a) (xs := xs.map V.int) (fun i σ H' => ∃ v : Option V, σ = [some (.ref a), some (.int n), some (.ref l), v] ∧ Same H H' ∧ H' l = some (.lst ((xs.take i).map V.int)))
      ⟨none, rfl, same_upd hl, upd_same⟩ (fun i σ H' _ ⟨_, _, s5, _⟩ => SqL.of (s5 _ _ ha)) ?_ ?_⟩
    · rintro i y σ H' hi ⟨v, rfl, s5, hL⟩
      obtain ⟨x, hx', rfl⟩ := map_at hi
      obtain ⟨x0, x1⟩ := hx x (List.mem_of_getElem? hx')
      have hin : inV (.int x) ((xs.take i).map V.int) = false := by
        rw [in_ints]
        refine decide_eq_false fun hm => ?_
        obtain ⟨j, hj⟩ := List.getElem?_of_mem hm
        have hji : j < i := Nat.lt_of_not_le fun le => by
          rw [List.getElem?_take, if_neg (by omega)] at hj
          cases hj
        rw [List.getElem?_take, if_pos hji] at hj
        have := nd_ix hnd hj hx'
        omega
      have hl' : (xs.take i).length ≤ 1000 := Nat.le_trans (by rw [List.length_take]; omega) hlen
      refine ⟨_, rfl, _, rfl, x, n, rfl, x0, x1, ?_⟩
      refine ⟨_, rfl, _, rfl, l, _, rfl, .inl (SqL.of hL), rfl, flat_ints _, false, by rw [if_neg Bool.false_ne_true, hin], iteF ?_⟩
      refine ⟨_, rfl, .inl ⟨rfl, _, SqL.of hL⟩, _, rfl, l, _, _, rfl, rfl, hL, by rw [List.length_map]; exact small1000 hl', ?_⟩
      refine ⟨_, rfl, same_to s5 hl, ?_⟩
      rw [take_more hx', List.map_append]
      exact upd_same
    · rintro σ H' ⟨v, rfl, s5, hL⟩
      exact q _ s5
end
/-! ### the law's own readers: a cell of the script, a draw -/
def cellAt (ns : List Int) (k : Nat) : Int := ns.getD k 0
def drawF (c k m : Int) : Int :=
  let x := (c % 1000000007 * 48271 + k * 69621 + 7) % 1000000007
  x * x / 1013 % 1000003 % m
theorem drawF_lo {c k m : Int} (h : 0 < m) : 0 ≤ drawF c k m := Int.emod_nonneg _ (by omega)
theorem drawF_hi {c k m : Int} (h : 0 < m) : drawF c k m < m := Int.emod_lt_of_pos _ h
section
variable {P : Program} {w : World} {K : PySem.W.Frag} {mg : Str → Option Value} {base : Heap} {f : Addr} {fd : FuncData}
def spCellAt (K : PySem.W.Frag) : Sp := fun vs H Q _ => ∃ (a : Addr) (ns : List Int) (k : Nat), vs = [.ref a, .int (k : Int)] ∧ SqL K H a (ns.map V.int) ∧ Q (.int (cellAt ns k)) H
theorem ok_cellAt (B : Bl mg) (F : L2.Fun K "_law_cell_at" "_law_cell_at" s__law_cell_at f fd) (g : mg "_law_cell_at" = some (.ref f)) : C8.Cal P w K mg base 1 "_law_cell_at" (spCellAt K) [] := by
  refine ⟨f, fd, ["_law_script", "_law_k"], [], F.ok sc__law_cell_at (fun vs H Q E h => ?_) (fun cdv A outer s H vs Q E hr h => ?_), g, F.kp, F.binds (ps := ["_law_script", "_law_k"]) (fun _ _ _ _ _ _ us hl => match us, hl with | [_, _], _ => rfl), .nil⟩
  · obtain ⟨a, ns, k, rfl, _⟩ := h
    rfl
  · obtain ⟨a, ns, k, rfl, ha, q⟩ := h
    refine ⟨_, (pss_cons (ps_if (pt_cmpR op_lt (pv 1) (pe_callB (call_lenK (K := K) rfl) (by rfl) B.len_ (by decide +kernel) (pa_cons (pv 0) pa_nil)) (nomark _)) (pss_one (ps_ret (pe_ix (r := rIxL K) ix_list (pv 0) (pv 1) (fun _ _ => rfl)))) pss_nil)
      (pss_one (ps_ret pe_int))), ?_⟩
    refine ⟨_, rfl, _, rfl, a, _, rfl, .inl ha, (k : Int), ((ns.map V.int).length : Int), rfl, rfl, _, rfl, ?_⟩
    rw [List.length_map]
    by_cases c : (k : Int) < (ns.length : Int)
    · have hk : k < ns.length := by omega
      rw [decide_eq_true c]
      have e : cellAt ns k = ns[k] := by
        unfold cellAt
        rw [List.getD_eq_getElem?_getD, List.getElem?_eq_getElem hk]
        rfl
      rw [e] at q
      refine iteT ⟨_, rfl, _, rfl, a, _, _, _, rfl, rfl, ha, atI_nat (v := V.int ns[k]) ?_, q⟩
      rw [List.getElem?_map, List.getElem?_eq_getElem hk]
      rfl
    · rw [decide_eq_false c]
      have e : cellAt ns k = 0 := by
        unfold cellAt
        rw [List.getD_eq_getElem?_getD, List.getElem?_eq_none (by omega)]
        rfl
      rw [e] at q
      exact iteF q
def spDraw : Sp := fun vs H Q _ => ∃ c k m : Int, vs = [.int c, .int k, .int m] ∧ 0 < m ∧ -1000 < k ∧ k < 1000 ∧ Q (.int (drawF c k m)) H
theorem ok_draw (F : L2.Fun K "_law_draw" "_law_draw" s__law_draw f fd) (g : mg "_law_draw" = some (.ref f)) : C8.Cal P w K mg base 1 "_law_draw" spDraw [] := by
  refine ⟨f, fd, ["_law_cell", "_law_k", "_law_many"], [], F.ok sc__law_draw (fun vs H Q E h => ?_) (fun cdv A outer s H vs Q E hr h => ?_), g, F.kp, F.binds (ps := ["_law_cell", "_law_k", "_law_many"]) (fun _ _ _ _ _ _ us hl => match us, hl with | [_, _, _], _ => rfl), .nil⟩
  · obtain ⟨c, k, m, rfl, _⟩ := h
    rfl
  · obtain ⟨c, k, m, rfl, hm, k0, k1, q⟩ := h
    refine ⟨_, (pss_cons (ps_set (i := 3) sc__law_draw.nd rfl (Or.inl rfl) (pe_op op_mod (pe_op op_add (pe_op op_add (pe_op op_mul (pe_op op_mod (pv 0) pe_int) pe_int) (pe_op op_mul (pv 1) pe_int)) pe_int) pe_int))
      (pss_one (ps_ret (pe_op op_mod (pe_op op_mod (pe_op op_fdiv (pe_op op_mul (pv 3) (pv 3)) pe_int) pe_int) (pv 2))))), ?_⟩
    have x0 : 0 ≤ (c % 1000000007 * 48271 + k * 69621 + 7) % 1000000007 := Int.emod_nonneg _ (by decide)
    have x1 : (c % 1000000007 * 48271 + k * 69621 + 7) % 1000000007 < 1000000007 := Int.emod_lt_of_pos _ (by decide)
    have bx : ∀ x : Int, 0 ≤ x → x < 1000000007 → -(2 ^ 64) < x ∧ x < 2 ^ 64 := fun x a b => ⟨by omega, by omega⟩
    refine ⟨_, rfl, _, _, rfl, rfl, (by show (0 : Int) < 1000000007; decide), _, _, rfl, rfl, .inr ⟨by decide, by decide⟩,
      _, rfl, _, _, rfl, rfl, .inr ⟨by decide, by decide⟩, _, _, rfl, rfl, _, _, rfl, rfl, _, _, rfl, rfl, (by show (0 : Int) < 1000000007; decide), ?_⟩
    refine ⟨_, rfl, _, rfl, _, _, rfl, rfl, .inl (bx _ x0 x1), _, _, rfl, rfl, ⟨by decide, by decide⟩, _, _, rfl, rfl, (by show (0 : Int) < 1000003; decide), _, rfl, _, _, rfl, rfl, hm, q⟩
end
/-! ### check_ground -/
section
variable {P : Program} {w : World} {K : PySem.W.Frag} {mg : Str → Option Value} {base : Heap} {f : Addr} {fd : FuncData}
/-- what stands under the program's own names of numbers -/
def Num (mg : Str → Option Value) (x : Str) (i : Int) : Prop := ∃ u, mg x = some u ∧ RelV (.int i) u
/-- a class under its name -/
def Own (mg : Str → Option Value) (x : Str) (C : Addr) : Prop := ∃ u, mg x = some u ∧ RelV (.ref C) u
/-- what isinstance asks of a class of the program, and of the one above it -/
structure Isi (K : PySem.W.Frag) (C CR : Addr) : Prop where
  ha : PySem.W.findIn K (.ref C) "__class__" = some (some (.builtin "object.__class__"))
  hn : PySem.W.specialIn K (.builtin "object.__class__") "__get__" = some (some (.builtin "getset_descriptor.__get__"))
  htk : PySem.W.takesIn K (.builtin "object.__class__") = some true
  hm : PySem.W.mroIn K C (.type "object") = some true
  up : PySem.W.kitOne K (.ref C) (.ref CR) = some true
theorem kit_up {C CR : Addr} (h2 : PySem.W.isClsIn K CR = true) (h3 : PySem.W.typeIn K (.ref CR) = some (.type "type")) (h4 : PySem.W.subIn K (.ref C) (.ref CR) = some true) : PySem.W.kitOne K (.ref C) (.ref CR) = some true := by
  unfold PySem.W.kitOne
  by_cases c : (Value.ref C == Value.ref CR) = true
  · rw [if_pos c]
  · rw [if_neg c]
    have h2' : (PySem.W.clsIn K CR).isSome = true := h2
    have e2 : ((PySem.W.clsIn K CR).isSome && PySem.W.typeIn K (.ref CR) == some (.type "type")) = true := by
      rw [h2', h3] <;> rfl
    show (if ((PySem.W.clsIn K CR).isSome && PySem.W.typeIn K (.ref CR) == some (.type "type")) = true then PySem.W.subIn K (.ref C) (.ref CR) else none) = some true
    rw [if_pos e2]
    exact h4
def spGround : Sp := fun vs H Q _ => ∃ (a : Addr) (xs : List V), vs = [.ref a] ∧ H a = some (.lst xs) ∧ xs.length ≤ 16 ∧ Q .non H
structure Gl_ (mg : Str → Option Value) (CR : Addr) : Prop where
  Rule : Own mg "Rule" CR
def spLaw (K : PySem.W.Frag) : Sp := fun vs H Q _ => ∃ (a : Addr) (ns : List Int), vs = [.ref a] ∧ SqL K H a (ns.map V.int) ∧ ns.length ≤ 63 ∧ ∀ H', Q (.bl true) H'
structure Gg (mg : Str → Option Value) : Prop where
  MOST_THINGS : Num mg "MOST_THINGS" 16
end
/-! ### are_within -/
section
variable {P : Program} {w : World} {K : PySem.W.Frag} {mg : Str → Option Value} {base : Heap} {f : Addr} {fd : FuncData}
def inB (lo hi x : Int) : Bool := decide (lo ≤ x) && decide (x ≤ hi)
def spAre : Sp := fun vs H Q _ => ∃ (a : Addr) (xs : List Int) (lo hi : Int), vs = [.ref a, .int lo, .int hi] ∧ H a = some (.lst (xs.map V.int)) ∧ xs.length ≤ 1000 ∧ ∀ H', Same H H' → Q (.bl (xs.all (inB lo hi))) H'
theorem all_map {α : Type} (p : α → Bool) : ∀ xs : List α, (xs.map p).all id = xs.all p
  | [] => rfl
  | x :: xs => by
    show (p x && (xs.map p).all id) = (p x && xs.all p)
    rw [all_map p xs]
theorem ok_are (B : Bl mg) (F : L2.Fun K "are_within" "are_within" s_are_within f fd) (g : mg "are_within" = some (.ref f)) (c_is_within : C8.Cal P w K mg base 2 "is_within" spWithin []) : C8.Cal P w K mg base 3 "are_within" spAre [] := by
  refine ⟨f, fd, ["values", "low", "high"], [], F.ok sc_are_within (fun vs H Q E h => ?_) (fun cdv A outer s H vs Q E hr h => ?_), g, F.kp, F.binds (ps := ["values", "low", "high"]) (fun _ _ _ _ _ _ us hl => match us, hl with | [_, _, _], _ => rfl), .nil⟩
  · obtain ⟨a, xs, lo, hi, rfl, _⟩ := h
    rfl
  · obtain ⟨a, xs, lo, hi, rfl, ha, hlen, q⟩ := h
    refine ⟨_, (pss_one (ps_ret (pe_and (pe_callB (call_isiK (K := K) rfl) (by rfl) B.isinstance_ (by decide +kernel) (pa_cons (pv 0) (pa_cons (pe_bltn (v := .ty "list") (u := .type "list") (by rfl) B.list_ (by decide +kernel) rfl) pa_nil))) (pe_one (pe_callB (cr_all rfl) (by rfl) B.all_ (by decide +kernel) (pa_cons (pe_lc (own := [("value", 3)]) rfl sc_are_within.nd (pi_list (pv 0)) (blkOk_by (own := [("value", 3)]) (N := n_are_within) (sc := defScope s_are_within) (by decide +kernel)) (fun _ _ _ _ _ => (pg_name (i := 3) sc_are_within.nd rfl (Or.inl rfl))) (fun _ _ _ _ _ => pts_nil) (fun _ _ _ _ _ => (C8.pe_c c_is_within hr (by first | decide | exact Nat.le_refl _ | omega) rfl (pa_cons (pv 3) (pa_cons (pv 1) (pa_cons (pv 2) pa_nil)))))) pa_nil)))))), ?_⟩
    refine ⟨_, rfl, _, _, _, _, true, rfl, ClsV.ty _, TyX.base (TyOf.lst ha), kit_ty (by decide +kernel), true, rfl, iteT ?_⟩
    refine ⟨_, rfl, a, rfl, ⟨_, SqL.of ha⟩, fun D hD => lc_list (K := K) (a := a) (xs := xs.map V.int) (fun i H' => Same H H' ∧ H' D = some (.lst (((xs.take i).map (inB lo hi)).map V.bl)))
      ⟨same_upd hD, upd_same⟩ (fun i H' _ p => SqL.of (p.1 _ _ ha)) ?_ ?_⟩
    · rintro i y H' hi' ⟨s5, hL⟩
      obtain ⟨x, hx, rfl⟩ := map_at hi'
      refine ⟨rfl, yesT ?_⟩
      refine ⟨_, rfl, _, rfl, _, rfl, x, lo, hi, rfl, _, hL, ?_, same_to s5 hD, ?_⟩
      · rw [List.length_map, List.length_map]
        exact small1000 (Nat.le_trans (by rw [List.length_take]; omega) hlen)
      · rw [take_more hx, List.map_append, List.map_append]
        exact upd_same
    · rintro H' ⟨s5, hL⟩
      rw [List.length_map, List.take_length] at hL
      refine ⟨D, _, rfl, SqL.of hL, ?_⟩
      rw [all_map]
      exact q _ s5
end
/-! ### lists of lists (or tuples) of numbers -/
section
/-- at these addresses stand these lists of numbers, as mk says (.lst, .tup) -/
def rws (mk : List V → HO) (H : Hp) : List Addr → List (List Nat) → Prop
  | [], [] => True
  | t :: ts, w :: ws => H t = some (mk (w.map nv)) ∧ rws mk H ts ws
  | _, _ => False
variable {mk : List V → HO}
theorem rws.len {H : Hp} : ∀ {ts : List Addr} {ws : List (List Nat)}, rws mk H ts ws → ts.length = ws.length
  | [], [], _ => rfl
  | _ :: _, _ :: _, h => congrArg (· + 1) h.2.len
  | [], _ :: _, h => False.elim h
  | _ :: _, [], h => False.elim h
theorem rws.keep {H H' : Hp} : ∀ {ts : List Addr} {ws : List (List Nat)}, rws mk H ts ws → (∀ t xs, t ∈ ts → H t = some (mk xs) → H' t = some (mk xs)) → rws mk H' ts ws
  | [], [], _, _ => True.intro
  | _ :: _, _ :: _, h, k => ⟨k _ _ (List.mem_cons_self ..) h.1, h.2.keep fun t xs m => k t xs (List.mem_cons_of_mem _ m)⟩
  | [], _ :: _, h, _ => False.elim h
  | _ :: _, [], h, _ => False.elim h
theorem rws.same {H H' : Hp} {ts : List Addr} {ws : List (List Nat)} (h : rws mk H ts ws) (s : Same H H') : rws mk H' ts ws := h.keep fun _ _ _ e => s _ _ e
theorem rws.at {H : Hp} : ∀ {ts : List Addr} {ws : List (List Nat)} {i : Nat} {t : Addr}, rws mk H ts ws → ts[i]? = some t → ∃ w, ws[i]? = some w ∧ H t = some (mk (w.map nv))
  | t :: ts, w :: ws, 0, u, h, q => by
    have z : t = u := Option.some.inj q
    subst z
    exact ⟨w, rfl, h.1⟩
  | t :: ts, w :: ws, i + 1, u, h, q => rws.at (ts := ts) (ws := ws) h.2 q
  | [], _, _, _, _, q => by simp at q
  | _ :: _, [], _, _, h, _ => False.elim h
theorem rws.mem {H : Hp} : ∀ {ts : List Addr} {ws : List (List Nat)} {t : Addr}, rws mk H ts ws → t ∈ ts → ∃ w ∈ ws, H t = some (mk (w.map nv))
  | t :: ts, w :: ws, u, h, q => by
    rcases List.mem_cons.mp q with e | e
    · rw [e]
      exact ⟨w, List.mem_cons_self .., h.1⟩
    · obtain ⟨w', hw, k⟩ := rws.mem h.2 e
      exact ⟨w', List.mem_cons_of_mem _ hw, k⟩
  | [], _, _, _, q => by cases q
  | _ :: _, [], _, h, _ => False.elim h
theorem rws.put {H : Hp} {t : Addr} {w : List Nat} (ht : H t = some (mk (w.map nv))) : ∀ {ts : List Addr} {ws : List (List Nat)}, rws mk H ts ws → rws mk H (ts ++ [t]) (ws ++ [w])
  | [], [], _ => ⟨ht, True.intro⟩
  | _ :: _, _ :: _, h => ⟨h.1, h.2.put ht⟩
  | [], _ :: _, h => False.elim h
  | _ :: _, [], h => False.elim h
/-- something that is no such row is written: the rows stay -/
theorem rws.upd {H : Hp} {ts : List Addr} {ws : List (List Nat)} {l : Addr} {u : HO} (h : rws mk H ts ws) (n : l ∉ ts) : rws mk (upd H l u) ts ws := h.keep fun t xs m e => by
  have ne : t ≠ l := fun z => n (by rw [← z]; exact m)
  rw [upd_ne ne]
  exact e
theorem rws.not_mem {H : Hp} {ts : List Addr} {ws : List (List Nat)} {l : Addr} {o : HO} (h : rws mk H ts ws) (hl : H l = some o) (n : ∀ xs, o ≠ mk xs) : l ∉ ts := fun m => by
  obtain ⟨w, _, e⟩ := h.mem m
  rw [hl] at e
  exact n _ (Option.some.inj e)
theorem rws.not_none {H : Hp} {ts : List Addr} {ws : List (List Nat)} {l : Addr} (h : rws mk H ts ws) (hl : H l = none) : l ∉ ts := fun m => by
  obtain ⟨w, _, e⟩ := h.mem m
  rw [hl] at e
  cases e
def wd (w : List Nat) : List PyData := (w.map (fun n : Nat => (n : Int))).map PyData.int
def rd (w : List Nat) : PyData := .list (wd w)
def td (w : List Nat) : PyData := .tuple (wd w)
theorem dp_row {K : PySem.W.Frag} {H : Hp} {t : Addr} {w : List Nat} (h : H t = some (.lst (w.map nv))) : Dp K H (.ref t) (rd w) := .lst (SqL.of h) (dp_nats w)
theorem dp_tup {K : PySem.W.Frag} {H : Hp} {t : Addr} {w : List Nat} (h : H t = some (.tup (w.map nv))) : Dp K H (.ref t) (td w) := .tup (SqT.of h) (dp_nats w)
theorem dp_rows {K : PySem.W.Frag} {H : Hp} {dm : List Nat → PyData} (hd : ∀ t w, H t = some (mk (w.map nv)) → Dp K H (.ref t) (dm w)) : ∀ {ts : List Addr} {ws : List (List Nat)}, rws mk H ts ws → DpAll K H (ts.map V.ref) (ws.map dm)
  | [], [], _ => .nil
  | _ :: _, _ :: _, h => .cons (hd _ _ h.1) (dp_rows hd h.2)
  | [], _ :: _, h => False.elim h
  | _ :: _, [], h => False.elim h
theorem wd_lay (w : List Nat) : PyData.canLayAll0 (wd w) = true := PySem.W.ke_canLayAll0 _
theorem wd_depth (w : List Nat) : PyData.depthAll (wd w) = 0 := PySem.W.ke_depthAll _
theorem flat_lay {dm : List Nat → PyData} (h1 : ∀ w, (dm w).canLay0 = true) : ∀ ws : List (List Nat), PyData.canLayAll0 (ws.map dm) = true
  | [] => rfl
  | w :: ws => by simp [PyData.canLayAll0, h1 w, flat_lay h1 ws]
theorem flat_depth {dm : List Nat → PyData} (h2 : ∀ w, (dm w).depth = 1) : ∀ ws : List (List Nat), PyData.depthAll (ws.map dm) ≤ 1
  | [] => by simp [PyData.depthAll]
  | w :: ws => by
    have k1 := flat_depth h2 ws
    have k2 := h2 w
    simp only [List.map_cons, PyData.depthAll]
    omega
theorem rows_shaped {dm : List Nat → PyData} (h1 : ∀ w, (dm w).canLay0 = true) (h2 : ∀ w, (dm w).depth = 1) (ws : List (List Nat)) : SeqAt.shaped (.list (ws.map dm)) = true := by
  have k1 := flat_depth h2 ws
  have k2 : PyData.depth (.list (ws.map dm)) ≤ 64 := by
    simp only [PyData.depth]
    omega
  show (PyData.canLay0 (.list (ws.map dm)) && decide (PyData.depth (.list (ws.map dm)) ≤ 64)) = true
  rw [Bool.and_eq_true]
  exact ⟨by simp only [PyData.canLay0]; exact flat_lay h1 ws, decide_eq_true k2⟩
theorem rd_lay (w : List Nat) : (rd w).canLay0 = true := by simp only [rd, PyData.canLay0]; exact wd_lay w
theorem td_lay (w : List Nat) : (td w).canLay0 = true := by simp only [td, PyData.canLay0]; exact wd_lay w
theorem rd_depth (w : List Nat) : (rd w).depth = 1 := by simp only [rd, PyData.depth, wd_depth]
theorem td_depth (w : List Nat) : (td w).depth = 1 := by simp only [td, PyData.depth, wd_depth]
theorem td_shaped (w : List Nat) : SeqAt.shaped (td w) = true := by
  show ((td w).canLay0 && decide ((td w).depth ≤ 64)) = true
  rw [td_lay, td_depth]
  rfl
theorem rows_same (ws : List (List Nat)) : PyData.eqv (.list (ws.map rd)) (.list (ws.map rd)) = true := SeqAt.eqv_refl _ (SeqAt.canLay_of_shaped (rows_shaped rd_lay rd_depth ws))
theorem wd_eqv : ∀ a b : List Nat, PyData.eqvAll (wd a) (wd b) = decide (a = b)
  | [], [] => rfl
  | [], _ :: _ => by rw [decide_eq_false (by intro z; cases z)]; simp [wd, PyData.eqvAll]
  | _ :: _, [] => by rw [decide_eq_false (by intro z; cases z)]; simp [wd, PyData.eqvAll]
  | x :: a, y :: b => by
    have ih := wd_eqv a b
    show PyData.eqvAll (PyData.int x :: wd a) (PyData.int y :: wd b) = _
    simp only [PyData.eqvAll, PyData.eqv, ih]
    by_cases e : x = y
    · subst e
      by_cases e2 : a = b
      · subst e2; simp
      · simp [e2]
    · have e3 : ((x : Int) == (y : Int)) = false := beq_false_of_ne (by omega)
      rw [e3, decide_eq_false (p := x :: a = y :: b) (by intro z; exact e (List.cons.inj z).1)]
      rfl
theorem td_eqv (a b : List Nat) : PyData.eqv (td a) (td b) = decide (a = b) := by
  simp only [td, PyData.eqv]
  exact wd_eqv a b
theorem td_any (w : List Nat) : ∀ ws : List (List Nat), ((ws.map td).any fun z => PyData.eqv z (td w)) = decide (w ∈ ws)
  | [] => rfl
  | x :: ws => by
    rw [List.map_cons, List.any_cons, td_any w ws, td_eqv]
    by_cases e : x = w
    · subst e; simp
    · have e' : ¬ w = x := fun z => e z.symm
      simp [e, e']
theorem ne_nil_eqv {dm : List Nat → PyData} (ws : List (List Nat)) : PyData.eqv (.list (ws.map dm)) (.list []) = decide (ws = []) := by
  cases ws with
  | nil => rfl
  | cons e es =>
    rw [decide_eq_false (by intro z; cases z)]
    simp [PyData.eqv, PyData.eqvAll]
end
/-! ### what is read -/
section
variable {P : Program} {w : World} {K : PySem.W.Frag} {mg : Str → Option Value} {base : Heap} {f : Addr} {fd : FuncData} {c : Cs}
/-- over a text -/
theorem lc_str {x : Str} {g : TG} {tt : TT} {te : TE} {vs : List Nat} {σ : St} {H1 : Hp} {D : Addr} {Qd : Hp → Prop} (Pv : Nat → Hp → Prop) (h0 : Pv 0 (upd H1 D (.lst [])))
    (hs : ∀ i (a : Nat) H, x.cps[i]? = some a → Pv i H → g (.str ⟨#[a]⟩) (wipe σ vs) H fun σ2 H2 => wipe σ2 vs = wipe σ vs ∧ tt σ2 H2 fun b H3 =>
      if b = true then te σ2 H3 fun y H4 => ∃ acc, H4 D = some (.lst acc) ∧ acc.length < sizeLine ∧ Pv (i + 1) (upd H4 D (.lst (acc ++ [y]))) else Pv (i + 1) H3) (hd : ∀ H, Pv x.cps.size H → Qd H) :
    ∃ W : Nat → Nat → Hp → Prop, (∃ m, W 0 m (upd H1 D (.lst []))) ∧ ∀ i m H, W i m H →
      ((Its x).stop i H ∧ Qd H) ∨ ((Its x).go i H ∧ ∃ Nx : Hp → Prop, (∀ H', Nx H' → ∃ m', m' < m ∧ W (i + 1) m' H') ∧ ∀ y H', (Its x).yld i H y H' → g y (wipe σ vs) H' fun σ2 H2 => wipe σ2 vs = wipe σ vs ∧ tt σ2 H2 fun b H3 =>
        if b = true then te σ2 H3 fun y H4 => ∃ acc, H4 D = some (.lst acc) ∧ acc.length < sizeLine ∧ Nx (upd H4 D (.lst (acc ++ [y]))) else Nx H3) := by
  refine ⟨fun i m H => m = x.cps.size - i ∧ i ≤ x.cps.size ∧ Pv i H, ⟨x.cps.size, by simp, Nat.zero_le _, h0⟩, ?_⟩
  rintro i m H ⟨rfl, hi, p⟩
  by_cases hlt : i < x.cps.size
  · refine .inr ⟨hlt, Pv (i + 1), fun H' p' => ⟨x.cps.size - (i + 1), by omega, rfl, hlt, p'⟩, fun y H' q => ?_⟩
    obtain ⟨rfl, a, ea, rfl⟩ := q
    exact hs i a _ ea p
  · have e : i = x.cps.size := by omega
    subst e
    exact .inl ⟨Nat.le_refl _, hd H p⟩
def Txt_ (mg : Str → Option Value) (x t : Str) : Prop := ∃ u, mg x = some u ∧ RelV (.str t) u
structure Gn (mg : Str → Option Value) : Prop where
  MOST_FIGURES : Num mg "MOST_FIGURES" 10
  FIGURES : Txt_ mg "FIGURES" "0123456789"
theorem eq_str (a b : Str) : V.bl (decide (V.str a = V.str b)) = V.bl (decide (a = b)) := by
  congr 1
  rw [Bool.eq_iff_iff, decide_eq_true_eq, decide_eq_true_eq]
  exact ⟨fun e => V.str.inj e, fun e => by rw [e]⟩
end
/-! ### numbers that are read, or refused -/
section
variable {P : Program} {w : World} {K : PySem.W.Frag} {mg : Str → Option Value} {base : Heap} {f cT : Addr} {fd : FuncData}
def figs (t : Str) : Bool := (TL.tl t).all fun c => decide (c ∈ TL.tl (Str.ofString "0123456789"))
def gN (t : Str) : Option Nat :=
  if t = Str.ofString "" ∨ 10 < t.length ∨ figs t = false ∨ (Txt.startswith t (Str.ofString "0") = true ∧ t ≠ Str.ofString "0") then none else some (NumText.digitsVal (TL.tl t))
theorem figs_at {t : Str} {a : Nat} (h : a ∈ TL.tl (Str.ofString "0123456789")) : 48 ≤ a ∧ a ≤ 57 := by
  rw [TL.tl_ofString] at h
  have e : (Str.ofString "0123456789").cps.toList = [48, 49, 50, 51, 52, 53, 54, 55, 56, 57] := by decide +kernel
  have h' : a ∈ [48, 49, 50, 51, 52, 53, 54, 55, 56, 57] := by simpa using h
  simp only [List.mem_cons, List.not_mem_nil, or_false] at h'
  omega
theorem gN_int {t : Str} {n : Nat} (h : gN t = some n) : t ≠ Str.ofString "" ∧ ¬ 10 < t.length ∧ figs t = true ∧ ¬ (Txt.startswith t (Str.ofString "0") = true ∧ t ≠ Str.ofString "0") ∧ intText? t = some (n : Int) := by
  unfold gN at h
  split at h
  · cases h
  · rename_i c
    have e := Option.some.inj h
    simp only [not_or] at c
    obtain ⟨c1, c2, c3, c4⟩ := c
    have c3 : figs t = true := by cases z : figs t with | true => rfl | false => exact absurd z c3
    refine ⟨c1, c2, c3, c4, ?_⟩
    rw [← e]
    refine intText_digits (x := t) (fun c hc => figs_at (t := t) ?_) ?_ (by omega)
    · unfold figs at c3
      exact of_decide_eq_true (List.all_eq_true.mp c3 c hc)
    · intro z
      apply c1
      apply TL.ext_tl
      rw [Tx.tl_e]
      exact z
def spNumber (cT : Addr) : Sp := fun vs H Q E => ∃ t : Str, vs = [.str t] ∧ t.length ≤ 100000 ∧ (∀ n, gN t = some n → ∀ H', Same H H' → Q (nv n) H') ∧ (gN t = none → ∀ H', Same H H' → E (.ref cT) none H')
theorem ok_number (B : Bl mg) (G : Gn mg) (x_BadText : RzX.Exc K mg "BadText" cT) (F : L2.Fun K "number_of" "number_of" s_number_of f fd) (g : mg "number_of" = some (.ref f)) : RzX.Cal (L2N.CX P w) P w K mg base 1 "number_of" (spNumber cT) [] := by
  refine ⟨f, fd, ["word"], [], RzX.okN F sc_number_of (fun vs H Q E h => ?_) (fun cdv A' outer s H vs Q E hr h => ?_), g, F.kp, F.binds (ps := ["word"]) (fun _ _ _ _ _ _ us hl => match us, hl with | [_], _ => rfl), .nil⟩
  · obtain ⟨n, rfl, _⟩ := h
    rfl
  · obtain ⟨t, rfl, hl, q, qE⟩ := h
    refine ⟨_, (pss_cons (ps_if (PW.pt (pw_or (pt_cmpR op_eq (pv 0) pe_str (nomark _)) (pw_or (pt_cmpR op_gt (pe_callB call_len_str (by rfl) B.len_ (by decide +kernel) (pa_cons (pv 0) pa_nil)) (C8.pe_gc rfl G.MOST_FIGURES) (nomark _)) (pw_or1 (pt_not (pt_val (pe_callB (cr_all rfl) (by rfl) B.all_ (by decide +kernel) (pa_cons (pe_lc (own := [("figure", 1)]) rfl sc_number_of.nd (pi_str (pv 0)) (blkOk_by (own := [("figure", 1)]) (N := n_number_of) (sc := defScope s_number_of) (by decide +kernel)) (fun _ _ _ _ _ => (pg_name (i := 1) sc_number_of.nd rfl (Or.inl rfl))) (fun _ _ _ _ _ => pts_nil) (fun _ _ _ _ _ => (pe_cmpR op_in_sign (pv 1) (C8.pe_gc rfl G.FIGURES) (by rfl)))) pa_nil)))))))) (pss_one (RzX.ps_rz x_BadText (L2N.takes_of (E := E) rfl rfl rfl rfl) rfl rfl)) pss_nil)
      (pss_cons (ps_if (PW.pt (pw_and (pt_val (pe_m1 PySem.F.slot_str_startswith PySem.F.type_str_startswith mt_startswith (pv 0) pe_str)) (pw_and1 (pt_cmpR op_ne (pv 0) pe_str (nomark _))))) (pss_one (RzX.ps_rz x_BadText (L2N.takes_of (E := E) rfl rfl rfl rfl) rfl rfl)) pss_nil)
      (pss_one (ps_ret (pe_callTy call_int_str (by rfl) B.int_ (by decide +kernel) (pa_cons (pv 0) pa_nil)))))), ?_⟩
    have sz : sizeLine = 16777216 := rfl
    refine ⟨_, rfl, rfl, decide (t = Str.ofString ""), eq_str _ _, ?_⟩
    by_cases c1 : t = Str.ofString ""
    · rw [decide_eq_true c1]
      exact iteT (iteT (qE (by unfold gN; rw [if_pos (.inl c1)]) _ (Same.refl _)))
    rw [decide_eq_false c1]
    refine iteF ⟨_, rfl, _, rfl, by omega, _, _, rfl, rfl, decide (10 < t.length), ?_, ?_⟩
    · show V.bl (decide ((10 : Int) < (t.length : Int))) = _
      congr 1
      rw [Bool.eq_iff_iff, decide_eq_true_eq, decide_eq_true_eq]
      omega
    by_cases c2 : 10 < t.length
    · rw [decide_eq_true c2]
      exact iteT (iteT (qE (by unfold gN; rw [if_pos (.inr (.inl c2))]) _ (Same.refl _)))
    rw [decide_eq_false c2]
    refine iteF ?_
    have hs : t.cps.size ≤ 10 := by
      have : t.length = t.cps.size := rfl
      omega
    refine ⟨_, rfl, _, rfl, fun D hD => lc_str (x := t) (fun i H' => Same H H' ∧ H' D = some (.lst ((((TL.tl t).take i).map fun c => decide (c ∈ TL.tl (Str.ofString "0123456789"))).map V.bl)))
      ⟨same_upd hD, upd_same⟩ ?_ ?_⟩
    · rintro i a H' hi ⟨s5, hA⟩
      have il := (Array.getElem?_eq_some_iff.mp hi).1
      have hi' : (TL.tl t)[i]? = some a := by
        show t.cps.toList[i]? = some a
        rw [Array.getElem?_toList]
        exact hi
      refine ⟨rfl, yesT ?_⟩
      refine ⟨_, rfl, a, _, rfl, rfl, _, hA, ?_, same_to s5 hD, ?_⟩
      · rw [List.length_map, List.length_map, List.length_take]
        omega
      · rw [take_more hi', List.map_append, List.map_append]
        exact upd_same
    rintro H1 ⟨s1, hA⟩
    have tk : (TL.tl t).take t.cps.size = TL.tl t := List.take_of_length_le (by show t.cps.toList.length ≤ _; rw [Array.length_toList]; omega)
    rw [tk] at hA
    refine ⟨D, _, rfl, SqL.of hA, figs t, ?_, ?_⟩
    · rw [all_map]
      rfl
    cases c3 : figs t with
    | false => exact iteT (qE (by unfold gN; rw [if_pos (.inr (.inr (.inl c3)))]) _ s1)
    | true =>
    refine iteF ?_
    refine ⟨_, rfl, ⟨_, rfl⟩, _, _, rfl, rfl, Txt.startswith t (Str.ofString "0"), rfl, ?_⟩
    have good : ¬ (Txt.startswith t (Str.ofString "0") = true ∧ t ≠ Str.ofString "0") → ∃ n, gN t = some n := fun c4 => by
      refine ⟨NumText.digitsVal (TL.tl t), ?_⟩
      unfold gN
      rw [if_neg]
      simp only [not_or]
      exact ⟨c1, c2, by rw [c3]; decide, c4⟩
    cases c5 : Txt.startswith t (Str.ofString "0") with
    | false =>
      obtain ⟨n, hn⟩ := good fun z => by rw [c5] at z; exact absurd z.1 (by decide)
      exact iteF (iteF ⟨_, rfl, _, _, rfl, (gN_int hn).2.2.2.2, by omega, q n hn _ s1⟩)
    | true =>
      refine iteT ⟨_, rfl, rfl, decide (¬ t = Str.ofString "0"), ?_, ?_⟩
      · show V.bl (!decide (V.str t = V.str (Str.ofString "0"))) = _
        rw [decide_not]
        congr 2
        exact V.bl.inj (eq_str _ _)
      by_cases c6 : t = Str.ofString "0"
      · obtain ⟨n, hn⟩ := good fun z => z.2 c6
        rw [decide_eq_false (fun z => z c6)]
        exact iteF ⟨_, rfl, _, _, rfl, (gN_int hn).2.2.2.2, by omega, q n hn _ s1⟩
      · rw [decide_eq_true c6]
        exact iteT (qE (by unfold gN; rw [if_pos (.inr (.inr (.inr ⟨c5, c6⟩)))]) _ s1)
end
/-! ### words that are read, or refused -/
/-- each by f, or none -/
def gA {α β : Type} (f : α → Option β) : List α → Option (List β)
  | [] => some []
  | t :: r => match f t, gA f r with
    | some n, some ns => some (n :: ns)
    | _, _ => none
theorem gA_bad {α β : Type} {f : α → Option β} : ∀ {ts : List α} {t : α}, t ∈ ts → f t = none → gA f ts = none
  | a :: r, t, h, e => by
    unfold gA
    rcases List.mem_cons.mp h with z | z
    · rw [← z, e]
    · rw [gA_bad z e]
      cases f a <;> rfl
theorem gA_put {α β : Type} {f : α → Option β} : ∀ {ts : List α} {ns : List β} {t : α} {n : β}, gA f ts = some ns → f t = some n → gA f (ts ++ [t]) = some (ns ++ [n])
  | [], ns, t, n, h, e => by
    have : ns = [] := (Option.some.inj h).symm
    subst this
    show (match f t, gA f [] with | some n, some ns => some (n :: ns) | _, _ => none) = _
    rw [e]
    rfl
  | a :: r, ns, t, n, h, e => by
    unfold gA at h
    split at h
    · rename_i m ms h1 h2
      have : m :: ms = ns := Option.some.inj h
      subst this
      show (match f a, gA f (r ++ [t]) with | some n, some ns => some (n :: ns) | _, _ => none) = _
      rw [h1, gA_put h2 e]
      rfl
    · cases h
theorem gA_len {α β : Type} {f : α → Option β} : ∀ {ts : List α} {ns : List β}, gA f ts = some ns → ns.length = ts.length
  | [], ns, h => by
    have : ns = [] := (Option.some.inj h).symm
    rw [this]; rfl
  | a :: r, ns, h => by
    unfold gA at h
    split at h
    · rename_i m ms h1 h2
      have : m :: ms = ns := Option.some.inj h
      rw [← this, List.length_cons, List.length_cons, gA_len h2]
    · cases h
abbrev gNs : List Str → Option (List Nat) := gA gN
section
variable {P : Program} {w : World} {K : PySem.W.Frag} {mg : Str → Option Value} {base : Heap} {f cT : Addr} {fd : FuncData}
def spNumbers (cT : Addr) : Sp := fun vs H Q E => ∃ (a : Addr) (ts : List Str), vs = [.ref a] ∧ H a = some (.lst (ts.map V.str)) ∧ ts.length ≤ 1000 ∧ (∀ t ∈ ts, t.length ≤ 100000) ∧
  (∀ ns, gNs ts = some ns → ∀ H' q, Same H H' → H q = none → H' q = some (.lst (ns.map nv)) → Q (.ref q) H') ∧ (gNs ts = none → ∀ H', Same H H' → E (.ref cT) none H')
theorem ok_numbers (F : L2.Fun K "numbers_of" "numbers_of" s_numbers_of f fd) (g : mg "numbers_of" = some (.ref f)) (c_number_of : RzX.Cal (L2N.CX P w) P w K mg base 1 "number_of" (spNumber cT) []) : RzX.Cal (L2N.CX P w) P w K mg base 2 "numbers_of" (spNumbers cT) [] := by
  refine ⟨f, fd, ["words"], [], RzX.okN F sc_numbers_of (fun vs H Q E h => ?_) (fun cdv A' outer s H vs Q E hr h => ?_), g, F.kp, F.binds (ps := ["words"]) (fun _ _ _ _ _ _ us hl => match us, hl with | [_], _ => rfl), .nil⟩
  · obtain ⟨a, ns, rfl, _⟩ := h
    rfl
  · obtain ⟨a, ts, rfl, ha, hl, hn, q, qE⟩ := h
    refine ⟨_, (pss_one (ps_ret (LcX.pe_lcX (E := E) (own := [("word", 1)]) rfl rfl (L2N.takes_of (E := E) rfl rfl rfl rfl) rfl sc_numbers_of.nd (pi_list (pv 0)) (blkOk_by (own := [("word", 1)]) (N := n_numbers_of) (sc := defScope s_numbers_of) (by decide +kernel)) (fun _ _ _ _ _ _ => (pg_name (i := 1) sc_numbers_of.nd rfl (Or.inl rfl))) (fun _ _ _ _ _ _ tk => pts_nil) (fun _ _ _ _ _ _ tk => (RzX.pe_c c_number_of tk hr (by first | decide | omega) rfl (pa_cons (pv 1) pa_nil)))))), ?_⟩
    refine ⟨_, rfl, a, rfl, ⟨_, SqL.of ha⟩, fun D hD => lc_list (K := K) (a := a) (xs := ts.map V.str) (fun i H' => Same H H' ∧ ∃ ns, gNs (ts.take i) = some ns ∧ H' D = some (.lst (ns.map nv)))
      ⟨same_upd hD, [], rfl, upd_same⟩ (fun i H' _ p => SqL.of (p.1 _ _ ha)) ?_ ?_⟩
    · rintro i y H' hi ⟨s5, ns, hns, hA⟩
      obtain ⟨t, et, rfl⟩ := map_at hi
      have tm : t ∈ ts := List.mem_of_getElem? et
      refine ⟨rfl, yesT ?_⟩
      refine ⟨_, rfl, t, rfl, hn t tm, fun n en H6 s6 => ⟨_, s6 _ _ hA, ?_, same_to (s5.trans s6) hD, ns ++ [n], ?_, ?_⟩, fun en H6 s6 => qE (gA_bad tm en) _ (s5.trans s6)⟩
      · rw [List.length_map, gA_len hns]
        exact small1000 (Nat.le_trans (by rw [List.length_take]; omega) hl)
      · rw [take_more et]
        exact gA_put hns en
      · rw [List.map_append]
        exact upd_same
    · rintro H' ⟨s5, ns, hns, hA⟩
      rw [List.length_map, List.take_length] at hns
      exact q ns hns _ D s5 hD hA
/-- a tie's word -/
def gT (t : Str) : Option (List Nat) := gNs (Txt.split t (Str.ofString "-"))
def spTieOf (cT : Addr) : Sp := fun vs H Q E => ∃ t : Str, vs = [.str t] ∧ t.length ≤ 900 ∧ (∀ ns, gT t = some ns → ∀ H' p, Same H H' → H p = none → H' p = some (.tup (ns.map nv)) → Q (.ref p) H') ∧ (gT t = none → ∀ H', Same H H' → E (.ref cT) none H')
theorem split_len {t y : Str} {s : Nat} (hy : TL.tl y = [s]) (hk : y.cps.all (· < 256) = true) : (Txt.split t y).length ≤ t.length + 1 ∧ ∀ p ∈ Txt.split t y, p.length ≤ t.length := by
  rw [Tx.split_cut hy hk]
  refine ⟨?_, fun p hp => ?_⟩
  · rw [List.length_map]
    exact Tx.cutL_len s (TL.tl t)
  · obtain ⟨a, ha, rfl⟩ := List.mem_map.mp hp
    rw [SX.S_len]
    exact Tx.cutL_short s (TL.tl t) a ha
theorem ok_tieOf (B : Bl mg) (F : L2.Fun K "tie_of" "tie_of" s_tie_of f fd) (g : mg "tie_of" = some (.ref f)) (c_numbers_of : RzX.Cal (L2N.CX P w) P w K mg base 2 "numbers_of" (spNumbers cT) []) : RzX.Cal (L2N.CX P w) P w K mg base 3 "tie_of" (spTieOf cT) [] := by
  refine ⟨f, fd, ["word"], [], RzX.okN F sc_tie_of (fun vs H Q E h => ?_) (fun cdv A' outer s H vs Q E hr h => ?_), g, F.kp, F.binds (ps := ["word"]) (fun _ _ _ _ _ _ us hl => match us, hl with | [_], _ => rfl), .nil⟩
  · obtain ⟨e, rfl, _⟩ := h
    rfl
  · obtain ⟨t, rfl, hl, q, qE⟩ := h
    refine ⟨_, (pss_one (ps_ret (pe_callTy (call_tupK (K := K) rfl) (by rfl) B.tuple_ (by decide +kernel) (pa_cons (RzX.pe_c c_numbers_of (L2N.takes_of (E := E) rfl rfl rfl rfl) hr (by first | decide | omega) rfl (pa_cons (pe_split (pv 0) pe_str) pa_nil)) pa_nil)))), ?_⟩
    have sz : sizeLine = 16777216 := rfl
    refine ⟨_, rfl, ⟨_, rfl⟩, _, _, rfl, rfl, by decide +kernel, by omega, fun p np => ?_⟩
    obtain ⟨l1, l2⟩ := split_len (t := t) (y := Str.ofString "-") Tx.tl_dash (by decide +kernel)
    have s1 : Same H (upd H p (.lst ((Txt.split t (Str.ofString "-")).map V.str))) := same_upd np
    refine ⟨p, _, rfl, upd_same, by omega, fun x hx => by have := l2 x hx; omega, fun ns hns H2 m s2 nm hm => ?_, fun hns H2 s2 => qE hns _ (s1.trans s2)⟩
    have s12 := s1.trans s2
    exact ⟨m, _, rfl, .inl ⟨SqL.of hm, fun x nx => q ns hns _ x (s12.trans (same_upd nx)) (s12.free nx) upd_same⟩⟩
/-- a word of posts -/
def gP (t : Str) : Option (List Nat) := if t = Str.ofString "-" then some [] else gNs (Txt.split t (Str.ofString ","))
def spPostsOf (cT : Addr) : Sp := fun vs H Q E => ∃ t : Str, vs = [.str t] ∧ t.length ≤ 900 ∧ (∀ ns, gP t = some ns → ∀ H' p, Same H H' → H p = none → H' p = some (.lst (ns.map nv)) → Q (.ref p) H') ∧ (gP t = none → ∀ H', Same H H' → E (.ref cT) none H')
theorem ok_postsOf (F : L2.Fun K "posts_of" "posts_of" s_posts_of f fd) (g : mg "posts_of" = some (.ref f)) (c_numbers_of : RzX.Cal (L2N.CX P w) P w K mg base 2 "numbers_of" (spNumbers cT) []) : RzX.Cal (L2N.CX P w) P w K mg base 3 "posts_of" (spPostsOf cT) [] := by
  refine ⟨f, fd, ["word"], [], RzX.okN F sc_posts_of (fun vs H Q E h => ?_) (fun cdv A' outer s H vs Q E hr h => ?_), g, F.kp, F.binds (ps := ["word"]) (fun _ _ _ _ _ _ us hl => match us, hl with | [_], _ => rfl), .nil⟩
  · obtain ⟨e, rfl, _⟩ := h
    rfl
  · obtain ⟨t, rfl, hl, q, qE⟩ := h
    refine ⟨_, (pss_one (ps_ret (pe_ifExp (pt_cmpR op_eq (pv 0) pe_str (nomark _)) (pe_lst pa_nil) (RzX.pe_c c_numbers_of (L2N.takes_of (E := E) rfl rfl rfl rfl) hr (by first | decide | omega) rfl (pa_cons (pe_split (pv 0) pe_str) pa_nil))))), ?_⟩
    have sz : sizeLine = 16777216 := rfl
    refine ⟨_, rfl, rfl, decide (t = Str.ofString "-"), eq_str _ _, ?_⟩
    by_cases z : t = Str.ofString "-"
    · rw [decide_eq_true z]
      exact iteT ⟨Nat.zero_le _, fun p np => q [] (by unfold gP; rw [if_pos z]) _ p (same_upd np) np upd_same⟩
    · rw [decide_eq_false z]
      refine iteF ⟨_, rfl, ⟨_, rfl⟩, _, _, rfl, rfl, by decide +kernel, by omega, fun p np => ?_⟩
      obtain ⟨l1, l2⟩ := split_len (t := t) (y := Str.ofString ",") Tx.tl_comma (by decide +kernel)
      have s1 : Same H (upd H p (.lst ((Txt.split t (Str.ofString ",")).map V.str))) := same_upd np
      exact ⟨p, _, rfl, upd_same, by omega, fun x hx => by have := l2 x hx; omega, fun ns hns H2 m s2 nm hm => q ns (by unfold gP; rw [if_neg z]; exact hns) _ m (s1.trans s2) (s1.free nm) hm,
        fun hns H2 s2 => qE (by unfold gP; rw [if_neg z]; exact hns) _ (s1.trans s2)⟩
end
/-! ### rules that are made, or refused -/
/-- of how many different ones -/
def metN (ns : List Int) : Nat := (PyProof.Rows.firstMet (fun i => ns.getD i 0) ns.length).length
theorem metN_nodup {ns : List Int} (h : ns.Nodup) : metN ns = ns.length := by
  unfold metN
  rw [RZ.firstMet_nodup h _ (Nat.le_refl _), List.take_length]
def tLenSetX (K : PySem.W.Frag) (ta : TE) : TE := fun σ H Q => ta σ H fun x H1 => ∃ (l : Addr) (ns : List Int), x = .ref l ∧ SqL K H1 l (ns.map V.int) ∧ ns.length ≤ 4000 ∧ Q (.int (metN ns : Nat)) H1
theorem pe_lenSetX {X : Cx} {a : Expr} {ta : TE} {p p2 q pos : Pos} (hg : Gl X "len") (hm : X.mg "len" = none) (hg2 : Gl X "set") (hm2 : X.mg "set" = none) (ha : PE X a ta) (hc : X.calm = true := by rfl)
    (na : starEach [a] X.env = (false, eval a X.env) :: starEach [] X.env := by rfl) : PE X (.Call (.Name "len" p) [.Call (.Name "set" p2) [a] [] q] [] pos) (tLenSetX X.K ta) := by
  refine ⟨fun pins s σ H Q I h => ?_⟩
  refine PyProof.Rows.Call_ (ld_blt I hg hm PySem.boot_len ?_)
  refine PyProof.Rows.callWith_builtin1 (PyProof.Rows.args_cons ?_ rfl) rfl rfl
  refine PyProof.Rows.Call_ (ld_blt I hg2 hm2 PyProof.Rows.boot_set ?_)
  refine PyProof.Rows.callWith_type1 (PyProof.Rows.args_cons (thn (ha.run pins s σ H _ I h) fun v s1 ⟨x, H1, I1, r1, q1⟩ => PyProof.Rows.args_nil ?_) na) na rfl
  obtain ⟨l, ns, rfl, hq, hl, q1⟩ := q1
  cases r1
  obtain ⟨its, r, pl, hz⟩ := I1.list hq
  have hlen : its.toArray.size = ns.length := by rw [List.size_toArray, ← r.length, List.length_map]
  refine call_set_list (I1.ok.hd hc) pl.isList (by simpa using RZ.intsAre_vals r) (by rw [hlen]; unfold scanBound; omega) fun h' tk hS hk => ?_
  refine PyProof.Rows.args_nil ?_
  rw [hlen] at hS
  have ml : metN ns ≤ ns.length := PyProof.Rows.firstMet_length_le _ _
  obtain ⟨o, es, ep, t, ho, hex, hd, _, _, _, hf, hn⟩ := hS
  have I2 : Inv X pins σ H1 { s1 with heap := h', toks := tk } := I1.kept fun b o e => hk b o (Heap.lt_size e) e
  exact call_len_set ho hex hd hf (by rw [hn]; show ((metN ns : Nat) : Int) < 2 ^ 63; omega) ⟨.int (metN ns : Nat), H1, I2.tok _, ⟨_, by rw [hn]; rfl⟩, q1⟩
section
variable {P : Program} {w : World} {K : PySem.W.Frag} {mg : Str → Option Value} {base : Heap} {f C cR : Addr} {fd : FuncData}
def spGroundX (cR : Addr) : Sp := fun vs H Q E => ∃ (a : Addr) (xs : List V), vs = [.ref a] ∧ H a = some (.lst xs) ∧ xs.length ≤ 1000 ∧ (xs.length ≤ 16 → Q .non H) ∧ (16 < xs.length → E (.ref cR) none H)
theorem ok_groundX (B : Bl mg) (G : Gg mg) (x_BadRule : RzX.Exc K mg "BadRule" cR) (F : L2.Fun K "check_ground" "check_ground" s_check_ground f fd) (g : mg "check_ground" = some (.ref f)) : RzX.Cal (L2N.CX P w) P w K mg base 1 "check_ground" (spGroundX cR) [] := by
  refine ⟨f, fd, ["things"], [], RzX.okN F sc_check_ground (fun vs H Q E h => ?_) (fun cdv A outer s H vs Q E hr h => ?_), g, F.kp, F.binds (ps := ["things"]) (fun _ _ _ _ _ _ us hl => match us, hl with | [_], _ => rfl), .nil⟩
  · obtain ⟨a, xs, rfl, _⟩ := h
    rfl
  · obtain ⟨a, xs, rfl, ha, hl, q, qE⟩ := h
    refine ⟨_, (pss_cons (ps_if (pt_not (pt_val (pe_callB (call_isiK (K := K) rfl) (by rfl) B.isinstance_ (by decide +kernel) (pa_cons (pv 0) (pa_cons (pe_bltn (v := .ty "list") (u := .type "list") (by rfl) B.list_ (by decide +kernel) rfl) pa_nil))))) (pss_one (RzX.ps_rz x_BadRule (L2N.takes_of (E := E) rfl rfl rfl rfl) rfl rfl)) pss_nil)
      (pss_one (ps_if (pt_cmpR op_gt (pe_callB (call_lenK (K := K) rfl) (by rfl) B.len_ (by decide +kernel) (pa_cons (pv 0) pa_nil)) (C8.pe_gc rfl G.MOST_THINGS) (nomark _)) (pss_one (RzX.ps_rz x_BadRule (L2N.takes_of (E := E) rfl rfl rfl rfl) rfl rfl)) pss_nil))), ?_⟩
    refine ⟨_, rfl, _, _, _, _, true, rfl, ClsV.ty _, TyX.base (TyOf.lst ha), kit_ty (by decide +kernel), true, rfl, iteF ?_⟩
    by_cases c : 16 < xs.length
    · refine ⟨_, rfl, a, _, rfl, .inl (SqL.of ha), _, _, rfl, rfl, true, ?_, iteT (qE c)⟩
      have : (16 : Int) < (xs.length : Int) := by omega
      show V.bl (decide ((16 : Int) < (xs.length : Int))) = _
      rw [decide_eq_true this]
    · refine ⟨_, rfl, a, _, rfl, .inl (SqL.of ha), _, _, rfl, rfl, false, ?_, iteF (q (by omega))⟩
      have : ¬ ((16 : Int) < (xs.length : Int)) := by omega
      show V.bl (decide ((16 : Int) < (xs.length : Int))) = _
      rw [decide_eq_false this]
/-- a tie's ends -/
def okTie (N : Nat) (ns : List Nat) : Bool := decide (ns.length = 2) && ns.all fun n => decide (n < N)
def spTieX : Sp := fun vs H Q _ => ∃ (t : Addr) (N : Nat) (ns : List Nat), vs = [.ref t, nv N] ∧ H t = some (.tup (ns.map nv)) ∧ ns.length ≤ 1000 ∧ ∀ H', Same H H' → Q (.bl (okTie N ns)) H'
theorem in_lt (N n : Nat) : (decide ((0 : Int) ≤ (n : Int)) && decide ((n : Int) ≤ (N : Int) - 1)) = decide (n < N) := by
  rw [Bool.eq_iff_iff, Bool.and_eq_true, decide_eq_true_eq, decide_eq_true_eq, decide_eq_true_eq]
  omega
theorem ok_tieX (B : Bl mg) (F : L2.Fun K "is_tie" "is_tie" s_is_tie f fd) (g : mg "is_tie" = some (.ref f)) (c_is_within : C8.Cal P w K mg base 2 "is_within" spWithin []) : C8.Cal P w K mg base 3 "is_tie" spTieX [] := by
  refine ⟨f, fd, ["tie", "places"], [], F.ok sc_is_tie (fun vs H Q E h => ?_) (fun cdv A outer s H vs Q E hr h => ?_), g, F.kp, F.binds (ps := ["tie", "places"]) (fun _ _ _ _ _ _ us hl => match us, hl with | [_, _], _ => rfl), .nil⟩
  · obtain ⟨t, N, e, rfl, _⟩ := h
    rfl
  · obtain ⟨t, N, ns, rfl, ht, hl, q⟩ := h
    refine ⟨_, (pss_cons (ps_if (PW.pt (pw_or (pt_not (pt_val (pe_callB (call_isiK (K := K) rfl) (by rfl) B.isinstance_ (by decide +kernel) (pa_cons (pv 0) (pa_cons (pe_bltn (v := .ty "tuple") (u := .type "tuple") (by rfl) B.tuple_ (by decide +kernel) rfl) pa_nil))))) (pw_or1 (pt_cmpR op_ne (pe_callB (call_lenK (K := K) rfl) (by rfl) B.len_ (by decide +kernel) (pa_cons (pv 0) pa_nil)) pe_int (nomark _))))) (pss_one (ps_ret pe_bl)) pss_nil)
      (pss_one (ps_ret (pe_callB (cr_all rfl) (by rfl) B.all_ (by decide +kernel) (pa_cons (pe_lc (own := [("place", 2)]) rfl sc_is_tie.nd (pi_tup (pv 0)) (blkOk_by (own := [("place", 2)]) (N := n_is_tie) (sc := defScope s_is_tie) (by decide +kernel)) (fun _ _ _ _ _ => (pg_name (i := 2) sc_is_tie.nd rfl (Or.inl rfl))) (fun _ _ _ _ _ => pts_nil) (fun _ _ _ _ _ => (C8.pe_c c_is_within hr (by first | decide | exact Nat.le_refl _ | omega) rfl (pa_cons (pv 2) (pa_cons pe_int (pa_cons (pe_op op_sub (pv 1) pe_int) pa_nil)))))) pa_nil))))), ?_⟩
    refine ⟨_, rfl, _, _, _, _, true, rfl, ClsV.ty _, TyX.base (TyOf.tup ht), kit_ty (by decide +kernel), true, rfl, iteF ?_⟩
    by_cases c : ns.length = 2
    · refine ⟨_, rfl, t, _, rfl, .inr (SqT.of ht), rfl, false, by rw [List.length_map, c]; rfl, iteF ?_⟩
      refine ⟨_, rfl, t, rfl, ⟨_, SqT.of ht⟩, fun D hD => lc_tup (K := K) (a := t) (xs := ns.map nv) (fun i H' => Same H H' ∧ H' D = some (.lst (((ns.take i).map fun n => decide (n < N)).map V.bl)))
        ⟨same_upd hD, upd_same⟩ (fun i H' _ p => SqT.of (p.1 _ _ ht)) ?_ ?_⟩
      · rintro i y H' hi ⟨s5, hL⟩
        obtain ⟨n, hn, rfl⟩ := map_at hi
        refine ⟨rfl, yesT ?_⟩
        refine ⟨_, rfl, _, rfl, _, _, rfl, rfl, n, 0, (N : Int) - 1, rfl, _, hL, ?_, same_to s5 hD, ?_⟩
        · rw [List.length_map, List.length_map]
          exact small1000 (Nat.le_trans (by rw [List.length_take]; omega) hl)
        · rw [in_lt, take_more hn, List.map_append, List.map_append]
          exact upd_same
      · rintro H' ⟨s5, hL⟩
        rw [List.length_map, List.take_length] at hL
        refine ⟨D, _, rfl, SqL.of hL, ?_⟩
        rw [all_map]
        have := q _ s5
        unfold okTie at this
        rw [decide_eq_true c, Bool.true_and] at this
        exact this
    · refine ⟨_, rfl, t, _, rfl, .inr (SqT.of ht), rfl, true, ?_, iteT ?_⟩
      · rw [List.length_map]
        have : ¬ ((ns.length : Int) = 2) := by omega
        show V.bl (!decide (V.int (ns.length : Int) = V.int 2)) = _
        rw [decide_eq_false (fun z => this (V.int.inj z))]
        rfl
      · have := q _ (Same.refl _)
        unfold okTie at this
        rw [decide_eq_false c, Bool.false_and] at this
        exact this
/-- what a thing wants -/
def okPosts (ns : List Nat) : Bool := (ns.map fun n : Nat => (n : Int)).all (inB 0 30) && decide (metN (ns.map fun n : Nat => (n : Int)) = ns.length)
structure Gq (mg : Str → Option Value) : Prop where
  HIGHEST_POST : Num mg "HIGHEST_POST" 30
def spPostsX : Sp := fun vs H Q _ => ∃ (a : Addr) (ns : List Nat), vs = [.ref a] ∧ H a = some (.lst (ns.map nv)) ∧ ns.length ≤ 1000 ∧ ∀ H', Same H H' → Q (.bl (okPosts ns)) H'
theorem ok_postsX (B : Bl mg) (G : Gq mg) (F : L2.Fun K "are_posts" "are_posts" s_are_posts f fd) (g : mg "are_posts" = some (.ref f)) (c_are_within : C8.Cal P w K mg base 3 "are_within" spAre []) : C8.Cal P w K mg base 4 "are_posts" spPostsX [] := by
  refine ⟨f, fd, ["posts"], [], F.ok sc_are_posts (fun vs H Q E h => ?_) (fun cdv A outer s H vs Q E hr h => ?_), g, F.kp, F.binds (ps := ["posts"]) (fun _ _ _ _ _ _ us hl => match us, hl with | [_], _ => rfl), .nil⟩
  · obtain ⟨a, ns, rfl, _⟩ := h
    rfl
  · obtain ⟨a, ns, rfl, ha, hl, q⟩ := h
    refine ⟨_, (pss_one (ps_ret (pe_and (C8.pe_c c_are_within hr (by first | decide | exact Nat.le_refl _ | omega) rfl (pa_cons (pv 0) (pa_cons pe_int (pa_cons (C8.pe_gc rfl G.HIGHEST_POST) pa_nil)))) (pe_one (pe_cmpR op_eq (pe_lenSetX (by rfl) B.len_ (by rfl) B.set_ (pv 0)) (pe_callB (call_lenK (K := K) rfl) (by rfl) B.len_ (by decide +kernel) (pa_cons (pv 0) pa_nil)) (nomark _)))))), ?_⟩
    have ha' := ha
    rw [nv_ints] at ha'
    refine ⟨_, rfl, a, _, 0, 30, rfl, ha', by rw [List.length_map]; omega, fun H1 s1 => ⟨(ns.map fun n : Nat => (n : Int)).all (inB 0 30), rfl, ?_⟩⟩
    have qq := q _ s1
    unfold okPosts at qq
    cases c : (ns.map fun n : Nat => (n : Int)).all (inB 0 30) with
    | false =>
      rw [c, Bool.false_and] at qq
      exact iteF qq
    | true =>
      rw [c, Bool.true_and] at qq
      refine iteT ?_
      refine ⟨_, rfl, a, _, rfl, SqL.of (s1 _ _ ha'), by rw [List.length_map]; omega, _, rfl, a, _, rfl, .inl (SqL.of (s1 _ _ ha')), rfl, ?_⟩
      have e : decide (V.int ((metN (ns.map fun n : Nat => (n : Int)) : Nat) : Int) = V.int ((((ns.map fun n : Nat => (n : Int)).map V.int).length : Nat) : Int)) = decide (metN (ns.map fun n : Nat => (n : Int)) = ns.length) := by
        rw [Bool.eq_iff_iff, decide_eq_true_eq, decide_eq_true_eq, List.length_map, List.length_map]
        exact ⟨fun z => by have := V.int.inj z; omega, fun z => by rw [z]⟩
      rw [e]
      exact qq
end
/-! ### the four sorts, made or refused -/
section
variable {P : Program} {w : World} {K : PySem.W.Frag} {mg : Str → Option Value} {base : Heap} {f C cR : Addr} {fd : FuncData}
def okT (N : Nat) (tss : List (List Nat)) : Bool := (decide ((1 : Int) ≤ (N : Int)) && decide ((N : Int) ≤ 20)) && (decide (tss.length ≤ 16) && tss.all (okTie N))
structure Gt (K : PySem.W.Frag) (mg : Str → Option Value) (C : Addr) : Prop where
  cl : Cls K C
  nP : NoAttr K C "places"
  nT : NoAttr K C "ties"
  MOST_PLACES : Num mg "MOST_PLACES" 20
def spInitT (C cR : Addr) : Sp := fun vs H Q E => ∃ (p dx a : Addr) (N : Nat) (ts : List Addr) (tss : List (List Nat)), vs = [.ref p, nv N, .ref a] ∧ H p = some (.ins C dx []) ∧ H a = some (.lst (ts.map V.ref)) ∧ rws .tup H ts tss ∧ tss.length ≤ 1000 ∧ (∀ ns ∈ tss, ns.length ≤ 1000) ∧
  (okT N tss = true → ∀ H', (∀ b o, b ≠ p → H b = some o → H' b = some o) → Q .non H') ∧ (okT N tss = false → ∀ H', Same H H' → E (.ref cR) none H')
theorem ok_initT (B : Bl mg) (G : Gt K mg C) (x_BadRule : RzX.Exc K mg "BadRule" cR) (F : L2.Fun K "__init__" "Threads.__init__" s_Threads___init__ f fd) (M : L2.Mk K C f) (g : mg "Threads" = some (.ref C)) (c_is_within : C8.Cal P w K mg base 2 "is_within" spWithin [])
    (c_check_ground : RzX.Cal (L2N.CX P w) P w K mg base 1 "check_ground" (spGroundX cR) []) (c_is_tie : C8.Cal P w K mg base 3 "is_tie" spTieX []) : RzX.Mak (L2N.CX P w) P w K mg base 4 "Threads" C (spInitT C cR) [] := by
  refine ⟨f, fd, ["self", "places", "ties"], [], M, RzX.okN F sc_Threads___init__ (fun vs H Q E h => ?_) (fun cdv A outer s H vs Q E hr h => ?_), g, F.binds (ps := ["self", "places", "ties"]) (fun _ _ _ _ _ _ us hl => match us, hl with | [_, _, _], _ => rfl), .nil⟩
  · obtain ⟨p, dx, a, N, ts, es, rfl, _⟩ := h
    rfl
  · obtain ⟨p, dx, a, N, ts, tss, rfl, hp, ha, hts, hl, hb, q, qE⟩ := h
    refine ⟨_, (pss_cons (ps_if (pt_not (pt_val (C8.pe_c c_is_within hr (by first | decide | exact Nat.le_refl _ | omega) rfl (pa_cons (pv 1) (pa_cons pe_int (pa_cons (C8.pe_gc rfl G.MOST_PLACES) pa_nil)))))) (pss_one (RzX.ps_rz x_BadRule (L2N.takes_of (E := E) rfl rfl rfl rfl) rfl rfl)) pss_nil)
      (pss_cons (ps_expr (RzX.pe_c c_check_ground (L2N.takes_of (E := E) rfl rfl rfl rfl) hr (by first | decide | omega) rfl (pa_cons (pv 2) pa_nil)))
      (pss_cons (ps_if (pt_not (pt_val (pe_callB (cr_all rfl) (by rfl) B.all_ (by decide +kernel) (pa_cons (pe_lc (own := [("tie", 3)]) rfl sc_Threads___init__.nd (pi_list (pv 2)) (blkOk_by (own := [("tie", 3)]) (N := n_Threads___init__) (sc := defScope s_Threads___init__) (by decide +kernel)) (fun _ _ _ _ _ => (pg_name (i := 3) sc_Threads___init__.nd rfl (Or.inl rfl))) (fun _ _ _ _ _ => pts_nil) (fun _ _ _ _ _ => (C8.pe_c c_is_tie hr (by first | decide | exact Nat.le_refl _ | omega) rfl (pa_cons (pv 3) (pa_cons (pv 1) pa_nil))))) pa_nil)))) (pss_one (RzX.ps_rz x_BadRule (L2N.takes_of (E := E) rfl rfl rfl rfl) rfl rfl)) pss_nil)
      (pss_cons (ps_fld (pv 0) (pv 1) rfl)
      (pss_one (ps_fld (pv 0) (pe_callTy (call_tupK (K := K) rfl) (by rfl) B.tuple_ (by decide +kernel) (pa_cons (pe_lc (own := [("tie", 3)]) rfl sc_Threads___init__.nd (pi_list (pv 2)) (blkOk_by (own := [("tie", 3)]) (N := n_Threads___init__) (sc := defScope s_Threads___init__) (by decide +kernel)) (fun _ _ _ _ _ => (pg_name (i := 3) sc_Threads___init__.nd rfl (Or.inl rfl))) (fun _ _ _ _ _ => pts_nil) (fun _ _ _ _ _ => (pe_tup (pa_cons (pe_ix (r := rIxT K) ix_tup (pv 3) pe_int (fun _ _ => rfl)) (pa_cons (pe_ix (r := rIxT K) ix_tup (pv 3) pe_int (fun _ _ => rfl)) pa_nil))))) pa_nil)) rfl)))))), ?_⟩
    have el := hts.len
    refine ⟨_, rfl, N, 1, 20, rfl, _, rfl, ?_⟩
    cases c1 : (decide ((1 : Int) ≤ (N : Int)) && decide ((N : Int) ≤ 20)) with
    | false => exact iteT (qE (by unfold okT; rw [c1]; rfl) _ (Same.refl _))
    | true =>
    refine iteF ⟨_, rfl, a, _, rfl, ha, by rw [List.length_map]; omega, fun c2 => ?_, fun c2 => qE (by
      rw [List.length_map] at c2
      unfold okT
      rw [c1, decide_eq_false (by omega : ¬ tss.length ≤ 16)]
      rfl) _ (Same.refl _)⟩
    rw [List.length_map] at c2
    refine ⟨_, rfl, a, rfl, ⟨_, SqL.of ha⟩, fun D hD => lc_list (K := K) (a := a) (xs := ts.map V.ref) (fun i H' => Same H H' ∧ H' D = some (.lst (((tss.take i).map (okTie N)).map V.bl)))
      ⟨same_upd hD, upd_same⟩ (fun i H' _ p => SqL.of (p.1 _ _ ha)) ?_ ?_⟩
    · rintro i y H' hi ⟨s5, hL⟩
      obtain ⟨t, ht, rfl⟩ := map_at hi
      obtain ⟨e, he, hte⟩ := hts.at ht
      refine ⟨rfl, yesT ?_⟩
      refine ⟨_, rfl, _, rfl, t, N, e, rfl, s5 _ _ hte, hb e (List.mem_of_getElem? he), fun H2 s6 => ⟨_, s6 _ _ hL, ?_, same_to (s5.trans s6) hD, ?_⟩⟩
      · rw [List.length_map, List.length_map]
        exact small1000 (Nat.le_trans (by rw [List.length_take]; omega) hl)
      · rw [take_more he, List.map_append, List.map_append]
        exact upd_same
    rintro H1 ⟨s1, hL⟩
    rw [List.length_map, el, List.take_length] at hL
    refine ⟨D, _, rfl, SqL.of hL, tss.all (okTie N), by rw [all_map], ?_⟩
    have okE : okT N tss = tss.all (okTie N) := by
      unfold okT
      rw [c1, decide_eq_true (by omega : tss.length ≤ 16)]
      rfl
    cases c3 : tss.all (okTie N) with
    | false => exact iteT (qE (okE.trans c3) _ s1)
    | true =>
    refine iteF ?_
    have q := q (okE.trans c3)
    refine ⟨_, rfl, _, rfl, p, C, dx, [], rfl, s1 _ _ hp, G.cl, G.nP, (by show 0 < 1000; decide), ?_⟩
    have k2 : ∀ b o, b ≠ p → H b = some o → (upd H1 p (.ins C dx (putF "places" (nv N) []))) b = some o := fun b o nb e => by
      rw [upd_ne nb]
      exact s1 _ _ e
    have hp2 : (upd H1 p (.ins C dx (putF "places" (nv N) []))) p = some (.ins C dx (putF "places" (nv N) [])) := upd_same
    generalize upd H1 p (.ins C dx (putF "places" (nv N) [])) = H2 at k2 hp2
    have nap : a ≠ p := ne_of ha hp (by intro z; cases z)
    have ha2 := k2 _ _ nap ha
    have hts2 : rws .tup H2 ts tss := hts.keep fun t xs _ e => k2 _ _ (ne_of e hp (by intro z; cases z)) e
    refine ⟨_, rfl, a, rfl, ⟨_, SqL.of ha2⟩, fun D2 hD2 => lc_list (K := K) (a := a) (xs := ts.map V.ref) (fun i H' => Same H2 H' ∧ ∃ ds : List V, H' D2 = some (.lst ds) ∧ ds.length = i)
      ⟨same_upd hD2, [], upd_same, rfl⟩ (fun i H' _ p => SqL.of (p.1 _ _ ha2)) ?_ ?_⟩
    · rintro i y H' hi ⟨s5, ds, hL2, hds⟩
      obtain ⟨t, ht, rfl⟩ := map_at hi
      obtain ⟨e, he, hte⟩ := hts2.at ht
      have il : i < ts.length := (List.getElem?_eq_some_iff.mp ht).1
      have hte' := s5 _ _ hte
      have ok := List.all_eq_true.mp c3 e (List.mem_of_getElem? he)
      unfold okTie at ok
      obtain ⟨e1, e2, rfl⟩ : ∃ e1 e2, e = [e1, e2] := by
        have l2 : e.length = 2 := of_decide_eq_true (Bool.and_eq_true _ _ ▸ ok).1
        match e, l2 with
        | [x, y], _ => exact ⟨x, y, rfl⟩
      refine ⟨rfl, yesT ?_⟩
      refine ⟨_, rfl, t, _, _, _, rfl, rfl, SqT.of hte', atI_nat (j := 0) rfl, _, rfl, t, _, _, _, rfl, rfl, SqT.of hte', atI_nat (j := 1) rfl, (by show 2 ≤ sizeLine; decide), fun u hu => ?_⟩
      have su : Same H' (upd H' u (.tup [nv e1, nv e2])) := same_upd hu
      refine ⟨_, su _ _ hL2, by rw [hds]; exact small1000 (by omega), same_to (s5.trans su) hD2, ds ++ [.ref u], upd_same, ?_⟩
      rw [List.length_append, hds]
      rfl
    · rintro H3 ⟨s3, ds, hL3, hds⟩
      refine ⟨D2, _, rfl, .inl ⟨SqL.of hL3, fun t ht => ?_⟩⟩
      have st : Same H3 (upd H3 t (.tup ds)) := same_upd ht
      refine ⟨_, rfl, p, C, dx, _, rfl, st _ _ (s3 _ _ hp2), G.cl, G.nT, (by show 1 < 1000; decide), ?_⟩
      refine q _ fun b o nb e => ?_
      rw [upd_ne nb]
      exact st _ _ (s3 _ _ (k2 _ _ nb e))
def okK (ks ms : List Nat) : Bool := (ms.map fun n : Nat => (n : Int)).all (inB 0 16) && (decide (ks.length ≤ 16) && (ks.map fun n : Nat => (n : Int)).all (inB 0 ((ms.length : Int) - 1)))
structure Gk (K : PySem.W.Frag) (mg : Str → Option Value) (C : Addr) : Prop where
  cl : Cls K C
  nK : NoAttr K C "kinds"
  nM : NoAttr K C "most"
  MOST_OF_A_KIND : Num mg "MOST_OF_A_KIND" 16
def spInitK (C cR : Addr) : Sp := fun vs H Q E => ∃ (p dx a b : Addr) (ks ms : List Nat), vs = [.ref p, .ref a, .ref b] ∧ H p = some (.ins C dx []) ∧ H a = some (.lst (ks.map nv)) ∧ H b = some (.lst (ms.map nv)) ∧ ks.length ≤ 1000 ∧ ms.length ≤ 1000 ∧
  (okK ks ms = true → ∀ H', (∀ c o, c ≠ p → H c = some o → H' c = some o) → Q .non H') ∧ (okK ks ms = false → ∀ H', Same H H' → E (.ref cR) none H')
theorem ok_initK (B : Bl mg) (G : Gk K mg C) (x_BadRule : RzX.Exc K mg "BadRule" cR) (F : L2.Fun K "__init__" "Kinds.__init__" s_Kinds___init__ f fd) (M : L2.Mk K C f) (g : mg "Kinds" = some (.ref C)) (c_check_ground : RzX.Cal (L2N.CX P w) P w K mg base 1 "check_ground" (spGroundX cR) [])
    (c_are_within : C8.Cal P w K mg base 3 "are_within" spAre []) : RzX.Mak (L2N.CX P w) P w K mg base 4 "Kinds" C (spInitK C cR) [] := by
  refine ⟨f, fd, ["self", "kinds", "most"], [], M, RzX.okN F sc_Kinds___init__ (fun vs H Q E h => ?_) (fun cdv A outer s H vs Q E hr h => ?_), g, F.binds (ps := ["self", "kinds", "most"]) (fun _ _ _ _ _ _ us hl => match us, hl with | [_, _, _], _ => rfl), .nil⟩
  · obtain ⟨p, dx, a, b, ks, ms, rfl, _⟩ := h
    rfl
  · obtain ⟨p, dx, a, b, ks, ms, rfl, hp, ha, hb, kl, ml, q, qE⟩ := h
    refine ⟨_, (pss_cons (ps_if (pt_not (pt_val (C8.pe_c c_are_within hr (by first | decide | exact Nat.le_refl _ | omega) rfl (pa_cons (pv 2) (pa_cons pe_int (pa_cons (C8.pe_gc rfl G.MOST_OF_A_KIND) pa_nil)))))) (pss_one (RzX.ps_rz x_BadRule (L2N.takes_of (E := E) rfl rfl rfl rfl) rfl rfl)) pss_nil)
      (pss_cons (ps_expr (RzX.pe_c c_check_ground (L2N.takes_of (E := E) rfl rfl rfl rfl) hr (by first | decide | omega) rfl (pa_cons (pv 1) pa_nil)))
      (pss_cons (ps_if (pt_not (pt_val (C8.pe_c c_are_within hr (by first | decide | exact Nat.le_refl _ | omega) rfl (pa_cons (pv 1) (pa_cons pe_int (pa_cons (pe_op op_sub (pe_callB (call_lenK (K := K) rfl) (by rfl) B.len_ (by decide +kernel) (pa_cons (pv 2) pa_nil)) pe_int) pa_nil)))))) (pss_one (RzX.ps_rz x_BadRule (L2N.takes_of (E := E) rfl rfl rfl rfl) rfl rfl)) pss_nil)
      (pss_cons (ps_fld (pv 0) (pe_callTy (call_tupK (K := K) rfl) (by rfl) B.tuple_ (by decide +kernel) (pa_cons (pv 1) pa_nil)) rfl)
      (pss_one (ps_fld (pv 0) (pe_callTy (call_tupK (K := K) rfl) (by rfl) B.tuple_ (by decide +kernel) (pa_cons (pv 2) pa_nil)) rfl)))))), ?_⟩
    have ha' := ha
    have hb' := hb
    rw [nv_ints] at ha' hb'
    refine ⟨_, rfl, b, _, 0, 16, rfl, hb', by rw [List.length_map]; exact ml, fun H1 s1 => ⟨_, rfl, ?_⟩⟩
    cases c1 : (ms.map fun n : Nat => (n : Int)).all (inB 0 16) with
    | false => exact iteT (qE (by unfold okK; rw [c1]; rfl) _ s1)
    | true =>
    refine iteF ⟨_, rfl, a, _, rfl, s1 _ _ ha, by rw [List.length_map]; exact kl, fun c2 => ?_, fun c2 => qE (by
      rw [List.length_map] at c2
      unfold okK
      rw [c1, decide_eq_false (by omega : ¬ ks.length ≤ 16)]
      rfl) _ s1⟩
    rw [List.length_map] at c2
    refine ⟨_, rfl, _, rfl, b, _, rfl, .inl (SqL.of (s1 _ _ hb)), _, _, rfl, rfl, a, _, 0, (((ms.map nv).length : Nat) : Int) - 1, rfl, s1 _ _ ha', by rw [List.length_map]; omega, fun H2 s2 => ⟨_, rfl, ?_⟩⟩
    rw [List.length_map]
    have s12 := s1.trans s2
    have okE : okK ks ms = (ks.map fun n : Nat => (n : Int)).all (inB 0 ((ms.length : Int) - 1)) := by
      unfold okK
      rw [c1, decide_eq_true c2]
      rfl
    cases c3 : (ks.map fun n : Nat => (n : Int)).all (inB 0 ((ms.length : Int) - 1)) with
    | false => exact iteT (qE (okE.trans c3) _ s12)
    | true =>
    refine iteF ?_
    have q := q (okE.trans c3)
    refine ⟨_, rfl, a, _, rfl, .inl ⟨SqL.of (s12 _ _ ha), fun t ht => ?_⟩⟩
    have st : Same H2 (upd H2 t (.tup (ks.map nv))) := same_upd ht
    have h3 : (upd H2 t (HO.tup (ks.map nv))) t = some (.tup (ks.map nv)) := upd_same
    generalize upd H2 t (HO.tup (ks.map nv)) = H3 at st h3
    have s13 := s12.trans st
    refine ⟨_, rfl, p, C, dx, _, rfl, s13 _ _ hp, G.cl, G.nK, (by show 0 < 1000; decide), ?_⟩
    have keep : ∀ c o, c ≠ p → H c = some o → (upd H3 p (.ins C dx (putF "kinds" (.ref t) []))) c = some o := fun c o nc e => by
      rw [upd_ne nc]
      exact s13 _ _ e
    have hp4 : (upd H3 p (HO.ins C dx (putF "kinds" (.ref t) []))) p = some (.ins C dx (putF "kinds" (.ref t) [])) := upd_same
    generalize upd H3 p (HO.ins C dx (putF "kinds" (.ref t) [])) = H4 at keep hp4
    have nbp : b ≠ p := ne_of hb hp (by intro z; cases z)
    refine ⟨_, rfl, b, _, rfl, .inl ⟨SqL.of (keep _ _ nbp hb), fun u hu => ?_⟩⟩
    have su : Same H4 (upd H4 u (.tup (ms.map nv))) := same_upd hu
    refine ⟨_, rfl, p, C, dx, _, rfl, su _ _ hp4, G.cl, G.nM, (by show 1 < 1000; decide), ?_⟩
    refine q _ fun c o nc e => ?_
    rw [upd_ne nc]
    exact su _ _ (keep _ _ nc e)
def okP (wss : List (List Nat)) : Bool := decide (wss.length ≤ 16) && wss.all okPosts
structure Gp (K : PySem.W.Frag) (C : Addr) : Prop where
  cl : Cls K C
  nW : NoAttr K C "wants"
def spInitP (C cR : Addr) : Sp := fun vs H Q E => ∃ (p dx a : Addr) (ts : List Addr) (wss : List (List Nat)), vs = [.ref p, .ref a] ∧ H p = some (.ins C dx []) ∧ H a = some (.lst (ts.map V.ref)) ∧ rws .lst H ts wss ∧ wss.length ≤ 1000 ∧ (∀ ns ∈ wss, ns.length ≤ 1000) ∧
  (okP wss = true → ∀ H', (∀ b o, b ≠ p → H b = some o → H' b = some o) → Q .non H') ∧ (okP wss = false → ∀ H', Same H H' → E (.ref cR) none H')
theorem ok_initP (B : Bl mg) (G : Gp K C) (x_BadRule : RzX.Exc K mg "BadRule" cR) (F : L2.Fun K "__init__" "Posts.__init__" s_Posts___init__ f fd) (M : L2.Mk K C f) (g : mg "Posts" = some (.ref C)) (c_check_ground : RzX.Cal (L2N.CX P w) P w K mg base 1 "check_ground" (spGroundX cR) [])
    (c_are_posts : C8.Cal P w K mg base 4 "are_posts" spPostsX []) : RzX.Mak (L2N.CX P w) P w K mg base 5 "Posts" C (spInitP C cR) [] := by
  refine ⟨f, fd, ["self", "wants"], [], M, RzX.okN F sc_Posts___init__ (fun vs H Q E h => ?_) (fun cdv A outer s H vs Q E hr h => ?_), g, F.binds (ps := ["self", "wants"]) (fun _ _ _ _ _ _ us hl => match us, hl with | [_, _], _ => rfl), .nil⟩
  · obtain ⟨p, dx, a, ts, ws, rfl, _⟩ := h
    rfl
  · obtain ⟨p, dx, a, ts, wss, rfl, hp, ha, hts, hl, hb, q, qE⟩ := h
    refine ⟨_, (pss_cons (ps_expr (RzX.pe_c c_check_ground (L2N.takes_of (E := E) rfl rfl rfl rfl) hr (by first | decide | omega) rfl (pa_cons (pv 1) pa_nil)))
      (pss_cons (ps_if (pt_not (pt_val (pe_callB (cr_all rfl) (by rfl) B.all_ (by decide +kernel) (pa_cons (pe_lc (own := [("posts", 2)]) rfl sc_Posts___init__.nd (pi_list (pv 1)) (blkOk_by (own := [("posts", 2)]) (N := n_Posts___init__) (sc := defScope s_Posts___init__) (by decide +kernel)) (fun _ _ _ _ _ => (pg_name (i := 2) sc_Posts___init__.nd rfl (Or.inl rfl))) (fun _ _ _ _ _ => pts_nil) (fun _ _ _ _ _ => (C8.pe_c c_are_posts hr (by first | decide | exact Nat.le_refl _ | omega) rfl (pa_cons (pv 2) pa_nil)))) pa_nil)))) (pss_one (RzX.ps_rz x_BadRule (L2N.takes_of (E := E) rfl rfl rfl rfl) rfl rfl)) pss_nil)
      (pss_one (ps_fld (pv 0) (pe_callTy (call_tupK (K := K) rfl) (by rfl) B.tuple_ (by decide +kernel) (pa_cons (pe_lc (own := [("posts", 2)]) rfl sc_Posts___init__.nd (pi_list (pv 1)) (blkOk_by (own := [("posts", 2)]) (N := n_Posts___init__) (sc := defScope s_Posts___init__) (by decide +kernel)) (fun _ _ _ _ _ => (pg_name (i := 2) sc_Posts___init__.nd rfl (Or.inl rfl))) (fun _ _ _ _ _ => pts_nil) (fun _ _ _ _ _ => (pe_callTy (call_tupK (K := K) rfl) (by rfl) B.tuple_ (by decide +kernel) (pa_cons (pv 2) pa_nil)))) pa_nil)) rfl)))), ?_⟩
    have el := hts.len
    refine ⟨_, rfl, a, _, rfl, ha, by rw [List.length_map]; omega, fun c2 => ?_, fun c2 => qE (by
      rw [List.length_map] at c2
      unfold okP
      rw [decide_eq_false (by omega : ¬ wss.length ≤ 16)]
      rfl) _ (Same.refl _)⟩
    rw [List.length_map] at c2
    refine ⟨_, rfl, a, rfl, ⟨_, SqL.of ha⟩, fun D hD => lc_list (K := K) (a := a) (xs := ts.map V.ref) (fun i H' => Same H H' ∧ H' D = some (.lst (((wss.take i).map okPosts).map V.bl)))
      ⟨same_upd hD, upd_same⟩ (fun i H' _ p => SqL.of (p.1 _ _ ha)) ?_ ?_⟩
    · rintro i y H' hi ⟨s5, hL⟩
      obtain ⟨t, ht, rfl⟩ := map_at hi
      obtain ⟨e, he, hte⟩ := hts.at ht
      refine ⟨rfl, yesT ?_⟩
      refine ⟨_, rfl, t, e, rfl, s5 _ _ hte, hb e (List.mem_of_getElem? he), fun H2 s6 => ⟨_, s6 _ _ hL, ?_, same_to (s5.trans s6) hD, ?_⟩⟩
      · rw [List.length_map, List.length_map]
        exact small1000 (Nat.le_trans (by rw [List.length_take]; omega) hl)
      · rw [take_more he, List.map_append, List.map_append]
        exact upd_same
    rintro H1 ⟨s1, hL⟩
    rw [List.length_map, el, List.take_length] at hL
    refine ⟨D, _, rfl, SqL.of hL, wss.all okPosts, by rw [all_map], ?_⟩
    have okE : okP wss = wss.all okPosts := by
      unfold okP
      rw [decide_eq_true (by omega : wss.length ≤ 16)]
      rfl
    cases c3 : wss.all okPosts with
    | false => exact iteT (qE (okE.trans c3) _ s1)
    | true =>
    refine iteF ?_
    have q := q (okE.trans c3)
    have ha2 := s1 _ _ ha
    have hts2 := hts.same s1
    refine ⟨_, rfl, a, rfl, ⟨_, SqL.of ha2⟩, fun D2 hD2 => lc_list (K := K) (a := a) (xs := ts.map V.ref) (fun i H' => Same H1 H' ∧ ∃ ds : List V, H' D2 = some (.lst ds) ∧ ds.length = i)
      ⟨same_upd hD2, [], upd_same, rfl⟩ (fun i H' _ p => SqL.of (p.1 _ _ ha2)) ?_ ?_⟩
    · rintro i y H' hi ⟨s5, ds, hL2, hds⟩
      obtain ⟨t, ht, rfl⟩ := map_at hi
      obtain ⟨e, he, hte⟩ := hts2.at ht
      have il : i < ts.length := (List.getElem?_eq_some_iff.mp ht).1
      have hte' := s5 _ _ hte
      refine ⟨rfl, yesT ?_⟩
      refine ⟨_, rfl, t, _, rfl, .inl ⟨SqL.of hte', fun u hu => ?_⟩⟩
      have su : Same H' (upd H' u (.tup (e.map nv))) := same_upd hu
      refine ⟨_, su _ _ hL2, by rw [hds]; exact small1000 (by omega), same_to (s5.trans su) hD2, ds ++ [.ref u], upd_same, ?_⟩
      rw [List.length_append, hds]
      rfl
    · rintro H3 ⟨s3, ds, hL3, hds⟩
      refine ⟨D2, _, rfl, .inl ⟨SqL.of hL3, fun t ht => ?_⟩⟩
      have hp3 := s3 _ _ (s1 _ _ hp)
      have st : Same H3 (upd H3 t (.tup ds)) := same_upd ht
      refine ⟨_, rfl, p, C, dx, _, rfl, st _ _ hp3, G.cl, G.nW, (by show 0 < 1000; decide), ?_⟩
      refine q _ fun b o nb e => ?_
      rw [upd_ne nb]
      exact st _ _ (s3 _ _ (s1 _ _ e))
def okB (rows : List Nat) : Bool := decide (rows.length ≤ 16) && (rows.map fun n : Nat => (n : Int)).all (inB 0 4294967295)
structure Gb (K : PySem.W.Frag) (mg : Str → Option Value) (C : Addr) : Prop where
  cl : Cls K C
  nR : NoAttr K C "rows"
  HIGHEST_ROW : Num mg "HIGHEST_ROW" 4294967295
def spInitB (C cR : Addr) : Sp := fun vs H Q E => ∃ (p dx a : Addr) (rows : List Nat), vs = [.ref p, .ref a] ∧ H p = some (.ins C dx []) ∧ H a = some (.lst (rows.map nv)) ∧ rows.length ≤ 1000 ∧
  (okB rows = true → ∀ H', (∀ b o, b ≠ p → H b = some o → H' b = some o) → Q .non H') ∧ (okB rows = false → ∀ H', Same H H' → E (.ref cR) none H')
theorem ok_initB (B : Bl mg) (G : Gb K mg C) (x_BadRule : RzX.Exc K mg "BadRule" cR) (F : L2.Fun K "__init__" "Bits.__init__" s_Bits___init__ f fd) (M : Mk K C f) (g : mg "Bits" = some (.ref C)) (c_check_ground : RzX.Cal (L2N.CX P w) P w K mg base 1 "check_ground" (spGroundX cR) [])
    (c_are_within : C8.Cal P w K mg base 3 "are_within" spAre []) : RzX.Mak (L2N.CX P w) P w K mg base 4 "Bits" C (spInitB C cR) [] := by
  refine ⟨f, fd, ["self", "rows"], [], M, RzX.okN F sc_Bits___init__ (fun vs H Q E h => ?_) (fun cdv A outer s H vs Q E hr h => ?_), g, F.binds (ps := ["self", "rows"]) (fun _ _ _ _ _ _ us hl => match us, hl with | [_, _], _ => rfl), .nil⟩
  · obtain ⟨p, dx, a, rows, rfl, _⟩ := h
    rfl
  · obtain ⟨p, dx, a, rows, rfl, hp, ha, hl, q, qE⟩ := h
    refine ⟨_, (pss_cons (ps_expr (RzX.pe_c c_check_ground (L2N.takes_of (E := E) rfl rfl rfl rfl) hr (by first | decide | omega) rfl (pa_cons (pv 1) pa_nil)))
      (pss_cons (ps_if (pt_not (pt_val (C8.pe_c c_are_within hr (by first | decide | exact Nat.le_refl _ | omega) rfl (pa_cons (pv 1) (pa_cons pe_int (pa_cons (C8.pe_gc rfl G.HIGHEST_ROW) pa_nil)))))) (pss_one (RzX.ps_rz x_BadRule (L2N.takes_of (E := E) rfl rfl rfl rfl) rfl rfl)) pss_nil)
      (pss_one (ps_fld (pv 0) (pe_callTy (call_tupK (K := K) rfl) (by rfl) B.tuple_ (by decide +kernel) (pa_cons (pv 1) pa_nil)) rfl)))), ?_⟩
    have ha' := ha
    rw [nv_ints] at ha'
    refine ⟨_, rfl, a, _, rfl, ha, by rw [List.length_map]; exact hl, fun c2 => ?_, fun c2 => qE (by
      rw [List.length_map] at c2
      unfold okB
      rw [decide_eq_false (by omega : ¬ rows.length ≤ 16)]
      rfl) _ (Same.refl _)⟩
    rw [List.length_map] at c2
    refine ⟨_, rfl, a, _, 0, 4294967295, rfl, ha', by rw [List.length_map]; omega, fun H1 s1 => ⟨_, rfl, ?_⟩⟩
    have okE : okB rows = (rows.map fun n : Nat => (n : Int)).all (inB 0 4294967295) := by
      unfold okB
      rw [decide_eq_true c2]
      rfl
    cases c3 : (rows.map fun n : Nat => (n : Int)).all (inB 0 4294967295) with
    | false => exact iteT (qE (okE.trans c3) _ s1)
    | true =>
    refine iteF ?_
    have q := q (okE.trans c3)
    refine ⟨_, rfl, a, _, rfl, .inl ⟨SqL.of (s1 _ _ ha), fun t ht => ?_⟩⟩
    have hp1 := same_upd (o := .tup (rows.map nv)) ht _ _ (s1 _ _ hp)
    refine ⟨_, rfl, p, C, dx, _, rfl, hp1, G.cl, G.nR, (by show 0 < 1000; decide), ?_⟩
    refine q _ fun b o nb e => ?_
    rw [upd_ne nb]
    exact same_upd ht _ _ (s1 _ _ e)
end
/-! ### what a row's words make -/
def gM (nm : Str) (more things : List Str) : Option Bool :=
  if nm = Str.ofString "threads" ∧ more.length = 1 then
    match gN (more.headD (Str.ofString "")) with
    | none => none
    | some N => match gA gT things with
      | none => none
      | some tss => some (okT N tss)
  else if nm = Str.ofString "kinds" then
    match gNs things with
    | none => none
    | some ks => match gNs more with
      | none => none
      | some ms => some (okK ks ms)
  else if nm = Str.ofString "posts" ∧ more = [] then
    match gA gP things with
    | none => none
    | some wss => some (okP wss)
  else if nm = Str.ofString "bits" ∧ more = [] then
    match gNs things with
    | none => none
    | some rows => some (okB rows)
  else none
theorem gA_mem {α β : Type} {f : α → Option β} : ∀ {ts : List α} {ns : List β} {n : β}, gA f ts = some ns → n ∈ ns → ∃ t ∈ ts, f t = some n
  | [], ns, n, h, hn => by
    have : ns = [] := (Option.some.inj h).symm
    subst this
    cases hn
  | a :: r, ns, n, h, hn => by
    unfold gA at h
    split at h
    · rename_i m ms h1 h2
      have : m :: ms = ns := Option.some.inj h
      subst this
      rcases List.mem_cons.mp hn with z | z
      · exact ⟨a, List.mem_cons_self, z ▸ h1⟩
      · obtain ⟨t, ht, e⟩ := gA_mem h2 z
        exact ⟨t, List.mem_cons_of_mem _ ht, e⟩
    · cases h
theorem gT_len {t : Str} {ns : List Nat} (h : gT t = some ns) : ns.length ≤ t.length + 1 := by
  rw [gA_len h]
  exact (split_len (y := Str.ofString "-") Tx.tl_dash (by decide +kernel)).1
theorem gP_len {t : Str} {ns : List Nat} (h : gP t = some ns) : ns.length ≤ t.length + 1 := by
  unfold gP at h
  split at h
  · rw [← Option.some.inj h]; exact Nat.zero_le _
  · rw [gA_len h]
    exact (split_len (y := Str.ofString ",") Tx.tl_comma (by decide +kernel)).1
/-- the addresses that the program's top has written -/
structure Cx16 where
  t : Addr
  k : Addr
  p : Addr
  b : Addr
  cT : Addr
  cR : Addr
section
variable {P : Program} {w : World} {K : PySem.W.Frag} {mg : Str → Option Value} {base : Heap} {f : Addr} {fd : FuncData} {c : Cx16}
theorem made_same {H : Hp} {x dx C : Addr} (nx : H x = none) (nd : H dx = none) : Same H (upd (upd H dx (.own x)) x (.ins C dx [])) := fun b o e => by
  rw [upd_ne (ne_of_none e nx), upd_ne (ne_of_none e nd)]
  exact e
def spMadeOf (c : Cx16) : Sp := fun vs H Q E => ∃ (nm : Str) (a b : Addr) (more things : List Str), vs = [.str nm, .ref a, .ref b] ∧ H a = some (.lst (more.map V.str)) ∧ H b = some (.lst (things.map V.str)) ∧
  more.length ≤ 900 ∧ things.length ≤ 900 ∧ (∀ x ∈ more, x.length ≤ 900) ∧ (∀ x ∈ things, x.length ≤ 900) ∧ (more = [] ∨ more = [Str.ofString "1"] ∨ (nm ≠ Str.ofString "posts" ∧ nm ≠ Str.ofString "bits")) ∧
  (gM nm more things = some true → ∀ H' p, Same H H' → Q (.ref p) H') ∧ (gM nm more things = some false → ∀ H', Same H H' → E (.ref c.cR) none H') ∧ (gM nm more things = none → ∀ H', Same H H' → E (.ref c.cT) none H')
theorem ok_madeOf (B : Bl mg) (x_BadText : RzX.Exc K mg "BadText" c.cT) (F : L2.Fun K "made_of" "made_of" s_made_of f fd) (g : mg "made_of" = some (.ref f)) (c_number_of : RzX.Cal (L2N.CX P w) P w K mg base 1 "number_of" (spNumber c.cT) [])
    (c_numbers_of : RzX.Cal (L2N.CX P w) P w K mg base 2 "numbers_of" (spNumbers c.cT) []) (c_tie_of : RzX.Cal (L2N.CX P w) P w K mg base 3 "tie_of" (spTieOf c.cT) []) (c_posts_of : RzX.Cal (L2N.CX P w) P w K mg base 3 "posts_of" (spPostsOf c.cT) [])
    (k_Threads : RzX.Mak (L2N.CX P w) P w K mg base 4 "Threads" c.t (spInitT c.t c.cR) []) (k_Kinds : RzX.Mak (L2N.CX P w) P w K mg base 4 "Kinds" c.k (spInitK c.k c.cR) []) (k_Posts : RzX.Mak (L2N.CX P w) P w K mg base 5 "Posts" c.p (spInitP c.p c.cR) [])
    (k_Bits : RzX.Mak (L2N.CX P w) P w K mg base 4 "Bits" c.b (spInitB c.b c.cR) []) : RzX.Cal (L2N.CX P w) P w K mg base 7 "made_of" (spMadeOf c) [] := by
  refine ⟨f, fd, ["name", "more", "things"], [], RzX.okN F sc_made_of (fun vs H Q E h => ?_) (fun cdv A' outer s H vs Q E hr h => ?_), g, F.kp, F.binds (ps := ["name", "more", "things"]) (fun _ _ _ _ _ _ us hl => match us, hl with | [_, _, _], _ => rfl), .nil⟩
  · obtain ⟨hd, a, b, more, d, rfl, _⟩ := h
    rfl
  · obtain ⟨nm, a, b, more, things, rfl, ha, hb, ml, tl, mw, tw, hm, q, qR, qT⟩ := h
    refine ⟨_, (pss_cons (ps_if (PW.pt (pw_and (pt_cmpR op_eq (pv 0) pe_str (nomark _)) (pw_and1 (pt_cmpR op_eq (pe_callB (call_lenK (K := K) rfl) (by rfl) B.len_ (by decide +kernel) (pa_cons (pv 1) pa_nil)) pe_int (nomark _))))) (pss_one (ps_ret (RzX.pe_mk k_Threads (L2N.takes_of (E := E) rfl rfl rfl rfl) hr (by first | decide | omega) rfl (pa_cons (RzX.pe_c c_number_of (L2N.takes_of (E := E) rfl rfl rfl rfl) hr (by first | decide | omega) rfl (pa_cons (pe_ix (r := rIxL K) ix_list (pv 1) pe_int (fun _ _ => rfl)) pa_nil)) (pa_cons (LcX.pe_lcX (E := E) (own := [("word", 3)]) rfl rfl (L2N.takes_of (E := E) rfl rfl rfl rfl) rfl sc_made_of.nd (pi_list (pv 2)) (blkOk_by (own := [("word", 3)]) (N := n_made_of) (sc := defScope s_made_of) (by decide +kernel)) (fun _ _ _ _ _ _ => (pg_name (i := 3) sc_made_of.nd rfl (Or.inl rfl))) (fun _ _ _ _ _ _ tk => pts_nil) (fun _ _ _ _ _ _ tk => (RzX.pe_c c_tie_of tk hr (by first | decide | omega) rfl (pa_cons (pv 3) pa_nil)))) pa_nil))))) pss_nil)
      (pss_cons (ps_if (pt_cmpR op_eq (pv 0) pe_str (nomark _)) (pss_one (ps_ret (RzX.pe_mk k_Kinds (L2N.takes_of (E := E) rfl rfl rfl rfl) hr (by first | decide | omega) rfl (pa_cons (RzX.pe_c c_numbers_of (L2N.takes_of (E := E) rfl rfl rfl rfl) hr (by first | decide | omega) rfl (pa_cons (pv 2) pa_nil)) (pa_cons (RzX.pe_c c_numbers_of (L2N.takes_of (E := E) rfl rfl rfl rfl) hr (by first | decide | omega) rfl (pa_cons (pv 1) pa_nil)) pa_nil))))) pss_nil)
      (pss_cons (ps_if (PW.pt (pw_and (pt_cmpR op_eq (pv 0) pe_str (nomark _)) (pw_and1 (pt_cmpR (op_eqD hr.units) (pv 1) (pe_lst pa_nil) (nomark _))))) (pss_one (ps_ret (RzX.pe_mk k_Posts (L2N.takes_of (E := E) rfl rfl rfl rfl) hr (by first | decide | omega) rfl (pa_cons (LcX.pe_lcX (E := E) (own := [("word", 3)]) rfl rfl (L2N.takes_of (E := E) rfl rfl rfl rfl) rfl sc_made_of.nd (pi_list (pv 2)) (blkOk_by (own := [("word", 3)]) (N := n_made_of) (sc := defScope s_made_of) (by decide +kernel)) (fun _ _ _ _ _ _ => (pg_name (i := 3) sc_made_of.nd rfl (Or.inl rfl))) (fun _ _ _ _ _ _ tk => pts_nil) (fun _ _ _ _ _ _ tk => (RzX.pe_c c_posts_of tk hr (by first | decide | omega) rfl (pa_cons (pv 3) pa_nil)))) pa_nil)))) pss_nil)
      (pss_cons (ps_if (PW.pt (pw_and (pt_cmpR op_eq (pv 0) pe_str (nomark _)) (pw_and1 (pt_cmpR (op_eqD hr.units) (pv 1) (pe_lst pa_nil) (nomark _))))) (pss_one (ps_ret (RzX.pe_mk k_Bits (L2N.takes_of (E := E) rfl rfl rfl rfl) hr (by first | decide | omega) rfl (pa_cons (RzX.pe_c c_numbers_of (L2N.takes_of (E := E) rfl rfl rfl rfl) hr (by first | decide | omega) rfl (pa_cons (pv 2) pa_nil)) pa_nil)))) pss_nil)
      (pss_one (RzX.ps_rz x_BadText (L2N.takes_of (E := E) rfl rfl rfl rfl) rfl rfl)))))), ?_⟩
    have lenIs : V.bl (decide (V.int ((more.map V.str).length : Int) = V.int 1)) = V.bl (decide (more.length = 1)) := by
      rw [List.length_map]
      congr 1
      rw [Bool.eq_iff_iff, decide_eq_true_eq, decide_eq_true_eq]
      exact ⟨fun z => by have := V.int.inj z; omega, fun z => by rw [z]; rfl⟩
    by_cases c0 : nm = Str.ofString "threads" ∧ more.length = 1
    · obtain ⟨c1, c2⟩ := c0
      refine ⟨_, rfl, rfl, true, by rw [eq_str, decide_eq_true c1], iteT ⟨_, rfl, a, _, rfl, .inl (SqL.of ha), rfl, true, by rw [← decide_eq_true c2]; exact lenIs, iteT ?_⟩⟩
      obtain ⟨m0, rfl⟩ : ∃ m0, more = [m0] := by
        match more, c2 with
        | [x], _ => exact ⟨x, rfl⟩
      have eM : gM nm [m0] things = match gN m0 with | none => none | some N => match gA gT things with | none => none | some tss => some (okT N tss) := by
        unfold gM
        rw [if_pos ⟨c1, c2⟩]
        rfl
      refine ⟨_, rfl, a, _, _, _, rfl, rfl, SqL.of ha, (atI_nat (xs := [m0].map V.str) (j := 0) (v := V.str m0) rfl), m0, rfl, Nat.le_trans (mw m0 (List.mem_singleton.mpr rfl)) (by decide), fun N hN H1 s1 => ?_, fun hN H1 s1 => qT (by rw [eM, hN]) _ s1⟩
      rw [hN] at eM
      have hb1 := s1 _ _ hb
      refine ⟨_, rfl, b, rfl, ⟨_, SqL.of hb1⟩, fun D hD => lc_list (K := K) (a := b) (xs := things.map V.str) (fun i H' => Same H1 H' ∧ ∃ (ts : List Addr) (tss : List (List Nat)), gA gT (things.take i) = some tss ∧ H' D = some (.lst (ts.map V.ref)) ∧ rws .tup H' ts tss)
        ⟨same_upd hD, [], [], rfl, upd_same, True.intro⟩ (fun i H' _ p => SqL.of (p.1 _ _ hb1)) ?_ ?_⟩
      · rintro i y H' hi ⟨s5, ts, tss, ets, hA, hts⟩
        obtain ⟨t, et, rfl⟩ := map_at hi
        have tm : t ∈ things := List.mem_of_getElem? et
        refine ⟨rfl, yesT ?_⟩
        refine ⟨_, rfl, t, rfl, tw t tm, fun ns hns H6 u s6 nu hu => ⟨_, s6 _ _ hA, ?_, same_to (s5.trans s6) hD, ts ++ [u], tss ++ [ns], ?_, ?_, ?_⟩, fun hns H6 s6 => qT (by rw [eM, gA_bad tm hns]) _ (s1.trans (s5.trans s6))⟩
        · rw [List.length_map, hts.len, gA_len ets]
          exact small1000 (Nat.le_trans (by rw [List.length_take]; omega) (by omega : things.length ≤ 1000))
        · rw [take_more et]
          exact gA_put ets hns
        · rw [List.map_append]
          exact upd_same
        · have pu : rws .tup H6 (ts ++ [u]) (tss ++ [ns]) := rws.put hu (hts.same s6)
          exact pu.upd (pu.not_mem (s6 _ _ hA) (by intro xs z; cases z))
      · rintro H' ⟨s5, ts, tss, ets, hA, hts⟩
        rw [List.length_map, List.take_length] at ets
        rw [ets] at eM
        intro x dx nx ndx ne
        have sm2 := made_same (C := c.t) nx ndx
        refine ⟨x, dx, D, N, ts, tss, rfl, upd_same, sm2 _ _ hA, hts.same sm2, ?_, fun ns hns => ?_, fun ok H7 keep => ⟨rfl, ?_⟩, fun ok H7 s7 => ?_⟩
        · rw [gA_len ets]; omega
        · obtain ⟨t, ht, e⟩ := gA_mem ets hns
          have := gT_len e
          have := tw t ht
          omega
        · exact q (eM.trans (congrArg some ok)) H7 x (s1.trans (s5.trans (Same.made nx ndx fun b o e nb => keep b o nb e)))
        · exact qR (eM.trans (congrArg some ok)) H7 (s1.trans (s5.trans (sm2.trans s7)))
    have go : (nm = Str.ofString "threads" ∧ ¬ more.length = 1) ∨ ¬ nm = Str.ofString "threads" := by
      by_cases c1 : nm = Str.ofString "threads"
      · exact .inl ⟨c1, fun z => c0 ⟨c1, z⟩⟩
      · exact .inr c1
    rcases go with h | c1
    case' inl =>
      obtain ⟨c1, c2⟩ := h
      refine ⟨_, rfl, rfl, true, by rw [eq_str, decide_eq_true c1], iteT ⟨_, rfl, a, _, rfl, .inl (SqL.of ha), rfl, false, by rw [← decide_eq_false c2]; exact lenIs, iteF ?_⟩⟩
    case' inr =>
      refine ⟨_, rfl, rfl, false, by rw [eq_str, decide_eq_false c1], iteF (iteF ?_)⟩
    all_goals
      refine ⟨_, rfl, rfl, decide (nm = Str.ofString "kinds"), eq_str _ _, ?_⟩
      by_cases c3 : nm = Str.ofString "kinds"
      · rw [decide_eq_true c3]
        refine iteT ?_
        have eM : gM nm more things = match gNs things with | none => none | some ks => match gNs more with | none => none | some ms => some (okK ks ms) := by
          unfold gM
          rw [if_neg c0, if_pos c3]
        refine ⟨_, rfl, b, things, rfl, hb, by omega, fun x hx => Nat.le_trans (tw x hx) (by decide), fun ks hks H1 m1 s1 nm1 hm1 => ?_, fun hks H1 s1 => qT (by rw [eM, hks]) _ s1⟩
        rw [hks] at eM
        refine ⟨_, rfl, a, more, rfl, s1 _ _ ha, by omega, fun x hx => Nat.le_trans (mw x hx) (by decide), fun ms hms H2 m2 s2 nm2 hm2 => ?_, fun hms H2 s2 => qT (by rw [eM, hms]) _ (s1.trans s2)⟩
        rw [hms] at eM
        intro x dx nx ndx ne
        have sm2 := made_same (C := c.k) nx ndx
        exact ⟨x, dx, m1, m2, ks, ms, rfl, upd_same, sm2 _ _ (s2 _ _ hm1), sm2 _ _ hm2, by rw [gA_len hks]; omega, by rw [gA_len hms]; omega,
          fun ok H7 keep => ⟨rfl, q (eM.trans (congrArg some ok)) H7 x (s1.trans (s2.trans (Same.made nx ndx fun b o e nb => keep b o nb e)))⟩, fun ok H7 s7 => qR (eM.trans (congrArg some ok)) H7 (s1.trans (s2.trans (sm2.trans s7)))⟩
      rw [decide_eq_false c3]
      refine iteF ?_
      -- more == []
      by_cases c4 : nm = Str.ofString "posts" ∧ more = []
      · obtain ⟨c5, rfl⟩ := c4
        have eM : gM nm [] things = match gA gP things with | none => none | some wss => some (okP wss) := by
          unfold gM
          rw [if_neg c0, if_neg c3, if_pos ⟨c5, rfl⟩]
        refine ⟨_, rfl, rfl, true, by rw [eq_str, decide_eq_true c5], iteT ⟨_, rfl, Nat.zero_le _, fun u nu => ?_⟩⟩
        have s0 : Same H (upd H u (.lst [])) := same_upd nu
        refine ⟨_, _, Dp.lst (SqL.of (s0 _ _ ha)) .nil, Dp.lst (SqL.of upd_same) .nil, by decide +kernel, by decide +kernel, true, rfl, iteT ?_⟩
        generalize upd H u (HO.lst []) = H1 at s0 ⊢
        have hb1 := s0 _ _ hb
        refine ⟨_, rfl, b, rfl, ⟨_, SqL.of hb1⟩, fun D hD => lc_list (K := K) (a := b) (xs := things.map V.str) (fun i H' => Same H1 H' ∧ ∃ (ts : List Addr) (wss : List (List Nat)), gA gP (things.take i) = some wss ∧ H' D = some (.lst (ts.map V.ref)) ∧ rws .lst H' ts wss ∧ D ∉ ts)
          ⟨same_upd hD, [], [], rfl, upd_same, True.intro, by simp⟩ (fun i H' _ p => SqL.of (p.1 _ _ hb1)) ?_ ?_⟩
        · rintro i y H' hi ⟨s5, ts, wss, ets, hA, hts, nD⟩
          obtain ⟨t, et, rfl⟩ := map_at hi
          have tm : t ∈ things := List.mem_of_getElem? et
          refine ⟨rfl, yesT ?_⟩
          refine ⟨_, rfl, t, rfl, tw t tm, fun ns hns H6 u s6 nu hu => ?_, fun hns H6 s6 => qT (by rw [eM, gA_bad tm hns]) _ (s0.trans (s5.trans s6))⟩
          have nD2 : D ∉ ts ++ [u] := fun z => by
            rcases List.mem_append.mp z with z | z
            · exact nD z
            · rw [List.mem_singleton.mp z] at hA
              rw [hA] at nu
              cases nu
          refine ⟨_, s6 _ _ hA, ?_, same_to (s5.trans s6) hD, ts ++ [u], wss ++ [ns], ?_, ?_, ?_, nD2⟩
          · rw [List.length_map, hts.len, gA_len ets]
            exact small1000 (Nat.le_trans (by rw [List.length_take]; omega) (by omega : things.length ≤ 1000))
          · rw [take_more et]
            exact gA_put ets hns
          · rw [List.map_append]
            exact upd_same
          · exact (rws.put hu (hts.same s6)).upd nD2
        · rintro H' ⟨s5, ts, wss, ets, hA, hts, nD⟩
          rw [List.length_map, List.take_length] at ets
          rw [ets] at eM
          intro x dx nx ndx ne
          have sm2 := made_same (C := c.p) nx ndx
          refine ⟨x, dx, D, ts, wss, rfl, upd_same, sm2 _ _ hA, hts.same sm2, ?_, fun ns hns => ?_, fun ok H7 keep => ⟨rfl, ?_⟩, fun ok H7 s7 => ?_⟩
          · rw [gA_len ets]; omega
          · obtain ⟨t, ht, e⟩ := gA_mem ets hns
            have := gP_len e
            have := tw t ht
            omega
          · exact q (eM.trans (congrArg some ok)) H7 x (s0.trans (s5.trans (Same.made nx ndx fun b o e nb => keep b o nb e)))
          · exact qR (eM.trans (congrArg some ok)) H7 (s0.trans (s5.trans (sm2.trans s7)))
      have go2 : (nm = Str.ofString "posts" ∧ more = [Str.ofString "1"]) ∨ ¬ nm = Str.ofString "posts" := by
        by_cases c5 : nm = Str.ofString "posts"
        · rcases hm with z | z | z
          · exact absurd ⟨c5, z⟩ c4
          · exact .inl ⟨c5, z⟩
          · exact absurd c5 z.1
        · exact .inr c5
      rcases go2 with h5 | c5
      case' inl =>
        obtain ⟨c5, rfl⟩ := h5
        refine ⟨_, rfl, rfl, true, by rw [eq_str, decide_eq_true c5], iteT ⟨_, rfl, Nat.zero_le _, fun u nu => ?_⟩⟩
        have s0 : Same H (upd H u (.lst [])) := same_upd nu
        refine ⟨_, _, Dp.lst (SqL.of (s0 _ _ ha)) (.cons (.str _) .nil), Dp.lst (SqL.of upd_same) .nil, by decide +kernel, by decide +kernel, false, rfl, iteF ?_⟩
        have nb0 : ¬ nm = Str.ofString "bits" := fun z => absurd (congrArg TL.tl (c5.symm.trans z)) (by decide +kernel)
        have eM : gM nm [Str.ofString "1"] things = none := by
          unfold gM
          rw [if_neg c0, if_neg c3, if_neg c4, if_neg (fun z => nb0 z.1)]
        exact ⟨_, rfl, rfl, false, by rw [eq_str, decide_eq_false nb0], iteF (iteF (qT eM _ s0))⟩
      refine ⟨_, rfl, rfl, false, by rw [eq_str, decide_eq_false c5], iteF (iteF ?_)⟩
      by_cases c6 : nm = Str.ofString "bits"
      · rcases hm with rfl | rfl | z
        · have eM : gM nm [] things = match gNs things with | none => none | some rows => some (okB rows) := by
            unfold gM
            rw [if_neg c0, if_neg c3, if_neg c4, if_pos ⟨c6, rfl⟩]
          refine ⟨_, rfl, rfl, true, by rw [eq_str, decide_eq_true c6], iteT ⟨_, rfl, Nat.zero_le _, fun u nu => ?_⟩⟩
          have s0 : Same H (upd H u (.lst [])) := same_upd nu
          refine ⟨_, _, Dp.lst (SqL.of (s0 _ _ ha)) .nil, Dp.lst (SqL.of upd_same) .nil, by decide +kernel, by decide +kernel, true, rfl, iteT ?_⟩
          generalize upd H u (HO.lst []) = H1 at s0 ⊢
          refine ⟨_, rfl, b, things, rfl, s0 _ _ hb, by omega, fun x hx => Nat.le_trans (tw x hx) (by decide), fun rows hrows H2 m1 s1 nm1 hm1 => ?_, fun hrows H2 s1 => qT (by rw [eM, hrows]) _ (s0.trans s1)⟩
          rw [hrows] at eM
          intro x dx nx ndx ne
          have sm2 := made_same (C := c.b) nx ndx
          exact ⟨x, dx, m1, rows, rfl, upd_same, sm2 _ _ hm1, by rw [gA_len hrows]; omega,
            fun ok H7 keep => ⟨rfl, q (eM.trans (congrArg some ok)) H7 x (s0.trans (s1.trans (Same.made nx ndx fun b o e nb => keep b o nb e)))⟩, fun ok H7 s7 => qR (eM.trans (congrArg some ok)) H7 (s0.trans (s1.trans (sm2.trans s7)))⟩
        · have eM : gM nm [Str.ofString "1"] things = none := by
            unfold gM
            rw [if_neg c0, if_neg c3, if_neg c4, if_neg (fun z => absurd z.2 (by simp))]
          refine ⟨_, rfl, rfl, true, by rw [eq_str, decide_eq_true c6], iteT ⟨_, rfl, Nat.zero_le _, fun u nu => ?_⟩⟩
          have s0 : Same H (upd H u (.lst [])) := same_upd nu
          exact ⟨_, _, Dp.lst (SqL.of (s0 _ _ ha)) (.cons (.str _) .nil), Dp.lst (SqL.of upd_same) .nil, by decide +kernel, by decide +kernel, false, rfl, iteF (qT eM _ s0)⟩
        · exact absurd c6 z.2
      · have eM : gM nm more things = none := by
          unfold gM
          rw [if_neg c0, if_neg c3, if_neg c4, if_neg (fun z => c6 z.1)]
        exact ⟨_, rfl, rfl, false, by rw [eq_str, decide_eq_false c6], iteF (iteF (qT eM _ (Same.refl _)))⟩
end
/-! ### what is read, or refused -/
section
variable {P : Program} {w : World} {K : PySem.W.Frag} {mg : Str → Option Value} {base : Heap} {f : Addr} {fd : FuncData} {c : Cx16}
theorem cut_one {α : Type} (f : α → V) (x : α) {r : List α} : cutV ((x :: r).map f) (some 1) none = r.map f := by
  unfold cutV
  have e : HT.sIx ((x :: r).map f).length 0 (some 1) = 1 := by
    unfold HT.sIx
    simp
  have e2 : HT.sIx ((x :: r).map f).length ((x :: r).map f).length none = ((x :: r).map f).length := rfl
  rw [e, e2, List.map_cons, List.drop_succ_cons, List.drop_zero, List.length_cons]
  exact List.take_of_length_le (by omega)
theorem ne_str {a b : String} (h : TL.tl (Str.ofString a) ≠ TL.tl (Str.ofString b)) : V.bl (decide (V.str (Str.ofString a) = V.str (Str.ofString b))) = V.bl false := by
  rw [eq_str, decide_eq_false fun e => h (congrArg TL.tl e)]
def spRead (c : Cx16) : Sp := fun vs H Q E =>
  ((vs = [.non] ∨ vs = [.int 5]) ∧ E (.ref c.cT) none H) ∨
  (∃ t : Str, vs = [.str t] ∧ 58 ∉ TL.tl t ∧ t.length ≤ 800 ∧ ∀ H', Same H H' → E (.ref c.cT) none H') ∨
  (∃ h b : Str, vs = [.str (h ++ Tx.colon ++ b)] ∧ 58 ∉ TL.tl h ∧ (h ++ Tx.colon ++ b).length ≤ 800 ∧ b ≠ Str.ofString "" ∧ Txt.startswith b Tx.blank = false ∧ ∀ H', Same H H' → E (.ref c.cT) none H') ∨
  (∃ (h nm : Str) (more ws : List Str), vs = [.str (Tx.row h ws)] ∧ 58 ∉ TL.tl h ∧ (∀ x ∈ ws, 32 ∉ TL.tl x) ∧ Txt.split h Tx.blank = nm :: more ∧ (Tx.row h ws).length ≤ 800 ∧ h.length ≤ 800 ∧ (Tx.body ws).length ≤ 800 ∧
    more.length ≤ 900 ∧ ws.length ≤ 900 ∧ (∀ x ∈ more, x.length ≤ 900) ∧ (∀ x ∈ ws, x.length ≤ 900) ∧ (more = [] ∨ more = [Str.ofString "1"] ∨ (nm ≠ Str.ofString "posts" ∧ nm ≠ Str.ofString "bits")) ∧
    (gM nm more ws = some true → ∀ H' p, Same H H' → Q (.ref p) H') ∧ (gM nm more ws ≠ some true → ∀ H', Same H H' → E (.ref c.cT) none H'))
theorem ok_read (B : Bl mg) (bstr : mg "str" = none) (x_BadText : RzX.Exc K mg "BadText" c.cT) (x_BadRule : RzX.Exc K mg "BadRule" c.cR) (xm1 : PySem.W.exmOne K (.ref c.cR) (.ref c.cR) = some true) (xm2 : PySem.W.exmOne K (.ref c.cT) (.ref c.cR) = some false)
    (F : L2.Fun K "read" "read" s_read f fd) (g : mg "read" = some (.ref f)) (c_made_of : RzX.Cal (L2N.CX P w) P w K mg base 7 "made_of" (spMadeOf c) []) : RzX.Cal (L2.CX P w) P w K mg base 8 "read" (spRead c) [] := by
  refine ⟨f, fd, ["text"], [], F.okX sc_read (fun vs H Q E h => ?_) (fun cdv A' outer s H vs Q E hr h => ?_), g, F.kp, F.binds (ps := ["text"]) (fun _ _ _ _ _ _ us hl => match us, hl with | [_], _ => rfl), .nil⟩
  · rcases h with ⟨rfl | rfl, _⟩ | ⟨t, rfl, _⟩ | ⟨h, b, rfl, _⟩ | ⟨h, nm, more, ws, rfl, _⟩ <;> rfl
  · refine ⟨_, (pss_cons (ps_if (pt_not (pt_val (pe_callB (call_isiK (K := K) rfl) (by rfl) B.isinstance_ (by decide +kernel) (pa_cons (pv 0) (pa_cons (pe_bltn (v := .ty "str") (u := .type "str") (by rfl) bstr (by decide +kernel) rfl) pa_nil))))) (pss_one (RzX.ps_rz2 x_BadText (takes_of (E := E) rfl rfl rfl rfl) rfl rfl)) pss_nil)
      (pss_cons (ps_asg (pe_partition (pv 0) pe_str) (pg_tupK (K := K) (n := 3) rfl (by rfl) (pgs_cons (pg_name (i := 1) sc_read.nd rfl (Or.inl rfl)) (pgs_cons (pg_name (i := 2) sc_read.nd rfl (Or.inl rfl)) (pgs_cons (pg_name (i := 3) sc_read.nd rfl (Or.inl rfl)) pgs_nil)))))
      (pss_cons (ps_if (pt_cmpR op_eq (pv 2) pe_str (nomark _)) (pss_one (RzX.ps_rz2 x_BadText (takes_of (E := E) rfl rfl rfl rfl) rfl rfl)) pss_nil)
      (pss_cons (ps_if (PW.pt (pw_and (pt_cmpR op_ne (pv 3) pe_str (nomark _)) (pw_and1 (pt_not (pt_val (pe_m1 PySem.F.slot_str_startswith PySem.F.type_str_startswith mt_startswith (pv 3) pe_str)))))) (pss_one (RzX.ps_rz2 x_BadText (takes_of (E := E) rfl rfl rfl rfl) rfl rfl)) pss_nil)
      (pss_cons (ps_set (i := 4) sc_read.nd rfl (Or.inl rfl) (pe_split (pv 1) pe_str))
      (pss_one (L2H.ps_try_onlyX rfl rfl ⟨rfl, by decide, .inl x_BadRule.gC⟩ (fun hd => L2H.passesAt_of rfl hd) (takes_of (E := E) rfl rfl rfl rfl) (fun W pn xe tk tk2 pa => (pss_one (ps_ret (RzX.pe_cS c_made_of tk hr (by first | decide | omega) rfl (pa_cons (pe_ix (r := rIxL K) ix_list (pv 4) pe_int (fun _ _ => rfl)) (pa_cons (pe_slice (r := rSlL K) sl_list (pv 4) (po_some pe_int) po_none) (pa_cons (pe_slice (r := rSlL K) sl_list (pe_split (pv 3) pe_str) (po_some pe_int) po_none) pa_nil)))))))
      (fun a oe cls d pn hz hv tkS hot => pss_one (L2H.ps_raiseHN hot tkS (RzX.pmk_own5 x_BadText rfl)))))))))), ?_⟩
    have sz : sizeLine = 16777216 := rfl
    rcases h with ⟨rfl | rfl, q⟩ | ⟨t, rfl, n, tl, q⟩ | ⟨h, b, rfl, n, tl, b1, b2, q⟩ | ⟨h, nm, more, ws, rfl, n, nw, hsp, tl, hl, bl, ml, wl, mw, ww, hm, q, qE⟩
    · exact ⟨_, rfl, _, _, _, _, false, rfl, ClsV.ty _, TyX.base TyOf.non, kit_ty (by decide +kernel), false, rfl, iteT q⟩
    · exact ⟨_, rfl, _, _, _, _, false, rfl, ClsV.ty _, TyX.base (TyOf.int _), kit_ty (by decide +kernel), false, rfl, iteT q⟩
    · refine ⟨_, rfl, _, _, _, _, true, rfl, ClsV.ty _, TyX.base (TyOf.str _), kit_ty (by decide +kernel), true, rfl, iteF ?_⟩
      refine ⟨_, rfl, ⟨_, rfl⟩, _, _, rfl, rfl, by decide +kernel, by omega, fun u nu => ?_⟩
      have cut : Txt.partition t (Str.ofString ":") = (t, Str.empty, Str.empty) := TL.partition_none Tx.tl_colon n
      rw [cut]
      have s1 : Same H (upd H u (.tup [V.str t, V.str Str.empty, V.str Str.empty])) := same_upd nu
      refine ⟨u, _, rfl, SqT.of upd_same, rfl, _, _, rfl, _, _, rfl, _, _, rfl, rfl, ?_⟩
      exact ⟨_, rfl, rfl, true, by rw [eq_str, decide_eq_true Tx.e_empty.symm], iteT (q _ s1)⟩
    · refine ⟨_, rfl, _, _, _, _, true, rfl, ClsV.ty _, TyX.base (TyOf.str _), kit_ty (by decide +kernel), true, rfl, iteF ?_⟩
      refine ⟨_, rfl, ⟨_, rfl⟩, _, _, rfl, rfl, by decide +kernel, by omega, fun u nu => ?_⟩
      have cut : Txt.partition (h ++ Tx.colon ++ b) (Str.ofString ":") = (h, Str.ofString ":", b) := TL.partition_app Tx.tl_colon n
      rw [cut]
      have s1 : Same H (upd H u (.tup [V.str h, V.str (Str.ofString ":"), V.str b])) := same_upd nu
      refine ⟨u, _, rfl, SqT.of upd_same, rfl, _, _, rfl, _, _, rfl, _, _, rfl, rfl, ?_⟩
      refine ⟨_, rfl, rfl, false, ne_str (by rw [Tx.tl_colon, Tx.tl_e]; decide), iteF ?_⟩
      refine ⟨_, rfl, rfl, true, ?_, iteT ⟨_, rfl, ⟨_, rfl⟩, _, _, rfl, rfl, false, congrArg V.bl b2, iteT (q _ s1)⟩⟩
      show V.bl (!decide (V.str b = V.str (Str.ofString ""))) = _
      rw [decide_eq_false fun z => b1 (V.str.inj z)]
      rfl
    · refine ⟨_, rfl, _, _, _, _, true, rfl, ClsV.ty _, TyX.base (TyOf.str _), kit_ty (by decide +kernel), true, rfl, iteF ?_⟩
      refine ⟨_, rfl, ⟨_, rfl⟩, _, _, rfl, rfl, by decide +kernel, by omega, fun u nu => ?_⟩
      have cut : Txt.partition (Tx.row h ws) (Str.ofString ":") = (h, Str.ofString ":", Tx.body ws) := Tx.row_cut ws n
      rw [cut]
      have s1 : Same H (upd H u (.tup [V.str h, V.str (Str.ofString ":"), V.str (Tx.body ws)])) := same_upd nu
      refine ⟨u, _, rfl, SqT.of upd_same, rfl, _, _, rfl, _, _, rfl, _, _, rfl, rfl, ?_⟩
      generalize upd H u (HO.tup [V.str h, V.str (Str.ofString ":"), V.str (Tx.body ws)]) = H1 at s1 ⊢
      refine ⟨_, rfl, rfl, false, ne_str (by rw [Tx.tl_colon, Tx.tl_e]; decide), iteF ?_⟩
      have bsp : Txt.split (Tx.body ws) (Str.ofString " ") = Str.ofString "" :: ws := Tx.body_split ws nw
      have hsp : Txt.split h (Str.ofString " ") = nm :: more := hsp
      have go : Tx.body ws = Str.ofString "" ∨ (¬ Tx.body ws = Str.ofString "") := Classical.em _
      rcases go with z | z
      case' inl =>
        refine ⟨_, rfl, rfl, false, by show V.bl (!decide (V.str (Tx.body ws) = V.str (Str.ofString ""))) = _; rw [decide_eq_true (congrArg V.str z)]; rfl, iteF (iteF ?_)⟩
      case' inr =>
        refine ⟨_, rfl, rfl, true, by show V.bl (!decide (V.str (Tx.body ws) = V.str (Str.ofString ""))) = _; rw [decide_eq_false (fun y => z (V.str.inj y))]; rfl, iteT ⟨_, rfl, ⟨_, rfl⟩, _, _, rfl, rfl, true, congrArg V.bl (Tx.body_starts z), iteF ?_⟩⟩
      all_goals
        refine ⟨_, rfl, ⟨_, rfl⟩, _, _, rfl, rfl, by decide +kernel, (show h.length + 2 ≤ sizeLine by omega), fun l nl => ?_⟩
        rw [hsp]
        have s2 := s1.trans (same_upd (o := .lst ((nm :: more).map V.str)) nl)
        have hws : (upd H1 l (HO.lst ((nm :: more).map V.str))) l = some (.lst ((nm :: more).map V.str)) := upd_same
        generalize upd H1 l (HO.lst ((nm :: more).map V.str)) = H2 at s2 hws ⊢
        refine ⟨_, rfl, l, _, _, _, rfl, rfl, SqL.of hws, (atI_nat (xs := (nm :: more).map V.str) (j := 0) (v := V.str nm) rfl), ?_⟩
        refine ⟨_, rfl, (1 : Int), rfl, l, _, rfl, SqL.of hws, fun m nm1 => ?_⟩
        have e1 : cutV ((nm :: more).map V.str) (some 1) none = more.map V.str := cut_one V.str _
        rw [e1]
        have s3 := s2.trans (same_upd (o := .lst (more.map V.str)) nm1)
        have hm3 : (upd H2 m (HO.lst (more.map V.str))) m = some (.lst (more.map V.str)) := upd_same
        generalize upd H2 m (HO.lst (more.map V.str)) = H3 at s3 hm3 ⊢
        refine ⟨_, rfl, ⟨_, rfl⟩, _, _, rfl, rfl, by decide +kernel, (show (Tx.body ws).length + 2 ≤ sizeLine by omega), fun bs nbs => ?_⟩
        rw [bsp]
        have hbs : (upd H3 bs (HO.lst ((Str.ofString "" :: ws).map V.str))) bs = some (.lst ((Str.ofString "" :: ws).map V.str)) := upd_same
        have s4 : Same H3 (upd H3 bs (.lst ((Str.ofString "" :: ws).map V.str))) := same_upd nbs
        generalize upd H3 bs (HO.lst ((Str.ofString "" :: ws).map V.str)) = H4 at s4 hbs ⊢
        refine ⟨(1 : Int), rfl, bs, _, rfl, SqL.of hbs, fun v nv1 => ?_⟩
        have e2 : cutV ((Str.ofString "" :: ws).map V.str) (some 1) none = ws.map V.str := cut_one V.str _
        rw [e2]
        have s5 : Same H4 (upd H4 v (.lst (ws.map V.str))) := same_upd nv1
        have s25 := s3.trans (s4.trans s5)
        exact ⟨nm, m, v, more, ws, rfl, s5 _ _ (s4 _ _ hm3), upd_same, ml, wl, mw, ww, hm, fun ok H' p s6 => q ok H' p (s25.trans s6),
          fun ok H' s6 => ⟨true, xm1, fun _ a na => qE (by rw [ok]; decide) H' (s25.trans s6), fun z => absurd z (by decide)⟩,
          fun ok H' s6 => ⟨false, xm2, fun z => absurd z (by decide), fun _ => qE (by rw [ok]; decide) H' (s25.trans s6)⟩⟩
end
/-! ### what is refused -/
section
variable {P : Program} {w : World} {K : PySem.W.Frag} {mg : Str → Option Value} {base : Heap} {f : Addr} {fd : FuncData} {c : Cx16} {cF cB cW cN cH : Addr}
/-- the classes that the law names -/
structure Gr (mg : Str → Option Value) (c : Cx16) (cB cW cN cH : Addr) : Prop where
  BadRule : Own mg "BadRule" c.cR
  BadText : Own mg "BadText" c.cT
  BadThing : Own mg "BadThing" cB
  BadWeights : Own mg "BadWeights" cW
  NotFree : Own mg "NotFree" cN
  NotWhole : Own mg "NotWhole" cH
structure Kr (K : PySem.W.Frag) (c : Cx16) (cF cB cW cN cH : Addr) : Prop where
  ec : ExcC K c.cT
  r : PySem.W.kitOne K (.ref c.cT) (.ref c.cR) = some false
  b : PySem.W.kitOne K (.ref c.cT) (.ref cB) = some false
  w : PySem.W.kitOne K (.ref c.cT) (.ref cW) = some false
  n : PySem.W.kitOne K (.ref c.cT) (.ref cN) = some false
  h : PySem.W.kitOne K (.ref c.cT) (.ref cH) = some false
  t : PySem.W.kitOne K (.ref c.cT) (.ref c.cT) = some true
  v : PySem.W.kitOne K (.ref c.cT) (.type "ValueError") = some true
  x : PySem.W.exmOne K (.ref c.cT) (.ref cF) = some true
def spRefused (c : Cx16) : Sp := fun vs H Q _ => vs.length = 1 ∧ (∀ (Q' : VK) (E' : XK), (∀ H', Same H H' → E' (.ref c.cT) none H') → spRead c vs H Q' E') ∧ ∀ H', Same H H' → Q (.bl true) H'
theorem ok_refused (B : Bl mg) (bVE : mg "ValueError" = none) (G : Gr mg c cB cW cN cH) (R : Kr K c cF cB cW cN cH) (g_FreeError : mg "FreeError" = some (.ref cF)) (F : L2.Fun K "_law_refused" "_law_refused" s__law_refused f fd) (g : mg "_law_refused" = some (.ref f))
    (c_read : RzX.Cal (L2.CX P w) P w K mg base 8 "read" (spRead c) []) : C8.Cal P w K mg base 9 "_law_refused" (spRefused c) [] := by
  refine ⟨f, fd, ["_law_text"], [], F.ok sc__law_refused (fun vs H Q E h => h.1) (fun cdv A' outer s H vs Q E hr h => ?_), g, F.kp, F.binds (ps := ["_law_text"]) (fun _ _ _ _ _ _ us hl => match us, hl with | [_], _ => rfl), .nil⟩
  obtain ⟨hl, hread, q⟩ := h
  obtain ⟨v, rfl⟩ : ∃ v, vs = [v] := by
    match vs, hl with
    | [x], _ => exact ⟨x, rfl⟩
  refine ⟨_, (pss_cons (ps_try_as (i := 1) rfl rfl sc__law_refused.nd rfl rfl ⟨rfl, by decide, .inl g_FreeError⟩ takes0 (fun W pn xe tk _ => (pss_one (ps_expr (RzX.pe_cL c_read tk hr (by first | decide | omega) rfl (pa_cons (pv 0) pa_nil)))))
      (fun a oe cls d pn hz hv => RzX.pss_if (C := c.cT) (fun e1 e2 => (pss_cons (ps_set (i := 2) sc__law_refused.nd rfl (Or.inl rfl) (pe_or (pe_callB (call_isE R.ec (by rw [← e1, ← e2]; exact hz) hv) (by rfl) B.isinstance_ (by decide +kernel) (pa_cons (pv 1) (pa_cons (C8.pe_gc rfl G.BadRule) pa_nil))) (pe_or (pe_callB (call_isE R.ec (by rw [← e1, ← e2]; exact hz) hv) (by rfl) B.isinstance_ (by decide +kernel) (pa_cons (pv 1) (pa_cons (C8.pe_gc rfl G.BadThing) pa_nil))) (pe_one (pe_callB (call_isE R.ec (by rw [← e1, ← e2]; exact hz) hv) (by rfl) B.isinstance_ (by decide +kernel) (pa_cons (pv 1) (pa_cons (C8.pe_gc rfl G.BadWeights) pa_nil)))))))
      (pss_cons (ps_if (PW.pt (pw_or (pt_val (pv 2)) (pw_or (pt_val (pe_callB (call_isE R.ec (by rw [← e1, ← e2]; exact hz) hv) (by rfl) B.isinstance_ (by decide +kernel) (pa_cons (pv 1) (pa_cons (C8.pe_gc rfl G.NotFree) pa_nil)))) (pw_or1 (pt_val (pe_callB (call_isE R.ec (by rw [← e1, ← e2]; exact hz) hv) (by rfl) B.isinstance_ (by decide +kernel) (pa_cons (pv 1) (pa_cons (C8.pe_gc rfl G.NotWhole) pa_nil)))))))) (pss_one (ps_ret pe_bl)) pss_nil)
      (pss_one (ps_ret (pe_and (pe_callB (call_isE R.ec (by rw [← e1, ← e2]; exact hz) hv) (by rfl) B.isinstance_ (by decide +kernel) (pa_cons (pv 1) (pa_cons (C8.pe_gc rfl G.BadText) pa_nil))) (pe_one (pe_callB (call_isE R.ec (by rw [← e1, ← e2]; exact hz) hv) (by rfl) B.isinstance_ (by decide +kernel) (pa_cons (pv 1) (pa_cons (pe_bltn (v := .ty "ValueError") (u := .type "ValueError") (by rfl) bVE (by decide +kernel) rfl) pa_nil))))))))))))
      (pss_one (ps_ret pe_bl))), ?_⟩
  refine ⟨_, rfl, ?_⟩
  dsimp only [tNil]
  refine hread _ _ fun H' s1 => ⟨true, R.x, fun _ a na => ⟨rfl, rfl, ?_⟩, fun z => absurd z (by decide)⟩
  have rv : ∀ (x : Addr) (u : Value), RelV (.ref x) u → u = .ref x := fun x u r => by cases r; rfl
  refine ⟨_, rfl, _, _, false, rfl, rv _, R.r, false, rfl, iteF ?_⟩
  refine ⟨_, rfl, _, _, false, rfl, rv _, R.b, false, rfl, iteF ?_⟩
  refine ⟨_, rfl, _, _, false, rfl, rv _, R.w, ?_⟩
  refine ⟨_, rfl, false, rfl, iteF ?_⟩
  refine ⟨_, rfl, _, _, false, rfl, rv _, R.n, false, rfl, iteF ?_⟩
  refine ⟨_, rfl, _, _, false, rfl, rv _, R.h, false, rfl, iteF ?_⟩
  refine ⟨_, rfl, _, _, true, rfl, rv _, R.t, true, rfl, iteT ?_⟩
  exact ⟨_, rfl, _, _, true, rfl, fun u r => by cases r; rfl, R.v, q _ s1⟩
end
/-! ### the law's good words -/
section
variable {P : Program} {w : World} {K : PySem.W.Frag} {mg : Str → Option Value} {base : Heap} {f : Addr} {fd : FuncData}
theorem draw_nat {c k : Int} {N : Nat} (h : 1 ≤ N) : ∃ m : Nat, m < N ∧ drawF c k (N : Int) = (m : Int) := by
  have h0 := drawF_lo (c := c) (k := k) (m := (N : Int)) (by omega)
  have h1 := drawF_hi (c := c) (k := k) (m := (N : Int)) (by omega)
  exact ⟨(drawF c k (N : Int)).toNat, by omega, by omega⟩
theorem log_small {n : Nat} (h : n < 10 ^ 10) : ((n : Int)).natAbs.log2 < 1920 := by
  rw [Int.natAbs_natCast]
  by_cases z : n = 0
  · rw [z]; decide
  · exact (Nat.log2_lt z).mpr (Nat.lt_trans h (by decide +kernel))
theorem len_dash : Tx.dash.length = 1 := by rw [TL.len_tl, Tx.tl_dash]; rfl
def goodW (k : Nat) (x : Str) : Prop := match k with
  | 0 => ∃ e : Nat × Nat, e.1 < 7 ∧ e.2 < 7 ∧ x = Tx.tie e
  | 1 => ∃ m, m < 3 ∧ x = Tx.num m
  | 2 => x ∈ [Str.ofString "-", Str.ofString "3", Str.ofString "3,4", Str.ofString "30,0,12"]
  | _ => ∃ m, m < 1000000 ∧ x = Tx.num m
def headF (k : Nat) : Str := match k with
  | 0 => Str.ofString "threads 7:"
  | 1 => Str.ofString "kinds 2 0 16:"
  | 2 => Str.ofString "posts:"
  | _ => Str.ofString "bits:"
def spWords : Sp := fun vs H Q _ => ∃ (k : Nat) (cell : Int) (n : Nat), vs = [nv k, .int cell, nv n] ∧ k < 4 ∧ n ≤ 9 ∧
  ∀ H' t a (ws : List Str), Same H H' → H t = none → H' t = some (.tup [.str (headF k), .ref a]) → H a = none → H' a = some (.lst (ws.map V.str)) → ws.length = n → (∀ x ∈ ws, goodW k x) → Q (.ref t) H'
theorem eq_nv (a b : Nat) : V.bl (decide (V.int (a : Int) = V.int (b : Int))) = V.bl (decide (a = b)) := by
  congr 1
  rw [Bool.eq_iff_iff, decide_eq_true_eq, decide_eq_true_eq]
  exact ⟨fun z => by have := V.int.inj z; omega, fun z => by rw [z]⟩
theorem ok_words (B : Bl mg) (bstr : mg "str" = none) (F : L2.Fun K "_law_words" "_law_words" s__law_words f fd) (g : mg "_law_words" = some (.ref f)) (c__law_draw : C8.Cal P w K mg base 1 "_law_draw" spDraw []) : C8.Cal P w K mg base 2 "_law_words" spWords [] := by
  refine ⟨f, fd, ["_law_kind", "_law_cell", "_law_n"], [], F.ok sc__law_words (fun vs H Q E h => ?_) (fun cdv A outer s H vs Q E hr h => ?_), g, F.kp, F.binds (ps := ["_law_kind", "_law_cell", "_law_n"]) (fun _ _ _ _ _ _ us hl => match us, hl with | [_, _, _], _ => rfl), .nil⟩
  · obtain ⟨k, cell, n, rfl, _⟩ := h
    rfl
  · obtain ⟨k, cell, n, rfl, hk, hn, q⟩ := h
    refine ⟨_, (pss_cons (ps_if (pt_cmpR op_eq (pv 0) pe_int (nomark _)) (pss_cons (ps_setLc (i := 3) (own := [("_law_k", 4)]) rfl sc__law_words.nd rfl rfl (sw_true rfl rfl rfl (by decide +kernel)) (pi_range1 rfl B.range_ (pa_cons (pv 2) pa_nil)) (blkOk_by (own := [("_law_k", 4)]) (N := n__law_words) (sc := defScope s__law_words) (by decide +kernel)) (fun _ _ _ _ _ => (pg_name (i := 4) sc__law_words.nd rfl (Or.inl rfl))) (fun _ _ _ _ _ => pts_nil) (fun _ _ _ _ _ => (pe_tup (pa_cons (C8.pe_c c__law_draw hr (by first | decide | exact Nat.le_refl _ | omega) rfl (pa_cons (pe_op op_add (pv 1) (pv 4)) (pa_cons pe_int (pa_cons pe_int pa_nil)))) (pa_cons (C8.pe_c c__law_draw hr (by first | decide | exact Nat.le_refl _ | omega) rfl (pa_cons (pe_op op_add (pv 1) (pv 4)) (pa_cons pe_int (pa_cons pe_int pa_nil)))) pa_nil)))))
      (pss_one (ps_ret (pe_tup (pa_cons pe_str (pa_cons (pe_lc (own := [("_law_tie", 5)]) rfl sc__law_words.nd (pi_list (pv 3)) (blkOk_by (own := [("_law_tie", 5)]) (N := n__law_words) (sc := defScope s__law_words) (by decide +kernel)) (fun _ _ _ _ _ => (pg_name (i := 5) sc__law_words.nd rfl (Or.inl rfl))) (fun _ _ _ _ _ => pts_nil) (fun _ _ _ _ _ => (pe_op op_add_str (pe_op op_add_str (pe_callTy call_str_int (by rfl) bstr (by decide +kernel) (pa_cons (pe_ix (r := rIxT K) ix_tup (pv 5) pe_int (fun _ _ => rfl)) pa_nil)) pe_str) (pe_callTy call_str_int (by rfl) bstr (by decide +kernel) (pa_cons (pe_ix (r := rIxT K) ix_tup (pv 5) pe_int (fun _ _ => rfl)) pa_nil))))) pa_nil)))))) pss_nil)
      (pss_cons (ps_if (pt_cmpR op_eq (pv 0) pe_int (nomark _)) (pss_one (ps_ret (pe_tup (pa_cons pe_str (pa_cons (pe_lc (own := [("_law_k", 4)]) rfl sc__law_words.nd (pi_range1 rfl B.range_ (pa_cons (pv 2) pa_nil)) (blkOk_by (own := [("_law_k", 4)]) (N := n__law_words) (sc := defScope s__law_words) (by decide +kernel)) (fun _ _ _ _ _ => (pg_name (i := 4) sc__law_words.nd rfl (Or.inl rfl))) (fun _ _ _ _ _ => pts_nil) (fun _ _ _ _ _ => (pe_callTy call_str_int (by rfl) bstr (by decide +kernel) (pa_cons (C8.pe_c c__law_draw hr (by first | decide | exact Nat.le_refl _ | omega) rfl (pa_cons (pe_op op_add (pv 1) (pv 4)) (pa_cons pe_int (pa_cons pe_int pa_nil)))) pa_nil)))) pa_nil))))) pss_nil)
      (pss_cons (ps_if (pt_cmpR op_eq (pv 0) pe_int (nomark _)) (pss_one (ps_ret (pe_tup (pa_cons pe_str (pa_cons (pe_lc (own := [("_law_k", 4)]) rfl sc__law_words.nd (pi_range1 rfl B.range_ (pa_cons (pv 2) pa_nil)) (blkOk_by (own := [("_law_k", 4)]) (N := n__law_words) (sc := defScope s__law_words) (by decide +kernel)) (fun _ _ _ _ _ => (pg_name (i := 4) sc__law_words.nd rfl (Or.inl rfl))) (fun _ _ _ _ _ => pts_nil) (fun _ _ _ _ _ => (pe_ix (r := rIxL K) ix_list (pe_lst (pa_cons pe_str (pa_cons pe_str (pa_cons pe_str (pa_cons pe_str pa_nil))))) (C8.pe_c c__law_draw hr (by first | decide | exact Nat.le_refl _ | omega) rfl (pa_cons (pe_op op_add (pv 1) (pv 4)) (pa_cons pe_int (pa_cons pe_int pa_nil)))) (fun _ _ => rfl)))) pa_nil))))) pss_nil)
      (pss_one (ps_ret (pe_tup (pa_cons pe_str (pa_cons (pe_lc (own := [("_law_k", 4)]) rfl sc__law_words.nd (pi_range1 rfl B.range_ (pa_cons (pv 2) pa_nil)) (blkOk_by (own := [("_law_k", 4)]) (N := n__law_words) (sc := defScope s__law_words) (by decide +kernel)) (fun _ _ _ _ _ => (pg_name (i := 4) sc__law_words.nd rfl (Or.inl rfl))) (fun _ _ _ _ _ => pts_nil) (fun _ _ _ _ _ => (pe_callTy call_str_int (by rfl) bstr (by decide +kernel) (pa_cons (C8.pe_c c__law_draw hr (by first | decide | exact Nat.le_refl _ | omega) rfl (pa_cons (pe_op op_add (pv 1) (pv 4)) (pa_cons pe_int (pa_cons pe_int pa_nil)))) pa_nil)))) pa_nil)))))))), ?_⟩
    have sz : sizeLine = 16777216 := rfl
    refine ⟨_, rfl, rfl, decide (k = 0), eq_nv k 0, ?_⟩
    by_cases c0 : k = 0
    · subst c0
      refine iteT ?_
      refine ⟨_, rfl, _, rfl, by omega, by omega, fun D hD => lc_range (lo := 0) (n := (n : Int).toNat) (fun j H2 => Same H H2 ∧ ∃ (ts : List Addr) (es : List (List Nat)), H2 D = some (.lst (ts.map V.ref)) ∧ rws .tup H2 ts es ∧ es.length = j ∧ ∀ e ∈ es, ∃ a b, e = [a, b] ∧ a < 7 ∧ b < 7)
        ⟨same_upd hD, [], [], upd_same, True.intro, rfl, fun _ h => by cases h⟩ ?_ ?_⟩
      · rintro j H2 hj ⟨s6, ts, es, hA, hts, el, hb⟩
        have jl : j < n := by omega
        obtain ⟨a1, l1, d1⟩ := draw_nat (c := cell + (0 + (j : Int))) (k := 1) (N := 7) (by decide)
        obtain ⟨a2, l2, d2⟩ := draw_nat (c := cell + (0 + (j : Int))) (k := 2) (N := 7) (by decide)
        refine ⟨rfl, yesT ?_⟩
        refine ⟨_, rfl, _, rfl, _, _, rfl, rfl, _, 1, 7, rfl, by decide, by decide, by decide, _, rfl, _, rfl, _, _, rfl, rfl, _, 2, 7, rfl, by decide, by decide, by decide, (by show 2 ≤ sizeLine; decide), fun u hu => ?_⟩
        have eT : HO.tup [V.int (drawF (cell + (0 + (j : Int))) 1 7), V.int (drawF (cell + (0 + (j : Int))) 2 7)] = HO.tup ([a1, a2].map nv) := by
          show HO.tup [V.int (drawF (cell + (0 + (j : Int))) 1 ((7 : Nat) : Int)), V.int (drawF (cell + (0 + (j : Int))) 2 ((7 : Nat) : Int))] = _
          rw [d1, d2]
          rfl
        rw [eT]
        have su : Same H2 (upd H2 u (.tup ([a1, a2].map nv))) := same_upd hu
        have pu : rws .tup (upd H2 u (.tup ([a1, a2].map nv))) (ts ++ [u]) (es ++ [[a1, a2]]) := rws.put upd_same (hts.same su)
        refine ⟨_, su _ _ hA, ?_, same_to (s6.trans su) hD, ts ++ [u], es ++ [[a1, a2]], ?_, ?_, by rw [List.length_append, el]; rfl, fun e he => ?_⟩
        · rw [List.length_map, hts.len, el]
          exact small1000 (by omega)
        · rw [List.map_append]
          exact upd_same
        · exact pu.upd (pu.not_mem (su _ _ hA) (by intro xs z; cases z))
        · rcases List.mem_append.mp he with r | r
          · exact hb e r
          · exact ⟨a1, a2, List.mem_singleton.mp r, l1, l2⟩
      · rintro H2 ⟨s6, ts, es, hA, hts, el, hb⟩
        rw [Int.toNat_natCast] at el
        have ldash : (Str.ofString "-").length = 1 := len_dash
        refine ⟨_, rfl, D, rfl, ⟨_, SqL.of hA⟩, fun D2 hD2 => lc_list (K := K) (a := D) (xs := ts.map V.ref) (fun i H' => Same H2 H' ∧ ∃ ws : List Str, H' D2 = some (.lst (ws.map V.str)) ∧ ws.length = i ∧ ∀ x ∈ ws, goodW 0 x)
          ⟨same_upd hD2, [], upd_same, rfl, fun _ h => by cases h⟩ (fun i H' _ p => SqL.of (p.1 _ _ hA)) ?_ ?_⟩
        · rintro i y H' hi ⟨s7, ws, hB, wl, hw⟩
          obtain ⟨tp, et, rfl⟩ := map_at hi
          have il : i < ts.length := (List.getElem?_eq_some_iff.mp et).1
          obtain ⟨e, ee, hte⟩ := hts.at et
          obtain ⟨e1, e2, rfl, b1, b2⟩ := hb e (List.mem_of_getElem? ee)
          have n1 : (Str.ofString (toString ((e1 : Nat) : Int))).length ≤ 10 := Tx.num_len (by omega)
          have n2 : (Str.ofString (toString ((e2 : Nat) : Int))).length ≤ 10 := Tx.num_len (by omega)
          have hte' := s7 _ _ hte
          have el2 := hts.len
          refine ⟨rfl, yesT ?_⟩
          refine ⟨_, rfl, tp, _, _, _, rfl, rfl, SqT.of hte', atI_nat (j := 0) rfl, (e1 : Int), rfl, log_small (by omega), _, _, rfl, rfl, by omega, _, rfl, tp, _, _, _, rfl, rfl, SqT.of hte', atI_nat (j := 1) rfl, (e2 : Int), rfl, log_small (by omega), _, _, rfl, rfl, by rw [Tx.append_len]; omega, _, hB, ?_, same_to s7 hD2, ws ++ [Tx.tie (e1, e2)], ?_, ?_, fun x hx => ?_⟩
          · rw [List.length_map, wl]
            exact small1000 (by omega)
          · rw [List.map_append]
            exact upd_same
          · rw [List.length_append, wl]; rfl
          · rcases List.mem_append.mp hx with r | r
            · exact hw x r
            · exact ⟨(e1, e2), b1, b2, List.mem_singleton.mp r⟩
        · rintro H6 ⟨s56, ws, hB, wl, hw⟩
          refine ⟨(by show 2 ≤ sizeLine; decide), fun v hv => ?_⟩
          have su : Same H6 (upd H6 v (.tup [.str (Str.ofString "threads 7:"), .ref D2])) := same_upd hv
          have s26 := s6.trans s56
          exact q _ v D2 ws (s26.trans su) (s26.free hv) upd_same (s6.free hD2) (su _ _ hB) (by rw [wl, List.length_map, hts.len, el]) hw
    rw [decide_eq_false c0]
    refine iteF ?_
    refine ⟨_, rfl, rfl, decide (k = 1), eq_nv k 1, ?_⟩
    by_cases c1 : k = 1
    · subst c1
      refine iteT ?_
      refine ⟨_, rfl, _, rfl, by omega, by omega, fun D hD => lc_range (lo := 0) (n := (n : Int).toNat) (fun j H2 => Same H H2 ∧ ∃ ws : List Str, H2 D = some (.lst (ws.map V.str)) ∧ ws.length = j ∧ ∀ x ∈ ws, goodW 1 x)
        ⟨same_upd hD, [], upd_same, rfl, fun _ h => by cases h⟩ ?_ ?_⟩
      · rintro j H2 hj ⟨s6, ws, hA, wl, hw⟩
        obtain ⟨a1, l1, d1⟩ := draw_nat (c := cell + (0 + (j : Int))) (k := 1) (N := 3) (by decide)
        have d1 : drawF (cell + (0 + (j : Int))) 1 3 = (a1 : Int) := d1
        refine ⟨rfl, yesT ?_⟩
        refine ⟨_, rfl, _, rfl, _, _, rfl, rfl, _, 1, 3, rfl, by decide, by decide, by decide, (a1 : Int), by rw [d1], log_small (by omega), _, hA, ?_, same_to s6 hD, ws ++ [Tx.num a1], ?_, ?_, fun x hx => ?_⟩
        · rw [List.length_map, wl]
          exact small1000 (by omega)
        · rw [List.map_append]
          exact upd_same
        · rw [List.length_append, wl]; rfl
        · rcases List.mem_append.mp hx with r | r
          · exact hw x r
          · exact ⟨a1, l1, List.mem_singleton.mp r⟩
      · rintro H6 ⟨s56, ws, hB, wl, hw⟩
        rw [Int.toNat_natCast] at wl
        refine ⟨(by show 2 ≤ sizeLine; decide), fun v hv => ?_⟩
        have su : Same H6 (upd H6 v (.tup [.str (Str.ofString "kinds 2 0 16:"), .ref D])) := same_upd hv
        exact q _ v D ws (s56.trans su) (s56.free hv) upd_same hD (su _ _ hB) wl hw
    rw [decide_eq_false c1]
    refine iteF ?_
    refine ⟨_, rfl, rfl, decide (k = 2), eq_nv k 2, ?_⟩
    by_cases c2 : k = 2
    · subst c2
      refine iteT ?_
      refine ⟨_, rfl, _, rfl, by omega, by omega, fun D hD => lc_range (lo := 0) (n := (n : Int).toNat) (fun j H2 => Same H H2 ∧ ∃ ws : List Str, H2 D = some (.lst (ws.map V.str)) ∧ ws.length = j ∧ ∀ x ∈ ws, goodW 2 x)
        ⟨same_upd hD, [], upd_same, rfl, fun _ h => by cases h⟩ ?_ ?_⟩
      · rintro j H2 hj ⟨s6, ws, hA, wl, hw⟩
        obtain ⟨a1, l1, d1⟩ := draw_nat (c := cell + (0 + (j : Int))) (k := 1) (N := 4) (by decide)
        have d1 : drawF (cell + (0 + (j : Int))) 1 4 = (a1 : Int) := d1
        refine ⟨rfl, yesT ?_⟩
        refine ⟨(by show 4 ≤ sizeLine; decide), fun u hu => ?_⟩
        obtain ⟨x, hx⟩ : ∃ x, ([Str.ofString "-", Str.ofString "3", Str.ofString "3,4", Str.ofString "30,0,12"] : List Str)[a1]? = some x := ⟨_, List.getElem?_eq_getElem (by show a1 < 4; exact l1)⟩
        have su : Same H2 (upd H2 u (.lst ([Str.ofString "-", Str.ofString "3", Str.ofString "3,4", Str.ofString "30,0,12"].map V.str))) := same_upd hu
        refine ⟨_, rfl, _, rfl, _, _, rfl, rfl, _, 1, 4, rfl, by decide, by decide, by decide, u, _, (a1 : Int), _, rfl, by rw [d1], SqL.of upd_same, atI_nat (j := a1) (v := V.str x) ?_, _, su _ _ hA, ?_, same_to (s6.trans su) hD, ws ++ [x], ?_, ?_, fun y hy => ?_⟩
        · show (([Str.ofString "-", Str.ofString "3", Str.ofString "3,4", Str.ofString "30,0,12"] : List Str).map V.str)[a1]? = _
          rw [List.getElem?_map, hx]
          rfl
        · rw [List.length_map, wl]
          exact small1000 (by omega)
        · rw [List.map_append]
          exact upd_same
        · rw [List.length_append, wl]; rfl
        · rcases List.mem_append.mp hy with r | r
          · exact hw y r
          · rw [List.mem_singleton.mp r]
            exact List.mem_of_getElem? hx
      · rintro H6 ⟨s56, ws, hB, wl, hw⟩
        rw [Int.toNat_natCast] at wl
        refine ⟨(by show 2 ≤ sizeLine; decide), fun v hv => ?_⟩
        have su : Same H6 (upd H6 v (.tup [.str (Str.ofString "posts:"), .ref D])) := same_upd hv
        exact q _ v D ws (s56.trans su) (s56.free hv) upd_same hD (su _ _ hB) wl hw
    rw [decide_eq_false c2]
    refine iteF ?_
    have c3 : k = 3 := by omega
    subst c3
    refine ⟨_, rfl, _, rfl, by omega, by omega, fun D hD => lc_range (lo := 0) (n := (n : Int).toNat) (fun j H2 => Same H H2 ∧ ∃ ws : List Str, H2 D = some (.lst (ws.map V.str)) ∧ ws.length = j ∧ ∀ x ∈ ws, goodW 3 x)
      ⟨same_upd hD, [], upd_same, rfl, fun _ h => by cases h⟩ ?_ ?_⟩
    · rintro j H2 hj ⟨s6, ws, hA, wl, hw⟩
      obtain ⟨a1, l1, d1⟩ := draw_nat (c := cell + (0 + (j : Int))) (k := 1) (N := 1000000) (by decide)
      have d1 : drawF (cell + (0 + (j : Int))) 1 1000000 = (a1 : Int) := d1
      refine ⟨rfl, yesT ?_⟩
      refine ⟨_, rfl, _, rfl, _, _, rfl, rfl, _, 1, 1000000, rfl, by decide, by decide, by decide, (a1 : Int), by rw [d1], log_small (by omega), _, hA, ?_, same_to s6 hD, ws ++ [Tx.num a1], ?_, ?_, fun x hx => ?_⟩
      · rw [List.length_map, wl]
        exact small1000 (by omega)
      · rw [List.map_append]
        exact upd_same
      · rw [List.length_append, wl]; rfl
      · rcases List.mem_append.mp hx with r | r
        · exact hw x r
        · exact ⟨a1, l1, List.mem_singleton.mp r⟩
    · rintro H6 ⟨s56, ws, hB, wl, hw⟩
      rw [Int.toNat_natCast] at wl
      refine ⟨(by show 2 ≤ sizeLine; decide), fun v hv => ?_⟩
      have su : Same H6 (upd H6 v (.tup [.str (Str.ofString "bits:"), .ref D])) := same_upd hv
      exact q _ v D ws (s56.trans su) (s56.free hv) upd_same hD (su _ _ hB) wl hw
end
/-! ### the law's bad words and heads -/
def heads : List Str := ["threads:", "threads 0:", "threads 21:", "threads 7 7:", "threads  7:", "kinds 17:", "kinds x:", "posts 1:", "bits 1:", "bit:", "", "Bits:", " bits:", "threads 07:"].map Str.ofString
def ways15 : List Str := ["", "x", "-1", "01", "1.0", "+1", "1 ", "4294967296", "1:", "1--2", "7-0", "0-", "3,3", ",", "12345678901"].map Str.ofString
def ways3 : List Str := ["1\n", "\t1", "1_0"].map Str.ofString
def here (k : Nat) : List Str := match k with
  | 0 => ["1", "31", "1-2-3"].map Str.ofString
  | 1 => ["3", "31", "-"].map Str.ofString
  | 2 => ["31", "3,", "1,01"].map Str.ofString
  | _ => ["-", "1,2", "1-"].map Str.ofString
def bads (k : Nat) : List Str := ways15 ++ ways3 ++ here k
theorem here_len (k : Nat) : (here k).length = 3 := by
  unfold here
  split <;> rfl
theorem bads_len (k : Nat) : (bads k).length = 21 := by
  unfold bads
  rw [List.length_append, here_len]
  rfl
section
variable {P : Program} {w : World} {K : PySem.W.Frag} {mg : Str → Option Value} {base : Heap} {f : Addr} {fd : FuncData}
def spHead : Sp := fun vs H Q _ => ∃ i : Nat, vs = [nv i] ∧ i < 14 ∧ ∀ H' x, Same H H' → x ∈ heads → Q (.str x) H'
theorem ok_head (F : L2.Fun K "_law_head" "_law_head" s__law_head f fd) (g : mg "_law_head" = some (.ref f)) : C8.Cal P w K mg base 1 "_law_head" spHead [] := by
  refine ⟨f, fd, ["_law_which"], [], F.ok sc__law_head (fun vs H Q E h => ?_) (fun cdv A outer s H vs Q E hr h => ?_), g, F.kp, F.binds (ps := ["_law_which"]) (fun _ _ _ _ _ _ us hl => match us, hl with | [_], _ => rfl), .nil⟩
  · obtain ⟨i, rfl, _⟩ := h
    rfl
  · obtain ⟨i, rfl, hi, q⟩ := h
    refine ⟨_, (pss_one (ps_ret (pe_ix (r := rIxL K) ix_list (pe_lst (pa_cons pe_str (pa_cons pe_str (pa_cons pe_str (pa_cons pe_str (pa_cons pe_str (pa_cons pe_str (pa_cons pe_str (pa_cons pe_str (pa_cons pe_str (pa_cons pe_str (pa_cons pe_str (pa_cons pe_str (pa_cons pe_str (pa_cons pe_str pa_nil))))))))))))))) (pv 0) (fun _ _ => rfl)))), ?_⟩
    refine ⟨(by show 14 ≤ sizeLine; decide), fun u hu => ?_⟩
    obtain ⟨x, hx⟩ : ∃ x, heads[i]? = some x := ⟨_, List.getElem?_eq_getElem (by show i < 14; exact hi)⟩
    have su : Same H (upd H u (.lst (heads.map V.str))) := same_upd hu
    refine ⟨_, rfl, u, _, (i : Int), _, rfl, rfl, SqL.of (xs := heads.map V.str) upd_same, atI_nat (j := i) (v := V.str x) ?_, q _ x su (List.mem_of_getElem? hx)⟩
    rw [List.getElem?_map, hx]
    rfl
def spBad : Sp := fun vs H Q _ => ∃ (k : Nat) (i : Int), vs = [nv k, .int i] ∧ k < 4 ∧ ∀ H' x, Same H H' → x ∈ bads k → Q (.str x) H'
theorem ok_bad (F : L2.Fun K "_law_bad_word" "_law_bad_word" s__law_bad_word f fd) (g : mg "_law_bad_word" = some (.ref f)) : C8.Cal P w K mg base 1 "_law_bad_word" spBad [] := by
  refine ⟨f, fd, ["_law_kind", "_law_which"], [], F.ok sc__law_bad_word (fun vs H Q E h => ?_) (fun cdv A outer s H vs Q E hr h => ?_), g, F.kp, F.binds (ps := ["_law_kind", "_law_which"]) (fun _ _ _ _ _ _ us hl => match us, hl with | [_, _], _ => rfl), .nil⟩
  · obtain ⟨k, i, rfl, _⟩ := h
    rfl
  · obtain ⟨k, i, rfl, hk, q⟩ := h
    refine ⟨_, (pss_cons (ps_set (i := 2) sc__law_bad_word.nd rfl (Or.inl rfl) (pe_lst (pa_cons pe_str (pa_cons pe_str (pa_cons pe_str (pa_cons pe_str (pa_cons pe_str (pa_cons pe_str (pa_cons pe_str (pa_cons pe_str (pa_cons pe_str (pa_cons pe_str (pa_cons pe_str (pa_cons pe_str (pa_cons pe_str (pa_cons pe_str (pa_cons pe_str pa_nil)))))))))))))))))
      (pss_cons (ps_set (i := 2) sc__law_bad_word.nd rfl (Or.inl rfl) (pe_op op_cat (pv 2) (pe_lst (pa_cons pe_str (pa_cons pe_str (pa_cons pe_str pa_nil))))))
      (pss_cons (ps_set (i := 3) sc__law_bad_word.nd rfl (Or.inl rfl) (pe_ix (r := rIxL K) ix_list (pe_lst (pa_cons (pe_lst (pa_cons pe_str (pa_cons pe_str (pa_cons pe_str pa_nil)))) (pa_cons (pe_lst (pa_cons pe_str (pa_cons pe_str (pa_cons pe_str pa_nil)))) (pa_cons (pe_lst (pa_cons pe_str (pa_cons pe_str (pa_cons pe_str pa_nil)))) (pa_cons (pe_lst (pa_cons pe_str (pa_cons pe_str (pa_cons pe_str pa_nil)))) pa_nil))))) (pv 0) (fun _ _ => rfl)))
      (pss_one (ps_ret (pe_ix (r := rIxL K) ix_list (pe_op op_cat (pv 2) (pv 3)) (pe_op op_mod (pv 1) pe_int) (fun _ _ => rfl))))))), ?_⟩
    have sz : sizeLine = 16777216 := rfl
    refine ⟨(by show 15 ≤ sizeLine; decide), fun u1 n1 => ?_⟩
    have s1 : Same H (upd H u1 (.lst (ways15.map V.str))) := same_upd n1
    have h1 : (upd H u1 (.lst (ways15.map V.str))) u1 = some (.lst (ways15.map V.str)) := upd_same
    refine ⟨_, rfl, (by show 3 ≤ sizeLine; decide), fun u2 n2 => ?_⟩
    have n2 : (upd H u1 (.lst (ways15.map V.str))) u2 = none := n2
    have s2 : Same (upd H u1 (.lst (ways15.map V.str))) (upd (upd H u1 (.lst (ways15.map V.str))) u2 (.lst (ways3.map V.str))) := same_upd n2
    have h2 : (upd (upd H u1 (.lst (ways15.map V.str))) u2 (.lst (ways3.map V.str))) u2 = some (.lst (ways3.map V.str)) := upd_same
    refine ⟨u1, u2, ways15.map V.str, ways3.map V.str, rfl, rfl, s2 _ _ h1, h2, by rw [List.length_map, List.length_map]; show 15 + 3 ≤ sizeLine; decide, fun u3 n3 => ?_⟩
    have n3 : (upd (upd H u1 (.lst (ways15.map V.str))) u2 (.lst (ways3.map V.str))) u3 = none := n3
    have s3 := (s1.trans s2).trans (same_upd (o := .lst (ways15.map V.str ++ ways3.map V.str)) n3)
    have h3 : (upd (upd (upd H u1 (.lst (ways15.map V.str))) u2 (.lst (ways3.map V.str))) u3 (.lst (ways15.map V.str ++ ways3.map V.str))) u3 = some (.lst (ways15.map V.str ++ ways3.map V.str)) := upd_same
    show tSeq _ _ _ _ (upd (upd (upd H u1 (.lst (ways15.map V.str))) u2 (.lst (ways3.map V.str))) u3 (.lst (ways15.map V.str ++ ways3.map V.str)))
    generalize upd (upd (upd H u1 (.lst (ways15.map V.str))) u2 (.lst (ways3.map V.str))) u3 (.lst (ways15.map V.str ++ ways3.map V.str)) = H3 at s3 h3 ⊢
    refine ⟨(by show 3 ≤ sizeLine; decide), fun a0 m0 => ⟨(by show 3 ≤ sizeLine; decide), fun a1 m1 => ⟨(by show 3 ≤ sizeLine; decide), fun a2 m2 => ⟨(by show 3 ≤ sizeLine; decide), fun a3 m3 => ⟨(by show 4 ≤ sizeLine; decide), fun o no => ?_⟩⟩⟩⟩⟩
    have m1 : (upd H3 a0 (HO.lst ((here 0).map V.str))) a1 = none := m1
    have m2 : (upd (upd H3 a0 (HO.lst ((here 0).map V.str))) a1 (HO.lst ((here 1).map V.str))) a2 = none := m2
    have m3 : (upd (upd (upd H3 a0 (HO.lst ((here 0).map V.str))) a1 (HO.lst ((here 1).map V.str))) a2 (HO.lst ((here 2).map V.str))) a3 = none := m3
    have no : (upd (upd (upd (upd H3 a0 (HO.lst ((here 0).map V.str))) a1 (HO.lst ((here 1).map V.str))) a2 (HO.lst ((here 2).map V.str))) a3 (HO.lst ((here 3).map V.str))) o = none := no
    have t1 : Same H3 (upd H3 a0 (HO.lst ((here 0).map V.str))) := same_upd m0
    have t2 := same_upd (o := HO.lst ((here 1).map V.str)) m1
    have t3 := same_upd (o := HO.lst ((here 2).map V.str)) m2
    have t4 := same_upd (o := HO.lst ((here 3).map V.str)) m3
    have t5 := same_upd (o := HO.lst [V.ref a0, V.ref a1, V.ref a2, V.ref a3]) no
    have sA := t1.trans (t2.trans (t3.trans (t4.trans t5)))
    have hO : (upd (upd (upd (upd (upd H3 a0 (HO.lst ((here 0).map V.str))) a1 (HO.lst ((here 1).map V.str))) a2 (HO.lst ((here 2).map V.str))) a3 (HO.lst ((here 3).map V.str))) o (HO.lst [V.ref a0, V.ref a1, V.ref a2, V.ref a3])) o = some (HO.lst [V.ref a0, V.ref a1, V.ref a2, V.ref a3]) := upd_same
    obtain ⟨ak, ek, hk'⟩ : ∃ ak, [V.ref a0, V.ref a1, V.ref a2, V.ref a3][k]? = some (V.ref ak) ∧ (upd (upd (upd (upd (upd H3 a0 (HO.lst ((here 0).map V.str))) a1 (HO.lst ((here 1).map V.str))) a2 (HO.lst ((here 2).map V.str))) a3 (HO.lst ((here 3).map V.str))) o (HO.lst [V.ref a0, V.ref a1, V.ref a2, V.ref a3])) ak = some (.lst ((here k).map V.str)) := by
      match k, hk with
      | 0, _ => exact ⟨a0, rfl, (t2.trans (t3.trans (t4.trans t5))) _ _ upd_same⟩
      | 1, _ => exact ⟨a1, rfl, (t3.trans (t4.trans t5)) _ _ upd_same⟩
      | 2, _ => exact ⟨a2, rfl, (t4.trans t5) _ _ upd_same⟩
      | 3, _ => exact ⟨a3, rfl, t5 _ _ upd_same⟩
      | k + 4, z => omega
    refine ⟨_, rfl, o, _, (k : Int), _, rfl, rfl, SqL.of hO, atI_nat (j := k) (v := V.ref ak) ek, ?_⟩
    refine ⟨_, rfl, _, rfl, u3, ak, _, _, rfl, rfl, sA _ _ h3, hk', by rw [List.length_append, List.length_map, List.length_map, List.length_map, here_len]; show 15 + 3 + 3 ≤ sizeLine; decide, fun v hv => ?_⟩
    obtain ⟨j, ej⟩ : ∃ j : Nat, i % 21 = (j : Int) := ⟨(i % 21).toNat, by omega⟩
    have jl : j < 21 := by omega
    obtain ⟨x, hx⟩ : ∃ x, (bads k)[j]? = some x := ⟨_, List.getElem?_eq_getElem (by rw [bads_len]; exact jl)⟩
    refine ⟨_, rfl, _, _, rfl, rfl, (by show (0 : Int) < 21; decide), v, _, (j : Int), _, rfl, (by show V.int (i % 21) = _; rw [ej]), SqL.of upd_same, atI_nat (j := j) (v := V.str x) ?_, q _ x (s3.trans (sA.trans (same_upd hv))) (List.mem_of_getElem? hx)⟩
    rw [← List.map_append, ← List.map_append, List.getElem?_map]
    show Option.map V.str (bads k)[j]? = _
    rw [hx]
    rfl
end
/-! ### which words are good, which are bad -/
theorem gN_num {n : Nat} (h : n < 10 ^ 10) : gN (Tx.num n) = some n := by
  have fg : figs (Tx.num n) = true := List.all_eq_true.mpr fun c hc => decide_eq_true (Tx.num_figs n c hc)
  have nl := Tx.num_len h
  have c : ¬ (Tx.num n = Str.ofString "" ∨ 10 < (Tx.num n).length ∨ figs (Tx.num n) = false ∨ (Txt.startswith (Tx.num n) (Str.ofString "0") = true ∧ Tx.num n ≠ Str.ofString "0")) := by
    rintro (z | z | z | ⟨z1, z2⟩)
    · exact Tx.num_ne n z
    · omega
    · rw [fg] at z; cases z
    · have := Tx.num_starts z1
      subst this
      exact z2 Tx.num_zero
  have e : gN (Tx.num n) = some (NumText.digitsVal (TL.tl (Tx.num n))) := by
    unfold gN
    rw [if_neg c]
  have e2 := (gN_int e).2.2.2.2
  rw [Tx.num_int h] at e2
  have e3 : (n : Int) = ((NumText.digitsVal (TL.tl (Tx.num n)) : Nat) : Int) := Option.some.inj e2
  rw [e]
  congr 1
  omega
def badO {β : Type} (p : β → Bool) : Option β → Bool
  | none => true
  | some n => !p n
/-- a word of things is bad for its kind -/
def badP (k : Nat) (x : Str) : Bool := match k with
  | 0 => badO (okTie 7) (gT x)
  | 1 => badO (fun n : Nat => inB 0 2 (n : Int)) (gN x)
  | 2 => badO okPosts (gP x)
  | _ => badO (fun n : Nat => inB 0 4294967295 (n : Int)) (gN x)
def nmF (k : Nat) : Str := match k with
  | 0 => Str.ofString "threads"
  | 1 => Str.ofString "kinds"
  | 2 => Str.ofString "posts"
  | _ => Str.ofString "bits"
def moreF (k : Nat) : List Str := match k with
  | 0 => [Str.ofString "7"]
  | 1 => [Str.ofString "2", Str.ofString "0", Str.ofString "16"]
  | _ => []
theorem gA_all {α β : Type} {f : α → Option β} {p : β → Bool} : ∀ {ts : List α}, (∀ t ∈ ts, ∃ n, f t = some n ∧ p n = true) → ∃ ns, gA f ts = some ns ∧ ns.all p = true
  | [], _ => ⟨[], rfl, rfl⟩
  | a :: r, h => by
    obtain ⟨n, e, pn⟩ := h a List.mem_cons_self
    obtain ⟨ns, e2, pns⟩ := gA_all (ts := r) fun t ht => h t (List.mem_cons_of_mem _ ht)
    refine ⟨n :: ns, ?_, ?_⟩
    · unfold gA
      rw [e, e2]
    · rw [List.all_cons, pn, pns]; rfl
/-- one that fails the test is among the results -/
theorem gA_none {α β : Type} {f : α → Option β} {p : β → Bool} {ts : List α} {ns : List β} {t : α} (h : gA f ts = some ns) (ht : t ∈ ts) (hb : badO p (f t) = true) : ns.all p = false := by
  induction ts generalizing ns with
  | nil => cases ht
  | cons a r ih =>
    unfold gA at h
    split at h
    · rename_i m ms h1 h2
      have : m :: ms = ns := Option.some.inj h
      subst this
      rcases List.mem_cons.mp ht with z | z
      · subst z
        rw [h1] at hb
        have hb : (!p m) = true := hb
        have pm : p m = false := by simpa using hb
        rw [List.all_cons, pm]
        rfl
      · rw [List.all_cons, ih h2 z, Bool.and_false]
    · cases h

theorem bad0 {ws : List Str} {x : Str} (hx : x ∈ ws) (hb : badP 0 x = true) : gM (nmF 0) (moreF 0) ws ≠ some true := by
  have e : gM (nmF 0) (moreF 0) ws = match gN (Str.ofString "7") with | none => none | some N => match gA gT ws with | none => none | some tss => some (okT N tss) := by
    unfold gM
    rw [if_pos ⟨rfl, rfl⟩]
    try rfl
  have e7 : gN (Str.ofString "7") = some 7 := by decide +kernel
  rw [e, e7]
  intro z
  cases h : gA gT ws with
  | none => rw [h] at z; cases z
  | some tss =>
    rw [h] at z
    have z : okT 7 tss = true := Option.some.inj z
    have q : tss.all (okTie 7) = false := gA_none h hx hb
    unfold okT at z
    rw [q, Bool.and_false, Bool.and_false] at z
    cases z
theorem bad3 {ws : List Str} {x : Str} (hx : x ∈ ws) (hb : badP 3 x = true) : gM (nmF 3) (moreF 3) ws ≠ some true := by
  have e : gM (nmF 3) (moreF 3) ws = match gNs ws with | none => none | some rows => some (okB rows) := by
    unfold gM
    rw [if_neg (by decide +kernel), if_neg (by decide +kernel), if_neg (by decide +kernel), if_pos ⟨rfl, rfl⟩]
    try rfl
  rw [e]
  intro z
  cases h : gNs ws with
  | none => rw [h] at z; cases z
  | some rows =>
    rw [h] at z
    have z : okB rows = true := Option.some.inj z
    have q : rows.all (fun n : Nat => inB 0 4294967295 (n : Int)) = false := gA_none (p := fun n : Nat => inB 0 4294967295 (n : Int)) h hx hb
    unfold okB at z
    rw [List.all_map] at z
    have q2 : rows.all (inB 0 4294967295 ∘ fun n : Nat => (n : Int)) = false := q
    rw [q2, Bool.and_false] at z
    cases z
theorem bad1 {ws : List Str} {x : Str} (hx : x ∈ ws) (hb : badP 1 x = true) : gM (nmF 1) (moreF 1) ws ≠ some true := by
  have e : gM (nmF 1) (moreF 1) ws = match gNs ws with | none => none | some ks => match gNs (moreF 1) with | none => none | some ms => some (okK ks ms) := by
    unfold gM
    rw [if_neg (by decide +kernel), if_pos (show nmF 1 = Str.ofString "kinds" from rfl)]
    try rfl
  have em : gNs (moreF 1) = some [2, 0, 16] := by decide +kernel
  rw [e, em]
  intro z
  cases h : gNs ws with
  | none => rw [h] at z; cases z
  | some ks =>
    rw [h] at z
    have z : okK ks [2, 0, 16] = true := Option.some.inj z
    have q : ks.all (fun n : Nat => inB 0 2 (n : Int)) = false := gA_none (p := fun n : Nat => inB 0 2 (n : Int)) h hx hb
    unfold okK at z
    rw [List.all_map, List.all_map] at z
    have q2 : ks.all (inB 0 ((([2, 0, 16] : List Nat).length : Int) - 1) ∘ fun n : Nat => (n : Int)) = false := q
    rw [q2, Bool.and_false, Bool.and_false] at z
    cases z
theorem bad2 {ws : List Str} {x : Str} (hx : x ∈ ws) (hb : badP 2 x = true) : gM (nmF 2) (moreF 2) ws ≠ some true := by
  have e : gM (nmF 2) (moreF 2) ws = match gA gP ws with | none => none | some wss => some (okP wss) := by
    unfold gM
    rw [if_neg (by decide +kernel), if_neg (by decide +kernel), if_pos ⟨rfl, rfl⟩]
    try rfl
  rw [e]
  intro z
  cases h : gA gP ws with
  | none => rw [h] at z; cases z
  | some wss =>
    rw [h] at z
    have z : okP wss = true := Option.some.inj z
    have q : wss.all okPosts = false := gA_none h hx hb
    unfold okP at z
    rw [q, Bool.and_false] at z
    cases z
theorem bad_in {k : Nat} (hk : k < 4) {ws : List Str} {x : Str} (hx : x ∈ ws) (hb : badP k x = true) : gM (nmF k) (moreF k) ws ≠ some true := by
  match k, hk with
  | 0, _ => exact bad0 hx hb
  | 1, _ => exact bad1 hx hb
  | 2, _ => exact bad2 hx hb
  | 3, _ => exact bad3 hx hb
  | k + 4, z => omega
/-- every bad word, split at its blanks, has a piece that is bad for the kind -/
theorem bads_bad : ∀ k, k < 4 → ∀ x ∈ bads k, ((Tx.cutL 32 (TL.tl x)).any fun p => badP k (SX.S p)) = true := by
  decide +kernel
theorem gA_cons {α β : Type} {f : α → Option β} {a : α} {r : List α} {n : β} {ns : List β} (h : f a = some n) (h2 : gA f r = some ns) : gA f (a :: r) = some (n :: ns) := by
  unfold gA
  rw [h, h2]
theorem good_bad {k : Nat} (hk : k < 4) {x : Str} (h : goodW k x) : badP k x = false := by
  match k, hk, h with
  | 0, _, h =>
    obtain ⟨e, h1, h2, rfl⟩ := h
    have g : gT (Tx.tie e) = some [e.1, e.2] := by
      show gNs (Txt.split (Tx.tie e) Tx.dash) = _
      rw [Tx.tie_split]
      exact gA_cons (gN_num (by omega)) (gA_cons (gN_num (by omega)) rfl)
    show badO (okTie 7) (gT (Tx.tie e)) = false
    rw [g]
    show (!(decide (2 = 2) && (decide (e.1 < 7) && (decide (e.2 < 7) && true)))) = false
    rw [decide_eq_true h1, decide_eq_true h2]
    rfl
  | 1, _, h =>
    obtain ⟨m, h1, rfl⟩ := h
    show badO _ (gN (Tx.num m)) = false
    rw [gN_num (by omega)]
    show (!(decide ((0 : Int) ≤ (m : Int)) && decide ((m : Int) ≤ 2))) = false
    rw [decide_eq_true (by omega), decide_eq_true (by omega)]
    rfl
  | 2, _, h =>
    have h : x ∈ [Str.ofString "-", Str.ofString "3", Str.ofString "3,4", Str.ofString "30,0,12"] := h
    have all : ∀ x ∈ [Str.ofString "-", Str.ofString "3", Str.ofString "3,4", Str.ofString "30,0,12"], badP 2 x = false := by decide +kernel
    exact all x h
  | 3, _, h =>
    obtain ⟨m, h1, rfl⟩ := h
    show badO _ (gN (Tx.num m)) = false
    rw [gN_num (by omega)]
    show (!(decide ((0 : Int) ≤ (m : Int)) && decide ((m : Int) ≤ 4294967295))) = false
    rw [decide_eq_true (by omega), decide_eq_true (by omega)]
    rfl
  | k + 4, z, _ => omega
theorem badO_some {β : Type} {p : β → Bool} {o : Option β} (h : badO p o = false) : ∃ n, o = some n ∧ p n = true := by
  cases o with
  | none => cases h
  | some n =>
    have h : (!p n) = false := h
    exact ⟨n, rfl, by simpa using h⟩
theorem good_all {k : Nat} (hk : k < 4) {ws : List Str} (h : ∀ x ∈ ws, badP k x = false) (hl : ws.length ≤ 16) : gM (nmF k) (moreF k) ws = some true := by
  match k, hk, h with
  | 0, _, h =>
    obtain ⟨ns, e, a⟩ := gA_all (f := gT) (p := okTie 7) fun t ht => badO_some (h t ht)
    have e7 : gN (Str.ofString "7") = some 7 := by decide +kernel
    unfold gM
    rw [if_pos ⟨rfl, rfl⟩]
    show (match gN (Str.ofString "7") with | none => none | some N => match gA gT ws with | none => none | some tss => some (okT N tss)) = _
    rw [e7, e]
    show some (okT 7 ns) = _
    unfold okT
    have l : ns.length ≤ 16 := by rw [gA_len e]; exact hl
    rw [a, decide_eq_true l]
    rfl
  | 1, _, h =>
    obtain ⟨ns, e, a⟩ := gA_all (f := gN) (p := fun n : Nat => inB 0 2 (n : Int)) fun t ht => badO_some (h t ht)
    have em : gNs (moreF 1) = some [2, 0, 16] := by decide +kernel
    unfold gM
    rw [if_neg (by decide +kernel), if_pos (show nmF 1 = Str.ofString "kinds" from rfl)]
    show (match gNs ws with | none => none | some ks => match gNs (moreF 1) with | none => none | some ms => some (okK ks ms)) = _
    have e : gNs ws = some ns := e
    rw [em, e]
    show some (okK ns [2, 0, 16]) = _
    unfold okK
    rw [List.all_map, List.all_map, decide_eq_true (by rw [gA_len e]; exact hl)]
    have a2 : ns.all (inB 0 ((([2, 0, 16] : List Nat).length : Int) - 1) ∘ fun n : Nat => (n : Int)) = true := a
    rw [a2]
    rfl
  | 2, _, h =>
    obtain ⟨ns, e, a⟩ := gA_all (f := gP) (p := okPosts) fun t ht => badO_some (h t ht)
    unfold gM
    rw [if_neg (by decide +kernel), if_neg (by decide +kernel), if_pos ⟨rfl, rfl⟩]
    show (match gA gP ws with | none => none | some wss => some (okP wss)) = _
    rw [e]
    show some (okP ns) = _
    unfold okP
    have l : ns.length ≤ 16 := by rw [gA_len e]; exact hl
    rw [a, decide_eq_true l]
    rfl
  | 3, _, h =>
    obtain ⟨ns, e, a⟩ := gA_all (f := gN) (p := fun n : Nat => inB 0 4294967295 (n : Int)) fun t ht => badO_some (h t ht)
    unfold gM
    rw [if_neg (by decide +kernel), if_neg (by decide +kernel), if_neg (by decide +kernel), if_pos ⟨rfl, rfl⟩]
    show (match gNs ws with | none => none | some rows => some (okB rows)) = _
    have e : gNs ws = some ns := e
    rw [e]
    show some (okB ns) = _
    unfold okB
    rw [List.all_map, decide_eq_true (by rw [gA_len e]; exact hl)]
    have a2 : ns.all (inB 0 4294967295 ∘ fun n : Nat => (n : Int)) = true := a
    rw [a2]
    rfl
  | k + 4, z, _ => omega
/-- more than sixteen are refused -/
theorem many_bad {k : Nat} (hk : k < 4) {ws : List Str} (hl : 16 < ws.length) : gM (nmF k) (moreF k) ws ≠ some true := by
  intro z
  match k, hk, z with
  | 0, _, z =>
    have e7 : gN (Str.ofString "7") = some 7 := by decide +kernel
    unfold gM at z
    rw [if_pos ⟨rfl, rfl⟩] at z
    have z : (match gN (Str.ofString "7") with | none => none | some N => match gA gT ws with | none => none | some tss => some (okT N tss)) = some true := z
    rw [e7] at z
    cases h : gA gT ws with
    | none => rw [h] at z; cases z
    | some tss =>
      rw [h] at z
      have z : okT 7 tss = true := Option.some.inj z
      have l : ¬ tss.length ≤ 16 := by rw [gA_len h]; omega
      unfold okT at z
      rw [decide_eq_false l, Bool.false_and, Bool.and_false] at z
      cases z
  | 1, _, z =>
    have em : gNs (moreF 1) = some [2, 0, 16] := by decide +kernel
    unfold gM at z
    rw [if_neg (by decide +kernel), if_pos (show nmF 1 = Str.ofString "kinds" from rfl)] at z
    have z : (match gNs ws with | none => none | some ks => match gNs (moreF 1) with | none => none | some ms => some (okK ks ms)) = some true := z
    rw [em] at z
    cases h : gNs ws with
    | none => rw [h] at z; cases z
    | some ks =>
      rw [h] at z
      have z : okK ks [2, 0, 16] = true := Option.some.inj z
      have l : ¬ ks.length ≤ 16 := by rw [gA_len h]; omega
      unfold okK at z
      rw [decide_eq_false l, Bool.false_and, Bool.and_false] at z
      cases z
  | 2, _, z =>
    unfold gM at z
    rw [if_neg (by decide +kernel), if_neg (by decide +kernel), if_pos ⟨rfl, rfl⟩] at z
    have z : (match gA gP ws with | none => none | some wss => some (okP wss)) = some true := z
    cases h : gA gP ws with
    | none => rw [h] at z; cases z
    | some wss =>
      rw [h] at z
      have z : okP wss = true := Option.some.inj z
      have l : ¬ wss.length ≤ 16 := by rw [gA_len h]; omega
      unfold okP at z
      rw [decide_eq_false l, Bool.false_and] at z
      cases z
  | 3, _, z =>
    unfold gM at z
    rw [if_neg (by decide +kernel), if_neg (by decide +kernel), if_neg (by decide +kernel), if_pos ⟨rfl, rfl⟩] at z
    have z : (match gNs ws with | none => none | some rows => some (okB rows)) = some true := z
    cases h : gNs ws with
    | none => rw [h] at z; cases z
    | some rows =>
      rw [h] at z
      have z : okB rows = true := Option.some.inj z
      have l : ¬ rows.length ≤ 16 := by rw [gA_len h]; omega
      unfold okB at z
      rw [decide_eq_false l, Bool.false_and] at z
      cases z
  | k + 4, w, _ => omega
/-! ### the law's texts as rows -/
def hF (k : Nat) : Str := match k with
  | 0 => Str.ofString "threads 7"
  | 1 => Str.ofString "kinds 2 0 16"
  | 2 => Str.ofString "posts"
  | _ => Str.ofString "bits"
theorem headF_eq : ∀ k, k < 4 → headF k = hF k ++ Tx.colon := by decide +kernel
theorem hF_split : ∀ k, k < 4 → Txt.split (hF k) Tx.blank = nmF k :: moreF k := by decide +kernel
theorem hF_free : ∀ k, k < 4 → 58 ∉ TL.tl (hF k) := by decide +kernel
theorem row_of (k : Nat) (hk : k < 4) (ws : List Str) : Txt.join Tx.blank (headF k :: ws) = Tx.row (hF k) ws := by
  rw [headF_eq k hk]
  rfl
/-- the pieces of words at their blanks: the same text -/
def pieces (ws : List Str) : List Str := (ws.map fun x => (Tx.cutL 32 (TL.tl x)).map SX.S).flatten
theorem pieces_free {ws : List Str} : ∀ p ∈ pieces ws, 32 ∉ TL.tl p := fun p hp => by
  obtain ⟨l, hl, hp⟩ := List.mem_flatten.mp hp
  obtain ⟨x, hx, rfl⟩ := List.mem_map.mp hl
  obtain ⟨a, ha, rfl⟩ := List.mem_map.mp hp
  exact Tx.cutL_free 32 _ a ha
theorem body_pieces : ∀ ws : List Str, TL.tl (Tx.body (pieces ws)) = TL.tl (Tx.body ws)
  | [] => rfl
  | x :: ws => by
    have ih := body_pieces ws
    rw [Tx.tl_body, Tx.tl_body] at ih ⊢
    have e : pieces (x :: ws) = (Tx.cutL 32 (TL.tl x)).map SX.S ++ pieces ws := rfl
    rw [e, List.map_append, List.map_append, List.flatten_append, ih, Tx.map_tl_S, List.map_cons, List.map_cons, List.flatten_cons]
    congr 1
    have j := Tx.cutL_join 32 (TL.tl x)
    cases h : Tx.cutL 32 (TL.tl x) with
    | nil => exact absurd h (Tx.cutL_ne 32 _)
    | cons p ps =>
      rw [h, Tx.joinL_cons] at j
      rw [List.map_cons, List.flatten_cons, List.append_assoc, j]
theorem row_pieces (h : Str) (ws : List Str) : Tx.row h ws = Tx.row h (pieces ws) := by
  rw [← Tx.row_eq, ← Tx.row_eq]
  congr 1
  exact TL.ext_tl (body_pieces ws).symm
theorem body_len : ∀ ws : List Str, ws.length ≤ (TL.tl (Tx.body ws)).length ∧ ∀ x ∈ ws, (TL.tl x).length ≤ (TL.tl (Tx.body ws)).length
  | [] => ⟨Nat.zero_le _, fun _ h => by cases h⟩
  | y :: ws => by
    obtain ⟨a, b⟩ := body_len ws
    rw [Tx.tl_body] at a b ⊢
    rw [List.map_cons, List.map_cons, List.flatten_cons, List.length_append, List.length_append]
    refine ⟨?_, fun x hx => ?_⟩
    · rw [List.length_cons]
      show ws.length + 1 ≤ 1 + (TL.tl y).length + _
      omega
    · show (TL.tl x).length ≤ 1 + (TL.tl y).length + _
      rcases List.mem_cons.mp hx with z | z
      · rw [z]; omega
      · have := b x z
        omega
theorem hF_small : ∀ k, k < 4 → (moreF k).length ≤ 900 ∧ (∀ x ∈ moreF k, x.length ≤ 900) ∧ (moreF k = [] ∨ moreF k = [Str.ofString "1"] ∨ (nmF k ≠ Str.ofString "posts" ∧ nmF k ≠ Str.ofString "bits")) := by decide +kernel
/-- what read asks of a row, all but its two ways -/
theorem read_row {c : Cx16} {H : Hp} {k : Nat} (hk : k < 4) {ws : List Str} (hl : (Tx.row (hF k) ws).length ≤ 800) {Q' : VK} {E' : XK}
    (q : gM (nmF k) (moreF k) (pieces ws) = some true → ∀ H' p, Same H H' → Q' (.ref p) H') (qE : gM (nmF k) (moreF k) (pieces ws) ≠ some true → ∀ H', Same H H' → E' (.ref c.cT) none H') : spRead c [.str (Tx.row (hF k) ws)] H Q' E' := by
  obtain ⟨m1, m2, m3⟩ := hF_small k hk
  have hl2 := hl
  rw [row_pieces, ← Tx.row_eq, Tx.append_len, Tx.append_len] at hl2
  obtain ⟨b1, b2⟩ := body_len (pieces ws)
  have eb := TL.len_tl (Tx.body (pieces ws))
  refine .inr (.inr (.inr ⟨hF k, nmF k, moreF k, pieces ws, by rw [row_pieces], hF_free k hk, pieces_free, hF_split k hk, by rw [← row_pieces]; exact hl, by omega, by omega, m1, by omega, m2, fun x hx => ?_, m3, q, qE⟩))
  have := b2 x hx
  rw [TL.len_tl]
  omega
/-! ### heads that make nothing -/
def noHead (nm : Str) (more : List Str) : Bool :=
  if nm = Str.ofString "threads" ∧ more.length = 1 then badO (fun N : Nat => decide ((1 : Int) ≤ (N : Int)) && decide ((N : Int) ≤ 20)) (gN (more.headD (Str.ofString "")))
  else if nm = Str.ofString "kinds" then badO (fun ms : List Nat => (ms.map fun n : Nat => (n : Int)).all (inB 0 16)) (gNs more)
  else if nm = Str.ofString "posts" ∧ more = [] then false
  else if nm = Str.ofString "bits" ∧ more = [] then false
  else true
theorem gM_no {nm : Str} {more : List Str} (h : noHead nm more = true) (ws : List Str) : gM nm more ws ≠ some true := by
  unfold noHead at h
  unfold gM
  intro z
  by_cases c0 : nm = Str.ofString "threads" ∧ more.length = 1
  · rw [if_pos c0] at h z
    cases e : gN (more.headD (Str.ofString "")) with
    | none => rw [e] at z; cases z
    | some N =>
      rw [e] at h z
      have h : (!(decide ((1 : Int) ≤ (N : Int)) && decide ((N : Int) ≤ 20))) = true := h
      cases e2 : gA gT ws with
      | none => rw [e2] at z; cases z
      | some tss =>
        rw [e2] at z
        have z : okT N tss = true := Option.some.inj z
        unfold okT at z
        have h : (decide ((1 : Int) ≤ (N : Int)) && decide ((N : Int) ≤ 20)) = false := by
          cases y : (decide ((1 : Int) ≤ (N : Int)) && decide ((N : Int) ≤ 20)) with
          | false => rfl
          | true => rw [y] at h; cases h
        rw [h, Bool.false_and] at z
        cases z
  rw [if_neg c0] at h z
  by_cases c1 : nm = Str.ofString "kinds"
  · rw [if_pos c1] at h z
    cases e : gNs ws with
    | none => rw [e] at z; cases z
    | some ks =>
      rw [e] at z
      cases e2 : gNs more with
      | none => rw [e2] at z; cases z
      | some ms =>
        rw [e2] at h z
        have z : okK ks ms = true := Option.some.inj z
        have h : (!(ms.map fun n : Nat => (n : Int)).all (inB 0 16)) = true := h
        have h : (ms.map fun n : Nat => (n : Int)).all (inB 0 16) = false := by
          cases y : (ms.map fun n : Nat => (n : Int)).all (inB 0 16) with
          | false => rfl
          | true => rw [y] at h; cases h
        unfold okK at z
        rw [h, Bool.false_and] at z
        cases z
  rw [if_neg c1] at h z
  by_cases c2 : nm = Str.ofString "posts" ∧ more = []
  · rw [if_pos c2] at h; cases h
  rw [if_neg c2] at h z
  by_cases c3 : nm = Str.ofString "bits" ∧ more = []
  · rw [if_pos c3] at h; cases h
  rw [if_neg c3] at z
  cases z
/-- the thirteen heads that have a colon -/
def heads13 : List (Str × Str × List Str) := [("threads", "threads", []), ("threads 0", "threads", ["0"]), ("threads 21", "threads", ["21"]), ("threads 7 7", "threads", ["7", "7"]), ("threads  7", "threads", ["", "7"]), ("kinds 17", "kinds", ["17"]), ("kinds x", "kinds", ["x"]),
  ("posts 1", "posts", ["1"]), ("bits 1", "bits", ["1"]), ("bit", "bit", []), ("Bits", "Bits", []), (" bits", "", ["bits"]), ("threads 07", "threads", ["07"])].map fun y : String × String × List String => (Str.ofString y.1, Str.ofString y.2.1, y.2.2.map Str.ofString)
theorem heads_are : ∀ x ∈ heads, x = Str.ofString "" ∨ ∃ y ∈ heads13, x = y.1 ++ Tx.colon := by decide +kernel
theorem heads13_ok : ∀ y ∈ heads13, 58 ∉ TL.tl y.1 ∧ Txt.split y.1 Tx.blank = y.2.1 :: y.2.2 ∧ noHead y.2.1 y.2.2 = true ∧ y.2.2.length ≤ 900 ∧ (∀ x ∈ y.2.2, x.length ≤ 900) ∧ (y.2.2 = [] ∨ y.2.2 = [Str.ofString "1"] ∨ (y.2.1 ≠ Str.ofString "posts" ∧ y.2.1 ≠ Str.ofString "bits")) := by decide +kernel
/-! ### what read refuses -/
def Ref (c : Cx16) (H : Hp) (v : V) : Prop := ∀ (Q' : VK) (E' : XK), (∀ H', Same H H' → E' (.ref c.cT) none H') → spRead c [v] H Q' E'
section
variable {c : Cx16} {H : Hp} {k : Nat}
theorem piece_in {ws : List Str} {x : Str} (hx : x ∈ ws) {a : List Nat} (ha : a ∈ Tx.cutL 32 (TL.tl x)) : SX.S a ∈ pieces ws :=
  List.mem_flatten.mpr ⟨_, List.mem_map_of_mem hx, List.mem_map_of_mem ha⟩
/-- a row of the kind with a word, one of whose pieces is bad -/
theorem ref_piece (hk : k < 4) {ws : List Str} {x : Str} (hx : x ∈ ws) (hb : ((Tx.cutL 32 (TL.tl x)).any fun p => badP k (SX.S p)) = true) (hl : (Txt.join Tx.blank (headF k :: ws)).length ≤ 800) : Ref c H (.str (Txt.join Tx.blank (headF k :: ws))) := by
  intro Q' E' e
  rw [row_of k hk] at hl ⊢
  obtain ⟨a, ha, hb⟩ := List.any_eq_true.mp hb
  exact read_row hk hl (fun z => absurd z (bad_in hk (piece_in hx ha) hb)) fun _ => e
theorem ref_bad (hk : k < 4) {ws : List Str} {x : Str} (hx : x ∈ ws) (hb : x ∈ bads k) (hl : (Txt.join Tx.blank (headF k :: ws)).length ≤ 800) : Ref c H (.str (Txt.join Tx.blank (headF k :: ws))) :=
  ref_piece hk hx (bads_bad k hk x hb) hl
/-- no colon -/
theorem ref_none {t : Str} (n : 58 ∉ TL.tl t) (hl : t.length ≤ 800) : Ref c H (.str t) := fun Q' E' e => .inr (.inl ⟨t, rfl, n, hl, e⟩)
theorem ref_head {x : Str} (hx : x ∈ heads) {ws : List Str} (nb : ∀ y ∈ ws, 32 ∉ TL.tl y) (nc : ∀ y ∈ ws, 58 ∉ TL.tl y) (hl : (Txt.join Tx.blank (x :: ws)).length ≤ 800) : Ref c H (.str (Txt.join Tx.blank (x :: ws))) := by
  rcases heads_are x hx with z | ⟨y, hy, z⟩
  · refine ref_none (Tx.not_join (by rw [Tx.tl_blank]; decide) fun p hp => ?_) hl
    rcases List.mem_cons.mp hp with q | q
    · rw [q, z, Tx.tl_e]; simp
    · exact nc p q
  · intro Q' E' e
    obtain ⟨h1, h2, h3, h4, h5, h6⟩ := heads13_ok y hy
    have er : Txt.join Tx.blank (x :: ws) = Tx.row y.1 ws := by rw [z]; rfl
    rw [er] at hl ⊢
    have hl2 := hl
    rw [← Tx.row_eq, Tx.append_len, Tx.append_len] at hl2
    obtain ⟨b1, b2⟩ := body_len ws
    have eb := TL.len_tl (Tx.body ws)
    refine .inr (.inr (.inr ⟨y.1, y.2.1, y.2.2, ws, rfl, h1, nb, h2, hl, by omega, by omega, h4, by omega, h5, fun w hw => ?_, h6, fun z => absurd z (gM_no h3 ws), fun _ => e⟩))
    have := b2 w hw
    rw [TL.len_tl]
    omega
end
/-! ### the ten other ways -/
theorem gN_ten {x : Str} (h : 10 ∈ TL.tl x) : gN x = none := by
  have f : figs x = false := by
    cases z : figs x with
    | false => rfl
    | true =>
      unfold figs at z
      have := of_decide_eq_true (List.all_eq_true.mp z 10 h)
      have := figs_at (t := x) this
      omega
  unfold gN
  rw [if_pos (.inr (.inr (.inl f)))]
theorem cutL_mem {s a : Nat} {l : List Nat} (h : a ∈ l) (n : a ≠ s) : ∃ p ∈ Tx.cutL s l, a ∈ p := by
  have j := Tx.cutL_join s l
  rw [← j] at h
  cases e : Tx.cutL s l with
  | nil => exact absurd e (Tx.cutL_ne s l)
  | cons p ps =>
    rw [e, Tx.joinL_cons] at h
    rcases List.mem_append.mp h with z | z
    · exact ⟨p, List.mem_cons_self, z⟩
    · obtain ⟨q, hq, ha⟩ := List.mem_flatten.mp z
      obtain ⟨r, hr, rfl⟩ := List.mem_map.mp hq
      rcases List.mem_append.mp ha with y | y
      · exact absurd (List.mem_singleton.mp y) n
      · exact ⟨r, List.mem_cons_of_mem _ hr, y⟩
theorem gNs_ten {x y : Str} {s : Nat} (hy : TL.tl y = [s]) (hk : y.cps.all (· < 256) = true) (n : 10 ≠ s) (h : 10 ∈ TL.tl x) : gNs (Txt.split x y) = none := by
  obtain ⟨p, hp, hm⟩ := cutL_mem h n
  rw [Tx.split_cut hy hk]
  refine gA_bad (t := SX.S p) (List.mem_map_of_mem hp) (gN_ten ?_)
  exact hm
theorem badP_ten {k : Nat} {x : Str} (hk : k < 4) (h : 10 ∈ TL.tl x) : badP k x = true := by
  match k, hk with
  | 0, _ =>
    show badO (okTie 7) (gNs (Txt.split x Tx.dash)) = true
    rw [gNs_ten Tx.tl_dash (by decide +kernel) (by decide) h]
    rfl
  | 1, _ =>
    show badO _ (gN x) = true
    rw [gN_ten h]
    rfl
  | 2, _ =>
    have n : x ≠ Str.ofString "-" := fun z => by
      rw [z] at h
      have h : 10 ∈ TL.tl Tx.dash := h
      rw [Tx.tl_dash] at h
      exact absurd h (by decide)
    show badO okPosts (if x = Str.ofString "-" then some [] else gNs (Txt.split x Tx.comma)) = true
    rw [if_neg n, gNs_ten Tx.tl_comma (by decide +kernel) (by decide) h]
    rfl
  | 3, _ =>
    show badO _ (gN x) = true
    rw [gN_ten h]
    rfl
  | k + 4, z => omega
theorem cut_ten {k : Nat} {x : Str} (hk : k < 4) (h : 10 ∈ TL.tl x) : ((Tx.cutL 32 (TL.tl x)).any fun p => badP k (SX.S p)) = true := by
  obtain ⟨p, hp, hm⟩ := cutL_mem h (s := 32) (by decide)
  exact List.any_eq_true.mpr ⟨p, hp, badP_ten hk hm⟩
/-! the shape of rows -/
theorem tl_row (h : Str) (ws : List Str) : TL.tl (Tx.row h ws) = TL.tl h ++ [58] ++ ((ws.map TL.tl).map ([32] ++ ·)).flatten := by
  rw [← Tx.row_eq, TL.tl_append, TL.tl_append, Tx.tl_colon, Tx.tl_body]
theorem row_snoc (h : Str) (ws : List Str) (x : Str) : Tx.row h (ws ++ [x]) = Tx.row h ws ++ Tx.blank ++ x := by
  refine TL.ext_tl ?_
  rw [TL.tl_append, TL.tl_append, tl_row, tl_row, Tx.tl_blank, List.map_append, List.map_append, List.flatten_append]
  simp only [List.map_cons, List.map_nil, List.flatten_cons, List.flatten_nil, List.append_nil, List.append_assoc]
theorem row_one (h w : Str) (r : List Str) (y : Str) : Tx.row h (w :: r) ++ y = Tx.row h [w ++ Tx.body r ++ y] := by
  refine TL.ext_tl ?_
  rw [TL.tl_append, tl_row, tl_row]
  simp only [List.map_cons, List.map_nil, List.flatten_cons, List.flatten_nil, List.append_nil, List.append_assoc, TL.tl_append, Tx.tl_body]
theorem app_e (x : Str) : x ++ Str.ofString "" = x := TL.ext_tl (by rw [TL.tl_append, Tx.tl_e, List.append_nil])
theorem app_assoc (x y z : Str) : x ++ y ++ z = x ++ (y ++ z) := TL.ext_tl (by rw [TL.tl_append, TL.tl_append, TL.tl_append, TL.tl_append, List.append_assoc])
theorem cutL_none {s : Nat} : ∀ {l : List Nat}, s ∉ l → Tx.cutL s l = [l]
  | [], _ => rfl
  | c :: r, h => by
    have ih := cutL_none (s := s) (l := r) fun z => h (List.mem_cons_of_mem _ z)
    unfold Tx.cutL
    rw [if_neg (fun z => h (by rw [z]; exact List.mem_cons_self)), ih]
theorem pieces_same : ∀ {ws : List Str}, (∀ x ∈ ws, 32 ∉ TL.tl x) → pieces ws = ws
  | [], _ => rfl
  | x :: r, h => by
    have ih := pieces_same (ws := r) fun y hy => h y (List.mem_cons_of_mem _ hy)
    have e : pieces (x :: r) = (Tx.cutL 32 (TL.tl x)).map SX.S ++ pieces r := rfl
    rw [e, ih, cutL_none (h x List.mem_cons_self)]
    show SX.S (TL.tl x) :: r = x :: r
    congr 1
/-! good words -/
structure FreeW (x : Str) : Prop where
  blank : 32 ∉ TL.tl x
  colon : 58 ∉ TL.tl x
  len : x.length ≤ 21
  ne : TL.tl x ≠ []
theorem num_free {n : Nat} (h : n < 10 ^ 10) : FreeW (Tx.num n) := by
  have := Tx.num_len h
  exact ⟨Tx.num_lt (by omega), Tx.num_lt (by omega), by omega, fun z => Tx.num_ne n (TL.ext_tl (by rw [z, Tx.tl_e]))⟩
theorem good_free {k : Nat} (hk : k < 4) {x : Str} (h : goodW k x) : FreeW x := by
  match k, hk, h with
  | 0, _, h =>
    obtain ⟨e, h1, h2, rfl⟩ := h
    have a := Tx.num_len (n := e.1) (by omega)
    have b := Tx.num_len (n := e.2) (by omega)
    refine ⟨Tx.tie_free (by omega) e, Tx.tie_free (by omega) e, ?_, fun z => ?_⟩
    · show (Tx.num e.1 ++ Tx.dash ++ Tx.num e.2).length ≤ 21
      rw [Tx.append_len, Tx.append_len, len_dash]
      omega
    · have z : TL.tl (Tx.num e.1 ++ Tx.dash ++ Tx.num e.2) = [] := z
      rw [TL.tl_append, TL.tl_append, Tx.tl_dash] at z
      simp at z
  | 1, _, h =>
    obtain ⟨m, h1, rfl⟩ := h
    exact num_free (by omega)
  | 2, _, h =>
    have h : x ∈ [Str.ofString "-", Str.ofString "3", Str.ofString "3,4", Str.ofString "30,0,12"] := h
    have all : ∀ x ∈ [Str.ofString "-", Str.ofString "3", Str.ofString "3,4", Str.ofString "30,0,12"], 32 ∉ TL.tl x ∧ 58 ∉ TL.tl x ∧ x.length ≤ 21 ∧ TL.tl x ≠ [] := by decide +kernel
    obtain ⟨a, b, c, d⟩ := all x h
    exact ⟨a, b, c, d⟩
  | 3, _, h =>
    obtain ⟨m, h1, rfl⟩ := h
    exact num_free (by omega)
  | k + 4, z, _ => omega
theorem headF_len : ∀ k, k < 4 → (headF k).length ≤ 21 ∧ (hF k).length ≤ 21 := by decide +kernel
theorem blank_len : Tx.blank.length = 1 := by rw [TL.len_tl, Tx.tl_blank]; rfl
theorem bads_short : ∀ k, k < 4 → ∀ x ∈ bads k, x.length ≤ 21 := by decide +kernel
theorem heads_short : ∀ x ∈ heads, x.length ≤ 21 := by decide +kernel
theorem join_short {ps : List Str} (h : ∀ p ∈ ps, p.length ≤ 21) {n : Nat} (hn : ps.length ≤ n) : (Txt.join Tx.blank ps).length ≤ n * 22 := by
  have := Tx.join_le (y := Tx.blank) h
  rw [blank_len] at this
  exact Nat.le_trans this (Nat.mul_le_mul_right _ hn)
section
variable {c : Cx16} {H : Hp} {k : Nat}
theorem row_short (hk : k < 4) {ws : List Str} (hw : ∀ x ∈ ws, x.length ≤ 21) {n : Nat} (hn : ws.length ≤ n) : (Txt.join Tx.blank (headF k :: ws)).length ≤ (n + 1) * 22 :=
  join_short (fun p hp => by
    rcases List.mem_cons.mp hp with z | z
    · rw [z]; exact (headF_len k hk).1
    · exact hw p z) (by rw [List.length_cons]; omega)
/-- good texts are read -/
theorem good_read (hk : k < 4) {ws : List Str} (hw : ∀ x ∈ ws, goodW k x) (hl : ws.length ≤ 16) {Q' : VK} {E' : XK} (q : ∀ H' p, Same H H' → Q' (.ref p) H') : spRead c [.str (Txt.join Tx.blank (headF k :: ws))] H Q' E' := by
  have l := row_short hk (fun x hx => (good_free hk (hw x hx)).len) hl
  rw [row_of k hk] at l ⊢
  refine read_row hk (by omega) (fun _ => q) fun z => absurd ?_ z
  rw [pieces_same fun x hx => (good_free hk (hw x hx)).blank]
  exact good_all hk (fun x hx => good_bad hk (hw x hx)) hl
/-- seventeen are refused -/
theorem ref_many (hk : k < 4) {ws : List Str} (hw : ∀ x ∈ ws, goodW k x) (hl : ws.length = 17) : Ref c H (.str (Txt.join Tx.blank (headF k :: ws))) := by
  intro Q' E' e
  have l := row_short hk (fun x hx => (good_free hk (hw x hx)).len) (Nat.le_of_eq hl)
  rw [row_of k hk] at l ⊢
  refine read_row hk (by omega) (fun z => absurd z ?_) fun _ => e
  rw [pieces_same fun x hx => (good_free hk (hw x hx)).blank]
  exact many_bad hk (by omega)
theorem ref_word (hk : k < 4) {ws ws' : List Str} {x : Str} (hw : ∀ y ∈ ws, goodW k y) (hw' : ∀ y ∈ ws', goodW k y) (hx : x ∈ bads k) (hl : ws.length + ws'.length ≤ 16) : Ref c H (.str (Txt.join Tx.blank (headF k :: (ws ++ [x] ++ ws')))) := by
  refine ref_bad hk (x := x) (by simp) hx ?_
  have l := row_short hk (ws := ws ++ [x] ++ ws') (n := 17) (fun y hy => ?_) (by simp; omega)
  · omega
  · rcases List.mem_append.mp hy with z | z
    · rcases List.mem_append.mp z with z | z
      · exact (good_free hk (hw y z)).len
      · rw [List.mem_singleton.mp z]; exact bads_short k hk x hx
    · exact (good_free hk (hw' y z)).len
theorem ref_headW (hk : k < 4) {ws : List Str} {x : Str} (hw : ∀ y ∈ ws, goodW k y) (hx : x ∈ heads) (hl : ws.length ≤ 16) : Ref c H (.str (Txt.join Tx.blank (x :: ws))) := by
  refine ref_head hx (fun y hy => (good_free hk (hw y hy)).blank) (fun y hy => (good_free hk (hw y hy)).colon) ?_
  have l := join_short (ps := x :: ws) (n := 17) (fun p hp => ?_) (by rw [List.length_cons]; omega)
  · omega
  · rcases List.mem_cons.mp hp with z | z
    · rw [z]; exact heads_short x hx
    · exact (good_free hk (hw p z)).len
abbrev goodT (k : Nat) (ws : List Str) : Str := Txt.join Tx.blank (headF k :: ws)
abbrev feed : Str := Str.ofString "\n"
theorem tl_feed : TL.tl feed = [10] := TL.tl_ofString "\n"
def waysA (k : Nat) (ws : List Str) : List V := [.str (hF k), .str (Str.ofString ""), .str (headF k ++ Tx.blank), .str (Txt.join Tx.blank (hF k :: ws)), .non, .int 5]
def waysB (k : Nat) (ws : List Str) : List V := [.str (goodT k ws ++ feed), .str (goodT k ws ++ Tx.blank), .str (goodT k ws ++ feed ++ goodT k ws), .str (headF k ++ Txt.join Tx.blank ws)]
theorem feed_len : feed.length = 1 := by rw [TL.len_tl, tl_feed]; rfl
theorem tl_feed_in {y : Str} : 10 ∈ TL.tl (feed ++ y) := by rw [TL.tl_append, tl_feed]; exact List.mem_cons_self
theorem ref_feed (hk : k < 4) {w : Str} {r : List Str} {y : Str} (h : 10 ∈ TL.tl y) (hl : (goodT k (w :: r) ++ y).length ≤ 800) : Ref c H (.str (goodT k (w :: r) ++ y)) := by
  have e : goodT k (w :: r) ++ y = Txt.join Tx.blank (headF k :: [w ++ Tx.body r ++ y]) := by
    rw [row_of k hk]
    show Txt.join Tx.blank (headF k :: (w :: r)) ++ y = _
    rw [row_of k hk, row_one]
  rw [e] at hl ⊢
  exact ref_piece hk List.mem_cons_self (cut_ten hk (by rw [TL.tl_append]; exact List.mem_append_right _ h)) hl
theorem bads_e : ∀ k, k < 4 → Str.ofString "" ∈ bads k := by decide +kernel
theorem ways_ref (hk : k < 4) {ws : List Str} (hw : ∀ x ∈ ws, goodW k x) (h1 : 1 ≤ ws.length) (hl : ws.length ≤ 9) {v : V} (hv : v ∈ waysA k ws ++ waysB k ws) : Ref c H v := by
  have fr := fun x hx => good_free hk (hw x hx)
  obtain ⟨hh1, hh2⟩ := headF_len k hk
  have gl : (goodT k ws).length ≤ 220 := row_short hk (ws := ws) (n := 9) (fun x hx => (fr x hx).len) hl
  have bl := blank_len
  have fl := feed_len
  obtain ⟨w, r, ew⟩ : ∃ w r, ws = w :: r := by
    cases ws with
    | nil => cases h1
    | cons w r => exact ⟨w, r, rfl⟩
  simp only [waysA, waysB, List.cons_append, List.nil_append, List.mem_cons, List.not_mem_nil, or_false] at hv
  rcases hv with rfl | rfl | rfl | rfl | rfl | rfl | rfl | rfl | rfl | rfl
  · exact ref_none (hF_free k hk) (by omega)
  · exact ref_none (by rw [Tx.tl_e]; simp) (by decide +kernel)
  · have e : headF k ++ Tx.blank = Txt.join Tx.blank (headF k :: [Str.ofString ""]) := by
      rw [row_of k hk, headF_eq k hk]
      have := row_snoc (hF k) [] (Str.ofString "")
      rw [List.nil_append] at this
      rw [this, app_e]
      rfl
    rw [e]
    refine ref_bad hk List.mem_cons_self (bads_e k hk) ?_
    rw [← e, Tx.append_len]
    omega
  · refine ref_none (Tx.not_join (by rw [Tx.tl_blank]; decide) fun p hp => ?_) ?_
    · rcases List.mem_cons.mp hp with z | z
      · rw [z]; exact hF_free k hk
      · exact (fr p z).colon
    · have l := join_short (ps := hF k :: ws) (n := 10) (fun p hp => ?_) (by rw [List.length_cons]; omega)
      · omega
      · rcases List.mem_cons.mp hp with z | z
        · rw [z]; exact hh2
        · exact (fr p z).len
  · intro Q' E' e
    exact .inl ⟨.inl rfl, e _ (Same.refl _)⟩
  · intro Q' E' e
    exact .inl ⟨.inr rfl, e _ (Same.refl _)⟩
  · subst ew
    refine ref_feed hk (by rw [tl_feed]; exact List.mem_cons_self) ?_
    rw [Tx.append_len]
    omega
  · have e : goodT k ws ++ Tx.blank = Txt.join Tx.blank (headF k :: (ws ++ [Str.ofString ""])) := by
      rw [row_of k hk, row_snoc, app_e]
      show Txt.join Tx.blank (headF k :: ws) ++ Tx.blank = _
      rw [row_of k hk]
    rw [e]
    refine ref_bad hk (List.mem_append_right _ List.mem_cons_self) (bads_e k hk) ?_
    rw [← e, Tx.append_len]
    omega
  · subst ew
    rw [app_assoc]
    refine ref_feed hk tl_feed_in ?_
    rw [Tx.append_len, Tx.append_len]
    omega
  · intro Q' E' e
    rw [headF_eq k hk]
    have tb : TL.tl (Txt.join Tx.blank ws) = TL.tl w ++ ((r.map TL.tl).map ([32] ++ ·)).flatten := by
      rw [ew, TL.join_eq, TL.tl_join, Tx.tl_blank, List.map_cons, Tx.joinL_cons]
    have fw := fr w (by rw [ew]; exact List.mem_cons_self)
    obtain ⟨a, t, ea⟩ : ∃ a t, TL.tl w = a :: t := by
      cases h : TL.tl w with
      | nil => exact absurd h fw.ne
      | cons a t => exact ⟨a, t, rfl⟩
    have a32 : 32 ≠ a := fun z => fw.blank (by rw [ea, z]; exact List.mem_cons_self)
    have jl := join_short (ps := ws) (n := 9) (fun p hp => (fr p hp).len) hl
    refine .inr (.inr (.inl ⟨hF k, Txt.join Tx.blank ws, rfl, hF_free k hk, ?_, fun z => ?_, ?_, e⟩))
    · rw [← headF_eq k hk, Tx.append_len]
      omega
    · have := congrArg TL.tl z
      rw [tb, ea, Tx.tl_e] at this
      cases this
    · cases h : Txt.startswith (Txt.join Tx.blank ws) Tx.blank with
      | false => rfl
      | true =>
        have := (Tx.starts_iff (by rw [Tx.tl_blank]; simp)).mp h
        rw [tb, ea, Tx.tl_blank] at this
        have this : (([a] : List Nat) == [32]) = true := this
        exact absurd (List.cons.inj (eq_of_beq this)).1.symm a32
end
/-! ### the law -/
/-- what may raise, where it doesn't -/
theorem calmR {P : Program} {w : World} {K : PySem.W.Frag} {mg : Str → Option Value} {base : Heap} {k : Nat} {x : Str} {sp : Sp} {dvs : List V} (c : RzX.Cal (L2.CX P w) P w K mg base k x sp dvs) :
    C8.Cal P w K mg base k x (fun vs H Q _ => sp vs H Q fun _ _ _ => False) dvs := by
  obtain ⟨f, fd, ps, ds, F, hm, kp, b, d⟩ := c.ex
  refine ⟨f, fd, ps, ds, ⟨fun vs H Q E h => F.len vs H Q _ h, fun A outer s H args us vs Q E hr he hb hv hs => codeAny_mono (F.run A outer s H args us vs Q _ hr he hb hv hs) fun r s' h => ?_⟩, hm, kp, b, d⟩
  match r, h with
  | .ok (.ret u), h => exact h
  | .ok .next, h => exact h
  | .ok .brk, h => exact h
  | .ok .cont, h => exact h
  | .error e, h =>
    obtain ⟨_, _, _, _, _, _, _, _, _, _, _, _, z⟩ := h
    exact z.elim
theorem pe_joinK {X : Cx} {K : PySem.W.Frag} {o e : Expr} {to te : TE} {apos pos : Pos} (eK : X.K = K) (ho : PE X o to) (he : PE X e te) (hs : starEach [e] X.env = [(false, eval e X.env)] := by rfl) (hbase : attributeBase o "join" X.env (eval o X.env) = eval o X.env := by rfl) (hline : (apos.endLine == pos.line) = true := by rfl) :
    PE X (.Call (.Attribute o "join" apos) [e] [] pos) (tM1 (fun x xs H Q => ∃ a p, ∃ ys : List Str, x = .str a ∧ xs = [.ref p] ∧ (SqL K H p (ys.map V.str) ∨ SqT K H p (ys.map V.str)) ∧
      (ys.map (·.length)).sum + ys.length * a.length ≤ 16777216 ∧ Q (.str (Txt.join a ys)) H) to te) := by
  subst eK
  exact pe_join ho he hs hbase hline
theorem sizeJ {ps : List Str} (h : ∀ p ∈ ps, p.length ≤ 21) (hl : ps.length ≤ 18) : (ps.map (·.length)).sum + ps.length * Tx.blank.length ≤ 16777216 := by
  have a := Tx.sum_le h
  rw [blank_len]
  omega
theorem szL {n : Nat} (h : n ≤ 1000) : n ≤ sizeLine := by
  have : sizeLine = 16777216 := rfl
  omega
theorem cut_lo {xs : List Str} {j : Nat} : cutV (xs.map V.str) none (some (j : Int)) = (xs.take j).map V.str := by
  unfold cutV
  have e : HT.sIx (xs.map V.str).length 0 none = 0 := rfl
  have e2 : HT.sIx (xs.map V.str).length (xs.map V.str).length (some (j : Int)) = min j (xs.map V.str).length := by
    unfold HT.sIx
    simp
    omega
  rw [e, e2, List.drop_zero, Nat.sub_zero, List.map_take]
  by_cases c : j ≤ (xs.map V.str).length
  · rw [Nat.min_eq_left c]
  · rw [Nat.min_eq_right (by omega), List.take_of_length_le (Nat.le_refl _), List.take_of_length_le (by omega)]
theorem cut_hi {xs : List Str} {j : Nat} : cutV (xs.map V.str) (some (j : Int)) none = (xs.drop j).map V.str := by
  unfold cutV
  have e : HT.sIx (xs.map V.str).length 0 (some (j : Int)) = min j (xs.map V.str).length := by
    unfold HT.sIx
    simp
    omega
  have e2 : HT.sIx (xs.map V.str).length (xs.map V.str).length none = (xs.map V.str).length := rfl
  rw [e, e2, List.map_drop]
  by_cases c : j ≤ (xs.map V.str).length
  · rw [Nat.min_eq_left c]
    exact List.take_of_length_le (by rw [List.length_drop]; exact Nat.le_refl _)
  · rw [Nat.min_eq_right (by omega), Nat.sub_self, List.take_zero, List.drop_of_length_le (by omega)]
theorem head_cut : ∀ k, k < 4 → cutS (headF k) none (some (-1)) = hF k := by decide +kernel
def spReadG (c : Cx16) : Sp := fun vs H Q _ => spRead c vs H Q fun _ _ _ => False
section
variable {P : Program} {w : World} {K : PySem.W.Frag} {mg : Str → Option Value} {base : Heap} {f : Addr} {fd : FuncData} {c : Cx16}
theorem ok_law (B : Bl mg) (F : L2.Fun K "law" "law" s_law f fd) (c__law_cell_at : C8.Cal P w K mg base 1 "_law_cell_at" (spCellAt K) []) (c__law_draw : C8.Cal P w K mg base 1 "_law_draw" spDraw [])
    (c__law_words : C8.Cal P w K mg base 2 "_law_words" spWords []) (c_read : C8.Cal P w K mg base 8 "read" (spReadG c) []) (c__law_bad_word : C8.Cal P w K mg base 1 "_law_bad_word" spBad []) (c__law_head : C8.Cal P w K mg base 1 "_law_head" spHead [])
    (c__law_refused : C8.Cal P w K mg base 9 "_law_refused" (spRefused c) []) : FnOk P w K mg base CX0 10 f fd ["_law_script"] (spLaw K) := by
  refine F.ok sc_law (fun vs H Q E h => ?_) (fun cdv A outer s H vs Q E hr h => ?_)
  · obtain ⟨a, ns, rfl, _⟩ := h
    rfl
  · obtain ⟨a, ns, rfl, hS, hlen, kk⟩ := h
    refine ⟨_, (pss_cons (ps_set (i := 1) sc_law.nd rfl (Or.inl rfl) (pe_op op_mod (C8.pe_c c__law_cell_at hr (by first | decide | exact Nat.le_refl _ | omega) rfl (pa_cons (pv 0) (pa_cons pe_int pa_nil))) pe_int))
      (C8.pss_cut (ps_set (i := 2) sc_law.nd rfl (Or.inl rfl) (pe_op op_add pe_int (pe_op op_mod (C8.pe_c c__law_cell_at hr (by first | decide | exact Nat.le_refl _ | omega) rfl (pa_cons (pv 0) (pa_cons pe_int pa_nil))) pe_int)))
      (pss_cons (ps_asg (C8.pe_c c__law_words hr (by first | decide | exact Nat.le_refl _ | omega) rfl (pa_cons (pv 1) (pa_cons (C8.pe_c c__law_cell_at hr (by first | decide | exact Nat.le_refl _ | omega) rfl (pa_cons (pv 0) (pa_cons pe_int pa_nil))) (pa_cons (pv 2) pa_nil)))) (pg_tupK (K := K) (n := 2) rfl (by rfl) (pgs_cons (pg_name (i := 3) sc_law.nd rfl (Or.inl rfl)) (pgs_cons (pg_name (i := 4) sc_law.nd rfl (Or.inl rfl)) pgs_nil))))
      (pss_cons (ps_expr (C8.pe_c c_read hr (by first | decide | exact Nat.le_refl _ | omega) rfl (pa_cons (pe_joinK (K := K) rfl pe_str (pe_op op_cat (pe_lst (pa_cons (pv 3) pa_nil)) (pv 4))) pa_nil)))
      (pss_cons (ps_for PassesOwn.never rfl (pi_range1 rfl B.range_ (pa_cons pe_int pa_nil)) (pg_name (i := 5) sc_law.nd rfl (Or.inl rfl)) (pss_cons (ps_set (i := 6) sc_law.nd rfl (Or.inl rfl) (pe_op op_add (C8.pe_c c__law_cell_at hr (by first | decide | exact Nat.le_refl _ | omega) rfl (pa_cons (pv 0) (pa_cons (pe_op op_add pe_int (pv 5)) pa_nil))) (pe_op op_mul pe_int (pv 5))))
      (C8.pss_cut (ps_set (i := 7) sc_law.nd rfl (Or.inl rfl) (C8.pe_c c__law_draw hr (by first | decide | exact Nat.le_refl _ | omega) rfl (pa_cons (pv 6) (pa_cons pe_int (pa_cons (pv 2) pa_nil)))))
      (pss_cons (ps_set (i := 8) sc_law.nd rfl (Or.inl rfl) (C8.pe_c c__law_bad_word hr (by first | decide | exact Nat.le_refl _ | omega) rfl (pa_cons (pv 1) (pa_cons (C8.pe_c c__law_draw hr (by first | decide | exact Nat.le_refl _ | omega) rfl (pa_cons (pv 6) (pa_cons pe_int (pa_cons pe_int pa_nil)))) pa_nil))))
      (pss_cons (ps_set (i := 9) sc_law.nd rfl (Or.inl rfl) (pe_op op_cat (pe_op op_cat (pe_op op_cat (pe_lst (pa_cons (pv 3) pa_nil)) (pe_slice (r := rSlL K) sl_list (pv 4) po_none (po_some (pv 7)))) (pe_lst (pa_cons (pv 8) pa_nil))) (pe_slice (r := rSlL K) sl_list (pv 4) (po_some (pe_op op_add (pv 7) pe_int)) po_none)))
      (pss_cons (ps_if (pt_not (pt_val (C8.pe_c c__law_refused hr (by first | decide | exact Nat.le_refl _ | omega) rfl (pa_cons (pe_joinK (K := K) rfl pe_str (pv 9)) pa_nil)))) (pss_one (ps_ret pe_bl)) pss_nil)
      (pss_cons (ps_set (i := 10) sc_law.nd rfl (Or.inl rfl) (C8.pe_c c__law_head hr (by first | decide | exact Nat.le_refl _ | omega) rfl (pa_cons (C8.pe_c c__law_draw hr (by first | decide | exact Nat.le_refl _ | omega) rfl (pa_cons (pv 6) (pa_cons pe_int (pa_cons pe_int pa_nil)))) pa_nil)))
      (pss_cons (ps_if (pt_not (pt_val (C8.pe_c c__law_refused hr (by first | decide | exact Nat.le_refl _ | omega) rfl (pa_cons (pe_joinK (K := K) rfl pe_str (pe_op op_cat (pe_lst (pa_cons (pv 10) pa_nil)) (pv 4))) pa_nil)))) (pss_one (ps_ret pe_bl)) pss_nil)
      (C8.pss_cut (ps_set (i := 11) sc_law.nd rfl (Or.inl rfl) (pe_lst (pa_cons (pe_slice (r := rSlS) sl_str (pv 3) po_none (po_some (pe_un un_neg pe_int))) (pa_cons pe_str (pa_cons (pe_op op_add_str (pv 3) pe_str) (pa_cons (pe_joinK (K := K) rfl pe_str (pe_op op_cat (pe_lst (pa_cons (pe_slice (r := rSlS) sl_str (pv 3) po_none (po_some (pe_un un_neg pe_int))) pa_nil)) (pv 4))) (pa_cons pe_non (pa_cons pe_int pa_nil))))))))
      (pss_cons (ps_set (i := 12) sc_law.nd rfl (Or.inl rfl) (pe_joinK (K := K) rfl pe_str (pe_op op_cat (pe_lst (pa_cons (pv 3) pa_nil)) (pv 4))))
      (C8.pss_cut (ps_set (i := 11) sc_law.nd rfl (Or.inl rfl) (pe_op op_cat (pv 11) (pe_lst (pa_cons (pe_op op_add_str (pv 12) pe_str) (pa_cons (pe_op op_add_str (pv 12) pe_str) (pa_cons (pe_op op_add_str (pe_op op_add_str (pv 12) pe_str) (pv 12)) (pa_cons (pe_op op_add_str (pv 3) (pe_joinK (K := K) rfl pe_str (pv 4))) pa_nil)))))))
      (pss_one (ps_if (pt_not (pt_val (C8.pe_c c__law_refused hr (by first | decide | exact Nat.le_refl _ | omega) rfl (pa_cons (pe_ix (r := rIxL K) ix_list (pv 11) (C8.pe_c c__law_draw hr (by first | decide | exact Nat.le_refl _ | omega) rfl (pa_cons (pv 6) (pa_cons pe_int (pa_cons pe_int pa_nil)))) (fun _ _ => rfl)) pa_nil)))) (pss_one (ps_ret pe_bl)) pss_nil)))))))))))))
      (pss_cons (ps_set (i := 13) sc_law.nd rfl (Or.inl rfl) (pe_joinK (K := K) rfl pe_str (pe_op op_cat (pe_lst (pa_cons (pv 3) pa_nil)) (pe_op op_rep (pe_lst (pa_cons (pe_ix (r := rIxL K) ix_list (pv 4) pe_int (fun _ _ => rfl)) pa_nil)) pe_int))))
      (pss_cons (ps_expr (C8.pe_c c_read hr (by first | decide | exact Nat.le_refl _ | omega) rfl (pa_cons (pv 13) pa_nil)))
      (pss_one (ps_ret (C8.pe_c c__law_refused hr (by first | decide | exact Nat.le_refl _ | omega) rfl (pa_cons (pe_op op_add_str (pe_op op_add_str (pv 13) pe_str) (pe_ix (r := rIxL K) ix_list (pv 4) pe_int (fun _ _ => rfl))) pa_nil))))))))))), ?_⟩
    obtain ⟨k, ek⟩ : ∃ k : Nat, cellAt ns 0 % 4 = (k : Int) := ⟨(cellAt ns 0 % 4).toNat, by omega⟩
    have hk : k < 4 := by omega
    obtain ⟨n, en⟩ : ∃ n : Nat, 1 + cellAt ns 1 % 9 = (n : Int) := ⟨(1 + cellAt ns 1 % 9).toNat, by omega⟩
    have n1 : 1 ≤ n := by omega
    have n9 : n ≤ 9 := by omega
    refine ⟨_, rfl, a, ns, 0, rfl, hS, _, _, rfl, rfl, (by show (0 : Int) < 4; decide), ?_⟩
    refine ⟨fun σ' H1 => σ' = [some (.ref a), some (nv k), some (nv n), none, none, none, none, none, none, none, none, none, none, none] ∧ H = H1, ?_, ?_⟩
    · refine ⟨_, rfl, a, ns, 1, rfl, hS, _, _, rfl, rfl, (by show (0 : Int) < 9; decide), _, _, rfl, rfl, ?_, rfl⟩
      show _ = [some (V.ref a), some (V.int ((k : Nat) : Int)), some (V.int ((n : Nat) : Int)), none, none, none, none, none, none, none, none, none, none, none]
      rw [← en, ← ek]
      rfl
    rintro _ _ ⟨rfl, rfl⟩
    refine ⟨_, rfl, _, rfl, a, ns, 2, rfl, hS, _, rfl, k, _, n, rfl, hk, n9, fun H1 t aw ws s1 nt ht na haw wl hw => ⟨t, _, rfl, SqT.of ht, rfl, _, _, rfl, _, _, rfl, rfl, ?_⟩⟩
    have wlen : ∀ x ∈ ws, x.length ≤ 21 := fun x hx => (good_free hk (hw x hx)).len
    obtain ⟨hl1, hl2⟩ := headF_len k hk
    have jl : ∀ h : Str, h.length ≤ 21 → ∀ x ∈ h :: ws, x.length ≤ 21 := fun h hh x hx => by
      rcases List.mem_cons.mp hx with z | z
      · rw [z]; exact hh
      · exact wlen x z
    have sz1 : ∀ h : V, [h].length + (ws.map V.str).length ≤ sizeLine := fun h => by
      rw [List.length_map, wl]
      exact szL (by show 1 + n ≤ 1000; omega)
    -- the good text is read
    refine ⟨⟨_, rfl⟩, _, rfl, (by show 1 ≤ sizeLine; decide), fun u nu => ⟨_, rfl, u, aw, [V.str (headF k)], ws.map V.str, rfl, rfl, upd_same, same_upd nu _ _ haw, sz1 _, fun p np => ⟨_, p, headF k :: ws, rfl, rfl, .inl (SqL.of upd_same), sizeJ (jl _ hl1) (by rw [List.length_cons]; omega), ?_⟩⟩⟩
    have s2 := same_upd (o := HO.lst ([V.str (headF k)] ++ ws.map V.str)) np
    have s12 : Same H1 (upd (upd H1 u (.lst [V.str (headF k)])) p (HO.lst ([V.str (headF k)] ++ ws.map V.str))) := (same_upd nu).trans s2
    dsimp only [tNil]
    generalize upd (upd H1 u (.lst [V.str (headF k)])) p (HO.lst ([V.str (headF k)] ++ ws.map V.str)) = H2 at s12 ⊢
    refine good_read (c := c) hk hw (by omega) fun H3 q s3 => ?_
    have hS3 : SqL K H3 a (ns.map V.int) := (s1.trans (s12.trans s3)).seq hS
    have haw3 := s3 _ _ (s12 _ _ haw)
    refine ⟨5, rfl, by decide, by decide, for_range (lo := 0) (n := (5 : Int).toNat) (fun i σ H' => ∃ v5 v6 v7 v8 v9 v10 v11 v12 : Option V, σ = [some (.ref a), some (nv k), some (nv n), some (.str (headF k)), some (.ref aw), v5, v6, v7, v8, v9, v10, v11, v12, none] ∧ Same H3 H')
      ⟨none, none, none, none, none, none, none, none, rfl, fun _ _ z => z⟩ ?_ ?_⟩
    · rintro i σ H4 hi ⟨v5, v6, v7, v8, v9, v10, v11, v12, rfl, s4⟩
      have hS4 := s4.seq hS3
      have haw4 := s4 _ _ haw3
      have ei : [V.ref a, V.int (3 + (0 + (i : Int)))] = [V.ref a, V.int ((3 + i : Nat) : Int)] := by rw [show (3 + (0 + (i : Int))) = ((3 + i : Nat) : Int) by omega]
      refine ⟨_, rfl, _, rfl, _, _, rfl, rfl, a, ns, 3 + i, ei, hS4, _, rfl, _, _, rfl, rfl, .inl ⟨by decide, by decide⟩, _, _, rfl, rfl, ?_⟩
      refine ⟨fun σ' H' => ∃ (cell : Int) (j : Nat), j < n ∧ σ' = [some (.ref a), some (nv k), some (nv n), some (.str (headF k)), some (.ref aw), some (.int (0 + (i : Int))), some (.int cell), some (.int (j : Int)), v8, v9, v10, v11, v12, none] ∧ H4 = H', ?_, ?_⟩
      · obtain ⟨j, hj, d1⟩ := draw_nat (c := cellAt ns (3 + i) + 31 * (0 + (i : Int))) (k := 1) (N := n) n1
        refine ⟨_, rfl, _, rfl, _, 1, _, rfl, (by show (0 : Int) < (n : Int); omega), by decide, by decide, cellAt ns (3 + i) + 31 * (0 + (i : Int)), j, hj, ?_, rfl⟩
        rw [← d1]
        rfl
      rintro _ _ ⟨cell, j, hj, rfl, rfl⟩
      refine ⟨_, rfl, _, rfl, _, 2, 1000, rfl, by decide, by decide, by decide, k, _, rfl, hk, fun H5 x s5 hx => ?_⟩
      have haw5 := s5 _ _ haw4
      -- a bad word in its place
      refine ⟨_, rfl, (by show 1 ≤ sizeLine; decide), fun u1 m1 => ?_⟩
      have t1 : Same H5 (upd H5 u1 (.lst [V.str (headF k)])) := same_upd m1
      have g1 : (upd H5 u1 (.lst [V.str (headF k)])) u1 = some (.lst [V.str (headF k)]) := upd_same
      generalize upd H5 u1 (HO.lst [V.str (headF k)]) = H6 at t1 g1 ⊢
      refine ⟨_, rfl, _, rfl, (j : Int), rfl, aw, _, rfl, SqL.of (t1 _ _ haw5), fun u2 m2 => ?_⟩
      rw [cut_lo]
      have t2 : Same H6 (upd H6 u2 (.lst ((ws.take j).map V.str))) := same_upd m2
      have g2 : (upd H6 u2 (.lst ((ws.take j).map V.str))) u2 = some (.lst ((ws.take j).map V.str)) := upd_same
      generalize upd H6 u2 (HO.lst ((ws.take j).map V.str)) = H7 at t2 g2 ⊢
      have lt : (ws.take j).length ≤ 9 := by rw [List.length_take]; omega
      have ld : (ws.drop (j + 1)).length ≤ 9 := by rw [List.length_drop]; omega
      have l1 : ((ws.take j).map V.str).length ≤ 9 := by rw [List.length_map]; exact lt
      have l2 : ((ws.drop (j + 1)).map V.str).length ≤ 9 := by rw [List.length_map]; exact ld
      refine ⟨u1, u2, _, _, rfl, rfl, t2 _ _ g1, g2, szL (by rw [List.length_singleton]; omega), fun u3 m3 => ?_⟩
      have t3 : Same H7 (upd H7 u3 (.lst ([V.str (headF k)] ++ (ws.take j).map V.str))) := same_upd m3
      have g3 : (upd H7 u3 (.lst ([V.str (headF k)] ++ (ws.take j).map V.str))) u3 = some (.lst ([V.str (headF k)] ++ (ws.take j).map V.str)) := upd_same
      generalize upd H7 u3 (HO.lst ([V.str (headF k)] ++ (ws.take j).map V.str)) = H8 at t3 g3 ⊢
      refine ⟨_, rfl, (by show 1 ≤ sizeLine; decide), fun u4 m4 => ?_⟩
      have t4 : Same H8 (upd H8 u4 (.lst [V.str x])) := same_upd m4
      have g4 : (upd H8 u4 (.lst [V.str x])) u4 = some (.lst [V.str x]) := upd_same
      generalize upd H8 u4 (HO.lst [V.str x]) = H9 at t4 g4 ⊢
      refine ⟨u3, u4, _, _, rfl, rfl, t4 _ _ g3, g4, szL (by rw [List.length_append, List.length_singleton, List.length_singleton]; omega), fun u5 m5 => ?_⟩
      have t5 : Same H9 (upd H9 u5 (.lst ([V.str (headF k)] ++ (ws.take j).map V.str ++ [V.str x]))) := same_upd m5
      have g5 : (upd H9 u5 (.lst ([V.str (headF k)] ++ (ws.take j).map V.str ++ [V.str x]))) u5 = some (.lst ([V.str (headF k)] ++ (ws.take j).map V.str ++ [V.str x])) := upd_same
      generalize upd H9 u5 (HO.lst ([V.str (headF k)] ++ (ws.take j).map V.str ++ [V.str x])) = H10 at t5 g5 ⊢
      have s10 := t1.trans (t2.trans (t3.trans (t4.trans t5)))
      refine ⟨_, rfl, _, rfl, _, _, rfl, rfl, ((j + 1 : Nat) : Int), rfl, aw, _, rfl, SqL.of (s10 _ _ haw5), fun u6 m6 => ?_⟩
      rw [cut_hi]
      have t6 : Same H10 (upd H10 u6 (.lst ((ws.drop (j + 1)).map V.str))) := same_upd m6
      have g6 : (upd H10 u6 (.lst ((ws.drop (j + 1)).map V.str))) u6 = some (.lst ((ws.drop (j + 1)).map V.str)) := upd_same
      generalize upd H10 u6 (HO.lst ((ws.drop (j + 1)).map V.str)) = H11 at t6 g6 ⊢
      refine ⟨u5, u6, _, _, rfl, rfl, t6 _ _ g5, g6, szL (by rw [List.length_append, List.length_append, List.length_singleton, List.length_singleton]; omega), fun u7 m7 => ?_⟩
      have e7 : [V.str (headF k)] ++ (ws.take j).map V.str ++ [V.str x] ++ (ws.drop (j + 1)).map V.str = (headF k :: (ws.take j ++ [x] ++ ws.drop (j + 1))).map V.str := by
        rw [List.map_cons, List.map_append, List.map_append]
        rfl
      rw [e7]
      have t7 : Same H11 (upd H11 u7 (.lst ((headF k :: (ws.take j ++ [x] ++ ws.drop (j + 1))).map V.str))) := same_upd m7
      have g7 : (upd H11 u7 (.lst ((headF k :: (ws.take j ++ [x] ++ ws.drop (j + 1))).map V.str))) u7 = some (.lst ((headF k :: (ws.take j ++ [x] ++ ws.drop (j + 1))).map V.str)) := upd_same
      generalize upd H11 u7 (HO.lst ((headF k :: (ws.take j ++ [x] ++ ws.drop (j + 1))).map V.str)) = H12 at t7 g7 ⊢
      have s12' := s5.trans (s10.trans (t6.trans t7))
      refine ⟨⟨_, rfl⟩, _, rfl, _, u7, headF k :: (ws.take j ++ [x] ++ ws.drop (j + 1)), rfl, rfl, .inl (SqL.of g7), sizeJ (fun y hy => ?_) (by rw [List.length_cons, List.length_append, List.length_append, List.length_singleton, List.length_take, List.length_drop]; omega), ?_⟩
      · rcases List.mem_cons.mp hy with z | z
        · rw [z]; exact hl1
        · rcases List.mem_append.mp z with z | z
          · rcases List.mem_append.mp z with z | z
            · exact wlen y (List.mem_of_mem_take z)
            · rw [List.mem_singleton.mp z]; exact bads_short k hk x hx
          · exact wlen y (List.mem_of_mem_drop z)
      dsimp only [tNil]
      refine ⟨rfl, ref_word hk (fun y hy => hw y (List.mem_of_mem_take hy)) (fun y hy => hw y (List.mem_of_mem_drop hy)) hx (by rw [List.length_take, List.length_drop]; omega), fun H13 s13 => ⟨true, rfl, iteF ?_⟩⟩
      -- another head
      obtain ⟨i3, l3, d3⟩ := draw_nat (c := cell) (k := 3) (N := 14) (by decide)
      have d3 : drawF cell 3 14 = (i3 : Int) := d3
      refine ⟨_, rfl, _, 3, 14, rfl, by decide, by decide, by decide, i3, by rw [d3]; rfl, l3, fun H14 y s14 hy => ?_⟩
      have s14' := s12'.trans (s13.trans s14)
      have haw14 := s14' _ _ haw4
      refine ⟨⟨_, rfl⟩, _, rfl, (by show 1 ≤ sizeLine; decide), fun u8 m8 => ⟨_, rfl, u8, aw, [V.str y], ws.map V.str, rfl, rfl, upd_same, same_upd m8 _ _ haw14, sz1 _, fun p8 q8 => ⟨_, p8, y :: ws, rfl, rfl, .inl (SqL.of upd_same), sizeJ (jl _ (heads_short y hy)) (by rw [List.length_cons]; omega), ?_⟩⟩⟩
      have s15 : Same H14 (upd (upd H14 u8 (.lst [V.str y])) p8 (HO.lst ([V.str y] ++ ws.map V.str))) := (same_upd m8).trans (same_upd q8)
      dsimp only [tNil]
      generalize upd (upd H14 u8 (.lst [V.str y])) p8 (HO.lst ([V.str y] ++ ws.map V.str)) = H15 at s15 ⊢
      refine ⟨rfl, ref_headW hk hw hy (by omega), fun H16 s16 => ⟨true, rfl, iteF ?_⟩⟩
      have s16' := s14'.trans (s15.trans s16)
      have haw16 := s16' _ _ haw4
      have gl : (goodT k ws).length ≤ 220 := row_short hk (ws := ws) (n := 9) wlen (by omega)
      have bl := blank_len
      have fl := feed_len
      -- the ten ways
      refine ⟨fun σ' H' => ∃ u10, σ' = [some (.ref a), some (nv k), some (nv n), some (.str (headF k)), some (.ref aw), some (.int (0 + (i : Int))), some (.int cell), some (.int (j : Int)), some (.str x), some (.ref u7), some (.str y), some (.ref u10), v12, none] ∧ Same H16 H' ∧ H' u10 = some (.lst (waysA k ws)), ?_, ?_⟩
      · refine ⟨_, rfl, _, rfl, (-1 : Int), rfl, _, rfl, szL (by omega), ?_⟩
        rw [head_cut k hk]
        refine ⟨_, rfl, _, _, rfl, rfl, szL (by show (headF k).length + Tx.blank.length ≤ 1000; omega), ⟨_, rfl⟩, _, rfl, _, rfl, (-1 : Int), rfl, _, rfl, szL (by omega), ?_⟩
        rw [head_cut k hk]
        refine ⟨(by show 1 ≤ sizeLine; decide), fun u9 m9 => ⟨_, rfl, u9, aw, [V.str (hF k)], ws.map V.str, rfl, rfl, upd_same, same_upd m9 _ _ haw16, sz1 _, fun p9 q9 => ⟨_, p9, hF k :: ws, rfl, rfl, .inl (SqL.of upd_same), sizeJ (jl _ hl2) (by rw [List.length_cons]; omega), ?_⟩⟩⟩
        have s17 : Same H16 (upd (upd H16 u9 (.lst [V.str (hF k)])) p9 (HO.lst ([V.str (hF k)] ++ ws.map V.str))) := (same_upd m9).trans (same_upd q9)
        generalize upd (upd H16 u9 (.lst [V.str (hF k)])) p9 (HO.lst ([V.str (hF k)] ++ ws.map V.str)) = H17 at s17 ⊢
        exact ⟨(by show 6 ≤ sizeLine; decide), fun u10 m10 => ⟨u10, rfl, s17.trans (same_upd m10), upd_same⟩⟩
      rintro _ H18 ⟨u10, rfl, t18, g10⟩
      have s18 := s16'.trans t18
      have haw18 := s18 _ _ haw4
      refine ⟨⟨_, rfl⟩, _, rfl, (by show 1 ≤ sizeLine; decide), fun u11 m11 => ⟨_, rfl, u11, aw, [V.str (headF k)], ws.map V.str, rfl, rfl, upd_same, same_upd m11 _ _ haw18, sz1 _, fun p11 q11 => ⟨_, p11, headF k :: ws, rfl, rfl, .inl (SqL.of upd_same), sizeJ (jl _ hl1) (by rw [List.length_cons]; omega), ?_⟩⟩⟩
      have t19 : Same H18 (upd (upd H18 u11 (.lst [V.str (headF k)])) p11 (HO.lst ([V.str (headF k)] ++ ws.map V.str))) := (same_upd m11).trans (same_upd q11)
      generalize upd (upd H18 u11 (.lst [V.str (headF k)])) p11 (HO.lst ([V.str (headF k)] ++ ws.map V.str)) = H19 at t19 ⊢
      have s19 := s18.trans t19
      have haw19 := s19 _ _ haw4
      have wl9 : (Txt.join Tx.blank ws).length ≤ 220 := join_short (n := 10) wlen (by omega)
      have z1 : (goodT k ws).length + feed.length ≤ sizeLine := szL (by omega)
      have z2 : (goodT k ws).length + Tx.blank.length ≤ sizeLine := szL (by omega)
      have z3 : (goodT k ws ++ feed).length + (goodT k ws).length ≤ sizeLine := szL (by rw [Tx.append_len]; omega)
      have z4 : (headF k).length + (Txt.join Tx.blank ws).length ≤ sizeLine := szL (by omega)
      refine ⟨fun σ' H' => ∃ u13 w12, σ' = [some (.ref a), some (nv k), some (nv n), some (.str (headF k)), some (.ref aw), some (.int (0 + (i : Int))), some (.int cell), some (.int (j : Int)), some (.str x), some (.ref u7), some (.str y), some (.ref u13), w12, none] ∧ Same H19 H' ∧ H' u13 = some (.lst (waysA k ws ++ waysB k ws)), ?_, ?_⟩
      · refine ⟨_, rfl, _, rfl, _, _, rfl, rfl, z1, _, rfl, _, _, rfl, rfl, z2, _, rfl, _, _, rfl, rfl, z1, _, rfl, _, _, rfl, rfl, z3, _, rfl, ⟨_, rfl⟩, _, rfl, _, aw, ws, rfl, rfl, .inl (SqL.of haw19), sizeJ wlen (by omega), _, _, rfl, rfl, z4, (by show 4 ≤ sizeLine; decide), fun u12 m12 => ?_⟩
        exact ⟨u10, u12, waysA k ws, waysB k ws, rfl, rfl, same_upd m12 _ _ (t19 _ _ g10), upd_same, (by show 6 + 4 ≤ sizeLine; decide), fun u13 m13 => ⟨u13, _, rfl, (same_upd m12).trans (same_upd m13), upd_same⟩⟩
      rintro _ H20 ⟨u13, w12, rfl, s20, g13⟩
      obtain ⟨i4, l4, d4⟩ := draw_nat (c := cell) (k := 4) (N := 10) (by decide)
      have d4 : drawF cell 4 10 = (i4 : Int) := d4
      obtain ⟨v, hv⟩ : ∃ v, (waysA k ws ++ waysB k ws)[i4]? = some v := ⟨_, List.getElem?_eq_getElem (by show i4 < 10; exact l4)⟩
      refine ⟨_, rfl, _, rfl, _, 4, 10, rfl, by decide, by decide, by decide, u13, _, (i4 : Int), v, rfl, by rw [d4], SqL.of g13, atI_nat hv, ?_⟩
      dsimp only [tNil]
      refine ⟨rfl, ways_ref hk hw (by omega) (by omega) (List.mem_of_getElem? hv), fun H21 s21 => ⟨true, rfl, iteF ⟨_, _, _, _, _, _, _, _, rfl, ?_⟩⟩⟩
      exact s4.trans (s19.trans (s20.trans s21))
    · rintro σ H4 ⟨v5, v6, v7, v8, v9, v10, v11, v12, rfl, s4⟩
      have haw4 := s4 _ _ haw3
      obtain ⟨w0, hw0⟩ : ∃ w0, ws[0]? = some w0 := ⟨_, List.getElem?_eq_getElem (by omega)⟩
      have gw := hw _ (List.mem_of_getElem? hw0)
      have gf := (good_free hk gw).len
      have at0 : (ws.map V.str)[0]? = some (V.str w0) := by rw [List.getElem?_map, hw0]; rfl
      have rg : ∀ m, ∀ x ∈ List.replicate m w0, goodW k x := fun m x hx => by rw [(List.mem_replicate.mp hx).2]; exact gw
      refine ⟨⟨_, rfl⟩, _, rfl, (by show 1 ≤ sizeLine; decide), fun u1 m1 => ?_⟩
      have t1 : Same H4 (upd H4 u1 (.lst [V.str (headF k)])) := same_upd m1
      have g1 : (upd H4 u1 (.lst [V.str (headF k)])) u1 = some (.lst [V.str (headF k)]) := upd_same
      generalize upd H4 u1 (HO.lst [V.str (headF k)]) = H5 at t1 g1 ⊢
      refine ⟨_, rfl, aw, _, _, _, rfl, rfl, SqL.of (t1 _ _ haw4), atI_nat (j := 0) at0, (by show 1 ≤ sizeLine; decide), fun u2 m2 => ?_⟩
      have t2 : Same H5 (upd H5 u2 (.lst [V.str w0])) := same_upd m2
      have g2 : (upd H5 u2 (.lst [V.str w0])) u2 = some (.lst [V.str w0]) := upd_same
      generalize upd H5 u2 (HO.lst [V.str w0]) = H6 at t2 g2 ⊢
      refine ⟨u2, 16, [V.str w0], rfl, rfl, g2, by decide, by decide, (by show 16 ≤ sizeLine; decide), fun u3 m3 => ?_⟩
      have e3 : (List.replicate (16 : Int).toNat [V.str w0]).flatten = (List.replicate 16 w0).map V.str := rfl
      rw [e3]
      have t3 : Same H6 (upd H6 u3 (.lst ((List.replicate 16 w0).map V.str))) := same_upd m3
      have g3 : (upd H6 u3 (.lst ((List.replicate 16 w0).map V.str))) u3 = some (.lst ((List.replicate 16 w0).map V.str)) := upd_same
      generalize upd H6 u3 (HO.lst ((List.replicate 16 w0).map V.str)) = H7 at t3 g3 ⊢
      refine ⟨u1, u3, [V.str (headF k)], (List.replicate 16 w0).map V.str, rfl, rfl, t3 _ _ (t2 _ _ g1), g3, (by show 17 ≤ sizeLine; decide), fun p4 m4 => ⟨_, p4, headF k :: List.replicate 16 w0, rfl, rfl, .inl (SqL.of upd_same), sizeJ (fun x hx => ?_) (by rw [List.length_cons, List.length_replicate]; decide), ?_⟩⟩
      · rcases List.mem_cons.mp hx with z | z
        · rw [z]; exact hl1
        · rw [(List.mem_replicate.mp z).2]; exact gf
      have t4 : Same H7 (upd H7 p4 (.lst ([V.str (headF k)] ++ (List.replicate 16 w0).map V.str))) := same_upd m4
      generalize upd H7 p4 (HO.lst ([V.str (headF k)] ++ (List.replicate 16 w0).map V.str)) = H8 at t4 ⊢
      have s8 := t1.trans (t2.trans (t3.trans t4))
      refine ⟨_, rfl, ?_⟩
      dsimp only [tNil]
      refine good_read (c := c) hk (ws := List.replicate 16 w0) (rg 16) (by rw [List.length_replicate]; decide) fun H9 q s9 => ?_
      have gl : (goodT k (List.replicate 16 w0)).length ≤ 374 := row_short hk (ws := List.replicate 16 w0) (n := 16) (fun x hx => by rw [(List.mem_replicate.mp hx).2]; exact gf) (by rw [List.length_replicate]; decide)
      have bl := blank_len
      have z1 : (goodT k (List.replicate 16 w0)).length + Tx.blank.length ≤ sizeLine := szL (by omega)
      have z2 : (goodT k (List.replicate 16 w0) ++ Tx.blank).length + w0.length ≤ sizeLine := szL (by rw [Tx.append_len]; omega)
      refine ⟨_, rfl, _, _, rfl, rfl, z1, _, rfl, aw, _, _, _, rfl, rfl, SqL.of (s9 _ _ (s8 _ _ haw4)), atI_nat (j := 0) at0, _, _, rfl, rfl, z2, ?_⟩
      dsimp only [tNil]
      refine ⟨rfl, ?_, fun H10 s10 => kk _⟩
      have e : goodT k (List.replicate 16 w0) ++ Tx.blank ++ w0 = Txt.join Tx.blank (headF k :: (List.replicate 16 w0 ++ [w0])) := by
        rw [row_of k hk, row_snoc]
        show Txt.join Tx.blank (headF k :: List.replicate 16 w0) ++ Tx.blank ++ w0 = _
        rw [row_of k hk]
      have r : Ref c H9 (.str (goodT k (List.replicate 16 w0) ++ Tx.blank ++ w0)) := by
        rw [e]
        refine ref_many hk (fun x hx => ?_) (by rw [List.length_append, List.length_replicate]; rfl)
        rcases List.mem_append.mp hx with z | z
        · exact rg 16 x z
        · rw [List.mem_singleton.mp z]; exact gw
      exact r
end
/-! ### which class an error is of -/
section
variable {K : PySem.W.Frag}
theorem kit_not2 {C D : Addr} (h0 : PySem.W.subIn K (.ref C) (.ref C) = some true) (h2 : PySem.W.isClsIn K D = true) (h3 : PySem.W.typeIn K (.ref D) = some (.type "type")) (h4 : PySem.W.subIn K (.ref C) (.ref D) = some false) : PySem.W.kitOne K (.ref C) (.ref D) = some false := by
  have ne : ¬ (Value.ref C == Value.ref D) = true := fun z => by
    have z := eq_of_beq z
    rw [← z, h0] at h4
    cases h4
  unfold PySem.W.kitOne
  rw [if_neg ne]
  have h2' : (PySem.W.clsIn K D).isSome = true := h2
  have e2 : ((PySem.W.clsIn K D).isSome && PySem.W.typeIn K (.ref D) == some (.type "type")) = true := by
    rw [h2', h3] <;> rfl
  show (if ((PySem.W.clsIn K D).isSome && PySem.W.typeIn K (.ref D) == some (.type "type")) = true then PySem.W.subIn K (.ref C) (.ref D) else none) = some false
  rw [if_pos e2]
  exact h4
theorem kit_self {C : Addr} : PySem.W.kitOne K (.ref C) (.ref C) = some true := by
  unfold PySem.W.kitOne
  rw [if_pos (by simp)]
theorem kit_type {C : Addr} {T : String} (hT : PySem.W.kitMeta T = true) (h4 : PySem.W.subIn K (.ref C) (.type T) = some true) : PySem.W.kitOne K (.ref C) (.type T) = some true := by
  unfold PySem.W.kitOne
  by_cases z : (Value.ref C == Value.type T) = true
  · rw [if_pos z]
  · rw [if_neg z]
    show (if PySem.W.kitMeta T = true then PySem.W.subIn K (.ref C) (.type T) else none) = some true
    rw [if_pos hT]
    exact h4
end
theorem all_mk {l : PySem.W.OpenLaw} {w : World} {K : PySem.W.Frag} {h : Heap} {mg : Str → Option Value} {fa f_is_number f_is_within f_check_thing f_check_set f_check_ground f_are_within f_is_tie f_are_posts f_read f_made_of f_tie_of f_posts_of f_numbers_of f_number_of f__law_cell_at f__law_draw f__law_refused f__law_words f__law_bad_word f__law_head f_law f_Threads___init__ f_Kinds___init__ f_Posts___init__ f_Bits___init__ C_Threads C_Kinds C_Posts C_Bits C_BadText C_BadRule C_BadThing C_BadWeights C_NotFree C_NotWhole C_FreeError : Addr}
    {od_is_number an_is_number : Option Addr} {sl_is_number : Array (Option Value)} {oc_is_number kV_is_number dc_is_number pm_is_number cd_is_number ct_is_number : Value}
    {od_is_within an_is_within : Option Addr} {sl_is_within : Array (Option Value)} {oc_is_within kV_is_within dc_is_within pm_is_within cd_is_within ct_is_within : Value}
    {od_check_thing an_check_thing : Option Addr} {sl_check_thing : Array (Option Value)} {oc_check_thing kV_check_thing dc_check_thing pm_check_thing cd_check_thing ct_check_thing : Value}
    {od_check_set an_check_set : Option Addr} {sl_check_set : Array (Option Value)} {oc_check_set kV_check_set dc_check_set pm_check_set cd_check_set ct_check_set : Value}
    {od_check_ground an_check_ground : Option Addr} {sl_check_ground : Array (Option Value)} {oc_check_ground kV_check_ground dc_check_ground pm_check_ground cd_check_ground ct_check_ground : Value}
    {od_are_within an_are_within : Option Addr} {sl_are_within : Array (Option Value)} {oc_are_within kV_are_within dc_are_within pm_are_within cd_are_within ct_are_within : Value}
    {od_is_tie an_is_tie : Option Addr} {sl_is_tie : Array (Option Value)} {oc_is_tie kV_is_tie dc_is_tie pm_is_tie cd_is_tie ct_is_tie : Value}
    {od_are_posts an_are_posts : Option Addr} {sl_are_posts : Array (Option Value)} {oc_are_posts kV_are_posts dc_are_posts pm_are_posts cd_are_posts ct_are_posts : Value}
    {od_read an_read : Option Addr} {sl_read : Array (Option Value)} {oc_read kV_read dc_read pm_read cd_read ct_read : Value}
    {od_made_of an_made_of : Option Addr} {sl_made_of : Array (Option Value)} {oc_made_of kV_made_of dc_made_of pm_made_of cd_made_of ct_made_of : Value}
    {od_tie_of an_tie_of : Option Addr} {sl_tie_of : Array (Option Value)} {oc_tie_of kV_tie_of dc_tie_of pm_tie_of cd_tie_of ct_tie_of : Value}
    {od_posts_of an_posts_of : Option Addr} {sl_posts_of : Array (Option Value)} {oc_posts_of kV_posts_of dc_posts_of pm_posts_of cd_posts_of ct_posts_of : Value}
    {od_numbers_of an_numbers_of : Option Addr} {sl_numbers_of : Array (Option Value)} {oc_numbers_of kV_numbers_of dc_numbers_of pm_numbers_of cd_numbers_of ct_numbers_of : Value}
    {od_number_of an_number_of : Option Addr} {sl_number_of : Array (Option Value)} {oc_number_of kV_number_of dc_number_of pm_number_of cd_number_of ct_number_of : Value}
    {od__law_cell_at an__law_cell_at : Option Addr} {sl__law_cell_at : Array (Option Value)} {oc__law_cell_at kV__law_cell_at dc__law_cell_at pm__law_cell_at cd__law_cell_at ct__law_cell_at : Value}
    {od__law_draw an__law_draw : Option Addr} {sl__law_draw : Array (Option Value)} {oc__law_draw kV__law_draw dc__law_draw pm__law_draw cd__law_draw ct__law_draw : Value}
    {od__law_refused an__law_refused : Option Addr} {sl__law_refused : Array (Option Value)} {oc__law_refused kV__law_refused dc__law_refused pm__law_refused cd__law_refused ct__law_refused : Value}
    {od__law_words an__law_words : Option Addr} {sl__law_words : Array (Option Value)} {oc__law_words kV__law_words dc__law_words pm__law_words cd__law_words ct__law_words : Value}
    {od__law_bad_word an__law_bad_word : Option Addr} {sl__law_bad_word : Array (Option Value)} {oc__law_bad_word kV__law_bad_word dc__law_bad_word pm__law_bad_word cd__law_bad_word ct__law_bad_word : Value}
    {od__law_head an__law_head : Option Addr} {sl__law_head : Array (Option Value)} {oc__law_head kV__law_head dc__law_head pm__law_head cd__law_head ct__law_head : Value}
    {od_law an_law : Option Addr} {sl_law : Array (Option Value)} {oc_law kV_law dc_law pm_law cd_law ct_law : Value}
    {od_Threads___init__ an_Threads___init__ : Option Addr} {sl_Threads___init__ : Array (Option Value)} {oc_Threads___init__ kV_Threads___init__ dc_Threads___init__ pm_Threads___init__ cd_Threads___init__ ct_Threads___init__ : Value}
    {od_Kinds___init__ an_Kinds___init__ : Option Addr} {sl_Kinds___init__ : Array (Option Value)} {oc_Kinds___init__ kV_Kinds___init__ dc_Kinds___init__ pm_Kinds___init__ cd_Kinds___init__ ct_Kinds___init__ : Value}
    {od_Posts___init__ an_Posts___init__ : Option Addr} {sl_Posts___init__ : Array (Option Value)} {oc_Posts___init__ kV_Posts___init__ dc_Posts___init__ pm_Posts___init__ cd_Posts___init__ ct_Posts___init__ : Value}
    {od_Bits___init__ an_Bits___init__ : Option Addr} {sl_Bits___init__ : Array (Option Value)} {oc_Bits___init__ kV_Bits___init__ dc_Bits___init__ pm_Bits___init__ cd_Bits___init__ ct_Bits___init__ : Value}
    {t_FIGURES : Tok}
    {t_MOST_THINGS : Tok}
    {t_MOST_PLACES : Tok}
    {t_MOST_OF_A_KIND : Tok}
    {t_HIGHEST_POST : Tok}
    {t_HIGHEST_ROW : Tok}
    {t_MOST_FIGURES : Tok} (X : K.In h) (G : h.Ns mainGlobals mg) (hfa : mg "law" = some (.ref fa))
    (aC_Threads : PySem.W.nsIn K mainGlobals "Threads" = some (some (.ref C_Threads)))
    (aC_Kinds : PySem.W.nsIn K mainGlobals "Kinds" = some (some (.ref C_Kinds)))
    (aC_Posts : PySem.W.nsIn K mainGlobals "Posts" = some (some (.ref C_Posts)))
    (aC_Bits : PySem.W.nsIn K mainGlobals "Bits" = some (some (.ref C_Bits)))
    (aC_BadText : PySem.W.nsIn K mainGlobals "BadText" = some (some (.ref C_BadText)))
    (aC_BadRule : PySem.W.nsIn K mainGlobals "BadRule" = some (some (.ref C_BadRule)))
    (aC_BadThing : PySem.W.nsIn K mainGlobals "BadThing" = some (some (.ref C_BadThing)))
    (aC_BadWeights : PySem.W.nsIn K mainGlobals "BadWeights" = some (some (.ref C_BadWeights)))
    (aC_NotFree : PySem.W.nsIn K mainGlobals "NotFree" = some (some (.ref C_NotFree)))
    (aC_NotWhole : PySem.W.nsIn K mainGlobals "NotWhole" = some (some (.ref C_NotWhole)))
    (aC_FreeError : PySem.W.nsIn K mainGlobals "FreeError" = some (some (.ref C_FreeError)))
    (a_is_number : PySem.W.nsIn K mainGlobals "is_number" = some (some (.ref f_is_number)))
    (l_is_number : K.lookup f_is_number = some ⟨oc_is_number, od_is_number, .func (PySem.W.fnOf "is_number" "is_number" (defArgs s_is_number) (defBody s_is_number) (defScope s_is_number) .none kV_is_number dc_is_number pm_is_number an_is_number cd_is_number ct_is_number), sl_is_number⟩)
    (c_is_number : PySem.W.codeIn K cd_is_number "is_number" = true)
    (k_is_number : PySem.W.keepIn K (.ref f_is_number) = true)
    (a_is_within : PySem.W.nsIn K mainGlobals "is_within" = some (some (.ref f_is_within)))
    (l_is_within : K.lookup f_is_within = some ⟨oc_is_within, od_is_within, .func (PySem.W.fnOf "is_within" "is_within" (defArgs s_is_within) (defBody s_is_within) (defScope s_is_within) .none kV_is_within dc_is_within pm_is_within an_is_within cd_is_within ct_is_within), sl_is_within⟩)
    (c_is_within : PySem.W.codeIn K cd_is_within "is_within" = true)
    (k_is_within : PySem.W.keepIn K (.ref f_is_within) = true)
    (a_check_thing : PySem.W.nsIn K mainGlobals "check_thing" = some (some (.ref f_check_thing)))
    (l_check_thing : K.lookup f_check_thing = some ⟨oc_check_thing, od_check_thing, .func (PySem.W.fnOf "check_thing" "check_thing" (defArgs s_check_thing) (defBody s_check_thing) (defScope s_check_thing) .none kV_check_thing dc_check_thing pm_check_thing an_check_thing cd_check_thing ct_check_thing), sl_check_thing⟩)
    (c_check_thing : PySem.W.codeIn K cd_check_thing "check_thing" = true)
    (k_check_thing : PySem.W.keepIn K (.ref f_check_thing) = true)
    (a_check_set : PySem.W.nsIn K mainGlobals "check_set" = some (some (.ref f_check_set)))
    (l_check_set : K.lookup f_check_set = some ⟨oc_check_set, od_check_set, .func (PySem.W.fnOf "check_set" "check_set" (defArgs s_check_set) (defBody s_check_set) (defScope s_check_set) .none kV_check_set dc_check_set pm_check_set an_check_set cd_check_set ct_check_set), sl_check_set⟩)
    (c_check_set : PySem.W.codeIn K cd_check_set "check_set" = true)
    (k_check_set : PySem.W.keepIn K (.ref f_check_set) = true)
    (a_check_ground : PySem.W.nsIn K mainGlobals "check_ground" = some (some (.ref f_check_ground)))
    (l_check_ground : K.lookup f_check_ground = some ⟨oc_check_ground, od_check_ground, .func (PySem.W.fnOf "check_ground" "check_ground" (defArgs s_check_ground) (defBody s_check_ground) (defScope s_check_ground) .none kV_check_ground dc_check_ground pm_check_ground an_check_ground cd_check_ground ct_check_ground), sl_check_ground⟩)
    (c_check_ground : PySem.W.codeIn K cd_check_ground "check_ground" = true)
    (k_check_ground : PySem.W.keepIn K (.ref f_check_ground) = true)
    (a_are_within : PySem.W.nsIn K mainGlobals "are_within" = some (some (.ref f_are_within)))
    (l_are_within : K.lookup f_are_within = some ⟨oc_are_within, od_are_within, .func (PySem.W.fnOf "are_within" "are_within" (defArgs s_are_within) (defBody s_are_within) (defScope s_are_within) .none kV_are_within dc_are_within pm_are_within an_are_within cd_are_within ct_are_within), sl_are_within⟩)
    (c_are_within : PySem.W.codeIn K cd_are_within "are_within" = true)
    (k_are_within : PySem.W.keepIn K (.ref f_are_within) = true)
    (a_is_tie : PySem.W.nsIn K mainGlobals "is_tie" = some (some (.ref f_is_tie)))
    (l_is_tie : K.lookup f_is_tie = some ⟨oc_is_tie, od_is_tie, .func (PySem.W.fnOf "is_tie" "is_tie" (defArgs s_is_tie) (defBody s_is_tie) (defScope s_is_tie) .none kV_is_tie dc_is_tie pm_is_tie an_is_tie cd_is_tie ct_is_tie), sl_is_tie⟩)
    (c_is_tie : PySem.W.codeIn K cd_is_tie "is_tie" = true)
    (k_is_tie : PySem.W.keepIn K (.ref f_is_tie) = true)
    (a_are_posts : PySem.W.nsIn K mainGlobals "are_posts" = some (some (.ref f_are_posts)))
    (l_are_posts : K.lookup f_are_posts = some ⟨oc_are_posts, od_are_posts, .func (PySem.W.fnOf "are_posts" "are_posts" (defArgs s_are_posts) (defBody s_are_posts) (defScope s_are_posts) .none kV_are_posts dc_are_posts pm_are_posts an_are_posts cd_are_posts ct_are_posts), sl_are_posts⟩)
    (c_are_posts : PySem.W.codeIn K cd_are_posts "are_posts" = true)
    (k_are_posts : PySem.W.keepIn K (.ref f_are_posts) = true)
    (a_read : PySem.W.nsIn K mainGlobals "read" = some (some (.ref f_read)))
    (l_read : K.lookup f_read = some ⟨oc_read, od_read, .func (PySem.W.fnOf "read" "read" (defArgs s_read) (defBody s_read) (defScope s_read) .none kV_read dc_read pm_read an_read cd_read ct_read), sl_read⟩)
    (c_read : PySem.W.codeIn K cd_read "read" = true)
    (k_read : PySem.W.keepIn K (.ref f_read) = true)
    (a_made_of : PySem.W.nsIn K mainGlobals "made_of" = some (some (.ref f_made_of)))
    (l_made_of : K.lookup f_made_of = some ⟨oc_made_of, od_made_of, .func (PySem.W.fnOf "made_of" "made_of" (defArgs s_made_of) (defBody s_made_of) (defScope s_made_of) .none kV_made_of dc_made_of pm_made_of an_made_of cd_made_of ct_made_of), sl_made_of⟩)
    (c_made_of : PySem.W.codeIn K cd_made_of "made_of" = true)
    (k_made_of : PySem.W.keepIn K (.ref f_made_of) = true)
    (a_tie_of : PySem.W.nsIn K mainGlobals "tie_of" = some (some (.ref f_tie_of)))
    (l_tie_of : K.lookup f_tie_of = some ⟨oc_tie_of, od_tie_of, .func (PySem.W.fnOf "tie_of" "tie_of" (defArgs s_tie_of) (defBody s_tie_of) (defScope s_tie_of) .none kV_tie_of dc_tie_of pm_tie_of an_tie_of cd_tie_of ct_tie_of), sl_tie_of⟩)
    (c_tie_of : PySem.W.codeIn K cd_tie_of "tie_of" = true)
    (k_tie_of : PySem.W.keepIn K (.ref f_tie_of) = true)
    (a_posts_of : PySem.W.nsIn K mainGlobals "posts_of" = some (some (.ref f_posts_of)))
    (l_posts_of : K.lookup f_posts_of = some ⟨oc_posts_of, od_posts_of, .func (PySem.W.fnOf "posts_of" "posts_of" (defArgs s_posts_of) (defBody s_posts_of) (defScope s_posts_of) .none kV_posts_of dc_posts_of pm_posts_of an_posts_of cd_posts_of ct_posts_of), sl_posts_of⟩)
    (c_posts_of : PySem.W.codeIn K cd_posts_of "posts_of" = true)
    (k_posts_of : PySem.W.keepIn K (.ref f_posts_of) = true)
    (a_numbers_of : PySem.W.nsIn K mainGlobals "numbers_of" = some (some (.ref f_numbers_of)))
    (l_numbers_of : K.lookup f_numbers_of = some ⟨oc_numbers_of, od_numbers_of, .func (PySem.W.fnOf "numbers_of" "numbers_of" (defArgs s_numbers_of) (defBody s_numbers_of) (defScope s_numbers_of) .none kV_numbers_of dc_numbers_of pm_numbers_of an_numbers_of cd_numbers_of ct_numbers_of), sl_numbers_of⟩)
    (c_numbers_of : PySem.W.codeIn K cd_numbers_of "numbers_of" = true)
    (k_numbers_of : PySem.W.keepIn K (.ref f_numbers_of) = true)
    (a_number_of : PySem.W.nsIn K mainGlobals "number_of" = some (some (.ref f_number_of)))
    (l_number_of : K.lookup f_number_of = some ⟨oc_number_of, od_number_of, .func (PySem.W.fnOf "number_of" "number_of" (defArgs s_number_of) (defBody s_number_of) (defScope s_number_of) .none kV_number_of dc_number_of pm_number_of an_number_of cd_number_of ct_number_of), sl_number_of⟩)
    (c_number_of : PySem.W.codeIn K cd_number_of "number_of" = true)
    (k_number_of : PySem.W.keepIn K (.ref f_number_of) = true)
    (a__law_cell_at : PySem.W.nsIn K mainGlobals "_law_cell_at" = some (some (.ref f__law_cell_at)))
    (l__law_cell_at : K.lookup f__law_cell_at = some ⟨oc__law_cell_at, od__law_cell_at, .func (PySem.W.fnOf "_law_cell_at" "_law_cell_at" (defArgs s__law_cell_at) (defBody s__law_cell_at) (defScope s__law_cell_at) .none kV__law_cell_at dc__law_cell_at pm__law_cell_at an__law_cell_at cd__law_cell_at ct__law_cell_at), sl__law_cell_at⟩)
    (c__law_cell_at : PySem.W.codeIn K cd__law_cell_at "_law_cell_at" = true)
    (k__law_cell_at : PySem.W.keepIn K (.ref f__law_cell_at) = true)
    (a__law_draw : PySem.W.nsIn K mainGlobals "_law_draw" = some (some (.ref f__law_draw)))
    (l__law_draw : K.lookup f__law_draw = some ⟨oc__law_draw, od__law_draw, .func (PySem.W.fnOf "_law_draw" "_law_draw" (defArgs s__law_draw) (defBody s__law_draw) (defScope s__law_draw) .none kV__law_draw dc__law_draw pm__law_draw an__law_draw cd__law_draw ct__law_draw), sl__law_draw⟩)
    (c__law_draw : PySem.W.codeIn K cd__law_draw "_law_draw" = true)
    (k__law_draw : PySem.W.keepIn K (.ref f__law_draw) = true)
    (a__law_refused : PySem.W.nsIn K mainGlobals "_law_refused" = some (some (.ref f__law_refused)))
    (l__law_refused : K.lookup f__law_refused = some ⟨oc__law_refused, od__law_refused, .func (PySem.W.fnOf "_law_refused" "_law_refused" (defArgs s__law_refused) (defBody s__law_refused) (defScope s__law_refused) .none kV__law_refused dc__law_refused pm__law_refused an__law_refused cd__law_refused ct__law_refused), sl__law_refused⟩)
    (c__law_refused : PySem.W.codeIn K cd__law_refused "_law_refused" = true)
    (k__law_refused : PySem.W.keepIn K (.ref f__law_refused) = true)
    (a__law_words : PySem.W.nsIn K mainGlobals "_law_words" = some (some (.ref f__law_words)))
    (l__law_words : K.lookup f__law_words = some ⟨oc__law_words, od__law_words, .func (PySem.W.fnOf "_law_words" "_law_words" (defArgs s__law_words) (defBody s__law_words) (defScope s__law_words) .none kV__law_words dc__law_words pm__law_words an__law_words cd__law_words ct__law_words), sl__law_words⟩)
    (c__law_words : PySem.W.codeIn K cd__law_words "_law_words" = true)
    (k__law_words : PySem.W.keepIn K (.ref f__law_words) = true)
    (a__law_bad_word : PySem.W.nsIn K mainGlobals "_law_bad_word" = some (some (.ref f__law_bad_word)))
    (l__law_bad_word : K.lookup f__law_bad_word = some ⟨oc__law_bad_word, od__law_bad_word, .func (PySem.W.fnOf "_law_bad_word" "_law_bad_word" (defArgs s__law_bad_word) (defBody s__law_bad_word) (defScope s__law_bad_word) .none kV__law_bad_word dc__law_bad_word pm__law_bad_word an__law_bad_word cd__law_bad_word ct__law_bad_word), sl__law_bad_word⟩)
    (c__law_bad_word : PySem.W.codeIn K cd__law_bad_word "_law_bad_word" = true)
    (k__law_bad_word : PySem.W.keepIn K (.ref f__law_bad_word) = true)
    (a__law_head : PySem.W.nsIn K mainGlobals "_law_head" = some (some (.ref f__law_head)))
    (l__law_head : K.lookup f__law_head = some ⟨oc__law_head, od__law_head, .func (PySem.W.fnOf "_law_head" "_law_head" (defArgs s__law_head) (defBody s__law_head) (defScope s__law_head) .none kV__law_head dc__law_head pm__law_head an__law_head cd__law_head ct__law_head), sl__law_head⟩)
    (c__law_head : PySem.W.codeIn K cd__law_head "_law_head" = true)
    (k__law_head : PySem.W.keepIn K (.ref f__law_head) = true)
    (a_law : PySem.W.nsIn K mainGlobals "law" = some (some (.ref f_law)))
    (l_law : K.lookup f_law = some ⟨oc_law, od_law, .func (PySem.W.fnOf "law" "law" (defArgs s_law) (defBody s_law) (defScope s_law) .none kV_law dc_law pm_law an_law cd_law ct_law), sl_law⟩)
    (c_law : PySem.W.codeIn K cd_law "law" = true)
    (k_law : PySem.W.keepIn K (.ref f_law) = true)
    (a_Threads___init__ : PySem.W.findIn K (.ref C_Threads) "__init__" = some (some (.ref f_Threads___init__)))
    (i_Threads___init__ : PySem.W.isFn K (.ref f_Threads___init__) = true)
    (l_Threads___init__ : K.lookup f_Threads___init__ = some ⟨oc_Threads___init__, od_Threads___init__, .func (PySem.W.fnOf "__init__" "Threads.__init__" (defArgs s_Threads___init__) (defBody s_Threads___init__) (defScope s_Threads___init__) .none kV_Threads___init__ dc_Threads___init__ pm_Threads___init__ an_Threads___init__ cd_Threads___init__ ct_Threads___init__), sl_Threads___init__⟩)
    (c_Threads___init__ : PySem.W.codeIn K cd_Threads___init__ "Threads.__init__" = true)
    (k_Threads___init__ : PySem.W.keepIn K (.ref f_Threads___init__) = true)
    (a_Kinds___init__ : PySem.W.findIn K (.ref C_Kinds) "__init__" = some (some (.ref f_Kinds___init__)))
    (i_Kinds___init__ : PySem.W.isFn K (.ref f_Kinds___init__) = true)
    (l_Kinds___init__ : K.lookup f_Kinds___init__ = some ⟨oc_Kinds___init__, od_Kinds___init__, .func (PySem.W.fnOf "__init__" "Kinds.__init__" (defArgs s_Kinds___init__) (defBody s_Kinds___init__) (defScope s_Kinds___init__) .none kV_Kinds___init__ dc_Kinds___init__ pm_Kinds___init__ an_Kinds___init__ cd_Kinds___init__ ct_Kinds___init__), sl_Kinds___init__⟩)
    (c_Kinds___init__ : PySem.W.codeIn K cd_Kinds___init__ "Kinds.__init__" = true)
    (k_Kinds___init__ : PySem.W.keepIn K (.ref f_Kinds___init__) = true)
    (a_Posts___init__ : PySem.W.findIn K (.ref C_Posts) "__init__" = some (some (.ref f_Posts___init__)))
    (i_Posts___init__ : PySem.W.isFn K (.ref f_Posts___init__) = true)
    (l_Posts___init__ : K.lookup f_Posts___init__ = some ⟨oc_Posts___init__, od_Posts___init__, .func (PySem.W.fnOf "__init__" "Posts.__init__" (defArgs s_Posts___init__) (defBody s_Posts___init__) (defScope s_Posts___init__) .none kV_Posts___init__ dc_Posts___init__ pm_Posts___init__ an_Posts___init__ cd_Posts___init__ ct_Posts___init__), sl_Posts___init__⟩)
    (c_Posts___init__ : PySem.W.codeIn K cd_Posts___init__ "Posts.__init__" = true)
    (k_Posts___init__ : PySem.W.keepIn K (.ref f_Posts___init__) = true)
    (a_Bits___init__ : PySem.W.findIn K (.ref C_Bits) "__init__" = some (some (.ref f_Bits___init__)))
    (i_Bits___init__ : PySem.W.isFn K (.ref f_Bits___init__) = true)
    (l_Bits___init__ : K.lookup f_Bits___init__ = some ⟨oc_Bits___init__, od_Bits___init__, .func (PySem.W.fnOf "__init__" "Bits.__init__" (defArgs s_Bits___init__) (defBody s_Bits___init__) (defScope s_Bits___init__) .none kV_Bits___init__ dc_Bits___init__ pm_Bits___init__ an_Bits___init__ cd_Bits___init__ ct_Bits___init__), sl_Bits___init__⟩)
    (c_Bits___init__ : PySem.W.codeIn K cd_Bits___init__ "Bits.__init__" = true)
    (k_Bits___init__ : PySem.W.keepIn K (.ref f_Bits___init__) = true)
    (pg_Threads : PySem.W.plainGet K C_Threads Str.empty = true)
    (hd_Threads : PySem.W.hasDictIn K C_Threads = true)
    (po_Threads : PySem.W.plainOver K C_Threads = true)
    (sa_Threads : PySem.W.findIn K (.ref C_Threads) "__setattr__" = some (some (.builtin "object.__setattr__")))
    (mk_Threads : PySem.W.makesIn K C_Threads = true)
    (kc_Threads : PySem.W.keepIn K (.ref C_Threads) = true)
    (pg_Kinds : PySem.W.plainGet K C_Kinds Str.empty = true)
    (hd_Kinds : PySem.W.hasDictIn K C_Kinds = true)
    (po_Kinds : PySem.W.plainOver K C_Kinds = true)
    (sa_Kinds : PySem.W.findIn K (.ref C_Kinds) "__setattr__" = some (some (.builtin "object.__setattr__")))
    (mk_Kinds : PySem.W.makesIn K C_Kinds = true)
    (kc_Kinds : PySem.W.keepIn K (.ref C_Kinds) = true)
    (pg_Posts : PySem.W.plainGet K C_Posts Str.empty = true)
    (hd_Posts : PySem.W.hasDictIn K C_Posts = true)
    (po_Posts : PySem.W.plainOver K C_Posts = true)
    (sa_Posts : PySem.W.findIn K (.ref C_Posts) "__setattr__" = some (some (.builtin "object.__setattr__")))
    (mk_Posts : PySem.W.makesIn K C_Posts = true)
    (kc_Posts : PySem.W.keepIn K (.ref C_Posts) = true)
    (pg_Bits : PySem.W.plainGet K C_Bits Str.empty = true)
    (hd_Bits : PySem.W.hasDictIn K C_Bits = true)
    (po_Bits : PySem.W.plainOver K C_Bits = true)
    (sa_Bits : PySem.W.findIn K (.ref C_Bits) "__setattr__" = some (some (.builtin "object.__setattr__")))
    (mk_Bits : PySem.W.makesIn K C_Bits = true)
    (kc_Bits : PySem.W.keepIn K (.ref C_Bits) = true)
    (n_Threads_places : PySem.W.findIn K (.ref C_Threads) "places" = some none)
    (n_Threads_ties : PySem.W.findIn K (.ref C_Threads) "ties" = some none)
    (n_Kinds_kinds : PySem.W.findIn K (.ref C_Kinds) "kinds" = some none)
    (n_Kinds_most : PySem.W.findIn K (.ref C_Kinds) "most" = some none)
    (n_Posts_wants : PySem.W.findIn K (.ref C_Posts) "wants" = some none)
    (n_Bits_rows : PySem.W.findIn K (.ref C_Bits) "rows" = some none)
    (v_FIGURES : PySem.W.nsIn K mainGlobals "FIGURES" = some (some (.str "0123456789" t_FIGURES)))
    (v_MOST_THINGS : PySem.W.nsIn K mainGlobals "MOST_THINGS" = some (some (.int 16 t_MOST_THINGS)))
    (v_MOST_PLACES : PySem.W.nsIn K mainGlobals "MOST_PLACES" = some (some (.int 20 t_MOST_PLACES)))
    (v_MOST_OF_A_KIND : PySem.W.nsIn K mainGlobals "MOST_OF_A_KIND" = some (some (.int 16 t_MOST_OF_A_KIND)))
    (v_HIGHEST_POST : PySem.W.nsIn K mainGlobals "HIGHEST_POST" = some (some (.int 30 t_HIGHEST_POST)))
    (v_HIGHEST_ROW : PySem.W.nsIn K mainGlobals "HIGHEST_ROW" = some (some (.int 4294967295 t_HIGHEST_ROW)))
    (v_MOST_FIGURES : PySem.W.nsIn K mainGlobals "MOST_FIGURES" = some (some (.int 10 t_MOST_FIGURES)))
    (z_isinstance : PySem.W.nsIn K mainGlobals "isinstance" = some none)
    (z_int : PySem.W.nsIn K mainGlobals "int" = some none)
    (z_bool : PySem.W.nsIn K mainGlobals "bool" = some none)
    (z_list : PySem.W.nsIn K mainGlobals "list" = some none)
    (z_tuple : PySem.W.nsIn K mainGlobals "tuple" = some none)
    (z_len : PySem.W.nsIn K mainGlobals "len" = some none)
    (z_all : PySem.W.nsIn K mainGlobals "all" = some none)
    (z_range : PySem.W.nsIn K mainGlobals "range" = some none)
    (z_min : PySem.W.nsIn K mainGlobals "min" = some none)
    (z_sorted : PySem.W.nsIn K mainGlobals "sorted" = some none)
    (z_set : PySem.W.nsIn K mainGlobals "set" = some none)
    (z_str : PySem.W.nsIn K mainGlobals "str" = some none)
    (z_ValueError : PySem.W.nsIn K mainGlobals "ValueError" = some none)
    (eT : PySem.W.excIn K C_BadText [.type "ValueError", .type "Exception", .type "BaseException", .type "object"] "ValueError.__new__" = true)
    (eR : PySem.W.excIn K C_BadRule [.type "ValueError", .type "Exception", .type "BaseException", .type "object"] "ValueError.__new__" = true)
    (kT : PySem.W.keepIn K (.ref C_BadText) = true)
    (kR : PySem.W.keepIn K (.ref C_BadRule) = true)
    (bT : PySem.W.subIn K (.ref C_BadText) (.type "BaseException") = some true)
    (bR : PySem.W.subIn K (.ref C_BadRule) (.type "BaseException") = some true)
    (bF : PySem.W.subIn K (.ref C_FreeError) (.type "BaseException") = some true)
    (vT : PySem.W.subIn K (.ref C_BadText) (.type "ValueError") = some true)
    (tT : PySem.W.typeIn K (.ref C_BadText) = some (.type "type"))
    (tR : PySem.W.typeIn K (.ref C_BadRule) = some (.type "type"))
    (tB : PySem.W.typeIn K (.ref C_BadThing) = some (.type "type"))
    (tW : PySem.W.typeIn K (.ref C_BadWeights) = some (.type "type"))
    (tN : PySem.W.typeIn K (.ref C_NotFree) = some (.type "type"))
    (tH : PySem.W.typeIn K (.ref C_NotWhole) = some (.type "type"))
    (tF : PySem.W.typeIn K (.ref C_FreeError) = some (.type "type"))
    (iR : PySem.W.isClsIn K C_BadRule = true)
    (iB : PySem.W.isClsIn K C_BadThing = true)
    (iW : PySem.W.isClsIn K C_BadWeights = true)
    (iN : PySem.W.isClsIn K C_NotFree = true)
    (iH : PySem.W.isClsIn K C_NotWhole = true)
    (hT : PySem.W.hasDictIn K C_BadText = true)
    (hR : PySem.W.hasDictIn K C_BadRule = true)
    (hF_ : PySem.W.hasDictIn K C_FreeError = true)
    (sTT : PySem.W.subIn K (.ref C_BadText) (.ref C_BadText) = some true)
    (sRR : PySem.W.subIn K (.ref C_BadRule) (.ref C_BadRule) = some true)
    (sTR : PySem.W.subIn K (.ref C_BadText) (.ref C_BadRule) = some false)
    (sTB : PySem.W.subIn K (.ref C_BadText) (.ref C_BadThing) = some false)
    (sTW : PySem.W.subIn K (.ref C_BadText) (.ref C_BadWeights) = some false)
    (sTN : PySem.W.subIn K (.ref C_BadText) (.ref C_NotFree) = some false)
    (sTH : PySem.W.subIn K (.ref C_BadText) (.ref C_NotWhole) = some false)
    (sTF : PySem.W.subIn K (.ref C_BadText) (.ref C_FreeError) = some true)
    (g1 : PySem.W.findIn K (.ref C_BadText) "__getattribute__" = some (some (.builtin "BaseException.__getattribute__")))
    (g2 : PySem.W.findIn K (.ref C_BadText) "__getattr__" = some none)
    (g3 : PySem.W.findIn K (.ref C_BadText) "__class__" = some (some (.builtin "object.__class__")))
    (g4 : PySem.W.specialIn K (.builtin "object.__class__") "__get__" = some (some (.builtin "getset_descriptor.__get__")))
    (g5 : PySem.W.takesIn K (.builtin "object.__class__") = some true)
    (g6 : PySem.W.mroIn K C_BadText (.type "object") = some true)
    : ∃ fd : FuncData, (∀ (s : Shared) (v : Value), BindsTo s fd ⟨[v], []⟩ [("_law_script", v)]) ∧ ∀ base : Heap, K.In base → base.Ns mainGlobals mg → FnOk l.prog w K mg base CX0 10 fa fd ["_law_script"] (spLaw K) := by
  have e := hfa.symm.trans (PySem.W.mg_of X G a_law)
  cases e
  have F_is_number := fun_mk (st := s_is_number) l_is_number c_is_number k_is_number
  have g_is_number := PySem.W.mg_of X G a_is_number
  have F_is_within := fun_mk (st := s_is_within) l_is_within c_is_within k_is_within
  have g_is_within := PySem.W.mg_of X G a_is_within
  have F_check_thing := fun_mk (st := s_check_thing) l_check_thing c_check_thing k_check_thing
  have g_check_thing := PySem.W.mg_of X G a_check_thing
  have F_check_set := fun_mk (st := s_check_set) l_check_set c_check_set k_check_set
  have g_check_set := PySem.W.mg_of X G a_check_set
  have F_check_ground := fun_mk (st := s_check_ground) l_check_ground c_check_ground k_check_ground
  have g_check_ground := PySem.W.mg_of X G a_check_ground
  have F_are_within := fun_mk (st := s_are_within) l_are_within c_are_within k_are_within
  have g_are_within := PySem.W.mg_of X G a_are_within
  have F_is_tie := fun_mk (st := s_is_tie) l_is_tie c_is_tie k_is_tie
  have g_is_tie := PySem.W.mg_of X G a_is_tie
  have F_are_posts := fun_mk (st := s_are_posts) l_are_posts c_are_posts k_are_posts
  have g_are_posts := PySem.W.mg_of X G a_are_posts
  have F_read := fun_mk (st := s_read) l_read c_read k_read
  have g_read := PySem.W.mg_of X G a_read
  have F_made_of := fun_mk (st := s_made_of) l_made_of c_made_of k_made_of
  have g_made_of := PySem.W.mg_of X G a_made_of
  have F_tie_of := fun_mk (st := s_tie_of) l_tie_of c_tie_of k_tie_of
  have g_tie_of := PySem.W.mg_of X G a_tie_of
  have F_posts_of := fun_mk (st := s_posts_of) l_posts_of c_posts_of k_posts_of
  have g_posts_of := PySem.W.mg_of X G a_posts_of
  have F_numbers_of := fun_mk (st := s_numbers_of) l_numbers_of c_numbers_of k_numbers_of
  have g_numbers_of := PySem.W.mg_of X G a_numbers_of
  have F_number_of := fun_mk (st := s_number_of) l_number_of c_number_of k_number_of
  have g_number_of := PySem.W.mg_of X G a_number_of
  have F__law_cell_at := fun_mk (st := s__law_cell_at) l__law_cell_at c__law_cell_at k__law_cell_at
  have g__law_cell_at := PySem.W.mg_of X G a__law_cell_at
  have F__law_draw := fun_mk (st := s__law_draw) l__law_draw c__law_draw k__law_draw
  have g__law_draw := PySem.W.mg_of X G a__law_draw
  have F__law_refused := fun_mk (st := s__law_refused) l__law_refused c__law_refused k__law_refused
  have g__law_refused := PySem.W.mg_of X G a__law_refused
  have F__law_words := fun_mk (st := s__law_words) l__law_words c__law_words k__law_words
  have g__law_words := PySem.W.mg_of X G a__law_words
  have F__law_bad_word := fun_mk (st := s__law_bad_word) l__law_bad_word c__law_bad_word k__law_bad_word
  have g__law_bad_word := PySem.W.mg_of X G a__law_bad_word
  have F__law_head := fun_mk (st := s__law_head) l__law_head c__law_head k__law_head
  have g__law_head := PySem.W.mg_of X G a__law_head
  have F_law := fun_mk (st := s_law) l_law c_law k_law
  have g_law := PySem.W.mg_of X G a_law
  have F_Threads___init__ := fun_mk (st := s_Threads___init__) l_Threads___init__ c_Threads___init__ k_Threads___init__
  have M_Threads___init__ : Meth K C_Threads "__init__" f_Threads___init__ := ⟨a_Threads___init__, i_Threads___init__, k_Threads___init__⟩
  have F_Kinds___init__ := fun_mk (st := s_Kinds___init__) l_Kinds___init__ c_Kinds___init__ k_Kinds___init__
  have M_Kinds___init__ : Meth K C_Kinds "__init__" f_Kinds___init__ := ⟨a_Kinds___init__, i_Kinds___init__, k_Kinds___init__⟩
  have F_Posts___init__ := fun_mk (st := s_Posts___init__) l_Posts___init__ c_Posts___init__ k_Posts___init__
  have M_Posts___init__ : Meth K C_Posts "__init__" f_Posts___init__ := ⟨a_Posts___init__, i_Posts___init__, k_Posts___init__⟩
  have F_Bits___init__ := fun_mk (st := s_Bits___init__) l_Bits___init__ c_Bits___init__ k_Bits___init__
  have M_Bits___init__ : Meth K C_Bits "__init__" f_Bits___init__ := ⟨a_Bits___init__, i_Bits___init__, k_Bits___init__⟩
  have gC_Threads := PySem.W.mg_of X G aC_Threads
  have o_Threads : Own mg "Threads" C_Threads := ⟨_, gC_Threads, rfl⟩
  have gC_Kinds := PySem.W.mg_of X G aC_Kinds
  have o_Kinds : Own mg "Kinds" C_Kinds := ⟨_, gC_Kinds, rfl⟩
  have gC_Posts := PySem.W.mg_of X G aC_Posts
  have o_Posts : Own mg "Posts" C_Posts := ⟨_, gC_Posts, rfl⟩
  have gC_Bits := PySem.W.mg_of X G aC_Bits
  have o_Bits : Own mg "Bits" C_Bits := ⟨_, gC_Bits, rfl⟩
  have gC_BadText := PySem.W.mg_of X G aC_BadText
  have o_BadText : Own mg "BadText" C_BadText := ⟨_, gC_BadText, rfl⟩
  have gC_BadRule := PySem.W.mg_of X G aC_BadRule
  have o_BadRule : Own mg "BadRule" C_BadRule := ⟨_, gC_BadRule, rfl⟩
  have gC_BadThing := PySem.W.mg_of X G aC_BadThing
  have o_BadThing : Own mg "BadThing" C_BadThing := ⟨_, gC_BadThing, rfl⟩
  have gC_BadWeights := PySem.W.mg_of X G aC_BadWeights
  have o_BadWeights : Own mg "BadWeights" C_BadWeights := ⟨_, gC_BadWeights, rfl⟩
  have gC_NotFree := PySem.W.mg_of X G aC_NotFree
  have o_NotFree : Own mg "NotFree" C_NotFree := ⟨_, gC_NotFree, rfl⟩
  have gC_NotWhole := PySem.W.mg_of X G aC_NotWhole
  have o_NotWhole : Own mg "NotWhole" C_NotWhole := ⟨_, gC_NotWhole, rfl⟩
  have gC_FreeError := PySem.W.mg_of X G aC_FreeError
  have o_FreeError : Own mg "FreeError" C_FreeError := ⟨_, gC_FreeError, rfl⟩
  have cl_Threads : Cls K C_Threads := ⟨pg_Threads, hd_Threads, po_Threads, sa_Threads⟩
  have cl_Kinds : Cls K C_Kinds := ⟨pg_Kinds, hd_Kinds, po_Kinds, sa_Kinds⟩
  have cl_Posts : Cls K C_Posts := ⟨pg_Posts, hd_Posts, po_Posts, sa_Posts⟩
  have cl_Bits : Cls K C_Bits := ⟨pg_Bits, hd_Bits, po_Bits, sa_Bits⟩
  have N_MOST_THINGS : Num mg "MOST_THINGS" 16 := ⟨_, PySem.W.mg_of X G v_MOST_THINGS, ⟨_, rfl⟩⟩
  have N_MOST_PLACES : Num mg "MOST_PLACES" 20 := ⟨_, PySem.W.mg_of X G v_MOST_PLACES, ⟨_, rfl⟩⟩
  have N_MOST_OF_A_KIND : Num mg "MOST_OF_A_KIND" 16 := ⟨_, PySem.W.mg_of X G v_MOST_OF_A_KIND, ⟨_, rfl⟩⟩
  have N_HIGHEST_POST : Num mg "HIGHEST_POST" 30 := ⟨_, PySem.W.mg_of X G v_HIGHEST_POST, ⟨_, rfl⟩⟩
  have N_HIGHEST_ROW : Num mg "HIGHEST_ROW" 4294967295 := ⟨_, PySem.W.mg_of X G v_HIGHEST_ROW, ⟨_, rfl⟩⟩
  have N_MOST_FIGURES : Num mg "MOST_FIGURES" 10 := ⟨_, PySem.W.mg_of X G v_MOST_FIGURES, ⟨_, rfl⟩⟩
  have N_FIGURES : Txt_ mg "FIGURES" "0123456789" := ⟨_, PySem.W.mg_of X G v_FIGURES, ⟨_, rfl⟩⟩
  have B_isinstance := PySem.W.mg_none_of X G z_isinstance
  have B_int := PySem.W.mg_none_of X G z_int
  have B_bool := PySem.W.mg_none_of X G z_bool
  have B_list := PySem.W.mg_none_of X G z_list
  have B_tuple := PySem.W.mg_none_of X G z_tuple
  have B_len := PySem.W.mg_none_of X G z_len
  have B_all := PySem.W.mg_none_of X G z_all
  have B_range := PySem.W.mg_none_of X G z_range
  have B_min := PySem.W.mg_none_of X G z_min
  have B_sorted := PySem.W.mg_none_of X G z_sorted
  have B_set := PySem.W.mg_none_of X G z_set
  have B_str := PySem.W.mg_none_of X G z_str
  have B_ValueError := PySem.W.mg_none_of X G z_ValueError
  refine ⟨PySem.W.fnOf "law" "law" (defArgs s_law) (defBody s_law) (defScope s_law) .none kV_law dc_law pm_law an_law cd_law ct_law, fun s v => .of_eq rfl, fun base _ _ => ?_⟩
  have B : Bl mg := ⟨B_isinstance, B_int, B_bool, B_list, B_tuple, B_len, B_all, B_range, B_min, B_sorted, B_set⟩
  have xT : RzX.Exc K mg "BadText" C_BadText := ⟨eT, gC_BadText, kT, bT, tT⟩
  have xR : RzX.Exc K mg "BadRule" C_BadRule := ⟨eR, gC_BadRule, kR, bR, tR⟩
  have xm1 : PySem.W.exmOne K (.ref C_BadRule) (.ref C_BadRule) = some true := PySem.W.exm_ref bR hR tR sRR
  have xm2 : PySem.W.exmOne K (.ref C_BadText) (.ref C_BadRule) = some false := PySem.W.exm_ref bR hR tR sTR
  let c : Cx16 := ⟨C_Threads, C_Kinds, C_Posts, C_Bits, C_BadText, C_BadRule⟩
  have R : Kr K c C_FreeError C_BadThing C_BadWeights C_NotFree C_NotWhole := ⟨⟨g1, g2, bT, hT, g3, g4, g5, g6⟩, kit_not2 sTT iR tR sTR, kit_not2 sTT iB tB sTB, kit_not2 sTT iW tW sTW, kit_not2 sTT iN tN sTN, kit_not2 sTT iH tH sTH, kit_self, kit_type (by decide +kernel) vT, PySem.W.exm_ref bF hF_ tF sTF⟩
  have G : Gr mg c C_BadThing C_BadWeights C_NotFree C_NotWhole := ⟨o_BadRule, o_BadText, o_BadThing, o_BadWeights, o_NotFree, o_NotWhole⟩
  have r1 := ok_num (P := l.prog) (w := w) (base := base) B F_is_number g_is_number
  have r2 := ok_within F_is_within g_is_within r1
  have r5 := ok_groundX (P := l.prog) (w := w) (base := base) B ⟨N_MOST_THINGS⟩ xR F_check_ground g_check_ground
  have r6 := ok_are B F_are_within g_are_within r2
  have r7 := ok_postsX B ⟨N_HIGHEST_POST⟩ F_are_posts g_are_posts r6
  have r9 := ok_tieX B F_is_tie g_is_tie r2
  have t1 := ok_initT B ⟨cl_Threads, n_Threads_places, n_Threads_ties, N_MOST_PLACES⟩ xR F_Threads___init__ ⟨mk_Threads, a_Threads___init__, i_Threads___init__, kc_Threads⟩ gC_Threads r2 r5 r9
  have k1 := ok_initK B ⟨cl_Kinds, n_Kinds_kinds, n_Kinds_most, N_MOST_OF_A_KIND⟩ xR F_Kinds___init__ ⟨mk_Kinds, a_Kinds___init__, i_Kinds___init__, kc_Kinds⟩ gC_Kinds r5 r6
  have q1 := ok_initP B ⟨cl_Posts, n_Posts_wants⟩ xR F_Posts___init__ ⟨mk_Posts, a_Posts___init__, i_Posts___init__, kc_Posts⟩ gC_Posts r5 r7
  have b1 := ok_initB B ⟨cl_Bits, n_Bits_rows, N_HIGHEST_ROW⟩ xR F_Bits___init__ ⟨mk_Bits, a_Bits___init__, i_Bits___init__, kc_Bits⟩ gC_Bits r5 r6
  have n1 := ok_number (P := l.prog) (w := w) (base := base) B ⟨N_MOST_FIGURES, N_FIGURES⟩ xT F_number_of g_number_of
  have n2 := ok_numbers F_numbers_of g_numbers_of n1
  have n3 := ok_tieOf B F_tie_of g_tie_of n2
  have n4 := ok_postsOf F_posts_of g_posts_of n2
  have n5 := ok_madeOf (c := c) B xT F_made_of g_made_of n1 n2 n3 n4 t1 k1 q1 b1
  have n6 := ok_read (c := c) B B_str xT xR xm1 xm2 F_read g_read n5
  have l1 := ok_cellAt (P := l.prog) (w := w) (base := base) B F__law_cell_at g__law_cell_at
  have l2 := ok_draw (P := l.prog) (w := w) (base := base) F__law_draw g__law_draw
  have l3 := ok_words B B_str F__law_words g__law_words l2
  have l4 := ok_refused (c := c) B B_ValueError G R gC_FreeError F__law_refused g__law_refused n6
  have l5 := ok_head (P := l.prog) (w := w) (base := base) F__law_head g__law_head
  have l6 := ok_bad (P := l.prog) (w := w) (base := base) F__law_bad_word g__law_bad_word
  exact ok_law (c := c) B F_law l1 l2 l3 (calmR n6) l6 l5 l4
theorem walk {l : PySem.W.OpenLaw} {q : Program} {loose : List Str} {XP : (Str → Option Value) → Heap → Prop} {YP : World → Heap → Prop} {d : DefRec} {K : Params → PySem.W.Frag} (hn : l.most = some 63) (hdf : d.params.defaults = [])
    (hY : ∀ (w : World) (h : Heap), YP w h → (K w.params).In h)
    (F : ∀ (w : World) (mg : Str → Option Value) (fa : Addr) (h : Heap), (K w.params).In h → h.Ns mainGlobals mg → mg d.name = some (.ref fa) →
      ∃ fd : FuncData, (∀ (s : Shared) (u : Value), BindsTo s fd ⟨[u], []⟩ [("_law_script", u)]) ∧ ∀ base : Heap, (K w.params).In base → base.Ns mainGlobals mg → FnOk l.prog w (K w.params) mg base CX0 10 fa fd ["_law_script"] (spLaw (K w.params))) :
    PySem.W.WalkO q loose XP YP l.row.toRowW d [] (fun f vs => PySem.call f vs) :=
  L2.walk_of (n := 63) (k := 10) (x := "_law_script") (CX := fun _ => CX0) (sp := fun w => spLaw (K w.params)) hn (by decide) hdf ⟨rfl, by decide, by decide⟩ hY F (fun _ _ a ns hl _ hS => ⟨a, ns, rfl, hS, hl, fun _ => rfl⟩) fun _ _ _ _ _ z => z
end Fs
open PySem PySem.W PyProof.Rows in
set_option maxRecDepth 100000 in
set_option maxHeartbeats 0 in
theorem PySem.Challenge.cw_freesets_k16_bad_texts_holds : PySem.Challenge.rw_freesets_k16_bad_texts.Holds := by
  w_on; o_law; k_head; (case hw => w_witness2)
  k_fill
  refine Fs.walk (l := PySem.Challenge.rw_freesets_k16_bad_texts) rfl rfl (fun w h Y => PySem.W.kIn_of Y) ?F
  case F =>
    intro w mg fa h KX G hmg
    refine' Fs.all_mk KX G hmg ?aC_Threads ?aC_Kinds ?aC_Posts ?aC_Bits ?aC_BadText ?aC_BadRule ?aC_BadThing ?aC_BadWeights ?aC_NotFree ?aC_NotWhole ?aC_FreeError ?a_is_number ?l_is_number ?c_is_number ?k_is_number ?a_is_within ?l_is_within ?c_is_within ?k_is_within ?a_check_thing ?l_check_thing ?c_check_thing ?k_check_thing ?a_check_set ?l_check_set ?c_check_set ?k_check_set ?a_check_ground ?l_check_ground ?c_check_ground ?k_check_ground ?a_are_within ?l_are_within ?c_are_within ?k_are_within ?a_is_tie ?l_is_tie ?c_is_tie ?k_is_tie ?a_are_posts ?l_are_posts ?c_are_posts ?k_are_posts ?a_read ?l_read ?c_read ?k_read ?a_made_of ?l_made_of ?c_made_of ?k_made_of ?a_tie_of ?l_tie_of ?c_tie_of ?k_tie_of ?a_posts_of ?l_posts_of ?c_posts_of ?k_posts_of ?a_numbers_of ?l_numbers_of ?c_numbers_of ?k_numbers_of ?a_number_of ?l_number_of ?c_number_of ?k_number_of ?a__law_cell_at ?l__law_cell_at ?c__law_cell_at ?k__law_cell_at ?a__law_draw ?l__law_draw ?c__law_draw ?k__law_draw ?a__law_refused ?l__law_refused ?c__law_refused ?k__law_refused ?a__law_words ?l__law_words ?c__law_words ?k__law_words ?a__law_bad_word ?l__law_bad_word ?c__law_bad_word ?k__law_bad_word ?a__law_head ?l__law_head ?c__law_head ?k__law_head ?a_law ?l_law ?c_law ?k_law ?a_Threads___init__ ?i_Threads___init__ ?l_Threads___init__ ?c_Threads___init__ ?k_Threads___init__ ?a_Kinds___init__ ?i_Kinds___init__ ?l_Kinds___init__ ?c_Kinds___init__ ?k_Kinds___init__ ?a_Posts___init__ ?i_Posts___init__ ?l_Posts___init__ ?c_Posts___init__ ?k_Posts___init__ ?a_Bits___init__ ?i_Bits___init__ ?l_Bits___init__ ?c_Bits___init__ ?k_Bits___init__ ?pg_Threads ?hd_Threads ?po_Threads ?sa_Threads ?mk_Threads ?kc_Threads ?pg_Kinds ?hd_Kinds ?po_Kinds ?sa_Kinds ?mk_Kinds ?kc_Kinds ?pg_Posts ?hd_Posts ?po_Posts ?sa_Posts ?mk_Posts ?kc_Posts ?pg_Bits ?hd_Bits ?po_Bits ?sa_Bits ?mk_Bits ?kc_Bits ?n_Threads_places ?n_Threads_ties ?n_Kinds_kinds ?n_Kinds_most ?n_Posts_wants ?n_Bits_rows ?v_FIGURES ?v_MOST_THINGS ?v_MOST_PLACES ?v_MOST_OF_A_KIND ?v_HIGHEST_POST ?v_HIGHEST_ROW ?v_MOST_FIGURES ?z_isinstance ?z_int ?z_bool ?z_list ?z_tuple ?z_len ?z_all ?z_range ?z_min ?z_sorted ?z_set ?z_str ?z_ValueError ?eT ?eR ?kT ?kR ?bT ?bR ?bF ?vT ?tT ?tR ?tB ?tW ?tN ?tH ?tF ?iR ?iB ?iW ?iN ?iH ?hT ?hR ?hF_ ?sTT ?sRR ?sTR ?sTB ?sTW ?sTN ?sTH ?sTF ?g1 ?g2 ?g3 ?g4 ?g5 ?g6
    (case aC_Threads => k_is)
    (case aC_Kinds => k_is)
    (case aC_Posts => k_is)
    (case aC_Bits => k_is)
    (case aC_BadText => k_is)
    (case aC_BadRule => k_is)
    (case aC_BadThing => k_is)
    (case aC_BadWeights => k_is)
    (case aC_NotFree => k_is)
    (case aC_NotWhole => k_is)
    (case aC_FreeError => k_is)
    (case a_is_number => k_is)
    (case l_is_number => k_is)
    (case c_is_number => k_is)
    (case k_is_number => k_is)
    (case a_is_within => k_is)
    (case l_is_within => k_is)
    (case c_is_within => k_is)
    (case k_is_within => k_is)
    (case a_check_thing => k_is)
    (case l_check_thing => k_is)
    (case c_check_thing => k_is)
    (case k_check_thing => k_is)
    (case a_check_set => k_is)
    (case l_check_set => k_is)
    (case c_check_set => k_is)
    (case k_check_set => k_is)
    (case a_check_ground => k_is)
    (case l_check_ground => k_is)
    (case c_check_ground => k_is)
    (case k_check_ground => k_is)
    (case a_are_within => k_is)
    (case l_are_within => k_is)
    (case c_are_within => k_is)
    (case k_are_within => k_is)
    (case a_is_tie => k_is)
    (case l_is_tie => k_is)
    (case c_is_tie => k_is)
    (case k_is_tie => k_is)
    (case a_are_posts => k_is)
    (case l_are_posts => k_is)
    (case c_are_posts => k_is)
    (case k_are_posts => k_is)
    (case a_read => k_is)
    (case l_read => k_is)
    (case c_read => k_is)
    (case k_read => k_is)
    (case a_made_of => k_is)
    (case l_made_of => k_is)
    (case c_made_of => k_is)
    (case k_made_of => k_is)
    (case a_tie_of => k_is)
    (case l_tie_of => k_is)
    (case c_tie_of => k_is)
    (case k_tie_of => k_is)
    (case a_posts_of => k_is)
    (case l_posts_of => k_is)
    (case c_posts_of => k_is)
    (case k_posts_of => k_is)
    (case a_numbers_of => k_is)
    (case l_numbers_of => k_is)
    (case c_numbers_of => k_is)
    (case k_numbers_of => k_is)
    (case a_number_of => k_is)
    (case l_number_of => k_is)
    (case c_number_of => k_is)
    (case k_number_of => k_is)
    (case a__law_cell_at => k_is)
    (case l__law_cell_at => k_is)
    (case c__law_cell_at => k_is)
    (case k__law_cell_at => k_is)
    (case a__law_draw => k_is)
    (case l__law_draw => k_is)
    (case c__law_draw => k_is)
    (case k__law_draw => k_is)
    (case a__law_refused => k_is)
    (case l__law_refused => k_is)
    (case c__law_refused => k_is)
    (case k__law_refused => k_is)
    (case a__law_words => k_is)
    (case l__law_words => k_is)
    (case c__law_words => k_is)
    (case k__law_words => k_is)
    (case a__law_bad_word => k_is)
    (case l__law_bad_word => k_is)
    (case c__law_bad_word => k_is)
    (case k__law_bad_word => k_is)
    (case a__law_head => k_is)
    (case l__law_head => k_is)
    (case c__law_head => k_is)
    (case k__law_head => k_is)
    (case a_law => k_is)
    (case l_law => k_is)
    (case c_law => k_is)
    (case k_law => k_is)
    (case a_Threads___init__ => k_is)
    (case i_Threads___init__ => k_is)
    (case l_Threads___init__ => k_is)
    (case c_Threads___init__ => k_is)
    (case k_Threads___init__ => k_is)
    (case a_Kinds___init__ => k_is)
    (case i_Kinds___init__ => k_is)
    (case l_Kinds___init__ => k_is)
    (case c_Kinds___init__ => k_is)
    (case k_Kinds___init__ => k_is)
    (case a_Posts___init__ => k_is)
    (case i_Posts___init__ => k_is)
    (case l_Posts___init__ => k_is)
    (case c_Posts___init__ => k_is)
    (case k_Posts___init__ => k_is)
    (case a_Bits___init__ => k_is)
    (case i_Bits___init__ => k_is)
    (case l_Bits___init__ => k_is)
    (case c_Bits___init__ => k_is)
    (case k_Bits___init__ => k_is)
    (case pg_Threads => k_is)
    (case hd_Threads => k_is)
    (case po_Threads => k_is)
    (case sa_Threads => k_is)
    (case mk_Threads => k_is)
    (case kc_Threads => k_is)
    (case pg_Kinds => k_is)
    (case hd_Kinds => k_is)
    (case po_Kinds => k_is)
    (case sa_Kinds => k_is)
    (case mk_Kinds => k_is)
    (case kc_Kinds => k_is)
    (case pg_Posts => k_is)
    (case hd_Posts => k_is)
    (case po_Posts => k_is)
    (case sa_Posts => k_is)
    (case mk_Posts => k_is)
    (case kc_Posts => k_is)
    (case pg_Bits => k_is)
    (case hd_Bits => k_is)
    (case po_Bits => k_is)
    (case sa_Bits => k_is)
    (case mk_Bits => k_is)
    (case kc_Bits => k_is)
    (case n_Threads_places => k_is)
    (case n_Threads_ties => k_is)
    (case n_Kinds_kinds => k_is)
    (case n_Kinds_most => k_is)
    (case n_Posts_wants => k_is)
    (case n_Bits_rows => k_is)
    (case v_FIGURES => k_is)
    (case v_MOST_THINGS => k_is)
    (case v_MOST_PLACES => k_is)
    (case v_MOST_OF_A_KIND => k_is)
    (case v_HIGHEST_POST => k_is)
    (case v_HIGHEST_ROW => k_is)
    (case v_MOST_FIGURES => k_is)
    (case z_isinstance => k_is)
    (case z_int => k_is)
    (case z_bool => k_is)
    (case z_list => k_is)
    (case z_tuple => k_is)
    (case z_len => k_is)
    (case z_all => k_is)
    (case z_range => k_is)
    (case z_min => k_is)
    (case z_sorted => k_is)
    (case z_set => k_is)
    (case z_str => k_is)
    (case z_ValueError => k_is)
    (case eT => k_exc)
    (case eR => k_exc)
    (case kT => k_is)
    (case kR => k_is)
    (case bT => k_is)
    (case bR => k_is)
    (case bF => k_is)
    (case vT => k_is)
    (case tT => k_is)
    (case tR => k_is)
    (case tB => k_is)
    (case tW => k_is)
    (case tN => k_is)
    (case tH => k_is)
    (case tF => k_is)
    (case iR => k_is)
    (case iB => k_is)
    (case iW => k_is)
    (case iN => k_is)
    (case iH => k_is)
    (case hT => k_is)
    (case hR => k_is)
    (case hF_ => k_is)
    (case sTT => first | rfl | k_is)
    (case sRR => first | rfl | k_is)
    (case sTR => k_is)
    (case sTB => k_is)
    (case sTW => k_is)
    (case sTN => k_is)
    (case sTH => k_is)
    (case sTF => k_is)
    (case g1 => k_is)
    (case g2 => k_is)
    (case g3 => k_is)
    (case g4 => k_is)
    (case g5 => k_is)
    (case g6 => k_is)
