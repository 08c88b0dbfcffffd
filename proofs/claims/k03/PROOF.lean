import PyProof.Rows.All
import Wide.All
import OpenK.AllK
import Wide.FinOn
import PyProof.EqAt
import PyProof.EqKinds
import PyProof.TupleCall
import HandS.ForMost
import HandS.Codes
import HandS.IsInst
import HandS.Conv
import HandS.Style
import HandS.SetFor
import KE.KEqSeq
import HandS.Deep
import HandS.Zip
import PySem.Challenge.RW_freesets_k03_posts
set_option Elab.async false
set_option linter.all false
set_option maxRecDepth 100000
set_option maxHeartbeats 2000000
namespace PM
/-- each of xs can be given something that it wants, no two the same -/
def Free (W : Nat → List Nat) (xs : List Nat) : Prop := ∃ g : Nat → Nat, (∀ x ∈ xs, g x ∈ W x) ∧ ∀ x ∈ xs, ∀ y ∈ xs, g x = g y → x = y
/-! ### one newcomer -/
structure Pre (h : Nat → Option Nat) (T : List Nat) (z : Nat) : Prop where
  own : ∀ p, h p = some z → p ∈ T
  inj : ∀ p q y, h p = some y → h q = some y → p = q
structure Yes (W : Nat → List Nat) (h : Nat → Option Nat) (T : List Nat) (z : Nat) (h' : Nat → Option Nat) (T' : List Nat) : Prop where
  sub : ∀ p ∈ T, p ∈ T'
  keep : ∀ p, p ∈ T ∨ p ∉ T' → h' p = h p
  val : ∀ p y, h' p = some y → p ∈ W y
  got : ∃ q, q ∈ T' ∧ q ∉ T ∧ h' q = some z ∧ ∀ q', q' ∉ T → h' q' = some z → q' = q
  oth : ∀ y, y ≠ z → ((∃ p, h p = some y) ↔ (∃ p, h' p = some y))
  inj : ∀ y, y ≠ z → ∀ p q, h' p = some y → h' q = some y → p = q
structure No (W : Nat → List Nat) (h : Nat → Option Nat) (T : List Nat) (z : Nat) (T' : List Nat) : Prop where
  sub : ∀ p ∈ T, p ∈ T'
  all : ∀ p ∈ W z, p ∈ T'
  cl : ∀ p ∈ T', p ∉ T → ∃ y, h p = some y ∧ ∀ r ∈ W y, r ∈ T'
/-- between two turns of the walk over what z wants -/
structure Mid (W : Nat → List Nat) (h : Nat → Option Nat) (T : List Nat) (ps : List Nat) (T' : List Nat) : Prop where
  sub : ∀ p ∈ T, p ∈ T'
  all : ∀ p ∈ ps, p ∈ T'
  cl : ∀ p ∈ T', p ∉ T → ∃ y, h p = some y ∧ ∀ r ∈ W y, r ∈ T'
def put (h : Nat → Option Nat) (p z : Nat) : Nat → Option Nat := fun q => if q = p then some z else h q
theorem put_at {h : Nat → Option Nat} {p z : Nat} : put h p z p = some z := if_pos rfl
theorem put_ne {h : Nat → Option Nat} {p z q : Nat} (n : q ≠ p) : put h p z q = h q := if_neg n
variable {W : Nat → List Nat} {h : Nat → Option Nat} {T T1 T2 : List Nat} {z p : Nat}
theorem Mid.start : Mid W h T [] T := ⟨fun _ h => h, fun _ h => (by cases h), fun _ h n => absurd h n⟩
theorem Mid.skip {ps : List Nat} (m : Mid W h T ps T1) (hp : p ∈ T1) : Mid W h T (ps ++ [p]) T1 :=
  ⟨m.sub, fun q hq => by
    rcases List.mem_append.mp hq with e | e
    · exact m.all q e
    · rw [List.mem_singleton.mp e]; exact hp, m.cl⟩
theorem Mid.no {ps : List Nat} {y : Nat} (m : Mid W h T ps T1) (hy : h p = some y) (n : No W h (T1 ++ [p]) y T2) : Mid W h T (ps ++ [p]) T2 := by
  have s : ∀ q ∈ T1, q ∈ T2 := fun q hq => n.sub q (List.mem_append_left _ hq)
  have pp : p ∈ T2 := n.sub p (List.mem_append_right _ (List.mem_singleton.mpr rfl))
  refine ⟨fun q hq => s q (m.sub q hq), fun q hq => ?_, fun q hq nq => ?_⟩
  · rcases List.mem_append.mp hq with e | e
    · exact s q (m.all q e)
    · rw [List.mem_singleton.mp e]; exact pp
  · by_cases c : q ∈ T1
    · obtain ⟨y', h1, h2⟩ := m.cl q c nq
      exact ⟨y', h1, fun r hr => s r (h2 r hr)⟩
    by_cases c2 : q = p
    · subst c2
      exact ⟨y, hy, n.all⟩
    · exact n.cl q hq fun k => by
        rcases List.mem_append.mp k with e | e
        · exact c e
        · exact c2 (List.mem_singleton.mp e)
theorem Mid.stop (m : Mid W h T (W z) T1) : No W h T z T1 := ⟨m.sub, m.all, m.cl⟩
theorem yes_free {ps : List Nat} (pre : Pre h T z) (val : ∀ p y, h p = some y → p ∈ W y) (m : Mid W h T ps T1) (hp : p ∉ T1) (hw : p ∈ W z) (hn : h p = none) : Yes W h T z (put h p z) (T1 ++ [p]) := by
  have pT : p ∉ T := fun k => hp (m.sub p k)
  have pin : p ∈ T1 ++ [p] := List.mem_append_right _ (List.mem_singleton.mpr rfl)
  refine ⟨fun q hq => List.mem_append_left _ (m.sub q hq), fun q hq => ?_, fun q y hy => ?_, ⟨p, pin, pT, put_at, fun q nq hq => ?_⟩, fun y ny => ?_, fun y ny q q' h1 h2 => ?_⟩
  · refine put_ne fun e => ?_
    subst e
    rcases hq with k | k
    · exact pT k
    · exact k pin
  · by_cases e : q = p
    · subst e
      rw [put_at] at hy
      cases hy
      exact hw
    · rw [put_ne e] at hy
      exact val q y hy
  · by_cases e : q = p
    · exact e
    · rw [put_ne e] at hq
      exact absurd (pre.own q hq) nq
  · constructor
    · rintro ⟨q, hq⟩
      refine ⟨q, ?_⟩
      rw [put_ne fun e => by rw [e, hn] at hq; cases hq]
      exact hq
    · rintro ⟨q, hq⟩
      by_cases e : q = p
      · rw [e, put_at] at hq
        exact absurd (Option.some.inj hq).symm ny
      · rw [put_ne e] at hq
        exact ⟨q, hq⟩
  · have n1 : q ≠ p := fun e => by
      rw [e, put_at] at h1
      exact ny (Option.some.inj h1).symm
    have n2 : q' ≠ p := fun e => by
      rw [e, put_at] at h2
      exact ny (Option.some.inj h2).symm
    rw [put_ne n1] at h1
    rw [put_ne n2] at h2
    exact pre.inj q q' y h1 h2
theorem pre_next {ps : List Nat} {y : Nat} (pre : Pre h T z) (hy : h p = some y) : Pre h (T1 ++ [p]) y :=
  ⟨fun q hq => by
    rw [pre.inj q p y hq hy]
    exact List.mem_append_right _ (List.mem_singleton.mpr rfl), pre.inj⟩
theorem yes_back {ps : List Nat} {y : Nat} {h1 : Nat → Option Nat} (pre : Pre h T z) (m : Mid W h T ps T1) (hp : p ∉ T1) (hw : p ∈ W z) (hy : h p = some y) (Y : Yes W h (T1 ++ [p]) y h1 T2) : Yes W h T z (put h1 p z) T2 := by
  have pT : p ∉ T := fun k => hp (m.sub p k)
  have pin1 : p ∈ T1 ++ [p] := List.mem_append_right _ (List.mem_singleton.mpr rfl)
  have pin : p ∈ T2 := Y.sub p pin1
  have yz : y ≠ z := fun e => by
    subst e
    exact pT (pre.own p hy)
  have h1p : h1 p = some y := (Y.keep p (.inl pin1)).trans hy
  have TT : ∀ q ∈ T, q ∈ T1 ++ [p] := fun q hq => List.mem_append_left _ (m.sub q hq)
  refine ⟨fun q hq => Y.sub q (TT q hq), fun q hq => ?_, fun q x hx => ?_, ⟨p, pin, pT, put_at, fun q nq hq => ?_⟩, fun x nx => ?_, fun x nx q q' e1 e2 => ?_⟩
  · have nq : q ≠ p := fun e => by
      subst e
      rcases hq with k | k
      · exact pT k
      · exact k pin
    rw [put_ne nq]
    rcases hq with k | k
    · exact Y.keep q (.inl (TT q k))
    · exact Y.keep q (.inr k)
  · by_cases e : q = p
    · subst e
      rw [put_at] at hx
      cases hx
      exact hw
    · rw [put_ne e] at hx
      exact Y.val q x hx
  · by_cases e : q = p
    · exact e
    · rw [put_ne e] at hq
      obtain ⟨p0, hp0⟩ := (Y.oth z yz.symm).mpr ⟨q, hq⟩
      have p0T := pre.own p0 hp0
      have h1p0 : h1 p0 = some z := (Y.keep p0 (.inl (TT p0 p0T))).trans hp0
      have := Y.inj z yz.symm q p0 hq h1p0
      exact absurd (this ▸ p0T) nq
  · by_cases exy : x = y
    · subst exy
      refine ⟨fun _ => ?_, fun _ => ⟨p, hy⟩⟩
      obtain ⟨q, q1, q2, q3, _⟩ := Y.got
      refine ⟨q, ?_⟩
      have nqp : q ≠ p := fun e => q2 (by rw [e]; exact pin1)
      rw [put_ne nqp]
      exact q3
    · rw [Y.oth x exy]
      constructor
      · rintro ⟨q, hq⟩
        refine ⟨q, ?_⟩
        rw [put_ne fun e => ?_]
        · exact hq
        · rw [e, h1p] at hq
          exact exy (Option.some.inj hq).symm
      · rintro ⟨q, hq⟩
        by_cases e : q = p
        · rw [e, put_at] at hq
          exact absurd (Option.some.inj hq).symm nx
        · rw [put_ne e] at hq
          exact ⟨q, hq⟩
  · have n1 : q ≠ p := fun e => by
      rw [e, put_at] at e1
      exact nx (Option.some.inj e1).symm
    have n2 : q' ≠ p := fun e => by
      rw [e, put_at] at e2
      exact nx (Option.some.inj e2).symm
    rw [put_ne n1] at e1
    rw [put_ne n2] at e2
    by_cases exy : x = y
    · subst exy
      obtain ⟨q0, _, _, _, un⟩ := Y.got
      have out : ∀ r, r ≠ p → h1 r = some x → r ∉ T1 ++ [p] := fun r nr hr k => by
        have := (Y.keep r (.inl k)).symm.trans hr
        exact nr (pre.inj r p x this hy)
      rw [un q (out q n1 e1) e1, un q' (out q' n2 e2) e2]
    · exact Y.inj x exy q q' e1 e2
/-! ### all of a list -/
structure Mat (W : Nat → List Nat) (h : Nat → Option Nat) (xs : List Nat) : Prop where
  val : ∀ p y, h p = some y → p ∈ W y
  ins : ∀ p y, h p = some y → y ∈ xs
  has : ∀ y ∈ xs, ∃ p, h p = some y
  inj : ∀ p q y, h p = some y → h q = some y → p = q
theorem Mat.start : Mat W (fun _ => none) [] := ⟨fun _ _ h => (by cases h), fun _ _ h => (by cases h), fun _ h => (by cases h), fun _ _ _ h => (by cases h)⟩
theorem Mat.pre {xs : List Nat} (M : Mat W h xs) (hz : z ∉ xs) : Pre h [] z := ⟨fun p hp => absurd (M.ins p z hp) hz, M.inj⟩
theorem Mat.more {xs : List Nat} {h' : Nat → Option Nat} (M : Mat W h xs) (hz : z ∉ xs) (Y : Yes W h [] z h' T) : Mat W h' (xs ++ [z]) := by
  obtain ⟨q, _, _, hq, un⟩ := Y.got
  refine ⟨Y.val, fun p y hy => ?_, fun y hy => ?_, fun p p' y h1 h2 => ?_⟩
  · by_cases e : y = z
    · rw [e]
      exact List.mem_append_right _ (List.mem_singleton.mpr rfl)
    · obtain ⟨p0, hp0⟩ := (Y.oth y e).mpr ⟨p, hy⟩
      exact List.mem_append_left _ (M.ins p0 y hp0)
  · rcases List.mem_append.mp hy with e | e
    · exact (Y.oth y fun c => hz (c ▸ e)).mp (M.has y e)
    · rw [List.mem_singleton.mp e]
      exact ⟨q, hq⟩
  · by_cases e : y = z
    · subst e
      rw [un p (fun k => (by cases k)) h1, un p' (fun k => (by cases k)) h2]
    · exact Y.inj y e p p' h1 h2
theorem Mat.free {xs : List Nat} (M : Mat W h xs) : Free W xs := by
  classical
  refine ⟨fun x => if k : ∃ p, h p = some x then k.choose else 0, fun x hx => ?_, fun x hx y hy e => ?_⟩
  · have k := M.has x hx
    show (if k : ∃ p, h p = some x then k.choose else 0) ∈ W x
    rw [dif_pos k]
    exact M.val _ _ k.choose_spec
  · have k := M.has x hx
    have k' := M.has y hy
    simp only [dif_pos k, dif_pos k'] at e
    have a := k.choose_spec
    have b := k'.choose_spec
    rw [e, b] at a
    exact (Option.some.inj a).symm
theorem nodup_le : ∀ (l T : List Nat), l.Nodup → (∀ x ∈ l, x ∈ T) → l.length ≤ T.length
  | [], _, _, _ => Nat.zero_le _
  | x :: l, T, nd, s => by
    have nd' := List.nodup_cons.mp nd
    have hx := s x (List.mem_cons_self ..)
    have ih := nodup_le l (T.erase x) nd'.2 fun y hy => by
      have ne : y ≠ x := fun e => nd'.1 (e ▸ hy)
      exact (List.mem_erase_of_ne ne).mpr (s y (List.mem_cons_of_mem _ hy))
    rw [List.length_erase_of_mem hx] at ih
    have : 0 < T.length := List.length_pos_of_mem hx
    show l.length + 1 ≤ T.length
    omega
theorem nodup_map {α β : Type} (g : α → β) : ∀ (l : List α), l.Nodup → (∀ x ∈ l, ∀ y ∈ l, g x = g y → x = y) → (l.map g).Nodup
  | [], _, _ => List.nodup_nil
  | x :: l, nd, inj => by
    have nd' := List.nodup_cons.mp nd
    rw [List.map_cons, List.nodup_cons]
    refine ⟨fun hm => ?_, nodup_map g l nd'.2 fun a ha b hb => inj a (List.mem_cons_of_mem _ ha) b (List.mem_cons_of_mem _ hb)⟩
    obtain ⟨y, hy, e⟩ := List.mem_map.mp hm
    have := inj y (List.mem_cons_of_mem _ hy) x (List.mem_cons_self ..) e
    exact nd'.1 (this ▸ hy)
theorem not_free {xs L : List Nat} (M : Mat W h xs) (hz : z ∉ xs) (n : No W h [] z T) (nd : T.Nodup) (hL : ∀ x ∈ xs, x ∈ L) (zL : z ∈ L) : ¬ Free W L := by
  rintro ⟨g, gw, gi⟩
  have hol : ∀ p ∈ T, ∃ y, h p = some y ∧ ∀ r ∈ W y, r ∈ T := fun p hp => n.cl p hp (fun k => by cases k)
  let y := fun p => (h p).getD 0
  have hy : ∀ p ∈ T, h p = some (y p) := fun p hp => by
    obtain ⟨u, hu, _⟩ := hol p hp
    show h p = some ((h p).getD 0)
    rw [hu]
    rfl
  have yin : ∀ p ∈ T, y p ∈ xs := fun p hp => M.ins p _ (hy p hp)
  have ndX : (z :: T.map y).Nodup := by
    rw [List.nodup_cons]
    refine ⟨fun hm => ?_, nodup_map y T nd fun p hp q hq e => ?_⟩
    · obtain ⟨p, hp, e⟩ := List.mem_map.mp hm
      exact hz (e ▸ yin p hp)
    · have a := hy p hp
      rw [e] at a
      exact M.inj p q _ a (hy q hq)
  have inL : ∀ x ∈ z :: T.map y, x ∈ L := fun x hx => by
    rcases List.mem_cons.mp hx with e | e
    · rw [e]; exact zL
    · obtain ⟨p, hp, e2⟩ := List.mem_map.mp e
      rw [← e2]
      exact hL _ (yin p hp)
  have ndG : ((z :: T.map y).map g).Nodup := nodup_map g _ ndX fun a ha b hb => gi a (inL a ha) b (inL b hb)
  have := nodup_le _ T ndG fun q hq => by
    obtain ⟨x, hx, rfl⟩ := List.mem_map.mp hq
    have gx := gw x (inL x hx)
    rcases List.mem_cons.mp hx with e | e
    · rw [e] at gx ⊢
      exact n.all _ gx
    · obtain ⟨p, hp, e2⟩ := List.mem_map.mp e
      obtain ⟨u, hu, cu⟩ := hol p hp
      have : y p = u := Option.some.inj ((hy p hp).symm.trans hu)
      rw [← e2, this] at gx ⊢
      exact cu _ gx
  rw [List.length_map, List.length_cons, List.length_map] at this
  omega
/-! ### the law's ways -/
def Reps : List (List Nat) → List Nat → Prop
  | [], [] => True
  | w :: ws, p :: r => p ∈ w ∧ Reps ws r
  | _, _ => False
def Rep (ws : List (List Nat)) : Prop := ∃ r, Reps ws r ∧ r.Nodup
theorem Reps.put {w : List Nat} {p : Nat} (hp : p ∈ w) : ∀ {ws : List (List Nat)} {r : List Nat}, Reps ws r → Reps (ws ++ [w]) (r ++ [p])
  | [], [], _ => ⟨hp, True.intro⟩
  | _ :: _, _ :: _, h => ⟨h.1, h.2.put hp⟩
  | [], _ :: _, h => False.elim h
  | _ :: _, [], h => False.elim h
theorem Reps.last {w : List Nat} : ∀ {ws : List (List Nat)} {r : List Nat}, Reps (ws ++ [w]) r → ∃ r' p, r = r' ++ [p] ∧ Reps ws r' ∧ p ∈ w
  | [], [p], h => ⟨[], p, rfl, True.intro, h.1⟩
  | [], _ :: _ :: _, h => False.elim h.2
  | [], [], h => False.elim h
  | _ :: ws, [], h => False.elim h
  | _ :: ws, q :: r, h => by
    obtain ⟨r', p, e, h1, h2⟩ := Reps.last (ws := ws) (r := r) h.2
    exact ⟨q :: r', p, by rw [e]; rfl, ⟨h.1, h1⟩, h2⟩
theorem Reps.len : ∀ {ws : List (List Nat)} {r : List Nat}, Reps ws r → r.length = ws.length
  | [], [], _ => rfl
  | _ :: _, _ :: _, h => congrArg (· + 1) h.2.len
  | [], _ :: _, h => False.elim h
  | _ :: _, [], h => False.elim h
theorem Reps.mem : ∀ {ws : List (List Nat)} {r : List Nat} {U : List Nat}, Reps ws r → (∀ w ∈ ws, ∀ p ∈ w, p ∈ U) → ∀ p ∈ r, p ∈ U
  | [], [], _, _, _, p, h => by cases h
  | w :: ws, q :: r, U, h, k, p, hp => by
    rcases List.mem_cons.mp hp with e | e
    · rw [e]
      exact k w (List.mem_cons_self ..) q h.1
    · exact Reps.mem h.2 (fun w' hw' => k w' (List.mem_cons_of_mem _ hw')) p e
  | [], _ :: _, _, h, _, _, _ => False.elim h
  | _ :: _, [], _, h, _, _, _ => False.elim h
theorem reps_map {W : Nat → List Nat} {g : Nat → Nat} : ∀ {xs : List Nat}, (∀ x ∈ xs, g x ∈ W x) → Reps (xs.map W) (xs.map g)
  | [], _ => True.intro
  | x :: xs, h => ⟨h x (List.mem_cons_self ..), reps_map fun y hy => h y (List.mem_cons_of_mem _ hy)⟩
theorem map_of_reps {W : Nat → List Nat} : ∀ {xs : List Nat} {r : List Nat}, xs.Nodup → Reps (xs.map W) r → ∃ g : Nat → Nat, r = xs.map g ∧ ∀ x ∈ xs, g x ∈ W x
  | [], [], _, _ => ⟨id, rfl, fun _ h => by cases h⟩
  | [], _ :: _, _, h => False.elim h
  | _ :: _, [], _, h => False.elim h
  | x :: xs, p :: r, nd, h => by
    have nd' := List.nodup_cons.mp nd
    obtain ⟨g, e, k⟩ := map_of_reps nd'.2 h.2
    have off : ∀ y ∈ xs, (if y = x then p else g y) = g y := fun y hy => if_neg fun (c : y = x) => nd'.1 (by rw [← c]; exact hy)
    refine ⟨fun y => if y = x then p else g y, ?_, fun y hy => ?_⟩
    · rw [List.map_cons, if_pos rfl, e]
      congr 1
      exact List.map_congr_left fun y hy => (off y hy).symm
    · show (if y = x then p else g y) ∈ W y
      rcases List.mem_cons.mp hy with c | c
      · rw [if_pos c, c]
        exact h.1
      · rw [off y c]
        exact k y c
theorem inj_of_nodup {g : Nat → Nat} : ∀ {xs : List Nat}, (xs.map g).Nodup → ∀ x ∈ xs, ∀ y ∈ xs, g x = g y → x = y
  | [], _, x, h => by cases h
  | a :: xs, nd, x, hx => fun y hy e => by
    rw [List.map_cons, List.nodup_cons] at nd
    rcases List.mem_cons.mp hx with c | c <;> rcases List.mem_cons.mp hy with d | d
    · rw [c, d]
    · rw [c] at e
      exact absurd (List.mem_map.mpr ⟨y, d, e.symm⟩) nd.1
    · rw [d] at e
      exact absurd (List.mem_map.mpr ⟨x, c, e⟩) nd.1
    · exact inj_of_nodup nd.2 x c y d e
theorem rep_iff {W : Nat → List Nat} {xs : List Nat} (nd : xs.Nodup) : Rep (xs.map W) ↔ Free W xs := by
  constructor
  · rintro ⟨r, h, n⟩
    obtain ⟨g, rfl, k⟩ := map_of_reps nd h
    exact ⟨g, k, inj_of_nodup n⟩
  · rintro ⟨g, k, i⟩
    exact ⟨xs.map g, reps_map k, nodup_map g xs nd i⟩
theorem free_perm {W : Nat → List Nat} {xs ys : List Nat} (h : ∀ x, x ∈ xs ↔ x ∈ ys) : Free W xs ↔ Free W ys := by
  constructor
  · rintro ⟨g, a, b⟩
    exact ⟨g, fun x hx => a x ((h x).mpr hx), fun x hx y hy => b x ((h x).mpr hx) y ((h y).mpr hy)⟩
  · rintro ⟨g, a, b⟩
    exact ⟨g, fun x hx => a x ((h x).mp hx), fun x hx y hy => b x ((h x).mp hx) y ((h y).mp hy)⟩
/-- the ways behind the wants ws -/
structure Ways (ws : List (List Nat)) (ways : List (List Nat)) : Prop where
  srt : ∀ t ∈ ways, t.Pairwise (· ≤ ·)
  snd : ∀ t ∈ ways, ∃ r, Reps ws r ∧ r.Nodup ∧ t.Perm r
  cmp : ∀ r, Reps ws r → r.Nodup → ∃ t ∈ ways, t.Perm r
  nd : ways.Nodup
theorem Ways.start : Ways [] [[]] := by
  refine ⟨fun t ht => ?_, fun t ht => ?_, fun r hr _ => ?_, by simp⟩
  · rw [List.mem_singleton.mp ht]
    exact List.Pairwise.nil
  · rw [List.mem_singleton.mp ht]
    exact ⟨[], True.intro, List.nodup_nil, List.Perm.refl _⟩
  · cases r with
    | nil => exact ⟨[], List.mem_singleton.mpr rfl, List.Perm.refl _⟩
    | cons _ _ => exact False.elim hr
theorem Ways.rep {ws ways : List (List Nat)} (w : Ways ws ways) : ways ≠ [] ↔ Rep ws := by
  constructor
  · intro h
    obtain ⟨t, r, e⟩ : ∃ t r, ways = t :: r := by
      cases ways with
      | nil => exact absurd rfl h
      | cons t r => exact ⟨t, r, rfl⟩
    obtain ⟨r', h1, h2, _⟩ := w.snd t (by rw [e]; exact List.mem_cons_self ..)
    exact ⟨r', h1, h2⟩
  · rintro ⟨r, h1, h2⟩ e
    obtain ⟨t, ht, _⟩ := w.cmp r h1 h2
    rw [e] at ht
    cases ht
/-- behind some of the pairs of a way and a post -/
structure More (L : List (List Nat × Nat)) (more : List (List Nat)) : Prop where
  srt : ∀ t ∈ more, t.Pairwise (· ≤ ·)
  snd : ∀ t ∈ more, ∃ x ∈ L, x.2 ∉ x.1 ∧ t.Perm (x.1 ++ [x.2])
  cmp : ∀ x ∈ L, x.2 ∉ x.1 → ∃ t ∈ more, t.Perm (x.1 ++ [x.2])
  nd : more.Nodup
theorem More.start : More [] [] := ⟨fun _ h => (by cases h), fun _ h => (by cases h), fun _ h => (by cases h), List.nodup_nil⟩
theorem More.skip {L : List (List Nat × Nat)} {more : List (List Nat)} {w : List Nat} {p : Nat} (m : More L more) (h : p ∈ w ∨ ∃ t ∈ more, t.Perm (w ++ [p])) : More (L ++ [(w, p)]) more := by
  refine ⟨m.srt, fun t ht => ?_, fun x hx nx => ?_, m.nd⟩
  · obtain ⟨x, hx, k⟩ := m.snd t ht
    exact ⟨x, List.mem_append_left _ hx, k⟩
  · rcases List.mem_append.mp hx with e | e
    · exact m.cmp x e nx
    · rw [List.mem_singleton.mp e] at nx ⊢
      rcases h with c | c
      · exact absurd c nx
      · exact c
theorem More.add {L : List (List Nat × Nat)} {more : List (List Nat)} {w one : List Nat} {p : Nat} (m : More L more) (hp : p ∉ w) (ho : one.Perm (w ++ [p])) (hs : one.Pairwise (· ≤ ·)) (hn : one ∉ more) : More (L ++ [(w, p)]) (more ++ [one]) := by
  refine ⟨fun t ht => ?_, fun t ht => ?_, fun x hx nx => ?_, ?_⟩
  · rcases List.mem_append.mp ht with e | e
    · exact m.srt t e
    · rw [List.mem_singleton.mp e]; exact hs
  · rcases List.mem_append.mp ht with e | e
    · obtain ⟨x, hx, k⟩ := m.snd t e
      exact ⟨x, List.mem_append_left _ hx, k⟩
    · rw [List.mem_singleton.mp e]
      exact ⟨(w, p), List.mem_append_right _ (List.mem_singleton.mpr rfl), hp, ho⟩
  · rcases List.mem_append.mp hx with e | e
    · obtain ⟨t, ht, k⟩ := m.cmp x e nx
      exact ⟨t, List.mem_append_left _ ht, k⟩
    · rw [List.mem_singleton.mp e]
      exact ⟨one, List.mem_append_right _ (List.mem_singleton.mpr rfl), ho⟩
  · rw [List.nodup_append]
    refine ⟨m.nd, by simp, fun a ha b hb e => ?_⟩
    rw [List.mem_singleton.mp hb] at e
    exact hn (e ▸ ha)
theorem Ways.next {ws ways more : List (List Nat)} {w : List Nat} {L : List (List Nat × Nat)} (W : Ways ws ways) (m : More L more) (hL : ∀ t p, (t, p) ∈ L ↔ t ∈ ways ∧ p ∈ w) : Ways (ws ++ [w]) more := by
  refine ⟨m.srt, fun t ht => ?_, fun r hr nr => ?_, m.nd⟩
  · obtain ⟨⟨u, p⟩, hx, nx, pm⟩ := m.snd t ht
    obtain ⟨hu, hp⟩ := (hL u p).mp hx
    obtain ⟨r, h1, h2, h3⟩ := W.snd u hu
    refine ⟨r ++ [p], h1.put hp, ?_, pm.trans (h3.append_right [p])⟩
    rw [List.nodup_append]
    refine ⟨h2, by simp, fun a ha b hb e => ?_⟩
    rw [List.mem_singleton.mp hb] at e
    exact nx (h3.mem_iff.mpr (e ▸ ha))
  · obtain ⟨r', p, e, h1, h2⟩ := hr.last
    subst e
    rw [List.nodup_append] at nr
    obtain ⟨u, hu, pu⟩ := W.cmp r' h1 nr.1
    have np : p ∉ u := fun k => nr.2.2 p (pu.mem_iff.mp k) p (List.mem_singleton.mpr rfl) rfl
    obtain ⟨t, ht, pt⟩ := m.cmp (u, p) ((hL u p).mpr ⟨hu, h2⟩) np
    exact ⟨t, ht, pt.trans (pu.append_right [p])⟩
/-- two rising lists of the same things are one -/
theorem same_sorted : ∀ {a b : List Nat}, a.Perm b → a.Pairwise (· ≤ ·) → b.Pairwise (· ≤ ·) → a = b := by
  intro a b p ha hb
  exact List.Perm.eq_of_pairwise (fun x y _ _ h1 h2 => Nat.le_antisymm h1 h2) ha hb p
/-! ### how many ways -/
theorem bools : ∀ (n : Nat) (l : List (List Bool)), l.Nodup → (∀ b ∈ l, b.length = n) → l.length ≤ 2 ^ n
  | 0, l, nd, h => by
    match l, nd, h with
    | [], _, _ => exact Nat.zero_le _
    | [_], _, _ => exact Nat.le_refl _
    | a :: b :: r, nd, h =>
      have e1 := List.eq_nil_of_length_eq_zero (h a (List.mem_cons_self ..))
      have e2 := List.eq_nil_of_length_eq_zero (h b (List.mem_cons_of_mem _ (List.mem_cons_self ..)))
      rw [e1, e2] at nd
      exact absurd (List.mem_cons_self ..) (List.nodup_cons.mp nd).1
  | n + 1, l, nd, h => by
    have half : ∀ c : Bool, (l.filter fun b => b.head? == some c).length ≤ 2 ^ n := fun c => by
      have hh : ∀ b ∈ l.filter (fun b => b.head? == some c), b = c :: b.tail := fun b hb => by
        have k := (List.mem_filter.mp hb).2
        cases b with
        | nil => simp at k
        | cons d r =>
          have : d = c := by simpa using k
          rw [this]
          rfl
      have q := bools n ((l.filter fun b => b.head? == some c).map List.tail) (nodup_map _ _ (List.filter_sublist.nodup nd) fun a ha b hb e => by rw [hh a ha, hh b hb, e]) (fun b hb => by
        obtain ⟨a, ha, rfl⟩ := List.mem_map.mp hb
        rw [List.length_tail, h a (List.mem_filter.mp ha).1]
        rfl)
      rw [List.length_map] at q
      exact q
    have cut : ∀ (l : List (List Bool)), (∀ b ∈ l, b.length = n + 1) → l.length = (l.filter fun b => b.head? == some true).length + (l.filter fun b => b.head? == some false).length := by
      intro l
      induction l with
      | nil => exact fun _ => rfl
      | cons a r ih =>
        intro h
        have ih' := ih fun b hb => h b (List.mem_cons_of_mem _ hb)
        have ha := h a (List.mem_cons_self ..)
        cases a with
        | nil => simp at ha
        | cons d s =>
          cases d with
          | true => simp; omega
          | false => simp; omega
    have a := half true
    have b := half false
    rw [cut l h, Nat.pow_succ]
    omega
theorem few {U : List Nat} {l : List (List Nat)} (nd : l.Nodup) (h : ∀ t ∈ l, t.Pairwise (· ≤ ·) ∧ t.Nodup ∧ ∀ p ∈ t, p ∈ U) : l.length ≤ 2 ^ U.length := by
  have q := bools U.length (l.map fun t => U.map fun u => decide (u ∈ t)) (nodup_map _ _ nd fun a ha b hb e => ?_) (fun b hb => ?_)
  · rw [List.length_map] at q
    exact q
  · have ka := h a ha
    have kb := h b hb
    have mem : ∀ u ∈ U, (u ∈ a ↔ u ∈ b) := fun u hu => by
      have := List.map_inj_left.mp e u hu
      rw [Bool.eq_iff_iff, decide_eq_true_eq, decide_eq_true_eq] at this
      exact this
    have p : a.Perm b := (List.perm_ext_iff_of_nodup ka.2.1 kb.2.1).mpr fun u => ⟨fun k => (mem u (ka.2.2 u k)).mp k, fun k => (mem u (kb.2.2 u k)).mpr k⟩
    exact same_sorted p ka.1 kb.1
  · obtain ⟨t, _, rfl⟩ := List.mem_map.mp hb
    rw [List.length_map]
end PM
namespace Fs
open PySem L2
def top (i : Nat) : Stmt := PySem.Challenge.pw_freesets_k03_posts.main.body.getD i (.Pass ⟨0, 0, 0, 0⟩)
abbrev s_is_number : Stmt := top 6
abbrev n_is_number : List Str := ["value"]
theorem sc_is_number : FnScope n_is_number ["value"] (defScope s_is_number) :=
  ⟨rfl, rfl, rfl, by decide +kernel, rfl, by decide +kernel, by decide +kernel⟩
abbrev s_is_within : Stmt := top 7
abbrev n_is_within : List Str := ["value", "low", "high"]
theorem sc_is_within : FnScope n_is_within ["value", "low", "high"] (defScope s_is_within) :=
  ⟨rfl, rfl, rfl, by decide +kernel, rfl, by decide +kernel, by decide +kernel⟩
abbrev s_check_thing : Stmt := top 8
abbrev n_check_thing : List Str := ["thing", "many"]
theorem sc_check_thing : FnScope n_check_thing ["thing", "many"] (defScope s_check_thing) :=
  ⟨rfl, rfl, rfl, by decide +kernel, rfl, by decide +kernel, by decide +kernel⟩
abbrev s_check_set : Stmt := top 9
abbrev n_check_set : List Str := ["some", "many", "seen", "thing"]
theorem sc_check_set : FnScope n_check_set ["some", "many"] (defScope s_check_set) :=
  ⟨rfl, rfl, rfl, by decide +kernel, rfl, by decide +kernel, by decide +kernel⟩
abbrev s_Posts___init__ : Stmt := inClass (top 14) 0
abbrev n_Posts___init__ : List Str := ["self", "wants", "posts"]
theorem sc_Posts___init__ : FnScope n_Posts___init__ ["self", "wants"] (defScope s_Posts___init__) :=
  ⟨rfl, rfl, rfl, by decide +kernel, rfl, by decide +kernel, by decide +kernel⟩
abbrev s_Posts_many : Stmt := inClass (top 14) 1
abbrev n_Posts_many : List Str := ["self"]
theorem sc_Posts_many : FnScope n_Posts_many ["self"] (defScope s_Posts_many) :=
  ⟨rfl, rfl, rfl, by decide +kernel, rfl, by decide +kernel, by decide +kernel⟩
abbrev s_Posts_free : Stmt := inClass (top 14) 2
abbrev n_Posts_free : List Str := ["self", "some", "holders", "thing"]
theorem sc_Posts_free : FnScope n_Posts_free ["self", "some"] (defScope s_Posts_free) :=
  ⟨rfl, rfl, rfl, by decide +kernel, rfl, by decide +kernel, by decide +kernel⟩
abbrev s_check_ground : Stmt := top 15
abbrev n_check_ground : List Str := ["things"]
theorem sc_check_ground : FnScope n_check_ground ["things"] (defScope s_check_ground) :=
  ⟨rfl, rfl, rfl, by decide +kernel, rfl, by decide +kernel, by decide +kernel⟩
abbrev s_are_within : Stmt := top 16
abbrev n_are_within : List Str := ["values", "low", "high", "value"]
theorem sc_are_within : FnScope n_are_within ["values", "low", "high"] (defScope s_are_within) :=
  ⟨rfl, rfl, rfl, by decide +kernel, rfl, by decide +kernel, by decide +kernel⟩
abbrev s_are_posts : Stmt := top 17
abbrev n_are_posts : List Str := ["posts"]
theorem sc_are_posts : FnScope n_are_posts ["posts"] (defScope s_are_posts) :=
  ⟨rfl, rfl, rfl, by decide +kernel, rfl, by decide +kernel, by decide +kernel⟩
abbrev s_gets_post : Stmt := top 18
abbrev n_gets_post : List Str := ["thing", "wants", "holders", "tried", "post"]
theorem sc_gets_post : FnScope n_gets_post ["thing", "wants", "holders", "tried"] (defScope s_gets_post) :=
  ⟨rfl, rfl, rfl, by decide +kernel, rfl, by decide +kernel, by decide +kernel⟩
abbrev s__law_cell_at : Stmt := top 20
abbrev n__law_cell_at : List Str := ["_law_script", "_law_k"]
theorem sc__law_cell_at : FnScope n__law_cell_at ["_law_script", "_law_k"] (defScope s__law_cell_at) :=
  ⟨rfl, rfl, rfl, by decide +kernel, rfl, by decide +kernel, by decide +kernel⟩
abbrev s__law_draw : Stmt := top 21
abbrev n__law_draw : List Str := ["_law_cell", "_law_k", "_law_many", "_law_mixed"]
theorem sc__law_draw : FnScope n__law_draw ["_law_cell", "_law_k", "_law_many"] (defScope s__law_draw) :=
  ⟨rfl, rfl, rfl, by decide +kernel, rfl, by decide +kernel, by decide +kernel⟩
abbrev s__law_posts : Stmt := top 22
abbrev n__law_posts : List Str := ["_law_wants", "_law_ways", "_law_posts_here", "_law_more", "_law_way", "_law_post", "_law_one"]
theorem sc__law_posts : FnScope n__law_posts ["_law_wants"] (defScope s__law_posts) :=
  ⟨rfl, rfl, rfl, by decide +kernel, rfl, by decide +kernel, by decide +kernel⟩
abbrev s_law : Stmt := top 23
abbrev n_law : List Str := ["_law_script", "_law_n", "_law_first", "_law_wants", "_law_k", "_law_cell", "_law_handed", "_law_rule", "_law_posts_here", "_law_at", "_law_some", "_law_asked", "_law_found", "_law_p"]
theorem sc_law : FnScope n_law ["_law_script"] (defScope s_law) :=
  ⟨rfl, rfl, rfl, by decide +kernel, rfl, by decide +kernel, by decide +kernel⟩

/-! ### words of our own, for any of the program's laws -/
section
/-- which names of the built-ins are still theirs -/
structure Bl (mg : Str → Option Value) : Prop where
  isinstance_ : mg "isinstance" = none
  int_ : mg "int" = none
  bool_ : mg "bool" = none
  list_ : mg "list" = none
  tuple_ : mg "tuple" = none
  len_ : mg "len" = none
  all_ : mg "all" = none
  range_ : mg "range" = none
  min_ : mg "min" = none
  sorted_ : mg "sorted" = none
  set_ : mg "set" = none
theorem room65 {k : Nat} {A : Around} (hr : Room k A) : A.units + 65 < cLine := by
  have := hr.un
  omega
theorem yesT {σ : St} {H : Hp} {A B : Hp → Prop} (h : A H) : tYes σ H (fun b H3 => if b = true then A H3 else B H3) := by
  show (if true = true then A H else B H)
  exact iteT h
theorem take_more {α : Type} {l : List α} {i : Nat} {x : α} (h : l[i]? = some x) : l.take (i + 1) = l.take i ++ [x] := by
  rw [List.take_add_one, h]
  rfl
theorem map_at {α β : Type} {f : α → β} {l : List α} {i : Nat} {y : β} (h : (l.map f)[i]? = some y) : ∃ x, l[i]? = some x ∧ y = f x := by
  rw [List.getElem?_map] at h
  cases e : l[i]? with
  | none => rw [e] at h; cases h
  | some x => rw [e] at h; exact ⟨x, rfl, (Option.some.inj h).symm⟩
theorem flat_ints : ∀ xs : List Int, (xs.map V.int).all flatV = true
  | [] => rfl
  | _ :: xs => flat_ints xs
theorem in_ints (x : Int) : ∀ xs : List Int, inV (.int x) (xs.map V.int) = decide (x ∈ xs)
  | [] => rfl
  | y :: xs => by
    have ih := in_ints x xs
    show ((y == x) || inV (.int x) (xs.map V.int)) = decide (x ∈ y :: xs)
    rw [ih]
    by_cases e : y = x
    · subst e; simp
    · have e' : ¬ x = y := fun z => e z.symm
      simp [e, e']
theorem flat_nats : ∀ xs : List Nat, (xs.map (fun n : Nat => V.int (n : Int))).all flatV = true
  | [] => rfl
  | _ :: xs => flat_nats xs
theorem in_nats (x : Nat) : ∀ xs : List Nat, inV (.int (x : Int)) (xs.map (fun n : Nat => V.int (n : Int))) = decide (x ∈ xs)
  | [] => rfl
  | y :: xs => by
    have ih := in_nats x xs
    show (((y : Int) == (x : Int)) || inV (.int (x : Int)) (xs.map (fun n : Nat => V.int (n : Int)))) = decide (x ∈ y :: xs)
    rw [ih]
    by_cases e : y = x
    · subst e; simp
    · have e' : ¬ x = y := fun z => e z.symm
      have e2 : ((y : Int) == (x : Int)) = false := beq_false_of_ne (by omega)
      rw [e2]
      simp [e']
/-- two lists of numbers are data -/
theorem dp_ints {K : PySem.W.Frag} {H : Hp} : ∀ xs : List Int, DpAll K H (xs.map V.int) (xs.map PyData.int)
  | [] => .nil
  | x :: xs => .cons (.int x) (dp_ints xs)
theorem eqv_ints (xs : List Int) : PyData.eqv (.list (xs.map PyData.int)) (.list (xs.map PyData.int)) = true := SeqAt.eqv_refl _ (SeqAt.canLay_of_shaped (PySem.W.ke_shaped_ints xs))
/-- a number that is not negative -/
abbrev nv (n : Nat) : V := .int (n : Int)
theorem nv_ints (l : List Nat) : l.map nv = (l.map (fun n : Nat => (n : Int))).map V.int := by
  rw [List.map_map]
  rfl
theorem nd_cast : ∀ {xs : List Nat}, xs.Nodup → (xs.map (fun n : Nat => (n : Int))).Nodup
  | [], _ => List.nodup_nil
  | x :: xs, h => by
    have h' := List.nodup_cons.mp h
    rw [List.map_cons, List.nodup_cons]
    refine ⟨fun hm => ?_, nd_cast h'.2⟩
    obtain ⟨y, hy, e⟩ := List.mem_map.mp hm
    have : y = x := by omega
    rw [this] at hy
    exact h'.1 hy
theorem dec_nv (n : Nat) : decide (nv n = V.int 0) = decide (n = 0) := by
  rw [Bool.eq_iff_iff, decide_eq_true_eq, decide_eq_true_eq]
  constructor
  · intro e
    have := V.int.inj e
    omega
  · intro e
    rw [e]
    rfl
theorem dp_nats {K : PySem.W.Frag} {H : Hp} (xs : List Nat) : DpAll K H (xs.map nv) ((xs.map (fun n : Nat => (n : Int))).map PyData.int) := by
  rw [nv_ints]
  exact dp_ints _
theorem same_upd {H : Hp} {l : Addr} {o : HO} (h : H l = none) : Same H (upd H l o) := fun b u e => by
  rw [upd_ne (ne_of_none e h)]
  exact e
theorem same_to {H H1 : Hp} {l : Addr} {o : HO} (s : Same H H1) (h : H l = none) : Same H (upd H1 l o) := fun b u e => by
  rw [upd_ne (ne_of_none e h)]
  exact s b u e
end
section
variable {P : Program} {w : World} {K : PySem.W.Frag} {mg : Str → Option Value} {base : Heap} {f : Addr} {fd : FuncData}
/-- tuple(x), list(x), len(x), where they may stand in a comprehension -/
def rTupOf (K : PySem.W.Frag) : List V → Hp → VK → Prop := fun xs H Q => ∃ p ys, xs = [.ref p] ∧ ((SqL K H p ys ∧ ∀ l, H l = none → Q (.ref l) (upd H l (.tup ys))) ∨ (SqT K H p ys ∧ Q (.ref p) H))
def rLstOf (K : PySem.W.Frag) : List V → Hp → VK → Prop := fun xs H Q => ∃ p ys, xs = [.ref p] ∧ (SqL K H p ys ∨ SqT K H p ys) ∧ ∀ l, H l = none → Q (.ref l) (upd H l (.lst ys))
def rLenOf (K : PySem.W.Frag) : List V → Hp → VK → Prop := fun xs H Q => ∃ p ys, xs = [.ref p] ∧ (SqL K H p ys ∨ SqT K H p ys) ∧ Q (.int ys.length) H
theorem call_tupK {X : Cx} {K : PySem.W.Frag} (eK : X.K = K) : CallR X (.type "tuple") (rTupOf K) := by subst eK; exact call_tuple_of
theorem call_lstK {X : Cx} {K : PySem.W.Frag} (eK : X.K = K) : CallR X (.type "list") (rLstOf K) := by subst eK; exact call_list_of
theorem call_lenK {X : Cx} {K : PySem.W.Frag} (eK : X.K = K) : CallR X (.builtin "len") (rLenOf K) := by subst eK; exact call_len_seq
theorem call_isiK {X : Cx} {K : PySem.W.Frag} (eK : X.K = K) : CallR X (.builtin "isinstance") (rIsi K) := by subst eK; exact call_isi
/-- a tuple as a target, where it may stand in a comprehension -/
theorem pg_tupK {X : Cx} {K : PySem.W.Frag} {es : List Expr} {k : Nat} {t : TGs} {n : Nat} {pos : Pos} (eK : X.K = K) (hc : X.calm = true) (h : PGs X es t)
    (hn : (assignEach es X.env).length = n := by rfl) (hst : (assignEach es X.env).findIdx? (·.1) = none := by rfl) : PG X (.Tuple es k pos) (gTup K n t) := by
  subst eK
  exact pg_tup hc h hn hst
/-- xs.count(e), where it may stand in a comprehension -/
theorem pe_cntK {X : Cx} {K : PySem.W.Frag} {o e : Expr} {to : TE} {t : TA} {apos cpos : Pos} (eK : X.K = K) (ho : PE X o to) (ha : PA X [e] t)
    (hbase : attributeBase o "count" X.env (eval o X.env) = eval o X.env := by rfl)
    (hfew : ((backTo cpos (starEach [e] X.env)).all (fun x => !x.1) && (backToKw cpos (keywordEach [] X.env)).all (fun x => x.1.isSome)
      && decide ([e].length + ([] : List Keyword).length + (if ([] : List Keyword).isEmpty then 0 else 1) < 30)) = true := by rfl)
    (hline : (apos.endLine == cpos.line) = true := by rfl) (hs : starEach [e] X.env = [(false, eval e X.env)] := by rfl) :
    PE X (.Call (.Attribute o "count" apos) [e] [] cpos) (tBM K "list" (rCntI K) to t) := by
  subst eK
  exact pe_bm PySem.F.plainAttrs_list PySem.F.slot_list_count PySem.F.type_list_count mt_lcount ho ha hbase hfew hline hs rfl
/-! ### is_number, is_within, check_thing, check_set -/
def spNum : Sp := fun vs H Q _ => ∃ i : Int, vs = [.int i] ∧ Q (.bl true) H
theorem ok_num (B : Bl mg) (F : L2.Fun K "is_number" "is_number" s_is_number f fd) (g : mg "is_number" = some (.ref f)) : C8.Cal P w K mg base 1 "is_number" spNum [] := by
  refine ⟨f, fd, ["value"], [], F.ok sc_is_number (fun vs H Q E h => ?_) (fun cdv A outer s H vs Q E hr h => ?_), g, F.kp, F.binds (ps := ["value"]) (fun _ _ _ _ _ _ us hl => match us, hl with | [_], _ => rfl), .nil⟩
  · obtain ⟨i, rfl, _⟩ := h
    rfl
  · obtain ⟨i, rfl, q⟩ := h
    refine ⟨_, (pss_one (ps_ret (pe_and (pe_callB (call_isiK (K := K) rfl) (by rfl) B.isinstance_ (by decide +kernel) (pa_cons (pv 0) (pa_cons (pe_bltn (v := .ty "int") (u := .type "int") (by rfl) B.int_ (by decide +kernel) rfl) pa_nil))) (pe_one (pe_not (pe_callB (call_isiK (K := K) rfl) (by rfl) B.isinstance_ (by decide +kernel) (pa_cons (pv 0) (pa_cons (pe_bltn (v := .ty "bool") (u := .type "bool") (by rfl) B.bool_ (by decide +kernel) rfl) pa_nil)))))))), ?_⟩
    exact ⟨_, rfl, _, _, _, _, true, rfl, ClsV.ty _, TyX.base (TyOf.int i), kit_ty (by decide +kernel), true, rfl, iteT ⟨_, rfl, _, _, _, _, false, rfl, ClsV.ty _, TyX.base (TyOf.int i), kit_ty (by decide +kernel), false, rfl, q⟩⟩
def spWithin : Sp := fun vs H Q _ => ∃ i lo hi : Int, vs = [.int i, .int lo, .int hi] ∧ Q (.bl (decide (lo ≤ i) && decide (i ≤ hi))) H
theorem ok_within (F : L2.Fun K "is_within" "is_within" s_is_within f fd) (g : mg "is_within" = some (.ref f)) (c_is_number : C8.Cal P w K mg base 1 "is_number" spNum []) : C8.Cal P w K mg base 2 "is_within" spWithin [] := by
  refine ⟨f, fd, ["value", "low", "high"], [], F.ok sc_is_within (fun vs H Q E h => ?_) (fun cdv A outer s H vs Q E hr h => ?_), g, F.kp, F.binds (ps := ["value", "low", "high"]) (fun _ _ _ _ _ _ us hl => match us, hl with | [_, _, _], _ => rfl), .nil⟩
  · obtain ⟨i, lo, hi, rfl, _⟩ := h
    rfl
  · obtain ⟨i, lo, hi, rfl, q⟩ := h
    refine ⟨_, (pss_one (ps_ret (pe_and (C8.pe_c c_is_number hr (by first | decide | exact Nat.le_refl _ | omega) rfl (pa_cons (pv 0) pa_nil)) (pe_one (pe_chain op_le op_le (pv 1) (pv 0) (pv 2)))))), ?_⟩
    refine ⟨_, rfl, i, rfl, true, rfl, iteT ⟨_, rfl, _, rfl, lo, i, rfl, rfl, decide (lo ≤ i), rfl, ?_⟩⟩
    cases e : decide (lo ≤ i) with
    | true =>
      rw [e] at q
      exact iteT ⟨_, rfl, i, hi, rfl, rfl, q⟩
    | false =>
      rw [e] at q
      exact iteF q
def spThing : Sp := fun vs H Q _ => ∃ i n : Int, vs = [.int i, .int n] ∧ 0 ≤ i ∧ i < n ∧ Q .non H
theorem ok_thing (F : L2.Fun K "check_thing" "check_thing" s_check_thing f fd) (g : mg "check_thing" = some (.ref f)) (c_is_within : C8.Cal P w K mg base 2 "is_within" spWithin []) : C8.Cal P w K mg base 3 "check_thing" spThing [] := by
  refine ⟨f, fd, ["thing", "many"], [], F.ok sc_check_thing (fun vs H Q E h => ?_) (fun cdv A outer s H vs Q E hr h => ?_), g, F.kp, F.binds (ps := ["thing", "many"]) (fun _ _ _ _ _ _ us hl => match us, hl with | [_, _], _ => rfl), .nil⟩
  · obtain ⟨i, n, rfl, _⟩ := h
    rfl
  · obtain ⟨i, n, rfl, h0, h1, q⟩ := h
    refine ⟨_, (pss_one (ps_if (pt_not (pt_val (C8.pe_c c_is_within hr (by first | decide | exact Nat.le_refl _ | omega) rfl (pa_cons (pv 0) (pa_cons pe_int (pa_cons (pe_op op_sub (pv 1) pe_int) pa_nil)))))) (pss_one ps_never) pss_nil)), ?_⟩
    have e : (decide ((0 : Int) ≤ i) && decide (i ≤ n - 1)) = true := by
      rw [Bool.and_eq_true]
      exact ⟨decide_eq_true h0, decide_eq_true (by omega)⟩
    exact ⟨_, rfl, _, rfl, _, _, rfl, rfl, i, 0, n - 1, rfl, true, by rw [e], iteF q⟩
def spSet : Sp := fun vs H Q _ => ∃ (a : Addr) (xs : List Int) (n : Int), vs = [.ref a, .int n] ∧ H a = some (.lst (xs.map V.int)) ∧ (∀ x ∈ xs, 0 ≤ x ∧ x < n) ∧ xs.Nodup ∧ xs.length ≤ 1000 ∧ ∀ H', Same H H' → Q .non H'
theorem ok_set (B : Bl mg) (F : L2.Fun K "check_set" "check_set" s_check_set f fd) (g : mg "check_set" = some (.ref f)) (c_check_thing : C8.Cal P w K mg base 3 "check_thing" spThing []) : C8.Cal P w K mg base 4 "check_set" spSet [] := by
  refine ⟨f, fd, ["some", "many"], [], F.ok sc_check_set (fun vs H Q E h => ?_) (fun cdv A outer s H vs Q E hr h => ?_), g, F.kp, F.binds (ps := ["some", "many"]) (fun _ _ _ _ _ _ us hl => match us, hl with | [_, _], _ => rfl), .nil⟩
  · obtain ⟨a, xs, n, rfl, _⟩ := h
    rfl
  · obtain ⟨a, xs, n, rfl, ha, hx, hnd, hlen, q⟩ := h
    refine ⟨_, (pss_cons (ps_if (pt_not (pt_val (pe_callB (call_isiK (K := K) rfl) (by rfl) B.isinstance_ (by decide +kernel) (pa_cons (pv 0) (pa_cons (pe_bltn (v := .ty "list") (u := .type "list") (by rfl) B.list_ (by decide +kernel) rfl) pa_nil))))) (pss_one ps_never) pss_nil)
      (pss_cons (ps_set (i := 2) sc_check_set.nd rfl (Or.inl rfl) (pe_lst pa_nil))
      (pss_one (ps_for PassesOwn.never rfl (pi_list (pv 0)) (pg_name (i := 3) sc_check_set.nd rfl (Or.inl rfl)) (pss_cons (ps_expr (C8.pe_c c_check_thing hr (by first | decide | exact Nat.le_refl _ | omega) rfl (pa_cons (pv 3) (pa_cons (pv 1) pa_nil))))
      (pss_cons (ps_if (pt_cmpR op_in_seq (pv 3) (pv 2) (by rfl)) (pss_one ps_never) pss_nil)
      (pss_one (ps_expr (pe_bm PySem.F.plainAttrs_list PySem.F.slot_list_append PySem.F.type_list_append mt_append (pv 2) (pa_cons (pv 3) pa_nil)))))))))), ?_⟩
    refine ⟨_, rfl, _, _, _, _, true, rfl, ClsV.ty _, TyX.base (TyOf.lst ha), kit_ty (by decide +kernel), true, rfl, iteF ?_⟩
    refine ⟨Nat.zero_le _, fun l hl => ?_⟩
    refine ⟨_, rfl, a, rfl, ⟨_, SqL.of (same_upd hl _ _ ha)⟩, for_list (K := K) (a := a) (xs := xs.map V.int) (fun i σ H' => ∃ v : Option V, σ = [some (.ref a), some (.int n), some (.ref l), v] ∧ Same H H' ∧ H' l = some (.lst ((xs.take i).map V.int)))
      ⟨none, rfl, same_upd hl, upd_same⟩ (fun i σ H' _ ⟨_, _, s5, _⟩ => SqL.of (s5 _ _ ha)) ?_ ?_⟩
    · rintro i y σ H' hi ⟨v, rfl, s5, hL⟩
      obtain ⟨x, hx', rfl⟩ := map_at hi
      obtain ⟨x0, x1⟩ := hx x (List.mem_of_getElem? hx')
      have hin : inV (.int x) ((xs.take i).map V.int) = false := by
        rw [in_ints]
        refine decide_eq_false fun hm => ?_
        obtain ⟨j, hj⟩ := List.getElem?_of_mem hm
        have hji : j < i := Nat.lt_of_not_le fun le => by
          rw [List.getElem?_take, if_neg (by omega)] at hj
          cases hj
        rw [List.getElem?_take, if_pos hji] at hj
        have := nd_ix hnd hj hx'
        omega
      have hl' : (xs.take i).length ≤ 1000 := Nat.le_trans (by rw [List.length_take]; omega) hlen
      refine ⟨_, rfl, _, rfl, x, n, rfl, x0, x1, ?_⟩
      refine ⟨_, rfl, _, rfl, l, _, rfl, .inl (SqL.of hL), rfl, flat_ints _, false, by rw [if_neg Bool.false_ne_true, hin], iteF ?_⟩
      refine ⟨_, rfl, .inl ⟨rfl, _, SqL.of hL⟩, _, rfl, l, _, _, rfl, rfl, hL, by rw [List.length_map]; exact small1000 hl', ?_⟩
      refine ⟨_, rfl, same_to s5 hl, ?_⟩
      rw [take_more hx', List.map_append]
      exact upd_same
    · rintro σ H' ⟨v, rfl, s5, hL⟩
      exact q _ s5
end
/-! ### the law's own readers: a cell of the script, a draw -/
def cellAt (ns : List Int) (k : Nat) : Int := ns.getD k 0
def drawF (c k m : Int) : Int :=
  let x := (c % 1000000007 * 48271 + k * 69621 + 7) % 1000000007
  x * x / 1013 % 1000003 % m
theorem drawF_lo {c k m : Int} (h : 0 < m) : 0 ≤ drawF c k m := Int.emod_nonneg _ (by omega)
theorem drawF_hi {c k m : Int} (h : 0 < m) : drawF c k m < m := Int.emod_lt_of_pos _ h
section
variable {P : Program} {w : World} {K : PySem.W.Frag} {mg : Str → Option Value} {base : Heap} {f : Addr} {fd : FuncData}
def spCellAt (K : PySem.W.Frag) : Sp := fun vs H Q _ => ∃ (a : Addr) (ns : List Int) (k : Nat), vs = [.ref a, .int (k : Int)] ∧ SqL K H a (ns.map V.int) ∧ Q (.int (cellAt ns k)) H
theorem ok_cellAt (B : Bl mg) (F : L2.Fun K "_law_cell_at" "_law_cell_at" s__law_cell_at f fd) (g : mg "_law_cell_at" = some (.ref f)) : C8.Cal P w K mg base 1 "_law_cell_at" (spCellAt K) [] := by
  refine ⟨f, fd, ["_law_script", "_law_k"], [], F.ok sc__law_cell_at (fun vs H Q E h => ?_) (fun cdv A outer s H vs Q E hr h => ?_), g, F.kp, F.binds (ps := ["_law_script", "_law_k"]) (fun _ _ _ _ _ _ us hl => match us, hl with | [_, _], _ => rfl), .nil⟩
  · obtain ⟨a, ns, k, rfl, _⟩ := h
    rfl
  · obtain ⟨a, ns, k, rfl, ha, q⟩ := h
    refine ⟨_, (pss_cons (ps_if (pt_cmpR op_lt (pv 1) (pe_callB (call_lenK (K := K) rfl) (by rfl) B.len_ (by decide +kernel) (pa_cons (pv 0) pa_nil)) (nomark _)) (pss_one (ps_ret (pe_ix (r := rIxL K) ix_list (pv 0) (pv 1) (fun _ _ => rfl)))) pss_nil)
      (pss_one (ps_ret pe_int))), ?_⟩
    refine ⟨_, rfl, _, rfl, a, _, rfl, .inl ha, (k : Int), ((ns.map V.int).length : Int), rfl, rfl, _, rfl, ?_⟩
    rw [List.length_map]
    by_cases c : (k : Int) < (ns.length : Int)
    · have hk : k < ns.length := by omega
      rw [decide_eq_true c]
      have e : cellAt ns k = ns[k] := by
        unfold cellAt
        rw [List.getD_eq_getElem?_getD, List.getElem?_eq_getElem hk]
        rfl
      rw [e] at q
      refine iteT ⟨_, rfl, _, rfl, a, _, _, _, rfl, rfl, ha, atI_nat (v := V.int ns[k]) ?_, q⟩
      rw [List.getElem?_map, List.getElem?_eq_getElem hk]
      rfl
    · rw [decide_eq_false c]
      have e : cellAt ns k = 0 := by
        unfold cellAt
        rw [List.getD_eq_getElem?_getD, List.getElem?_eq_none (by omega)]
        rfl
      rw [e] at q
      exact iteF q
def spDraw : Sp := fun vs H Q _ => ∃ c k m : Int, vs = [.int c, .int k, .int m] ∧ 0 < m ∧ -1000 < k ∧ k < 1000 ∧ Q (.int (drawF c k m)) H
theorem ok_draw (F : L2.Fun K "_law_draw" "_law_draw" s__law_draw f fd) (g : mg "_law_draw" = some (.ref f)) : C8.Cal P w K mg base 1 "_law_draw" spDraw [] := by
  refine ⟨f, fd, ["_law_cell", "_law_k", "_law_many"], [], F.ok sc__law_draw (fun vs H Q E h => ?_) (fun cdv A outer s H vs Q E hr h => ?_), g, F.kp, F.binds (ps := ["_law_cell", "_law_k", "_law_many"]) (fun _ _ _ _ _ _ us hl => match us, hl with | [_, _, _], _ => rfl), .nil⟩
  · obtain ⟨c, k, m, rfl, _⟩ := h
    rfl
  · obtain ⟨c, k, m, rfl, hm, k0, k1, q⟩ := h
    refine ⟨_, (pss_cons (ps_set (i := 3) sc__law_draw.nd rfl (Or.inl rfl) (pe_op op_mod (pe_op op_add (pe_op op_add (pe_op op_mul (pe_op op_mod (pv 0) pe_int) pe_int) (pe_op op_mul (pv 1) pe_int)) pe_int) pe_int))
      (pss_one (ps_ret (pe_op op_mod (pe_op op_mod (pe_op op_fdiv (pe_op op_mul (pv 3) (pv 3)) pe_int) pe_int) (pv 2))))), ?_⟩
    have x0 : 0 ≤ (c % 1000000007 * 48271 + k * 69621 + 7) % 1000000007 := Int.emod_nonneg _ (by decide)
    have x1 : (c % 1000000007 * 48271 + k * 69621 + 7) % 1000000007 < 1000000007 := Int.emod_lt_of_pos _ (by decide)
    have bx : ∀ x : Int, 0 ≤ x → x < 1000000007 → -(2 ^ 64) < x ∧ x < 2 ^ 64 := fun x a b => ⟨by omega, by omega⟩
    refine ⟨_, rfl, _, _, rfl, rfl, (by show (0 : Int) < 1000000007; decide), _, _, rfl, rfl, .inr ⟨by decide, by decide⟩,
      _, rfl, _, _, rfl, rfl, .inr ⟨by decide, by decide⟩, _, _, rfl, rfl, _, _, rfl, rfl, _, _, rfl, rfl, (by show (0 : Int) < 1000000007; decide), ?_⟩
    refine ⟨_, rfl, _, rfl, _, _, rfl, rfl, .inl (bx _ x0 x1), _, _, rfl, rfl, ⟨by decide, by decide⟩, _, _, rfl, rfl, (by show (0 : Int) < 1000003; decide), _, rfl, _, _, rfl, rfl, hm, q⟩
end
/-! ### check_ground -/
section
variable {P : Program} {w : World} {K : PySem.W.Frag} {mg : Str → Option Value} {base : Heap} {f : Addr} {fd : FuncData}
/-- what stands under the program's own names of numbers -/
def Num (mg : Str → Option Value) (x : Str) (i : Int) : Prop := ∃ u, mg x = some u ∧ RelV (.int i) u
/-- a class under its name -/
def Own (mg : Str → Option Value) (x : Str) (C : Addr) : Prop := ∃ u, mg x = some u ∧ RelV (.ref C) u
/-- what isinstance asks of a class of the program, and of the one above it -/
structure Isi (K : PySem.W.Frag) (C CR : Addr) : Prop where
  ha : PySem.W.findIn K (.ref C) "__class__" = some (some (.builtin "object.__class__"))
  hn : PySem.W.specialIn K (.builtin "object.__class__") "__get__" = some (some (.builtin "getset_descriptor.__get__"))
  htk : PySem.W.takesIn K (.builtin "object.__class__") = some true
  hm : PySem.W.mroIn K C (.type "object") = some true
  up : PySem.W.kitOne K (.ref C) (.ref CR) = some true
theorem kit_up {C CR : Addr} (h2 : PySem.W.isClsIn K CR = true) (h3 : PySem.W.typeIn K (.ref CR) = some (.type "type")) (h4 : PySem.W.subIn K (.ref C) (.ref CR) = some true) : PySem.W.kitOne K (.ref C) (.ref CR) = some true := by
  unfold PySem.W.kitOne
  by_cases c : (Value.ref C == Value.ref CR) = true
  · rw [if_pos c]
  · rw [if_neg c]
    have h2' : (PySem.W.clsIn K CR).isSome = true := h2
    have e2 : ((PySem.W.clsIn K CR).isSome && PySem.W.typeIn K (.ref CR) == some (.type "type")) = true := by
      rw [h2', h3] <;> rfl
    show (if ((PySem.W.clsIn K CR).isSome && PySem.W.typeIn K (.ref CR) == some (.type "type")) = true then PySem.W.subIn K (.ref C) (.ref CR) else none) = some true
    rw [if_pos e2]
    exact h4
def spGround : Sp := fun vs H Q _ => ∃ (a : Addr) (xs : List V), vs = [.ref a] ∧ H a = some (.lst xs) ∧ xs.length ≤ 16 ∧ Q .non H
structure Gl_ (mg : Str → Option Value) (CR : Addr) : Prop where
  Rule : Own mg "Rule" CR
def spLaw (K : PySem.W.Frag) : Sp := fun vs H Q _ => ∃ (a : Addr) (ns : List Int), vs = [.ref a] ∧ SqL K H a (ns.map V.int) ∧ ns.length ≤ 63 ∧ ∀ H', Q (.bl true) H'
structure Gg (mg : Str → Option Value) : Prop where
  MOST_THINGS : Num mg "MOST_THINGS" 16
theorem ok_ground (B : Bl mg) (G : Gg mg) (F : L2.Fun K "check_ground" "check_ground" s_check_ground f fd) (g : mg "check_ground" = some (.ref f)) : C8.Cal P w K mg base 1 "check_ground" spGround [] := by
  refine ⟨f, fd, ["things"], [], F.ok sc_check_ground (fun vs H Q E h => ?_) (fun cdv A outer s H vs Q E hr h => ?_), g, F.kp, F.binds (ps := ["things"]) (fun _ _ _ _ _ _ us hl => match us, hl with | [_], _ => rfl), .nil⟩
  · obtain ⟨a, xs, rfl, _⟩ := h
    rfl
  · obtain ⟨a, xs, rfl, ha, hl, q⟩ := h
    refine ⟨_, (pss_cons (ps_if (pt_not (pt_val (pe_callB (call_isiK (K := K) rfl) (by rfl) B.isinstance_ (by decide +kernel) (pa_cons (pv 0) (pa_cons (pe_bltn (v := .ty "list") (u := .type "list") (by rfl) B.list_ (by decide +kernel) rfl) pa_nil))))) (pss_one ps_never) pss_nil)
      (pss_one (ps_if (pt_cmpR op_gt (pe_callB (call_lenK (K := K) rfl) (by rfl) B.len_ (by decide +kernel) (pa_cons (pv 0) pa_nil)) (C8.pe_gc rfl G.MOST_THINGS) (nomark _)) (pss_one ps_never) pss_nil))), ?_⟩
    refine ⟨_, rfl, _, _, _, _, true, rfl, ClsV.ty _, TyX.base (TyOf.lst ha), kit_ty (by decide +kernel), true, rfl, iteF ?_⟩
    refine ⟨_, rfl, a, _, rfl, .inl (SqL.of ha), _, _, rfl, rfl, false, ?_, iteF q⟩
    have : ¬ ((16 : Int) < (xs.length : Int)) := by omega
    show V.bl (decide ((16 : Int) < (xs.length : Int))) = V.bl false
    rw [decide_eq_false this]
end
/-! ### are_within -/
section
variable {P : Program} {w : World} {K : PySem.W.Frag} {mg : Str → Option Value} {base : Heap} {f : Addr} {fd : FuncData}
def inB (lo hi x : Int) : Bool := decide (lo ≤ x) && decide (x ≤ hi)
def spAre : Sp := fun vs H Q _ => ∃ (a : Addr) (xs : List Int) (lo hi : Int), vs = [.ref a, .int lo, .int hi] ∧ H a = some (.lst (xs.map V.int)) ∧ xs.length ≤ 1000 ∧ ∀ H', Same H H' → Q (.bl (xs.all (inB lo hi))) H'
theorem all_map {α : Type} (p : α → Bool) : ∀ xs : List α, (xs.map p).all id = xs.all p
  | [] => rfl
  | x :: xs => by
    show (p x && (xs.map p).all id) = (p x && xs.all p)
    rw [all_map p xs]
theorem ok_are (B : Bl mg) (F : L2.Fun K "are_within" "are_within" s_are_within f fd) (g : mg "are_within" = some (.ref f)) (c_is_within : C8.Cal P w K mg base 2 "is_within" spWithin []) : C8.Cal P w K mg base 3 "are_within" spAre [] := by
  refine ⟨f, fd, ["values", "low", "high"], [], F.ok sc_are_within (fun vs H Q E h => ?_) (fun cdv A outer s H vs Q E hr h => ?_), g, F.kp, F.binds (ps := ["values", "low", "high"]) (fun _ _ _ _ _ _ us hl => match us, hl with | [_, _, _], _ => rfl), .nil⟩
  · obtain ⟨a, xs, lo, hi, rfl, _⟩ := h
    rfl
  · obtain ⟨a, xs, lo, hi, rfl, ha, hlen, q⟩ := h
    refine ⟨_, (pss_one (ps_ret (pe_and (pe_callB (call_isiK (K := K) rfl) (by rfl) B.isinstance_ (by decide +kernel) (pa_cons (pv 0) (pa_cons (pe_bltn (v := .ty "list") (u := .type "list") (by rfl) B.list_ (by decide +kernel) rfl) pa_nil))) (pe_one (pe_callB (cr_all rfl) (by rfl) B.all_ (by decide +kernel) (pa_cons (pe_lc (own := [("value", 3)]) rfl sc_are_within.nd (pi_list (pv 0)) (blkOk_by (own := [("value", 3)]) (N := n_are_within) (sc := defScope s_are_within) (by decide +kernel)) (fun _ _ _ _ _ => (pg_name (i := 3) sc_are_within.nd rfl (Or.inl rfl))) (fun _ _ _ _ _ => pts_nil) (fun _ _ _ _ _ => (C8.pe_c c_is_within hr (by first | decide | exact Nat.le_refl _ | omega) rfl (pa_cons (pv 3) (pa_cons (pv 1) (pa_cons (pv 2) pa_nil)))))) pa_nil)))))), ?_⟩
    refine ⟨_, rfl, _, _, _, _, true, rfl, ClsV.ty _, TyX.base (TyOf.lst ha), kit_ty (by decide +kernel), true, rfl, iteT ?_⟩
    refine ⟨_, rfl, a, rfl, ⟨_, SqL.of ha⟩, fun D hD => lc_list (K := K) (a := a) (xs := xs.map V.int) (fun i H' => Same H H' ∧ H' D = some (.lst (((xs.take i).map (inB lo hi)).map V.bl)))
      ⟨same_upd hD, upd_same⟩ (fun i H' _ p => SqL.of (p.1 _ _ ha)) ?_ ?_⟩
    · rintro i y H' hi' ⟨s5, hL⟩
      obtain ⟨x, hx, rfl⟩ := map_at hi'
      refine ⟨rfl, yesT ?_⟩
      refine ⟨_, rfl, _, rfl, _, rfl, x, lo, hi, rfl, _, hL, ?_, same_to s5 hD, ?_⟩
      · rw [List.length_map, List.length_map]
        exact small1000 (Nat.le_trans (by rw [List.length_take]; omega) hlen)
      · rw [take_more hx, List.map_append, List.map_append]
        exact upd_same
    · rintro H' ⟨s5, hL⟩
      rw [List.length_map, List.take_length] at hL
      refine ⟨D, _, rfl, SqL.of hL, ?_⟩
      rw [all_map]
      exact q _ s5
end
/-! ### lists of lists (or tuples) of numbers -/
section
/-- at these addresses stand these lists of numbers, as mk says (.lst, .tup) -/
def rws (mk : List V → HO) (H : Hp) : List Addr → List (List Nat) → Prop
  | [], [] => True
  | t :: ts, w :: ws => H t = some (mk (w.map nv)) ∧ rws mk H ts ws
  | _, _ => False
variable {mk : List V → HO}
theorem rws.len {H : Hp} : ∀ {ts : List Addr} {ws : List (List Nat)}, rws mk H ts ws → ts.length = ws.length
  | [], [], _ => rfl
  | _ :: _, _ :: _, h => congrArg (· + 1) h.2.len
  | [], _ :: _, h => False.elim h
  | _ :: _, [], h => False.elim h
theorem rws.keep {H H' : Hp} : ∀ {ts : List Addr} {ws : List (List Nat)}, rws mk H ts ws → (∀ t xs, t ∈ ts → H t = some (mk xs) → H' t = some (mk xs)) → rws mk H' ts ws
  | [], [], _, _ => True.intro
  | _ :: _, _ :: _, h, k => ⟨k _ _ (List.mem_cons_self ..) h.1, h.2.keep fun t xs m => k t xs (List.mem_cons_of_mem _ m)⟩
  | [], _ :: _, h, _ => False.elim h
  | _ :: _, [], h, _ => False.elim h
theorem rws.same {H H' : Hp} {ts : List Addr} {ws : List (List Nat)} (h : rws mk H ts ws) (s : Same H H') : rws mk H' ts ws := h.keep fun _ _ _ e => s _ _ e
theorem rws.at {H : Hp} : ∀ {ts : List Addr} {ws : List (List Nat)} {i : Nat} {t : Addr}, rws mk H ts ws → ts[i]? = some t → ∃ w, ws[i]? = some w ∧ H t = some (mk (w.map nv))
  | t :: ts, w :: ws, 0, u, h, q => by
    have z : t = u := Option.some.inj q
    subst z
    exact ⟨w, rfl, h.1⟩
  | t :: ts, w :: ws, i + 1, u, h, q => rws.at (ts := ts) (ws := ws) h.2 q
  | [], _, _, _, _, q => by simp at q
  | _ :: _, [], _, _, h, _ => False.elim h
theorem rws.mem {H : Hp} : ∀ {ts : List Addr} {ws : List (List Nat)} {t : Addr}, rws mk H ts ws → t ∈ ts → ∃ w ∈ ws, H t = some (mk (w.map nv))
  | t :: ts, w :: ws, u, h, q => by
    rcases List.mem_cons.mp q with e | e
    · rw [e]
      exact ⟨w, List.mem_cons_self .., h.1⟩
    · obtain ⟨w', hw, k⟩ := rws.mem h.2 e
      exact ⟨w', List.mem_cons_of_mem _ hw, k⟩
  | [], _, _, _, q => by cases q
  | _ :: _, [], _, h, _ => False.elim h
theorem rws.put {H : Hp} {t : Addr} {w : List Nat} (ht : H t = some (mk (w.map nv))) : ∀ {ts : List Addr} {ws : List (List Nat)}, rws mk H ts ws → rws mk H (ts ++ [t]) (ws ++ [w])
  | [], [], _ => ⟨ht, True.intro⟩
  | _ :: _, _ :: _, h => ⟨h.1, h.2.put ht⟩
  | [], _ :: _, h => False.elim h
  | _ :: _, [], h => False.elim h
/-- something that is no such row is written: the rows stay -/
theorem rws.upd {H : Hp} {ts : List Addr} {ws : List (List Nat)} {l : Addr} {u : HO} (h : rws mk H ts ws) (n : l ∉ ts) : rws mk (upd H l u) ts ws := h.keep fun t xs m e => by
  have ne : t ≠ l := fun z => n (by rw [← z]; exact m)
  rw [upd_ne ne]
  exact e
theorem rws.not_mem {H : Hp} {ts : List Addr} {ws : List (List Nat)} {l : Addr} {o : HO} (h : rws mk H ts ws) (hl : H l = some o) (n : ∀ xs, o ≠ mk xs) : l ∉ ts := fun m => by
  obtain ⟨w, _, e⟩ := h.mem m
  rw [hl] at e
  exact n _ (Option.some.inj e)
theorem rws.not_none {H : Hp} {ts : List Addr} {ws : List (List Nat)} {l : Addr} (h : rws mk H ts ws) (hl : H l = none) : l ∉ ts := fun m => by
  obtain ⟨w, _, e⟩ := h.mem m
  rw [hl] at e
  cases e
def wd (w : List Nat) : List PyData := (w.map (fun n : Nat => (n : Int))).map PyData.int
def rd (w : List Nat) : PyData := .list (wd w)
def td (w : List Nat) : PyData := .tuple (wd w)
theorem dp_row {K : PySem.W.Frag} {H : Hp} {t : Addr} {w : List Nat} (h : H t = some (.lst (w.map nv))) : Dp K H (.ref t) (rd w) := .lst (SqL.of h) (dp_nats w)
theorem dp_tup {K : PySem.W.Frag} {H : Hp} {t : Addr} {w : List Nat} (h : H t = some (.tup (w.map nv))) : Dp K H (.ref t) (td w) := .tup (SqT.of h) (dp_nats w)
theorem dp_rows {K : PySem.W.Frag} {H : Hp} {dm : List Nat → PyData} (hd : ∀ t w, H t = some (mk (w.map nv)) → Dp K H (.ref t) (dm w)) : ∀ {ts : List Addr} {ws : List (List Nat)}, rws mk H ts ws → DpAll K H (ts.map V.ref) (ws.map dm)
  | [], [], _ => .nil
  | _ :: _, _ :: _, h => .cons (hd _ _ h.1) (dp_rows hd h.2)
  | [], _ :: _, h => False.elim h
  | _ :: _, [], h => False.elim h
theorem wd_lay (w : List Nat) : PyData.canLayAll0 (wd w) = true := PySem.W.ke_canLayAll0 _
theorem wd_depth (w : List Nat) : PyData.depthAll (wd w) = 0 := PySem.W.ke_depthAll _
theorem flat_lay {dm : List Nat → PyData} (h1 : ∀ w, (dm w).canLay0 = true) : ∀ ws : List (List Nat), PyData.canLayAll0 (ws.map dm) = true
  | [] => rfl
  | w :: ws => by simp [PyData.canLayAll0, h1 w, flat_lay h1 ws]
theorem flat_depth {dm : List Nat → PyData} (h2 : ∀ w, (dm w).depth = 1) : ∀ ws : List (List Nat), PyData.depthAll (ws.map dm) ≤ 1
  | [] => by simp [PyData.depthAll]
  | w :: ws => by
    have k1 := flat_depth h2 ws
    have k2 := h2 w
    simp only [List.map_cons, PyData.depthAll]
    omega
theorem rows_shaped {dm : List Nat → PyData} (h1 : ∀ w, (dm w).canLay0 = true) (h2 : ∀ w, (dm w).depth = 1) (ws : List (List Nat)) : SeqAt.shaped (.list (ws.map dm)) = true := by
  have k1 := flat_depth h2 ws
  have k2 : PyData.depth (.list (ws.map dm)) ≤ 64 := by
    simp only [PyData.depth]
    omega
  show (PyData.canLay0 (.list (ws.map dm)) && decide (PyData.depth (.list (ws.map dm)) ≤ 64)) = true
  rw [Bool.and_eq_true]
  exact ⟨by simp only [PyData.canLay0]; exact flat_lay h1 ws, decide_eq_true k2⟩
theorem rd_lay (w : List Nat) : (rd w).canLay0 = true := by simp only [rd, PyData.canLay0]; exact wd_lay w
theorem td_lay (w : List Nat) : (td w).canLay0 = true := by simp only [td, PyData.canLay0]; exact wd_lay w
theorem rd_depth (w : List Nat) : (rd w).depth = 1 := by simp only [rd, PyData.depth, wd_depth]
theorem td_depth (w : List Nat) : (td w).depth = 1 := by simp only [td, PyData.depth, wd_depth]
theorem td_shaped (w : List Nat) : SeqAt.shaped (td w) = true := by
  show ((td w).canLay0 && decide ((td w).depth ≤ 64)) = true
  rw [td_lay, td_depth]
  rfl
theorem rows_same (ws : List (List Nat)) : PyData.eqv (.list (ws.map rd)) (.list (ws.map rd)) = true := SeqAt.eqv_refl _ (SeqAt.canLay_of_shaped (rows_shaped rd_lay rd_depth ws))
theorem wd_eqv : ∀ a b : List Nat, PyData.eqvAll (wd a) (wd b) = decide (a = b)
  | [], [] => rfl
  | [], _ :: _ => by rw [decide_eq_false (by intro z; cases z)]; simp [wd, PyData.eqvAll]
  | _ :: _, [] => by rw [decide_eq_false (by intro z; cases z)]; simp [wd, PyData.eqvAll]
  | x :: a, y :: b => by
    have ih := wd_eqv a b
    show PyData.eqvAll (PyData.int x :: wd a) (PyData.int y :: wd b) = _
    simp only [PyData.eqvAll, PyData.eqv, ih]
    by_cases e : x = y
    · subst e
      by_cases e2 : a = b
      · subst e2; simp
      · simp [e2]
    · have e3 : ((x : Int) == (y : Int)) = false := beq_false_of_ne (by omega)
      rw [e3, decide_eq_false (p := x :: a = y :: b) (by intro z; exact e (List.cons.inj z).1)]
      rfl
theorem td_eqv (a b : List Nat) : PyData.eqv (td a) (td b) = decide (a = b) := by
  simp only [td, PyData.eqv]
  exact wd_eqv a b
theorem td_any (w : List Nat) : ∀ ws : List (List Nat), ((ws.map td).any fun z => PyData.eqv z (td w)) = decide (w ∈ ws)
  | [] => rfl
  | x :: ws => by
    rw [List.map_cons, List.any_cons, td_any w ws, td_eqv]
    by_cases e : x = w
    · subst e; simp
    · have e' : ¬ w = x := fun z => e z.symm
      simp [e, e']
theorem ne_nil_eqv {dm : List Nat → PyData} (ws : List (List Nat)) : PyData.eqv (.list (ws.map dm)) (.list []) = decide (ws = []) := by
  cases ws with
  | nil => rfl
  | cons e es =>
    rw [decide_eq_false (by intro z; cases z)]
    simp [PyData.eqv, PyData.eqvAll]
end
section
variable {P : Program} {w : World} {K : PySem.W.Frag} {mg : Str → Option Value} {base : Heap} {f C CR : Addr} {fd : FuncData}
/-! ### are_posts -/
structure Gp (K : PySem.W.Frag) (mg : Str → Option Value) (C : Addr) : Prop where
  cl : Cls K C
  nW : NoAttr K C "wants"
  HIGHEST_POST : Num mg "HIGHEST_POST" 30
def PostsOk (ns : List Nat) : Prop := (∀ n ∈ ns, n < 31) ∧ ns.Nodup
theorem PostsOk.len {ns : List Nat} (h : PostsOk ns) : ns.length ≤ 31 := by
  have := PM.nodup_le ns (List.range 31) h.2 fun x hx => List.mem_range.mpr (h.1 x hx)
  rw [List.length_range] at this
  exact this
def spPosts : Sp := fun vs H Q _ => ∃ (a : Addr) (ns : List Nat), vs = [.ref a] ∧ H a = some (.lst (ns.map nv)) ∧ PostsOk ns ∧ ∀ H', Same H H' → Q (.bl true) H'
theorem ok_posts (B : Bl mg) (G : Gp K mg C) (F : L2.Fun K "are_posts" "are_posts" s_are_posts f fd) (g : mg "are_posts" = some (.ref f)) (c_are_within : C8.Cal P w K mg base 3 "are_within" spAre []) : C8.Cal P w K mg base 4 "are_posts" spPosts [] := by
  refine ⟨f, fd, ["posts"], [], F.ok sc_are_posts (fun vs H Q E h => ?_) (fun cdv A outer s H vs Q E hr h => ?_), g, F.kp, F.binds (ps := ["posts"]) (fun _ _ _ _ _ _ us hl => match us, hl with | [_], _ => rfl), .nil⟩
  · obtain ⟨a, ns, rfl, _⟩ := h
    rfl
  · obtain ⟨a, ns, rfl, ha, hok, q⟩ := h
    refine ⟨_, (pss_one (ps_ret (pe_and (C8.pe_c c_are_within hr (by first | decide | exact Nat.le_refl _ | omega) rfl (pa_cons (pv 0) (pa_cons pe_int (pa_cons (C8.pe_gc rfl G.HIGHEST_POST) pa_nil)))) (pe_one (pe_cmpR op_eq (RZ.pe_lenSetI (by rfl) B.len_ (by rfl) B.set_ (pv 0)) (pe_callB (call_lenK (K := K) rfl) (by rfl) B.len_ (by decide +kernel) (pa_cons (pv 0) pa_nil)) (nomark _)))))), ?_⟩
    have hl := hok.len
    have hal : (ns.map (fun n : Nat => (n : Int))).all (inB 0 30) = true := by
      rw [List.all_eq_true]
      intro x hx
      obtain ⟨n, hn, rfl⟩ := List.mem_map.mp hx
      have := hok.1 n hn
      unfold inB
      rw [Bool.and_eq_true]
      exact ⟨decide_eq_true (by omega), decide_eq_true (by omega)⟩
    have ha' := ha
    rw [nv_ints] at ha'
    refine ⟨_, rfl, a, _, 0, 30, rfl, ha', by rw [List.length_map]; omega, fun H1 s1 => ⟨true, by rw [hal], iteT ?_⟩⟩
    refine ⟨_, rfl, a, _, rfl, SqL.of (s1 _ _ ha'), nd_cast hok.2, by rw [List.length_map]; omega, _, rfl, a, _, rfl, .inl (SqL.of (s1 _ _ ha')), rfl, ?_⟩
    have qq := q _ s1
    rw [List.length_map, List.length_map, List.length_map, decide_eq_true rfl]
    exact qq
/-! ### Posts -/
abbrev pf (t : Addr) : List (Str × V) := [("wants", .ref t)]
/-- a tuple of tuples of these posts stands at t -/
def WantsAt (H : Hp) (t : Addr) (ws : List (List Nat)) : Prop := ∃ ts, H t = some (.tup (ts.map V.ref)) ∧ rws .tup H ts ws
theorem WantsAt.keep {H H' : Hp} {t : Addr} {ws : List (List Nat)} (h : WantsAt H t ws) (k : ∀ b xs, H b = some (.tup xs) → H' b = some (.tup xs)) : WantsAt H' t ws := by
  obtain ⟨ts, h1, h2⟩ := h
  exact ⟨ts, k _ _ h1, h2.keep fun b xs _ e => k b xs e⟩
def PostsAt (C : Addr) (H : Hp) (p : Addr) (ws : List (List Nat)) : Prop := ∃ dx t, H p = some (.ins C dx (pf t)) ∧ WantsAt H t ws
theorem PostsAt.keep {H H' : Hp} {p : Addr} {ws : List (List Nat)} (h : PostsAt C H p ws) (k : ∀ b o, (∀ xs, o ≠ .lst xs) → H b = some o → H' b = some o) : PostsAt C H' p ws := by
  obtain ⟨dx, t, h1, h2⟩ := h
  exact ⟨dx, t, k _ _ (by intro xs z; cases z) h1, h2.keep fun b xs e => k _ _ (by intro xs z; cases z) e⟩
theorem PostsAt.same {H H' : Hp} {p : Addr} {ws : List (List Nat)} (h : PostsAt C H p ws) (s : Same H H') : PostsAt C H' p ws := h.keep fun b o _ e => s _ _ e
def spInit (C : Addr) : Sp := fun vs H Q _ => ∃ (p dx a : Addr) (ts : List Addr) (ws : List (List Nat)), vs = [.ref p, .ref a] ∧ H p = some (.ins C dx []) ∧ H a = some (.lst (ts.map V.ref)) ∧ rws .lst H ts ws ∧ ws.length ≤ 16 ∧ (∀ w ∈ ws, PostsOk w) ∧
  ∀ H', (∀ b o, b ≠ p → H b = some o → H' b = some o) → PostsAt C H' p ws → Q .non H'
theorem all_true : ∀ n, (List.replicate n true).all id = true
  | 0 => rfl
  | n + 1 => all_true n
theorem ok_init (B : Bl mg) (G : Gp K mg C) (F : L2.Fun K "__init__" "Posts.__init__" s_Posts___init__ f fd) (M : L2.Mk K C f) (g : mg "Posts" = some (.ref C)) (c_check_ground : C8.Cal P w K mg base 1 "check_ground" spGround [])
    (c_are_posts : C8.Cal P w K mg base 4 "are_posts" spPosts []) : C8.Mak P w K mg base 5 "Posts" C (spInit C) [] := by
  refine ⟨f, fd, ["self", "wants"], [], M, F.ok sc_Posts___init__ (fun vs H Q E h => ?_) (fun cdv A outer s H vs Q E hr h => ?_), g, F.binds (ps := ["self", "wants"]) (fun _ _ _ _ _ _ us hl => match us, hl with | [_, _], _ => rfl), .nil⟩
  · obtain ⟨p, dx, a, ts, ws, rfl, _⟩ := h
    rfl
  · obtain ⟨p, dx, a, ts, ws, rfl, hp, ha, hts, hl, hb, q⟩ := h
    refine ⟨_, (pss_cons (ps_expr (C8.pe_c c_check_ground hr (by first | decide | exact Nat.le_refl _ | omega) rfl (pa_cons (pv 1) pa_nil)))
      (pss_cons (ps_if (pt_not (pt_val (pe_callB (cr_all rfl) (by rfl) B.all_ (by decide +kernel) (pa_cons (pe_lc (own := [("posts", 2)]) rfl sc_Posts___init__.nd (pi_list (pv 1)) (blkOk_by (own := [("posts", 2)]) (N := n_Posts___init__) (sc := defScope s_Posts___init__) (by decide +kernel)) (fun _ _ _ _ _ => (pg_name (i := 2) sc_Posts___init__.nd rfl (Or.inl rfl))) (fun _ _ _ _ _ => pts_nil) (fun _ _ _ _ _ => (C8.pe_c c_are_posts hr (by first | decide | exact Nat.le_refl _ | omega) rfl (pa_cons (pv 2) pa_nil)))) pa_nil)))) (pss_one ps_never) pss_nil)
      (pss_one (ps_fld (pv 0) (pe_callTy (call_tupK (K := K) rfl) (by rfl) B.tuple_ (by decide +kernel) (pa_cons (pe_lc (own := [("posts", 2)]) rfl sc_Posts___init__.nd (pi_list (pv 1)) (blkOk_by (own := [("posts", 2)]) (N := n_Posts___init__) (sc := defScope s_Posts___init__) (by decide +kernel)) (fun _ _ _ _ _ => (pg_name (i := 2) sc_Posts___init__.nd rfl (Or.inl rfl))) (fun _ _ _ _ _ => pts_nil) (fun _ _ _ _ _ => (pe_callTy (call_tupK (K := K) rfl) (by rfl) B.tuple_ (by decide +kernel) (pa_cons (pv 2) pa_nil)))) pa_nil)) rfl)))), ?_⟩
    have tl : ts.length ≤ 16 := by rw [hts.len]; exact hl
    refine ⟨_, rfl, a, _, rfl, ha, by rw [List.length_map]; exact tl, ?_⟩
    -- all([are_posts(posts) for posts in wants])
    refine ⟨_, rfl, a, rfl, ⟨_, SqL.of ha⟩, fun D hD => lc_list (K := K) (a := a) (xs := ts.map V.ref) (fun i H' => Same H H' ∧ H' D = some (.lst ((List.replicate i true).map V.bl)))
      ⟨same_upd hD, upd_same⟩ (fun i H' _ p => SqL.of (p.1 _ _ ha)) ?_ ?_⟩
    · rintro i y H' hi ⟨s5, hL⟩
      obtain ⟨t, ht, rfl⟩ := map_at hi
      obtain ⟨e, he, hte⟩ := hts.at ht
      have il : i < ts.length := (List.getElem?_eq_some_iff.mp ht).1
      refine ⟨rfl, yesT ?_⟩
      refine ⟨_, rfl, t, e, rfl, s5 _ _ hte, hb e (List.mem_of_getElem? he), fun H2 s6 => ⟨_, s6 _ _ hL, ?_, same_to (s5.trans s6) hD, ?_⟩⟩
      · rw [List.length_map, List.length_replicate]
        exact small1000 (by omega)
      · rw [List.replicate_succ', List.map_append]
        exact upd_same
    rintro H1 ⟨s1, hL⟩
    refine ⟨D, _, rfl, SqL.of hL, true, by rw [all_true], iteF ?_⟩
    have ha2 := s1 _ _ ha
    have hts2 := hts.same s1
    -- self.wants = tuple([tuple(posts) for posts in wants])
    refine ⟨_, rfl, a, rfl, ⟨_, SqL.of ha2⟩, fun D2 hD2 => lc_list (K := K) (a := a) (xs := ts.map V.ref) (fun i H' => Same H1 H' ∧ ∃ ds, H' D2 = some (.lst (ds.map V.ref)) ∧ rws .tup H' ds (ws.take i))
      ⟨same_upd hD2, [], upd_same, True.intro⟩ (fun i H' _ p => SqL.of (p.1 _ _ ha2)) ?_ ?_⟩
    · rintro i y H' hi ⟨s5, ds, hL2, hds⟩
      obtain ⟨t, ht, rfl⟩ := map_at hi
      obtain ⟨e, he, hte⟩ := hts2.at ht
      have il : i < ts.length := (List.getElem?_eq_some_iff.mp ht).1
      have hte' := s5 _ _ hte
      refine ⟨rfl, yesT ?_⟩
      refine ⟨_, rfl, t, _, rfl, .inl ⟨SqL.of hte', fun u hu => ?_⟩⟩
      have dl : ds.length ≤ 16 := by
        rw [hds.len, List.length_take]
        omega
      have su : Same H' (upd H' u (.tup (e.map nv))) := same_upd hu
      have hL3 := su _ _ hL2
      refine ⟨_, hL3, by rw [List.length_map]; exact small1000 (by omega), same_to (s5.trans su) hD2, ds ++ [u], ?_, ?_⟩
      · rw [List.map_append]
        exact upd_same
      · rw [take_more he]
        have pu : rws .tup (upd H' u (.tup (e.map nv))) (ds ++ [u]) (ws.take i ++ [e]) := rws.put upd_same (hds.same su)
        exact pu.upd (pu.not_mem hL3 (by intro xs z; cases z))
    · rintro H3 ⟨s3, ds, hL3, hds⟩
      rw [List.length_map, hts.len, List.take_length] at hds
      refine ⟨D2, _, rfl, .inl ⟨SqL.of hL3, fun t ht => ?_⟩⟩
      have hp3 := s3 _ _ (s1 _ _ hp)
      have npt : p ≠ t := ne_of_none hp3 ht
      have st : Same H3 (upd H3 t (.tup (ds.map V.ref))) := same_upd ht
      refine ⟨_, rfl, p, C, dx, _, rfl, st _ _ hp3, G.cl, G.nW, (by show 0 < 1000; decide), ?_⟩
      refine q _ (fun b o nb e => ?_) ⟨dx, t, upd_same, ds, ?_, ?_⟩
      · rw [upd_ne nb]
        exact st _ _ (s3 _ _ (s1 _ _ e))
      · rw [upd_ne npt.symm]
        exact upd_same
      · exact (hds.same st).upd ((hds.same st).not_mem (st _ _ hp3) (by intro xs z; cases z))
def spMany (C : Addr) : Sp := fun vs H Q _ => ∃ (p : Addr) (ws : List (List Nat)), vs = [.ref p] ∧ PostsAt C H p ws ∧ Q (nv ws.length) H
theorem ok_many (B : Bl mg) (G : Gp K mg C) (F : L2.Fun K "many" "Posts.many" s_Posts_many f fd) (M : Meth K C "many" f) : C8.Met P w K mg base 1 C "many" (spMany C) [] := by
  refine ⟨f, fd, ["self"], [], G.cl, M, F.ok sc_Posts_many (fun vs H Q E h => ?_) (fun cdv A outer s H vs Q E hr h => ?_), F.binds (ps := ["self"]) (fun _ _ _ _ _ _ us hl => match us, hl with | [_], _ => rfl), .nil⟩
  · obtain ⟨p, ws, rfl, _⟩ := h
    rfl
  · obtain ⟨p, ws, rfl, ⟨dx, t, hp, ts, ht, hts⟩, q⟩ := h
    refine ⟨_, (pss_one (ps_ret (pe_callB (call_lenK (K := K) rfl) (by rfl) B.len_ (by decide +kernel) (pa_cons (pe_fld (pv 0) rfl) pa_nil)))), ?_⟩
    refine ⟨_, rfl, p, C, dx, _, _, rfl, hp, G.cl, G.nW, rfl, t, _, rfl, .inr (SqT.of ht), ?_⟩
    rw [List.length_map, hts.len]
    exact q
/-! ### gets_post -/
/-- what a thing wants -/
def wAt (ws : List (List Nat)) (k : Nat) : List Nat := ws.getD k []
theorem wAt_of {ws : List (List Nat)} {k : Nat} (h : k < ws.length) : ws[k]? = some (wAt ws k) := by
  unfold wAt
  rw [List.getD_eq_getElem?_getD, List.getElem?_eq_getElem h]
  rfl
/-- the dict says who holds what -/
def Hold (kvs : List (Key × V)) (h : Nat → Option Nat) : Prop := ∀ p : Nat, valV kvs (Sum.inl (p : Int)) = (h p).map nv
theorem Hold.put {kvs : List (Key × V)} {h : Nat → Option Nat} (H : Hold kvs h) (p z : Nat) : Hold (putK kvs (Sum.inl (p : Int)) (nv z)) (PM.put h p z) := fun q => by
  rw [valV_put]
  unfold PM.put
  by_cases e : q = p
  · subst e
    rw [if_pos rfl, if_pos rfl]
    rfl
  · have e2 : ¬ ((Sum.inl (q : Int) : Key) = Sum.inl (p : Int)) := fun z => e (by have := Sum.inl.inj z; omega)
    rw [if_neg e2, if_neg e]
    exact H q
theorem putK_len (kvs : List (Key × V)) (k : Key) (v : V) : (putK kvs k v).length ≤ kvs.length + 1 := by
  unfold putK
  by_cases c : (kvs.any fun kv => decide (kv.1 = k)) = true
  · rw [if_pos c, List.length_map]
    omega
  · rw [if_neg c, List.length_append]
    exact Nat.le_refl _
def spGets (d : Nat) : Sp := fun vs H Q _ => ∃ (z : Nat) (wt hd tr : Addr) (ws : List (List Nat)) (kvs : List (Key × V)) (h : Nat → Option Nat) (T : List Nat), vs = [nv z, .ref wt, .ref hd, .ref tr] ∧ WantsAt H wt ws ∧ H hd = some (.dK kvs) ∧ H tr = some (.lst (T.map nv)) ∧
  z < ws.length ∧ (∀ w ∈ ws, PostsOk w) ∧ Hold kvs h ∧ PM.Pre h T z ∧ (∀ p y, h p = some y → p ∈ wAt ws y) ∧ (∀ p y, h p = some y → y < ws.length) ∧ T.Nodup ∧ (∀ p ∈ T, p < 31) ∧ 31 ≤ T.length + d ∧ kvs.length ≤ 100000 ∧
  (∀ (H' : Hp) (kvs' : List (Key × V)) (h' : Nat → Option Nat) (T' : List Nat), (∀ b o, b ≠ hd → b ≠ tr → H b = some o → H' b = some o) → H' hd = some (.dK kvs') → H' tr = some (.lst (T'.map nv)) → Hold kvs' h' → PM.Yes (wAt ws) h T z h' T' →
    (∀ p y, h' p = some y → y < ws.length) → T'.Nodup → (∀ p ∈ T', p < 31) → kvs'.length + T.length ≤ kvs.length + T'.length → Q (.bl true) H') ∧
  (∀ (H' : Hp) (T' : List Nat), (∀ b o, b ≠ tr → H b = some o → H' b = some o) → H' tr = some (.lst (T'.map nv)) → PM.No (wAt ws) h T z T' → T'.Nodup → (∀ p ∈ T', p < 31) → T.length ≤ T'.length → Q (.bl false) H')
end
section
variable {P : Program} {w : World} {K : PySem.W.Frag} {mg : Str → Option Value} {base : Heap} {f C CR : Addr} {fd : FuncData}
theorem gets_step {k d : Nat} {sp0 : Sp} (F : L2.Fun K "gets_post" "gets_post" s_gets_post f fd) (g : mg "gets_post" = some (.ref f)) (c_gets_post : C8.Cal P w K mg base k "gets_post" sp0 []) (up : ∀ d', d = d' + 1 → sp0 = spGets d') :
    C8.Cal P w K mg base (k + 1) "gets_post" (spGets d) [] := by
  refine ⟨f, fd, ["thing", "wants", "holders", "tried"], [], F.ok sc_gets_post (fun vs H Q E h => ?_) (fun cdv A outer s H vs Q E hr h => ?_), g, F.kp, F.binds (ps := ["thing", "wants", "holders", "tried"]) (fun _ _ _ _ _ _ us hl => match us, hl with | [_, _, _, _], _ => rfl), .nil⟩
  · obtain ⟨z, wt, hd, tr, ws, kvs, h, T, rfl, _⟩ := h
    rfl
  · obtain ⟨z, wt, hd, tr, ws, kvs, h, T, rfl, hW, hH, hT, hz, hok, hold, pre, val, ylt, nd, p31, dl, kl, kY, kN⟩ := h
    refine ⟨_, (pss_cons (ps_for PassesOwn.never rfl (pi_tup (pe_ix (r := rIxT K) ix_tup (pv 1) (pv 0) (fun _ _ => rfl))) (pg_name (i := 4) sc_gets_post.nd rfl (Or.inl rfl)) (pss_cons (ps_if (pt_cmpR op_in_seq (pv 4) (pv 3) (by rfl)) (pss_one ps_continue) pss_nil)
      (pss_cons (ps_expr (pe_bm PySem.F.plainAttrs_list PySem.F.slot_list_append PySem.F.type_list_append mt_append (pv 3) (pa_cons (pv 4) pa_nil)))
      (pss_one (ps_if (PW.pt (pw_or (pt_cmp (pc_dnotin (hu_of hr) (pv 4) (pv 2))) (pw_or1 (pt_val (C8.pe_c c_gets_post hr (by first | decide | exact Nat.le_refl _ | omega) rfl (pa_cons (pe_dget (hu_of hr) (pv 2) (pv 4) (fun _ _ => rfl)) (pa_cons (pv 1) (pa_cons (pv 2) (pa_cons (pv 3) pa_nil))))))))) (pss_cons (ps_dput (hu_of hr) (pv 2) (pv 4) (pv 0) rfl)
      (pss_one (ps_ret pe_bl))) pss_nil)))))
      (pss_one (ps_ret pe_bl))), ?_⟩
    obtain ⟨ts, hwt, hts⟩ := id hW
    have tz : z < ts.length := by rw [hts.len]; exact hz
    obtain ⟨wz, ewz, htz⟩ := hts.at (List.getElem?_eq_getElem tz)
    have ez : wz = wAt ws z := Option.some.inj (ewz.symm.trans (wAt_of hz))
    have okz : PostsOk wz := hok wz (List.mem_of_getElem? ewz)
    subst ez
    have hrow : (ts.map V.ref)[z]? = some (V.ref ts[z]) := by
      rw [List.getElem?_map, List.getElem?_eq_getElem tz]
      rfl
    have nht : hd ≠ tr := ne_of hH hT (by intro q; cases q)
    have kt : ∀ {H' : Hp}, (∀ b o, b ≠ tr → H b = some o → H' b = some o) → ∀ b xs, H b = some (.tup xs) → H' b = some (.tup xs) := fun kp b xs e => kp b _ (ne_of e hT (by intro q; cases q)) e
    refine ⟨_, rfl, _, rfl, wt, _, _, _, rfl, rfl, SqT.of hwt, atI_nat hrow, _, rfl, ⟨_, SqT.of htz⟩, for_tup (K := K) (a := ts[z]) (xs := (wAt ws z).map nv) (fun i σ H' => ∃ (v : Option V) (T1 : List Nat), σ = [some (nv z), some (.ref wt), some (.ref hd), some (.ref tr), v] ∧
        (∀ b o, b ≠ tr → H b = some o → H' b = some o) ∧ H' tr = some (.lst (T1.map nv)) ∧ PM.Mid (wAt ws) h T ((wAt ws z).take i) T1 ∧ T1.Nodup ∧ (∀ p ∈ T1, p < 31) ∧ T.length ≤ T1.length)
      ⟨none, T, rfl, fun _ _ _ e => e, hT, PM.Mid.start, nd, p31, Nat.le_refl _⟩ (fun i σ H' _ ⟨_, _, _, kp, _⟩ => SqT.of (kt kp _ _ htz)) ?_ ?_⟩
    · rintro i y σ H' hi ⟨v, T1, rfl, kp, hT1, mid, nd1, p1, tl⟩
      obtain ⟨p, hp, rfl⟩ := map_at hi
      have pw : p ∈ wAt ws z := List.mem_of_getElem? hp
      have pl : p < 31 := okz.1 p pw
      have tk := take_more hp
      refine ⟨_, rfl, _, rfl, tr, _, rfl, .inl (SqL.of hT1), rfl, flat_nats _, decide (p ∈ T1), ?_, ?_⟩
      · rw [if_neg Bool.false_ne_true]
        exact congrArg V.bl (in_nats p T1)
      by_cases c : p ∈ T1
      · rw [decide_eq_true c]
        refine iteT ?_
        refine ⟨_, T1, rfl, kp, hT1, ?_, nd1, p1, tl⟩
        rw [tk]
        exact mid.skip c
      rw [decide_eq_false c]
      refine iteF ?_
      have nd2 : (T1 ++ [p]).Nodup := by
        rw [List.nodup_append]
        refine ⟨nd1, by simp, fun a ha b hb e => ?_⟩
        rw [List.mem_singleton.mp hb] at e
        exact c (e ▸ ha)
      have p2 : ∀ q ∈ T1 ++ [p], q < 31 := fun q hq => by
        rcases List.mem_append.mp hq with e | e
        · exact p1 q e
        · rw [List.mem_singleton.mp e]; exact pl
      have l31 : (T1 ++ [p]).length ≤ 31 := (show PostsOk (T1 ++ [p]) from ⟨p2, nd2⟩).len
      have l2 : (T1 ++ [p]).length = T1.length + 1 := by rw [List.length_append]; rfl
      -- tried.append(post)
      refine ⟨_, rfl, .inl ⟨rfl, _, SqL.of hT1⟩, _, rfl, tr, _, _, rfl, rfl, hT1, by rw [List.length_map]; exact small1000 (by omega), ?_⟩
      have kp2 : ∀ b o, b ≠ tr → H b = some o → (upd H' tr (.lst (T1.map nv ++ [nv p]))) b = some o := fun b o nb e => by
        rw [upd_ne nb]
        exact kp b o nb e
      have hT2 : (upd H' tr (.lst (T1.map nv ++ [nv p]))) tr = some (.lst ((T1 ++ [p]).map nv)) := by
        rw [List.map_append]
        exact upd_same
      generalize upd H' tr (.lst (T1.map nv ++ [nv p])) = H2 at kp2 hT2
      have hH2 := kp2 _ _ nht hH
      have hv := hold p
      refine ⟨_, rfl, _, rfl, hd, _, rfl, DGet.k (k := Sum.inl (p : Int)) hH2, _, rfl, ?_⟩
      cases hc : h p with
      | none =>
        rw [hv, hc]
        refine iteT (iteT ?_)
        refine ⟨_, rfl, _, rfl, _, rfl, hd, _, rfl, DPut.k (k := Sum.inl (p : Int)) hH2 (Nat.lt_of_le_of_lt kl (by decide)), ?_⟩
        refine kY _ _ _ (T1 ++ [p]) (fun b o n1 n2 e => ?_) upd_same ?_ (hold.put p z) (PM.yes_free pre val mid c pw hc) (fun q y' e => ?_) nd2 p2 ?_
        · rw [upd_ne n1]
          exact kp2 b o n2 e
        · rw [upd_ne nht.symm]
          exact hT2
        · by_cases eq : q = p
          · rw [eq, PM.put_at] at e
            rw [← Option.some.inj e]
            exact hz
          · rw [PM.put_ne eq] at e
            exact ylt q y' e
        · have := putK_len kvs (Sum.inl (p : Int)) (nv z)
          omega
      | some y =>
        rw [hv, hc]
        refine iteF ?_
        obtain ⟨d', rfl⟩ : ∃ d', d = d' + 1 := ⟨d - 1, by omega⟩
        have es := up d' rfl
        have dg : DGet H2 hd (kV (Sum.inl (p : Int))) (some (nv y)) := by
          have := DGet.k (k := (Sum.inl (p : Int) : Key)) hH2
          rw [hv, hc] at this
          exact this
        refine ⟨_, rfl, _, rfl, hd, nv y, rfl, dg, _, rfl, _, rfl, _, rfl, ?_⟩
        rw [es]
        have kt2 := kt kp2
        refine ⟨y, wt, hd, tr, ws, kvs, h, T1 ++ [p], rfl, hW.keep kt2, hH2, hT2, ylt p y hc, hok, hold, PM.pre_next (ps := []) pre hc, val, ylt, nd2, p2, by omega, kl, ?_, ?_⟩
        · intro H3 kvs3 h3 T3 kp3 hH3 hT3 hold3 Y ylt3 nd3 p3 len3
          refine ⟨true, rfl, iteT ?_⟩
          have k3 : kvs3.length ≤ kvs.length + 31 := by
            have := (show PostsOk T3 from ⟨p3, nd3⟩).len
            omega
          refine ⟨_, rfl, _, rfl, _, rfl, hd, _, rfl, DPut.k (k := Sum.inl (p : Int)) hH3 (Nat.lt_of_le_of_lt (Nat.le_trans k3 (Nat.add_le_add_right kl 31)) (by decide)), ?_⟩
          refine kY _ _ _ T3 (fun b o n1 n2 e => ?_) upd_same ?_ (hold3.put p z) (PM.yes_back pre mid c pw hc Y) (fun q y' e => ?_) nd3 p3 ?_
          · rw [upd_ne n1]
            exact kp3 b o n1 n2 (kp2 b o n2 e)
          · rw [upd_ne nht.symm]
            exact hT3
          · by_cases eq : q = p
            · rw [eq, PM.put_at] at e
              rw [← Option.some.inj e]
              exact hz
            · rw [PM.put_ne eq] at e
              exact ylt3 q y' e
          · have := putK_len kvs3 (Sum.inl (p : Int)) (nv z)
            omega
        · intro H3 T3 kp3 hT3 N nd3 p3 len3
          refine ⟨false, rfl, iteF ?_⟩
          refine ⟨_, T3, rfl, fun b o nb e => kp3 b o nb (kp2 b o nb e), hT3, ?_, nd3, p3, by omega⟩
          rw [tk]
          exact mid.no hc N
    · rintro σ H' ⟨v, T1, rfl, kp, hT1, mid, nd1, p1, tl⟩
      rw [List.length_map, List.take_length] at mid
      exact kN _ T1 kp hT1 mid.stop nd1 p1 tl
theorem ok_gets (F : L2.Fun K "gets_post" "gets_post" s_gets_post f fd) (g : mg "gets_post" = some (.ref f)) : ∀ d, C8.Cal P w K mg base (d + 2) "gets_post" (spGets d) []
  | 0 => gets_step (k := 1) (sp0 := fun _ _ _ _ => False) F g ⟨f, fd, ["thing", "wants", "holders", "tried"], [], F.ok (k := 0) sc_gets_post (fun _ _ _ _ h => h.elim) (fun _ _ _ _ _ _ _ _ _ h => h.elim), g, F.kp, F.binds (ps := ["thing", "wants", "holders", "tried"]) (fun _ _ _ _ _ _ us hl => match us, hl with | [_, _, _, _], _ => rfl), .nil⟩ (fun d' e => by omega)
  | d + 1 => gets_step (k := d + 2) F g (ok_gets F g d) (fun d' e => by rw [show d' = d by omega])
def spFree (C : Addr) : Sp := fun vs H Q _ => ∃ (p a : Addr) (ws : List (List Nat)) (xs : List Nat), vs = [.ref p, .ref a] ∧ PostsAt C H p ws ∧ H a = some (.lst (xs.map nv)) ∧ (∀ w ∈ ws, PostsOk w) ∧ (∀ x ∈ xs, x < ws.length) ∧ xs.Nodup ∧ xs.length ≤ 1000 ∧
  ∀ H' (b : Bool), Same H H' → (b = true ↔ PM.Free (wAt ws) xs) → Q (.bl b) H'
theorem ok_free (B : Bl mg) (G : Gp K mg C) (F : L2.Fun K "free" "Posts.free" s_Posts_free f fd) (M : Meth K C "free" f) (m_many : C8.Met P w K mg base 1 C "many" (spMany C) []) (c_check_set : C8.Cal P w K mg base 4 "check_set" spSet [])
    (c_gets_post : C8.Cal P w K mg base 33 "gets_post" (spGets 31) []) : C8.Met P w K mg base 34 C "free" (spFree C) [] := by
  refine ⟨f, fd, ["self", "some"], [], G.cl, M, F.ok sc_Posts_free (fun vs H Q E h => ?_) (fun cdv A outer s H vs Q E hr h => ?_), F.binds (ps := ["self", "some"]) (fun _ _ _ _ _ _ us hl => match us, hl with | [_, _], _ => rfl), .nil⟩
  · obtain ⟨p, a, ws, xs, rfl, _⟩ := h
    rfl
  · obtain ⟨p, a, ws, xs, rfl, hb, ha, hok, hx, hnd, hlen, q⟩ := h
    refine ⟨_, (pss_cons (ps_expr (C8.pe_c c_check_set hr (by first | decide | exact Nat.le_refl _ | omega) rfl (pa_cons (pv 1) (pa_cons (C8.pe_mt0 (pl := _) m_many hr (by decide) (pv 0)) pa_nil))))
      (pss_cons (ps_set (i := 2) sc_Posts_free.nd rfl (Or.inl rfl) pe_dnewK)
      (pss_cons (ps_for PassesOwn.never rfl (pi_list (pv 1)) (pg_name (i := 3) sc_Posts_free.nd rfl (Or.inl rfl)) (pss_one (ps_if (pt_not (pt_val (C8.pe_c c_gets_post hr (by first | decide | exact Nat.le_refl _ | omega) rfl (pa_cons (pv 3) (pa_cons (pe_fld (pv 0) rfl) (pa_cons (pv 2) (pa_cons (pe_lst pa_nil) pa_nil))))))) (pss_one (ps_ret pe_bl)) pss_nil)))
      (pss_one (ps_ret pe_bl))))), ?_⟩
    obtain ⟨dx, t, hp, hW⟩ := id hb
    have ha' := ha
    rw [nv_ints] at ha'
    refine ⟨_, rfl, _, rfl, p, dx, _, rfl, hp, rfl, p, ws, rfl, hb, a, _, _, rfl, ha', fun x hx' => ?_, nd_cast hnd, by rw [List.length_map]; exact hlen, fun H1 s1 => ?_⟩
    · obtain ⟨n, hn, rfl⟩ := List.mem_map.mp hx'
      have := hx n hn
      omega
    -- holders = {}
    intro hd hhd
    have hd0 : H hd = none := s1.free hhd
    refine ⟨_, rfl, a, rfl, ⟨_, SqL.of (same_upd hhd _ _ (s1 _ _ ha))⟩, for_list (K := K) (a := a) (xs := xs.map nv) (fun i σ H' => ∃ (v : Option V) (kvs : List (Key × V)) (h : Nat → Option Nat), σ = [some (.ref p), some (.ref a), some (.ref hd), v] ∧ Same H H' ∧
        H' hd = some (.dK kvs) ∧ Hold kvs h ∧ PM.Mat (wAt ws) h (xs.take i) ∧ kvs.length ≤ 31 * i)
      ⟨none, [], fun _ => none, rfl, s1.trans (same_upd hhd), upd_same, fun _ => rfl, PM.Mat.start, Nat.le_refl _⟩ (fun i σ H' _ ⟨_, _, _, _, s5, _⟩ => SqL.of (s5 _ _ ha)) ?_ ?_⟩
    · rintro i y σ H' hi ⟨v, kvs, h, rfl, s5, hH, hold, mat, kl⟩
      obtain ⟨x, hx', rfl⟩ := map_at hi
      have xlt := hx x (List.mem_of_getElem? hx')
      have ilt : i < xs.length := (List.getElem?_eq_some_iff.mp hx').1
      have nx : x ∉ xs.take i := fun hm => by
        obtain ⟨j, hj⟩ := List.getElem?_of_mem hm
        have hji : j < i := Nat.lt_of_not_le fun le => by
          rw [List.getElem?_take, if_neg (by omega)] at hj
          cases hj
        rw [List.getElem?_take, if_pos hji] at hj
        have := nd_ix hnd hj hx'
        omega
      refine ⟨_, rfl, _, rfl, p, C, dx, _, _, rfl, s5 _ _ hp, G.cl, G.nW, rfl, _, rfl, Nat.zero_le _, fun tr htr => ?_⟩
      have st : Same H' (upd H' tr (.lst [])) := same_upd htr
      have tr0 : H tr = none := s5.free htr
      have nht : hd ≠ tr := ne_of_none hH htr
      have W2 : WantsAt (upd H' tr (.lst [])) t ws := hW.keep fun b zs e => st _ _ (s5 _ _ e)
      refine ⟨x, t, hd, tr, ws, kvs, h, [], rfl, W2, st _ _ hH, upd_same, xlt, hok, hold, mat.pre nx, mat.val, fun r y' e => hx y' (List.mem_of_mem_take (mat.ins r y' e)), List.nodup_nil, fun r hr' => (by cases hr'), Nat.le_refl _, by omega, ?_, ?_⟩
      · intro H3 kvs3 h3 T3 kp3 hH3 hT3 hold3 Y ylt3 nd3 p3 len3
        refine ⟨true, rfl, iteF ?_⟩
        have t31 := (show PostsOk T3 from ⟨p3, nd3⟩).len
        refine ⟨_, kvs3, h3, rfl, fun b o e => kp3 b o (ne_of_none e hd0) (ne_of_none e tr0) (st _ _ (s5 _ _ e)), hH3, hold3, ?_, ?_⟩
        · rw [take_more hx']
          exact mat.more nx Y
        · have : ([] : List Nat).length = 0 := rfl
          omega
      · intro H3 T3 kp3 hT3 N nd3 p3 len3
        refine ⟨false, rfl, iteT ?_⟩
        have nf := PM.not_free (L := xs) mat nx N nd3 (fun r hr' => List.mem_of_mem_take hr') (List.mem_of_getElem? hx')
        exact q H3 false (fun b o e => kp3 b o (ne_of_none e tr0) (st _ _ (s5 _ _ e))) ⟨fun e => (by cases e), fun e => absurd e nf⟩
    · rintro σ H' ⟨v, kvs, h, rfl, s5, hH, hold, mat, kl⟩
      rw [List.length_map, List.take_length] at mat
      exact q H' true s5 ⟨fun _ => mat.free, fun _ => rfl⟩
end
section
variable {P : Program} {w : World} {K : PySem.W.Frag} {mg : Str → Option Value} {base : Heap} {f C CR : Addr} {fd : FuncData}
/-! ### the law's ways -/
theorem nats_of_perm {ns : List Int} {t : List Nat} (h : ns.Perm (t.map (fun n : Nat => (n : Int)))) (hs : ns.Pairwise (· ≤ ·)) : ∃ one : List Nat, ns = one.map (fun n : Nat => (n : Int)) ∧ one.Perm t ∧ one.Pairwise (· ≤ ·) := by
  have e : (ns.map Int.toNat).map (fun n : Nat => (n : Int)) = ns := by
    rw [List.map_map]
    refine (List.map_congr_left fun x hx => ?_).trans (List.map_id ns)
    obtain ⟨n, _, rfl⟩ := List.mem_map.mp (h.mem_iff.mp hx)
    rfl
  refine ⟨ns.map Int.toNat, e.symm, ?_, ?_⟩
  · have := h.map Int.toNat
    rw [List.map_map] at this
    refine this.trans (List.Perm.of_eq ?_)
    refine (List.map_congr_left fun x _ => ?_).trans (List.map_id t)
    rfl
  · rw [List.pairwise_map]
    exact hs.imp fun {a b} k => by omega
theorem sum_nats (t : List Nat) (p : Nat) : t.map nv ++ [nv p] = ((t ++ [p]).map (fun n : Nat => (n : Int))).map V.int := by
  rw [← nv_ints, List.map_append]
  rfl
def Lj (w : List Nat) (ways : List (List Nat)) : List (List Nat × Nat) := ways.flatMap fun t => w.map fun p => (t, p)
theorem mem_Lj {w : List Nat} {ways : List (List Nat)} {t : List Nat} {p : Nat} : (t, p) ∈ Lj w ways ↔ t ∈ ways ∧ p ∈ w := by
  unfold Lj
  rw [List.mem_flatMap]
  constructor
  · rintro ⟨u, hu, h⟩
    obtain ⟨q, hq, e⟩ := List.mem_map.mp h
    cases e
    exact ⟨hu, hq⟩
  · rintro ⟨h1, h2⟩
    exact ⟨t, h1, List.mem_map.mpr ⟨p, h2, rfl⟩⟩
theorem Lj_more {w : List Nat} {ways : List (List Nat)} {j : Nat} {t : List Nat} (h : ways[j]? = some t) : Lj w (ways.take (j + 1)) = Lj w (ways.take j) ++ w.map fun p => (t, p) := by
  unfold Lj
  rw [take_more h, List.flatMap_append]
  simp
theorem more_few {ws ways more : List (List Nat)} {w U : List Nat} {L : List (List Nat × Nat)} (W : PM.Ways ws ways) (m : PM.More L more) (hL : ∀ x ∈ L, x.1 ∈ ways ∧ x.2 ∈ w) (h1 : ∀ v ∈ ws, ∀ p ∈ v, p ∈ U) (h2 : ∀ p ∈ w, p ∈ U) (hU : U.length ≤ 17) : more.length ≤ 131072 := by
  have q := PM.few (U := U) m.nd fun t ht => ?_
  · exact Nat.le_trans q (Nat.le_trans (Nat.pow_le_pow_right (by decide) hU) (by decide))
  · obtain ⟨⟨u, p⟩, hx, nx, pm⟩ := m.snd t ht
    obtain ⟨hu, hp⟩ := hL _ hx
    obtain ⟨r, k1, k2, k3⟩ := W.snd u hu
    refine ⟨m.srt t ht, ?_, fun a ha => ?_⟩
    · rw [pm.nodup_iff, List.nodup_append]
      refine ⟨k3.nodup_iff.mpr k2, by simp, fun a ha b hb e => ?_⟩
      rw [List.mem_singleton.mp hb] at e
      exact nx (e ▸ ha)
    · rcases List.mem_append.mp (pm.mem_iff.mp ha) with e | e
      · exact k1.mem h1 a (k3.mem_iff.mp e)
      · rw [List.mem_singleton.mp e]
        exact h2 p hp
def spLP : Sp := fun vs H Q _ => ∃ (a : Addr) (ts : List Addr) (ws : List (List Nat)) (U : List Nat), vs = [.ref a] ∧ H a = some (.lst (ts.map V.ref)) ∧ rws .lst H ts ws ∧ ws.length ≤ 16 ∧ U.length ≤ 17 ∧ (∀ v ∈ ws, ∀ p ∈ v, p ∈ U) ∧
  ∀ H' (b : Bool), Same H H' → (b = true ↔ PM.Rep ws) → Q (.bl b) H'
theorem ok_lp (B : Bl mg) (F : L2.Fun K "_law_posts" "_law_posts" s__law_posts f fd) (g : mg "_law_posts" = some (.ref f)) : C8.Cal P w K mg base 1 "_law_posts" spLP [] := by
  refine ⟨f, fd, ["_law_wants"], [], F.ok sc__law_posts (fun vs H Q E h => ?_) (fun cdv A outer s H vs Q E hr h => ?_), g, F.kp, F.binds (ps := ["_law_wants"]) (fun _ _ _ _ _ _ us hl => match us, hl with | [_], _ => rfl), .nil⟩
  · obtain ⟨a, ts, ws, U, rfl, _⟩ := h
    rfl
  · obtain ⟨a, ts, ws, U, rfl, ha, hts, hlen, hU, hin, q⟩ := h
    refine ⟨_, (pss_cons (ps_set (i := 1) sc__law_posts.nd rfl (Or.inl rfl) (pe_lst (pa_cons (pe_tup pa_nil) pa_nil)))
      (pss_cons (ps_for PassesOwn.never rfl (pi_list (pv 0)) (pg_name (i := 2) sc__law_posts.nd rfl (Or.inl rfl)) (pss_cons (ps_set (i := 3) sc__law_posts.nd rfl (Or.inl rfl) (pe_lst pa_nil))
      (pss_cons (ps_for PassesOwn.never rfl (pi_list (pv 1)) (pg_name (i := 4) sc__law_posts.nd rfl (Or.inl rfl)) (pss_one (ps_for PassesOwn.never rfl (pi_list (pv 2)) (pg_name (i := 5) sc__law_posts.nd rfl (Or.inl rfl)) (C8.pss_cut (ps_set (i := 6) sc__law_posts.nd rfl (Or.inl rfl) (pe_callTy (call_tupK (K := K) rfl) (by rfl) B.tuple_ (by decide +kernel) (pa_cons (pe_callB cr_sorted (by rfl) B.sorted_ (by decide +kernel) (pa_cons (pe_op op_cat (pe_callTy (call_lstK (K := K) rfl) (by rfl) B.list_ (by decide +kernel) (pa_cons (pv 4) pa_nil)) (pe_lst (pa_cons (pv 5) pa_nil))) pa_nil)) pa_nil)))
      (pss_one (ps_if (PW.pt (pw_and (pt_cmpR op_notIn_seq (pv 5) (pv 4) (by rfl)) (pw_and1 (pt_cmpR (op_notInD (room65 hr)) (pv 6) (pv 3) (by rfl))))) (pss_one (ps_expr (pe_bm PySem.F.plainAttrs_list PySem.F.slot_list_append PySem.F.type_list_append mt_append (pv 3) (pa_cons (pv 6) pa_nil)))) pss_nil))))))
      (pss_one (ps_set (i := 1) sc__law_posts.nd rfl (Or.inl rfl) (pv 3))))))
      (pss_one (ps_ret (pe_cmpR (op_neD hr.units) (pv 1) (pe_lst pa_nil) (nomark _)))))), ?_⟩
    have tl : ts.length = ws.length := hts.len
    refine ⟨Nat.zero_le _, fun t0 ht0 => ⟨(by show 1 ≤ sizeLine; decide), fun l0 hl0 => ?_⟩⟩
    have s0 : Same H (upd H t0 (.tup [])) := same_upd ht0
    have s1 : Same (upd H t0 (.tup [])) (upd (upd H t0 (.tup [])) l0 (.lst [.ref t0])) := same_upd hl0
    have h00 : (upd H t0 (HO.tup [])) t0 = some (.tup []) := upd_same
    refine ⟨_, rfl, a, rfl, ⟨_, SqL.of (s1 _ _ (s0 _ _ ha))⟩, for_list (K := K) (a := a) (xs := ts.map V.ref) (fun i σ H' => ∃ (v2 v3 v4 v5 v6 : Option V) (l : Addr) (ls : List Addr) (ways : List (List Nat)), σ = [some (.ref a), some (.ref l), v2, v3, v4, v5, v6] ∧ Same H H' ∧
        H' l = some (.lst (ls.map V.ref)) ∧ rws .tup H' ls ways ∧ PM.Ways (ws.take i) ways)
      ⟨none, none, none, none, none, l0, [t0], [[]], rfl, s0.trans s1, upd_same, ⟨s1 _ _ h00, True.intro⟩, PM.Ways.start⟩ (fun i σ H' _ ⟨_, _, _, _, _, _, _, _, _, s5, _⟩ => SqL.of (s5 _ _ ha)) ?_ ?_⟩
    · rintro i y σ H' hi ⟨v2, v3, v4, v5, v6, l, ls, ways, rfl, s5, hL, hls, W⟩
      obtain ⟨th, hth, rfl⟩ := map_at hi
      obtain ⟨v, hv, hrow⟩ := hts.at hth
      have hrow := s5 _ _ hrow
      have ll : ls.length = ways.length := hls.len
      have ilt : i < ws.length := (List.getElem?_eq_some_iff.mp hv).1
      have inU : ∀ u ∈ ws.take i, ∀ p ∈ u, p ∈ U := fun u hu => hin u (List.mem_of_mem_take hu)
      have vU : ∀ p ∈ v, p ∈ U := hin v (List.mem_of_getElem? hv)
      -- more = []
      refine ⟨Nat.zero_le _, fun m0 hm0 => ?_⟩
      have sm : Same H' (upd H' m0 (.lst [])) := same_upd hm0
      refine ⟨_, rfl, l, rfl, ⟨_, SqL.of (sm _ _ hL)⟩, for_list (K := K) (a := l) (xs := ls.map V.ref) (fun j σ H2 => ∃ (v4 v5 v6 : Option V) (ms : List Addr) (more : List (List Nat)), σ = [some (.ref a), some (.ref l), some (.ref th), some (.ref m0), v4, v5, v6] ∧ Same H' H2 ∧
          H2 m0 = some (.lst (ms.map V.ref)) ∧ rws .tup H2 ms more ∧ PM.More (Lj v (ways.take j)) more)
        ⟨v4, v5, v6, [], [], rfl, sm, upd_same, True.intro, PM.More.start⟩ (fun j σ H2 _ ⟨_, _, _, _, _, _, s6, _⟩ => SqL.of (s6 _ _ hL)) ?_ ?_⟩
      · rintro j z σ H2 hj ⟨v4, v5, v6, ms, more, rfl, s6, hM, hms, mo⟩
        obtain ⟨tw, htw, rfl⟩ := map_at hj
        obtain ⟨t, ht, hway⟩ := hls.at htw
        have tin : t ∈ ways := List.mem_of_getElem? ht
        obtain ⟨r, k1, k2, k3⟩ := W.snd t tin
        have tlen : t.length ≤ 16 := by
          rw [k3.length_eq, k1.len, List.length_take]
          omega
        refine ⟨_, rfl, th, rfl, ⟨_, SqL.of (s6 _ _ hrow)⟩, for_list (K := K) (a := th) (xs := v.map nv) (fun m σ H3 => ∃ (v5 v6 : Option V) (ms : List Addr) (more : List (List Nat)), σ = [some (.ref a), some (.ref l), some (.ref th), some (.ref m0), some (.ref tw), v5, v6] ∧ Same H' H3 ∧
            H3 m0 = some (.lst (ms.map V.ref)) ∧ rws .tup H3 ms more ∧ PM.More (Lj v (ways.take j) ++ (v.take m).map fun p => (t, p)) more)
          ⟨v5, v6, ms, more, rfl, s6, hM, hms, by rw [List.take_zero, List.map_nil, List.append_nil]; exact mo⟩ (fun m σ H3 _ ⟨_, _, _, _, _, s7, _⟩ => SqL.of (s7 _ _ hrow)) ?_ ?_⟩
        · rintro m z σ H3 hm ⟨v5, v6, ms, more, rfl, s7, hM, hms, mo⟩
          obtain ⟨p, hp, rfl⟩ := map_at hm
          have pin : p ∈ v := List.mem_of_getElem? hp
          have eL : Lj v (ways.take j) ++ (v.take (m + 1)).map (fun p => (t, p)) = (Lj v (ways.take j) ++ (v.take m).map fun p => (t, p)) ++ [(t, p)] := by
            rw [take_more hp, List.map_append, List.append_assoc]
            rfl
          have few := more_few (w := v) W mo (fun x hx => by
            rcases List.mem_append.mp hx with e | e
            · have := mem_Lj.mp (show (x.1, x.2) ∈ _ from e)
              exact ⟨List.mem_of_mem_take this.1, this.2⟩
            · obtain ⟨q, hq, rfl⟩ := List.mem_map.mp e
              exact ⟨tin, List.mem_of_mem_take hq⟩) inU vU hU
          have mlen : ms.length ≤ 131072 := by rw [hms.len]; exact few
          -- one = tuple(sorted(list(way) + [post]))
          refine ⟨fun σ' H4 => ∃ (o : Addr) (one : List Nat), σ' = [some (.ref a), some (.ref l), some (.ref th), some (.ref m0), some (.ref tw), some (nv p), some (.ref o)] ∧ Same H3 H4 ∧ H4 o = some (.tup (one.map nv)) ∧ one.Perm (t ++ [p]) ∧ one.Pairwise (· ≤ ·), ?_, ?_⟩
          · refine ⟨_, rfl, tw, _, rfl, .inr (SqT.of (s7 _ _ hway)), fun l1 hl1 => ?_⟩
            have a1 : Same H3 (upd H3 l1 (.lst (t.map nv))) := same_upd hl1
            have b1 : (upd H3 l1 (HO.lst (t.map nv))) l1 = some (.lst (t.map nv)) := upd_same
            generalize upd H3 l1 (HO.lst (t.map nv)) = H4 at a1 b1
            refine ⟨_, rfl, (by show 1 ≤ sizeLine; decide), fun l2 hl2 => ?_⟩
            have a2 : Same H4 (upd H4 l2 (.lst [nv p])) := same_upd hl2
            have b2 : (upd H4 l2 (HO.lst [nv p])) l2 = some (.lst [nv p]) := upd_same
            generalize upd H4 l2 (HO.lst [nv p]) = H5 at a2 b2
            refine ⟨l1, l2, _, _, rfl, rfl, a2 _ _ b1, b2, ?_, fun l3 hl3 => ?_⟩
            · rw [List.length_map]
              show t.length + 1 ≤ sizeLine
              exact Nat.le_of_lt (small1000 (by omega))
            have a3 : Same H5 (upd H5 l3 (.lst (t.map nv ++ [nv p]))) := same_upd hl3
            have b3 : (upd H5 l3 (HO.lst (t.map nv ++ [nv p]))) l3 = some (.lst (((t ++ [p]).map (fun n : Nat => (n : Int))).map V.int)) := by
              rw [← sum_nats]
              exact upd_same
            generalize upd H5 l3 (HO.lst (t.map nv ++ [nv p])) = H6 at a3 b3
            refine ⟨l3, _, rfl, SqL.of b3, ?_, fun ns' l4 pm sr hl4 => ?_⟩
            · rw [List.length_map, List.length_append]
              show t.length + 1 < 64
              omega
            obtain ⟨one, rfl, po, so⟩ := nats_of_perm pm sr
            have a4 : Same H6 (upd H6 l4 (.lst ((one.map (fun n : Nat => (n : Int))).map V.int))) := same_upd hl4
            have b4 : (upd H6 l4 (HO.lst ((one.map (fun n : Nat => (n : Int))).map V.int))) l4 = some (.lst (one.map nv)) := by
              rw [← nv_ints]
              exact upd_same
            generalize upd H6 l4 (HO.lst ((one.map (fun n : Nat => (n : Int))).map V.int)) = H7 at a4 b4
            refine ⟨l4, _, rfl, .inl ⟨SqL.of b4, fun o ho => ?_⟩⟩
            exact ⟨o, one, rfl, a1.trans (a2.trans (a3.trans (a4.trans (same_upd ho)))), upd_same, po, so⟩
          rintro _ H4 ⟨o, one, rfl, s8, hone, po, so⟩
          have hway4 := s8 _ _ (s7 _ _ hway)
          have hM4 := s8 _ _ hM
          have hms4 := hms.same s8
          have skip : (p ∈ t ∨ one ∈ more) → ∃ (v5 v6 : Option V) (ms : List Addr) (more : List (List Nat)), [some (V.ref a), some (.ref l), some (.ref th), some (.ref m0), some (.ref tw), some (nv p), some (.ref o)] = [some (.ref a), some (.ref l), some (.ref th), some (.ref m0), some (.ref tw), v5, v6] ∧ Same H' H4 ∧
              H4 m0 = some (.lst (ms.map V.ref)) ∧ rws .tup H4 ms more ∧ PM.More (Lj v (ways.take j) ++ (v.take (m + 1)).map fun p => (t, p)) more := fun hc => by
            refine ⟨_, _, ms, more, rfl, s7.trans s8, hM4, hms4, ?_⟩
            rw [eL]
            rcases hc with e | e
            · exact mo.skip (.inl e)
            · exact mo.skip (.inr ⟨one, e, po⟩)
          refine ⟨_, rfl, _, rfl, tw, _, rfl, .inr (SqT.of hway4), rfl, flat_nats _, !decide (p ∈ t), ?_, ?_⟩
          · rw [if_pos rfl]
            exact congrArg (fun b => V.bl (!b)) (in_nats p t)
          by_cases c1 : p ∈ t
          · rw [decide_eq_true c1]
            exact iteF (iteF (skip (.inl c1)))
          rw [decide_eq_false c1]
          refine iteT ?_
          refine ⟨_, rfl, _, rfl, td one, more.map td, dp_tup hone, Dp.lst (SqL.of hM4) (dp_rows (fun _ _ e => dp_tup e) hms4), td_shaped one, rows_shaped td_lay td_depth more, !decide (one ∈ more), by rw [td_any], ?_⟩
          by_cases c2 : one ∈ more
          · rw [decide_eq_true c2]
            exact iteF (skip (.inr c2))
          rw [decide_eq_false c2]
          refine iteT ⟨_, rfl, .inl ⟨rfl, _, SqL.of hM4⟩, _, rfl, m0, _, _, rfl, rfl, hM4, ?_, ?_⟩
          · rw [List.length_map]
            exact Nat.lt_of_le_of_lt mlen (by decide)
          refine ⟨_, _, ms ++ [o], more ++ [one], rfl, same_to (s7.trans s8) hm0, ?_, ?_, ?_⟩
          · rw [List.map_append]
            exact upd_same
          · have pu := rws.put hone hms4
            exact pu.upd (pu.not_mem hM4 (by intro xs z; cases z))
          · rw [eL]
            exact mo.add c1 po so c2
        · rintro σ H3 ⟨v5, v6, ms, more, rfl, s7, hM, hms, mo⟩
          rw [List.length_map, List.take_length, ← Lj_more ht] at mo
          exact ⟨_, _, _, ms, more, rfl, s7, hM, hms, mo⟩
      · rintro σ H2 ⟨v4, v5, v6, ms, more, rfl, s6, hM, hms, mo⟩
        rw [List.length_map, ll, List.take_length] at mo
        refine ⟨_, rfl, ?_⟩
        refine ⟨_, _, _, _, _, m0, ms, more, rfl, s5.trans s6, hM, hms, ?_⟩
        rw [take_more hv]
        exact W.next mo fun t p => mem_Lj
    · rintro σ H' ⟨v2, v3, v4, v5, v6, l, ls, ways, rfl, s5, hL, hls, W⟩
      rw [List.length_map, tl, List.take_length] at W
      refine ⟨_, rfl, Nat.zero_le _, fun p hp => ?_⟩
      have sp : Same H' (upd H' p (.lst [])) := same_upd hp
      refine ⟨_, _, Dp.lst (SqL.of (sp _ _ hL)) (dp_rows (fun _ _ e => dp_tup e) (hls.same sp)), Dp.lst (SqL.of upd_same) .nil, rows_shaped td_lay td_depth ways, by decide +kernel, ?_⟩
      rw [ne_nil_eqv]
      refine q _ _ (s5.trans sp) ?_
      rw [← W.rep]
      simp
end
/-! ### the law -/
section
variable {P : Program} {w : World} {K : PySem.W.Frag} {mg : Str → Option Value} {base : Heap} {f C CR : Addr} {fd : FuncData}
theorem draw_nat {c k : Int} {N : Nat} (h : 1 ≤ N) : ∃ m : Nat, m < N ∧ drawF c k (N : Int) = (m : Int) := by
  have h0 := drawF_lo (c := c) (k := k) (m := (N : Int)) (by omega)
  have h1 := drawF_hi (c := c) (k := k) (m := (N : Int)) (by omega)
  exact ⟨(drawF c k (N : Int)).toNat, by omega, by omega⟩
/-- five posts beside one another -/
def win (s : Nat) : List Nat := (List.range 5).map (s + ·)
theorem mem_win {s p : Nat} (h1 : s ≤ p) (h2 : p < s + 5) : p ∈ win s := List.mem_map.mpr ⟨p - s, List.mem_range.mpr (by omega), by show s + (p - s) = p; omega⟩
theorem ok_law (B : Bl mg) (G : Gl_ mg CR) (GP : Gp K mg C) (I : Isi K C CR) (F : L2.Fun K "law" "law" s_law f fd) (c__law_cell_at : C8.Cal P w K mg base 1 "_law_cell_at" (spCellAt K) []) (c__law_draw : C8.Cal P w K mg base 1 "_law_draw" spDraw [])
    (c__law_posts : C8.Cal P w K mg base 1 "_law_posts" spLP []) (k_Posts : C8.Mak P w K mg base 5 "Posts" C (spInit C) []) (m_many : C8.Met P w K mg base 1 C "many" (spMany C) []) (m_free : C8.Met P w K mg base 34 C "free" (spFree C) []) :
    FnOk P w K mg base CX0 35 f fd ["_law_script"] (spLaw K) := by
  refine F.ok sc_law (fun vs H Q E h => ?_) (fun cdv A outer s H vs Q E hr h => ?_)
  · obtain ⟨a, ns, rfl, _⟩ := h
    rfl
  · obtain ⟨a, ns, rfl, hS, hlen, k⟩ := h
    refine ⟨_, (C8.pss_cut (ps_set (i := 1) sc_law.nd rfl (Or.inl rfl) (pe_op op_mod (C8.pe_c c__law_cell_at hr (by first | decide | exact Nat.le_refl _ | omega) rfl (pa_cons (pv 0) (pa_cons pe_int pa_nil))) pe_int))
      (C8.pss_cut (ps_set (i := 2) sc_law.nd rfl (Or.inr rfl) (pe_op op_mod (C8.pe_c c__law_cell_at hr (by first | decide | exact Nat.le_refl _ | omega) rfl (pa_cons (pv 0) (pa_cons pe_int pa_nil))) pe_int))
      (pss_cons (ps_set (i := 3) sc_law.nd rfl (Or.inr rfl) (pe_lst pa_nil))
      (pss_cons (ps_for PassesOwn.never rfl (pi_range1 rfl B.range_ (pa_cons (pv 1) pa_nil)) (pg_name (i := 4) sc_law.nd rfl (Or.inl rfl)) (C8.pss_cut (ps_set (i := 5) sc_law.nd rfl (Or.inr rfl) (pe_op op_add (C8.pe_c c__law_cell_at hr (by first | decide | exact Nat.le_refl _ | omega) rfl (pa_cons (pv 0) (pa_cons (pe_op op_add pe_int (pe_op op_mod (pv 4) pe_int)) pa_nil))) (pe_op op_mul pe_int (pv 4))))
      (C8.pss_cut (ps_expr (pe_bm PySem.F.plainAttrs_list PySem.F.slot_list_append PySem.F.type_list_append mt_append (pv 3) (pa_cons (pe_revL (pe_lc (own := [("_law_p", 13)]) rfl sc_law.nd (pi_range1 rfl B.range_ (pa_cons pe_int pa_nil)) (blkOk_by (own := [("_law_p", 13)]) (N := n_law) (sc := defScope s_law) (by decide +kernel)) (fun _ _ _ _ _ => (pg_name (i := 13) sc_law.nd rfl (Or.inl rfl))) (fun _ _ _ _ _ => (pts_one (pt_cmpR op_lt (C8.pe_c c__law_draw hr (by first | decide | exact Nat.le_refl _ | omega) rfl (pa_cons (pe_op op_add (pv 5) (pe_op op_mul pe_int (pv 13))) (pa_cons pe_int (pa_cons pe_int pa_nil)))) pe_int (nomark _)))) (fun _ _ _ _ _ => (pe_op op_add (pv 2) (pv 13))))) pa_nil)))
      (pss_one (ps_if (pt_cmpR op_eq (C8.pe_c c__law_draw hr (by first | decide | exact Nat.le_refl _ | omega) rfl (pa_cons (pv 5) (pa_cons pe_int (pa_cons pe_int pa_nil)))) pe_int (nomark _)) (pss_one (ps_asg (pe_lst (pa_cons (C8.pe_c c__law_draw hr (by first | decide | exact Nat.le_refl _ | omega) rfl (pa_cons (pv 5) (pa_cons pe_int (pa_cons pe_int pa_nil)))) pa_nil)) (pg_sub (pv 3) (pv 4) set_list))) pss_nil)))))
      (pss_cons (ps_setLc (i := 6) (own := [("_law_posts_here", 8)]) rfl sc_law.nd rfl rfl (sw_true rfl rfl rfl (by decide +kernel)) (pi_list (pv 3)) (blkOk_by (own := [("_law_posts_here", 8)]) (N := n_law) (sc := defScope s_law) (by decide +kernel)) (fun _ _ _ _ _ => (pg_name (i := 8) sc_law.nd rfl (Or.inl rfl))) (fun _ _ _ _ _ => pts_nil) (fun _ _ _ _ _ => (pe_callTy (call_lstK (K := K) rfl) (by rfl) B.list_ (by decide +kernel) (pa_cons (pv 8) pa_nil))))
      (pss_cons (ps_set (i := 7) sc_law.nd rfl (Or.inl rfl) (C8.pe_mk k_Posts hr (by decide) rfl (pa_cons (pv 6) pa_nil)))
      (pss_cons (ps_if (PW.pt (pw_or (pt_cmpR (op_neD hr.units) (pv 6) (pv 3) (nomark _)) (pw_or (pt_not (pt_val (pe_callB (call_isiK (K := K) rfl) (by rfl) B.isinstance_ (by decide +kernel) (pa_cons (pv 7) (pa_cons (C8.pe_gc rfl G.Rule) pa_nil))))) (pw_or1 (pt_cmpR op_ne (C8.pe_mt0 (pl := _) m_many hr (by decide) (pv 7)) (pv 1) (nomark _)))))) (pss_one (ps_ret pe_bl)) pss_nil)
      (pss_cons (ps_for PassesOwn.never rfl (pi_list (pv 6)) (pg_name (i := 8) sc_law.nd rfl (Or.inl rfl)) (pss_one (ps_expr (pe_bm0 PySem.F.plainAttrs_list PySem.F.slot_list_clear PySem.F.type_list_clear mt_clear (pv 8)))))
      (pss_cons (ps_for PassesOwn.never rfl (pi_range1 rfl B.range_ (pa_cons pe_int pa_nil)) (pg_name (i := 9) sc_law.nd rfl (Or.inr rfl)) (C8.pss_cut (ps_set (i := 5) sc_law.nd rfl (Or.inr rfl) (pe_op op_add (C8.pe_c c__law_cell_at hr (by first | decide | exact Nat.le_refl _ | omega) rfl (pa_cons (pv 0) (pa_cons (pv 9) pa_nil))) (pe_op op_mul pe_int (pv 9))))
      (C8.pss_cut (ps_setLc (i := 10) (own := [("_law_k", 4)]) rfl sc_law.nd rfl rfl (sw_true rfl rfl rfl (by decide +kernel)) (pi_range1 rfl B.range_ (pa_cons (pv 1) pa_nil)) (blkOk_by (own := [("_law_k", 4)]) (N := n_law) (sc := defScope s_law) (by decide +kernel)) (fun _ _ _ _ _ => (pg_name (i := 4) sc_law.nd rfl (Or.inl rfl))) (fun _ _ _ _ _ => (pts_one (pt_cmpR op_eq (C8.pe_c c__law_draw hr (by first | decide | exact Nat.le_refl _ | omega) rfl (pa_cons (pe_op op_add (pv 5) (pe_op op_mul pe_int (pv 4))) (pa_cons pe_int (pa_cons (pe_op op_add pe_int (pe_op op_mod (pv 9) pe_int)) pa_nil)))) pe_int (nomark _)))) (fun _ _ _ _ _ => (pv 4)))
      (pss_cons (ps_set (i := 11) sc_law.nd rfl (Or.inl rfl) (pe_revL (pv 10)))
      (pss_cons (ps_set (i := 12) sc_law.nd rfl (Or.inl rfl) (C8.pe_mt (pl := _) m_free hr (by decide) (pv 7) (pa_cons (pv 11) pa_nil)))
      (pss_one (ps_if (PW.pt (pw_or (pt_not (pt_val (pe_callB (call_isiK (K := K) rfl) (by rfl) B.isinstance_ (by decide +kernel) (pa_cons (pv 12) (pa_cons (pe_bltn (v := .ty "bool") (u := .type "bool") (by rfl) B.bool_ (by decide +kernel) rfl) pa_nil))))) (pw_or (pt_cmpR op_ne (pv 12) (C8.pe_c c__law_posts hr (by first | decide | exact Nat.le_refl _ | omega) rfl (pa_cons (pe_lc (own := [("_law_k", 4)]) rfl sc_law.nd (pi_list (pv 10)) (blkOk_by (own := [("_law_k", 4)]) (N := n_law) (sc := defScope s_law) (by decide +kernel)) (fun _ _ _ _ _ => (pg_name (i := 4) sc_law.nd rfl (Or.inl rfl))) (fun _ _ _ _ _ => pts_nil) (fun _ _ _ _ _ => (pe_ix (r := rIxL K) ix_list (pv 3) (pv 4) (fun _ _ => rfl)))) pa_nil)) (nomark _)) (pw_or1 (pt_cmpR (op_neD hr.units) (pv 11) (pe_revL (pv 10)) (nomark _)))))) (pss_one (ps_ret pe_bl)) pss_nil)))))))
      (pss_one (ps_ret (pe_cmpR op_isBl (C8.pe_mt (pl := _) m_free hr (by decide) (pv 7) (pa_cons (pe_lst pa_nil) pa_nil)) pe_bl (nomark _))))))))))))), ?_⟩
    -- the count of things, the first post
    have n0 : 0 ≤ cellAt ns 0 % 13 := Int.emod_nonneg _ (by decide)
    have n1 : cellAt ns 0 % 13 < 13 := Int.emod_lt_of_pos _ (by decide)
    obtain ⟨n, en⟩ : ∃ n : Nat, cellAt ns 0 % 13 = (n : Int) := ⟨(cellAt ns 0 % 13).toNat, by omega⟩
    have n13 : n < 13 := by omega
    refine ⟨fun σ' H1 => σ' = [some (.ref a), some (nv n), none, none, none, none, none, none, none, none, none, none, none, none] ∧ H = H1, ?_, ?_⟩
    · refine ⟨_, rfl, a, ns, 0, rfl, hS, _, _, rfl, rfl, (by show (0 : Int) < 13; decide), ?_, rfl⟩
      show [some (V.ref a), some (V.int (cellAt ns 0 % 13)), none, none, none, none, none, none, none, none, none, none, none, none] = _
      rw [en]
    rintro _ _ ⟨rfl, rfl⟩
    have p0 : 0 ≤ cellAt ns 1 % 27 := Int.emod_nonneg _ (by decide)
    have p1 : cellAt ns 1 % 27 < 27 := Int.emod_lt_of_pos _ (by decide)
    obtain ⟨st, eS⟩ : ∃ st : Nat, cellAt ns 1 % 27 = (st : Int) := ⟨(cellAt ns 1 % 27).toNat, by omega⟩
    have st27 : st < 27 := by omega
    refine ⟨fun σ' H1 => σ' = [some (.ref a), some (nv n), some (nv st), none, none, none, none, none, none, none, none, none, none, none] ∧ H = H1, ?_, ?_⟩
    · refine ⟨_, rfl, a, ns, 1, rfl, hS, _, _, rfl, rfl, (by show (0 : Int) < 27; decide), ?_, rfl⟩
      show [some (V.ref a), some (nv n), some (V.int (cellAt ns 1 % 27)), none, none, none, none, none, none, none, none, none, none, none] = _
      rw [eS]
    rintro _ _ ⟨rfl, rfl⟩
    -- wants = []
    refine ⟨Nat.zero_le _, fun R hR => ?_⟩
    refine ⟨_, rfl, _, rfl, by omega, by omega, for_range (lo := 0) (n := (n : Int).toNat) (fun i σ H' => ∃ (vk vc : Option V) (ts : List Addr) (ws : List (List Nat)) (ss : List Nat), σ = [some (.ref a), some (nv n), some (nv st), some (.ref R), vk, vc, none, none, none, none, none, none, none, none] ∧ Same H H' ∧
        H' R = some (.lst (ts.map V.ref)) ∧ rws .lst H' ts ws ∧ R ∉ ts ∧ ws.length = i ∧ (∀ v ∈ ws, PostsOk v) ∧ (∀ v ∈ ws, ∀ p ∈ v, p ∈ win st ++ ss) ∧ ss.length ≤ i)
      ⟨none, none, [], [], [], rfl, same_upd hR, upd_same, True.intro, (fun h => by cases h), rfl, (fun r h => by cases h), (fun r h => by cases h), Nat.le_refl _⟩ ?_ ?_⟩
    · rintro i σ H' hi ⟨vk, vc, ts, ws, ss, rfl, s5, hL, hts, nR, hws, hok, hin, hss⟩
      have hi' : i < n := by omega
      have tl : ts.length = i := by rw [hts.len, hws]
      -- the cell
      refine ⟨fun σ' H1 => ∃ cell : Int, σ' = [some (.ref a), some (nv n), some (nv st), some (.ref R), some (.int (0 + (i : Int))), some (.int cell), none, none, none, none, none, none, none, none] ∧ H' = H1, ?_, ?_⟩
      · refine ⟨_, rfl, _, rfl, _, _, rfl, rfl, (by show (0 : Int) < 9; decide), _, _, rfl, rfl, a, ns, 2 + i % 9, ?_, s5.seq hS, _, rfl, _, _, rfl, rfl, .inl ⟨by decide, by decide⟩, _, _, rfl, rfl, _, rfl, rfl⟩
        show [V.ref a, V.int (2 + (0 + (i : Int)) % 9)] = _
        rw [show (2 + (0 + (i : Int)) % 9) = ((2 + i % 9 : Nat) : Int) by omega]
      rintro _ _ ⟨cell, rfl, rfl⟩
      -- wants.append([first + p for p in range(5) if ..][::-1])
      refine ⟨fun σ' H1 => ∃ (t : Addr) (v : List Nat), σ' = [some (.ref a), some (nv n), some (nv st), some (.ref R), some (.int (0 + (i : Int))), some (.int cell), none, none, none, none, none, none, none, none] ∧ Same H H1 ∧
          H1 R = some (.lst ((ts ++ [t]).map V.ref)) ∧ rws .lst H1 ts ws ∧ H1 t = some (.lst (v.map nv)) ∧ t ≠ R ∧ PostsOk v ∧ (∀ p ∈ v, p ∈ win st), ?_, ?_⟩
      · refine ⟨_, rfl, .inl ⟨rfl, _, SqL.of hL⟩, 5, rfl, by decide, by decide, fun D hD => lc_range (lo := 0) (n := (5 : Int).toNat) (fun j H2 => ∃ qs : List Nat, Same H' H2 ∧ H2 D = some (.lst (qs.map nv)) ∧ (∀ q ∈ qs, st ≤ q ∧ q < st + j) ∧ qs.Nodup ∧ qs.length ≤ j)
          ⟨[], same_upd hD, upd_same, (fun q h => by cases h), List.nodup_nil, Nat.le_refl _⟩ ?_ ?_⟩
        · rintro j H2 hj ⟨qs, s6, hq, qb, qn, ql⟩
          have j5 : j < 5 := hj
          refine ⟨rfl, ?_⟩
          refine ⟨_, rfl, _, rfl, _, _, rfl, rfl, .inl ⟨by decide, by decide⟩, _, _, rfl, rfl, _, 0, 5, rfl, by decide, by decide, by decide, _, _, rfl, rfl, _, rfl, ?_⟩
          refine ite2 (fun _ => ?_) (fun _ => ?_)
          · refine ⟨_, rfl, _, rfl, _, _, rfl, rfl, _, hq, by rw [List.length_map]; exact small1000 (by omega), qs ++ [st + j], same_to s6 hD, ?_, fun q hq' => ?_, ?_, ?_⟩
            · rw [List.map_append]
              refine upd_same.trans ?_
              show some (HO.lst (_ ++ [V.int ((st : Int) + (0 + (j : Int)))])) = _
              rw [show ((st : Int) + (0 + (j : Int))) = ((st + j : Nat) : Int) by omega]
              rfl
            · rcases List.mem_append.mp hq' with e | e
              · have := qb q e
                omega
              · rw [List.mem_singleton.mp e]
                omega
            · rw [List.nodup_append]
              refine ⟨qn, by simp, fun x hx y hy => ?_⟩
              rw [List.mem_singleton.mp hy]
              have := qb x hx
              omega
            · rw [List.length_append]
              show qs.length + 1 ≤ j + 1
              omega
          · exact ⟨qs, s6, hq, fun q hq' => (by have := qb q hq'; omega), qn, by omega⟩
        · rintro H2 ⟨qs, s6, hq, qb, qn, ql⟩
          have q5 : ∀ q ∈ qs, st ≤ q ∧ q < st + 5 := qb
          refine ⟨D, _, rfl, SqL.of hq, fun t ht => ?_⟩
          have s7 : Same H2 (upd H2 t (.lst (qs.map nv).reverse)) := same_upd ht
          have h7 : (upd H2 t (HO.lst (qs.map nv).reverse)) t = some (.lst (qs.reverse.map nv)) := by
            rw [List.map_reverse]
            exact upd_same
          generalize upd H2 t (HO.lst (qs.map nv).reverse) = H3 at s7 h7
          have hL3 := s7 _ _ (s6 _ _ hL)
          have ntR : t ≠ R := (ne_of_none (s6 _ _ hL) ht).symm
          refine ⟨R, _, _, rfl, rfl, hL3, by rw [List.length_map]; exact small1000 (by omega), ?_⟩
          refine ⟨t, qs.reverse, rfl, same_to (s5.trans (s6.trans s7)) hR, ?_, ((hts.same s6).same s7).upd nR, ?_, ntR, ⟨fun q hq' => ?_, (List.reverse_perm qs).nodup_iff.mpr qn⟩, fun q hq' => ?_⟩
          · rw [List.map_append]
            exact upd_same
          · rw [upd_ne ntR]
            exact h7
          · have := q5 q (List.mem_reverse.mp hq')
            omega
          · have := q5 q (List.mem_reverse.mp hq')
            exact mem_win this.1 this.2
      rintro _ H3 ⟨t, v, rfl, s6, hL3, hts3, ht3, ntR, vok, vin⟩
      -- if draw(cell, 1, 9) == 0: wants[k] = [draw(cell, 2, 31)]
      refine ⟨_, rfl, cell, 1, 9, rfl, by decide, by decide, by decide, rfl, _, rfl, ?_⟩
      refine ite2 (fun _ => ?_) (fun _ => ?_)
      · obtain ⟨m, hm, em⟩ := draw_nat (c := cell) (k := 2) (N := 31) (by decide)
        refine ⟨_, rfl, cell, 2, 31, rfl, by decide, by decide, by decide, (by show 1 ≤ sizeLine; decide), fun u hu => ?_⟩
        have su : Same H3 (upd H3 u (.lst [.int (drawF cell 2 31)])) := same_upd hu
        have h4 : (upd H3 u (HO.lst [.int (drawF cell 2 31)])) u = some (.lst ([m].map nv)) := by
          refine upd_same.trans ?_
          show some (HO.lst [V.int (drawF cell 2 ((31 : Nat) : Int))]) = _
          rw [em]
          rfl
        generalize upd H3 u (HO.lst [.int (drawF cell 2 31)]) = H4 at su h4
        have hL4 := su _ _ hL3
        have nuR : u ≠ R := (ne_of_none hL3 hu).symm
        refine ⟨_, rfl, _, rfl, R, _, _, i, rfl, rfl, hL4, ?_, ?_⟩
        · show ixN ((ts ++ [t]).map V.ref).length (0 + (i : Int)) = some i
          rw [List.length_map, List.length_append, tl]
          show ixN (i + 1) (0 + (i : Int)) = some i
          unfold ixN
          rw [if_pos (by omega), if_pos (by omega), Int.zero_add]
          rfl
        have hs : ((ts ++ [t]).map V.ref).set i (V.ref u) = (ts ++ [u]).map V.ref := by
          rw [List.map_append, List.map_append, List.set_append_right _ _ (by rw [List.length_map]; omega), List.length_map, tl, Nat.sub_self]
          rfl
        have nR2 : R ∉ ts ++ [u] := fun h => by
          rcases List.mem_append.mp h with e | e
          · exact nR e
          · exact nuR (List.mem_singleton.mp e).symm
        refine ⟨_, _, ts ++ [u], ws ++ [[m]], ss ++ [m], rfl, same_to (s6.trans su) hR, ?_, (rws.put h4 (hts3.same su)).upd nR2, nR2, by rw [List.length_append, hws]; rfl, fun x hx => ?_, fun x hx p hp => ?_, ?_⟩
        · rw [hs]
          exact upd_same
        · rcases List.mem_append.mp hx with e | e
          · exact hok x e
          · rw [List.mem_singleton.mp e]
            exact ⟨fun y hy => (by rw [List.mem_singleton.mp hy]; exact hm), by simp⟩
        · rcases List.mem_append.mp hx with e | e
          · rcases List.mem_append.mp (hin x e p hp) with c | c
            · exact List.mem_append_left _ c
            · exact List.mem_append_right _ (List.mem_append_left _ c)
          · rw [List.mem_singleton.mp e] at hp
            rw [List.mem_singleton.mp hp]
            exact List.mem_append_right _ (List.mem_append_right _ (List.mem_singleton.mpr rfl))
        · rw [List.length_append]
          show ss.length + 1 ≤ i + 1
          omega
      · have nR2 : R ∉ ts ++ [t] := fun h => by
          rcases List.mem_append.mp h with e | e
          · exact nR e
          · exact ntR (List.mem_singleton.mp e).symm
        refine ⟨_, _, ts ++ [t], ws ++ [v], ss, rfl, s6, hL3, rws.put ht3 hts3, nR2, by rw [List.length_append, hws]; rfl, fun x hx => ?_, fun x hx p hp => ?_, by omega⟩
        · rcases List.mem_append.mp hx with e | e
          · exact hok x e
          · rw [List.mem_singleton.mp e]
            exact vok
        · rcases List.mem_append.mp hx with e | e
          · exact hin x e p hp
          · rw [List.mem_singleton.mp e] at hp
            exact List.mem_append_left _ (vin p hp)
    · rintro σ H1 ⟨vk, vc, ts, ws, ss, rfl, s5, hL, hts, nR, hws, hok, hin, hss⟩
      rw [Int.toNat_natCast] at hws hss
      have tl : ts.length = n := by rw [hts.len, hws]
      -- handed = [list(posts) for posts in wants]
      refine ⟨_, rfl, R, rfl, ⟨_, SqL.of hL⟩, fun l hl => lc_list (K := K) (a := R) (xs := ts.map V.ref) (fun j H2 => Same H1 H2 ∧ ∃ hs, H2 l = some (.lst (hs.map V.ref)) ∧ rws .lst H2 hs (ws.take j) ∧ l ∉ hs ∧ ∀ b ∈ hs, H1 b = none)
        ⟨same_upd hl, [], upd_same, True.intro, (fun h => by cases h), fun b h => by cases h⟩ (fun j H2 _ p => SqL.of (p.1 _ _ hL)) ?_ ?_⟩
      · rintro j y H2 hj ⟨s6, hs, hA, hhs, nl, fr⟩
        obtain ⟨t, ht, rfl⟩ := map_at hj
        obtain ⟨v, hv, hrow⟩ := hts.at ht
        have jl : j < ts.length := (List.getElem?_eq_some_iff.mp ht).1
        have hl2 : hs.length ≤ 16 := by
          rw [hhs.len, List.length_take]
          omega
        refine ⟨rfl, yesT ?_⟩
        refine ⟨_, rfl, t, _, rfl, .inl (SqL.of (s6 _ _ hrow)), fun u hu => ?_⟩
        have su : Same H2 (upd H2 u (.lst (v.map nv))) := same_upd hu
        have h3 : (upd H2 u (HO.lst (v.map nv))) u = some (.lst (v.map nv)) := upd_same
        generalize upd H2 u (HO.lst (v.map nv)) = H3 at su h3
        have nlu : l ≠ u := ne_of_none hA hu
        have nl2 : l ∉ hs ++ [u] := fun h => by
          rcases List.mem_append.mp h with e | e
          · exact nl e
          · exact nlu (List.mem_singleton.mp e)
        refine ⟨_, su _ _ hA, by rw [List.length_map]; exact small1000 (by omega), same_to (s6.trans su) hl, hs ++ [u], ?_, ?_, nl2, fun b hb => ?_⟩
        · rw [List.map_append]
          exact upd_same
        · rw [take_more hv]
          exact (rws.put h3 (hhs.same su)).upd nl2
        · rcases List.mem_append.mp hb with e | e
          · exact fr b e
          · rw [List.mem_singleton.mp e]
            exact s6.free hu
      rintro H2 ⟨e2, hs, hl2, hhs, nl, fr⟩
      rw [List.length_map, hts.len, List.take_length] at hhs
      have hl0 : H l = none := s5.free hl
      have frH : ∀ b ∈ hs, H b = none := fun b hb => s5.free (fr b hb)
      -- rule = Posts(handed)
      refine ⟨_, rfl, fun x dx nx ndx ne => ?_⟩
      have e2x : Same H2 (upd (upd H2 dx (.own x)) x (.ins C dx [])) := fun b o e => by
        rw [upd_ne (ne_of_none e nx), upd_ne (ne_of_none e ndx)]
        exact e
      refine ⟨x, dx, l, hs, ws, rfl, upd_same, e2x _ _ hl2, hhs.same e2x, by omega, hok, fun H3 keep at3 => ⟨rfl, ?_⟩⟩
      have e3 : Same H2 H3 := Same.made nx ndx fun b o e nb => keep b o nb e
      have hR3 := e3 _ _ (e2 _ _ hL)
      have hl3 := e3 _ _ hl2
      have hts3 := (hts.same e2).same e3
      have hhs3 := hhs.same e3
      obtain ⟨d3, t3, hx3, hW3⟩ := id at3
      -- if handed != wants or not isinstance(rule, Rule) or rule.many() != n
      refine ⟨_, rfl, _, rfl, _, _, Dp.lst (SqL.of hl3) (dp_rows (fun _ _ e => dp_row e) hhs3), Dp.lst (SqL.of hR3) (dp_rows (fun _ _ e => dp_row e) hts3), rows_shaped rd_lay rd_depth ws, rows_shaped rd_lay rd_depth ws, false, by rw [rows_same]; rfl, iteF ?_⟩
      refine ⟨_, rfl, _, _, _, _, true, rfl, ClsV.own CR, TyX.base (TyOf.ins hx3 GP.cl I.ha I.hn I.htk I.hm), I.up, true, rfl, iteF ?_⟩
      refine ⟨_, rfl, x, d3, _, rfl, hx3, rfl, x, ws, rfl, at3, _, rfl, rfl, false, ?_, iteF ?_⟩
      · show V.bl (!decide (nv ws.length = nv n)) = _
        rw [hws, decide_eq_true rfl]
        rfl
      -- for posts in handed: posts.clear()
      have s13 : Same H1 H3 := e2.trans e3
      refine ⟨_, rfl, l, rfl, ⟨_, SqL.of hl3⟩, for_list (K := K) (a := l) (xs := hs.map V.ref) (fun j σ H' => ∃ v8 : Option V, σ = [some (.ref a), some (nv n), some (nv st), some (.ref R), vk, vc, some (.ref l), some (.ref x), v8, none, none, none, none, none] ∧ Same H1 H' ∧ H' l = some (.lst (hs.map V.ref)) ∧
          PostsAt C H' x ws ∧ ∀ b ∈ hs, ∃ ys, H' b = some (.lst ys))
        ⟨none, rfl, s13, hl3, at3, fun b hb => (by obtain ⟨v, _, e⟩ := hhs3.mem hb; exact ⟨_, e⟩)⟩ (fun j σ H' _ ⟨_, _, _, h, _⟩ => SqL.of h) ?_ ?_⟩
      · rintro j y σ H' hj ⟨v8, rfl, s6, hl6, at6, lst6⟩
        obtain ⟨b, hb, rfl⟩ := map_at hj
        have bin : b ∈ hs := List.mem_of_getElem? hb
        obtain ⟨ys, hy⟩ := lst6 b bin
        have nlb : l ≠ b := fun e => nl (by rw [e]; exact bin)
        refine ⟨_, rfl, .inl ⟨rfl, _, SqL.of hy⟩, b, _, rfl, rfl, hy, ?_⟩
        refine ⟨_, rfl, same_to s6 (fr b bin), ?_, at6.keep fun c o no e => ?_, fun c hc => ?_⟩
        · rw [upd_ne nlb]
          exact hl6
        · have ncb : c ≠ b := fun z => by
            rw [z, hy] at e
            exact no ys (Option.some.inj e).symm
          rw [upd_ne ncb]
          exact e
        · by_cases z : c = b
          · rw [z]
            exact ⟨_, upd_same⟩
          · obtain ⟨zs, hz⟩ := lst6 c hc
            exact ⟨zs, by rw [upd_ne z]; exact hz⟩
      rintro σ H4 ⟨v8, rfl, s14, hl4, at4, _⟩
      have sH : Same H H4 := s5.trans s14
      have hR4 := s14 _ _ hL
      have hts4 := hts.same s14
      refine ⟨8, rfl, by decide, by decide, for_range (lo := 0) (n := (8 : Int).toNat) (fun i σ H' => ∃ v4 v5 v9 v10 v11 v12 : Option V, σ = [some (.ref a), some (nv n), some (nv st), some (.ref R), v4, v5, some (.ref l), some (.ref x), v8, v9, v10, v11, v12, none] ∧ Same H4 H')
        ⟨_, _, _, _, _, _, rfl, Same.refl _⟩ ?_ ?_⟩
      · rintro i σ H' hi ⟨v4, v5, v9, v10, v11, v12, rfl, s6⟩
        -- the cell
        refine ⟨fun σ' H5 => ∃ cell : Int, σ' = [some (.ref a), some (nv n), some (nv st), some (.ref R), v4, some (.int cell), some (.ref l), some (.ref x), v8, some (.int (0 + (i : Int))), v10, v11, v12, none] ∧ H' = H5, ?_, ?_⟩
        · refine ⟨_, rfl, _, rfl, a, ns, i, ?_, (sH.trans s6).seq hS, _, rfl, _, _, rfl, rfl, .inl ⟨by decide, by decide⟩, _, _, rfl, rfl, _, rfl, rfl⟩
          show [V.ref a, V.int (0 + (i : Int))] = _
          rw [Int.zero_add]
        rintro _ _ ⟨cell, rfl, rfl⟩
        -- some
        refine ⟨fun σ' H5 => ∃ (S : Addr) (ks : List Nat), σ' = [some (.ref a), some (nv n), some (nv st), some (.ref R), v4, some (.int cell), some (.ref l), some (.ref x), v8, some (.int (0 + (i : Int))), some (.ref S), v11, v12, none] ∧ Same H' H5 ∧
            H5 S = some (.lst (ks.map nv)) ∧ ks.Nodup ∧ (∀ k ∈ ks, k < n) ∧ ks.length ≤ n, ?_, ?_⟩
        · refine ⟨_, rfl, _, rfl, by omega, by omega, fun D hD => lc_range (lo := 0) (n := (n : Int).toNat) (fun j H5 => ∃ ks : List Nat, Same H' H5 ∧ H5 D = some (.lst (ks.map nv)) ∧ ks.Nodup ∧ (∀ k ∈ ks, k < j) ∧ ks.length ≤ j)
            ⟨[], same_upd hD, upd_same, List.nodup_nil, fun k h => (by cases h), Nat.le_refl _⟩ ?_ ?_⟩
          · rintro j H5 hj ⟨ks, s7, hK, knd, klt, klen⟩
            refine ⟨rfl, ?_⟩
            refine ⟨_, rfl, _, rfl, _, _, rfl, rfl, .inl ⟨by decide, by decide⟩, _, _, rfl, rfl, _, rfl, _, _, rfl, rfl, (by show (0 : Int) < 3; decide), _, _, rfl, rfl, _, 3, _, rfl, ?_, by decide, by decide, rfl, _, rfl, ?_⟩
            · show (0 : Int) < 2 + (0 + (i : Int)) % 3
              omega
            refine ite2 (fun _ => ?_) (fun _ => ?_)
            · refine ⟨_, rfl, _, hK, by rw [List.length_map]; exact small1000 (by omega), ks ++ [j], same_to s7 hD, ?_, ?_, fun k hk => ?_, ?_⟩
              · rw [List.map_append]
                refine upd_same.trans ?_
                show some (HO.lst (_ ++ [V.int (0 + (j : Int))])) = _
                rw [Int.zero_add]
                rfl
              · rw [List.nodup_append]
                refine ⟨knd, by simp, fun p hp q hq => ?_⟩
                rw [List.mem_singleton.mp hq]
                have := klt p hp
                omega
              · rcases List.mem_append.mp hk with e | e
                · have := klt k e
                  omega
                · rw [List.mem_singleton.mp e]
                  omega
              · rw [List.length_append]
                show ks.length + 1 ≤ j + 1
                omega
            · exact ⟨ks, s7, hK, knd, fun k hk => Nat.lt_succ_of_lt (klt k hk), by omega⟩
          · rintro H5 ⟨ks, s7, hK, knd, klt, klen⟩
            refine ⟨D, ks, rfl, s7, hK, knd, fun k hk => ?_, by omega⟩
            have := klt k hk
            omega
        rintro _ H5 ⟨S, ks, rfl, s7, hK, knd, klt, klen⟩
        -- asked = some[::-1]
        refine ⟨_, rfl, S, _, rfl, SqL.of hK, fun p hp => ?_⟩
        have s8 : Same H5 (upd H5 p (.lst (ks.map nv).reverse)) := same_upd hp
        have hp8 : (upd H5 p (.lst (ks.map nv).reverse)) p = some (.lst (ks.reverse.map nv)) := by
          rw [List.map_reverse]
          exact upd_same
        generalize upd H5 p (.lst (ks.map nv).reverse) = H6 at s8 hp8
        have sX : Same H4 H6 := (s6.trans s7).trans s8
        have at6 := at4.same sX
        obtain ⟨d6, t6, hx6, hW6⟩ := id at6
        -- found = rule.free(asked)
        refine ⟨_, rfl, x, d6, _, rfl, hx6, rfl, _, rfl, x, p, ws, ks.reverse, rfl, at6, hp8, hok, fun k hk => ?_, (List.reverse_perm ks).nodup_iff.mpr knd, by rw [List.length_reverse]; omega, fun H7 b s9 hb => ?_⟩
        · have := klt k (List.mem_reverse.mp hk)
          omega
        have hK7 := s9 _ _ (s8 _ _ hK)
        have hR7 := s9 _ _ (sX _ _ hR4)
        have hp9 := s9 _ _ hp8
        have hts7 := (hts4.same sX).same s9
        refine ⟨_, rfl, _, _, _, _, true, rfl, ClsV.ty _, TyX.base (TyOf.bl _), kit_ty (by decide +kernel), true, rfl, iteF ?_⟩
        refine ⟨_, rfl, _, rfl, S, rfl, ⟨_, SqL.of hK7⟩, fun D hD => lc_list (K := K) (a := S) (xs := ks.map nv) (fun j H8 => Same H7 H8 ∧ ∃ ds, H8 D = some (.lst (ds.map V.ref)) ∧ rws .lst H8 ds ((ks.take j).map (wAt ws)) ∧ D ∉ ds)
          ⟨same_upd hD, [], upd_same, True.intro, fun h => by cases h⟩ (fun j H8 _ p => SqL.of (p.1 _ _ hK7)) ?_ ?_⟩
        · rintro j z H8 hj ⟨s10, ds, hA, hds, nD⟩
          obtain ⟨o, ho, rfl⟩ := map_at hj
          have olt : o < ts.length := by
            have := klt o (List.mem_of_getElem? ho)
            omega
          obtain ⟨v, hv, hrow⟩ := hts7.at (List.getElem?_eq_getElem olt)
          have ee : v = wAt ws o := Option.some.inj (hv.symm.trans (wAt_of (by rw [← hts.len]; exact olt)))
          have hrw : (ts.map V.ref)[o]? = some (V.ref ts[o]) := by
            rw [List.getElem?_map, List.getElem?_eq_getElem olt]
            rfl
          have dl : ds.length ≤ 16 := by
            rw [hds.len, List.length_map, List.length_take]
            omega
          have nDo : D ≠ ts[o] := fun e => by
            rw [← e, hD] at hrow
            cases hrow
          have nD2 : D ∉ ds ++ [ts[o]] := fun h => by
            rcases List.mem_append.mp h with e | e
            · exact nD e
            · exact nDo (List.mem_singleton.mp e)
          refine ⟨rfl, yesT ?_⟩
          refine ⟨_, rfl, _, rfl, R, _, _, _, rfl, rfl, SqL.of (s10 _ _ hR7), atI_nat hrw, _, hA, ?_, same_to s10 hD, ds ++ [ts[o]], ?_, ?_, nD2⟩
          · rw [List.length_map]
            exact small1000 (by omega)
          · rw [List.map_append]
            exact upd_same
          · rw [take_more ho, List.map_append]
            have pu := rws.put (s10 _ _ hrow) hds
            rw [ee] at pu
            exact pu.upd nD2
        · rintro H8 ⟨s10, ds, hA, hds, nD⟩
          rw [List.length_map, List.take_length] at hds
          have hwin : ∀ v ∈ ks.map (wAt ws), ∀ p ∈ v, p ∈ win st ++ ss := fun v hv => by
            obtain ⟨o, ho, rfl⟩ := List.mem_map.mp hv
            exact hin _ (List.mem_of_getElem? (wAt_of (by rw [hws]; exact klt o ho)))
          refine ⟨D, ds, ks.map (wAt ws), win st ++ ss, rfl, hA, hds, by rw [List.length_map]; omega, ?_, hwin, fun H9 b2 s11 hb2 => ⟨rfl, false, ?_, iteF ?_⟩⟩
          · rw [List.length_append]
            show ((List.range 5).map (st + ·)).length + ss.length ≤ 17
            rw [List.length_map, List.length_range]
            omega
          · have ebb : b = b2 := by
              rw [Bool.eq_iff_iff, hb, hb2, PM.rep_iff knd]
              exact PM.free_perm fun x => List.mem_reverse
            show V.bl (!decide (V.bl b = V.bl b2)) = V.bl false
            rw [ebb, decide_eq_true rfl]
            rfl
          have sZ : Same H7 H9 := s10.trans s11
          refine ⟨_, rfl, _, rfl, S, _, rfl, SqL.of (sZ _ _ hK7), fun p2 hp2 => ?_⟩
          have ev2 := eqv_ints (ks.reverse.map (fun n : Nat => (n : Int)))
          have h2 : (upd H9 p2 (HO.lst (ks.map nv).reverse)) p2 = some (.lst (ks.reverse.map nv)) := by
            rw [List.map_reverse]
            exact upd_same
          refine ⟨_, _, Dp.lst (SqL.of (same_upd hp2 _ _ (sZ _ _ hp9))) (dp_nats _), Dp.lst (SqL.of h2) (dp_nats _), PySem.W.ke_shaped_ints _, PySem.W.ke_shaped_ints _, false, by rw [ev2]; rfl, iteF ?_⟩
          exact ⟨_, _, _, _, _, _, rfl, (sX.trans s9).trans (sZ.trans (same_upd hp2))⟩
      · rintro σ H' ⟨v4, v5, v9, v10, v11, v12, rfl, s6⟩
        have at6 := at4.same s6
        obtain ⟨d6, t6, hx6, hW6⟩ := id at6
        refine ⟨_, rfl, x, d6, _, rfl, hx6, rfl, Nat.zero_le _, fun p hp => ?_⟩
        refine ⟨x, p, ws, [], rfl, at6.same (same_upd hp), upd_same, hok, fun k hk => (by cases hk), List.nodup_nil, Nat.zero_le _, fun H7 b s9 hb => ?_⟩
        have eb : b = true := hb.mpr ⟨id, fun x h => (by cases h), fun x h => (by cases h)⟩
        subst eb
        exact ⟨_, _, rfl, rfl, k _⟩
end
theorem all_mk {l : PySem.W.OpenLaw} {w : World} {K : PySem.W.Frag} {h : Heap} {mg : Str → Option Value} {fa f_is_number f_is_within f_check_thing f_check_set f_check_ground f_are_within f_are_posts f_gets_post f__law_cell_at f__law_draw f__law_posts f_law f_Posts___init__ f_Posts_many f_Posts_free C_Posts C_Rule : Addr}
    {od_is_number an_is_number : Option Addr} {sl_is_number : Array (Option Value)} {oc_is_number kV_is_number dc_is_number pm_is_number cd_is_number ct_is_number : Value}
    {od_is_within an_is_within : Option Addr} {sl_is_within : Array (Option Value)} {oc_is_within kV_is_within dc_is_within pm_is_within cd_is_within ct_is_within : Value}
    {od_check_thing an_check_thing : Option Addr} {sl_check_thing : Array (Option Value)} {oc_check_thing kV_check_thing dc_check_thing pm_check_thing cd_check_thing ct_check_thing : Value}
    {od_check_set an_check_set : Option Addr} {sl_check_set : Array (Option Value)} {oc_check_set kV_check_set dc_check_set pm_check_set cd_check_set ct_check_set : Value}
    {od_check_ground an_check_ground : Option Addr} {sl_check_ground : Array (Option Value)} {oc_check_ground kV_check_ground dc_check_ground pm_check_ground cd_check_ground ct_check_ground : Value}
    {od_are_within an_are_within : Option Addr} {sl_are_within : Array (Option Value)} {oc_are_within kV_are_within dc_are_within pm_are_within cd_are_within ct_are_within : Value}
    {od_are_posts an_are_posts : Option Addr} {sl_are_posts : Array (Option Value)} {oc_are_posts kV_are_posts dc_are_posts pm_are_posts cd_are_posts ct_are_posts : Value}
    {od_gets_post an_gets_post : Option Addr} {sl_gets_post : Array (Option Value)} {oc_gets_post kV_gets_post dc_gets_post pm_gets_post cd_gets_post ct_gets_post : Value}
    {od__law_cell_at an__law_cell_at : Option Addr} {sl__law_cell_at : Array (Option Value)} {oc__law_cell_at kV__law_cell_at dc__law_cell_at pm__law_cell_at cd__law_cell_at ct__law_cell_at : Value}
    {od__law_draw an__law_draw : Option Addr} {sl__law_draw : Array (Option Value)} {oc__law_draw kV__law_draw dc__law_draw pm__law_draw cd__law_draw ct__law_draw : Value}
    {od__law_posts an__law_posts : Option Addr} {sl__law_posts : Array (Option Value)} {oc__law_posts kV__law_posts dc__law_posts pm__law_posts cd__law_posts ct__law_posts : Value}
    {od_law an_law : Option Addr} {sl_law : Array (Option Value)} {oc_law kV_law dc_law pm_law cd_law ct_law : Value}
    {od_Posts___init__ an_Posts___init__ : Option Addr} {sl_Posts___init__ : Array (Option Value)} {oc_Posts___init__ kV_Posts___init__ dc_Posts___init__ pm_Posts___init__ cd_Posts___init__ ct_Posts___init__ : Value}
    {od_Posts_many an_Posts_many : Option Addr} {sl_Posts_many : Array (Option Value)} {oc_Posts_many kV_Posts_many dc_Posts_many pm_Posts_many cd_Posts_many ct_Posts_many : Value}
    {od_Posts_free an_Posts_free : Option Addr} {sl_Posts_free : Array (Option Value)} {oc_Posts_free kV_Posts_free dc_Posts_free pm_Posts_free cd_Posts_free ct_Posts_free : Value}
    {t_MOST_THINGS : Tok}
    {t_HIGHEST_POST : Tok} (X : K.In h) (G : h.Ns mainGlobals mg) (hfa : mg "law" = some (.ref fa))
    (aC_Posts : PySem.W.nsIn K mainGlobals "Posts" = some (some (.ref C_Posts)))
    (aC_Rule : PySem.W.nsIn K mainGlobals "Rule" = some (some (.ref C_Rule)))
    (a_is_number : PySem.W.nsIn K mainGlobals "is_number" = some (some (.ref f_is_number)))
    (l_is_number : K.lookup f_is_number = some ⟨oc_is_number, od_is_number, .func (PySem.W.fnOf "is_number" "is_number" (defArgs s_is_number) (defBody s_is_number) (defScope s_is_number) .none kV_is_number dc_is_number pm_is_number an_is_number cd_is_number ct_is_number), sl_is_number⟩)
    (c_is_number : PySem.W.codeIn K cd_is_number "is_number" = true)
    (k_is_number : PySem.W.keepIn K (.ref f_is_number) = true)
    (a_is_within : PySem.W.nsIn K mainGlobals "is_within" = some (some (.ref f_is_within)))
    (l_is_within : K.lookup f_is_within = some ⟨oc_is_within, od_is_within, .func (PySem.W.fnOf "is_within" "is_within" (defArgs s_is_within) (defBody s_is_within) (defScope s_is_within) .none kV_is_within dc_is_within pm_is_within an_is_within cd_is_within ct_is_within), sl_is_within⟩)
    (c_is_within : PySem.W.codeIn K cd_is_within "is_within" = true)
    (k_is_within : PySem.W.keepIn K (.ref f_is_within) = true)
    (a_check_thing : PySem.W.nsIn K mainGlobals "check_thing" = some (some (.ref f_check_thing)))
    (l_check_thing : K.lookup f_check_thing = some ⟨oc_check_thing, od_check_thing, .func (PySem.W.fnOf "check_thing" "check_thing" (defArgs s_check_thing) (defBody s_check_thing) (defScope s_check_thing) .none kV_check_thing dc_check_thing pm_check_thing an_check_thing cd_check_thing ct_check_thing), sl_check_thing⟩)
    (c_check_thing : PySem.W.codeIn K cd_check_thing "check_thing" = true)
    (k_check_thing : PySem.W.keepIn K (.ref f_check_thing) = true)
    (a_check_set : PySem.W.nsIn K mainGlobals "check_set" = some (some (.ref f_check_set)))
    (l_check_set : K.lookup f_check_set = some ⟨oc_check_set, od_check_set, .func (PySem.W.fnOf "check_set" "check_set" (defArgs s_check_set) (defBody s_check_set) (defScope s_check_set) .none kV_check_set dc_check_set pm_check_set an_check_set cd_check_set ct_check_set), sl_check_set⟩)
    (c_check_set : PySem.W.codeIn K cd_check_set "check_set" = true)
    (k_check_set : PySem.W.keepIn K (.ref f_check_set) = true)
    (a_check_ground : PySem.W.nsIn K mainGlobals "check_ground" = some (some (.ref f_check_ground)))
    (l_check_ground : K.lookup f_check_ground = some ⟨oc_check_ground, od_check_ground, .func (PySem.W.fnOf "check_ground" "check_ground" (defArgs s_check_ground) (defBody s_check_ground) (defScope s_check_ground) .none kV_check_ground dc_check_ground pm_check_ground an_check_ground cd_check_ground ct_check_ground), sl_check_ground⟩)
    (c_check_ground : PySem.W.codeIn K cd_check_ground "check_ground" = true)
    (k_check_ground : PySem.W.keepIn K (.ref f_check_ground) = true)
    (a_are_within : PySem.W.nsIn K mainGlobals "are_within" = some (some (.ref f_are_within)))
    (l_are_within : K.lookup f_are_within = some ⟨oc_are_within, od_are_within, .func (PySem.W.fnOf "are_within" "are_within" (defArgs s_are_within) (defBody s_are_within) (defScope s_are_within) .none kV_are_within dc_are_within pm_are_within an_are_within cd_are_within ct_are_within), sl_are_within⟩)
    (c_are_within : PySem.W.codeIn K cd_are_within "are_within" = true)
    (k_are_within : PySem.W.keepIn K (.ref f_are_within) = true)
    (a_are_posts : PySem.W.nsIn K mainGlobals "are_posts" = some (some (.ref f_are_posts)))
    (l_are_posts : K.lookup f_are_posts = some ⟨oc_are_posts, od_are_posts, .func (PySem.W.fnOf "are_posts" "are_posts" (defArgs s_are_posts) (defBody s_are_posts) (defScope s_are_posts) .none kV_are_posts dc_are_posts pm_are_posts an_are_posts cd_are_posts ct_are_posts), sl_are_posts⟩)
    (c_are_posts : PySem.W.codeIn K cd_are_posts "are_posts" = true)
    (k_are_posts : PySem.W.keepIn K (.ref f_are_posts) = true)
    (a_gets_post : PySem.W.nsIn K mainGlobals "gets_post" = some (some (.ref f_gets_post)))
    (l_gets_post : K.lookup f_gets_post = some ⟨oc_gets_post, od_gets_post, .func (PySem.W.fnOf "gets_post" "gets_post" (defArgs s_gets_post) (defBody s_gets_post) (defScope s_gets_post) .none kV_gets_post dc_gets_post pm_gets_post an_gets_post cd_gets_post ct_gets_post), sl_gets_post⟩)
    (c_gets_post : PySem.W.codeIn K cd_gets_post "gets_post" = true)
    (k_gets_post : PySem.W.keepIn K (.ref f_gets_post) = true)
    (a__law_cell_at : PySem.W.nsIn K mainGlobals "_law_cell_at" = some (some (.ref f__law_cell_at)))
    (l__law_cell_at : K.lookup f__law_cell_at = some ⟨oc__law_cell_at, od__law_cell_at, .func (PySem.W.fnOf "_law_cell_at" "_law_cell_at" (defArgs s__law_cell_at) (defBody s__law_cell_at) (defScope s__law_cell_at) .none kV__law_cell_at dc__law_cell_at pm__law_cell_at an__law_cell_at cd__law_cell_at ct__law_cell_at), sl__law_cell_at⟩)
    (c__law_cell_at : PySem.W.codeIn K cd__law_cell_at "_law_cell_at" = true)
    (k__law_cell_at : PySem.W.keepIn K (.ref f__law_cell_at) = true)
    (a__law_draw : PySem.W.nsIn K mainGlobals "_law_draw" = some (some (.ref f__law_draw)))
    (l__law_draw : K.lookup f__law_draw = some ⟨oc__law_draw, od__law_draw, .func (PySem.W.fnOf "_law_draw" "_law_draw" (defArgs s__law_draw) (defBody s__law_draw) (defScope s__law_draw) .none kV__law_draw dc__law_draw pm__law_draw an__law_draw cd__law_draw ct__law_draw), sl__law_draw⟩)
    (c__law_draw : PySem.W.codeIn K cd__law_draw "_law_draw" = true)
    (k__law_draw : PySem.W.keepIn K (.ref f__law_draw) = true)
    (a__law_posts : PySem.W.nsIn K mainGlobals "_law_posts" = some (some (.ref f__law_posts)))
    (l__law_posts : K.lookup f__law_posts = some ⟨oc__law_posts, od__law_posts, .func (PySem.W.fnOf "_law_posts" "_law_posts" (defArgs s__law_posts) (defBody s__law_posts) (defScope s__law_posts) .none kV__law_posts dc__law_posts pm__law_posts an__law_posts cd__law_posts ct__law_posts), sl__law_posts⟩)
    (c__law_posts : PySem.W.codeIn K cd__law_posts "_law_posts" = true)
    (k__law_posts : PySem.W.keepIn K (.ref f__law_posts) = true)
    (a_law : PySem.W.nsIn K mainGlobals "law" = some (some (.ref f_law)))
    (l_law : K.lookup f_law = some ⟨oc_law, od_law, .func (PySem.W.fnOf "law" "law" (defArgs s_law) (defBody s_law) (defScope s_law) .none kV_law dc_law pm_law an_law cd_law ct_law), sl_law⟩)
    (c_law : PySem.W.codeIn K cd_law "law" = true)
    (k_law : PySem.W.keepIn K (.ref f_law) = true)
    (a_Posts___init__ : PySem.W.findIn K (.ref C_Posts) "__init__" = some (some (.ref f_Posts___init__)))
    (i_Posts___init__ : PySem.W.isFn K (.ref f_Posts___init__) = true)
    (l_Posts___init__ : K.lookup f_Posts___init__ = some ⟨oc_Posts___init__, od_Posts___init__, .func (PySem.W.fnOf "__init__" "Posts.__init__" (defArgs s_Posts___init__) (defBody s_Posts___init__) (defScope s_Posts___init__) .none kV_Posts___init__ dc_Posts___init__ pm_Posts___init__ an_Posts___init__ cd_Posts___init__ ct_Posts___init__), sl_Posts___init__⟩)
    (c_Posts___init__ : PySem.W.codeIn K cd_Posts___init__ "Posts.__init__" = true)
    (k_Posts___init__ : PySem.W.keepIn K (.ref f_Posts___init__) = true)
    (a_Posts_many : PySem.W.findIn K (.ref C_Posts) "many" = some (some (.ref f_Posts_many)))
    (i_Posts_many : PySem.W.isFn K (.ref f_Posts_many) = true)
    (l_Posts_many : K.lookup f_Posts_many = some ⟨oc_Posts_many, od_Posts_many, .func (PySem.W.fnOf "many" "Posts.many" (defArgs s_Posts_many) (defBody s_Posts_many) (defScope s_Posts_many) .none kV_Posts_many dc_Posts_many pm_Posts_many an_Posts_many cd_Posts_many ct_Posts_many), sl_Posts_many⟩)
    (c_Posts_many : PySem.W.codeIn K cd_Posts_many "Posts.many" = true)
    (k_Posts_many : PySem.W.keepIn K (.ref f_Posts_many) = true)
    (a_Posts_free : PySem.W.findIn K (.ref C_Posts) "free" = some (some (.ref f_Posts_free)))
    (i_Posts_free : PySem.W.isFn K (.ref f_Posts_free) = true)
    (l_Posts_free : K.lookup f_Posts_free = some ⟨oc_Posts_free, od_Posts_free, .func (PySem.W.fnOf "free" "Posts.free" (defArgs s_Posts_free) (defBody s_Posts_free) (defScope s_Posts_free) .none kV_Posts_free dc_Posts_free pm_Posts_free an_Posts_free cd_Posts_free ct_Posts_free), sl_Posts_free⟩)
    (c_Posts_free : PySem.W.codeIn K cd_Posts_free "Posts.free" = true)
    (k_Posts_free : PySem.W.keepIn K (.ref f_Posts_free) = true)
    (pg_Posts : PySem.W.plainGet K C_Posts Str.empty = true)
    (hd_Posts : PySem.W.hasDictIn K C_Posts = true)
    (po_Posts : PySem.W.plainOver K C_Posts = true)
    (sa_Posts : PySem.W.findIn K (.ref C_Posts) "__setattr__" = some (some (.builtin "object.__setattr__")))
    (mk_Posts : PySem.W.makesIn K C_Posts = true)
    (kc_Posts : PySem.W.keepIn K (.ref C_Posts) = true)
    (n_Posts_wants : PySem.W.findIn K (.ref C_Posts) "wants" = some none)
    (ha_Posts : PySem.W.findIn K (.ref C_Posts) "__class__" = some (some (.builtin "object.__class__")))
    (hn_Posts : PySem.W.specialIn K (.builtin "object.__class__") "__get__" = some (some (.builtin "getset_descriptor.__get__")))
    (ht_Posts : PySem.W.takesIn K (.builtin "object.__class__") = some true)
    (hm_Posts : PySem.W.mroIn K C_Posts (.type "object") = some true)
    (ua_Posts : PySem.W.isClsIn K C_Rule = true)
    (ub_Posts : PySem.W.typeIn K (.ref C_Rule) = some (.type "type"))
    (uc_Posts : PySem.W.subIn K (.ref C_Posts) (.ref C_Rule) = some true)
    (v_MOST_THINGS : PySem.W.nsIn K mainGlobals "MOST_THINGS" = some (some (.int 16 t_MOST_THINGS)))
    (v_HIGHEST_POST : PySem.W.nsIn K mainGlobals "HIGHEST_POST" = some (some (.int 30 t_HIGHEST_POST)))
    (z_isinstance : PySem.W.nsIn K mainGlobals "isinstance" = some none)
    (z_int : PySem.W.nsIn K mainGlobals "int" = some none)
    (z_bool : PySem.W.nsIn K mainGlobals "bool" = some none)
    (z_list : PySem.W.nsIn K mainGlobals "list" = some none)
    (z_tuple : PySem.W.nsIn K mainGlobals "tuple" = some none)
    (z_len : PySem.W.nsIn K mainGlobals "len" = some none)
    (z_all : PySem.W.nsIn K mainGlobals "all" = some none)
    (z_range : PySem.W.nsIn K mainGlobals "range" = some none)
    (z_min : PySem.W.nsIn K mainGlobals "min" = some none)
    (z_sorted : PySem.W.nsIn K mainGlobals "sorted" = some none)
    (z_set : PySem.W.nsIn K mainGlobals "set" = some none)
    : ∃ fd : FuncData, (∀ (s : Shared) (v : Value), BindsTo s fd ⟨[v], []⟩ [("_law_script", v)]) ∧ ∀ base : Heap, K.In base → base.Ns mainGlobals mg → FnOk l.prog w K mg base CX0 35 fa fd ["_law_script"] (spLaw K) := by
  have e := hfa.symm.trans (PySem.W.mg_of X G a_law)
  cases e
  have F_is_number := fun_mk (st := s_is_number) l_is_number c_is_number k_is_number
  have g_is_number := PySem.W.mg_of X G a_is_number
  have F_is_within := fun_mk (st := s_is_within) l_is_within c_is_within k_is_within
  have g_is_within := PySem.W.mg_of X G a_is_within
  have F_check_thing := fun_mk (st := s_check_thing) l_check_thing c_check_thing k_check_thing
  have g_check_thing := PySem.W.mg_of X G a_check_thing
  have F_check_set := fun_mk (st := s_check_set) l_check_set c_check_set k_check_set
  have g_check_set := PySem.W.mg_of X G a_check_set
  have F_check_ground := fun_mk (st := s_check_ground) l_check_ground c_check_ground k_check_ground
  have g_check_ground := PySem.W.mg_of X G a_check_ground
  have F_are_within := fun_mk (st := s_are_within) l_are_within c_are_within k_are_within
  have g_are_within := PySem.W.mg_of X G a_are_within
  have F_are_posts := fun_mk (st := s_are_posts) l_are_posts c_are_posts k_are_posts
  have g_are_posts := PySem.W.mg_of X G a_are_posts
  have F_gets_post := fun_mk (st := s_gets_post) l_gets_post c_gets_post k_gets_post
  have g_gets_post := PySem.W.mg_of X G a_gets_post
  have F__law_cell_at := fun_mk (st := s__law_cell_at) l__law_cell_at c__law_cell_at k__law_cell_at
  have g__law_cell_at := PySem.W.mg_of X G a__law_cell_at
  have F__law_draw := fun_mk (st := s__law_draw) l__law_draw c__law_draw k__law_draw
  have g__law_draw := PySem.W.mg_of X G a__law_draw
  have F__law_posts := fun_mk (st := s__law_posts) l__law_posts c__law_posts k__law_posts
  have g__law_posts := PySem.W.mg_of X G a__law_posts
  have F_law := fun_mk (st := s_law) l_law c_law k_law
  have g_law := PySem.W.mg_of X G a_law
  have F_Posts___init__ := fun_mk (st := s_Posts___init__) l_Posts___init__ c_Posts___init__ k_Posts___init__
  have M_Posts___init__ : Meth K C_Posts "__init__" f_Posts___init__ := ⟨a_Posts___init__, i_Posts___init__, k_Posts___init__⟩
  have F_Posts_many := fun_mk (st := s_Posts_many) l_Posts_many c_Posts_many k_Posts_many
  have M_Posts_many : Meth K C_Posts "many" f_Posts_many := ⟨a_Posts_many, i_Posts_many, k_Posts_many⟩
  have F_Posts_free := fun_mk (st := s_Posts_free) l_Posts_free c_Posts_free k_Posts_free
  have M_Posts_free : Meth K C_Posts "free" f_Posts_free := ⟨a_Posts_free, i_Posts_free, k_Posts_free⟩
  have gC_Posts := PySem.W.mg_of X G aC_Posts
  have o_Posts : Own mg "Posts" C_Posts := ⟨_, gC_Posts, rfl⟩
  have gC_Rule := PySem.W.mg_of X G aC_Rule
  have o_Rule : Own mg "Rule" C_Rule := ⟨_, gC_Rule, rfl⟩
  have cl_Posts : Cls K C_Posts := ⟨pg_Posts, hd_Posts, po_Posts, sa_Posts⟩
  have I_Posts : Isi K C_Posts C_Rule := ⟨ha_Posts, hn_Posts, ht_Posts, hm_Posts, kit_up ua_Posts ub_Posts uc_Posts⟩
  have N_MOST_THINGS : Num mg "MOST_THINGS" 16 := ⟨_, PySem.W.mg_of X G v_MOST_THINGS, ⟨_, rfl⟩⟩
  have N_HIGHEST_POST : Num mg "HIGHEST_POST" 30 := ⟨_, PySem.W.mg_of X G v_HIGHEST_POST, ⟨_, rfl⟩⟩
  have B_isinstance := PySem.W.mg_none_of X G z_isinstance
  have B_int := PySem.W.mg_none_of X G z_int
  have B_bool := PySem.W.mg_none_of X G z_bool
  have B_list := PySem.W.mg_none_of X G z_list
  have B_tuple := PySem.W.mg_none_of X G z_tuple
  have B_len := PySem.W.mg_none_of X G z_len
  have B_all := PySem.W.mg_none_of X G z_all
  have B_range := PySem.W.mg_none_of X G z_range
  have B_min := PySem.W.mg_none_of X G z_min
  have B_sorted := PySem.W.mg_none_of X G z_sorted
  have B_set := PySem.W.mg_none_of X G z_set
  refine ⟨PySem.W.fnOf "law" "law" (defArgs s_law) (defBody s_law) (defScope s_law) .none kV_law dc_law pm_law an_law cd_law ct_law, fun s v => .of_eq rfl, fun base _ _ => ?_⟩
  have B : Bl mg := ⟨B_isinstance, B_int, B_bool, B_list, B_tuple, B_len, B_all, B_range, B_min, B_sorted, B_set⟩
  have GP : Gp K mg C_Posts := ⟨cl_Posts, n_Posts_wants, N_HIGHEST_POST⟩
  have r1 := ok_num (P := l.prog) (w := w) (base := base) B F_is_number g_is_number
  have r2 := ok_within F_is_within g_is_within r1
  have r3 := ok_thing F_check_thing g_check_thing r2
  have r4 := ok_set B F_check_set g_check_set r3
  have r5 := ok_ground (P := l.prog) (w := w) (base := base) B ⟨N_MOST_THINGS⟩ F_check_ground g_check_ground
  have r6 := ok_are B F_are_within g_are_within r2
  have r7 := ok_posts B GP F_are_posts g_are_posts r6
  have r8 := ok_gets (P := l.prog) (w := w) (base := base) F_gets_post g_gets_post 31
  have q1 := ok_init B GP F_Posts___init__ ⟨mk_Posts, a_Posts___init__, i_Posts___init__, kc_Posts⟩ gC_Posts r5 r7
  have q2 := ok_many (P := l.prog) (w := w) (base := base) B GP F_Posts_many M_Posts_many
  have q3 := ok_free B GP F_Posts_free M_Posts_free q2 r4 r8
  have l1 := ok_cellAt (P := l.prog) (w := w) (base := base) B F__law_cell_at g__law_cell_at
  have l2 := ok_draw (P := l.prog) (w := w) (base := base) F__law_draw g__law_draw
  have l3 := ok_lp (P := l.prog) (w := w) (base := base) B F__law_posts g__law_posts
  exact ok_law B ⟨o_Rule⟩ GP I_Posts F_law l1 l2 l3 q1 q2 q3
theorem walk {l : PySem.W.OpenLaw} {q : Program} {loose : List Str} {XP : (Str → Option Value) → Heap → Prop} {YP : World → Heap → Prop} {d : DefRec} {K : Params → PySem.W.Frag} (hn : l.most = some 63) (hdf : d.params.defaults = [])
    (hY : ∀ (w : World) (h : Heap), YP w h → (K w.params).In h)
    (F : ∀ (w : World) (mg : Str → Option Value) (fa : Addr) (h : Heap), (K w.params).In h → h.Ns mainGlobals mg → mg d.name = some (.ref fa) →
      ∃ fd : FuncData, (∀ (s : Shared) (u : Value), BindsTo s fd ⟨[u], []⟩ [("_law_script", u)]) ∧ ∀ base : Heap, (K w.params).In base → base.Ns mainGlobals mg → FnOk l.prog w (K w.params) mg base CX0 35 fa fd ["_law_script"] (spLaw (K w.params))) :
    PySem.W.WalkO q loose XP YP l.row.toRowW d [] (fun f vs => PySem.call f vs) :=
  L2.walk_of (n := 63) (k := 35) (x := "_law_script") (CX := fun _ => CX0) (sp := fun w => spLaw (K w.params)) hn (by decide) hdf ⟨rfl, by decide, by decide⟩ hY F (fun _ _ a ns hl _ hS => ⟨a, ns, rfl, hS, hl, fun _ => rfl⟩) fun _ _ _ _ _ z => z
end Fs
open PySem PySem.W PyProof.Rows in
set_option maxRecDepth 100000 in
set_option maxHeartbeats 0 in
theorem PySem.Challenge.cw_freesets_k03_posts_holds : PySem.Challenge.rw_freesets_k03_posts.Holds := by
  w_on; o_law; k_head; (case hw => w_witness2)
  k_fill
  refine Fs.walk (l := PySem.Challenge.rw_freesets_k03_posts) rfl rfl (fun w h Y => PySem.W.kIn_of Y) ?F
  case F =>
    intro w mg fa h KX G hmg
    refine' Fs.all_mk KX G hmg ?aC_Posts ?aC_Rule ?a_is_number ?l_is_number ?c_is_number ?k_is_number ?a_is_within ?l_is_within ?c_is_within ?k_is_within ?a_check_thing ?l_check_thing ?c_check_thing ?k_check_thing ?a_check_set ?l_check_set ?c_check_set ?k_check_set ?a_check_ground ?l_check_ground ?c_check_ground ?k_check_ground ?a_are_within ?l_are_within ?c_are_within ?k_are_within ?a_are_posts ?l_are_posts ?c_are_posts ?k_are_posts ?a_gets_post ?l_gets_post ?c_gets_post ?k_gets_post ?a__law_cell_at ?l__law_cell_at ?c__law_cell_at ?k__law_cell_at ?a__law_draw ?l__law_draw ?c__law_draw ?k__law_draw ?a__law_posts ?l__law_posts ?c__law_posts ?k__law_posts ?a_law ?l_law ?c_law ?k_law ?a_Posts___init__ ?i_Posts___init__ ?l_Posts___init__ ?c_Posts___init__ ?k_Posts___init__ ?a_Posts_many ?i_Posts_many ?l_Posts_many ?c_Posts_many ?k_Posts_many ?a_Posts_free ?i_Posts_free ?l_Posts_free ?c_Posts_free ?k_Posts_free ?pg_Posts ?hd_Posts ?po_Posts ?sa_Posts ?mk_Posts ?kc_Posts ?n_Posts_wants ?ha_Posts ?hn_Posts ?ht_Posts ?hm_Posts ?ua_Posts ?ub_Posts ?uc_Posts ?v_MOST_THINGS ?v_HIGHEST_POST ?z_isinstance ?z_int ?z_bool ?z_list ?z_tuple ?z_len ?z_all ?z_range ?z_min ?z_sorted ?z_set
    (case aC_Posts => k_is)
    (case aC_Rule => k_is)
    (case a_is_number => k_is)
    (case l_is_number => k_is)
    (case c_is_number => k_is)
    (case k_is_number => k_is)
    (case a_is_within => k_is)
    (case l_is_within => k_is)
    (case c_is_within => k_is)
    (case k_is_within => k_is)
    (case a_check_thing => k_is)
    (case l_check_thing => k_is)
    (case c_check_thing => k_is)
    (case k_check_thing => k_is)
    (case a_check_set => k_is)
    (case l_check_set => k_is)
    (case c_check_set => k_is)
    (case k_check_set => k_is)
    (case a_check_ground => k_is)
    (case l_check_ground => k_is)
    (case c_check_ground => k_is)
    (case k_check_ground => k_is)
    (case a_are_within => k_is)
    (case l_are_within => k_is)
    (case c_are_within => k_is)
    (case k_are_within => k_is)
    (case a_are_posts => k_is)
    (case l_are_posts => k_is)
    (case c_are_posts => k_is)
    (case k_are_posts => k_is)
    (case a_gets_post => k_is)
    (case l_gets_post => k_is)
    (case c_gets_post => k_is)
    (case k_gets_post => k_is)
    (case a__law_cell_at => k_is)
    (case l__law_cell_at => k_is)
    (case c__law_cell_at => k_is)
    (case k__law_cell_at => k_is)
    (case a__law_draw => k_is)
    (case l__law_draw => k_is)
    (case c__law_draw => k_is)
    (case k__law_draw => k_is)
    (case a__law_posts => k_is)
    (case l__law_posts => k_is)
    (case c__law_posts => k_is)
    (case k__law_posts => k_is)
    (case a_law => k_is)
    (case l_law => k_is)
    (case c_law => k_is)
    (case k_law => k_is)
    (case a_Posts___init__ => k_is)
    (case i_Posts___init__ => k_is)
    (case l_Posts___init__ => k_is)
    (case c_Posts___init__ => k_is)
    (case k_Posts___init__ => k_is)
    (case a_Posts_many => k_is)
    (case i_Posts_many => k_is)
    (case l_Posts_many => k_is)
    (case c_Posts_many => k_is)
    (case k_Posts_many => k_is)
    (case a_Posts_free => k_is)
    (case i_Posts_free => k_is)
    (case l_Posts_free => k_is)
    (case c_Posts_free => k_is)
    (case k_Posts_free => k_is)
    (case pg_Posts => k_is)
    (case hd_Posts => k_is)
    (case po_Posts => k_is)
    (case sa_Posts => k_is)
    (case mk_Posts => k_is)
    (case kc_Posts => k_is)
    (case n_Posts_wants => k_is)
    (case ha_Posts => k_is)
    (case hn_Posts => k_is)
    (case ht_Posts => k_is)
    (case hm_Posts => k_is)
    (case ua_Posts => k_is)
    (case ub_Posts => k_is)
    (case uc_Posts => k_is)
    (case v_MOST_THINGS => k_is)
    (case v_HIGHEST_POST => k_is)
    (case z_isinstance => k_is)
    (case z_int => k_is)
    (case z_bool => k_is)
    (case z_list => k_is)
    (case z_tuple => k_is)
    (case z_len => k_is)
    (case z_all => k_is)
    (case z_range => k_is)
    (case z_min => k_is)
    (case z_sorted => k_is)
    (case z_set => k_is)
