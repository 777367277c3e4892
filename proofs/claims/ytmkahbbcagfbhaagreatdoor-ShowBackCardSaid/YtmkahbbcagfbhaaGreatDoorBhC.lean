/-
  Contract of package parse's head: what a name is. No statement is proved here.
-/
import Derived.Test.YtmkahbbcagfbhaaGreatDoorBgC
import Derived.Test.YtmkahbbcagfbhaaGreatDoorNr
import Derived.Test.YtmkahbbcagfbhaaGreatDoorTe
namespace Go.Proofs.YtmkahbbcagfbhaaGreatDoor
open Go.ChangeShapes Go.WideShapes Go.ChangeAt Go.RowKit Go.Shelf
set_option linter.unusedVariables false
attribute [local go_sem] Oper.semAt_some
/-- what is asked where it goes on alone -/
def onlyB (Q : Exit → Act → World → Prop) : Exit → Act → World → Prop
  | .normal, a, w => Q .normal a w
  | _, _, _ => False
theorem onlyB_n {Q : Exit → Act → World → Prop} {a : Act} {w : World} (h : Q .normal a w) : onlyB Q .normal a w := h
theorem wpIn_region_heldB {P : Program} {ops : Array Oper} {Q : Exit → Act → World → Prop} {S : World → Prop} {id n : Nat} {a : Act} {w : World} (hm : P.follows .mixedOrders = true) (hS : S w.drew)
    (h : S w.drew → wpAnyH P .any ops (onlyB Q) S ops.size (Array.replicate ops.size false) a w.drew) : (Code.region id ops true).wpIn Fence.wide n P Q a w :=
  wpIn_mono (wpIn_region_heldW hm hS h) (fun e a w h => by cases e <;> first | exact h | exact h.elim)
theorem ty_list : tyN.toList = [116, 121, 112, 101] := by kernel_rfl
theorem posD_get {s : ByteArray} : ∀ {sg : List (ByteArray × T)} {i : Nat} {t : T}, posD s sg = some (i, t) → ∃ s', sg[i]? = some (s', t)
  | [], i, t, h => by cases h
  | d :: sg, i, t, h => by
    rw [posD] at h
    split at h
    · cases h; exact ⟨d.1, rfl⟩
    · cases hp : posD s sg with
      | none => rw [hp] at h; cases h
      | some p =>
        obtain ⟨j, u⟩ := p
        rw [hp] at h
        cases h
        obtain ⟨s', hs'⟩ := posD_get hp
        exact ⟨s', by simpa using hs'⟩
/-- what a name is, also the one that is the Sort -/
def hdM (sg : List (ByteArray × T)) (bd : List ByteArray) (s : ByteArray) : Except Int T := if s = tyN then .ok (.node 0 0 []) else headM sg bd s
/-- what head tells -/
def HdE (sg : List (ByteArray × T)) (bd : List ByteArray) (s : ByteArray) (w : World) (e : Ending) (w' : World) : Prop :=
  Below w.heap.size w w' ∧ ∃ k g ec, e = .returned (.tuple #[.agg #[.int .i64 k, .int .i64 g, .slice none 0 0], .int .i64 ec]) ∧ ((hdM sg bd s = .ok (.node k g []) ∧ ec = 0) ∨ (hdM sg bd s = .error ec ∧ ec = 2 ∧ k = 0 ∧ g = 0))
theorem Box.one_ {w : World} {b : Nat} {ty : TypeId} {x : Value} (h : Box w b ty #[x]) : w.cell? ⟨b, 0, none⟩ = some x ∧ w.frozen? ⟨b, 0, none⟩ = false := ⟨h.cell 0, h.frozen 0⟩
theorem Box.put3B {w : World} {p : Nat} {ty : TypeId} {x0 x1 x2 : Value} (h : Box w p ty #[x0, x1, x2]) (u0 u1 u2 : Value) : Box (((w.setCell ⟨p, 0, none⟩ u0).setCell ⟨p, 1, none⟩ u1).setCell ⟨p, 2, none⟩ u2) p ty #[u0, u1, u2] := by
  have := ((h.setAt 0 u0).setAt 1 u1).setAt 2 u2
  simpa using this
/-- the boxes at a call's end -/
theorem ends_head {W : World} {D p q : Nat} {k g ec : Int} (hp : Box W p 36 #[.int .i64 k, .int .i64 g, .slice none 0 0]) (hq : Box W q 25 #[.int .i64 ec]) (hK : W.heap[D]? = some (.deferred (some []))) :
    (W.putObj D (.deferred none)).cell? ⟨p, 0, none⟩ = some (.int .i64 k) ∧ (W.putObj D (.deferred none)).cell? ⟨p, 1, none⟩ = some (.int .i64 g) ∧ (W.putObj D (.deferred none)).cell? ⟨p, 2, none⟩ = some (.slice none 0 0) ∧ (W.putObj D (.deferred none)).cell? ⟨q, 0, none⟩ = some (.int .i64 ec) := by
  have e1 := hp.kept (B := 0) (grownBy_putObj' W D (.deferred none)) (fun r e => by cases e; exact ⟨Nat.zero_le _, _, hK, rfl⟩)
  have e2 := hq.kept (B := 0) (grownBy_putObj' W D (.deferred none)) (fun r e => by cases e; exact ⟨Nat.zero_le _, _, hK, rfl⟩)
  exact ⟨e1.cell 0, e1.cell 1, e1.cell 2, e2.cell 0⟩
set_option maxRecDepth 100000 in
set_option maxHeartbeats 8000000 in
theorem pHeadC {b0 R K : Nat} {SA : Option Addr} {sn sc : Nat} {sg : List (ByteArray × T)} {x : List Tk} {w : World} (h : PS b0 R K SA sn sc sg x w) (s : ByteArray) (hs : s.size ≤ maxLen) (ss : List ByteArray) (A : Option Addr) (n c : Nat) (tm : Int) (hN : NL w ss A n c) :
    Calls Tryz.prog 95 #[.pointer (some ⟨R, 0, none⟩), .string s, .agg #[.slice A n c, .int .i64 tm]] w (HdE sg ss.reverse s w) := by
  have hcap := hN.cap
  have hle := hN.le
  unfold maxLen at hcap
  have hlen := hN.len
  by_cases hty : s = tyN
  · have hd : hdM sg ss.reverse s = .ok (.node 0 0 []) := if_pos hty
    have heq : (s.toList == [116, 121, 112, 101]) = true := by rw [← ty_list]; exact (bytes_eqB s tyN).trans (decide_eq_true hty)
    have HD := Lib.hid hd
    clear hN h hd hty
    go_enter Tryz.func95, Tryz.ntmps95
    go_wp2_with fail
    refine bodyPost_ret (v := .tuple #[.agg #[.int .i64 0, .int .i64 0, .slice none 0 0], .int .i64 0]) (by simp [results, Tryz.results95, go_sem]) rfl ?_
    exact ⟨((((Below.refl _ w).alloc (Nat.le_refl _) _).alloc (by simp) _).alloc (by simp; omega) _).alloc (by simp; omega) _, 0, 0, 0, rfl, .inl ⟨HD.out, rfl⟩⟩
  · have hd : hdM sg ss.reverse s = headM sg ss.reverse s := if_neg hty
    have heq : (s.toList == [116, 121, 112, 101]) = false := by rw [← ty_list]; exact (bytes_eqB s tyN).trans (decide_eq_false hty)
    have HH := Lib.hid h
    have HD := Lib.hid hd
    have HS := Lib.hid hs
    have hwr1 : IntKind.i64.wrap ((n : Int) - 1) = (n : Int) - 1 := Go.IntWalk.i64_in _ ⟨by omega, by omega⟩
    have HNL := Lib.hid hN
    clear hd hty h hN hs
    refine (callsIn_wide (n := 8)).1 (callsIn_of_wp_marks Tryz.func95 rfl trivial ?_ rfl)
    simp only [Tryz.ntmps95, List.size_toArray, List.length_cons, List.length_nil, Nat.reduceAdd, Nat.reduceSub, Array.replicate_succ, Array.replicate_zero, List.push_toArray, List.append_toArray, List.nil_append, List.cons_append]
    gi_wp2_with (refine ⟨trivial, ?_⟩; gi_at_call 109; refine (callsIn_wide.2 (backC A n c _)).mono ?_; rintro e w' ⟨rfl, rfl⟩)
    obtain ⟨W0, hW0⟩ : ∃ W0, (((((w.alloc (.cells #[.string s] 9)).alloc (.cells #[.slice A n c, .int .i64 tm] 100)).alloc (.cells #[.int .i64 0, .int .i64 0, .slice none 0 0] 36)).alloc (.cells #[.int .i64 0] 25)).alloc (.cells #[.slice A n c] 98)) = W0 := ⟨_, rfl⟩
    rw [hW0]
    have hbW : Below w.heap.size w W0 := by
      rw [← hW0]; exact (((((Below.refl _ w).alloc (Nat.le_refl _) _).alloc (by simp) _).alloc (by simp; omega) _).alloc (by simp; omega) _).alloc (by simp; omega) _
    have bx0 : Box W0 w.heap.size 9 #[.string s] := by
      rw [← hW0]; exact ((((Box.new w _ _).alloc _).alloc _).alloc _).alloc _
    have bx1 : Box W0 (w.heap.size + 1) 100 #[.slice A n c, .int .i64 tm] := by
      rw [← hW0]; exact ((((Box.new (w.alloc _) _ _).at (b' := w.heap.size + 1) (by simp)).alloc _).alloc _).alloc _
    have bx2 : Box W0 (w.heap.size + 1 + 1) 36 #[.int .i64 0, .int .i64 0, .slice none 0 0] := by
      rw [← hW0]; exact (((Box.new ((w.alloc _).alloc _) _ _).at (b' := w.heap.size + 1 + 1) (by simp)).alloc _).alloc _
    have bx3 : Box W0 (w.heap.size + 1 + 1 + 1) 25 #[.int .i64 0] := by
      rw [← hW0]; exact ((Box.new (((w.alloc _).alloc _).alloc _) _ _).at (b' := w.heap.size + 1 + 1 + 1) (by simp)).alloc _
    have bx4 : Box W0 (w.heap.size + 1 + 1 + 1 + 1) 98 #[.slice A n c] := by
      rw [← hW0]; exact (Box.new ((((w.alloc _).alloc _).alloc _).alloc _) _ _).at (b' := w.heap.size + 1 + 1 + 1 + 1) (by simp)
    have hsz : W0.heap.size = w.heap.size + 5 := by rw [← hW0]; simp
    clear hW0
    refine wpIn_rangeFunc_ownH rfl (by omega) (gf := 124) (lb := #[.pointer (some ⟨w.heap.size + 1 + 1 + 1 + 1, 0, none⟩)]) rfl trivial (enters_of Tryz.func124 (by kernel_rfl) rfl)
      (backStops 7 W0 ss A n c _ (HNL.out.keep hbW) bx4) KB.trans (fun W l o o' _ h1 h2 _ => KB.putObj W l o o' h1 h2) (Below.refl _ _) (fun _ => rfl)
      (fun pre W => Box W w.heap.size 9 #[.string s] ∧ Box W (w.heap.size + 1) 100 #[.slice A n c, .int .i64 tm] ∧ Box W (w.heap.size + 1 + 1) 36 #[.int .i64 0, .int .i64 0, .slice none 0 0] ∧ Box W (w.heap.size + 1 + 1 + 1) 25 #[.int .i64 0] ∧ Hid (∀ y ∈ pre, y.2 ≠ s) ∧ Below w.heap.size w W)
      (fun cd pre W => cd = .ret ∧ Hid (∃ pre0 y, pre = pre0 ++ [y] ∧ (∀ z ∈ pre0, z.2 ≠ s) ∧ y.2 = s ∧ Box W (w.heap.size + 1 + 1) 36 #[.int .i64 4, .int .i64 (IntKind.i64.wrap ((n : Int) - 1 - (y.1 : Nat))), .slice none 0 0] ∧ Box W (w.heap.size + 1 + 1 + 1) 25 #[.int .i64 0] ∧ Below w.heap.size w W))
      (fun s A B row hs hg hr => ⟨hs.1.kept hg hr, hs.2.1.kept hg hr, hs.2.2.1.kept hg hr, hs.2.2.2.1.kept hg hr, hs.2.2.2.2.1, below_kept hs.2.2.2.2.2 hg hr (by omega) hs.2.2.2.2.2.size⟩)
      (fun _ s A B row hs hg hr => by
        obtain ⟨h0, h1⟩ := hs
        obtain ⟨p0, y, h2, h3, h4, h5, h6, h7⟩ := h1.out
        exact ⟨h0, Lib.hid ⟨p0, y, h2, h3, h4, h5.kept hg hr, h6.kept hg hr, below_kept h7 hg hr (by omega) h7.size⟩⟩) ⟨bx0, bx1, bx2, bx3, Lib.hid (fun y hy => by cases hy), hbW⟩
      (fun x a' W => a' = { tmps := #[.pointer (some ⟨R, 0, none⟩), .string s, .agg #[.slice A n c, .int .i64 tm], undef, .pointer (some ⟨w.heap.size, 0, none⟩), .pointer (some ⟨w.heap.size + 1, 0, none⟩), .pointer (some ⟨w.heap.size + 1 + 1, 0, none⟩), .pointer (some ⟨w.heap.size + 1 + 1 + 1, 0, none⟩), .int .i64 (x.1 : Nat), .string x.2, undef, undef, .string s, .bool false, undef, .pointer (some ⟨w.heap.size + 1, 0, none⟩), .slice A n c, .func (.func 124) #[] #[.pointer (some ⟨w.heap.size + 1 + 1 + 1 + 1, 0, none⟩)], .int .i64 (x.1 : Nat), .string x.2, undef, undef, undef, undef, undef, undef, undef, undef, undef, undef, undef, undef, undef, undef, undef, undef, undef, undef, undef, undef, undef, undef, undef, undef, undef, undef, undef, undef, undef, undef, undef, undef, undef, undef, undef, undef, undef], defers := [] })
      (fun _ _ _ A B row hs hg hr => hs) ?assign ?body ?done ?stop
    case assign =>
      rintro l pre x W K hI hK
      simp only [encB, List.zip_toArray, List.zip_cons_cons, List.zip_nil_right, List.foldl_toArray, List.foldl_cons, List.foldl_nil, List.setIfInBounds_toArray, List.set_cons_succ, List.set_cons_zero]
      gi_wp2
      exact hK _ _ (KeepsFrom.refl _ _) (KB.refl _ _ _) hI rfl
    case body =>
      rintro l pre x a' W hl ⟨r, hr⟩ ⟨hb0, hb1, hb2, hb3, hM, hB⟩ rfl hpl
      obtain ⟨c0, f0⟩ := hb0.one_
      have c1 : W.cell? ⟨w.heap.size + 1, 0, none⟩ = some (.slice A n c) := hb1.cell 0
      have l2 := hb2.lt
      have l3 := hb3.lt
      by_cases hxs : x.2 = s
      · have hq : (x.2.toList == s.toList) = true := (bytes_eqB x.2 s).trans (decide_eq_true hxs)
        obtain ⟨d0, d1, d2⟩ := hb2.three
        have g0 := hb2.frozen 0
        have g1 := hb2.frozen 1
        have g2 := hb2.frozen 2
        obtain ⟨d3, g3⟩ := hb3.one_
        obtain ⟨z, hz⟩ : ∃ z, IntKind.i64.wrap ((n : Int) - 1 - (x.1 : Nat)) = z := ⟨_, rfl⟩
        have z2 := hb2.put3B (.int .i64 4) (.int .i64 z) (.slice none 0 0)
        have z3 := (hb3.other3Q (a := w.heap.size + 1 + 1) (by omega) (.int .i64 4) (.int .i64 z) (.slice none 0 0)).set (.int .i64 0)
        have zB := (below_set3Q hB (a := w.heap.size + 1 + 1) (by omega) (.int .i64 4) (.int .i64 z) (.slice none 0 0)).setCell (p := ⟨w.heap.size + 1 + 1 + 1, 0, none⟩) (by dsimp only; omega) (.int .i64 0)
        have z2' := z2.other (a := ⟨w.heap.size + 1 + 1 + 1, 0, none⟩) (by dsimp only; omega) (.int .i64 0)
        have HZ := Lib.hid (show ∃ pre0 y, pre ++ [x] = pre0 ++ [y] ∧ (∀ z ∈ pre0, z.2 ≠ s) ∧ y.2 = s ∧ Box _ (w.heap.size + 1 + 1) 36 #[.int .i64 4, .int .i64 (IntKind.i64.wrap ((n : Int) - 1 - (y.1 : Nat))), .slice none 0 0] ∧ Box _ (w.heap.size + 1 + 1 + 1) 25 #[.int .i64 0] ∧ Below w.heap.size w _ from ⟨pre, x, rfl, hM.out, hxs, by rw [hz]; exact z2', z3, zB⟩)
        clear z2 z3 zB z2' hb0 hb1 hb2 hb3 hB hM
        gi_wp2_with fail
        exact ⟨((KeepsOthers.setCell _ _ _).trans ((KeepsOthers.setCell _ _ _).trans ((KeepsOthers.setCell _ _ _).trans (KeepsOthers.setCell _ _ _)))).from _, rfl, HZ⟩
      · have hq : (x.2.toList == s.toList) = false := (bytes_eqB x.2 s).trans (decide_eq_false hxs)
        have HI := Lib.hid (show ∀ y ∈ pre ++ [x], y.2 ≠ s from fun y hy => by
          rcases List.mem_append.1 hy with hy | hy
          · exact hM.out y hy
          · rw [List.mem_singleton.1 hy]; exact hxs)
        gi_wp2_with fail
        exact ⟨KeepsFrom.refl _ _, KB.refl _ _ _, hb0, hb1, hb2, hb3, HI, hB⟩
    case done =>
      rintro D ys W hD rfl ⟨hb0, hb1, hb2, hb3, hM, hB⟩ hK
      have hnone := bk_none n (by omega) hM.out
      rw [List.take_of_length_le (by omega)] at hnone
      have hp := HH.out.keep hB
      obtain ⟨es, cl, hk, hnum⟩ := hp.mp
      obtain ⟨Ar, nr, cr, hbx, _, _⟩ := hp.box
      have cR : W.cell? ⟨R, 2, none⟩ = some (.map (some K)) := hbx.cell 2
      have c0 : W.cell? ⟨w.heap.size, 0, none⟩ = some (.string s) := hb0.cell 0
      have HLK := Lib.hid (fun (w' : World) (hm : w'.heap[K]? = some (.map es cl)) => look_num HS.out hm hnum)
      have HP := Lib.hid hp
      clear hb0 hb1 hM hp hnum hbx HNL
      cases hpd : posD s sg with
      | none =>
        rw [numD, hpd] at HLK
        have HN := Lib.hid (show headM sg ss.reverse s = .error 2 by rw [headM, hnone, hpd])
        clear hnone hpd
        dsimp only at HLK
        gi_wp2_with fail
        have HKS : Hid (∀ w' : World, Below W.heap.size W w' → (fun w' => w'.cell? ⟨R, 2, none⟩ = some (.map (some K)) ∧ w'.cell? ⟨w.heap.size, 0, none⟩ = some (.string s) ∧ w'.heap[K]? = some (.map es cl)) w') := Lib.hid fun w' h => ⟨(h.cell (cell_ltX cR)).trans cR, (h.cell (cell_ltX c0)).trans c0, (h.block K (Array.getElem?_eq_some_iff.1 hk).1).trans hk⟩
        have hbd : Below W.heap.size W W.drew := (Below.refl _ W).drew
        refine wpIn_region_heldB (S := fun w' => w'.cell? ⟨R, 2, none⟩ = some (.map (some K)) ∧ w'.cell? ⟨w.heap.size, 0, none⟩ = some (.string s) ∧ w'.heap[K]? = some (.map es cl)) (by kernel_rfl) (HKS.out _ hbd) (fun hS => ?_)
        simp only [List.size_toArray, List.length_cons, List.length_nil, Nat.reduceAdd]
        refine wpAnyH_take (i := 0) (v := .pointer (some ⟨R, 0, none⟩)) rfl (by kernel_rfl) (by kernel_rfl) (by kernel_rfl) (fun _ _ _ h => h) (Or.inl ⟨by kernel_rfl, ?_⟩) hS ?_
        · intro w' hSw
          obtain ⟨s0, s1, s2⟩ := hSw
          go_simp
        try simp only [Act.put, List.getElem_toArray, List.getElem_cons_zero, List.setIfInBounds_toArray, List.set_cons_zero, List.set_cons_succ]
        refine wpAnyH_take (i := 1) (v := .pointer (some ⟨R, 0, none⟩)) rfl (by kernel_rfl) (by kernel_rfl) (by kernel_rfl) (fun _ _ _ h => h) (Or.inl ⟨by kernel_rfl, ?_⟩) hS ?_
        · intro w' hSw
          obtain ⟨s0, s1, s2⟩ := hSw
          go_simp
        try simp only [Act.put, List.getElem_toArray, List.getElem_cons_succ, List.getElem_cons_zero, List.setIfInBounds_toArray, List.set_cons_zero, List.set_cons_succ]
        refine wpAnyH_take (i := 2) (v := .pointer (some ⟨R, 2, none⟩)) rfl (by kernel_rfl) (by kernel_rfl) (by kernel_rfl) (fun _ _ _ h => h) (Or.inl ⟨by kernel_rfl, ?_⟩) hS ?_
        · intro w' hSw
          obtain ⟨s0, s1, s2⟩ := hSw
          go_simp
        try simp only [Act.put, List.getElem_toArray, List.getElem_cons_succ, List.getElem_cons_zero, List.setIfInBounds_toArray, List.set_cons_zero, List.set_cons_succ]
        refine wpAnyH_take (i := 3) (v := .map (some K)) rfl (by kernel_rfl) (by kernel_rfl) (by kernel_rfl) (fun _ _ _ h => h) (Or.inl ⟨by kernel_rfl, ?_⟩) hS ?_
        · intro w' hSw
          obtain ⟨s0, s1, s2⟩ := hSw
          go_simp
        try simp only [Act.put, List.getElem_toArray, List.getElem_cons_succ, List.getElem_cons_zero, List.setIfInBounds_toArray, List.set_cons_zero, List.set_cons_succ]
        refine wpAnyH_take (i := 4) (v := .string s) rfl (by kernel_rfl) (by kernel_rfl) (by kernel_rfl) (fun _ _ _ h => h) (Or.inl ⟨by kernel_rfl, ?_⟩) hS ?_
        · intro w' hSw
          obtain ⟨s0, s1, s2⟩ := hSw
          go_simp
        try simp only [Act.put, List.getElem_toArray, List.getElem_cons_succ, List.getElem_cons_zero, List.setIfInBounds_toArray, List.set_cons_zero, List.set_cons_succ]
        refine wpAnyH_take (i := 5) (v := .tuple #[.int .i64 (0 : Nat), .bool false]) rfl (by kernel_rfl) (by kernel_rfl) (by kernel_rfl) (fun _ _ _ h => h) (Or.inl ⟨by kernel_rfl, ?_⟩) hS ?_
        · intro w' hSw
          obtain ⟨s0, s1, s2⟩ := hSw
          have s3 := HLK.out w' s2
          go_simp
        try simp only [Act.put, List.getElem_toArray, List.getElem_cons_succ, List.getElem_cons_zero, List.setIfInBounds_toArray, List.set_cons_zero, List.set_cons_succ]
        refine wpAnyH_take (i := 6) (v := .tuple #[.int .i64 (0 : Nat), .bool false]) rfl (by kernel_rfl) (by kernel_rfl) (by kernel_rfl) (fun _ _ _ h => h) (Or.inl ⟨by kernel_rfl, ?_⟩) hS ?_
        · intro w' hSw
          obtain ⟨s0, s1, s2⟩ := hSw
          go_simp
        try simp only [Act.put, List.getElem_toArray, List.getElem_cons_succ, List.getElem_cons_zero, List.setIfInBounds_toArray, List.set_cons_zero, List.set_cons_succ]
        refine wpAnyH_take (i := 7) (v := .int .i64 (0 : Nat)) rfl (by kernel_rfl) (by kernel_rfl) (by kernel_rfl) (fun _ _ _ h => h) (Or.inl ⟨by kernel_rfl, ?_⟩) hS ?_
        · intro w' hSw
          obtain ⟨s0, s1, s2⟩ := hSw
          go_simp
        try simp only [Act.put, List.getElem_toArray, List.getElem_cons_succ, List.getElem_cons_zero, List.setIfInBounds_toArray, List.set_cons_zero, List.set_cons_succ]
        refine wpAnyH_take (i := 8) (v := .bool false) rfl (by kernel_rfl) (by kernel_rfl) (by kernel_rfl) (fun _ _ _ h => h) (Or.inl ⟨by kernel_rfl, ?_⟩) hS ?_
        · intro w' hSw
          obtain ⟨s0, s1, s2⟩ := hSw
          go_simp
        try simp only [Act.put, List.getElem_toArray, List.getElem_cons_succ, List.getElem_cons_zero, List.setIfInBounds_toArray, List.set_cons_zero, List.set_cons_succ]
        refine wpAnyH_take (i := 9) (v := .int .i64 (0 : Nat)) rfl (by kernel_rfl) (by kernel_rfl) (by kernel_rfl) (fun _ _ _ h => h) (Or.inl ⟨by kernel_rfl, ?_⟩) hS ?_
        · intro w' hSw
          obtain ⟨s0, s1, s2⟩ := hSw
          go_simp
        try simp only [Act.put, List.getElem_toArray, List.getElem_cons_succ, List.getElem_cons_zero, List.setIfInBounds_toArray, List.set_cons_zero, List.set_cons_succ]
        refine wpAnyH_take (i := 10) (v := .bool false) rfl (by kernel_rfl) (by kernel_rfl) (by kernel_rfl) (fun _ _ _ h => h) (Or.inl ⟨by kernel_rfl, ?_⟩) hS ?_
        · intro w' hSw
          obtain ⟨s0, s1, s2⟩ := hSw
          go_simp
        try simp only [Act.put, List.getElem_toArray, List.getElem_cons_succ, List.getElem_cons_zero, List.setIfInBounds_toArray, List.set_cons_zero, List.set_cons_succ]
        refine wpAnyH_done (by kernel_rfl) (onlyB_n ?_) _
        try simp only [List.getElem_toArray, List.getElem_cons_succ, List.getElem_cons_zero, List.setIfInBounds_toArray, List.set_cons_zero, List.set_cons_succ]
        have hK1 : W.drew.heap[D]? = some (.deferred (some [])) := (hbd.block D (Array.getElem?_eq_some_iff.1 hK).1).trans hK
        have hb2' := hb2.keep hbd hb2.lt
        have hb3' := hb3.keep hbd hb3.lt
        have hB1 := hB.trans (hbd.mono hB.size)
        clear hS cR c0 hk hb2 hb3 hB hK hbd HKS
        generalize W.drew = W1 at *
        have z2 := hb2'.put3B (.int .i64 0) (.int .i64 0) (.slice none 0 0)
        have z3 := (hb3'.other3Q (a := w.heap.size + 1 + 1) (by omega) (.int .i64 0) (.int .i64 0) (.slice none 0 0)).set (.int .i64 2)
        have zB := (below_set3Q hB1 (a := w.heap.size + 1 + 1) (by omega) (.int .i64 0) (.int .i64 0) (.slice none 0 0)).setCell (p := ⟨w.heap.size + 1 + 1 + 1, 0, none⟩) (by dsimp only; omega) (.int .i64 2)
        have z2' := z2.other (a := ⟨w.heap.size + 1 + 1 + 1, 0, none⟩) (by dsimp only; omega) (.int .i64 2)
        obtain ⟨d0, d1, d2⟩ := hb2'.three
        have g0 := hb2'.frozen 0
        have g1 := hb2'.frozen 1
        have g2 := hb2'.frozen 2
        obtain ⟨d3, g3⟩ := hb3'.one_
        have hKz := (KeepsOthers.setCell W1 ⟨w.heap.size + 1 + 1, 0, none⟩ (.int .i64 0)).trans ((KeepsOthers.setCell _ ⟨w.heap.size + 1 + 1, 1, none⟩ (.int .i64 0)).trans ((KeepsOthers.setCell _ ⟨w.heap.size + 1 + 1, 2, none⟩ (.slice none 0 0)).trans (KeepsOthers.setCell _ ⟨w.heap.size + 1 + 1 + 1, 0, none⟩ (.int .i64 2))))
        have HE := Lib.hid (And.intro z2' (And.intro z3 (And.intro zB (hKz.same D _ hK1 rfl))))
        have l2 := hb2'.lt
        have l3 := hb3'.lt
        clear z2 z2' z3 zB hKz hb2' hb3' hB1
        gi_wp2_with fail
        obtain ⟨z2, z3, zB, hK9⟩ := HE.out
        have hB' := below_putObj zB (show w.heap.size ≤ D by omega) (.deferred none)
        obtain ⟨e0, e1, e2, e3⟩ := ends_head z2 z3 hK9
        refine ⟨by simp, .inl ⟨_, _, rfl, run_takeDeferred hK9, ?_⟩⟩
        refine ⟨.tuple #[.agg #[.int .i64 0, .int .i64 0, .slice none 0 0], .int .i64 2], by simp [results, Tryz.results95, go_sem, e0, e1, e2, e3], hB', _, _, _, rfl, .inr ⟨HD.out.trans HN.out, rfl, rfl, rfl⟩⟩
      | some p =>
        obtain ⟨i, t⟩ := p
        rw [numD, hpd] at HLK
        have HN := Lib.hid (show headM sg ss.reverse s = .ok (.node (if kiB t = true then 2 else 5) i []) by rw [headM, hnone, hpd])
        obtain ⟨s', hget⟩ := posD_get hpd
        have hin : i < sn := by have := (List.getElem?_eq_some_iff.1 hget).1; have := HP.out.dl.len; omega
        have hsn := HP.out.dl.le
        have hsc := HP.out.dl.cap
        unfold maxLen at hsc
        clear hnone hpd
        dsimp only at HLK
        gi_wp2_with fail
        have HKS : Hid (∀ w' : World, Below W.heap.size W w' → (fun w' => w'.cell? ⟨R, 2, none⟩ = some (.map (some K)) ∧ w'.cell? ⟨w.heap.size, 0, none⟩ = some (.string s) ∧ w'.heap[K]? = some (.map es cl)) w') := Lib.hid fun w' h => ⟨(h.cell (cell_ltX cR)).trans cR, (h.cell (cell_ltX c0)).trans c0, (h.block K (Array.getElem?_eq_some_iff.1 hk).1).trans hk⟩
        have hbd : Below W.heap.size W W.drew := (Below.refl _ W).drew
        refine wpIn_region_heldB (S := fun w' => w'.cell? ⟨R, 2, none⟩ = some (.map (some K)) ∧ w'.cell? ⟨w.heap.size, 0, none⟩ = some (.string s) ∧ w'.heap[K]? = some (.map es cl)) (by kernel_rfl) (HKS.out _ hbd) (fun hS => ?_)
        simp only [List.size_toArray, List.length_cons, List.length_nil, Nat.reduceAdd]
        refine wpAnyH_take (i := 0) (v := .pointer (some ⟨R, 0, none⟩)) rfl (by kernel_rfl) (by kernel_rfl) (by kernel_rfl) (fun _ _ _ h => h) (Or.inl ⟨by kernel_rfl, ?_⟩) hS ?_
        · intro w' hSw
          obtain ⟨s0, s1, s2⟩ := hSw
          go_simp
        try simp only [Act.put, List.getElem_toArray, List.getElem_cons_zero, List.setIfInBounds_toArray, List.set_cons_zero, List.set_cons_succ]
        refine wpAnyH_take (i := 1) (v := .pointer (some ⟨R, 0, none⟩)) rfl (by kernel_rfl) (by kernel_rfl) (by kernel_rfl) (fun _ _ _ h => h) (Or.inl ⟨by kernel_rfl, ?_⟩) hS ?_
        · intro w' hSw
          obtain ⟨s0, s1, s2⟩ := hSw
          go_simp
        try simp only [Act.put, List.getElem_toArray, List.getElem_cons_succ, List.getElem_cons_zero, List.setIfInBounds_toArray, List.set_cons_zero, List.set_cons_succ]
        refine wpAnyH_take (i := 2) (v := .pointer (some ⟨R, 2, none⟩)) rfl (by kernel_rfl) (by kernel_rfl) (by kernel_rfl) (fun _ _ _ h => h) (Or.inl ⟨by kernel_rfl, ?_⟩) hS ?_
        · intro w' hSw
          obtain ⟨s0, s1, s2⟩ := hSw
          go_simp
        try simp only [Act.put, List.getElem_toArray, List.getElem_cons_succ, List.getElem_cons_zero, List.setIfInBounds_toArray, List.set_cons_zero, List.set_cons_succ]
        refine wpAnyH_take (i := 3) (v := .map (some K)) rfl (by kernel_rfl) (by kernel_rfl) (by kernel_rfl) (fun _ _ _ h => h) (Or.inl ⟨by kernel_rfl, ?_⟩) hS ?_
        · intro w' hSw
          obtain ⟨s0, s1, s2⟩ := hSw
          go_simp
        try simp only [Act.put, List.getElem_toArray, List.getElem_cons_succ, List.getElem_cons_zero, List.setIfInBounds_toArray, List.set_cons_zero, List.set_cons_succ]
        refine wpAnyH_take (i := 4) (v := .string s) rfl (by kernel_rfl) (by kernel_rfl) (by kernel_rfl) (fun _ _ _ h => h) (Or.inl ⟨by kernel_rfl, ?_⟩) hS ?_
        · intro w' hSw
          obtain ⟨s0, s1, s2⟩ := hSw
          go_simp
        try simp only [Act.put, List.getElem_toArray, List.getElem_cons_succ, List.getElem_cons_zero, List.setIfInBounds_toArray, List.set_cons_zero, List.set_cons_succ]
        refine wpAnyH_take (i := 5) (v := .tuple #[.int .i64 (i : Nat), .bool true]) rfl (by kernel_rfl) (by kernel_rfl) (by kernel_rfl) (fun _ _ _ h => h) (Or.inl ⟨by kernel_rfl, ?_⟩) hS ?_
        · intro w' hSw
          obtain ⟨s0, s1, s2⟩ := hSw
          have s3 := HLK.out w' s2
          go_simp
        try simp only [Act.put, List.getElem_toArray, List.getElem_cons_succ, List.getElem_cons_zero, List.setIfInBounds_toArray, List.set_cons_zero, List.set_cons_succ]
        refine wpAnyH_take (i := 6) (v := .tuple #[.int .i64 (i : Nat), .bool true]) rfl (by kernel_rfl) (by kernel_rfl) (by kernel_rfl) (fun _ _ _ h => h) (Or.inl ⟨by kernel_rfl, ?_⟩) hS ?_
        · intro w' hSw
          obtain ⟨s0, s1, s2⟩ := hSw
          go_simp
        try simp only [Act.put, List.getElem_toArray, List.getElem_cons_succ, List.getElem_cons_zero, List.setIfInBounds_toArray, List.set_cons_zero, List.set_cons_succ]
        refine wpAnyH_take (i := 7) (v := .int .i64 (i : Nat)) rfl (by kernel_rfl) (by kernel_rfl) (by kernel_rfl) (fun _ _ _ h => h) (Or.inl ⟨by kernel_rfl, ?_⟩) hS ?_
        · intro w' hSw
          obtain ⟨s0, s1, s2⟩ := hSw
          go_simp
        try simp only [Act.put, List.getElem_toArray, List.getElem_cons_succ, List.getElem_cons_zero, List.setIfInBounds_toArray, List.set_cons_zero, List.set_cons_succ]
        refine wpAnyH_take (i := 8) (v := .bool true) rfl (by kernel_rfl) (by kernel_rfl) (by kernel_rfl) (fun _ _ _ h => h) (Or.inl ⟨by kernel_rfl, ?_⟩) hS ?_
        · intro w' hSw
          obtain ⟨s0, s1, s2⟩ := hSw
          go_simp
        try simp only [Act.put, List.getElem_toArray, List.getElem_cons_succ, List.getElem_cons_zero, List.setIfInBounds_toArray, List.set_cons_zero, List.set_cons_succ]
        refine wpAnyH_take (i := 9) (v := .int .i64 (i : Nat)) rfl (by kernel_rfl) (by kernel_rfl) (by kernel_rfl) (fun _ _ _ h => h) (Or.inl ⟨by kernel_rfl, ?_⟩) hS ?_
        · intro w' hSw
          obtain ⟨s0, s1, s2⟩ := hSw
          go_simp
        try simp only [Act.put, List.getElem_toArray, List.getElem_cons_succ, List.getElem_cons_zero, List.setIfInBounds_toArray, List.set_cons_zero, List.set_cons_succ]
        refine wpAnyH_take (i := 10) (v := .bool true) rfl (by kernel_rfl) (by kernel_rfl) (by kernel_rfl) (fun _ _ _ h => h) (Or.inl ⟨by kernel_rfl, ?_⟩) hS ?_
        · intro w' hSw
          obtain ⟨s0, s1, s2⟩ := hSw
          go_simp
        try simp only [Act.put, List.getElem_toArray, List.getElem_cons_succ, List.getElem_cons_zero, List.setIfInBounds_toArray, List.set_cons_zero, List.set_cons_succ]
        refine wpAnyH_done (by kernel_rfl) (onlyB_n ?_) _
        try simp only [List.getElem_toArray, List.getElem_cons_succ, List.getElem_cons_zero, List.setIfInBounds_toArray, List.set_cons_zero, List.set_cons_succ]
        have hK1 : W.drew.heap[D]? = some (.deferred (some [])) := (hbd.block D (Array.getElem?_eq_some_iff.1 hK).1).trans hK
        have hb2' := hb2.keep hbd hb2.lt
        have hb3' := hb3.keep hbd hb3.lt
        have hB1 := hB.trans (hbd.mono hB.size)
        have hp1 := HP.out.keep hbd
        clear hS cR c0 hk hb2 hb3 hB hK hbd HKS HP
        generalize W.drew = W1 at *
        obtain ⟨Ar, nr, cr, hbx, _, _⟩ := hp1.box
        have cS : W1.cell? ⟨R, 1, none⟩ = some (.slice SA sn sc) := hbx.cell 1
        obtain ⟨b1, o1, k1, h1, A1, n1, c1, rfl, _, e0, e1, e2, e3, hr1⟩ := hp1.dl.at_ i _ hget
        have hi0 : (0 : Int) ≤ (i : Int) := by omega
        have hi1 : (i : Int) < (sn : Int) := by omega
        have HKC := Lib.hid (kindC t _ W1 (RdF.rd _ _ hr1))
        have HX := Lib.hid (And.intro hb2' (And.intro hb3' (And.intro hB1 hK1)))
        clear hb2' hb3' hB1 hK1 hr1 hp1 hbx hget
        gi_wp2_with fail
        refine ⟨trivial, ?_⟩
        refine (callsIn_wide.2 HKC.out).mono ?_
        rintro e W2 ⟨rfl, hbk⟩
        obtain ⟨hb2, hb3, hB, hK⟩ := HX.out
        have hb2' := hb2.keep hbk hb2.lt
        have hb3' := hb3.keep hbk hb3.lt
        have hB1 := hB.trans (hbk.mono hB.size)
        have hK1 : W2.heap[D]? = some (.deferred (some [])) := (hbk.block D (Array.getElem?_eq_some_iff.1 hK).1).trans hK
        clear hb2 hb3 hB hK HX HKC cS e0 e1 e2 e3 hbk
        cases hki : kiB t with
        | true =>
          rw [hki] at HN
          have z2 := hb2'.put3B (.int .i64 2) (.int .i64 (i : Nat)) (.slice none 0 0)
          have z3 := (hb3'.other3Q (a := w.heap.size + 1 + 1) (by omega) (.int .i64 2) (.int .i64 (i : Nat)) (.slice none 0 0)).set (.int .i64 0)
          have zB := (below_set3Q hB1 (a := w.heap.size + 1 + 1) (by omega) (.int .i64 2) (.int .i64 (i : Nat)) (.slice none 0 0)).setCell (p := ⟨w.heap.size + 1 + 1 + 1, 0, none⟩) (by dsimp only; omega) (.int .i64 0)
          have z2' := z2.other (a := ⟨w.heap.size + 1 + 1 + 1, 0, none⟩) (by dsimp only; omega) (.int .i64 0)
          obtain ⟨d0, d1, d2⟩ := hb2'.three
          have g0 := hb2'.frozen 0
          have g1 := hb2'.frozen 1
          have g2 := hb2'.frozen 2
          obtain ⟨d3, g3⟩ := hb3'.one_
          have hKz := (KeepsOthers.setCell W2 ⟨w.heap.size + 1 + 1, 0, none⟩ (.int .i64 2)).trans ((KeepsOthers.setCell _ ⟨w.heap.size + 1 + 1, 1, none⟩ (.int .i64 (i : Nat))).trans ((KeepsOthers.setCell _ ⟨w.heap.size + 1 + 1, 2, none⟩ (.slice none 0 0)).trans (KeepsOthers.setCell _ ⟨w.heap.size + 1 + 1 + 1, 0, none⟩ (.int .i64 0))))
          have HE := Lib.hid (And.intro z2' (And.intro z3 (And.intro zB (hKz.same D _ hK1 rfl))))
          have l2 := hb2'.lt
          have l3 := hb3'.lt
          clear z2 z2' z3 zB hKz hb2' hb3' hB1
          gi_wp2_with fail
          obtain ⟨z2, z3, zB, hK9⟩ := HE.out
          have hB' := below_putObj zB (show w.heap.size ≤ D by omega) (.deferred none)
          obtain ⟨e0, e1, e2, e3⟩ := ends_head z2 z3 hK9
          refine ⟨by simp, .inl ⟨_, _, rfl, run_takeDeferred hK9, ?_⟩⟩
          refine ⟨.tuple #[.agg #[.int .i64 2, .int .i64 (i : Nat), .slice none 0 0], .int .i64 0], by simp [results, Tryz.results95, go_sem, e0, e1, e2, e3], hB', _, _, _, rfl, .inl ⟨HD.out.trans HN.out, rfl⟩⟩
        | false =>
          rw [hki] at HN
          have z2 := hb2'.put3B (.int .i64 5) (.int .i64 (i : Nat)) (.slice none 0 0)
          have z3 := (hb3'.other3Q (a := w.heap.size + 1 + 1) (by omega) (.int .i64 5) (.int .i64 (i : Nat)) (.slice none 0 0)).set (.int .i64 0)
          have zB := (below_set3Q hB1 (a := w.heap.size + 1 + 1) (by omega) (.int .i64 5) (.int .i64 (i : Nat)) (.slice none 0 0)).setCell (p := ⟨w.heap.size + 1 + 1 + 1, 0, none⟩) (by dsimp only; omega) (.int .i64 0)
          have z2' := z2.other (a := ⟨w.heap.size + 1 + 1 + 1, 0, none⟩) (by dsimp only; omega) (.int .i64 0)
          obtain ⟨d0, d1, d2⟩ := hb2'.three
          have g0 := hb2'.frozen 0
          have g1 := hb2'.frozen 1
          have g2 := hb2'.frozen 2
          obtain ⟨d3, g3⟩ := hb3'.one_
          have hKz := (KeepsOthers.setCell W2 ⟨w.heap.size + 1 + 1, 0, none⟩ (.int .i64 5)).trans ((KeepsOthers.setCell _ ⟨w.heap.size + 1 + 1, 1, none⟩ (.int .i64 (i : Nat))).trans ((KeepsOthers.setCell _ ⟨w.heap.size + 1 + 1, 2, none⟩ (.slice none 0 0)).trans (KeepsOthers.setCell _ ⟨w.heap.size + 1 + 1 + 1, 0, none⟩ (.int .i64 0))))
          have HE := Lib.hid (And.intro z2' (And.intro z3 (And.intro zB (hKz.same D _ hK1 rfl))))
          have l2 := hb2'.lt
          have l3 := hb3'.lt
          clear z2 z2' z3 zB hKz hb2' hb3' hB1
          gi_wp2_with fail
          obtain ⟨z2, z3, zB, hK9⟩ := HE.out
          have hB' := below_putObj zB (show w.heap.size ≤ D by omega) (.deferred none)
          obtain ⟨e0, e1, e2, e3⟩ := ends_head z2 z3 hK9
          refine ⟨by simp, .inl ⟨_, _, rfl, run_takeDeferred hK9, ?_⟩⟩
          refine ⟨.tuple #[.agg #[.int .i64 5, .int .i64 (i : Nat), .slice none 0 0], .int .i64 0], by simp [results, Tryz.results95, go_sem, e0, e1, e2, e3], hB', _, _, _, rfl, .inl ⟨HD.out.trans HN.out, rfl⟩⟩
    case stop =>
      rintro D cd pre W hD ⟨r, hr⟩ ⟨rfl, hI⟩ hK
      obtain ⟨pre0, y, rfl, h3, h4, hb2, hb3, hB⟩ := hI.out
      rw [List.append_assoc] at hr
      obtain ⟨h5, h6⟩ := bk_some h4 n pre0 (by omega) hr.symm h3
      rw [List.take_of_length_le (by omega)] at h6
      rw [show IntKind.i64.wrap ((n : Int) - 1 - (y.1 : Nat)) = (n : Int) - 1 - (y.1 : Nat) from Go.IntWalk.i64_in _ ⟨by omega, by omega⟩] at hb2
      gi_wp2
      have hB' := below_putObj hB (show w.heap.size ≤ D by omega) (.deferred none)
      obtain ⟨e0, e1, e2, e3⟩ := ends_head hb2 hb3 hK
      refine ⟨by simp, .inl ⟨_, _, rfl, run_takeDeferred hK, ?_⟩⟩
      refine ⟨.tuple #[.agg #[.int .i64 4, .int .i64 ((n : Int) - 1 - (y.1 : Nat)), .slice none 0 0], .int .i64 0], by simp [results, Tryz.results95, go_sem, e0, e1, e2, e3], hB', _, _, _, rfl, .inl ⟨?_, rfl⟩⟩
      rw [HD.out, headM, h6]
      show Except.ok _ = _
      rw [show (n : Int) - 1 - (y.1 : Nat) = ((n - 1 - y.1 : Nat) : Int) by omega]
end Go.Proofs.YtmkahbbcagfbhaaGreatDoor
