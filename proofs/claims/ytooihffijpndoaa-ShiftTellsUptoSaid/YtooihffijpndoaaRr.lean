/-
  Contract of the document's own down.
-/
import Derived.Test.YtooihffijpndoaaRq
namespace Go.Proofs.Ytooihffijpndoaa
open Go.ChangeShapes Go.WideShapes Go.ChangeAt Go.RowKit
set_option linter.unusedVariables false

mutual
def dnW (b : Int) : T → Int → Option T
  | .node k h xs, f => if k = 4 ∧ f ≤ h ∧ h < wrap64 (f + b) then none else (dnWL b k xs.length xs 0 f).map (.node k (if k = 4 ∧ f ≤ h then wrap64 (h - b) else h))
def dnWL (b k : Int) (n : Nat) : List T → Nat → Int → Option (List T)
  | [], _, _ => some []
  | t :: ts, i, f => (dnW b t (wrap64 (f + bd k n i))).bind fun u => (dnWL b k n ts (i + 1) f).map (u :: ·)
end
theorem dnWL_none {b k : Int} {n : Nat} {t : T} {ts : List T} {i : Nat} {f : Int} (h : dnW b t (wrap64 (f + bd k n i)) = none) : dnWL b k n (t :: ts) i f = none := by rw [dnWL, h]; rfl
theorem dnWL_some {b k : Int} {n : Nat} {t u : T} {ts : List T} {i : Nat} {f : Int} (h : dnW b t (wrap64 (f + bd k n i)) = some u) : dnWL b k n (t :: ts) i f = (dnWL b k n ts (i + 1) f).map (u :: ·) := by rw [dnWL, h]; rfl

/-- what is told: a term in new memory and true, or noughts and false -/
def DOut (o : Option T) (ok : Nat → Prop) (w' : World) (v : Value) (bo : Bool) : Prop :=
  (∃ t, o = some t ∧ bo = true ∧ RdF ok w' t v) ∨ (o = none ∧ bo = false ∧ v = .agg #[.int .i64 0, .int .i64 0, .slice none 0 0])
theorem DOut.move {o : Option T} {ok ok' : Nat → Prop} {w w' : World} {v : Value} {bo : Bool} (h : DOut o ok w v bo) (hok : ∀ b, ok b → ok' b) (hm : ∀ b, ok b → b < w.heap.size → w'.heap[b]? = w.heap[b]?) : DOut o ok' w' v bo := by
  rcases h with ⟨t, h1, h2, h3⟩ | h
  · exact .inl ⟨t, h1, h2, RdF.move hok hm _ _ h3⟩
  · exact .inr h
def DEnd (o : Option T) (w : World) (e : Ending) (w' : World) : Prop :=
  ∃ k h A n c bo, e = .returned (.tuple #[.agg #[.int .i64 k, .int .i64 h, .slice A n c], .bool bo]) ∧ DOut o (fun g => w.heap.size ≤ g ∧ g < w'.heap.size) w' (.agg #[.int .i64 k, .int .i64 h, .slice A n c]) bo ∧ Below w.heap.size w w'

/-- what a round of the document's down reads -/
def SDn (z : Nat) (k h : Int) (bA oA n c j : Nat) (k2 h2 : Int) (A2 : Option Addr) (n2 c2 : Nat) (w' : World) : Prop :=
  w'.cell? ⟨z, 0, none⟩ = some (.int .i64 k) ∧ w'.cell? ⟨z, 1, none⟩ = some (.int .i64 h) ∧ w'.cell? ⟨z, 2, none⟩ = some (.slice (some ⟨bA, oA, none⟩) n c) ∧ w'.cell? ⟨bA, oA + j * 3, none⟩ = some (.int .i64 k2) ∧
    w'.cell? ⟨bA, oA + j * 3 + 1, none⟩ = some (.int .i64 h2) ∧ w'.cell? ⟨bA, oA + j * 3 + 2, none⟩ = some (.slice A2 n2 c2)

theorem Box.set3 {w : World} {p : Nat} {ty : TypeId} {x0 x1 x2 : Value} (h : Box w p ty #[x0, x1, x2]) (u0 u1 u2 : Value) : Box (((w.setCell ⟨p, 0, none⟩ u0).setCell ⟨p, 1, none⟩ u1).setCell ⟨p, 2, none⟩ u2) p ty #[u0, u1, u2] := by
  simpa using ((h.setAt 0 u0).setAt 1 u1).setAt 2 u2

set_option maxRecDepth 100000 in
set_option maxHeartbeats 16000000 in
theorem refDown (t : T) : ∀ (b f : Int) (v : Value) (w : World), Rd w t v → nd t ≤ 1048576 → Calls Try.prog 35 #[v, .int .i64 b, .int .i64 f] w (DEnd (dnW b t f) w) := by
  induction t using T.ind with
  | step k h xs ih =>
    intro b f v w hv hnd
    obtain ⟨A, n, c, rfl, hk, hh, hn, hc, hm, hx⟩ := Rd_node.1 hv
    clear hv
    have HMM := Lib.hid hm
    unfold maxLen at hm
    have hnd' : n ≤ 1048576 ∧ ∀ t ∈ xs, nd t ≤ 1048576 := by
      rw [nd] at hnd
      have := (wdL_nd xs).2
      exact ⟨by omega, fun t ht => by have := nd_mem ht; omega⟩
    obtain ⟨hn20, hnds⟩ := hnd'
    clear hnd
    have HND := Lib.hid hnds; clear hnds
    have HN := Lib.hid hn; clear hn
    have HX := Lib.hid hx; clear hx
    have IH := Lib.hid ih; clear ih
    by_cases hout : k = 4 ∧ f ≤ h ∧ h < wrap64 (f + b)
    · have HU : Hid (dnW b (.node k h xs) f = none) := Lib.hid (by rw [dnW, if_pos hout])
      obtain ⟨hk4, hf, hl⟩ := hout
      have e1 : (k == 4) = true := by simpa using hk4
      have d1 : decide (f ≤ h) = true := by simpa using hf
      have d2 : decide (h < wrap64 (f + b)) = true := by simpa using hl
      clear hk4 hf hl
      generalize dnW b (.node k h xs) f = D at *
      go_enter Try.func35, Try.ntmps35
      go_wp2_with fail
      refine bodyPost_ret (v := .tuple #[.agg #[.int .i64 0, .int .i64 0, .slice none 0 0], .bool false]) (by simp [results, Try.results35, go_sem]) rfl ?_
      exact ⟨0, 0, none, 0, 0, false, rfl, .inr ⟨HU.out, rfl, rfl⟩, (((Below.refl _ _).alloc (Nat.le_refl _) _).alloc (by simp) _).alloc (by simp; omega) _⟩
    obtain ⟨h', hh', hwf⟩ : ∃ h', dnW b (.node k h xs) f = (dnWL b k xs.length xs 0 f).map (.node k h') ∧ h' = (if k = 4 ∧ f ≤ h then wrap64 (h - b) else h) := ⟨_, by rw [dnW, if_neg hout], rfl⟩
    have HU := Lib.hid hh'; clear hh'
    have HWF := Lib.hid (show h' = (if k = 4 ∧ f ≤ h then wrap64 (h - b) else h) from hwf)
    have hwf2 : (Lit.int .i64 h').wf = true := by
      rw [hwf]; split
      · exact wf_wrap64 _
      · exact hh
    clear hwf
    have hcase : k ≠ 4 ∨ (k = 4 ∧ h < f) ∨ (k = 4 ∧ f ≤ h ∧ ¬ h < wrap64 (f + b)) := by omega
    clear hout
    generalize dnW b (.node k h xs) f = D at *
    rcases hcase with hk4 | ⟨hk4, hf⟩ | ⟨hk4, hf, hl⟩
    have e1 : (k == 4) = false := by simpa using hk4
    have hh0 : h' = h := by rw [HWF.out, if_neg (by omega)]
    clear hk4 HWF
    have HH0 := Lib.hid hh0; clear hh0
    go_enter Try.func35, Try.ntmps35
    go_wp2_with fail
    obtain ⟨W, hW⟩ : ∃ W, ((w.alloc (.cells #[.int .i64 k, .int .i64 h, .slice A n c] 24)).alloc (.cells #[.int .i64 0, .int .i64 0, .slice none 0 0] 24)).alloc (.cells #[.int .i64 k, .int .i64 h, .slice none 0 0] 24) = W := ⟨_, rfl⟩
    rw [hW]
    have hb : Below w.heap.size w W := by rw [← hW]; exact (((Below.refl _ _).alloc (Nat.le_refl _) _).alloc (by simp) _).alloc (by simp; omega) _
    have x1 : Box W w.heap.size 24 #[.int .i64 k, .int .i64 h, .slice A n c] := by rw [← hW]; exact ((Box.new _ _ _).alloc _).alloc _
    have x2 : Box W (w.heap.size + 1) 24 #[.int .i64 0, .int .i64 0, .slice none 0 0] := by rw [← hW]; exact ((Box.new (w.alloc _) _ _).at (by simp)).alloc _
    have x3 : Box W (w.heap.size + 1 + 1) 24 #[.int .i64 k, .int .i64 h', .slice none 0 0] := by rw [HH0.out]; rw [← hW]; exact (Box.new ((w.alloc _).alloc _) _ _).at (by simp)
    clear hW e1 HH0
    rotate_left 1
    have e1 : (k == 4) = true := by simpa using hk4
    have d1 : decide (f ≤ h) = false := by simpa using hf
    have hh0 : h' = h := by rw [HWF.out, if_neg (by omega)]
    clear hf
    clear hk4 HWF
    have HH0 := Lib.hid hh0; clear hh0
    go_enter Try.func35, Try.ntmps35
    go_wp2_with fail
    obtain ⟨W, hW⟩ : ∃ W, ((w.alloc (.cells #[.int .i64 k, .int .i64 h, .slice A n c] 24)).alloc (.cells #[.int .i64 0, .int .i64 0, .slice none 0 0] 24)).alloc (.cells #[.int .i64 k, .int .i64 h, .slice none 0 0] 24) = W := ⟨_, rfl⟩
    rw [hW]
    have hb : Below w.heap.size w W := by rw [← hW]; exact (((Below.refl _ _).alloc (Nat.le_refl _) _).alloc (by simp) _).alloc (by simp; omega) _
    have x1 : Box W w.heap.size 24 #[.int .i64 k, .int .i64 h, .slice A n c] := by rw [← hW]; exact ((Box.new _ _ _).alloc _).alloc _
    have x2 : Box W (w.heap.size + 1) 24 #[.int .i64 0, .int .i64 0, .slice none 0 0] := by rw [← hW]; exact ((Box.new (w.alloc _) _ _).at (by simp)).alloc _
    have x3 : Box W (w.heap.size + 1 + 1) 24 #[.int .i64 k, .int .i64 h', .slice none 0 0] := by rw [HH0.out]; rw [← hW]; exact (Box.new ((w.alloc _).alloc _) _ _).at (by simp)
    clear hW e1 d1 HH0
    rotate_left 1
    have e1 : (k == 4) = true := by simpa using hk4
    have d1 : decide (f ≤ h) = true := by simpa using hf
    have d2 : decide (h < wrap64 (f + b)) = false := by simpa using hl
    have hh0 : h' = wrap64 (h - b) := by rw [HWF.out, if_pos ⟨hk4, hf⟩]
    have hsum : IntKind.i64.wrap (h - b) = h' := by rw [hh0]; exact wrapEq _
    clear hf hh0 hl
    have HK4 := Lib.hid hk4
    clear hk4 HWF
    go_enter Try.func35, Try.ntmps35
    go_wp2_with fail
    obtain ⟨W, hW⟩ : ∃ W, ((w.alloc (.cells #[.int .i64 4, .int .i64 h, .slice A n c] 24)).alloc (.cells #[.int .i64 0, .int .i64 0, .slice none 0 0] 24)).alloc (.cells #[.int .i64 4, .int .i64 h', .slice none 0 0] 24) = W := ⟨_, rfl⟩
    rw [hW]
    have hb : Below w.heap.size w W := by rw [← hW]; exact (((Below.refl _ _).alloc (Nat.le_refl _) _).alloc (by simp) _).alloc (by simp; omega) _
    have x1 : Box W w.heap.size 24 #[.int .i64 k, .int .i64 h, .slice A n c] := by rw [HK4.out]; rw [← hW]; exact ((Box.new _ _ _).alloc _).alloc _
    have x2 : Box W (w.heap.size + 1) 24 #[.int .i64 0, .int .i64 0, .slice none 0 0] := by rw [← hW]; exact ((Box.new (w.alloc _) _ _).at (by simp)).alloc _
    have x3 : Box W (w.heap.size + 1 + 1) 24 #[.int .i64 k, .int .i64 h', .slice none 0 0] := by rw [HK4.out]; rw [← hW]; exact (Box.new ((w.alloc _).alloc _) _ _).at (by simp)
    clear hW e1 d1 hsum d2 HK4
    rotate_left 1
    all_goals
      go_loopw [9] (fun i wr => ∃ (j : Nat) (Av : Option Addr) (cv : Nat) (cs : List Value) (ys : List T), j ≤ n ∧ i = .int .i64 j ∧ Box wr w.heap.size 24 #[.int .i64 k, .int .i64 h, .slice A n c] ∧
        Box wr (w.heap.size + 1) 24 #[.int .i64 0, .int .i64 0, .slice none 0 0] ∧ Box wr (w.heap.size + 1 + 1) 24 #[.int .i64 k, .int .i64 h', .slice Av j cv] ∧
        Hid (wr.ownsRow (w.heap.size + 1 + 1 + 1) 24 3 (.slice Av j cv) j cs) ∧ Hid (ys.length = j ∧ dnWL b k xs.length xs 0 f = (dnWL b k xs.length (xs.drop j) j f).map (ys ++ ·)) ∧
        Hid (KidL wr (fun g => w.heap.size + 1 + 1 + 1 ≤ g ∧ g < wr.heap.size ∧ some g ≠ Value.ownBlock (.slice Av j cv)) cs ys) ∧ Below w.heap.size w wr) (fun i _ => n - (intOf i).toNat)
      case atStart => exact ⟨0, none, 0, [], [], Nat.zero_le _, rfl, x1, x2, x3, Lib.hid (World.ownsRow_nil _ _ _ _), Lib.hid ⟨rfl, by simp⟩, Lib.hid (fun i t ht => by simp at ht), hb⟩
      case round =>
        obtain ⟨j, Av, cv, cs, ys, hj, rfl, y1, y2, y3, HOW, HP, HK, hbr⟩ := hrel
        clear x1 x2 x3 hb
        obtain ⟨a0, a1, a2⟩ := y1.three
        by_cases hlt : j < n
        · obtain ⟨t, ht⟩ := at_of HN.out hlt
          obtain ⟨bA, oA, k2, h2, A2, n2, c2', rfl, c0, c1, c2, hr⟩ := (RdAt.keep hbr (HX.out j t ht)).full
          have HT := Lib.hid ht; clear ht
          have HR := Lib.hid hr; clear hr
          have hi0 : (0 : Int) ≤ j := by omega
          have hi1 : (j : Int) < n := by omega
          have l3 := y3.lt
          go_wp2_with fail
          have HKS : Hid (∀ w' : World, Below wr.heap.size wr w' → SDn w.heap.size k h bA oA n c j k2 h2 A2 n2 c2' w') := Lib.hid fun w' hw' => by
            have s1 := y1.keep hw' y1.lt
            exact ⟨s1.three.1, s1.three.2.1, s1.three.2.2, (hw'.cell (cell_lt c0)).trans c0, (hw'.cell (cell_lt c1)).trans c1, (hw'.cell (cell_lt c2)).trans c2⟩
          have hsum : IntKind.i64.wrap (f + bd k n j) = wrap64 (f + bd k n j) := wrapEq _
          have HBI : Hid (∀ W', Calls Try.prog 46 #[.agg #[.int .i64 k, .int .i64 h, .slice (some ⟨bA, oA, none⟩) n c], .int .i64 j] W' fun e w' => e = .returned (.int .i64 (bd k n j)) ∧ Below W'.heap.size W' w') := Lib.hid fun W' => refBinds k h _ n c hc HMM.out j (by unfold maxLen; omega) W'
          have HDC : Hid (∀ W', Below wr.heap.size wr W' → Calls Try.prog 35 #[.agg #[.int .i64 k2, .int .i64 h2, .slice A2 n2 c2'], .int .i64 b, .int .i64 (wrap64 (f + bd k n j))] W' (DEnd (dnW b t (wrap64 (f + bd k n j))) W')) := Lib.hid fun W' hW' => IH.out t (List.mem_of_getElem? HT.out) b _ _ W' (Rd.keep hW' _ _ HR.out) (HND.out t (List.mem_of_getElem? HT.out))
          have hcur : Below wr.heap.size wr wr.drew := (Below.refl _ wr).drew
          clear a0 a1 a2 c0 c1 c2
          go_region_held3 (fun w' => w'.cell? ⟨w.heap.size, 0, none⟩ = some (.int .i64 k) ∧ w'.cell? ⟨w.heap.size, 1, none⟩ = some (.int .i64 h) ∧ w'.cell? ⟨w.heap.size, 2, none⟩ = some (.slice (some ⟨bA, oA, none⟩) n c) ∧ w'.cell? ⟨bA, oA + j * 3, none⟩ = some (.int .i64 k2) ∧ w'.cell? ⟨bA, oA + j * 3 + 1, none⟩ = some (.int .i64 h2) ∧ w'.cell? ⟨bA, oA + j * 3 + 2, none⟩ = some (.slice A2 n2 c2'))
            (first | exact HKS.out _ hcur | exact HKS.out _ (hcur.alloc hcur.size _) | exact HKS.out _ (below_set3 hcur hp _ _ _) | exact HKS.out _ (below_set3 (hcur.alloc hcur.size _) hcur.size _ _ _))
            (first
              | (go_at_call 46
                 with_reducible refine (HBI.out wr.drew).mono ?_
                 rintro e w1 ⟨rfl, hb1⟩
                 replace hcur := hcur.trans hb1
                 clear hb1)
              | (go_at_call 46
                 refine (HBI.out (wr.drew.alloc (.cells #[.int .i64 0, .int .i64 0, .slice none 0 0] 24))).mono ?_
                 rintro e w1 ⟨rfl, hb1⟩
                 have zP : Box w1 wr.heap.size 24 #[.int .i64 0, .int .i64 0, .slice none 0 0] := (Box.new wr.drew 24 #[.int .i64 0, .int .i64 0, .slice none 0 0]).keep hb1 (Box.new _ _ _).lt
                 have hp : wr.heap.size ≤ wr.heap.size := Nat.le_refl _
                 have hcur := (hcur.alloc hcur.size (.cells #[.int .i64 0, .int .i64 0, .slice none 0 0] 24)).trans (hb1.mono (hcur.alloc hcur.size _).size)
                 clear hb1)
              | (go_at_call 35
                 have zP2 := zP
                 refine (HDC.out w1 hcur).mono ?_
                 rintro e w2 ⟨k3, h3, A3, n3, c3, bo, rfl, hout, hb1⟩
                 have zP := zP.keep hb1 zP.lt
                 have hng : ∀ g, w1.heap.size ≤ g ∧ g < w2.heap.size → wr.heap.size ≤ g ∧ g < w2.heap.size ∧ g ≠ wr.heap.size := fun g hg => ⟨Nat.le_trans hcur.size hg.1, hg.2, fun e => by have := zP2.lt; omega⟩
                 have hcur := hcur.trans (hb1.mono hcur.size)
                 clear hb1 zP2
                 obtain ⟨p0, p1, p2⟩ := zP.three
                 have fp0 := zP.frozen 0
                 have fp1 := zP.frozen 1
                 have fp2 := zP.frozen 2)
              | (go_at_call 35
                 refine (HDC.out w1 hcur).mono ?_
                 rintro e w2 ⟨k3, h3, A3, n3, c3, bo, rfl, hout, hb1⟩
                 have hng : ∀ g, w1.heap.size ≤ g ∧ g < w2.heap.size → wr.heap.size ≤ g ∧ g < w2.heap.size ∧ g ≠ w2.heap.size := fun g hg => ⟨Nat.le_trans hcur.size hg.1, hg.2, by omega⟩
                 have hcur := hcur.trans (hb1.mono hcur.size)
                 clear hb1)
              | (go_at_call 35
                 refine (HDC.out (w1.alloc (.cells #[.int .i64 0, .int .i64 0, .slice none 0 0] 24)) (hcur.alloc hcur.size _)).mono ?_
                 rintro e w2 ⟨k3, h3, A3, n3, c3, bo, rfl, hout, hb1⟩
                 have zP := (Box.new w1 24 #[.int .i64 0, .int .i64 0, .slice none 0 0]).keep hb1 (Box.new _ _ _).lt
                 have hp : wr.heap.size ≤ w1.heap.size := hcur.size
                 have hng : ∀ g, (w1.alloc (.cells #[.int .i64 0, .int .i64 0, .slice none 0 0] 24)).heap.size ≤ g ∧ g < w2.heap.size → wr.heap.size ≤ g ∧ g < w2.heap.size ∧ g ≠ w1.heap.size := fun g hg => by
                   have h1 := hg.1
                   simp at h1
                   exact ⟨by omega, hg.2, by omega⟩
                 have hcur := (hcur.alloc hcur.size (.cells #[.int .i64 0, .int .i64 0, .slice none 0 0] 24)).trans (hb1.mono (hcur.alloc hcur.size _).size)
                 clear hb1
                 obtain ⟨p0, p1, p2⟩ := zP.three
                 have fp0 := zP.frozen 0
                 have fp1 := zP.frozen 1
                 have fp2 := zP.frozen 2))
          obtain ⟨Wf, hWf⟩ : ∃ Wf, w2.alloc (.cells #[.int .i64 k3, .int .i64 h3, .slice A3 n3 c3] 24) = Wf := ⟨_, rfl⟩
          obtain ⟨p, hpe⟩ : ∃ p, p = w2.heap.size := ⟨_, rfl⟩
          have xP : Box Wf p 24 #[.int .i64 k3, .int .i64 h3, .slice A3 n3 c3] := by rw [hpe, ← hWf]; exact Box.new _ _ _
          have hbF : Below wr.heap.size wr Wf := by rw [← hWf]; exact hcur.alloc hcur.size _
          have hoF : DOut (dnW b t (wrap64 (f + bd k n j))) (fun g => wr.heap.size ≤ g ∧ g < Wf.heap.size ∧ g ≠ p) Wf (.agg #[.int .i64 k3, .int .i64 h3, .slice A3 n3 c3]) bo := by
            rw [hpe, ← hWf]; exact hout.move (fun g hg => by have := hng g hg; exact ⟨this.1, by simp; omega, this.2.2⟩) (fun g hg hg' => Below.heap_alloc _ _ _ hg')
          have hpl : wr.heap.size ≤ p := by rw [hpe]; exact hcur.size
          rw [hWf, ← hpe]
          clear hWf hpe hout hng hcur
          rotate_left 1
          obtain ⟨Wf, hWf⟩ : ∃ Wf, ((w2.setCell ⟨w1.heap.size, 0, none⟩ (.int .i64 k3)).setCell ⟨w1.heap.size, 1, none⟩ (.int .i64 h3)).setCell ⟨w1.heap.size, 2, none⟩ (.slice A3 n3 c3) = Wf := ⟨_, rfl⟩
          obtain ⟨p, hpe⟩ : ∃ p, p = w1.heap.size := ⟨_, rfl⟩
          have xP : Box Wf p 24 #[.int .i64 k3, .int .i64 h3, .slice A3 n3 c3] := by rw [hpe, ← hWf]; exact zP.set3 _ _ _
          have hbF : Below wr.heap.size wr Wf := by rw [← hWf]; exact below_set3 hcur hp _ _ _
          have hoF : DOut (dnW b t (wrap64 (f + bd k n j))) (fun g => wr.heap.size ≤ g ∧ g < Wf.heap.size ∧ g ≠ p) Wf (.agg #[.int .i64 k3, .int .i64 h3, .slice A3 n3 c3]) bo := by
            rw [hpe, ← hWf]; exact hout.move (fun g hg => by have := hng g hg; exact ⟨this.1, by simp; exact this.2.1, this.2.2⟩) (fun g hg hg' => heap_other3 _ _ _ _ _ _ (hng g hg).2.2)
          have hpl : wr.heap.size ≤ p := by rw [hpe]; exact hp
          rw [hWf, ← hpe]
          clear hWf hpe hout hng hcur p0 p1 p2 fp0 fp1 fp2 zP hp
          rotate_left 1
          obtain ⟨Wf, hWf⟩ : ∃ Wf, ((w2.setCell ⟨wr.heap.size, 0, none⟩ (.int .i64 k3)).setCell ⟨wr.heap.size, 1, none⟩ (.int .i64 h3)).setCell ⟨wr.heap.size, 2, none⟩ (.slice A3 n3 c3) = Wf := ⟨_, rfl⟩
          obtain ⟨p, hpe⟩ : ∃ p, p = wr.heap.size := ⟨_, rfl⟩
          have xP : Box Wf p 24 #[.int .i64 k3, .int .i64 h3, .slice A3 n3 c3] := by rw [hpe, ← hWf]; exact zP.set3 _ _ _
          have hbF : Below wr.heap.size wr Wf := by rw [← hWf]; exact below_set3 hcur hp _ _ _
          have hoF : DOut (dnW b t (wrap64 (f + bd k n j))) (fun g => wr.heap.size ≤ g ∧ g < Wf.heap.size ∧ g ≠ p) Wf (.agg #[.int .i64 k3, .int .i64 h3, .slice A3 n3 c3]) bo := by
            rw [hpe, ← hWf]; exact hout.move (fun g hg => by have := hng g hg; exact ⟨this.1, by simp; exact this.2.1, this.2.2⟩) (fun g hg hg' => heap_other3 _ _ _ _ _ _ (hng g hg).2.2)
          have hpl : wr.heap.size ≤ p := by rw [hpe]; exact hp
          rw [hWf, ← hpe]
          clear hWf hpe hout hng hcur p0 p1 p2 fp0 fp1 fp2 zP hp
          rotate_left 1
          all_goals
            have z1 := y1.keep hbF y1.lt
            have z2 := y2.keep hbF y2.lt
            have z3 := y3.keep hbF y3.lt
            have sF := hbF.size
            have lp := xP.lt
            have HOF := Lib.hid hoF; clear hoF
            clear HKS HBI HDC
            cases bo
            · have hnone : dnW b t (wrap64 (f + bd k n j)) = none := by
                rcases HOF.out with ⟨_, _, h, _⟩ | ⟨h, _, _⟩
                · cases h
                · exact h
              have HNO := Lib.hid hnone; clear hnone HOF
              obtain ⟨d0, d1, d2⟩ := z2.three
              have f0 := z2.frozen 0
              have f1 := z2.frozen 1
              have f2 := z2.frozen 2
              go_wp2_with fail
              refine bodyPost_ret (v := .tuple #[.agg #[.int .i64 0, .int .i64 0, .slice none 0 0], .bool false]) (by simp [results, Try.results35, go_sem, d0, d1, d2]) rfl ?_
              refine ⟨0, 0, none, 0, 0, false, rfl, .inr ⟨?_, rfl, rfl⟩, below_set3 (hbr.trans (hbF.mono hbr.size)) (by omega) _ _ _⟩
              rw [HU.out, HP.out.2, drop_at HT.out, HN.out, dnWL_none HNO.out]
              rfl
            · obtain ⟨t', ht', hrf⟩ : ∃ t', dnW b t (wrap64 (f + bd k n j)) = some t' ∧ RdF (fun g => wr.heap.size ≤ g ∧ g < Wf.heap.size ∧ g ≠ p) Wf t' (.agg #[.int .i64 k3, .int .i64 h3, .slice A3 n3 c3]) := by
                rcases HOF.out with ⟨t', h1, _, h3⟩ | ⟨_, h, _⟩
                · exact ⟨t', h1, h3⟩
                · cases h
              have HT' := Lib.hid ht'; clear ht' HOF
              have HRF := Lib.hid hrf; clear hrf
              obtain ⟨q0, q1, q2⟩ := z3.three
              obtain ⟨x0, x1, x2⟩ := xP.three
              have l3' := z3.lt
              have hbD : Below wr.heap.size wr (Wf.alloc (.cells #[.int .i64 k3, .int .i64 h3, .slice A3 n3 c3] 24)) := hbF.alloc hbF.size _
              obtain ⟨i0, hi, hz0, hz1, hz2⟩ := info_parts infoTerm
              have HI := Lib.hid hi; clear hi
              have HZ0 := Lib.hid hz0; clear hz0
              go_wp2_with (
                at_builtin
                refine wpList_append_lies (Wf.alloc (.cells #[.int .i64 k3, .int .i64 h3, .slice A3 n3 c3] 24)) rfl (.tmp 64) (.tmp 66) 22 rfl (w.heap.size + 1 + 1 + 1) 24 i0 _ 3 40 Try.underlying22 HI.out HZ0.out hz1 hz2 rfl (by omega) (.slice Av j cv) j cs rfl (HOW.out.kept (grown_of_below hbD) (own_none _)) ⟨Wf.heap.size, 0, none⟩ 1 1 [.int .i64 k3, .int .i64 h3, .slice A3 n3 c3] rfl rfl (World.news_of_block (heap_alloc_new Wf _)) (by intro u hu; simp at hu; rcases hu with rfl | rfl | rfl <;> rfl) (by omega) (by unfold maxLen; omega) (by omega) (by simp; omega) _ rfl ?_
                intro g cap w4 how4 hgr hg4 hlt4
                have hw4 : ∀ g', g' < wr.heap.size → some g' ≠ Value.ownBlock (.slice Av j cv) → w4.heap[g']? = wr.heap[g']? := fun g' hg' hne => (hgr.block g' (Nat.lt_of_lt_of_le hg' hbD.size) hne).trans (hbD.block g' hg')
                have nb : ∀ g, g < w.heap.size + 1 + 1 + 1 → some g ≠ Value.ownBlock (.slice Av j cv) := fun g hg e => by
                  have := HOW.out.lt g e.symm
                  omega
                have u1 : Box w4 w.heap.size _ _ := (hw4 _ y1.lt (nb _ (by omega))).trans y1
                have u2 : Box w4 (w.heap.size + 1) _ _ := (hw4 _ y2.lt (nb _ (by omega))).trans y2
                have u3 : Box w4 (w.heap.size + 1 + 1) _ _ := (hw4 _ y3.lt (nb _ (by omega))).trans y3
                have s4 : Wf.heap.size + 1 ≤ w4.heap.size := by have := hgr.size; simpa using this
                have hgo : ∀ g', g' < Wf.heap.size → some g' ≠ Value.ownBlock (.slice Av j cv) → w4.heap[g']? = Wf.heap[g']? := fun g' hg' hne => (hgr.block g' (by simp; omega) hne).trans (Below.heap_alloc _ _ _ hg')
                have hg5 : ∀ g', g' < Wf.heap.size → some g' ≠ Value.ownBlock (.slice Av j cv) → g' ≠ g := fun g' hg' hne e => by
                  rcases hg4 with h4 | h4
                  · rw [h4] at hne; exact hne (by rw [e])
                  · have h5 : g = Wf.heap.size + 1 := by simpa using h4
                    omega
                have hob : ∀ g', wr.heap.size ≤ g' → some g' ≠ Value.ownBlock (.slice Av j cv) := fun g' hg' e => by
                  have := HOW.out.lt g' e.symm
                  omega
                have hg6 : w.heap.size + 1 + 1 + 1 ≤ g := by
                  rcases hg4 with h4 | h4
                  · exact (HOW.out.lt g h4).1
                  · have h5 : g = Wf.heap.size + 1 := by simpa using h4
                    omega
                have hb4 : Below w.heap.size w w4 := below_grown (hbr.trans (hbD.mono hbr.size)) hgr (fun r hr => by have := HOW.out.lt r hr; omega) (by simp; omega)
                have HH4 := Lib.hid how4; clear how4
                have HGO := Lib.hid hgo; clear hgo hw4 hgr hg4
                obtain ⟨v0, v1, v2⟩ := u3.three
                have fv := u3.frozen 2)
              go_roundw
              case rel =>
                have hset : ∀ g', g' ≠ w.heap.size + 1 + 1 → (w4.setCell ⟨w.heap.size + 1 + 1, 2, none⟩ (.slice (some ⟨g, 0, none⟩) (j + 1) cap)).heap[g']? = w4.heap[g']? := fun g' hne => Below.heap_setCell _ _ _ _ hne
                refine ⟨j + 1, some ⟨g, 0, none⟩, cap, _, ys ++ [t'], by omega, by go_num, u1.other (by dsimp only; omega) _, u2.other (by dsimp only; omega) _, by simpa using u3.setAt 2 (.slice (some ⟨g, 0, none⟩) (j + 1) cap), Lib.hid (HH4.out.kept (grown_set w4 ⟨w.heap.size + 1 + 1, 2, none⟩ _) (.inr (by simp [Value.ownBlock]; omega))), Lib.hid ⟨by simp [HP.out.1], ?_⟩, Lib.hid ?_, ?_⟩
                · rw [HP.out.2, drop_at HT.out, HN.out, dnWL_some HT'.out, Option.map_map]
                  congr 1
                  funext l
                  simp
                · refine KidL.snoc (KidL.move HK.out (fun g' hg' => ?_) (fun g' hg' hg'' => ?_)) (by rw [HOW.out.1, HP.out.1]) (RdF.move (fun g' hg' => ?_) (fun g' hg' hg'' => ?_) _ _ HRF.out)
                  · exact ⟨hg'.1, by simp; omega, fun e => hg5 g' (by omega) hg'.2.2 (by simpa [Value.ownBlock] using e)⟩
                  · rw [hset g' (by omega), HGO.out g' (by omega) hg'.2.2]; exact hbF.block g' hg''
                  · exact ⟨by omega, by simp; omega, fun e => hg5 g' hg'.2.1 (hob g' hg'.1) (by simpa [Value.ownBlock] using e)⟩
                  · rw [hset g' (by omega), HGO.out g' hg'.2.1 (hob g' hg'.1)]
                · exact hb4.setCell (by dsimp only; omega) _
              case measure => simp [intOf]; omega
        · obtain rfl : j = n := by omega
          have hys : D = some (.node k h' ys) := by rw [HU.out, HP.out.2, drop_all HN.out (Nat.le_refl _), dnWL]; simp
          have HYS := Lib.hid hys; clear hys
          obtain ⟨d0, d1, d2⟩ := y2.three
          have f0 := y2.frozen 0
          have f1 := y2.frozen 1
          have f2 := y2.frozen 2
          obtain ⟨q0, q1, q2⟩ := y3.three
          have l3 := y3.lt
          go_wp2_with fail
          refine bodyPost_ret (v := .tuple #[.agg #[.int .i64 k, .int .i64 h', .slice Av j cv], .bool true]) (by simp [results, Try.results35, go_sem, d0, d1, d2]) rfl ?_
          refine ⟨_, _, _, _, _, true, rfl, .inl ⟨_, HYS.out, rfl, ?_⟩, below_set3 hbr (by omega) _ _ _⟩
          have hset := heap_other3 wr (w.heap.size + 1) (.int .i64 k) (.int .i64 h') (.slice Av j cv)
          refine rdF_row (HOW.out.kept (grown_set3 wr (w.heap.size + 1) (.int .i64 k) (.int .i64 h') (.slice Av j cv)) (.inr fun e => by have := HOW.out.lt _ e; omega)) (KidL.move HK.out (fun _ h => h) fun g hg _ => hset g (by omega)) HP.out.1 (fun g hg => ⟨by omega, by simpa using hg.2.1⟩) (fun g hg => ?_) hk hwf2
          have := HOW.out.lt g hg
          exact ⟨by omega, by simpa using this.2⟩
end Go.Proofs.Ytooihffijpndoaa
