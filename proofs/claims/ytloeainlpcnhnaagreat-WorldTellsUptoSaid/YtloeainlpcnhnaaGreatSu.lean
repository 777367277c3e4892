/-
  Contracts of package shift's Up and Down.
-/
import Derived.Test.YtloeainlpcnhnaaGreatSr
namespace Go.Proofs.YtloeainlpcnhnaaGreat
open Go.ChangeShapes Go.WideShapes Go.ChangeAt Go.RowKit
set_option linter.unusedVariables false

/-- what Up tells -/
def upX (t : T) (b f : Int) : T := if (mvB b f && mayB t) = true then (rn (upTo b f) t 0).getD t else t
/-- what Down tells -/
def dnX (t : T) (b f : Int) : Option T := if (mvB b f && mayB t) = true then rn (dnTo b f) t 0 else none

mutual
theorem rn_up_some (b f : Int) : ∀ (t : T) (s : Int), ∃ u, rn (upTo b f) t s = some u
  | .node k h xs, s => by
    obtain ⟨ys, hy⟩ := rnL_up_some b f k xs.length xs 0 s
    obtain ⟨h', hh⟩ : ∃ h', rnH (upTo b f) k h s = some h' := by
      rw [rnH]
      split
      · obtain ⟨x, hx⟩ : ∃ x, upTo b f (wrap64 (h - s)) = some x := by
          rw [upTo]; split <;> exact ⟨_, rfl⟩
        exact ⟨_, by rw [hx]; rfl⟩
      · exact ⟨_, rfl⟩
    exact ⟨_, by rw [rn, hh, hy]; rfl⟩
theorem rnL_up_some (b f k : Int) (n : Nat) : ∀ (xs : List T) (i : Nat) (s : Int), ∃ ys, rnL (upTo b f) k n xs i s = some ys
  | [], i, s => ⟨[], by rw [rnL]⟩
  | t :: ts, i, s => by
    obtain ⟨u, hu⟩ := rn_up_some b f t (wrap64 (s + bd k n i))
    obtain ⟨ys, hy⟩ := rnL_up_some b f k n ts (i + 1) s
    exact ⟨_, by rw [rnL, hu, hy]; rfl⟩
end

set_option maxRecDepth 100000 in
set_option maxHeartbeats 4000000 in
theorem upC (t : T) (b f : Int) (v : Value) (w : World) (hv : Rd w t v) (hs : nd t ≤ 1048576) : Calls Tryz.prog 134 #[v, .int .i64 b, .int .i64 f] w (OEnd (upX t b f) w) := by
  obtain ⟨k, h, A, n, c, rfl⟩ := hv.full
  have hwd : wd t ≤ 3518437208780 := by have := wd_nd t; omega
  have HV := Lib.hid hv; clear hv
  have HS := Lib.hid hs; clear hs
  have HWD := Lib.hid hwd; clear hwd
  obtain ⟨W, hW⟩ : ∃ W, ((w.alloc (.cells #[.int .i64 k, .int .i64 h, .slice A n c] 44)).alloc (.cells #[.int .i64 0, .int .i64 0, .slice none 0 0] 44)).alloc (.cells #[.int .i64 b, .int .i64 f] 158) = W := ⟨_, rfl⟩
  have hb : Below w.heap.size w W := by rw [← hW]; exact (((Below.refl _ _).alloc (Nat.le_refl _) _).alloc (by simp) _).alloc (by simp; omega) _
  have xT : Box W w.heap.size 44 #[.int .i64 k, .int .i64 h, .slice A n c] := by rw [← hW]; exact ((Box.new _ _ _).alloc _).alloc _
  have xR : Box W (w.heap.size + 1) 44 #[.int .i64 0, .int .i64 0, .slice none 0 0] := by rw [← hW]; exact ((Box.new (w.alloc _) _ _).at (by simp)).alloc _
  have xM : Box W (w.heap.size + 1 + 1) 158 #[.int .i64 b, .int .i64 f] := by rw [← hW]; exact (Box.new ((w.alloc _).alloc _) _ _).at (by simp)
  have HWW := Lib.hid hW; clear hW
  have HU : Hid (upX t b f = if (mvB b f && mayB t) = true then (rn (upTo b f) t 0).getD t else t) := Lib.hid rfl
  have HO : Hid (∀ W', Below w.heap.size w W' → Calls Tryz.prog 139 #[.agg #[.int .i64 k, .int .i64 h, .slice A n c]] W' (OEnd t W')) := Lib.hid fun W' h' => termOwn t _ _ (Rd.keep h' _ _ HV.out) HWD.out
  have HM : Hid (∀ W', Below w.heap.size w W' → Calls Tryz.prog 77 #[.agg #[.int .i64 k, .int .i64 h, .slice A n c]] W' fun e w' => e = .returned (.bool (mayB t)) ∧ Below W'.heap.size W' w') := Lib.hid fun W' h' => mayC t _ _ (Rd.keep h' _ _ HV.out) HS.out
  have HMV : Hid (∀ W', Calls Tryz.prog 143 #[.agg #[.int .i64 b, .int .i64 f]] W' fun e w' => e = .returned (.bool (mvB b f)) ∧ Below W'.heap.size W' w') := Lib.hid fun W' => mayM b f W'
  go_enter Tryz.func134, Tryz.ntmps134
  go_wp2_with fail
  rw [HWW.out]
  clear HWW
  refine (HMV.out W).mono ?_
  generalize mvB b f = M1 at *
  rintro e w1 ⟨rfl, hb1⟩
  replace xT := xT.keep hb1 xT.lt
  replace xR := xR.keep hb1 xR.lt
  replace xM := xM.keep hb1 xM.lt
  replace hb := hb.trans (hb1.mono hb.size)
  clear hb1
  obtain ⟨c0, c1, c2⟩ := xT.three
  obtain ⟨m0, m1⟩ := xM.two
  obtain ⟨r0, r1, r2⟩ := xR.three
  cases M1
  · go_wp2_with fail
    refine (HO.out _ hb).mono ?_
    rintro e w2 ⟨v2, rfl, how, hb2⟩
    obtain ⟨k3, h3, A3, n3, c3, rfl⟩ := how.full
    have lR := xR.lt
    have zR := xR.keep hb2 lR
    have HB := Lib.hid (hb.trans (hb2.mono hb.size))
    have HW := Lib.hid how; clear how hb2
    clear r0 r1 r2
    obtain ⟨r0, r1, r2⟩ := zR.three
    have f0 := zR.frozen 0
    have f1 := zR.frozen 1
    have f2 := zR.frozen 2
    go_wp2_with fail
    refine bodyPost_ret (v := .agg #[.int .i64 k3, .int .i64 h3, .slice A3 n3 c3]) (by simp [results, Tryz.results134, go_sem, r0, r1, r2]) rfl ?_
    have hup : upX t b f = t := by rw [HU.out]; simp
    refine ⟨_, rfl, ?_, below_set3 HB.out (by omega) _ _ _⟩
    rw [hup]
    exact HW.out.move (by have := hb.size; omega) fun g hg _ => heap_other3 _ _ _ _ _ _ (by omega)
  go_wp2_with fail
  refine (HM.out _ hb).mono ?_
  generalize mayB t = M2 at *
  rintro e w2 ⟨rfl, hb2⟩
  replace xT := xT.keep hb2 xT.lt
  replace xR := xR.keep hb2 xR.lt
  replace xM := xM.keep hb2 xM.lt
  replace hb := hb.trans (hb2.mono hb.size)
  clear hb2 c0 c1 c2 m0 m1 r0 r1 r2
  obtain ⟨c0, c1, c2⟩ := xT.three
  obtain ⟨m0, m1⟩ := xM.two
  obtain ⟨r0, r1, r2⟩ := xR.three
  cases M2
  · go_wp2_with fail
    refine (HO.out _ hb).mono ?_
    rintro e w3 ⟨v2, rfl, how, hb2⟩
    obtain ⟨k3, h3, A3, n3, c3, rfl⟩ := how.full
    have lR := xR.lt
    have zR := xR.keep hb2 lR
    have HB := Lib.hid (hb.trans (hb2.mono hb.size))
    have HW := Lib.hid how; clear how hb2
    clear r0 r1 r2
    obtain ⟨r0, r1, r2⟩ := zR.three
    have f0 := zR.frozen 0
    have f1 := zR.frozen 1
    have f2 := zR.frozen 2
    go_wp2_with fail
    refine bodyPost_ret (v := .agg #[.int .i64 k3, .int .i64 h3, .slice A3 n3 c3]) (by simp [results, Tryz.results134, go_sem, r0, r1, r2]) rfl ?_
    have hup : upX t b f = t := by rw [HU.out]; simp
    refine ⟨_, rfl, ?_, below_set3 HB.out (by omega) _ _ _⟩
    rw [hup]
    exact HW.out.move (by have := hb.size; omega) fun g hg _ => heap_other3 _ _ _ _ _ _ (by omega)
  go_wp2_with fail
  refine (RenumC entersUp t _ _ ((upM b f).at _) HS.out (Rd.keep hb _ _ HV.out)).mono ?_
  obtain ⟨u, hu⟩ := rn_up_some b f t 0
  rw [hu]
  rintro e w3 ⟨hb2, ⟨t', v', ht', rfl, how⟩ | ⟨ht', rfl⟩⟩
  · cases ht'
    obtain ⟨k3, h3, A3, n3, c3, rfl⟩ := how.full
    have lR := xR.lt
    have zR := xR.keep hb2 lR
    have sz := hb2.size
    have HB := Lib.hid (hb.trans (hb2.mono hb.size))
    have HW := Lib.hid how; clear how hb2
    clear r0 r1 r2
    obtain ⟨r0, r1, r2⟩ := zR.three
    have f0 := zR.frozen 0
    have f1 := zR.frozen 1
    have f2 := zR.frozen 2
    have lz := zR.lt
    go_wp2_with fail
    refine bodyPost_ret (v := .agg #[.int .i64 k3, .int .i64 h3, .slice A3 n3 c3]) (by simp [results, Tryz.results134, go_sem, r0, r1, r2, lz]) rfl ?_
    have hup : upX t b f = u := by rw [HU.out, hu]; simp
    refine ⟨_, rfl, ?_, (below_set3 HB.out (by omega) _ _ _).alloc (by simp; omega) _⟩
    rw [hup]
    exact HW.out.move (by have := hb.size; omega) fun g hg hg' => by rw [Below.heap_alloc _ _ _ (by simpa using hg')]; exact heap_other3 _ _ _ _ _ _ (by omega)
  · cases ht'

end Go.Proofs.YtloeainlpcnhnaaGreat
