/-
  Contract of the laws' awake: package parse at the chapter's example. No statement is proved here.
-/
import Derived.Test.YtdbdeppchlkacaaBt
import Derived.Test.YtdbdeppchlkacaaXv
namespace Go.Proofs.Ytdbdeppchlkacaa
open Go.ChangeShapes Go.WideShapes Go.ChangeAt Go.RowKit
set_option linter.unusedVariables false

def pxA : List UInt8 := [110, 97, 116, 58, 32, 116, 121, 112, 101, 46, 32, 122, 58, 32, 110, 97, 116, 46, 32, 115, 58, 32, 123, 110, 58, 32, 110, 97, 116, 125, 32, 110, 97, 116, 46]
def pxB : List UInt8 := [91, 120, 93, 32, 115, 32, 40, 115, 32, 120, 41]
def pxC : List UInt8 := [122, 58, 32, 110, 97, 116, 46]
def pxD : List (ByteArray × T) := [(⟨#[110, 97, 116]⟩, .node 0 0 []), (⟨#[122]⟩, .node 2 0 []), (⟨#[115]⟩, .node 1 0 [.node 2 0 [], .node 2 0 []])]
def pxT : T := .node 3 0 [.node 5 2 [.node 5 2 [.node 4 0 []]]]
set_option maxRecDepth 100000 in
theorem px_a : readD pxA = .ok pxD := by kernel_rfl
set_option maxRecDepth 100000 in
theorem px_b : readT pxD pxB = .ok pxT := by kernel_rfl
set_option maxRecDepth 100000 in
theorem px_c : readD pxC = .error 2 := by kernel_rfl
set_option maxRecDepth 100000 in
theorem px_d : nmB ⟨#[122, 39]⟩ = true := by decide
set_option maxRecDepth 100000 in
theorem px_e : nmB ⟨#[95, 122]⟩ = false := by decide
theorem px_s : szW pxT = 4 := by kernel_rfl
theorem ex_conv (w : World) (C : Array Value) (l : List UInt8) (n : Nat) (hn : l.length = n) (hC : C.toList = l.map bV) (hl : l.length ≤ 1000000) : ∃ W, (convert 22 22 (.slice (some ⟨w.heap.size, 0, none⟩) n n)).run Try.prog (w.alloc (.cells C 5)) = .ok (.slice (some ⟨w.heap.size, 0, none⟩) n n) W ∧ Below w.heap.size w W ∧ YL W l (some ⟨w.heap.size, 0, none⟩) n n := by
  subst hn
  exact ⟨_, run_convSame w C _ _, (Below.refl _ _).alloc (Nat.le_refl _) _, YL.block (heap_alloc_new w _) hC hl⟩
set_option maxRecDepth 100000 in
set_option maxHeartbeats 4000000 in
theorem pAwakeC (w : World) : Calls Try.prog 8 #[] w fun e w' => e = .returned (.bool true) ∧ Below w.heap.size w w' := by
  obtain ⟨CA, hCA⟩ : ∃ C : Array Value, #[.int .u8 110, .int .u8 97, .int .u8 116, .int .u8 58, .int .u8 32, .int .u8 116, .int .u8 121, .int .u8 112, .int .u8 101, .int .u8 46, .int .u8 32, .int .u8 122, .int .u8 58, .int .u8 32, .int .u8 110, .int .u8 97, .int .u8 116, .int .u8 46, .int .u8 32, .int .u8 115, .int .u8 58, .int .u8 32, .int .u8 123, .int .u8 110, .int .u8 58, .int .u8 32, .int .u8 110, .int .u8 97, .int .u8 116, .int .u8 125, .int .u8 32, .int .u8 110, .int .u8 97, .int .u8 116, .int .u8 46] = C := ⟨_, rfl⟩
  obtain ⟨CB, hCB⟩ : ∃ C : Array Value, #[.int .u8 91, .int .u8 120, .int .u8 93, .int .u8 32, .int .u8 115, .int .u8 32, .int .u8 40, .int .u8 115, .int .u8 32, .int .u8 120, .int .u8 41] = C := ⟨_, rfl⟩
  obtain ⟨CC, hCC⟩ : ∃ C : Array Value, #[.int .u8 122, .int .u8 58, .int .u8 32, .int .u8 110, .int .u8 97, .int .u8 116, .int .u8 46] = C := ⟨_, rfl⟩
  have HA := Lib.hid (show CA.toList = pxA.map bV by rw [← hCA]; rfl)
  have HB := Lib.hid (show CB.toList = pxB.map bV by rw [← hCB]; rfl)
  have HC := Lib.hid (show CC.toList = pxC.map bV by rw [← hCC]; rfl)
  obtain ⟨W1, hcv1, hb1, hy1⟩ := ex_conv w CA pxA 35 rfl HA.out (by decide)
  have HD1 := Lib.hid (pDeclsC pxA _ _ _ W1 hy1)
  have HB1 := Lib.hid hb1
  clear hb1 hy1
  go_enter Try.func8, Try.ntmps8
  go_wp2_with fail
  refine HD1.out.mono ?_
  rintro e w2 ⟨hb2, SA, sn, sc, ec, rfl, hres⟩
  obtain ⟨ds, hr, rfl, hds, _⟩ : ∃ ds, readD pxA = .ok ds ∧ ec = 0 ∧ DS w2 ds SA sn sc ∧ ds.length ≤ 40 := by
    rcases hres with h | ⟨h, _⟩
    · exact h
    · rw [px_a] at h; cases h
  rw [px_a] at hr
  cases hr
  obtain rfl : 3 = sn := hds.len
  have hsc := hds.le
  have HB2 := Lib.hid (HB1.out.trans (hb2.mono HB1.out.size))
  have HDS := Lib.hid hds
  clear hcv1 hres HD1 hb2 hds
  obtain ⟨W3, hcv3, hb3, hy3⟩ := ex_conv w2 CB pxB 11 rfl HB.out (by decide)
  have HT := Lib.hid (pTermTopC pxB _ _ _ pxD SA 3 sc W3 hy3 (HDS.out.keep hb3) (by decide))
  have HB3 := Lib.hid (HB2.out.trans (hb3.mono HB2.out.size))
  have HDS3 := Lib.hid (HDS.out.keep hb3)
  clear hb3 hy3 HDS
  go_wp2_with fail
  refine HT.out.mono ?_
  rintro e w4 ⟨hb4, k4, g4, A4, n4, c4, ec, rfl, hres⟩
  obtain ⟨t, hr, rfl, hrd⟩ : ∃ t, readT pxD pxB = .ok t ∧ ec = 0 ∧ Rd w4 t (.agg #[.int .i64 k4, .int .i64 g4, .slice A4 n4 c4]) := by
    rcases hres with h | ⟨h, _⟩
    · exact h
    · rw [px_b] at h; cases h
  rw [px_b] at hr
  cases hr
  have hk4 : k4 = 3 := by
    obtain ⟨A', n', c', e, _⟩ := Rd_node.1 hrd
    simp at e
    exact e.1
  subst hk4
  obtain ⟨W5, hW5⟩ : ∃ W5, w4.alloc (.cells #[.int .i64 3, .int .i64 g4, .slice A4 n4 c4] 31) = W5 := ⟨_, rfl⟩
  have hb5 : Below w4.heap.size w4 W5 := by rw [← hW5]; exact (Below.refl _ _).alloc (Nat.le_refl _) _
  have x5 : BoxX W5 w4.heap.size 31 #[.int .i64 3, .int .i64 g4, .slice A4 n4 c4] := by rw [← hW5]; exact BoxX.new _ _ _
  have HB5 := Lib.hid (HB3.out.trans ((hb4.trans (hb5.mono hb4.size)).mono HB3.out.size))
  have HDS5 := Lib.hid (HDS3.out.keep (hb4.trans (hb5.mono hb4.size)))
  have HRD5 := Lib.hid (Rd.keep hb5 _ _ hrd)
  have HX5 := Lib.hid x5
  clear hcv3 hres HT hb4 hrd hb5 x5 HDS3
  obtain ⟨W6, hcv6, hb6, hy6⟩ := ex_conv W5 CC pxC 7 rfl HC.out (by decide)
  have hl5 : W5.heap.size = w4.heap.size + 1 := by rw [← hW5]; simp
  rw [hl5] at hcv6
  have HD7 := Lib.hid (pDeclsC pxC _ _ _ W6 hy6)
  rw [hl5] at HD7
  have HB6 := Lib.hid hb6
  clear hb6 hy6
  subst hW5
  go_wp2_with fail
  refine HD7.out.mono ?_
  rintro e w8 ⟨hb8, SB, sm, sd, ec, rfl, hres⟩
  obtain ⟨rfl, rfl, rfl, rfl⟩ : ec = 2 ∧ SB = none ∧ sm = 0 ∧ sd = 0 := by
    rcases hres with ⟨ds, h, _⟩ | ⟨h, _, h2, h3, h4⟩
    · rw [px_c] at h; cases h
    · rw [px_c] at h; cases h; exact ⟨rfl, h2, h3, h4⟩
  have hb68 := HB6.out.trans (hb8.mono HB6.out.size)
  have x8 := HX5.out.keep hb68 HX5.out.lt
  obtain ⟨b, o, k, g, A', n', c', rfl, _, e1, _, _, hrd2⟩ := (HDS5.out.keep hb68).at_ 2 _ rfl
  have hk1 : k = 1 := by
    obtain ⟨A9, n9, c9, e, _⟩ := Rd_node.1 hrd2
    simp at e
    exact e.1
  subst hk1
  have q0 := x8.cell 0
  have q1 := x8.cell 1
  have q2 := x8.cell 2
  simp only [List.getElem?_toArray, List.getElem?_cons_zero, List.getElem?_cons_succ] at q0 q1 q2
  have HS := Lib.hid (sizeC pxT _ w8 (Rd.keep hb68 _ _ HRD5.out))
  rw [px_s] at HS
  have HB8 := Lib.hid (HB5.out.trans (hb68.mono HB5.out.size))
  have e1' : w8.cell? ⟨b, o + 9, none⟩ = some (.int .i64 1) := e1
  clear hcv6 hres HD7 hb8 hb68 x8 hrd2 e1
  go_wp2_with fail
  refine HS.out.mono ?_
  rintro e w9 ⟨rfl, hb9⟩
  have HB9 := Lib.hid (HB8.out.trans (hb9.mono HB8.out.size))
  have HN := Lib.hid (pNameC ⟨#[122, 39]⟩ (by unfold maxLen; decide) w9)
  rw [px_d] at HN
  clear hb9 HS
  go_wp2_with fail
  refine HN.out.mono ?_
  rintro e w10 ⟨rfl, hb10⟩
  have HB10 := Lib.hid (HB9.out.trans (hb10.mono HB9.out.size))
  have HN2 := Lib.hid (pNameC ⟨#[95, 122]⟩ (by unfold maxLen; decide) w10)
  rw [px_e] at HN2
  clear hb10 HN
  go_wp2_with fail
  refine HN2.out.mono ?_
  rintro e w11 ⟨rfl, hb11⟩
  have HB11 := Lib.hid (HB10.out.trans (hb11.mono HB10.out.size))
  clear hb11 HN2
  go_wp2_with fail
  go_ret
  exact ⟨rfl, HB11.out⟩
end Go.Proofs.Ytdbdeppchlkacaa
