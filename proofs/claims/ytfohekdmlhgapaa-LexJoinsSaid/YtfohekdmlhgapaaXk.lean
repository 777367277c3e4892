/-
  Contract of the laws' awake: package lex at the chapter's example. No statement is proved here.
-/
import Derived.Test.YtfohekdmlhgapaaXj
namespace Go.Proofs.Ytfohekdmlhgapaa
open Go.ChangeShapes Go.WideShapes Go.ChangeAt Go.RowKit
set_option linter.unusedVariables false

def exL : List UInt8 := [115, 58, 32, 123, 95, 58, 110, 97, 116, 125, 110, 97, 116, 46]
def exT : List Tk := [(0, ⟨#[115]⟩), (1, ⟨#[58]⟩), (1, ⟨#[123]⟩), (0, ⟨#[95]⟩), (1, ⟨#[58]⟩), (0, ⟨#[110, 97, 116]⟩), (1, ⟨#[125]⟩), (0, ⟨#[110, 97, 116]⟩), (1, ⟨#[46]⟩)]
theorem ex_e : lexE exL = 0 := by decide
theorem ex_t : lexT exL = exT := by rfl
theorem ex_x : txtL false exT = [115, 58, 123, 95, 58, 110, 97, 116, 125, 110, 97, 116, 46] := by rfl
theorem run_convSame (w : World) (C : Array Value) (n c : Nat) : (convert 22 22 (.slice (some ⟨w.heap.size, 0, none⟩) n c)).run Try.prog (w.alloc (.cells C 5)) =
    .ok (.slice (some ⟨w.heap.size, 0, none⟩) n c) (w.alloc (.cells C 5 (C.size, C.size + 1))) := by
  have hsh : (w.alloc (.cells C 5)).shape? w.heap.size = some (5, C.size) := by
    have : (w.alloc (.cells C 5)).heap[w.heap.size]? = some (.cells C 5) := by
      show (w.heap.push (.cells C 5))[w.heap.size]? = _
      simp
    unfold World.shape?
    rw [this]
  have hfr : (w.alloc (.cells C 5)).freeze ⟨w.heap.size, C.size, none⟩ 1 = w.alloc (.cells C 5 (C.size, C.size + 1)) := by
    have hm : ∀ (a : Array Obj) (x : Obj) (f : Obj → Obj), (a.push x).modify a.size f = a.push (f x) := by
      intro a x f
      apply Array.ext
      · simp
      · intro i h1 h2
        simp only [Array.getElem_modify, Array.getElem_push]
        by_cases h : a.size = i
        · subst h
          simp
        · have hi : i < a.size := by simp at h1; omega
          simp [h, hi]
    unfold World.freeze
    rw [if_neg (by decide)]
    show ({ w.alloc (.cells C 5) with heap := (w.heap.push (.cells C 5)).modify w.heap.size _ } : World) = _
    rw [hm]
    rfl
  simp [convert, run_underlying Try.underlying22, run_underlying Try.underlying5, markStringish, hsh]
  exact hfr
set_option maxRecDepth 100000 in
set_option maxHeartbeats 4000000 in
theorem xAwakeC (w : World) : Calls Try.prog 9 #[] w fun e w' => e = .returned (.bool true) ∧ Below w.heap.size w w' := by
  obtain ⟨C, hC⟩ : ∃ C : Array Value, #[.int .u8 115, .int .u8 58, .int .u8 32, .int .u8 123, .int .u8 95, .int .u8 58, .int .u8 110, .int .u8 97, .int .u8 116, .int .u8 125, .int .u8 110, .int .u8 97, .int .u8 116, .int .u8 46] = C := ⟨_, rfl⟩
  have hcs : (convert 22 22 (.slice (some ⟨w.heap.size, 0, none⟩) 14 14)).run Try.prog (w.alloc (.cells C 5)) = .ok (.slice (some ⟨w.heap.size, 0, none⟩) 14 14) (w.alloc (.cells C 5 (C.size, C.size + 1))) := run_convSame w C 14 14
  obtain ⟨W, hW⟩ : ∃ W, w.alloc (.cells C 5 (C.size, C.size + 1)) = W := ⟨_, rfl⟩
  have hb : Below w.heap.size w W := by rw [← hW]; exact (Below.refl _ _).alloc (Nat.le_refl _) _
  have hx : W.heap[w.heap.size]? = some (.cells C 5 (C.size, C.size + 1)) := by rw [← hW]; exact heap_alloc_new w _
  rw [hW] at hcs
  have hy : YL W exL (some ⟨w.heap.size, 0, none⟩) 14 14 := by
    refine ⟨rfl, Nat.le_refl _, by decide, fun i u hu => ⟨_, _, rfl, ?_⟩⟩
    rw [Nat.zero_add, cell_of_row W w.heap.size i C _ _ hx, ← hC]
    have : (exL.map bV)[i]? = some (bV u) := by rw [List.getElem?_map, hu]; rfl
    rw [← this]
    simp [exL, bV]
  have HT := Lib.hid (xTokensC exL _ _ _ W hy)
  have HB := Lib.hid hb
  clear hx hy hb
  go_enter Try.func9, Try.ntmps9
  clear hW
  go_wp2_with fail
  refine HT.out.mono ?_
  rintro e w1 ⟨A1, n1, c1, rfl, hr1, hb1⟩
  rw [ex_t] at hr1
  have hl1 := hr1.len
  obtain rfl : n1 = 9 := hl1.symm
  have htl := hr1.tl
  obtain ⟨b, o, rfl, d0, d1⟩ := htl.at_ 0 _ rfl
  obtain ⟨b', o', e, d2, d3⟩ := htl.at_ 8 _ rfl
  cases e
  have hc1 := htl.le
  have HX := Lib.hid (xTextC exT _ _ _ w1 htl (by rw [ex_x]; decide) (by decide))
  have HB1 := Lib.hid (HB.out.trans (hb1.mono HB.out.size))
  simp only [Nat.zero_mul, Nat.add_zero] at d0 d1 d2 d3
  rw [ex_e]
  clear htl hr1 hb1 hl1 HT d0 d3
  go_wp2_with fail
  refine HX.out.mono ?_
  rintro e w2 ⟨A2, n2, c2, rfl, hy2, hb2⟩
  rw [ex_x] at hy2
  have hcv := run_string hy2.yl
  have HB2 := Lib.hid (HB1.out.trans (hb2.mono HB1.out.size))
  clear hb2 hy2 HX
  go_wp2_with fail
  go_ret
  exact ⟨rfl, HB2.out⟩
end Go.Proofs.Ytfohekdmlhgapaa
