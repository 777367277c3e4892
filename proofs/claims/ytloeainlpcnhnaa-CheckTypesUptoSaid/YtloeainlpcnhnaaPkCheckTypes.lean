/-
  Texts of one proof, put together. No statement is proved here.
-/
import Derived.Test.YtloeainlpcnhnaaPkV
import Derived.Test.YtloeainlpcnhnaaWl
import Derived.Test.YtloeainlpcnhnaaQd
import Derived.Test.YtloeainlpcnhnaaOl
import Derived.ChangeSlices
import Derived.Carry
import Derived.Test.YtloeainlpcnhnaaPkD
import Derived.JoinedCond

/-
  Contract of the laws' own Few; the Heads of what is few are low. No statement is proved here.
-/
namespace Go.Proofs.Ytloeainlpcnhnaa
open Go.ChangeShapes Go.WideShapes Go.ChangeAt Go.RowKit
set_option linter.unusedVariables false

def fmB (x : List T × T) : Bool := lsB x.1 500 80 && ltB x.2 500 80
/-- few -/
def fwV (W : WV) (cx : List T) (ns nm : Nat) : Bool := fwQ W.sg ns && (decide (nm ≤ 30) && (W.ms.all fmB && lsB cx 500 80))
theorem lo_lt {t : T} {s d : Int} (h : ltB t s d = true) (hm : myB t = true) : okT loV t := by
  have h4 := ((myB_iff t).1 hm).2.1
  rw [ltB, szW_small (by omega), dpW_eq t (by omega)] at h
  simp only [Bool.and_eq_true, decide_eq_true_eq] at h
  exact okT_of t ((myB_iff t).1 hm).1 h.1.1
theorem loV_of {W : WV} {cx : List T} {ns nm : Nat} (h : fwV W cx ns nm = true) : LoV W cx := by
  simp only [fwV, fwQ, fmB, lsB, Bool.and_eq_true, decide_eq_true_eq, List.all_eq_true] at h
  obtain ⟨⟨_, h1⟩, _, h3, _, h4⟩ := h
  exact ⟨fun t ht => lo_lt (h1 t ht), fun m hm => ⟨fun e he => lo_lt ((h3 m hm).1.2 e he), lo_lt (h3 m hm).2⟩, fun t ht => lo_lt (h4 t ht)⟩
theorem few_len {W : WV} {cx : List T} {ns nm : Nat} (h : fwV W cx ns nm = true) : ns ≤ 30 ∧ nm ≤ 30 ∧ cx.length ≤ 60 := by
  simp only [fwV, fwQ, fmB, lsB, Bool.and_eq_true, decide_eq_true_eq, List.all_eq_true] at h
  obtain ⟨⟨h1, _⟩, h2, _, h3, _⟩ := h
  exact ⟨h1, h2, h3⟩

set_option maxRecDepth 100000 in
set_option maxHeartbeats 4000000 in
theorem vFewC (W : WV) (cx : List T) (As Am Ac : Option Addr) (ns cs nm cm nc cc : Nat) (w : World) (hk : CkV w W cx As ns cs Am nm cm Ac nc cc) :
    Calls Try.prog 10 #[.slice As ns cs, .slice Am nm cm, .slice Ac nc cc] w fun e w' => e = .returned (.bool (fwV W cx ns nm)) ∧ Below w.heap.size w w' := by
  have hmcap := hk.ms.cap
  have hmle := hk.ms.le
  unfold maxLen at hmcap
  have HFW := Lib.hid (fewC W.sg As ns cs w hk.sg)
  have HLC := Lib.hid (fun W' (h' : Below w.heap.size w W') => lightsC cx Ac nc cc 500 80 W' (hk.cx.keep h').len (hk.cx.keep h').le (hk.cx.keep h').cap (hk.cx.keep h').at_)
  have HM := Lib.hid hk.ms
  clear hk
  have hR : fwV W cx ns nm = (fwQ W.sg ns && (decide (nm ≤ 30) && (W.ms.all fmB && lsB cx 500 80))) := rfl
  obtain ⟨R, hRR⟩ : ∃ R, fwV W cx ns nm = R := ⟨_, rfl⟩
  rw [hRR] at hR ⊢
  have HR := Lib.hid hR
  clear hR hRR
  generalize fwQ W.sg ns = r1 at *
  generalize lsB cx 500 80 = r3 at *
  go_enter Try.func10, Try.ntmps10
  go_wp2_with fail
  refine HFW.out.mono ?_
  rintro e w1 ⟨rfl, hb1⟩
  have HB1 := Lib.hid hb1
  clear hb1 HFW
  cases r1
  · go_wp2_with fail
    go_ret
    exact ⟨ret_bool (by rw [HR.out]; rfl), HB1.out⟩
  by_cases hgt : 30 < nm
  · have d1 : decide ((30 : Int) < (nm : Int)) = true := by simp; omega
    have HR1 := Lib.hid (show false = R by rw [HR.out, decide_eq_false (by omega)]; rfl)
    go_wp2_with fail
    go_ret
    exact ⟨ret_bool HR1.out, HB1.out⟩
  have d1 : decide ((30 : Int) < (nm : Int)) = false := by simp; omega
  have HR1 := Lib.hid (show R = (W.ms.all fmB && r3) by rw [HR.out, decide_eq_true (by omega), Bool.true_and, Bool.true_and])
  clear HR
  go_wp2_with fail
  go_loopw [8] (fun i wr => ∃ (j : Nat), j ≤ nm ∧ i = .int .i64 j ∧ Hid ((W.ms.drop j).all fmB = W.ms.all fmB) ∧ Hid (Below w.heap.size w wr)) (fun i _ => nm - (Go.RowKit.intOf i).toNat)
  case atStart => exact ⟨0, Nat.zero_le _, rfl, Lib.hid (by simp), HB1⟩
  case round =>
    clear HB1
    obtain ⟨i, hi, rfl, HJ, HB1⟩ := hrel
    by_cases hlt : i < nm
    · obtain ⟨x, hx⟩ := at_of HM.out.len hlt
      obtain ⟨b1, o1, A0, n0, c0, k1, h1, A1, n1, c1, pb, rfl, e0, e1, e2, e3, e4, hl1, hr1⟩ := (HM.out.at_ i x hx).keep HB1.out
      have HJ' := HJ.out
      rw [drop_at hx, List.all_cons] at HJ'
      have HJ1 := Lib.hid HJ'; clear HJ' hx HJ
      have HLS := Lib.hid (lightsC x.1 A0 n0 c0 500 80 wr hl1.len hl1.le hl1.cap hl1.at_)
      have HLT := Lib.hid (fun W' (h' : Below wr.heap.size wr W') => refLight x.2 500 80 _ W' (Rd.keep h' _ _ hr1))
      have hi0 : (0 : Int) ≤ i := by omega
      have hi1 : (i : Int) < nm := by omega
      have HMM := Lib.hid (show fmB x = (lsB x.1 500 80 && ltB x.2 500 80) from rfl)
      replace e1 : wr.cell? ⟨b1, o1 + i * 5 + 1, none⟩ = some (.int .i64 k1) := e1
      replace e2 : wr.cell? ⟨b1, o1 + i * 5 + 1 + 1, none⟩ = some (.int .i64 h1) := e2
      replace e3 : wr.cell? ⟨b1, o1 + i * 5 + 1 + 2, none⟩ = some (.slice A1 n1 c1) := e3
      clear hr1 hl1
      generalize fmB x = r at *
      generalize lsB x.1 500 80 = q1 at *
      generalize ltB x.2 500 80 = q2 at *
      go_wp2_with fail
      refine HLS.out.mono ?_
      rintro e w3 ⟨rfl, hb3⟩
      have HB3 := Lib.hid (HB1.out.trans (hb3.mono HB1.out.size))
      have HLT3 := Lib.hid (HLT.out w3 hb3)
      replace e1 := (hb3.cell (cell_lt e1)).trans e1
      replace e2 := (hb3.cell (cell_lt e2)).trans e2
      replace e3 := (hb3.cell (cell_lt e3)).trans e3
      clear hb3 HB1 HLS HLT e0 e4
      go_wp2_with fail
      refine HLT3.out.mono ?_
      rintro e w4 ⟨rfl, hb4⟩
      have HB4 := Lib.hid (HB3.out.trans (hb4.mono HB3.out.size))
      clear hb4 HB3 HLT3 e1 e2 e3
      cases q1
      · go_wp2_with fail
        go_ret
        exact ⟨ret_bool (by rw [HR1.out, ← HJ1.out, HMM.out]; rfl), HB4.out⟩
      · cases q2
        · go_wp2_with fail
          go_ret
          exact ⟨ret_bool (by rw [HR1.out, ← HJ1.out, HMM.out]; rfl), HB4.out⟩
        · go_wp2_with fail
          go_roundw
          case rel => exact ⟨i + 1, by omega, by go_num, Lib.hid (by have := HJ1.out; rw [HMM.out] at this; simpa using this), HB4⟩
          case measure => simp [Go.RowKit.intOf]; omega
    · have e := HJ.out
      rw [drop_all HM.out.len (by omega)] at e
      have HR5 := Lib.hid (show r3 = R by rw [HR1.out, ← e]; rfl)
      have HLC1 := Lib.hid (HLC.out _ HB1.out)
      clear e HJ HR1
      go_wp2_with fail
      refine HLC1.out.mono ?_
      rintro e w3 ⟨rfl, hb3⟩
      have HB3 := Lib.hid (HB1.out.trans (hb3.mono HB1.out.size))
      clear hb3 HLC1
      go_wp2_with fail
      go_ret
      exact ⟨ret_bool HR5.out, HB3.out⟩
end Go.Proofs.Ytloeainlpcnhnaa

/-
  Contracts of the laws' own Nat and awake. No statement is proved here.
-/
namespace Go.Proofs.Ytloeainlpcnhnaa
open Go.ChangeShapes Go.WideShapes Go.ChangeAt Go.RowKit
set_option linter.unusedVariables false

def natT : T := .node 2 0 []
def natS : List T := [.node 0 0 [], natT, .node 1 0 [natT, natT]]
def natW : WV := ⟨natS, []⟩
theorem wf_ofV {x : Int} (h0 : 0 ≤ x) (h1 : x ≤ 1099511627776) : (Lit.int .i64 x).wf = true := by
  have := wf_wrap64 x
  rwa [wrap_small (by omega) (by omega)] at this
theorem wfV {x : Int} (h : 0 ≤ x) (h' : x ≤ 1000) : (Lit.int .i64 x).wf = true := wf_ofV h (by omega)
theorem nat_low : LoV natW [] := ⟨fun t ht _ => by
    simp only [natW, natS, natT, List.mem_cons, List.not_mem_nil, or_false] at ht
    rcases ht with rfl | rfl | rfl <;> simp [okT, okL], fun m hm => by simp [natW] at hm, fun t ht => by simp at ht⟩
theorem nat_ck {w : World} {q : Nat} (hd : DL w natS (some ⟨q, 0, none⟩) 3 3) : CkV w natW [] (some ⟨q, 0, none⟩) 3 3 none 0 0 none 0 0 :=
  ⟨hd, ⟨rfl, Nat.le_refl _, Nat.zero_le _, fun i x hx => by simp [natW] at hx⟩, ⟨rfl, Nat.le_refl _, Nat.zero_le _, fun i x hx => by simp at hx⟩⟩
set_option maxRecDepth 100000 in
set_option maxHeartbeats 4000000 in
theorem vNatC (w : World) : Calls Try.prog 30 #[] w fun e w' => ∃ q, e = .returned (.slice (some ⟨q, 0, none⟩) 3 3) ∧ DL w' natS (some ⟨q, 0, none⟩) 3 3 ∧ Below w.heap.size w w' := by
  obtain ⟨W1, hW1⟩ : ∃ W1, w.alloc (.cells #[.int .i64 2, .int .i64 0, .slice none 0 0] 26) = W1 := ⟨_, rfl⟩
  have hb1 : Below w.heap.size w W1 := by rw [← hW1]; exact (Below.refl _ _).alloc (Nat.le_refl _) _
  have x1 : Box W1 w.heap.size 26 #[.int .i64 2, .int .i64 0, .slice none 0 0] := by rw [← hW1]; exact Box.new _ _ _
  have l1 : W1.heap.size = w.heap.size + 1 := by rw [← hW1]; simp
  obtain ⟨W2, hW2⟩ : ∃ W2, W1.alloc (.cells #[.int .i64 2, .int .i64 0, .slice none 0 0, .int .i64 2, .int .i64 0, .slice none 0 0] 26) = W2 := ⟨_, rfl⟩
  have hb2 : Below W1.heap.size W1 W2 := by rw [← hW2]; exact (Below.refl _ _).alloc (Nat.le_refl _) _
  have x2 : Box W2 (w.heap.size + 1) 26 #[.int .i64 2, .int .i64 0, .slice none 0 0, .int .i64 2, .int .i64 0, .slice none 0 0] := by rw [← hW2]; exact (Box.new _ _ _).at l1
  have l2 : W2.heap.size = w.heap.size + 1 + 1 := by rw [← hW2]; simp [l1]
  obtain ⟨W3, hW3⟩ : ∃ W3, W2.alloc (.cells #[.string { data := #[110, 97, 116] }, .int .i64 0, .int .i64 0, .slice none 0 0, .string { data := #[122] }, .int .i64 2, .int .i64 0, .slice none 0 0, .string { data := #[115] }, .int .i64 1, .int .i64 0, .slice (some ⟨w.heap.size + 1, 0, none⟩) 2 2] 59) = W3 := ⟨_, rfl⟩
  have hb3 : Below W2.heap.size W2 W3 := by rw [← hW3]; exact (Below.refl _ _).alloc (Nat.le_refl _) _
  have x3 : Box W3 (w.heap.size + 1 + 1) 59 #[.string { data := #[110, 97, 116] }, .int .i64 0, .int .i64 0, .slice none 0 0, .string { data := #[122] }, .int .i64 2, .int .i64 0, .slice none 0 0, .string { data := #[115] }, .int .i64 1, .int .i64 0, .slice (some ⟨w.heap.size + 1, 0, none⟩) 2 2] := by rw [← hW3]; exact (Box.new _ _ _).at l2
  have y2 := x2.keep hb3 x2.lt
  have hbw := hb1.trans ((hb2.trans (hb3.mono hb2.size)).mono hb1.size)
  have leaf : ∀ W' : World, Rd W' natT (.agg #[.int .i64 2, .int .i64 0, .slice none 0 0]) := fun W' => rd_leaf (wfV (by omega) (by omega)) (wfV (by omega) (by omega))
  have hdl : DL W3 natS (some ⟨w.heap.size + 1 + 1, 0, none⟩) 3 3 := ⟨rfl, Nat.le_refl _, by unfold maxLen; omega, fun i x hx => by
    match i, hx with
    | 0, hx =>
      cases hx
      exact ⟨w.heap.size + 1 + 1, 0, _, _, _, _, _, _, rfl, x3.cell 0, x3.cell 1, x3.cell 2, x3.cell 3, rd_leaf (wfV (by omega) (by omega)) (wfV (by omega) (by omega))⟩
    | 1, hx =>
      cases hx
      exact ⟨w.heap.size + 1 + 1, 0, _, _, _, _, _, _, rfl, x3.cell 4, x3.cell 5, x3.cell 6, x3.cell 7, leaf _⟩
    | 2, hx =>
      cases hx
      exact ⟨w.heap.size + 1 + 1, 0, _, _, _, _, _, _, rfl, x3.cell 8, x3.cell 9, x3.cell 10, x3.cell 11, Rd_node.2 ⟨_, _, _, rfl, wfV (by omega) (by omega), wfV (by omega) (by omega), rfl, Nat.le_refl _, by unfold maxLen; omega, rd_two y2 (leaf _) (leaf _)⟩⟩
    | i + 3, hx => simp [natS] at hx⟩
  have HD := Lib.hid hdl
  have HB := Lib.hid hbw
  obtain ⟨c0, c1, c2⟩ := x1.three
  have g1 := x1.frozen 1
  have g2 := x1.frozen 2
  clear hdl hbw leaf x1 x2 x3 y2 hb1 hb2 hb3 l1
  subst hW1
  go_enter Try.func30, Try.ntmps30
  go_wp2_with fail
  clear hW2 hW3
  go_ret
  exact ⟨_, rfl, HD.out, HB.out⟩

/-- the terms of awake -/
def awS : T := .node 5 2 [.node 4 0 []]
def awL : T := .node 3 0 [awS]
theorem aw_a : ckT natW [] (.node 5 2 [.node 5 1 []]) natT = 0 := by kernel_rfl
theorem aw_b : ckT natW [] (.node 5 2 []) natT = 3 := by kernel_rfl
theorem aw_c : ckT natW [] awL (.node 1 0 [natT, natT]) = 0 := by kernel_rfl
theorem aw_d : ckT natW [] awS natT = 2 := by kernel_rfl
theorem aw_e : ckTy natW [] natT = 0 := by kernel_rfl
theorem natTermC {W' : World} {q : Nat} (hd : DL W' natS (some ⟨q, 0, none⟩) 3 3) {m a : T} {vm va : Value} (hm : Rd W' m vm) (ha : Rd W' a va) (hlm : okT loV m) (hla : okT loV a) (R : Int) (hR : ckT natW [] m a = R) :
    Calls Try.prog 12 #[.slice (some ⟨q, 0, none⟩) 3 3, .slice none 0 0, .slice none 0 0, vm, va] W' (ByQ R W') := by
  rw [← hR]
  exact vCheckTermC natW [] m a _ 3 3 none 0 0 none 0 0 vm va W' (nat_ck hd) hm ha nat_low (fun _ => hlm) (fun _ => hla)

set_option maxRecDepth 100000 in
set_option maxHeartbeats 16000000 in
theorem vAwakeC (w : World) : Calls Try.prog 9 #[] w fun e w' => e = .returned (.bool true) ∧ Below w.heap.size w w' := by
  obtain ⟨W1, hW1⟩ : ∃ W1, w.alloc (.cells #[.int .i64 2, .int .i64 0, .slice none 0 0] 26) = W1 := ⟨_, rfl⟩
  have hb1 : Below w.heap.size w W1 := by rw [← hW1]; exact (Below.refl _ _).alloc (Nat.le_refl _) _
  have x1 : Box W1 w.heap.size 26 #[.int .i64 2, .int .i64 0, .slice none 0 0] := by rw [← hW1]; exact Box.new _ _ _
  obtain ⟨W2, hW2⟩ : ∃ W2, W1.alloc (.cells #[.int .i64 4, .int .i64 0, .slice none 0 0] 26) = W2 := ⟨_, rfl⟩
  have hb2 : Below W1.heap.size W1 W2 := by rw [← hW2]; exact (Below.refl _ _).alloc (Nat.le_refl _) _
  have l1 : W1.heap.size = w.heap.size + 1 := by rw [← hW1]; simp
  have x2 : Box W2 (w.heap.size + 1) 26 #[.int .i64 4, .int .i64 0, .slice none 0 0] := by rw [← hW2]; exact (Box.new _ _ _).at l1
  have l2 : W2.heap.size = w.heap.size + 1 + 1 := by rw [← hW2]; simp [l1]
  obtain ⟨W3, hW3⟩ : ∃ W3, W2.alloc (.cells #[.int .i64 5, .int .i64 2, .slice (some ⟨w.heap.size + 1, 0, none⟩) 1 1] 26) = W3 := ⟨_, rfl⟩
  have hb3 : Below W2.heap.size W2 W3 := by rw [← hW3]; exact (Below.refl _ _).alloc (Nat.le_refl _) _
  have x3 : Box W3 (w.heap.size + 1 + 1) 26 #[.int .i64 5, .int .i64 2, .slice (some ⟨w.heap.size + 1, 0, none⟩) 1 1] := by rw [← hW3]; exact (Box.new _ _ _).at l2
  have l3 : W3.heap.size = w.heap.size + 1 + 1 + 1 := by rw [← hW3]; simp [l2]
  obtain ⟨W4, hW4⟩ : ∃ W4, W3.alloc (.cells #[.int .i64 5, .int .i64 2, .slice (some ⟨w.heap.size + 1, 0, none⟩) 1 1] 26) = W4 := ⟨_, rfl⟩
  have hb4 : Below W3.heap.size W3 W4 := by rw [← hW4]; exact (Below.refl _ _).alloc (Nat.le_refl _) _
  have x4 : Box W4 (w.heap.size + 1 + 1 + 1) 26 #[.int .i64 5, .int .i64 2, .slice (some ⟨w.heap.size + 1, 0, none⟩) 1 1] := by rw [← hW4]; exact (Box.new _ _ _).at l3
  have l4 : W4.heap.size = w.heap.size + 1 + 1 + 1 + 1 := by rw [← hW4]; simp [l3]
  obtain ⟨W5, hW5⟩ : ∃ W5, W4.alloc (.cells #[.int .i64 3, .int .i64 0, .slice (some ⟨w.heap.size + 1 + 1 + 1, 0, none⟩) 1 1] 26) = W5 := ⟨_, rfl⟩
  have hb5 : Below W4.heap.size W4 W5 := by rw [← hW5]; exact (Below.refl _ _).alloc (Nat.le_refl _) _
  have x5 : Box W5 (w.heap.size + 1 + 1 + 1 + 1) 26 #[.int .i64 3, .int .i64 0, .slice (some ⟨w.heap.size + 1 + 1 + 1, 0, none⟩) 1 1] := by rw [← hW5]; exact (Box.new _ _ _).at l4
  obtain ⟨s0, s1, s2⟩ := x3.three
  obtain ⟨t0, t1, t2⟩ := x1.three
  have g1 := x1.frozen 1
  have g2 := x1.frozen 2
  replace x4 := x4.keep hb5 x4.lt
  have hb35 := hb4.trans (hb5.mono hb4.size)
  replace x3 := x3.keep hb35 x3.lt
  have hb25 := hb3.trans (hb35.mono hb3.size)
  replace x2 := x2.keep hb25 x2.lt
  have hb15 := hb2.trans (hb25.mono hb2.size)
  replace x1 := x1.keep hb15 x1.lt
  have HB := Lib.hid (hb1.trans (hb15.mono hb1.size))
  have leaf : ∀ (W' : World) (k h : Int), 0 ≤ k → k ≤ 1000 → 0 ≤ h → h ≤ 1000 → Rd W' (.node k h []) (.agg #[.int .i64 k, .int .i64 h, .slice none 0 0]) := fun W' k h h1 h2 h3 h4 => rd_leaf (wfV h1 h2) (wfV h3 h4)
  have hrS : Rd W5 awS (.agg #[.int .i64 5, .int .i64 2, .slice (some ⟨w.heap.size + 1, 0, none⟩) 1 1]) := rd_node1 x2 (leaf _ 4 0 (by omega) (by omega) (by omega) (by omega)) (wfV (by omega) (by omega)) (wfV (by omega) (by omega))
  have hrL : Rd W5 awL (.agg #[.int .i64 3, .int .i64 0, .slice (some ⟨w.heap.size + 1 + 1 + 1, 0, none⟩) 1 1]) := rd_node1 x4 hrS (wfV (by omega) (by omega)) (wfV (by omega) (by omega))
  have lowN : okT loV natT := by simp [natT, okT, okL]
  have lowS : okT loV awS := by simp [awS, okT, okL]
  have lowL : okT loV awL := by simp [awL, awS, okT, okL]
  have lowP : okT loV (.node 1 0 [natT, natT]) := by simp [natT, okT, okL]
  have HTA : Hid (∀ (W' : World) (q p : Nat), DL W' natS (some ⟨q, 0, none⟩) 3 3 → Box W' p 26 #[.int .i64 5, .int .i64 1, .slice none 0 0] → Calls Try.prog 12 #[.slice (some ⟨q, 0, none⟩) 3 3, .slice none 0 0, .slice none 0 0, .agg #[.int .i64 5, .int .i64 2, .slice (some ⟨p, 0, none⟩) 1 1], .agg #[.int .i64 2, .int .i64 0, .slice none 0 0]] W' (ByQ 0 W')) := Lib.hid fun W' q p hd hb =>
    natTermC hd (rd_node1 hb (leaf _ 5 1 (by omega) (by omega) (by omega) (by omega)) (wfV (by omega) (by omega)) (wfV (by omega) (by omega))) (leaf _ 2 0 (by omega) (by omega) (by omega) (by omega)) (by simp [okT, okL]) lowN 0 aw_a
  have HTB : Hid (∀ (W' : World) (q : Nat), DL W' natS (some ⟨q, 0, none⟩) 3 3 → Calls Try.prog 12 #[.slice (some ⟨q, 0, none⟩) 3 3, .slice none 0 0, .slice none 0 0, .agg #[.int .i64 5, .int .i64 2, .slice none 0 0], .agg #[.int .i64 2, .int .i64 0, .slice none 0 0]] W' (ByQ 3 W')) := Lib.hid fun W' q hd =>
    natTermC hd (leaf _ 5 2 (by omega) (by omega) (by omega) (by omega)) (leaf _ 2 0 (by omega) (by omega) (by omega) (by omega)) (by simp [okT, okL]) lowN 3 aw_b
  have HTC : Hid (∀ (W' : World) (q : Nat) (k h : Int) (A : Option Addr) (n c : Nat), Below W5.heap.size W5 W' → DL W' natS (some ⟨q, 0, none⟩) 3 3 → Rd W' (.node 1 0 [natT, natT]) (.agg #[.int .i64 k, .int .i64 h, .slice A n c]) → Calls Try.prog 12 #[.slice (some ⟨q, 0, none⟩) 3 3, .slice none 0 0, .slice none 0 0, .agg #[.int .i64 3, .int .i64 0, .slice (some ⟨w.heap.size + 1 + 1 + 1, 0, none⟩) 1 1], .agg #[.int .i64 k, .int .i64 h, .slice A n c]] W' (ByQ 0 W')) := Lib.hid fun W' q k h A n c hb hd hr =>
    natTermC hd (Rd.keep hb _ _ hrL) hr lowL lowP 0 aw_c
  have HTD : Hid (∀ (W' : World) (q : Nat), Below W5.heap.size W5 W' → DL W' natS (some ⟨q, 0, none⟩) 3 3 → Calls Try.prog 12 #[.slice (some ⟨q, 0, none⟩) 3 3, .slice none 0 0, .slice none 0 0, .agg #[.int .i64 5, .int .i64 2, .slice (some ⟨w.heap.size + 1, 0, none⟩) 1 1], .agg #[.int .i64 2, .int .i64 0, .slice none 0 0]] W' (ByQ 2 W')) := Lib.hid fun W' q hb hd =>
    natTermC hd (Rd.keep hb _ _ hrS) (leaf _ 2 0 (by omega) (by omega) (by omega) (by omega)) lowS lowN 2 aw_d
  have HTE : Hid (∀ (W' : World) (q : Nat), DL W' natS (some ⟨q, 0, none⟩) 3 3 → Calls Try.prog 14 #[.slice (some ⟨q, 0, none⟩) 3 3, .slice none 0 0, .slice none 0 0, .agg #[.int .i64 2, .int .i64 0, .slice none 0 0]] W' (ByQ 0 W')) := Lib.hid fun W' q hd => by
    have h := vCheckTypeC natW [] natT _ 3 3 none 0 0 none 0 0 _ W' (nat_ck hd) (leaf _ 2 0 (by omega) (by omega) (by omega) (by omega)) nat_low (fun _ => lowN)
    rw [aw_e] at h
    exact h
  obtain ⟨c0, c1, c2⟩ := x1.three
  obtain ⟨d0, d1, d2⟩ := x3.three
  obtain ⟨e0, e1, e2⟩ := x5.three
  clear x1 x2 x3 x4 x5 hb1 hb2 hb3 hb4 hb5 hb35 hb25 hb15 l1 leaf hrS hrL lowN lowS lowL lowP
  subst hW1
  go_enter Try.func9, Try.ntmps9
  go_wp2_with fail
  clear hW2 hW3 hW4 hW5 s0 s1 s2 t0 t1 t2 g1 g2 l2 l3 l4
  generalize w.heap.size + 1 + 1 + 1 + 1 = P4 at *
  generalize w.heap.size + 1 + 1 + 1 = P3 at *
  generalize w.heap.size + 1 + 1 = P2 at *
  generalize w.heap.size + 1 = P1 at *
  have HKS : Hid (∀ w' : World, Below W5.heap.size W5 w' → (fun w' => w'.cell? ⟨w.heap.size, 0, none⟩ = some (.int .i64 2) ∧ w'.cell? ⟨w.heap.size, 1, none⟩ = some (.int .i64 0) ∧ w'.cell? ⟨w.heap.size, 2, none⟩ = some (.slice none 0 0) ∧ w'.cell? ⟨P2, 0, none⟩ = some (.int .i64 5) ∧ w'.cell? ⟨P2, 1, none⟩ = some (.int .i64 2) ∧ w'.cell? ⟨P2, 2, none⟩ = some (.slice (some ⟨P1, 0, none⟩) 1 1) ∧ w'.cell? ⟨P4, 0, none⟩ = some (.int .i64 3) ∧ w'.cell? ⟨P4, 1, none⟩ = some (.int .i64 0) ∧ w'.cell? ⟨P4, 2, none⟩ = some (.slice (some ⟨P3, 0, none⟩) 1 1)) w') := Lib.hid fun w' h => ⟨(h.cell (cell_lt c0)).trans c0, (h.cell (cell_lt c1)).trans c1, (h.cell (cell_lt c2)).trans c2, (h.cell (cell_lt d0)).trans d0, (h.cell (cell_lt d1)).trans d1, (h.cell (cell_lt d2)).trans d2, (h.cell (cell_lt e0)).trans e0, (h.cell (cell_lt e1)).trans e1, (h.cell (cell_lt e2)).trans e2⟩
  have hbd : Below W5.heap.size W5 W5.drew := (Below.refl _ W5).drew
  refine wp_region_held_drew (S := fun w' => w'.cell? ⟨w.heap.size, 0, none⟩ = some (.int .i64 2) ∧ w'.cell? ⟨w.heap.size, 1, none⟩ = some (.int .i64 0) ∧ w'.cell? ⟨w.heap.size, 2, none⟩ = some (.slice none 0 0) ∧ w'.cell? ⟨P2, 0, none⟩ = some (.int .i64 5) ∧ w'.cell? ⟨P2, 1, none⟩ = some (.int .i64 2) ∧ w'.cell? ⟨P2, 2, none⟩ = some (.slice (some ⟨P1, 0, none⟩) 1 1) ∧ w'.cell? ⟨P4, 0, none⟩ = some (.int .i64 3) ∧ w'.cell? ⟨P4, 1, none⟩ = some (.int .i64 0) ∧ w'.cell? ⟨P4, 2, none⟩ = some (.slice (some ⟨P3, 0, none⟩) 1 1)) (by kernel_rfl) (HKS.out _ hbd) (fun hS => ?_)
  simp only [List.size_toArray, List.length_cons, List.length_nil, Nat.reduceAdd]
  refine wpAnyH_take (i := 1) (v := .agg #[.int .i64 5, .int .i64 1, .slice none 0 0]) rfl (by kernel_rfl) (by kernel_rfl) (by kernel_rfl) (fun _ _ _ h => h) (Or.inl ⟨by kernel_rfl, ?_⟩) hS ?_
  · intro w' hSw
    obtain ⟨s0, s1, s2, s3, s4, s5, s6, s7, s8⟩ := hSw
    go_simp
  try simp only [Act.put, List.setIfInBounds_toArray]
  refine wpAnyH_take (i := 4) (v := .agg #[.int .i64 2, .int .i64 0, .slice none 0 0]) rfl (by kernel_rfl) (by kernel_rfl) (by kernel_rfl) (fun _ _ _ h => h) (Or.inl ⟨by kernel_rfl, ?_⟩) hS ?_
  · intro w' hSw
    obtain ⟨s0, s1, s2, s3, s4, s5, s6, s7, s8⟩ := hSw
    go_simp
  try simp only [Act.put]
  refine wpAnyH_ready (rs := [0, 2]) (by kernel_rfl) (by simp) ?_
  refine AllReadyH.cons rfl (fun KN hK => ?_) (AllReadyH.cons rfl (fun KN hK => ?_) AllReadyH.nil)
  · go_simp
    refine (vNatC _).mono ?_
    rintro e w40 ⟨q4, rfl, hdw40, hnw40⟩
    have hbw40 := hbd.trans (hnw40.mono hbd.size)
    refine hK.out _ _ (HKS.out _ hbw40) (fun hS => ?_)
    clear hK KN
    try simp only [Act.put, List.setIfInBounds_toArray, List.set_cons_zero, List.set_cons_succ]
    refine wpAnyH_ready (rs := [2]) (by kernel_rfl) (by simp) ?_
    refine AllReadyH.cons rfl (fun KN hK => ?_) AllReadyH.nil
    go_simp
    have hb41 : Below W5.heap.size W5 (w40.alloc (.cells #[.int .i64 5, .int .i64 1, .slice none 0 0] 26)) := hbw40.alloc hbw40.size _
    have hd41 := hdw40.keep (show Below w40.heap.size w40 (w40.alloc (.cells #[.int .i64 5, .int .i64 1, .slice none 0 0] 26)) from (Below.refl _ _).alloc (Nat.le_refl _) _)
    have x41 : Box (w40.alloc (.cells #[.int .i64 5, .int .i64 1, .slice none 0 0] 26)) w40.heap.size 26 #[.int .i64 5, .int .i64 1, .slice none 0 0] := Box.new _ _ _
    refine hK.out _ _ (HKS.out _ hb41) (fun hS => ?_)
    clear hK KN
    try simp only [Act.put, List.setIfInBounds_toArray, List.set_cons_zero, List.set_cons_succ]
    clear hdw40 hnw40 hbw40
    generalize w40.alloc (.cells #[.int .i64 5, .int .i64 1, .slice none 0 0] 26) = w41 at *
    generalize w40.heap.size = P9 at *
    refine wpAnyH_take (i := 3) (v := .agg #[.int .i64 5, .int .i64 2, .slice (some ⟨P9, 0, none⟩) 1 1]) rfl (by kernel_rfl) (by kernel_rfl) (by kernel_rfl) (fun _ _ _ h => h) (Or.inl ⟨by kernel_rfl, ?_⟩) hS ?_
    · intro w' hSw
      obtain ⟨s0, s1, s2, s3, s4, s5, s6, s7, s8⟩ := hSw
      go_simp
    try simp only [Act.put, List.setIfInBounds_toArray]
    refine wpAnyH_ready (rs := [5]) (by kernel_rfl) (by simp) ?_
    refine AllReadyH.cons rfl (fun KN hK => ?_) AllReadyH.nil
    go_simp
    refine (HTA.out _ q4 P9 hd41 x41).mono ?_
    rintro e w42 ⟨rfl, hnw42⟩
    have hbw42 := hb41.trans (hnw42.mono hb41.size)
    refine hK.out _ _ (HKS.out _ hbw42) (fun hS => ?_)
    clear hK KN
    try simp only [Act.put, List.setIfInBounds_toArray, List.set_cons_zero, List.set_cons_succ]
    refine wpAnyH_take (i := 6) (v := .int .i64 0) rfl (by kernel_rfl) (by kernel_rfl) (by kernel_rfl) (fun _ _ _ h => h) (Or.inl ⟨by kernel_rfl, ?_⟩) hS ?_
    · intro w' hSw
      obtain ⟨s0, s1, s2, s3, s4, s5, s6, s7, s8⟩ := hSw
      go_simp
    try simp only [Act.put, List.setIfInBounds_toArray]
    refine wpAnyH_done (by kernel_rfl) ?_ _
    try simp only [List.setIfInBounds_toArray]
    try simp only [List.getElem_toArray, List.getElem_cons_succ, List.getElem_cons_zero, List.set_cons_zero, List.set_cons_succ]
    replace c0 := (hbw42.cell (cell_lt c0)).trans c0
    replace c1 := (hbw42.cell (cell_lt c1)).trans c1
    replace c2 := (hbw42.cell (cell_lt c2)).trans c2
    replace d0 := (hbw42.cell (cell_lt d0)).trans d0
    replace d1 := (hbw42.cell (cell_lt d1)).trans d1
    replace d2 := (hbw42.cell (cell_lt d2)).trans d2
    replace e0 := (hbw42.cell (cell_lt e0)).trans e0
    replace e1 := (hbw42.cell (cell_lt e1)).trans e1
    replace e2 := (hbw42.cell (cell_lt e2)).trans e2
    have HBw42 := Lib.hid (HB.out.trans (hbw42.mono HB.out.size))
    have HXw42 : Hid (Below W5.heap.size W5 w42) := Lib.hid (hbw42)
    clear hS HKS hbd hb41 hd41 x41 hnw42 hbw42
    go_wp2_with fail
    have HKS : Hid (∀ w' : World, Below w42.heap.size w42 w' → (fun w' => w'.cell? ⟨w.heap.size, 0, none⟩ = some (.int .i64 2) ∧ w'.cell? ⟨w.heap.size, 1, none⟩ = some (.int .i64 0) ∧ w'.cell? ⟨w.heap.size, 2, none⟩ = some (.slice none 0 0) ∧ w'.cell? ⟨P2, 0, none⟩ = some (.int .i64 5) ∧ w'.cell? ⟨P2, 1, none⟩ = some (.int .i64 2) ∧ w'.cell? ⟨P2, 2, none⟩ = some (.slice (some ⟨P1, 0, none⟩) 1 1) ∧ w'.cell? ⟨P4, 0, none⟩ = some (.int .i64 3) ∧ w'.cell? ⟨P4, 1, none⟩ = some (.int .i64 0) ∧ w'.cell? ⟨P4, 2, none⟩ = some (.slice (some ⟨P3, 0, none⟩) 1 1)) w') := Lib.hid fun w' h => ⟨(h.cell (cell_lt c0)).trans c0, (h.cell (cell_lt c1)).trans c1, (h.cell (cell_lt c2)).trans c2, (h.cell (cell_lt d0)).trans d0, (h.cell (cell_lt d1)).trans d1, (h.cell (cell_lt d2)).trans d2, (h.cell (cell_lt e0)).trans e0, (h.cell (cell_lt e1)).trans e1, (h.cell (cell_lt e2)).trans e2⟩
    have hbd : Below w42.heap.size w42 w42.drew := (Below.refl _ w42).drew
    refine wp_region_held_drew (S := fun w' => w'.cell? ⟨w.heap.size, 0, none⟩ = some (.int .i64 2) ∧ w'.cell? ⟨w.heap.size, 1, none⟩ = some (.int .i64 0) ∧ w'.cell? ⟨w.heap.size, 2, none⟩ = some (.slice none 0 0) ∧ w'.cell? ⟨P2, 0, none⟩ = some (.int .i64 5) ∧ w'.cell? ⟨P2, 1, none⟩ = some (.int .i64 2) ∧ w'.cell? ⟨P2, 2, none⟩ = some (.slice (some ⟨P1, 0, none⟩) 1 1) ∧ w'.cell? ⟨P4, 0, none⟩ = some (.int .i64 3) ∧ w'.cell? ⟨P4, 1, none⟩ = some (.int .i64 0) ∧ w'.cell? ⟨P4, 2, none⟩ = some (.slice (some ⟨P3, 0, none⟩) 1 1)) (by kernel_rfl) (HKS.out _ hbd) (fun hS => ?_)
    simp only [List.size_toArray, List.length_cons, List.length_nil, Nat.reduceAdd]
    refine wpAnyH_take (i := 1) (v := .agg #[.int .i64 5, .int .i64 2, .slice none 0 0]) rfl (by kernel_rfl) (by kernel_rfl) (by kernel_rfl) (fun _ _ _ h => h) (Or.inl ⟨by kernel_rfl, ?_⟩) hS ?_
    · intro w' hSw
      obtain ⟨s0, s1, s2, s3, s4, s5, s6, s7, s8⟩ := hSw
      go_simp
    try simp only [Act.put, List.setIfInBounds_toArray]
    refine wpAnyH_take (i := 2) (v := .agg #[.int .i64 2, .int .i64 0, .slice none 0 0]) rfl (by kernel_rfl) (by kernel_rfl) (by kernel_rfl) (fun _ _ _ h => h) (Or.inl ⟨by kernel_rfl, ?_⟩) hS ?_
    · intro w' hSw
      obtain ⟨s0, s1, s2, s3, s4, s5, s6, s7, s8⟩ := hSw
      go_simp
    try simp only [Act.put]
    refine wpAnyH_ready (rs := [0]) (by kernel_rfl) (by simp) ?_
    refine AllReadyH.cons rfl (fun KN hK => ?_) AllReadyH.nil
    go_simp
    refine (vNatC _).mono ?_
    rintro e w50 ⟨q5, rfl, hdw50, hnw50⟩
    have hbw50 := hbd.trans (hnw50.mono hbd.size)
    refine hK.out _ _ (HKS.out _ hbw50) (fun hS => ?_)
    clear hK KN
    try simp only [Act.put, List.setIfInBounds_toArray, List.set_cons_zero, List.set_cons_succ]
    refine wpAnyH_ready (rs := [3]) (by kernel_rfl) (by simp) ?_
    refine AllReadyH.cons rfl (fun KN hK => ?_) AllReadyH.nil
    go_simp
    refine (HTB.out _ q5 hdw50).mono ?_
    rintro e w51 ⟨rfl, hnw51⟩
    have hbw51 := hbw50.trans (hnw51.mono hbw50.size)
    refine hK.out _ _ (HKS.out _ hbw51) (fun hS => ?_)
    clear hK KN
    try simp only [Act.put, List.setIfInBounds_toArray, List.set_cons_zero, List.set_cons_succ]
    refine wpAnyH_take (i := 4) (v := .int .i64 3) rfl (by kernel_rfl) (by kernel_rfl) (by kernel_rfl) (fun _ _ _ h => h) (Or.inl ⟨by kernel_rfl, ?_⟩) hS ?_
    · intro w' hSw
      obtain ⟨s0, s1, s2, s3, s4, s5, s6, s7, s8⟩ := hSw
      go_simp
    try simp only [Act.put, List.setIfInBounds_toArray]
    refine wpAnyH_done (by kernel_rfl) ?_ _
    try simp only [List.setIfInBounds_toArray]
    try simp only [List.getElem_toArray, List.getElem_cons_succ, List.getElem_cons_zero, List.set_cons_zero, List.set_cons_succ]
    replace c0 := (hbw51.cell (cell_lt c0)).trans c0
    replace c1 := (hbw51.cell (cell_lt c1)).trans c1
    replace c2 := (hbw51.cell (cell_lt c2)).trans c2
    replace d0 := (hbw51.cell (cell_lt d0)).trans d0
    replace d1 := (hbw51.cell (cell_lt d1)).trans d1
    replace d2 := (hbw51.cell (cell_lt d2)).trans d2
    replace e0 := (hbw51.cell (cell_lt e0)).trans e0
    replace e1 := (hbw51.cell (cell_lt e1)).trans e1
    replace e2 := (hbw51.cell (cell_lt e2)).trans e2
    have HBw51 := Lib.hid (HBw42.out.trans (hbw51.mono HBw42.out.size))
    have HXw51 : Hid (Below W5.heap.size W5 w51) := Lib.hid (HXw42.out.trans (hbw51.mono HXw42.out.size))
    clear hS HKS hbd hdw50 hnw50 hbw50 hnw51 hbw51
    go_wp2_with fail
    have HKS : Hid (∀ w' : World, Below w51.heap.size w51 w' → (fun w' => w'.cell? ⟨w.heap.size, 0, none⟩ = some (.int .i64 2) ∧ w'.cell? ⟨w.heap.size, 1, none⟩ = some (.int .i64 0) ∧ w'.cell? ⟨w.heap.size, 2, none⟩ = some (.slice none 0 0) ∧ w'.cell? ⟨P2, 0, none⟩ = some (.int .i64 5) ∧ w'.cell? ⟨P2, 1, none⟩ = some (.int .i64 2) ∧ w'.cell? ⟨P2, 2, none⟩ = some (.slice (some ⟨P1, 0, none⟩) 1 1) ∧ w'.cell? ⟨P4, 0, none⟩ = some (.int .i64 3) ∧ w'.cell? ⟨P4, 1, none⟩ = some (.int .i64 0) ∧ w'.cell? ⟨P4, 2, none⟩ = some (.slice (some ⟨P3, 0, none⟩) 1 1)) w') := Lib.hid fun w' h => ⟨(h.cell (cell_lt c0)).trans c0, (h.cell (cell_lt c1)).trans c1, (h.cell (cell_lt c2)).trans c2, (h.cell (cell_lt d0)).trans d0, (h.cell (cell_lt d1)).trans d1, (h.cell (cell_lt d2)).trans d2, (h.cell (cell_lt e0)).trans e0, (h.cell (cell_lt e1)).trans e1, (h.cell (cell_lt e2)).trans e2⟩
    have hbd : Below w51.heap.size w51 w51.drew := (Below.refl _ w51).drew
    refine wp_region_held_drew (S := fun w' => w'.cell? ⟨w.heap.size, 0, none⟩ = some (.int .i64 2) ∧ w'.cell? ⟨w.heap.size, 1, none⟩ = some (.int .i64 0) ∧ w'.cell? ⟨w.heap.size, 2, none⟩ = some (.slice none 0 0) ∧ w'.cell? ⟨P2, 0, none⟩ = some (.int .i64 5) ∧ w'.cell? ⟨P2, 1, none⟩ = some (.int .i64 2) ∧ w'.cell? ⟨P2, 2, none⟩ = some (.slice (some ⟨P1, 0, none⟩) 1 1) ∧ w'.cell? ⟨P4, 0, none⟩ = some (.int .i64 3) ∧ w'.cell? ⟨P4, 1, none⟩ = some (.int .i64 0) ∧ w'.cell? ⟨P4, 2, none⟩ = some (.slice (some ⟨P3, 0, none⟩) 1 1)) (by kernel_rfl) (HKS.out _ hbd) (fun hS => ?_)
    simp only [List.size_toArray, List.length_cons, List.length_nil, Nat.reduceAdd]
    refine wpAnyH_take (i := 1) (v := .agg #[.int .i64 3, .int .i64 0, .slice (some ⟨P3, 0, none⟩) 1 1]) rfl (by kernel_rfl) (by kernel_rfl) (by kernel_rfl) (fun _ _ _ h => h) (Or.inl ⟨by kernel_rfl, ?_⟩) hS ?_
    · intro w' hSw
      obtain ⟨s0, s1, s2, s3, s4, s5, s6, s7, s8⟩ := hSw
      go_simp
    try simp only [Act.put, List.setIfInBounds_toArray]
    refine wpAnyH_ready (rs := [0]) (by kernel_rfl) (by simp) ?_
    refine AllReadyH.cons rfl (fun KN hK => ?_) AllReadyH.nil
    go_simp
    refine (vNatC _).mono ?_
    rintro e w60 ⟨q6, rfl, hdw60, hnw60⟩
    have hbw60 := hbd.trans (hnw60.mono hbd.size)
    refine hK.out _ _ (HKS.out _ hbw60) (fun hS => ?_)
    clear hK KN
    try simp only [Act.put, List.setIfInBounds_toArray, List.set_cons_zero, List.set_cons_succ]
    refine wpAnyH_ready (rs := [2]) (by kernel_rfl) (by simp) ?_
    refine AllReadyH.cons rfl (fun KN hK => ?_) AllReadyH.nil
    go_simp
    refine (vNatC _).mono ?_
    rintro e w61 ⟨q7, rfl, hdw61, hnw61⟩
    have hbw61 := hbw60.trans (hnw61.mono hbw60.size)
    refine hK.out _ _ (HKS.out _ hbw61) (fun hS => ?_)
    clear hK KN
    try simp only [Act.put, List.setIfInBounds_toArray, List.set_cons_zero, List.set_cons_succ]
    obtain ⟨bN, oN, sN, kN, hN, AN, nN, cN, eN, g9, g0, g1, g2, hrN⟩ := hdw61.at_ 2 _ rfl
    cases eN
    simp only [Nat.zero_add, Nat.reduceMul, Nat.reduceAdd] at g0 g1 g2
    have HRN := Lib.hid hrN
    clear hrN g9
    refine wpAnyH_take (i := 3) (v := .pointer (some ⟨q7, 8, none⟩)) rfl (by kernel_rfl) (by kernel_rfl) (by kernel_rfl) (fun _ _ _ h => h) (Or.inl ⟨by kernel_rfl, ?_⟩) hS ?_
    · intro w' hSw
      obtain ⟨s0, s1, s2, s3, s4, s5, s6, s7, s8⟩ := hSw
      go_simp
    try simp only [Act.put, List.setIfInBounds_toArray]
    refine wpAnyH_take (i := 4) (v := .pointer (some ⟨q7, 9, none⟩)) rfl (by kernel_rfl) (by kernel_rfl) (by kernel_rfl) (fun _ _ _ h => h) (Or.inl ⟨by kernel_rfl, ?_⟩) hS ?_
    · intro w' hSw
      obtain ⟨s0, s1, s2, s3, s4, s5, s6, s7, s8⟩ := hSw
      go_simp
    try simp only [Act.put]
    refine wpAnyH_ready (rs := [5]) (by kernel_rfl) (by simp) ?_
    refine AllReadyH.cons rfl (fun KN hK => ?_) AllReadyH.nil
    go_simp
    refine hK.out _ _ (HKS.out _ hbw61) (fun hS => ?_)
    clear hK KN
    try simp only [Act.put, List.setIfInBounds_toArray, List.set_cons_zero, List.set_cons_succ]
    refine wpAnyH_ready (rs := [6]) (by kernel_rfl) (by simp) ?_
    refine AllReadyH.cons rfl (fun KN hK => ?_) AllReadyH.nil
    go_simp
    refine (HTC.out _ q6 _ _ _ _ _ (HXw51.out.trans (hbw61.mono HXw51.out.size)) (hdw60.keep hnw61) HRN.out).mono ?_
    rintro e w62 ⟨rfl, hnw62⟩
    have hbw62 := hbw61.trans (hnw62.mono hbw61.size)
    refine hK.out _ _ (HKS.out _ hbw62) (fun hS => ?_)
    clear hK KN
    try simp only [Act.put, List.setIfInBounds_toArray, List.set_cons_zero, List.set_cons_succ]
    refine wpAnyH_take (i := 7) (v := .int .i64 0) rfl (by kernel_rfl) (by kernel_rfl) (by kernel_rfl) (fun _ _ _ h => h) (Or.inl ⟨by kernel_rfl, ?_⟩) hS ?_
    · intro w' hSw
      obtain ⟨s0, s1, s2, s3, s4, s5, s6, s7, s8⟩ := hSw
      go_simp
    try simp only [Act.put, List.setIfInBounds_toArray]
    refine wpAnyH_done (by kernel_rfl) ?_ _
    try simp only [List.setIfInBounds_toArray]
    try simp only [List.getElem_toArray, List.getElem_cons_succ, List.getElem_cons_zero, List.set_cons_zero, List.set_cons_succ]
    replace c0 := (hbw62.cell (cell_lt c0)).trans c0
    replace c1 := (hbw62.cell (cell_lt c1)).trans c1
    replace c2 := (hbw62.cell (cell_lt c2)).trans c2
    replace d0 := (hbw62.cell (cell_lt d0)).trans d0
    replace d1 := (hbw62.cell (cell_lt d1)).trans d1
    replace d2 := (hbw62.cell (cell_lt d2)).trans d2
    replace e0 := (hbw62.cell (cell_lt e0)).trans e0
    replace e1 := (hbw62.cell (cell_lt e1)).trans e1
    replace e2 := (hbw62.cell (cell_lt e2)).trans e2
    have HBw62 := Lib.hid (HBw51.out.trans (hbw62.mono HBw51.out.size))
    have HXw62 : Hid (Below W5.heap.size W5 w62) := Lib.hid (HXw51.out.trans (hbw62.mono HXw51.out.size))
    clear hS HKS hbd hdw60 hnw60 hbw60 hdw61 hnw61 hbw61 hnw62 hbw62 g0 g1 g2
    go_wp2_with fail
    have HKS : Hid (∀ w' : World, Below w62.heap.size w62 w' → (fun w' => w'.cell? ⟨w.heap.size, 0, none⟩ = some (.int .i64 2) ∧ w'.cell? ⟨w.heap.size, 1, none⟩ = some (.int .i64 0) ∧ w'.cell? ⟨w.heap.size, 2, none⟩ = some (.slice none 0 0) ∧ w'.cell? ⟨P2, 0, none⟩ = some (.int .i64 5) ∧ w'.cell? ⟨P2, 1, none⟩ = some (.int .i64 2) ∧ w'.cell? ⟨P2, 2, none⟩ = some (.slice (some ⟨P1, 0, none⟩) 1 1) ∧ w'.cell? ⟨P4, 0, none⟩ = some (.int .i64 3) ∧ w'.cell? ⟨P4, 1, none⟩ = some (.int .i64 0) ∧ w'.cell? ⟨P4, 2, none⟩ = some (.slice (some ⟨P3, 0, none⟩) 1 1)) w') := Lib.hid fun w' h => ⟨(h.cell (cell_lt c0)).trans c0, (h.cell (cell_lt c1)).trans c1, (h.cell (cell_lt c2)).trans c2, (h.cell (cell_lt d0)).trans d0, (h.cell (cell_lt d1)).trans d1, (h.cell (cell_lt d2)).trans d2, (h.cell (cell_lt e0)).trans e0, (h.cell (cell_lt e1)).trans e1, (h.cell (cell_lt e2)).trans e2⟩
    have hbd : Below w62.heap.size w62 w62.drew := (Below.refl _ w62).drew
    refine wp_region_held_drew (S := fun w' => w'.cell? ⟨w.heap.size, 0, none⟩ = some (.int .i64 2) ∧ w'.cell? ⟨w.heap.size, 1, none⟩ = some (.int .i64 0) ∧ w'.cell? ⟨w.heap.size, 2, none⟩ = some (.slice none 0 0) ∧ w'.cell? ⟨P2, 0, none⟩ = some (.int .i64 5) ∧ w'.cell? ⟨P2, 1, none⟩ = some (.int .i64 2) ∧ w'.cell? ⟨P2, 2, none⟩ = some (.slice (some ⟨P1, 0, none⟩) 1 1) ∧ w'.cell? ⟨P4, 0, none⟩ = some (.int .i64 3) ∧ w'.cell? ⟨P4, 1, none⟩ = some (.int .i64 0) ∧ w'.cell? ⟨P4, 2, none⟩ = some (.slice (some ⟨P3, 0, none⟩) 1 1)) (by kernel_rfl) (HKS.out _ hbd) (fun hS => ?_)
    simp only [List.size_toArray, List.length_cons, List.length_nil, Nat.reduceAdd]
    refine wpAnyH_take (i := 1) (v := .agg #[.int .i64 5, .int .i64 2, .slice (some ⟨P1, 0, none⟩) 1 1]) rfl (by kernel_rfl) (by kernel_rfl) (by kernel_rfl) (fun _ _ _ h => h) (Or.inl ⟨by kernel_rfl, ?_⟩) hS ?_
    · intro w' hSw
      obtain ⟨s0, s1, s2, s3, s4, s5, s6, s7, s8⟩ := hSw
      go_simp
    try simp only [Act.put, List.setIfInBounds_toArray]
    refine wpAnyH_take (i := 2) (v := .agg #[.int .i64 2, .int .i64 0, .slice none 0 0]) rfl (by kernel_rfl) (by kernel_rfl) (by kernel_rfl) (fun _ _ _ h => h) (Or.inl ⟨by kernel_rfl, ?_⟩) hS ?_
    · intro w' hSw
      obtain ⟨s0, s1, s2, s3, s4, s5, s6, s7, s8⟩ := hSw
      go_simp
    try simp only [Act.put]
    refine wpAnyH_ready (rs := [0]) (by kernel_rfl) (by simp) ?_
    refine AllReadyH.cons rfl (fun KN hK => ?_) AllReadyH.nil
    go_simp
    refine (vNatC _).mono ?_
    rintro e w70 ⟨q8, rfl, hdw70, hnw70⟩
    have hbw70 := hbd.trans (hnw70.mono hbd.size)
    refine hK.out _ _ (HKS.out _ hbw70) (fun hS => ?_)
    clear hK KN
    try simp only [Act.put, List.setIfInBounds_toArray, List.set_cons_zero, List.set_cons_succ]
    refine wpAnyH_ready (rs := [3]) (by kernel_rfl) (by simp) ?_
    refine AllReadyH.cons rfl (fun KN hK => ?_) AllReadyH.nil
    go_simp
    refine (HTD.out _ q8 (HXw62.out.trans (hbw70.mono HXw62.out.size)) hdw70).mono ?_
    rintro e w71 ⟨rfl, hnw71⟩
    have hbw71 := hbw70.trans (hnw71.mono hbw70.size)
    refine hK.out _ _ (HKS.out _ hbw71) (fun hS => ?_)
    clear hK KN
    try simp only [Act.put, List.setIfInBounds_toArray, List.set_cons_zero, List.set_cons_succ]
    refine wpAnyH_take (i := 4) (v := .int .i64 2) rfl (by kernel_rfl) (by kernel_rfl) (by kernel_rfl) (fun _ _ _ h => h) (Or.inl ⟨by kernel_rfl, ?_⟩) hS ?_
    · intro w' hSw
      obtain ⟨s0, s1, s2, s3, s4, s5, s6, s7, s8⟩ := hSw
      go_simp
    try simp only [Act.put, List.setIfInBounds_toArray]
    refine wpAnyH_done (by kernel_rfl) ?_ _
    try simp only [List.setIfInBounds_toArray]
    try simp only [List.getElem_toArray, List.getElem_cons_succ, List.getElem_cons_zero, List.set_cons_zero, List.set_cons_succ]
    replace c0 := (hbw71.cell (cell_lt c0)).trans c0
    replace c1 := (hbw71.cell (cell_lt c1)).trans c1
    replace c2 := (hbw71.cell (cell_lt c2)).trans c2
    replace d0 := (hbw71.cell (cell_lt d0)).trans d0
    replace d1 := (hbw71.cell (cell_lt d1)).trans d1
    replace d2 := (hbw71.cell (cell_lt d2)).trans d2
    replace e0 := (hbw71.cell (cell_lt e0)).trans e0
    replace e1 := (hbw71.cell (cell_lt e1)).trans e1
    replace e2 := (hbw71.cell (cell_lt e2)).trans e2
    have HBw71 := Lib.hid (HBw62.out.trans (hbw71.mono HBw62.out.size))
    have HXw71 : Hid (Below W5.heap.size W5 w71) := Lib.hid (HXw62.out.trans (hbw71.mono HXw62.out.size))
    clear hS HKS hbd hdw70 hnw70 hbw70 hnw71 hbw71
    go_wp2_with fail
    have HKS : Hid (∀ w' : World, Below w71.heap.size w71 w' → (fun w' => w'.cell? ⟨w.heap.size, 0, none⟩ = some (.int .i64 2) ∧ w'.cell? ⟨w.heap.size, 1, none⟩ = some (.int .i64 0) ∧ w'.cell? ⟨w.heap.size, 2, none⟩ = some (.slice none 0 0) ∧ w'.cell? ⟨P2, 0, none⟩ = some (.int .i64 5) ∧ w'.cell? ⟨P2, 1, none⟩ = some (.int .i64 2) ∧ w'.cell? ⟨P2, 2, none⟩ = some (.slice (some ⟨P1, 0, none⟩) 1 1) ∧ w'.cell? ⟨P4, 0, none⟩ = some (.int .i64 3) ∧ w'.cell? ⟨P4, 1, none⟩ = some (.int .i64 0) ∧ w'.cell? ⟨P4, 2, none⟩ = some (.slice (some ⟨P3, 0, none⟩) 1 1)) w') := Lib.hid fun w' h => ⟨(h.cell (cell_lt c0)).trans c0, (h.cell (cell_lt c1)).trans c1, (h.cell (cell_lt c2)).trans c2, (h.cell (cell_lt d0)).trans d0, (h.cell (cell_lt d1)).trans d1, (h.cell (cell_lt d2)).trans d2, (h.cell (cell_lt e0)).trans e0, (h.cell (cell_lt e1)).trans e1, (h.cell (cell_lt e2)).trans e2⟩
    have hbd : Below w71.heap.size w71 w71.drew := (Below.refl _ w71).drew
    refine wp_region_held_drew (S := fun w' => w'.cell? ⟨w.heap.size, 0, none⟩ = some (.int .i64 2) ∧ w'.cell? ⟨w.heap.size, 1, none⟩ = some (.int .i64 0) ∧ w'.cell? ⟨w.heap.size, 2, none⟩ = some (.slice none 0 0) ∧ w'.cell? ⟨P2, 0, none⟩ = some (.int .i64 5) ∧ w'.cell? ⟨P2, 1, none⟩ = some (.int .i64 2) ∧ w'.cell? ⟨P2, 2, none⟩ = some (.slice (some ⟨P1, 0, none⟩) 1 1) ∧ w'.cell? ⟨P4, 0, none⟩ = some (.int .i64 3) ∧ w'.cell? ⟨P4, 1, none⟩ = some (.int .i64 0) ∧ w'.cell? ⟨P4, 2, none⟩ = some (.slice (some ⟨P3, 0, none⟩) 1 1)) (by kernel_rfl) (HKS.out _ hbd) (fun hS => ?_)
    simp only [List.size_toArray, List.length_cons, List.length_nil, Nat.reduceAdd]
    refine wpAnyH_take (i := 0) (v := .int .i64 0) rfl (by kernel_rfl) (by kernel_rfl) (by kernel_rfl) (fun _ _ _ h => h) (Or.inl ⟨by kernel_rfl, ?_⟩) hS ?_
    · intro w' hSw
      obtain ⟨s0, s1, s2, s3, s4, s5, s6, s7, s8⟩ := hSw
      go_simp
    try simp only [Act.put, List.setIfInBounds_toArray]
    refine wpAnyH_take (i := 1) (v := .bool true) rfl (by kernel_rfl) (by kernel_rfl) (by kernel_rfl) (fun _ _ _ h => h) (Or.inl ⟨by kernel_rfl, ?_⟩) hS ?_
    · intro w' hSw
      obtain ⟨s0, s1, s2, s3, s4, s5, s6, s7, s8⟩ := hSw
      go_simp
    try simp only [Act.put]
    refine wpAnyH_take (i := 2) (v := .bool true) rfl (by kernel_rfl) (by kernel_rfl) (by kernel_rfl) (fun _ _ _ h => h) (Or.inl ⟨by kernel_rfl, ?_⟩) hS ?_
    · intro w' hSw
      obtain ⟨s0, s1, s2, s3, s4, s5, s6, s7, s8⟩ := hSw
      go_simp
    try simp only [Act.put]
    refine wpAnyH_take (i := 3) (v := .int .i64 3) rfl (by kernel_rfl) (by kernel_rfl) (by kernel_rfl) (fun _ _ _ h => h) (Or.inl ⟨by kernel_rfl, ?_⟩) hS ?_
    · intro w' hSw
      obtain ⟨s0, s1, s2, s3, s4, s5, s6, s7, s8⟩ := hSw
      go_simp
    try simp only [Act.put]
    refine wpAnyH_take (i := 4) (v := .bool true) rfl (by kernel_rfl) (by kernel_rfl) (by kernel_rfl) (fun _ _ _ h => h) (Or.inl ⟨by kernel_rfl, ?_⟩) hS ?_
    · intro w' hSw
      obtain ⟨s0, s1, s2, s3, s4, s5, s6, s7, s8⟩ := hSw
      go_simp
    try simp only [Act.put]
    refine wpAnyH_take (i := 5) (v := .bool true) rfl (by kernel_rfl) (by kernel_rfl) (by kernel_rfl) (fun _ _ _ h => h) (Or.inl ⟨by kernel_rfl, ?_⟩) hS ?_
    · intro w' hSw
      obtain ⟨s0, s1, s2, s3, s4, s5, s6, s7, s8⟩ := hSw
      go_simp
    try simp only [Act.put]
    refine wpAnyH_take (i := 6) (v := .bool true) rfl (by kernel_rfl) (by kernel_rfl) (by kernel_rfl) (fun _ _ _ h => h) (Or.inl ⟨by kernel_rfl, ?_⟩) hS ?_
    · intro w' hSw
      obtain ⟨s0, s1, s2, s3, s4, s5, s6, s7, s8⟩ := hSw
      go_simp
    try simp only [Act.put]
    refine wpAnyH_take (i := 7) (v := .int .i64 0) rfl (by kernel_rfl) (by kernel_rfl) (by kernel_rfl) (fun _ _ _ h => h) (Or.inl ⟨by kernel_rfl, ?_⟩) hS ?_
    · intro w' hSw
      obtain ⟨s0, s1, s2, s3, s4, s5, s6, s7, s8⟩ := hSw
      go_simp
    try simp only [Act.put]
    refine wpAnyH_take (i := 8) (v := .bool true) rfl (by kernel_rfl) (by kernel_rfl) (by kernel_rfl) (fun _ _ _ h => h) (Or.inl ⟨by kernel_rfl, ?_⟩) hS ?_
    · intro w' hSw
      obtain ⟨s0, s1, s2, s3, s4, s5, s6, s7, s8⟩ := hSw
      go_simp
    try simp only [Act.put]
    refine wpAnyH_take (i := 9) (v := .bool true) rfl (by kernel_rfl) (by kernel_rfl) (by kernel_rfl) (fun _ _ _ h => h) (Or.inl ⟨by kernel_rfl, ?_⟩) hS ?_
    · intro w' hSw
      obtain ⟨s0, s1, s2, s3, s4, s5, s6, s7, s8⟩ := hSw
      go_simp
    try simp only [Act.put]
    refine wpAnyH_take (i := 10) (v := .bool true) rfl (by kernel_rfl) (by kernel_rfl) (by kernel_rfl) (fun _ _ _ h => h) (Or.inl ⟨by kernel_rfl, ?_⟩) hS ?_
    · intro w' hSw
      obtain ⟨s0, s1, s2, s3, s4, s5, s6, s7, s8⟩ := hSw
      go_simp
    try simp only [Act.put]
    refine wpAnyH_take (i := 11) (v := .int .i64 2) rfl (by kernel_rfl) (by kernel_rfl) (by kernel_rfl) (fun _ _ _ h => h) (Or.inl ⟨by kernel_rfl, ?_⟩) hS ?_
    · intro w' hSw
      obtain ⟨s0, s1, s2, s3, s4, s5, s6, s7, s8⟩ := hSw
      go_simp
    try simp only [Act.put]
    refine wpAnyH_take (i := 12) (v := .bool true) rfl (by kernel_rfl) (by kernel_rfl) (by kernel_rfl) (fun _ _ _ h => h) (Or.inl ⟨by kernel_rfl, ?_⟩) hS ?_
    · intro w' hSw
      obtain ⟨s0, s1, s2, s3, s4, s5, s6, s7, s8⟩ := hSw
      go_simp
    try simp only [Act.put]
    refine wpAnyH_take (i := 13) (v := .bool true) rfl (by kernel_rfl) (by kernel_rfl) (by kernel_rfl) (fun _ _ _ h => h) (Or.inl ⟨by kernel_rfl, ?_⟩) hS ?_
    · intro w' hSw
      obtain ⟨s0, s1, s2, s3, s4, s5, s6, s7, s8⟩ := hSw
      go_simp
    try simp only [Act.put]
    refine wpAnyH_take (i := 14) (v := .bool true) rfl (by kernel_rfl) (by kernel_rfl) (by kernel_rfl) (fun _ _ _ h => h) (Or.inl ⟨by kernel_rfl, ?_⟩) hS ?_
    · intro w' hSw
      obtain ⟨s0, s1, s2, s3, s4, s5, s6, s7, s8⟩ := hSw
      go_simp
    try simp only [Act.put]
    refine wpAnyH_take (i := 16) (v := .agg #[.int .i64 2, .int .i64 0, .slice none 0 0]) rfl (by kernel_rfl) (by kernel_rfl) (by kernel_rfl) (fun _ _ _ h => h) (Or.inl ⟨by kernel_rfl, ?_⟩) hS ?_
    · intro w' hSw
      obtain ⟨s0, s1, s2, s3, s4, s5, s6, s7, s8⟩ := hSw
      go_simp
    try simp only [Act.put]
    refine wpAnyH_ready (rs := [15]) (by kernel_rfl) (by simp) ?_
    refine AllReadyH.cons rfl (fun KN hK => ?_) AllReadyH.nil
    go_simp
    refine (vNatC _).mono ?_
    rintro e w80 ⟨q9, rfl, hdw80, hnw80⟩
    have hbw80 := hbd.trans (hnw80.mono hbd.size)
    refine hK.out _ _ (HKS.out _ hbw80) (fun hS => ?_)
    clear hK KN
    try simp only [Act.put, List.setIfInBounds_toArray, List.set_cons_zero, List.set_cons_succ]
    refine wpAnyH_ready (rs := [17]) (by kernel_rfl) (by simp) ?_
    refine AllReadyH.cons rfl (fun KN hK => ?_) AllReadyH.nil
    go_simp
    refine (HTE.out _ q9 hdw80).mono ?_
    rintro e w81 ⟨rfl, hnw81⟩
    have hbw81 := hbw80.trans (hnw81.mono hbw80.size)
    refine hK.out _ _ (HKS.out _ hbw81) (fun hS => ?_)
    clear hK KN
    try simp only [Act.put, List.setIfInBounds_toArray, List.set_cons_zero, List.set_cons_succ]
    refine wpAnyH_take (i := 18) (v := .bool true) rfl (by kernel_rfl) (by kernel_rfl) (by kernel_rfl) (fun _ _ _ h => h) (Or.inl ⟨by kernel_rfl, ?_⟩) hS ?_
    · intro w' hSw
      obtain ⟨s0, s1, s2, s3, s4, s5, s6, s7, s8⟩ := hSw
      go_simp
    try simp only [Act.put, List.setIfInBounds_toArray]
    refine wpAnyH_take (i := 19) (v := .bool true) rfl (by kernel_rfl) (by kernel_rfl) (by kernel_rfl) (fun _ _ _ h => h) (Or.inl ⟨by kernel_rfl, ?_⟩) hS ?_
    · intro w' hSw
      obtain ⟨s0, s1, s2, s3, s4, s5, s6, s7, s8⟩ := hSw
      go_simp
    try simp only [Act.put]
    refine wpAnyH_take (i := 20) (v := .bool true) rfl (by kernel_rfl) (by kernel_rfl) (by kernel_rfl) (fun _ _ _ h => h) (Or.inl ⟨by kernel_rfl, ?_⟩) hS ?_
    · intro w' hSw
      obtain ⟨s0, s1, s2, s3, s4, s5, s6, s7, s8⟩ := hSw
      go_simp
    try simp only [Act.put]
    refine wpAnyH_done (by kernel_rfl) ?_ _
    try simp only [List.setIfInBounds_toArray]
    try simp only [List.getElem_toArray, List.getElem_cons_succ, List.getElem_cons_zero, List.setIfInBounds_toArray, List.set_cons_zero, List.set_cons_succ]
    have HBF := Lib.hid (HBw71.out.trans (hbw81.mono HBw71.out.size))
    clear hS HKS hbd hdw80 hnw80 hbw80 hnw81 hbw81
    go_wp2_with fail
    refine bodyPost_ret (v := .bool true) (by simp [results, Try.results9, go_sem]) rfl ?_
    exact ⟨rfl, HBF.out⟩
  · go_simp
    have hb41 : Below W5.heap.size W5 (W5.alloc (.cells #[.int .i64 5, .int .i64 1, .slice none 0 0] 26)).drew := ((Below.refl _ W5).alloc (Nat.le_refl _) _).drew
    refine hK.out _ _ (HKS.out _ hb41) (fun hS => ?_)
    clear hK KN
    try simp only [Act.put, List.setIfInBounds_toArray, List.set_cons_zero, List.set_cons_succ]
    have x41 : Box (W5.alloc (.cells #[.int .i64 5, .int .i64 1, .slice none 0 0] 26)).drew W5.heap.size 26 #[.int .i64 5, .int .i64 1, .slice none 0 0] := Box.drewI (Box.new _ _ _)
    obtain ⟨P9, hP9⟩ : ∃ p, W5.heap.size = p := ⟨_, rfl⟩
    rw [hP9] at x41
    try rw [hP9]
    clear hP9
    generalize (W5.alloc (.cells #[.int .i64 5, .int .i64 1, .slice none 0 0] 26)).drew = w41 at *
    refine wpAnyH_take (i := 3) (v := .agg #[.int .i64 5, .int .i64 2, .slice (some ⟨P9, 0, none⟩) 1 1]) rfl (by kernel_rfl) (by kernel_rfl) (by kernel_rfl) (fun _ _ _ h => h) (Or.inl ⟨by kernel_rfl, ?_⟩) hS ?_
    · intro w' hSw
      obtain ⟨s0, s1, s2, s3, s4, s5, s6, s7, s8⟩ := hSw
      go_simp
    try simp only [Act.put, List.setIfInBounds_toArray]
    refine wpAnyH_ready (rs := [0]) (by kernel_rfl) (by simp) ?_
    refine AllReadyH.cons rfl (fun KN hK => ?_) AllReadyH.nil
    go_simp
    refine (vNatC _).mono ?_
    rintro e w40 ⟨q4, rfl, hdw40, hnw40⟩
    have hbw40 := hb41.trans (hnw40.mono hb41.size)
    refine hK.out _ _ (HKS.out _ hbw40) (fun hS => ?_)
    clear hK KN
    try simp only [Act.put, List.setIfInBounds_toArray, List.set_cons_zero, List.set_cons_succ]
    replace x41 := x41.keep hnw40 x41.lt
    refine wpAnyH_ready (rs := [5]) (by kernel_rfl) (by simp) ?_
    refine AllReadyH.cons rfl (fun KN hK => ?_) AllReadyH.nil
    go_simp
    refine (HTA.out _ q4 P9 hdw40 x41).mono ?_
    rintro e w42 ⟨rfl, hnw42⟩
    have hbw42 := hbw40.trans (hnw42.mono hbw40.size)
    refine hK.out _ _ (HKS.out _ hbw42) (fun hS => ?_)
    clear hK KN
    try simp only [Act.put, List.setIfInBounds_toArray, List.set_cons_zero, List.set_cons_succ]
    refine wpAnyH_take (i := 6) (v := .int .i64 0) rfl (by kernel_rfl) (by kernel_rfl) (by kernel_rfl) (fun _ _ _ h => h) (Or.inl ⟨by kernel_rfl, ?_⟩) hS ?_
    · intro w' hSw
      obtain ⟨s0, s1, s2, s3, s4, s5, s6, s7, s8⟩ := hSw
      go_simp
    try simp only [Act.put, List.setIfInBounds_toArray]
    refine wpAnyH_done (by kernel_rfl) ?_ _
    try simp only [List.setIfInBounds_toArray]
    try simp only [List.getElem_toArray, List.getElem_cons_succ, List.getElem_cons_zero, List.set_cons_zero, List.set_cons_succ]
    replace c0 := (hbw42.cell (cell_lt c0)).trans c0
    replace c1 := (hbw42.cell (cell_lt c1)).trans c1
    replace c2 := (hbw42.cell (cell_lt c2)).trans c2
    replace d0 := (hbw42.cell (cell_lt d0)).trans d0
    replace d1 := (hbw42.cell (cell_lt d1)).trans d1
    replace d2 := (hbw42.cell (cell_lt d2)).trans d2
    replace e0 := (hbw42.cell (cell_lt e0)).trans e0
    replace e1 := (hbw42.cell (cell_lt e1)).trans e1
    replace e2 := (hbw42.cell (cell_lt e2)).trans e2
    have HBw42 := Lib.hid (HB.out.trans (hbw42.mono HB.out.size))
    have HXw42 : Hid (Below W5.heap.size W5 w42) := Lib.hid (hbw42)
    clear hS HKS hbd hb41 hdw40 hnw40 hbw40 x41 hnw42 hbw42
    go_wp2_with fail
    have HKS : Hid (∀ w' : World, Below w42.heap.size w42 w' → (fun w' => w'.cell? ⟨w.heap.size, 0, none⟩ = some (.int .i64 2) ∧ w'.cell? ⟨w.heap.size, 1, none⟩ = some (.int .i64 0) ∧ w'.cell? ⟨w.heap.size, 2, none⟩ = some (.slice none 0 0) ∧ w'.cell? ⟨P2, 0, none⟩ = some (.int .i64 5) ∧ w'.cell? ⟨P2, 1, none⟩ = some (.int .i64 2) ∧ w'.cell? ⟨P2, 2, none⟩ = some (.slice (some ⟨P1, 0, none⟩) 1 1) ∧ w'.cell? ⟨P4, 0, none⟩ = some (.int .i64 3) ∧ w'.cell? ⟨P4, 1, none⟩ = some (.int .i64 0) ∧ w'.cell? ⟨P4, 2, none⟩ = some (.slice (some ⟨P3, 0, none⟩) 1 1)) w') := Lib.hid fun w' h => ⟨(h.cell (cell_lt c0)).trans c0, (h.cell (cell_lt c1)).trans c1, (h.cell (cell_lt c2)).trans c2, (h.cell (cell_lt d0)).trans d0, (h.cell (cell_lt d1)).trans d1, (h.cell (cell_lt d2)).trans d2, (h.cell (cell_lt e0)).trans e0, (h.cell (cell_lt e1)).trans e1, (h.cell (cell_lt e2)).trans e2⟩
    have hbd : Below w42.heap.size w42 w42.drew := (Below.refl _ w42).drew
    refine wp_region_held_drew (S := fun w' => w'.cell? ⟨w.heap.size, 0, none⟩ = some (.int .i64 2) ∧ w'.cell? ⟨w.heap.size, 1, none⟩ = some (.int .i64 0) ∧ w'.cell? ⟨w.heap.size, 2, none⟩ = some (.slice none 0 0) ∧ w'.cell? ⟨P2, 0, none⟩ = some (.int .i64 5) ∧ w'.cell? ⟨P2, 1, none⟩ = some (.int .i64 2) ∧ w'.cell? ⟨P2, 2, none⟩ = some (.slice (some ⟨P1, 0, none⟩) 1 1) ∧ w'.cell? ⟨P4, 0, none⟩ = some (.int .i64 3) ∧ w'.cell? ⟨P4, 1, none⟩ = some (.int .i64 0) ∧ w'.cell? ⟨P4, 2, none⟩ = some (.slice (some ⟨P3, 0, none⟩) 1 1)) (by kernel_rfl) (HKS.out _ hbd) (fun hS => ?_)
    simp only [List.size_toArray, List.length_cons, List.length_nil, Nat.reduceAdd]
    refine wpAnyH_take (i := 1) (v := .agg #[.int .i64 5, .int .i64 2, .slice none 0 0]) rfl (by kernel_rfl) (by kernel_rfl) (by kernel_rfl) (fun _ _ _ h => h) (Or.inl ⟨by kernel_rfl, ?_⟩) hS ?_
    · intro w' hSw
      obtain ⟨s0, s1, s2, s3, s4, s5, s6, s7, s8⟩ := hSw
      go_simp
    try simp only [Act.put, List.setIfInBounds_toArray]
    refine wpAnyH_take (i := 2) (v := .agg #[.int .i64 2, .int .i64 0, .slice none 0 0]) rfl (by kernel_rfl) (by kernel_rfl) (by kernel_rfl) (fun _ _ _ h => h) (Or.inl ⟨by kernel_rfl, ?_⟩) hS ?_
    · intro w' hSw
      obtain ⟨s0, s1, s2, s3, s4, s5, s6, s7, s8⟩ := hSw
      go_simp
    try simp only [Act.put]
    refine wpAnyH_ready (rs := [0]) (by kernel_rfl) (by simp) ?_
    refine AllReadyH.cons rfl (fun KN hK => ?_) AllReadyH.nil
    go_simp
    refine (vNatC _).mono ?_
    rintro e w50 ⟨q5, rfl, hdw50, hnw50⟩
    have hbw50 := hbd.trans (hnw50.mono hbd.size)
    refine hK.out _ _ (HKS.out _ hbw50) (fun hS => ?_)
    clear hK KN
    try simp only [Act.put, List.setIfInBounds_toArray, List.set_cons_zero, List.set_cons_succ]
    refine wpAnyH_ready (rs := [3]) (by kernel_rfl) (by simp) ?_
    refine AllReadyH.cons rfl (fun KN hK => ?_) AllReadyH.nil
    go_simp
    refine (HTB.out _ q5 hdw50).mono ?_
    rintro e w51 ⟨rfl, hnw51⟩
    have hbw51 := hbw50.trans (hnw51.mono hbw50.size)
    refine hK.out _ _ (HKS.out _ hbw51) (fun hS => ?_)
    clear hK KN
    try simp only [Act.put, List.setIfInBounds_toArray, List.set_cons_zero, List.set_cons_succ]
    refine wpAnyH_take (i := 4) (v := .int .i64 3) rfl (by kernel_rfl) (by kernel_rfl) (by kernel_rfl) (fun _ _ _ h => h) (Or.inl ⟨by kernel_rfl, ?_⟩) hS ?_
    · intro w' hSw
      obtain ⟨s0, s1, s2, s3, s4, s5, s6, s7, s8⟩ := hSw
      go_simp
    try simp only [Act.put, List.setIfInBounds_toArray]
    refine wpAnyH_done (by kernel_rfl) ?_ _
    try simp only [List.setIfInBounds_toArray]
    try simp only [List.getElem_toArray, List.getElem_cons_succ, List.getElem_cons_zero, List.set_cons_zero, List.set_cons_succ]
    replace c0 := (hbw51.cell (cell_lt c0)).trans c0
    replace c1 := (hbw51.cell (cell_lt c1)).trans c1
    replace c2 := (hbw51.cell (cell_lt c2)).trans c2
    replace d0 := (hbw51.cell (cell_lt d0)).trans d0
    replace d1 := (hbw51.cell (cell_lt d1)).trans d1
    replace d2 := (hbw51.cell (cell_lt d2)).trans d2
    replace e0 := (hbw51.cell (cell_lt e0)).trans e0
    replace e1 := (hbw51.cell (cell_lt e1)).trans e1
    replace e2 := (hbw51.cell (cell_lt e2)).trans e2
    have HBw51 := Lib.hid (HBw42.out.trans (hbw51.mono HBw42.out.size))
    have HXw51 : Hid (Below W5.heap.size W5 w51) := Lib.hid (HXw42.out.trans (hbw51.mono HXw42.out.size))
    clear hS HKS hbd hdw50 hnw50 hbw50 hnw51 hbw51
    go_wp2_with fail
    have HKS : Hid (∀ w' : World, Below w51.heap.size w51 w' → (fun w' => w'.cell? ⟨w.heap.size, 0, none⟩ = some (.int .i64 2) ∧ w'.cell? ⟨w.heap.size, 1, none⟩ = some (.int .i64 0) ∧ w'.cell? ⟨w.heap.size, 2, none⟩ = some (.slice none 0 0) ∧ w'.cell? ⟨P2, 0, none⟩ = some (.int .i64 5) ∧ w'.cell? ⟨P2, 1, none⟩ = some (.int .i64 2) ∧ w'.cell? ⟨P2, 2, none⟩ = some (.slice (some ⟨P1, 0, none⟩) 1 1) ∧ w'.cell? ⟨P4, 0, none⟩ = some (.int .i64 3) ∧ w'.cell? ⟨P4, 1, none⟩ = some (.int .i64 0) ∧ w'.cell? ⟨P4, 2, none⟩ = some (.slice (some ⟨P3, 0, none⟩) 1 1)) w') := Lib.hid fun w' h => ⟨(h.cell (cell_lt c0)).trans c0, (h.cell (cell_lt c1)).trans c1, (h.cell (cell_lt c2)).trans c2, (h.cell (cell_lt d0)).trans d0, (h.cell (cell_lt d1)).trans d1, (h.cell (cell_lt d2)).trans d2, (h.cell (cell_lt e0)).trans e0, (h.cell (cell_lt e1)).trans e1, (h.cell (cell_lt e2)).trans e2⟩
    have hbd : Below w51.heap.size w51 w51.drew := (Below.refl _ w51).drew
    refine wp_region_held_drew (S := fun w' => w'.cell? ⟨w.heap.size, 0, none⟩ = some (.int .i64 2) ∧ w'.cell? ⟨w.heap.size, 1, none⟩ = some (.int .i64 0) ∧ w'.cell? ⟨w.heap.size, 2, none⟩ = some (.slice none 0 0) ∧ w'.cell? ⟨P2, 0, none⟩ = some (.int .i64 5) ∧ w'.cell? ⟨P2, 1, none⟩ = some (.int .i64 2) ∧ w'.cell? ⟨P2, 2, none⟩ = some (.slice (some ⟨P1, 0, none⟩) 1 1) ∧ w'.cell? ⟨P4, 0, none⟩ = some (.int .i64 3) ∧ w'.cell? ⟨P4, 1, none⟩ = some (.int .i64 0) ∧ w'.cell? ⟨P4, 2, none⟩ = some (.slice (some ⟨P3, 0, none⟩) 1 1)) (by kernel_rfl) (HKS.out _ hbd) (fun hS => ?_)
    simp only [List.size_toArray, List.length_cons, List.length_nil, Nat.reduceAdd]
    refine wpAnyH_take (i := 1) (v := .agg #[.int .i64 3, .int .i64 0, .slice (some ⟨P3, 0, none⟩) 1 1]) rfl (by kernel_rfl) (by kernel_rfl) (by kernel_rfl) (fun _ _ _ h => h) (Or.inl ⟨by kernel_rfl, ?_⟩) hS ?_
    · intro w' hSw
      obtain ⟨s0, s1, s2, s3, s4, s5, s6, s7, s8⟩ := hSw
      go_simp
    try simp only [Act.put, List.setIfInBounds_toArray]
    refine wpAnyH_ready (rs := [0]) (by kernel_rfl) (by simp) ?_
    refine AllReadyH.cons rfl (fun KN hK => ?_) AllReadyH.nil
    go_simp
    refine (vNatC _).mono ?_
    rintro e w60 ⟨q6, rfl, hdw60, hnw60⟩
    have hbw60 := hbd.trans (hnw60.mono hbd.size)
    refine hK.out _ _ (HKS.out _ hbw60) (fun hS => ?_)
    clear hK KN
    try simp only [Act.put, List.setIfInBounds_toArray, List.set_cons_zero, List.set_cons_succ]
    refine wpAnyH_ready (rs := [2]) (by kernel_rfl) (by simp) ?_
    refine AllReadyH.cons rfl (fun KN hK => ?_) AllReadyH.nil
    go_simp
    refine (vNatC _).mono ?_
    rintro e w61 ⟨q7, rfl, hdw61, hnw61⟩
    have hbw61 := hbw60.trans (hnw61.mono hbw60.size)
    refine hK.out _ _ (HKS.out _ hbw61) (fun hS => ?_)
    clear hK KN
    try simp only [Act.put, List.setIfInBounds_toArray, List.set_cons_zero, List.set_cons_succ]
    obtain ⟨bN, oN, sN, kN, hN, AN, nN, cN, eN, g9, g0, g1, g2, hrN⟩ := hdw61.at_ 2 _ rfl
    cases eN
    simp only [Nat.zero_add, Nat.reduceMul, Nat.reduceAdd] at g0 g1 g2
    have HRN := Lib.hid hrN
    clear hrN g9
    refine wpAnyH_take (i := 3) (v := .pointer (some ⟨q7, 8, none⟩)) rfl (by kernel_rfl) (by kernel_rfl) (by kernel_rfl) (fun _ _ _ h => h) (Or.inl ⟨by kernel_rfl, ?_⟩) hS ?_
    · intro w' hSw
      obtain ⟨s0, s1, s2, s3, s4, s5, s6, s7, s8⟩ := hSw
      go_simp
    try simp only [Act.put, List.setIfInBounds_toArray]
    refine wpAnyH_take (i := 4) (v := .pointer (some ⟨q7, 9, none⟩)) rfl (by kernel_rfl) (by kernel_rfl) (by kernel_rfl) (fun _ _ _ h => h) (Or.inl ⟨by kernel_rfl, ?_⟩) hS ?_
    · intro w' hSw
      obtain ⟨s0, s1, s2, s3, s4, s5, s6, s7, s8⟩ := hSw
      go_simp
    try simp only [Act.put]
    refine wpAnyH_ready (rs := [5]) (by kernel_rfl) (by simp) ?_
    refine AllReadyH.cons rfl (fun KN hK => ?_) AllReadyH.nil
    go_simp
    refine hK.out _ _ (HKS.out _ hbw61) (fun hS => ?_)
    clear hK KN
    try simp only [Act.put, List.setIfInBounds_toArray, List.set_cons_zero, List.set_cons_succ]
    refine wpAnyH_ready (rs := [6]) (by kernel_rfl) (by simp) ?_
    refine AllReadyH.cons rfl (fun KN hK => ?_) AllReadyH.nil
    go_simp
    refine (HTC.out _ q6 _ _ _ _ _ (HXw51.out.trans (hbw61.mono HXw51.out.size)) (hdw60.keep hnw61) HRN.out).mono ?_
    rintro e w62 ⟨rfl, hnw62⟩
    have hbw62 := hbw61.trans (hnw62.mono hbw61.size)
    refine hK.out _ _ (HKS.out _ hbw62) (fun hS => ?_)
    clear hK KN
    try simp only [Act.put, List.setIfInBounds_toArray, List.set_cons_zero, List.set_cons_succ]
    refine wpAnyH_take (i := 7) (v := .int .i64 0) rfl (by kernel_rfl) (by kernel_rfl) (by kernel_rfl) (fun _ _ _ h => h) (Or.inl ⟨by kernel_rfl, ?_⟩) hS ?_
    · intro w' hSw
      obtain ⟨s0, s1, s2, s3, s4, s5, s6, s7, s8⟩ := hSw
      go_simp
    try simp only [Act.put, List.setIfInBounds_toArray]
    refine wpAnyH_done (by kernel_rfl) ?_ _
    try simp only [List.setIfInBounds_toArray]
    try simp only [List.getElem_toArray, List.getElem_cons_succ, List.getElem_cons_zero, List.set_cons_zero, List.set_cons_succ]
    replace c0 := (hbw62.cell (cell_lt c0)).trans c0
    replace c1 := (hbw62.cell (cell_lt c1)).trans c1
    replace c2 := (hbw62.cell (cell_lt c2)).trans c2
    replace d0 := (hbw62.cell (cell_lt d0)).trans d0
    replace d1 := (hbw62.cell (cell_lt d1)).trans d1
    replace d2 := (hbw62.cell (cell_lt d2)).trans d2
    replace e0 := (hbw62.cell (cell_lt e0)).trans e0
    replace e1 := (hbw62.cell (cell_lt e1)).trans e1
    replace e2 := (hbw62.cell (cell_lt e2)).trans e2
    have HBw62 := Lib.hid (HBw51.out.trans (hbw62.mono HBw51.out.size))
    have HXw62 : Hid (Below W5.heap.size W5 w62) := Lib.hid (HXw51.out.trans (hbw62.mono HXw51.out.size))
    clear hS HKS hbd hdw60 hnw60 hbw60 hdw61 hnw61 hbw61 hnw62 hbw62 g0 g1 g2
    go_wp2_with fail
    have HKS : Hid (∀ w' : World, Below w62.heap.size w62 w' → (fun w' => w'.cell? ⟨w.heap.size, 0, none⟩ = some (.int .i64 2) ∧ w'.cell? ⟨w.heap.size, 1, none⟩ = some (.int .i64 0) ∧ w'.cell? ⟨w.heap.size, 2, none⟩ = some (.slice none 0 0) ∧ w'.cell? ⟨P2, 0, none⟩ = some (.int .i64 5) ∧ w'.cell? ⟨P2, 1, none⟩ = some (.int .i64 2) ∧ w'.cell? ⟨P2, 2, none⟩ = some (.slice (some ⟨P1, 0, none⟩) 1 1) ∧ w'.cell? ⟨P4, 0, none⟩ = some (.int .i64 3) ∧ w'.cell? ⟨P4, 1, none⟩ = some (.int .i64 0) ∧ w'.cell? ⟨P4, 2, none⟩ = some (.slice (some ⟨P3, 0, none⟩) 1 1)) w') := Lib.hid fun w' h => ⟨(h.cell (cell_lt c0)).trans c0, (h.cell (cell_lt c1)).trans c1, (h.cell (cell_lt c2)).trans c2, (h.cell (cell_lt d0)).trans d0, (h.cell (cell_lt d1)).trans d1, (h.cell (cell_lt d2)).trans d2, (h.cell (cell_lt e0)).trans e0, (h.cell (cell_lt e1)).trans e1, (h.cell (cell_lt e2)).trans e2⟩
    have hbd : Below w62.heap.size w62 w62.drew := (Below.refl _ w62).drew
    refine wp_region_held_drew (S := fun w' => w'.cell? ⟨w.heap.size, 0, none⟩ = some (.int .i64 2) ∧ w'.cell? ⟨w.heap.size, 1, none⟩ = some (.int .i64 0) ∧ w'.cell? ⟨w.heap.size, 2, none⟩ = some (.slice none 0 0) ∧ w'.cell? ⟨P2, 0, none⟩ = some (.int .i64 5) ∧ w'.cell? ⟨P2, 1, none⟩ = some (.int .i64 2) ∧ w'.cell? ⟨P2, 2, none⟩ = some (.slice (some ⟨P1, 0, none⟩) 1 1) ∧ w'.cell? ⟨P4, 0, none⟩ = some (.int .i64 3) ∧ w'.cell? ⟨P4, 1, none⟩ = some (.int .i64 0) ∧ w'.cell? ⟨P4, 2, none⟩ = some (.slice (some ⟨P3, 0, none⟩) 1 1)) (by kernel_rfl) (HKS.out _ hbd) (fun hS => ?_)
    simp only [List.size_toArray, List.length_cons, List.length_nil, Nat.reduceAdd]
    refine wpAnyH_take (i := 1) (v := .agg #[.int .i64 5, .int .i64 2, .slice (some ⟨P1, 0, none⟩) 1 1]) rfl (by kernel_rfl) (by kernel_rfl) (by kernel_rfl) (fun _ _ _ h => h) (Or.inl ⟨by kernel_rfl, ?_⟩) hS ?_
    · intro w' hSw
      obtain ⟨s0, s1, s2, s3, s4, s5, s6, s7, s8⟩ := hSw
      go_simp
    try simp only [Act.put, List.setIfInBounds_toArray]
    refine wpAnyH_take (i := 2) (v := .agg #[.int .i64 2, .int .i64 0, .slice none 0 0]) rfl (by kernel_rfl) (by kernel_rfl) (by kernel_rfl) (fun _ _ _ h => h) (Or.inl ⟨by kernel_rfl, ?_⟩) hS ?_
    · intro w' hSw
      obtain ⟨s0, s1, s2, s3, s4, s5, s6, s7, s8⟩ := hSw
      go_simp
    try simp only [Act.put]
    refine wpAnyH_ready (rs := [0]) (by kernel_rfl) (by simp) ?_
    refine AllReadyH.cons rfl (fun KN hK => ?_) AllReadyH.nil
    go_simp
    refine (vNatC _).mono ?_
    rintro e w70 ⟨q8, rfl, hdw70, hnw70⟩
    have hbw70 := hbd.trans (hnw70.mono hbd.size)
    refine hK.out _ _ (HKS.out _ hbw70) (fun hS => ?_)
    clear hK KN
    try simp only [Act.put, List.setIfInBounds_toArray, List.set_cons_zero, List.set_cons_succ]
    refine wpAnyH_ready (rs := [3]) (by kernel_rfl) (by simp) ?_
    refine AllReadyH.cons rfl (fun KN hK => ?_) AllReadyH.nil
    go_simp
    refine (HTD.out _ q8 (HXw62.out.trans (hbw70.mono HXw62.out.size)) hdw70).mono ?_
    rintro e w71 ⟨rfl, hnw71⟩
    have hbw71 := hbw70.trans (hnw71.mono hbw70.size)
    refine hK.out _ _ (HKS.out _ hbw71) (fun hS => ?_)
    clear hK KN
    try simp only [Act.put, List.setIfInBounds_toArray, List.set_cons_zero, List.set_cons_succ]
    refine wpAnyH_take (i := 4) (v := .int .i64 2) rfl (by kernel_rfl) (by kernel_rfl) (by kernel_rfl) (fun _ _ _ h => h) (Or.inl ⟨by kernel_rfl, ?_⟩) hS ?_
    · intro w' hSw
      obtain ⟨s0, s1, s2, s3, s4, s5, s6, s7, s8⟩ := hSw
      go_simp
    try simp only [Act.put, List.setIfInBounds_toArray]
    refine wpAnyH_done (by kernel_rfl) ?_ _
    try simp only [List.setIfInBounds_toArray]
    try simp only [List.getElem_toArray, List.getElem_cons_succ, List.getElem_cons_zero, List.set_cons_zero, List.set_cons_succ]
    replace c0 := (hbw71.cell (cell_lt c0)).trans c0
    replace c1 := (hbw71.cell (cell_lt c1)).trans c1
    replace c2 := (hbw71.cell (cell_lt c2)).trans c2
    replace d0 := (hbw71.cell (cell_lt d0)).trans d0
    replace d1 := (hbw71.cell (cell_lt d1)).trans d1
    replace d2 := (hbw71.cell (cell_lt d2)).trans d2
    replace e0 := (hbw71.cell (cell_lt e0)).trans e0
    replace e1 := (hbw71.cell (cell_lt e1)).trans e1
    replace e2 := (hbw71.cell (cell_lt e2)).trans e2
    have HBw71 := Lib.hid (HBw62.out.trans (hbw71.mono HBw62.out.size))
    have HXw71 : Hid (Below W5.heap.size W5 w71) := Lib.hid (HXw62.out.trans (hbw71.mono HXw62.out.size))
    clear hS HKS hbd hdw70 hnw70 hbw70 hnw71 hbw71
    go_wp2_with fail
    have HKS : Hid (∀ w' : World, Below w71.heap.size w71 w' → (fun w' => w'.cell? ⟨w.heap.size, 0, none⟩ = some (.int .i64 2) ∧ w'.cell? ⟨w.heap.size, 1, none⟩ = some (.int .i64 0) ∧ w'.cell? ⟨w.heap.size, 2, none⟩ = some (.slice none 0 0) ∧ w'.cell? ⟨P2, 0, none⟩ = some (.int .i64 5) ∧ w'.cell? ⟨P2, 1, none⟩ = some (.int .i64 2) ∧ w'.cell? ⟨P2, 2, none⟩ = some (.slice (some ⟨P1, 0, none⟩) 1 1) ∧ w'.cell? ⟨P4, 0, none⟩ = some (.int .i64 3) ∧ w'.cell? ⟨P4, 1, none⟩ = some (.int .i64 0) ∧ w'.cell? ⟨P4, 2, none⟩ = some (.slice (some ⟨P3, 0, none⟩) 1 1)) w') := Lib.hid fun w' h => ⟨(h.cell (cell_lt c0)).trans c0, (h.cell (cell_lt c1)).trans c1, (h.cell (cell_lt c2)).trans c2, (h.cell (cell_lt d0)).trans d0, (h.cell (cell_lt d1)).trans d1, (h.cell (cell_lt d2)).trans d2, (h.cell (cell_lt e0)).trans e0, (h.cell (cell_lt e1)).trans e1, (h.cell (cell_lt e2)).trans e2⟩
    have hbd : Below w71.heap.size w71 w71.drew := (Below.refl _ w71).drew
    refine wp_region_held_drew (S := fun w' => w'.cell? ⟨w.heap.size, 0, none⟩ = some (.int .i64 2) ∧ w'.cell? ⟨w.heap.size, 1, none⟩ = some (.int .i64 0) ∧ w'.cell? ⟨w.heap.size, 2, none⟩ = some (.slice none 0 0) ∧ w'.cell? ⟨P2, 0, none⟩ = some (.int .i64 5) ∧ w'.cell? ⟨P2, 1, none⟩ = some (.int .i64 2) ∧ w'.cell? ⟨P2, 2, none⟩ = some (.slice (some ⟨P1, 0, none⟩) 1 1) ∧ w'.cell? ⟨P4, 0, none⟩ = some (.int .i64 3) ∧ w'.cell? ⟨P4, 1, none⟩ = some (.int .i64 0) ∧ w'.cell? ⟨P4, 2, none⟩ = some (.slice (some ⟨P3, 0, none⟩) 1 1)) (by kernel_rfl) (HKS.out _ hbd) (fun hS => ?_)
    simp only [List.size_toArray, List.length_cons, List.length_nil, Nat.reduceAdd]
    refine wpAnyH_take (i := 0) (v := .int .i64 0) rfl (by kernel_rfl) (by kernel_rfl) (by kernel_rfl) (fun _ _ _ h => h) (Or.inl ⟨by kernel_rfl, ?_⟩) hS ?_
    · intro w' hSw
      obtain ⟨s0, s1, s2, s3, s4, s5, s6, s7, s8⟩ := hSw
      go_simp
    try simp only [Act.put, List.setIfInBounds_toArray]
    refine wpAnyH_take (i := 1) (v := .bool true) rfl (by kernel_rfl) (by kernel_rfl) (by kernel_rfl) (fun _ _ _ h => h) (Or.inl ⟨by kernel_rfl, ?_⟩) hS ?_
    · intro w' hSw
      obtain ⟨s0, s1, s2, s3, s4, s5, s6, s7, s8⟩ := hSw
      go_simp
    try simp only [Act.put]
    refine wpAnyH_take (i := 2) (v := .bool true) rfl (by kernel_rfl) (by kernel_rfl) (by kernel_rfl) (fun _ _ _ h => h) (Or.inl ⟨by kernel_rfl, ?_⟩) hS ?_
    · intro w' hSw
      obtain ⟨s0, s1, s2, s3, s4, s5, s6, s7, s8⟩ := hSw
      go_simp
    try simp only [Act.put]
    refine wpAnyH_take (i := 3) (v := .int .i64 3) rfl (by kernel_rfl) (by kernel_rfl) (by kernel_rfl) (fun _ _ _ h => h) (Or.inl ⟨by kernel_rfl, ?_⟩) hS ?_
    · intro w' hSw
      obtain ⟨s0, s1, s2, s3, s4, s5, s6, s7, s8⟩ := hSw
      go_simp
    try simp only [Act.put]
    refine wpAnyH_take (i := 4) (v := .bool true) rfl (by kernel_rfl) (by kernel_rfl) (by kernel_rfl) (fun _ _ _ h => h) (Or.inl ⟨by kernel_rfl, ?_⟩) hS ?_
    · intro w' hSw
      obtain ⟨s0, s1, s2, s3, s4, s5, s6, s7, s8⟩ := hSw
      go_simp
    try simp only [Act.put]
    refine wpAnyH_take (i := 5) (v := .bool true) rfl (by kernel_rfl) (by kernel_rfl) (by kernel_rfl) (fun _ _ _ h => h) (Or.inl ⟨by kernel_rfl, ?_⟩) hS ?_
    · intro w' hSw
      obtain ⟨s0, s1, s2, s3, s4, s5, s6, s7, s8⟩ := hSw
      go_simp
    try simp only [Act.put]
    refine wpAnyH_take (i := 6) (v := .bool true) rfl (by kernel_rfl) (by kernel_rfl) (by kernel_rfl) (fun _ _ _ h => h) (Or.inl ⟨by kernel_rfl, ?_⟩) hS ?_
    · intro w' hSw
      obtain ⟨s0, s1, s2, s3, s4, s5, s6, s7, s8⟩ := hSw
      go_simp
    try simp only [Act.put]
    refine wpAnyH_take (i := 7) (v := .int .i64 0) rfl (by kernel_rfl) (by kernel_rfl) (by kernel_rfl) (fun _ _ _ h => h) (Or.inl ⟨by kernel_rfl, ?_⟩) hS ?_
    · intro w' hSw
      obtain ⟨s0, s1, s2, s3, s4, s5, s6, s7, s8⟩ := hSw
      go_simp
    try simp only [Act.put]
    refine wpAnyH_take (i := 8) (v := .bool true) rfl (by kernel_rfl) (by kernel_rfl) (by kernel_rfl) (fun _ _ _ h => h) (Or.inl ⟨by kernel_rfl, ?_⟩) hS ?_
    · intro w' hSw
      obtain ⟨s0, s1, s2, s3, s4, s5, s6, s7, s8⟩ := hSw
      go_simp
    try simp only [Act.put]
    refine wpAnyH_take (i := 9) (v := .bool true) rfl (by kernel_rfl) (by kernel_rfl) (by kernel_rfl) (fun _ _ _ h => h) (Or.inl ⟨by kernel_rfl, ?_⟩) hS ?_
    · intro w' hSw
      obtain ⟨s0, s1, s2, s3, s4, s5, s6, s7, s8⟩ := hSw
      go_simp
    try simp only [Act.put]
    refine wpAnyH_take (i := 10) (v := .bool true) rfl (by kernel_rfl) (by kernel_rfl) (by kernel_rfl) (fun _ _ _ h => h) (Or.inl ⟨by kernel_rfl, ?_⟩) hS ?_
    · intro w' hSw
      obtain ⟨s0, s1, s2, s3, s4, s5, s6, s7, s8⟩ := hSw
      go_simp
    try simp only [Act.put]
    refine wpAnyH_take (i := 11) (v := .int .i64 2) rfl (by kernel_rfl) (by kernel_rfl) (by kernel_rfl) (fun _ _ _ h => h) (Or.inl ⟨by kernel_rfl, ?_⟩) hS ?_
    · intro w' hSw
      obtain ⟨s0, s1, s2, s3, s4, s5, s6, s7, s8⟩ := hSw
      go_simp
    try simp only [Act.put]
    refine wpAnyH_take (i := 12) (v := .bool true) rfl (by kernel_rfl) (by kernel_rfl) (by kernel_rfl) (fun _ _ _ h => h) (Or.inl ⟨by kernel_rfl, ?_⟩) hS ?_
    · intro w' hSw
      obtain ⟨s0, s1, s2, s3, s4, s5, s6, s7, s8⟩ := hSw
      go_simp
    try simp only [Act.put]
    refine wpAnyH_take (i := 13) (v := .bool true) rfl (by kernel_rfl) (by kernel_rfl) (by kernel_rfl) (fun _ _ _ h => h) (Or.inl ⟨by kernel_rfl, ?_⟩) hS ?_
    · intro w' hSw
      obtain ⟨s0, s1, s2, s3, s4, s5, s6, s7, s8⟩ := hSw
      go_simp
    try simp only [Act.put]
    refine wpAnyH_take (i := 14) (v := .bool true) rfl (by kernel_rfl) (by kernel_rfl) (by kernel_rfl) (fun _ _ _ h => h) (Or.inl ⟨by kernel_rfl, ?_⟩) hS ?_
    · intro w' hSw
      obtain ⟨s0, s1, s2, s3, s4, s5, s6, s7, s8⟩ := hSw
      go_simp
    try simp only [Act.put]
    refine wpAnyH_take (i := 16) (v := .agg #[.int .i64 2, .int .i64 0, .slice none 0 0]) rfl (by kernel_rfl) (by kernel_rfl) (by kernel_rfl) (fun _ _ _ h => h) (Or.inl ⟨by kernel_rfl, ?_⟩) hS ?_
    · intro w' hSw
      obtain ⟨s0, s1, s2, s3, s4, s5, s6, s7, s8⟩ := hSw
      go_simp
    try simp only [Act.put]
    refine wpAnyH_ready (rs := [15]) (by kernel_rfl) (by simp) ?_
    refine AllReadyH.cons rfl (fun KN hK => ?_) AllReadyH.nil
    go_simp
    refine (vNatC _).mono ?_
    rintro e w80 ⟨q9, rfl, hdw80, hnw80⟩
    have hbw80 := hbd.trans (hnw80.mono hbd.size)
    refine hK.out _ _ (HKS.out _ hbw80) (fun hS => ?_)
    clear hK KN
    try simp only [Act.put, List.setIfInBounds_toArray, List.set_cons_zero, List.set_cons_succ]
    refine wpAnyH_ready (rs := [17]) (by kernel_rfl) (by simp) ?_
    refine AllReadyH.cons rfl (fun KN hK => ?_) AllReadyH.nil
    go_simp
    refine (HTE.out _ q9 hdw80).mono ?_
    rintro e w81 ⟨rfl, hnw81⟩
    have hbw81 := hbw80.trans (hnw81.mono hbw80.size)
    refine hK.out _ _ (HKS.out _ hbw81) (fun hS => ?_)
    clear hK KN
    try simp only [Act.put, List.setIfInBounds_toArray, List.set_cons_zero, List.set_cons_succ]
    refine wpAnyH_take (i := 18) (v := .bool true) rfl (by kernel_rfl) (by kernel_rfl) (by kernel_rfl) (fun _ _ _ h => h) (Or.inl ⟨by kernel_rfl, ?_⟩) hS ?_
    · intro w' hSw
      obtain ⟨s0, s1, s2, s3, s4, s5, s6, s7, s8⟩ := hSw
      go_simp
    try simp only [Act.put, List.setIfInBounds_toArray]
    refine wpAnyH_take (i := 19) (v := .bool true) rfl (by kernel_rfl) (by kernel_rfl) (by kernel_rfl) (fun _ _ _ h => h) (Or.inl ⟨by kernel_rfl, ?_⟩) hS ?_
    · intro w' hSw
      obtain ⟨s0, s1, s2, s3, s4, s5, s6, s7, s8⟩ := hSw
      go_simp
    try simp only [Act.put]
    refine wpAnyH_take (i := 20) (v := .bool true) rfl (by kernel_rfl) (by kernel_rfl) (by kernel_rfl) (fun _ _ _ h => h) (Or.inl ⟨by kernel_rfl, ?_⟩) hS ?_
    · intro w' hSw
      obtain ⟨s0, s1, s2, s3, s4, s5, s6, s7, s8⟩ := hSw
      go_simp
    try simp only [Act.put]
    refine wpAnyH_done (by kernel_rfl) ?_ _
    try simp only [List.setIfInBounds_toArray]
    try simp only [List.getElem_toArray, List.getElem_cons_succ, List.getElem_cons_zero, List.setIfInBounds_toArray, List.set_cons_zero, List.set_cons_succ]
    have HBF := Lib.hid (HBw71.out.trans (hbw81.mono HBw71.out.size))
    clear hS HKS hbd hdw80 hnw80 hbw80 hnw81 hbw81
    go_wp2_with fail
    refine bodyPost_ret (v := .bool true) (by simp [results, Try.results9, go_sem]) rfl ?_
    exact ⟨rfl, HBF.out⟩

end Go.Proofs.Ytloeainlpcnhnaa

/-
  Arguments' readings that are declarations, and lists of them. No statement is proved here.
-/
namespace Go.Proofs.Ytloeainlpcnhnaa
open Go.ChangeShapes Go.WideShapes Go.ChangeAt Go.RowKit Go.Deep
set_option linter.unusedVariables false
set_option maxRecDepth 100000
section
variable {H : Type} {enc : TypeId × Value → H} {w : World} {base : Nat} {spare : Nat → Bool} {held : Bool}

theorem Try.cellsDecl : Try.prog.cellsOf 59 = 4 := by kernel_rfl
theorem Try.cellsStr : Try.prog.cellsOf 9 = 1 := by kernel_rfl
theorem trod_decl {fuel : Nat} {cs : List Value} {x : DataW H × List MemPlace} (hx : DataW.trod enc Try.prog w base spare held fuel 59 cs = some x) :
    ∃ (y : T) (s : ByteArray) (v1 v2 v3 : Value), cs = [.string s, v1, v2, v3] ∧ Rd w y (.agg #[v1, v2, v3]) ∧ nd y ≤ Rows.uptoBulk x.1 := by
  obtain ⟨ys, n, rfl, hxe, hl, hyl, hf⟩ := DataW.trod_struct Try.underlying59 hx
  rw [Try.cellsDecl] at hl
  match cs, hl with
  | [v0, v1, v2, v3], _ =>
    match ys, hyl with
    | [y0, y1], _ =>
      have h0 : DataW.trod enc Try.prog w base spare held n 9 (([v0, v1, v2, v3].drop 0).take (Try.prog.cellsOf 9)) = some y0 := hf 0 _ rfl
      have h1 : DataW.trod enc Try.prog w base spare held n 26 (([v0, v1, v2, v3].drop 1).take (Try.prog.cellsOf 26)) = some y1 := hf 1 _ rfl
      simp only [Try.cellsStr, Try.cellsTerm, List.drop_zero, List.drop_succ_cons, List.take_succ_cons, List.take_zero] at h0 h1
      obtain ⟨s, e0, _⟩ := DataW.trod_string Try.underlying9 h0
      simp only [List.cons.injEq, and_true] at e0
      subst e0
      obtain ⟨t, u0, u1, u2, e, hr, hle, _⟩ := trod_term n _ _ h1
      simp only [List.cons.injEq, and_true] at e
      obtain ⟨rfl, rfl, rfl⟩ := e
      refine ⟨t, s, _, _, _, rfl, hr, ?_⟩
      have hd : x.1 = .agg [y0.1, y1.1] := congrArg Prod.fst hxe
      rw [hd]
      simp only [Rows.uptoBulk, Rows.uptoBulkAll]
      omega
theorem spot_ofQ {a : Addr} {i : Nat} {v v0 : Value} (c0 : w.cell? (a.add i) = some v) (c00 : w.cell? (a.add 0) = some v0) : a.spot = none := by
  have := cell_spot c0
  unfold Addr.add at this
  split at this
  · exact this
  · have := cell_spot c00
    simpa [Addr.add] using this
theorem bulk_mem {H : Type} : ∀ (ds : List (DataW H)) (i : Nat) (d : DataW H), ds[i]? = some d → Rows.uptoBulk d ≤ Rows.uptoBulkAll ds
  | [], i, d, h => by simp at h
  | e :: ds, 0, d, h => by
    simp at h
    subst h
    simp only [Rows.uptoBulkAll]
    omega
  | e :: ds, i + 1, d, h => by
    have := bulk_mem ds i d (by simpa using h)
    simp only [Rows.uptoBulkAll]
    omega
theorem open_decls {r : Reach} {b0 : Nat} {v : Value} {d : DataW H} {p : List MemPlace} (hv : Value.okWide Try.prog w r b0 22 v) (h : DataW.Trod enc Try.prog w base spare held 22 v d p) :
    ∃ (xs : List T) (A : Option Addr) (n c : Nat), v = .slice A n c ∧ DL w xs A n c ∧ ∀ x ∈ xs, nd x ≤ Rows.uptoBulk d := by
  obtain ⟨fuel, hf⟩ := h
  obtain ⟨a0, l0, c0, rfl⟩ := okWide_slice Try.underlying22 hv
  rcases DataW.trod_slice Try.underlying22 hf with ⟨e2, hy2⟩ | ⟨a, len, cap, elems, rest, m, rfl, e2, hy2, hb, hlc, hm, hel, hat, _, _⟩
  · simp only [Value.cells, List.cons.injEq, and_true] at e2
    exact ⟨[], none, 0, 0, e2, ⟨rfl, Nat.le_refl _, Nat.zero_le _, fun i t ht => by simp at ht⟩, fun x hx => by cases hx⟩
  · simp only [Value.cells, List.cons.injEq, and_true] at e2
    rw [e2]
    have first : ∀ i, i < len → ∃ y : T, ∃ s v1 v2 v3 dd, w.cell? (a.add (i * 4 + 0)) = some (.string s) ∧ w.cell? (a.add (i * 4 + 1)) = some v1 ∧ w.cell? (a.add (i * 4 + 2)) = some v2 ∧ w.cell? (a.add (i * 4 + 3)) = some v3 ∧ Rd w y (.agg #[v1, v2, v3]) ∧ (elems.map (·.1))[i]? = some dd ∧ nd y ≤ Rows.uptoBulk dd := by
      intro i hi
      have hi' := hat i hi
      rw [List.getElem?_eq_getElem (by omega), Option.bind_eq_some_iff] at hi'
      obtain ⟨cs', hcs, htr⟩ := hi'
      obtain ⟨y, s, u1, u2, u3, rfl, hr, hle⟩ := trod_decl htr
      rw [Try.cellsDecl] at hcs
      obtain ⟨_, _, hcell⟩ := World.cells?_some hcs
      have c0 := hcell 0 (by omega)
      have c1 := hcell 1 (by omega)
      have c2 := hcell 2 (by omega)
      have c3 := hcell 3 (by omega)
      simp only [List.getElem?_cons_zero, List.getElem?_cons_succ, add_add] at c0 c1 c2 c3
      exact ⟨y, s, u1, u2, u3, _, c0, c1, c2, c3, hr, by rw [List.getElem?_map, List.getElem?_eq_getElem (by omega)]; rfl, hle⟩
    have each : ∀ i, i < len → ∃ y : T, DAt w (some a) i y ∧ nd y ≤ Rows.uptoBulk d := by
      intro i hi
      obtain ⟨y, s, v1, v2, v3, dd, c0, c1, c2, c3, hr, hdd, hle⟩ := first i hi
      obtain ⟨y', _, _, _, _, _, c00, _⟩ := first 0 (by omega)
      have hs := spot_ofQ c0 (by simpa using c00)
      obtain ⟨b, o, sp⟩ := a
      dsimp only at hs
      subst hs
      rw [addr_add] at c0 c1 c2 c3
      obtain ⟨k, h, A, n, c, e⟩ := hr.full
      simp only [Value.agg.injEq, Array.mk.injEq, List.cons.injEq, and_true] at e
      obtain ⟨rfl, rfl, rfl⟩ := e
      refine ⟨y, ⟨b, o, s, k, h, A, n, c, rfl, c0, by rw [Nat.add_assoc]; exact c1, by rw [Nat.add_assoc]; exact c2, by rw [Nat.add_assoc]; exact c3, hr⟩, ?_⟩
      have h1 := bulk_mem _ _ _ hdd
      have hd : d = DataW.slice (elems.map (·.1)) (rest.map (·.1)) := congrArg Prod.fst hy2
      rw [hd]
      simp only [Rows.uptoBulk]
      omega
    obtain ⟨xs, hxl, hxs⟩ := list_of len each
    exact ⟨xs, some a, len, cap, rfl, ⟨hxl, hlc, hm, fun i y hy => (hxs i y hy).1⟩, fun x hx => by
      obtain ⟨i, hi⟩ := List.getElem?_of_mem hx
      exact (hxs i x hi).2⟩
theorem open_decl {r : Reach} {b0 : Nat} {v : Value} {d : DataW H} {p : List MemPlace} (hv : Value.okWide Try.prog w r b0 59 v) (h : DataW.Trod enc Try.prog w base spare held 59 v d p) :
    ∃ (t : T) (s : ByteArray) (k g : Int) (A : Option Addr) (n c : Nat), v = .agg #[.string s, .int .i64 k, .int .i64 g, .slice A n c] ∧ Rd w t (.agg #[.int .i64 k, .int .i64 g, .slice A n c]) := by
  obtain ⟨cs0, rfl, _⟩ := okWide_struct Try.underlying59 hv
  obtain ⟨fuel, hf⟩ := h
  obtain ⟨y, s, v1, v2, v3, e, hr, _⟩ := trod_decl hf
  obtain ⟨k, g, A, n, c, e1⟩ := hr.full
  simp only [Value.agg.injEq, Array.mk.injEq, List.cons.injEq, and_true] at e1
  obtain ⟨rfl, rfl, rfl⟩ := e1
  refine ⟨y, s, k, g, A, n, c, ?_, hr⟩
  cases cs0
  simpa [Value.cells] using e
end
end Go.Proofs.Ytloeainlpcnhnaa

/-
  Arguments' readings that are metas, and lists of them; six and seven arguments. No statement is proved here.
-/
namespace Go.Proofs.Ytloeainlpcnhnaa
open Go.ChangeShapes Go.WideShapes Go.ChangeAt Go.RowKit Go.Deep
set_option linter.unusedVariables false
set_option maxRecDepth 100000
section
variable {H : Type} {enc : TypeId × Value → H} {P : Program} {w : World} {base : Nat} {spare : Nat → Bool} {held : Bool}

theorem trodAll_five {t0 t1 t2 t3 t4 : TypeId} {args : Array Value} {ds : List (DataW H)} {ps : List MemPlace} (h : DataW.TrodAll enc P w base spare held [t0, t1, t2, t3, t4] args.toList ds ps) :
    ∃ v0 v1 v2 v3 v4 d0 d1 d2 d3 d4 p0 p1 p2 p3 p4, args = #[v0, v1, v2, v3, v4] ∧ ds = [d0, d1, d2, d3, d4] ∧ ps = p0 ++ p1 ++ p2 ++ p3 ++ p4 ∧ DataW.Trod enc P w base spare held t0 v0 d0 p0 ∧ DataW.Trod enc P w base spare held t1 v1 d1 p1 ∧ DataW.Trod enc P w base spare held t2 v2 d2 p2 ∧ DataW.Trod enc P w base spare held t3 v3 d3 p3 ∧ DataW.Trod enc P w base spare held t4 v4 d4 p4 := by
  obtain ⟨v0, vs0, d0, ds0, p0, q0, hargs, rfl, rfl, h0, r0⟩ := trodAll_cons h
  obtain ⟨v1, vs1, d1, ds1, p1, q1, rfl, rfl, rfl, h1, r1⟩ := trodAll_cons r0
  obtain ⟨v2, vs2, d2, ds2, p2, q2, rfl, rfl, rfl, h2, r2⟩ := trodAll_cons r1
  obtain ⟨v3, vs3, d3, ds3, p3, q3, rfl, rfl, rfl, h3, r3⟩ := trodAll_cons r2
  obtain ⟨v4, vs4, d4, ds4, p4, q4, rfl, rfl, rfl, h4, r4⟩ := trodAll_cons r3
  obtain ⟨rfl, rfl, rfl⟩ := trodAll_nil r4
  exact ⟨v0, v1, v2, v3, v4, d0, d1, d2, d3, d4, p0, p1, p2, p3, p4, by cases args; simp_all, rfl, by simp, h0, h1, h2, h3, h4⟩
theorem trodAll_mk5 {t0 t1 t2 t3 t4 : TypeId} {v0 v1 v2 v3 v4 : Value} {d0 d1 d2 d3 d4 : DataW H} {p0 p1 p2 p3 p4 : List MemPlace} (h0 : DataW.Trod enc P w base spare held t0 v0 d0 p0) (h1 : DataW.Trod enc P w base spare held t1 v1 d1 p1) (h2 : DataW.Trod enc P w base spare held t2 v2 d2 p2) (h3 : DataW.Trod enc P w base spare held t3 v3 d3 p3) (h4 : DataW.Trod enc P w base spare held t4 v4 d4 p4) : DataW.TrodAll enc P w base spare held [t0, t1, t2, t3, t4] [v0, v1, v2, v3, v4] [d0, d1, d2, d3, d4] (p0 ++ (p1 ++ (p2 ++ (p3 ++ p4)))) := ⟨p0, (p1 ++ (p2 ++ (p3 ++ p4))), h0, trodAll_mk4 h1 h2 h3 h4, rfl⟩
theorem trodAll_six {t0 t1 t2 t3 t4 t5 : TypeId} {args : Array Value} {ds : List (DataW H)} {ps : List MemPlace} (h : DataW.TrodAll enc P w base spare held [t0, t1, t2, t3, t4, t5] args.toList ds ps) :
    ∃ v0 v1 v2 v3 v4 v5 d0 d1 d2 d3 d4 d5 p0 p1 p2 p3 p4 p5, args = #[v0, v1, v2, v3, v4, v5] ∧ ds = [d0, d1, d2, d3, d4, d5] ∧ ps = p0 ++ p1 ++ p2 ++ p3 ++ p4 ++ p5 ∧ DataW.Trod enc P w base spare held t0 v0 d0 p0 ∧ DataW.Trod enc P w base spare held t1 v1 d1 p1 ∧ DataW.Trod enc P w base spare held t2 v2 d2 p2 ∧ DataW.Trod enc P w base spare held t3 v3 d3 p3 ∧ DataW.Trod enc P w base spare held t4 v4 d4 p4 ∧ DataW.Trod enc P w base spare held t5 v5 d5 p5 := by
  obtain ⟨v0, vs0, d0, ds0, p0, q0, hargs, rfl, rfl, h0, r0⟩ := trodAll_cons h
  obtain ⟨v1, vs1, d1, ds1, p1, q1, rfl, rfl, rfl, h1, r1⟩ := trodAll_cons r0
  obtain ⟨v2, vs2, d2, ds2, p2, q2, rfl, rfl, rfl, h2, r2⟩ := trodAll_cons r1
  obtain ⟨v3, vs3, d3, ds3, p3, q3, rfl, rfl, rfl, h3, r3⟩ := trodAll_cons r2
  obtain ⟨v4, vs4, d4, ds4, p4, q4, rfl, rfl, rfl, h4, r4⟩ := trodAll_cons r3
  obtain ⟨v5, vs5, d5, ds5, p5, q5, rfl, rfl, rfl, h5, r5⟩ := trodAll_cons r4
  obtain ⟨rfl, rfl, rfl⟩ := trodAll_nil r5
  exact ⟨v0, v1, v2, v3, v4, v5, d0, d1, d2, d3, d4, d5, p0, p1, p2, p3, p4, p5, by cases args; simp_all, rfl, by simp, h0, h1, h2, h3, h4, h5⟩
theorem trodAll_mk6 {t0 t1 t2 t3 t4 t5 : TypeId} {v0 v1 v2 v3 v4 v5 : Value} {d0 d1 d2 d3 d4 d5 : DataW H} {p0 p1 p2 p3 p4 p5 : List MemPlace} (h0 : DataW.Trod enc P w base spare held t0 v0 d0 p0) (h1 : DataW.Trod enc P w base spare held t1 v1 d1 p1) (h2 : DataW.Trod enc P w base spare held t2 v2 d2 p2) (h3 : DataW.Trod enc P w base spare held t3 v3 d3 p3) (h4 : DataW.Trod enc P w base spare held t4 v4 d4 p4) (h5 : DataW.Trod enc P w base spare held t5 v5 d5 p5) : DataW.TrodAll enc P w base spare held [t0, t1, t2, t3, t4, t5] [v0, v1, v2, v3, v4, v5] [d0, d1, d2, d3, d4, d5] (p0 ++ (p1 ++ (p2 ++ (p3 ++ (p4 ++ p5))))) := ⟨p0, (p1 ++ (p2 ++ (p3 ++ (p4 ++ p5)))), h0, trodAll_mk5 h1 h2 h3 h4 h5, rfl⟩
theorem trodAll_seven {t0 t1 t2 t3 t4 t5 t6 : TypeId} {args : Array Value} {ds : List (DataW H)} {ps : List MemPlace} (h : DataW.TrodAll enc P w base spare held [t0, t1, t2, t3, t4, t5, t6] args.toList ds ps) :
    ∃ v0 v1 v2 v3 v4 v5 v6 d0 d1 d2 d3 d4 d5 d6 p0 p1 p2 p3 p4 p5 p6, args = #[v0, v1, v2, v3, v4, v5, v6] ∧ ds = [d0, d1, d2, d3, d4, d5, d6] ∧ ps = p0 ++ p1 ++ p2 ++ p3 ++ p4 ++ p5 ++ p6 ∧ DataW.Trod enc P w base spare held t0 v0 d0 p0 ∧ DataW.Trod enc P w base spare held t1 v1 d1 p1 ∧ DataW.Trod enc P w base spare held t2 v2 d2 p2 ∧ DataW.Trod enc P w base spare held t3 v3 d3 p3 ∧ DataW.Trod enc P w base spare held t4 v4 d4 p4 ∧ DataW.Trod enc P w base spare held t5 v5 d5 p5 ∧ DataW.Trod enc P w base spare held t6 v6 d6 p6 := by
  obtain ⟨v0, vs0, d0, ds0, p0, q0, hargs, rfl, rfl, h0, r0⟩ := trodAll_cons h
  obtain ⟨v1, vs1, d1, ds1, p1, q1, rfl, rfl, rfl, h1, r1⟩ := trodAll_cons r0
  obtain ⟨v2, vs2, d2, ds2, p2, q2, rfl, rfl, rfl, h2, r2⟩ := trodAll_cons r1
  obtain ⟨v3, vs3, d3, ds3, p3, q3, rfl, rfl, rfl, h3, r3⟩ := trodAll_cons r2
  obtain ⟨v4, vs4, d4, ds4, p4, q4, rfl, rfl, rfl, h4, r4⟩ := trodAll_cons r3
  obtain ⟨v5, vs5, d5, ds5, p5, q5, rfl, rfl, rfl, h5, r5⟩ := trodAll_cons r4
  obtain ⟨v6, vs6, d6, ds6, p6, q6, rfl, rfl, rfl, h6, r6⟩ := trodAll_cons r5
  obtain ⟨rfl, rfl, rfl⟩ := trodAll_nil r6
  exact ⟨v0, v1, v2, v3, v4, v5, v6, d0, d1, d2, d3, d4, d5, d6, p0, p1, p2, p3, p4, p5, p6, by cases args; simp_all, rfl, by simp, h0, h1, h2, h3, h4, h5, h6⟩
theorem trodAll_mk7 {t0 t1 t2 t3 t4 t5 t6 : TypeId} {v0 v1 v2 v3 v4 v5 v6 : Value} {d0 d1 d2 d3 d4 d5 d6 : DataW H} {p0 p1 p2 p3 p4 p5 p6 : List MemPlace} (h0 : DataW.Trod enc P w base spare held t0 v0 d0 p0) (h1 : DataW.Trod enc P w base spare held t1 v1 d1 p1) (h2 : DataW.Trod enc P w base spare held t2 v2 d2 p2) (h3 : DataW.Trod enc P w base spare held t3 v3 d3 p3) (h4 : DataW.Trod enc P w base spare held t4 v4 d4 p4) (h5 : DataW.Trod enc P w base spare held t5 v5 d5 p5) (h6 : DataW.Trod enc P w base spare held t6 v6 d6 p6) : DataW.TrodAll enc P w base spare held [t0, t1, t2, t3, t4, t5, t6] [v0, v1, v2, v3, v4, v5, v6] [d0, d1, d2, d3, d4, d5, d6] (p0 ++ (p1 ++ (p2 ++ (p3 ++ (p4 ++ (p5 ++ p6)))))) := ⟨p0, (p1 ++ (p2 ++ (p3 ++ (p4 ++ (p5 ++ p6))))), h0, trodAll_mk6 h1 h2 h3 h4 h5 h6, rfl⟩
end
section
variable {H : Type} {enc : TypeId × Value → H} {w : World} {base : Nat} {spare : Nat → Bool} {held : Bool}
theorem trod_terms {fuel : Nat} {v : Value} {y : DataW H × List MemPlace} (hf : DataW.trod enc Try.prog w base spare held fuel 24 [v] = some y) :
    ∃ (xs : List T) (A : Option Addr) (n c : Nat), v = .slice A n c ∧ CLV w xs A n c ∧ ndL xs ≤ Rows.uptoBulk y.1 := by
  rcases DataW.trod_slice Try.underlying24 hf with ⟨e2, hy2⟩ | ⟨a, len, cap, elems, rest, m, rfl, e2, hy2, hb, hlc, hm, hel, hat, _, _⟩
  · simp only [List.cons.injEq, and_true] at e2
    exact ⟨[], none, 0, 0, e2, ⟨rfl, Nat.le_refl _, Nat.zero_le _, fun i t ht => by simp at ht⟩, by simp [ndL]⟩
  · simp only [List.cons.injEq, and_true] at e2
    rw [e2]
    have each : ∀ i, i < len → ∃ t : T, ∃ d, (elems.map (·.1))[i]? = some d ∧ nd t ≤ Rows.uptoBulk d ∧ ((∀ n ∈ d.weights Try.prog 26, n ≤ reachBytes) → wd t ≤ 3518437208780) ∧ RdAt w (some a) i t := by
      intro i hi
      have hi' := hat i hi
      rw [List.getElem?_eq_getElem (by omega), Option.bind_eq_some_iff] at hi'
      obtain ⟨cs', hcs, htr⟩ := hi'
      obtain ⟨t, u0, u1, u2, rfl, hr, hle, hwt⟩ := trod_term m cs' _ htr
      rw [Try.cellsTerm] at hcs
      obtain ⟨_, _, hcell⟩ := World.cells?_some hcs
      have c0 := hcell 0 (by omega)
      have c1 := hcell 1 (by omega)
      have c2 := hcell 2 (by omega)
      simp only [List.getElem?_cons_zero, List.getElem?_cons_succ, add_add, Nat.add_zero] at c0 c1 c2
      have hs : a.spot = none := by
        have := cell_spot c0
        unfold Addr.add at this
        split at this
        · exact this
        · rename_i h3
          -- the first entry's address has the same spot
          have h0' := hat 0 (by omega)
          rw [List.getElem?_eq_getElem (by omega), Option.bind_eq_some_iff] at h0'
          obtain ⟨cs0, hcs0, _⟩ := h0'
          rw [Try.cellsTerm] at hcs0
          obtain ⟨_, hl0, hcell0⟩ := World.cells?_some hcs0
          have := hcell0 0 (by omega)
          rw [List.getElem?_eq_getElem (by omega)] at this
          have := cell_spot this
          simpa [Addr.add] using this
      obtain ⟨b, o, s⟩ := a
      dsimp only at hs
      subst hs
      rw [addr_add] at c0 c1 c2
      refine ⟨t, _, by rw [List.getElem?_map, List.getElem?_eq_getElem (by omega)]; rfl, hle, hwt, b, o, u0, u1, u2, rfl, c0, ?_, ?_, hr⟩
      · rw [Nat.add_assoc]; exact c1
      · rw [Nat.add_assoc]; exact c2

    obtain ⟨xs, hxl, hxs⟩ := list_of len each
    refine ⟨xs, some a, len, cap, rfl, ⟨hxl, hlc, hm, fun i t ht => by obtain ⟨_, _, _, _, hr⟩ := hxs i t ht; exact hr⟩, ?_⟩
    have hge := bulk_ge xs (elems.map (·.1)) fun i t ht => by
      obtain ⟨d, hd, hle, _, _⟩ := hxs i t ht
      exact ⟨d, hd, hle⟩
    rw [show y.1 = _ from congrArg Prod.fst hy2]
    simp only [Rows.uptoBulk]
    omega
theorem open_clv {r : Reach} {b0 : Nat} {v : Value} {d : DataW H} {p : List MemPlace} (hv : Value.okWide Try.prog w r b0 24 v) (h : DataW.Trod enc Try.prog w base spare held 24 v d p) :
    ∃ (xs : List T) (A : Option Addr) (n c : Nat), v = .slice A n c ∧ CLV w xs A n c ∧ ∀ x ∈ xs, nd x ≤ Rows.uptoBulk d := by
  obtain ⟨xs, A, n, c, rfl, h1, h2, h3, h4, h5⟩ := open_terms hv h
  exact ⟨xs, A, n, c, rfl, ⟨h1, h2, h3, h4⟩, fun x hx => Nat.le_trans (nd_mem hx) h5⟩
theorem Try.cellsMd : Try.prog.cellsOf 39 = 5 := by kernel_rfl
theorem Try.cellsBl : Try.prog.cellsOf 4 = 1 := by kernel_rfl
theorem trod_meta {fuel : Nat} {cs : List Value} {x : DataW H × List MemPlace} (hx : DataW.trod enc Try.prog w base spare held fuel 39 cs = some x) :
    ∃ (y : List T × T) (A : Option Addr) (n c : Nat) (v1 v2 v3 : Value) (pb : Bool), cs = [.slice A n c, v1, v2, v3, .bool pb] ∧ CLV w y.1 A n c ∧ Rd w y.2 (.agg #[v1, v2, v3]) ∧ (∀ z ∈ y.1, nd z ≤ Rows.uptoBulk x.1) ∧ nd y.2 ≤ Rows.uptoBulk x.1 := by
  obtain ⟨ys, n, rfl, hxe, hl, hyl, hf⟩ := DataW.trod_struct Try.underlying39 hx
  rw [Try.cellsMd] at hl
  match cs, hl with
  | [v0, v1, v2, v3, v4], _ =>
    match ys, hyl with
    | [y0, y1, y2], _ =>
      have h0 : DataW.trod enc Try.prog w base spare held n 24 (([v0, v1, v2, v3, v4].drop 0).take (Try.prog.cellsOf 24)) = some y0 := hf 0 _ rfl
      have h1 : DataW.trod enc Try.prog w base spare held n 26 (([v0, v1, v2, v3, v4].drop 1).take (Try.prog.cellsOf 26)) = some y1 := hf 1 _ rfl
      have h2 : DataW.trod enc Try.prog w base spare held n 4 (([v0, v1, v2, v3, v4].drop 4).take (Try.prog.cellsOf 4)) = some y2 := hf 2 _ rfl
      simp only [Try.cellsArgs, Try.cellsTerm, Try.cellsBl, List.drop_zero, List.drop_succ_cons, List.take_succ_cons, List.take_zero] at h0 h1 h2
      obtain ⟨xs, A, m, c, rfl, hcl, hle0⟩ := trod_terms h0
      obtain ⟨t, u0, u1, u2, e, hr, hle, _⟩ := trod_term n _ _ h1
      simp only [List.cons.injEq, and_true] at e
      obtain ⟨rfl, rfl, rfl⟩ := e
      obtain ⟨pb, e4, _⟩ := DataW.trod_bool Try.underlying4 h2
      simp only [List.cons.injEq, and_true] at e4
      subst e4
      have hd : x.1 = .agg [y0.1, y1.1, y2.1] := congrArg Prod.fst hxe
      refine ⟨(xs, t), A, m, c, _, _, _, pb, rfl, hcl, hr, fun z hz => ?_, ?_⟩
      · have : nd z ≤ ndL xs := nd_mem hz
        rw [hd]
        simp only [Rows.uptoBulk, Rows.uptoBulkAll]
        omega
      · rw [hd]
        simp only [Rows.uptoBulk, Rows.uptoBulkAll]
        omega
theorem list_ofV {α : Type} {M : Nat → α → Prop} : ∀ n : Nat, (∀ i, i < n → ∃ t, M i t) → ∃ xs : List α, xs.length = n ∧ ∀ i t, xs[i]? = some t → M i t
  | 0, _ => ⟨[], rfl, fun i t h => by simp at h⟩
  | n + 1, h => by
    obtain ⟨xs, h1, h2⟩ := list_ofV n fun i hi => h i (by omega)
    obtain ⟨t, ht⟩ := h n (by omega)
    refine ⟨xs ++ [t], by simp [h1], fun i u hu => ?_⟩
    by_cases hi : i < n
    · rw [List.getElem?_append_left (by omega)] at hu
      exact h2 i u hu
    · have hin : i = n := by have := (List.getElem?_eq_some_iff.1 hu).1; simp [h1] at this; omega
      subst hin
      rw [List.getElem?_append_right (by omega), h1, Nat.sub_self] at hu
      obtain rfl : t = u := by simpa using hu
      exact ht
theorem open_metas {r : Reach} {b0 : Nat} {v : Value} {d : DataW H} {p : List MemPlace} (hv : Value.okWide Try.prog w r b0 23 v) (h : DataW.Trod enc Try.prog w base spare held 23 v d p) :
    ∃ (xs : List (List T × T)) (A : Option Addr) (n c : Nat), v = .slice A n c ∧ ML w xs A n c ∧ ∀ x ∈ xs, (∀ z ∈ x.1, nd z ≤ Rows.uptoBulk d) ∧ nd x.2 ≤ Rows.uptoBulk d := by
  obtain ⟨fuel, hf⟩ := h
  obtain ⟨a0, l0, c0, rfl⟩ := okWide_slice Try.underlying23 hv
  rcases DataW.trod_slice Try.underlying23 hf with ⟨e2, hy2⟩ | ⟨a, len, cap, elems, rest, m, rfl, e2, hy2, hb, hlc, hm, hel, hat, _, _⟩
  · simp only [Value.cells, List.cons.injEq, and_true] at e2
    exact ⟨[], none, 0, 0, e2, ⟨rfl, Nat.le_refl _, Nat.zero_le _, fun i t ht => by simp at ht⟩, fun x hx => by cases hx⟩
  · simp only [Value.cells, List.cons.injEq, and_true] at e2
    rw [e2]
    have first : ∀ i, i < len → ∃ y : List T × T, ∃ A n c v1 v2 v3 pb dd, w.cell? (a.add (i * 5 + 0)) = some (.slice A n c) ∧ w.cell? (a.add (i * 5 + 1)) = some v1 ∧ w.cell? (a.add (i * 5 + 2)) = some v2 ∧ w.cell? (a.add (i * 5 + 3)) = some v3 ∧ w.cell? (a.add (i * 5 + 4)) = some (.bool pb) ∧ CLV w y.1 A n c ∧ Rd w y.2 (.agg #[v1, v2, v3]) ∧ (elems.map (·.1))[i]? = some dd ∧ (∀ z ∈ y.1, nd z ≤ Rows.uptoBulk dd) ∧ nd y.2 ≤ Rows.uptoBulk dd := by
      intro i hi
      have hi' := hat i hi
      rw [List.getElem?_eq_getElem (by omega), Option.bind_eq_some_iff] at hi'
      obtain ⟨cs', hcs, htr⟩ := hi'
      obtain ⟨y, A, n, c, u1, u2, u3, pb, rfl, hcl, hr, hle1, hle2⟩ := trod_meta htr
      rw [Try.cellsMd] at hcs
      obtain ⟨_, _, hcell⟩ := World.cells?_some hcs
      have c0 := hcell 0 (by omega)
      have c1 := hcell 1 (by omega)
      have c2 := hcell 2 (by omega)
      have c3 := hcell 3 (by omega)
      have c4 := hcell 4 (by omega)
      simp only [List.getElem?_cons_zero, List.getElem?_cons_succ, add_add] at c0 c1 c2 c3 c4
      exact ⟨y, A, n, c, u1, u2, u3, pb, _, c0, c1, c2, c3, c4, hcl, hr, by rw [List.getElem?_map, List.getElem?_eq_getElem (by omega)]; rfl, hle1, hle2⟩
    have each : ∀ i, i < len → ∃ y : List T × T, MAt w (some a) i y ∧ (∀ z ∈ y.1, nd z ≤ Rows.uptoBulk d) ∧ nd y.2 ≤ Rows.uptoBulk d := by
      intro i hi
      obtain ⟨y, A1, n1, c1', v1, v2, v3, pb, dd, c0, c1, c2, c3, c4, hcl, hr, hdd, hle1, hle2⟩ := first i hi
      obtain ⟨y', _, _, _, _, _, _, _, _, c00, _⟩ := first 0 (by omega)
      have hs := spot_ofQ c0 (by simpa using c00)
      obtain ⟨b, o, sp⟩ := a
      dsimp only at hs
      subst hs
      rw [addr_add] at c0 c1 c2 c3 c4
      obtain ⟨k, h, A, n, c, e⟩ := hr.full
      simp only [Value.agg.injEq, Array.mk.injEq, List.cons.injEq, and_true] at e
      obtain ⟨rfl, rfl, rfl⟩ := e
      have h1 := bulk_mem _ _ _ hdd
      have hd : d = DataW.slice (elems.map (·.1)) (rest.map (·.1)) := congrArg Prod.fst hy2
      refine ⟨y, ⟨b, o, A1, n1, c1', k, h, A, n, c, pb, rfl, c0, by rw [Nat.add_assoc]; exact c1, by rw [Nat.add_assoc]; exact c2, by rw [Nat.add_assoc]; exact c3, by rw [Nat.add_assoc]; exact c4, hcl, hr⟩, fun z hz => ?_, ?_⟩
      · have := hle1 z hz
        rw [hd]
        simp only [Rows.uptoBulk]
        omega
      · rw [hd]
        simp only [Rows.uptoBulk]
        omega
    obtain ⟨xs, hxl, hxs⟩ := list_ofV len each
    exact ⟨xs, some a, len, cap, rfl, ⟨hxl, hlc, hm, fun i y hy => (hxs i y hy).1⟩, fun x hx => by
      obtain ⟨i, hi⟩ := List.getElem?_of_mem hx
      exact (hxs i x hi).2⟩
end
end Go.Proofs.Ytloeainlpcnhnaa

/-
  The walk of the law CheckTypes.
-/
namespace Go.Proofs.Ytloeainlpcnhnaa
open Go.ChangeShapes Go.WideShapes Go.ChangeAt Go.RowKit
set_option linter.unusedVariables false

set_option maxRecDepth 100000 in
set_option maxHeartbeats 16000000 in
theorem checkTypesC (W : WV) (cx : List T) (m : T) (As : Option Addr) (ns cs : Nat) (Am : Option Addr) (nm cm : Nat) (Ac : Option Addr) (nc cc : Nat) (vm : Value) (w : World) (hk : CkV w W cx As ns cs Am nm cm Ac nc cc) (hz : SzE W cx) (hnm : nd m ≤ 1048576) (hvp : Rd w m vm) :
    Calls Try.prog 4 #[.slice As ns cs, .slice Am nm cm, .slice Ac nc cc, vm] w fun e w' => e = .returned (.bool true) ∧ Below w.heap.size w w' := by
  obtain ⟨rF, hrF⟩ : ∃ r, fwV W cx ns nm = r := ⟨_, rfl⟩
  obtain ⟨rm, hrm⟩ : ∃ r, ltB m 500 80 = r := ⟨_, rfl⟩
  have HRF := Lib.hid hrF; clear hrF
  have HRm := Lib.hid hrm; clear hrm
  have HSZ := Lib.hid hz; clear hz
  have HNM := Lib.hid hnm; clear hnm
  obtain ⟨kp, hp, Ap, np, cp, rfl⟩ := hvp.full
  have HVp := Lib.hid hvp; clear hvp
  have HK := Lib.hid hk; clear hk
  obtain ⟨w0, hW⟩ : ∃ w0, (w.alloc (.cells #[.int .i64 kp, .int .i64 hp, .slice Ap np cp] 26)) = w0 := ⟨_, rfl⟩
  have hb0 : Below w.heap.size w w0 := by rw [← hW]; exact ((Below.refl _ _).alloc (by exact Nat.le_refl _) _)
  have Xp := Lib.hid (show Box w0 (w.heap.size) 26 #[.int .i64 kp, .int .i64 hp, .slice Ap np cp] by rw [← hW]; exact (Box.new w _ _))
  have HB := Lib.hid hb0; clear hb0
  go_enter Try.func4, Try.ntmps4
  go_wp2_with fail
  clear hW
  refine (vAwakeC _).mono ?_
  rintro e w1 ⟨rfl, hb1⟩
  replace Xp := Lib.hid (Xp.out.keep hb1 Xp.out.lt)
  replace HB := Lib.hid (HB.out.trans (hb1.mono HB.out.size))
  clear hb1
  obtain ⟨bp0, bp1, bp2⟩ := Xp.out.three
  go_wp2_with fail
  clear bp0 bp1 bp2
  have HC := Lib.hid (vFewC W cx As Am Ac ns cs nm cm nc cc _ (HK.out.keep HB.out))
  rw [HRF.out] at HC
  refine (HC.out).mono ?_
  rintro e w2 ⟨rfl, hb1⟩
  replace Xp := Lib.hid (Xp.out.keep hb1 Xp.out.lt)
  replace HB := Lib.hid (HB.out.trans (hb1.mono HB.out.size))
  clear hb1
  clear HC
  obtain ⟨bp0, bp1, bp2⟩ := Xp.out.three
  go_wp2_with fail
  clear bp0 bp1 bp2
  have HC := Lib.hid (refLight m 500 80 _ _ (Rd.keep HB.out _ _ HVp.out))
  rw [HRm.out] at HC
  refine (HC.out).mono ?_
  rintro e w3 ⟨rfl, hb1⟩
  replace Xp := Lib.hid (Xp.out.keep hb1 Xp.out.lt)
  replace HB := Lib.hid (HB.out.trans (hb1.mono HB.out.size))
  clear hb1
  clear HC
  obtain ⟨bp0, bp1, bp2⟩ := Xp.out.three
  cases rF
  · go_wp2_with fail
    go_ret
    exact ⟨rfl, HB.out⟩
  clear bp0 bp1 bp2
  obtain ⟨bp0, bp1, bp2⟩ := Xp.out.three
  cases rm
  · go_wp2_with fail
    go_ret
    exact ⟨rfl, HB.out⟩
  clear bp0 bp1 bp2
  have hlo := loV_of HRF.out
  have HLO := Lib.hid hlo; clear hlo
  obtain ⟨R1, hR1⟩ : ∃ e, ckTy W cx m = e := ⟨_, rfl⟩
  obtain ⟨R2, hR2⟩ : ∃ e, ckKi W cx m = e := ⟨_, rfl⟩
  have HC1 := Lib.hid (fun (W' : World) (h' : Below w3.heap.size w3 W') => vCheckTypeC W cx m As ns cs Am nm cm Ac nc cc _ W' (HK.out.keep (HB.out.trans (h'.mono HB.out.size))) (Rd.keep (HB.out.trans (h'.mono HB.out.size)) _ _ HVp.out) HLO.out (lo_lt HRm.out))
  have HC2 := Lib.hid (fun (W' : World) (h' : Below w3.heap.size w3 W') => eCheckTypeC W cx m As ns cs Am nm cm Ac nc cc _ W' (HK.out.keep (HB.out.trans (h'.mono HB.out.size))) (Rd.keep (HB.out.trans (h'.mono HB.out.size)) _ _ HVp.out) HLO.out HSZ.out HNM.out (lo_lt HRm.out))
  have HC3 := Lib.hid (fun (W' : World) (h' : Below w3.heap.size w3 W') => vCheckKindC W cx m As ns cs Am nm cm Ac nc cc _ W' (HK.out.keep (HB.out.trans (h'.mono HB.out.size))) (Rd.keep (HB.out.trans (h'.mono HB.out.size)) _ _ HVp.out) HLO.out (lo_lt HRm.out))
  have HC4 := Lib.hid (fun (W' : World) (h' : Below w3.heap.size w3 W') => eCheckKindC W cx m As ns cs Am nm cm Ac nc cc _ W' (HK.out.keep (HB.out.trans (h'.mono HB.out.size))) (Rd.keep (HB.out.trans (h'.mono HB.out.size)) _ _ HVp.out) HLO.out HSZ.out HNM.out (lo_lt HRm.out))
  rw [hR1] at HC1 HC2
  rw [hR2] at HC3 HC4
  clear hR1 hR2
  obtain ⟨bp0, bp1, bp2⟩ := Xp.out.three
  go_wp2_with fail
  have HKS : Hid (∀ w' : World, Below w3.heap.size w3 w' → (fun w' => w'.cell? ⟨w.heap.size, 0, none⟩ = some (.int .i64 kp) ∧ w'.cell? ⟨w.heap.size, 1, none⟩ = some (.int .i64 hp) ∧ w'.cell? ⟨w.heap.size, 2, none⟩ = some (.slice Ap np cp)) w') := Lib.hid fun w' h => ⟨(h.cell (cell_lt bp0)).trans bp0, (h.cell (cell_lt bp1)).trans bp1, (h.cell (cell_lt bp2)).trans bp2⟩
  have hbd : Below w3.heap.size w3 w3.drew := (Below.refl _ w3).drew
  refine wp_region_held_drew (S := fun w' => w'.cell? ⟨w.heap.size, 0, none⟩ = some (.int .i64 kp) ∧ w'.cell? ⟨w.heap.size, 1, none⟩ = some (.int .i64 hp) ∧ w'.cell? ⟨w.heap.size, 2, none⟩ = some (.slice Ap np cp)) (by kernel_rfl) (HKS.out _ hbd) (fun hS => ?_)
  simp only [List.size_toArray, List.length_cons, List.length_nil, Nat.reduceAdd]
  refine wpAnyH_take (i := 0) (v := .slice As ns cs) rfl (by kernel_rfl) (by kernel_rfl) (by kernel_rfl) (fun _ _ _ h => h) (Or.inl ⟨by kernel_rfl, ?_⟩) hS ?_
  · intro w' hSw
    obtain ⟨s0, s1, s2⟩ := hSw
    go_simp
  try simp only [Act.put, List.getElem_toArray, List.getElem_cons_zero, List.setIfInBounds_toArray, List.set_cons_zero, List.set_cons_succ]
  refine wpAnyH_take (i := 1) (v := .slice Am nm cm) rfl (by kernel_rfl) (by kernel_rfl) (by kernel_rfl) (fun _ _ _ h => h) (Or.inl ⟨by kernel_rfl, ?_⟩) hS ?_
  · intro w' hSw
    obtain ⟨s0, s1, s2⟩ := hSw
    go_simp
  try simp only [Act.put, List.getElem_toArray, List.getElem_cons_succ, List.getElem_cons_zero, List.setIfInBounds_toArray, List.set_cons_zero, List.set_cons_succ]
  refine wpAnyH_take (i := 2) (v := .slice Ac nc cc) rfl (by kernel_rfl) (by kernel_rfl) (by kernel_rfl) (fun _ _ _ h => h) (Or.inl ⟨by kernel_rfl, ?_⟩) hS ?_
  · intro w' hSw
    obtain ⟨s0, s1, s2⟩ := hSw
    go_simp
  try simp only [Act.put, List.getElem_toArray, List.getElem_cons_succ, List.getElem_cons_zero, List.setIfInBounds_toArray, List.set_cons_zero, List.set_cons_succ]
  refine wpAnyH_take (i := 3) (v := .agg #[.int .i64 kp, .int .i64 hp, .slice Ap np cp]) rfl (by kernel_rfl) (by kernel_rfl) (by kernel_rfl) (fun _ _ _ h => h) (Or.inl ⟨by kernel_rfl, ?_⟩) hS ?_
  · intro w' hSw
    obtain ⟨s0, s1, s2⟩ := hSw
    go_simp
  try simp only [Act.put, List.getElem_toArray, List.getElem_cons_succ, List.getElem_cons_zero, List.setIfInBounds_toArray, List.set_cons_zero, List.set_cons_succ]
  refine wpAnyH_take (i := 5) (v := .slice As ns cs) rfl (by kernel_rfl) (by kernel_rfl) (by kernel_rfl) (fun _ _ _ h => h) (Or.inl ⟨by kernel_rfl, ?_⟩) hS ?_
  · intro w' hSw
    obtain ⟨s0, s1, s2⟩ := hSw
    go_simp
  try simp only [Act.put, List.getElem_toArray, List.getElem_cons_succ, List.getElem_cons_zero, List.setIfInBounds_toArray, List.set_cons_zero, List.set_cons_succ]
  refine wpAnyH_take (i := 6) (v := .slice Am nm cm) rfl (by kernel_rfl) (by kernel_rfl) (by kernel_rfl) (fun _ _ _ h => h) (Or.inl ⟨by kernel_rfl, ?_⟩) hS ?_
  · intro w' hSw
    obtain ⟨s0, s1, s2⟩ := hSw
    go_simp
  try simp only [Act.put, List.getElem_toArray, List.getElem_cons_succ, List.getElem_cons_zero, List.setIfInBounds_toArray, List.set_cons_zero, List.set_cons_succ]
  refine wpAnyH_take (i := 7) (v := .slice Ac nc cc) rfl (by kernel_rfl) (by kernel_rfl) (by kernel_rfl) (fun _ _ _ h => h) (Or.inl ⟨by kernel_rfl, ?_⟩) hS ?_
  · intro w' hSw
    obtain ⟨s0, s1, s2⟩ := hSw
    go_simp
  try simp only [Act.put, List.getElem_toArray, List.getElem_cons_succ, List.getElem_cons_zero, List.setIfInBounds_toArray, List.set_cons_zero, List.set_cons_succ]
  refine wpAnyH_take (i := 8) (v := .agg #[.int .i64 kp, .int .i64 hp, .slice Ap np cp]) rfl (by kernel_rfl) (by kernel_rfl) (by kernel_rfl) (fun _ _ _ h => h) (Or.inl ⟨by kernel_rfl, ?_⟩) hS ?_
  · intro w' hSw
    obtain ⟨s0, s1, s2⟩ := hSw
    go_simp
  try simp only [Act.put, List.getElem_toArray, List.getElem_cons_succ, List.getElem_cons_zero, List.setIfInBounds_toArray, List.set_cons_zero, List.set_cons_succ]
  refine wpAnyH_ready (rs := [4]) (by kernel_rfl) (by simp) ?_
  refine AllReadyH.cons rfl (fun KN hK => ?_) AllReadyH.nil
  go_simp
  refine (HC1.out _ hbd).mono ?_
  rintro e v4 ⟨rfl, hb6⟩
  replace hbd : Below w3.heap.size w3 v4 := hbd.trans (hb6.mono hbd.size)
  clear hb6
  refine hK.out _ _ (HKS.out _ hbd) (fun hS => ?_)
  clear hK KN
  try simp only [Act.put, List.getElem_toArray, List.getElem_cons_succ, List.getElem_cons_zero, List.setIfInBounds_toArray, List.set_cons_zero, List.set_cons_succ]
  refine wpAnyH_ready (rs := [9]) (by kernel_rfl) (by simp) ?_
  refine AllReadyH.cons rfl (fun KN hK => ?_) AllReadyH.nil
  go_simp
  refine (HC2.out _ hbd).mono ?_
  rintro e v9 ⟨rfl, hb6⟩
  replace hbd : Below w3.heap.size w3 v9 := hbd.trans (hb6.mono hbd.size)
  clear hb6
  refine hK.out _ _ (HKS.out _ hbd) (fun hS => ?_)
  clear hK KN
  try simp only [Act.put, List.getElem_toArray, List.getElem_cons_succ, List.getElem_cons_zero, List.setIfInBounds_toArray, List.set_cons_zero, List.set_cons_succ]
  refine wpAnyH_take (i := 10) (v := .bool true) rfl (by kernel_rfl) (by kernel_rfl) (by kernel_rfl) (fun _ _ _ h => h) (Or.inl ⟨by kernel_rfl, ?_⟩) hS ?_
  · intro w' hSw
    obtain ⟨s0, s1, s2⟩ := hSw
    go_simp
  try simp only [Act.put, List.getElem_toArray, List.getElem_cons_succ, List.getElem_cons_zero, List.setIfInBounds_toArray, List.set_cons_zero, List.set_cons_succ]
  refine wpAnyH_take (i := 11) (v := .bool true) rfl (by kernel_rfl) (by kernel_rfl) (by kernel_rfl) (fun _ _ _ h => h) (Or.inl ⟨by kernel_rfl, ?_⟩) hS ?_
  · intro w' hSw
    obtain ⟨s0, s1, s2⟩ := hSw
    go_simp
  try simp only [Act.put, List.getElem_toArray, List.getElem_cons_succ, List.getElem_cons_zero, List.setIfInBounds_toArray, List.set_cons_zero, List.set_cons_succ]
  refine wpAnyH_take (i := 12) (v := .slice As ns cs) rfl (by kernel_rfl) (by kernel_rfl) (by kernel_rfl) (fun _ _ _ h => h) (Or.inl ⟨by kernel_rfl, ?_⟩) hS ?_
  · intro w' hSw
    obtain ⟨s0, s1, s2⟩ := hSw
    go_simp
  try simp only [Act.put, List.getElem_toArray, List.getElem_cons_succ, List.getElem_cons_zero, List.setIfInBounds_toArray, List.set_cons_zero, List.set_cons_succ]
  refine wpAnyH_take (i := 13) (v := .slice Am nm cm) rfl (by kernel_rfl) (by kernel_rfl) (by kernel_rfl) (fun _ _ _ h => h) (Or.inl ⟨by kernel_rfl, ?_⟩) hS ?_
  · intro w' hSw
    obtain ⟨s0, s1, s2⟩ := hSw
    go_simp
  try simp only [Act.put, List.getElem_toArray, List.getElem_cons_succ, List.getElem_cons_zero, List.setIfInBounds_toArray, List.set_cons_zero, List.set_cons_succ]
  refine wpAnyH_take (i := 14) (v := .slice Ac nc cc) rfl (by kernel_rfl) (by kernel_rfl) (by kernel_rfl) (fun _ _ _ h => h) (Or.inl ⟨by kernel_rfl, ?_⟩) hS ?_
  · intro w' hSw
    obtain ⟨s0, s1, s2⟩ := hSw
    go_simp
  try simp only [Act.put, List.getElem_toArray, List.getElem_cons_succ, List.getElem_cons_zero, List.setIfInBounds_toArray, List.set_cons_zero, List.set_cons_succ]
  refine wpAnyH_take (i := 15) (v := .agg #[.int .i64 kp, .int .i64 hp, .slice Ap np cp]) rfl (by kernel_rfl) (by kernel_rfl) (by kernel_rfl) (fun _ _ _ h => h) (Or.inl ⟨by kernel_rfl, ?_⟩) hS ?_
  · intro w' hSw
    obtain ⟨s0, s1, s2⟩ := hSw
    go_simp
  try simp only [Act.put, List.getElem_toArray, List.getElem_cons_succ, List.getElem_cons_zero, List.setIfInBounds_toArray, List.set_cons_zero, List.set_cons_succ]
  refine wpAnyH_take (i := 17) (v := .slice As ns cs) rfl (by kernel_rfl) (by kernel_rfl) (by kernel_rfl) (fun _ _ _ h => h) (Or.inl ⟨by kernel_rfl, ?_⟩) hS ?_
  · intro w' hSw
    obtain ⟨s0, s1, s2⟩ := hSw
    go_simp
  try simp only [Act.put, List.getElem_toArray, List.getElem_cons_succ, List.getElem_cons_zero, List.setIfInBounds_toArray, List.set_cons_zero, List.set_cons_succ]
  refine wpAnyH_take (i := 18) (v := .slice Am nm cm) rfl (by kernel_rfl) (by kernel_rfl) (by kernel_rfl) (fun _ _ _ h => h) (Or.inl ⟨by kernel_rfl, ?_⟩) hS ?_
  · intro w' hSw
    obtain ⟨s0, s1, s2⟩ := hSw
    go_simp
  try simp only [Act.put, List.getElem_toArray, List.getElem_cons_succ, List.getElem_cons_zero, List.setIfInBounds_toArray, List.set_cons_zero, List.set_cons_succ]
  refine wpAnyH_take (i := 19) (v := .slice Ac nc cc) rfl (by kernel_rfl) (by kernel_rfl) (by kernel_rfl) (fun _ _ _ h => h) (Or.inl ⟨by kernel_rfl, ?_⟩) hS ?_
  · intro w' hSw
    obtain ⟨s0, s1, s2⟩ := hSw
    go_simp
  try simp only [Act.put, List.getElem_toArray, List.getElem_cons_succ, List.getElem_cons_zero, List.setIfInBounds_toArray, List.set_cons_zero, List.set_cons_succ]
  refine wpAnyH_take (i := 20) (v := .agg #[.int .i64 kp, .int .i64 hp, .slice Ap np cp]) rfl (by kernel_rfl) (by kernel_rfl) (by kernel_rfl) (fun _ _ _ h => h) (Or.inl ⟨by kernel_rfl, ?_⟩) hS ?_
  · intro w' hSw
    obtain ⟨s0, s1, s2⟩ := hSw
    go_simp
  try simp only [Act.put, List.getElem_toArray, List.getElem_cons_succ, List.getElem_cons_zero, List.setIfInBounds_toArray, List.set_cons_zero, List.set_cons_succ]
  refine wpAnyH_ready (rs := [16]) (by kernel_rfl) (by simp) ?_
  refine AllReadyH.cons rfl (fun KN hK => ?_) AllReadyH.nil
  go_simp
  refine (HC3.out _ hbd).mono ?_
  rintro e v16 ⟨rfl, hb6⟩
  replace hbd : Below w3.heap.size w3 v16 := hbd.trans (hb6.mono hbd.size)
  clear hb6
  refine hK.out _ _ (HKS.out _ hbd) (fun hS => ?_)
  clear hK KN
  try simp only [Act.put, List.getElem_toArray, List.getElem_cons_succ, List.getElem_cons_zero, List.setIfInBounds_toArray, List.set_cons_zero, List.set_cons_succ]
  refine wpAnyH_ready (rs := [21]) (by kernel_rfl) (by simp) ?_
  refine AllReadyH.cons rfl (fun KN hK => ?_) AllReadyH.nil
  go_simp
  refine (HC4.out _ hbd).mono ?_
  rintro e v21 ⟨rfl, hb6⟩
  replace hbd : Below w3.heap.size w3 v21 := hbd.trans (hb6.mono hbd.size)
  clear hb6
  refine hK.out _ _ (HKS.out _ hbd) (fun hS => ?_)
  clear hK KN
  try simp only [Act.put, List.getElem_toArray, List.getElem_cons_succ, List.getElem_cons_zero, List.setIfInBounds_toArray, List.set_cons_zero, List.set_cons_succ]
  refine wpAnyH_take (i := 22) (v := .bool true) rfl (by kernel_rfl) (by kernel_rfl) (by kernel_rfl) (fun _ _ _ h => h) (Or.inl ⟨by kernel_rfl, ?_⟩) hS ?_
  · intro w' hSw
    obtain ⟨s0, s1, s2⟩ := hSw
    go_simp
  try simp only [Act.put, List.getElem_toArray, List.getElem_cons_succ, List.getElem_cons_zero, List.setIfInBounds_toArray, List.set_cons_zero, List.set_cons_succ]
  refine wpAnyH_take (i := 23) (v := .bool true) rfl (by kernel_rfl) (by kernel_rfl) (by kernel_rfl) (fun _ _ _ h => h) (Or.inl ⟨by kernel_rfl, ?_⟩) hS ?_
  · intro w' hSw
    obtain ⟨s0, s1, s2⟩ := hSw
    go_simp
  try simp only [Act.put, List.getElem_toArray, List.getElem_cons_succ, List.getElem_cons_zero, List.setIfInBounds_toArray, List.set_cons_zero, List.set_cons_succ]
  refine wpAnyH_take (i := 24) (v := .bool true) rfl (by kernel_rfl) (by kernel_rfl) (by kernel_rfl) (fun _ _ _ h => h) (Or.inl ⟨by kernel_rfl, ?_⟩) hS ?_
  · intro w' hSw
    obtain ⟨s0, s1, s2⟩ := hSw
    go_simp
  try simp only [Act.put, List.getElem_toArray, List.getElem_cons_succ, List.getElem_cons_zero, List.setIfInBounds_toArray, List.set_cons_zero, List.set_cons_succ]
  refine wpAnyH_done (by kernel_rfl) ?_ _
  try simp only [List.setIfInBounds_toArray]
  try simp only [List.getElem_toArray, List.getElem_cons_succ, List.getElem_cons_zero, List.setIfInBounds_toArray, List.set_cons_zero, List.set_cons_succ]
  have HBF := Lib.hid (HB.out.trans (hbd.mono HB.out.size))
  clear hS HKS hbd HC1 HC2 HC3 HC4
  go_wp2_with fail
  go_ret
  exact ⟨rfl, HBF.out⟩
end Go.Proofs.Ytloeainlpcnhnaa

/-
  The law CheckTypes: what is wrong with any type, and with any kind, is what the document says. Proved where the bulk of what it reads is bounded.
-/
namespace Go.Proofs.Ytloeainlpcnhnaa.checkTypes
open Go.ChangeShapes Go.WideShapes Go.ChangeAt Go.RowKit
set_option linter.unusedVariables false

/-- a word -/
def isWord (w : List Char) : Bool := w.all fun c => !(c == Char.ofNat 32)
theorem words_word : ∀ (w r : List Char), isWord w = true → wordsSigns (w ++ Char.ofNat 32 :: r) = w :: wordsSigns r
  | [], r, _ => rfl
  | c :: w, r, h => by
    rw [isWord, List.all_cons, Bool.and_eq_true] at h
    have ih := words_word w r h.2
    have hc : c ≠ Char.ofNat 32 := by simpa using h.1
    rw [List.cons_append]
    conv => lhs; unfold wordsSigns
    split
    · rename_i e; cases e
    · rename_i e
      injection e with e1 e2
      exact absurd e1 hc
    · rename_i c' r' _ e
      injection e with e1 e2
      subst e1; subst e2
      rw [ih]
theorem toList_of {s : String} {l : List Char} (h : s = String.ofList l) : s.toList = l := by rw [h]; exact String.toList_ofList
def sign0 : List Char := ([104,97,114,110,101,115,115] : List Nat).map Char.ofNat
def sign1 : List Char := ([97,55,50,49,51,55,50,49,56,54,98,99,50,48,101,54,99,48,53,49,56,100,50,99,101,51,49,100,54,100,98,53,53,97,56,55,100,50,50,57,53,102,50,99,57,54,51,54,48,57,53,101,55,97,99,53,51,51,101,102,54,53,48,53] : List Nat).map Char.ofNat
def sign2 : List Char := ([99,117,116] : List Nat).map Char.ofNat
def signs : List Char := ([97,116,32,97,109,97,110,117,101,110,115,105,115,47,97,109,97,110,117,101,110,115,105,115,108,97,119,49,48,46,67,104,101,99,107,84,101,114,109,115,32,97,109,97,110,117,101,110,115,105,115,47,97,109,97,110,117,101,110,115,105,115,108,97,119,49,48,46,67,104,101,99,107,84,121,112,101,115,32,97,109,97,110,117,101,110,115,105,115,47,97,109,97,110,117,101,110,115,105,115,108,97,119,49,50,46,77,101,116,97,115,83,101,108,102,32,97,109,97,110,117,101,110,115,105,115,47,97,109,97,110,117,101,110,115,105,115,108,97,119,49,50,46,77,101,116,97,115,70,105,108,108,101,100,32,97,109,97,110,117,101,110,115,105,115,47,97,109,97,110,117,101,110,115,105,115,108,97,119,49,50,46,77,101,116,97,115,66,101,103,105,110,32,97,109,97,110,117,101,110,115,105,115,47,97,109,97,110,117,101,110,115,105,115,108,97,119,49,50,46,77,101,116,97,115,83,105,122,101,115] : List Nat).map Char.ofNat
set_option maxRecDepth 100000 in
theorem headLine : Try.prog.initOrder.toList = sign0 ++ Char.ofNat 32 :: (sign1 ++ Char.ofNat 32 :: (sign2 ++ Char.ofNat 32 :: signs)) := toList_of (by kernel_rfl)
theorem headWords : ∃ R, behindMainWord (wordsSigns Try.prog.initOrder.toList) = "cut".toList :: R := by
  refine ⟨wordsSigns signs, ?_⟩
  rw [headLine, words_word _ _ (by kernel_rfl), words_word _ _ (by kernel_rfl), words_word _ _ (by kernel_rfl)]
  generalize wordsSigns signs = R
  kernel_rfl
theorem strip_cut (R : List (List Char)) : stripLifts liftWords ("cut".toList :: R) = ([], "cut".toList :: R) := by kernel_rfl
theorem lifts_gen {P : Program} {R : List (List Char)} (h : behindMainWord (wordsSigns P.initOrder.toList) = "cut".toList :: R) : P.headLifts = [] := by
  unfold Program.headLifts
  rw [h, strip_cut]
  kernel_rfl
theorem make_gen {P : Program} {R : List (List Char)} (h : behindMainWord (wordsSigns P.initOrder.toList) = "cut".toList :: R) : P.make = some Make.cut := by
  unfold Program.make
  rw [h]
  kernel_rfl
theorem final_gen {P : Program} {R : List (List Char)} (h : behindMainWord (wordsSigns P.initOrder.toList) = "cut".toList :: R) : P.liftsFinal = false := by
  unfold Program.liftsFinal
  rw [lifts_gen h, h]
  kernel_rfl
theorem enter_gen {P : Program} {R : List (List Char)} (h : behindMainWord (wordsSigns P.initOrder.toList) = "cut".toList :: R) (h2 : P.laysLater = false) (h3 : P.bearsReflect = false) (h4 : P.doorFits [] = true) : P.mayEnter = true := by
  unfold Program.mayEnter
  rw [h]
  dsimp only
  rw [strip_cut, h2, h3]
  dsimp only
  rw [h4]
  kernel_rfl
theorem isLays : Try.prog.laysLater = false := by kernel_rfl
theorem isBears : Try.prog.bearsReflect = false := by kernel_rfl
theorem isDoor : Try.prog.doorFits [] = true := by kernel_rfl
theorem isMake : Try.prog.make = some Make.cut := by
  obtain ⟨R, h⟩ := headWords
  exact make_gen h
theorem isFinal : Try.prog.liftsFinal = false := by
  obtain ⟨R, h⟩ := headWords
  exact final_gen h
theorem isEnter : Try.prog.mayEnter = true := by
  obtain ⟨R, h⟩ := headWords
  exact enter_gen h isLays isBears isDoor

theorem own : ownKnob Try.prog.godebug = none := by kernel_rfl
theorem laidOut : laidOutB Try.prog = true := by kernel_rfl

set_option maxRecDepth 100000 in
theorem contract (H : Type) (enc : TypeId × Value → H) (W : World) (base : Nat) (args : Array Value) (ds gs : List (DataW H)) (before : List MemPlace)
    (hval : ∀ (j : Nat) t v, Try.f4.params[j]? = some t → args[j]? = some v → Value.okWide Try.prog W .any base t v)
    (hW : DataW.Whole enc Try.prog Try.f4.params.toList Rows.checkTypesSpec.vars false W args.toList ds gs before) (hk : Rows.uptoSmall H (ds ++ gs) = true) :
    Calls Try.prog 4 args W fun e W' => ∃ v, e = .returned v ∧ Rows.checkTypesSpec.post enc Try.prog Try.f4 false true false false W args v W' := by
  have hW' := hW
  obtain ⟨p, q, hA0, hV, rfl, hfz, hnd⟩ := hW
  have hA : DataW.TrodAll enc Try.prog W 0 (fun _ => true) true Try.f4.params.toList args.toList ds p := hA0
  rw [Try.params4] at hA hval
  obtain ⟨v0, v1, v2, v3, d0, d1, d2, d3, p0, p1, p2, p3, rfl, rfl, rfl, h0, h1, h2, h3⟩ := trodAll_four hA
  obtain ⟨rfl, rfl⟩ := trodVars_none hV
  obtain ⟨t3, r3, le3, wt3⟩ := open_term (hval 3 26 v3 rfl rfl) h3
  obtain ⟨t0, A0, n0, c0, rfl, r0, b0⟩ := open_decls (hval 0 22 v0 rfl rfl) h0
  obtain ⟨t1, A1, n1, c1, rfl, r1, b1⟩ := open_metas (hval 1 23 v1 rfl rfl) h1
  obtain ⟨t2, A2, n2, c2, rfl, r2, b2⟩ := open_clv (hval 2 24 v2 rfl rfl) h2
  have hk' : Rows.uptoBulkAll ([d0, d1, d2, d3] ++ []) ≤ 1048576 := of_decide_eq_true hk
  simp only [List.append_nil, Rows.uptoBulkAll] at hk'
  have s0 : ∀ x ∈ t0, nd x ≤ 1048576 := fun x hx => by have := b0 x hx; omega
  have s1 : ∀ x ∈ t1, (∀ z ∈ x.1, nd z ≤ 1048576) ∧ nd x.2 ≤ 1048576 := fun x hx => ⟨fun z hz => by have := (b1 x hx).1 z hz; omega, by have := (b1 x hx).2; omega⟩
  have s2 : ∀ x ∈ t2, nd x ≤ 1048576 := fun x hx => by have := b2 x hx; omega
  have s3 : nd t3 ≤ 1048576 := by omega
  clear hA0 hk
  simp only [List.append_nil] at hW'
  have lt0 : ∀ x ∈ p0, x.block < W.heap.size := fun x hx => by simpa using hW'.lt x (by simp [hx])
  have lt1 : ∀ x ∈ p1, x.block < W.heap.size := fun x hx => by simpa using hW'.lt x (by simp [hx])
  have lt2 : ∀ x ∈ p2, x.block < W.heap.size := fun x hx => by simpa using hW'.lt x (by simp [hx])
  have lt3 : ∀ x ∈ p3, x.block < W.heap.size := fun x hx => by simpa using hW'.lt x (by simp [hx])
  refine (checkTypesC ⟨t0, t1⟩ t2 t3 A0 n0 c0 A1 n1 c1 A2 n2 c2 _ _ ⟨r0, r1, r2⟩ ⟨s0, s1, s2⟩ s3 r3).mono fun e W' ⟨he, hb⟩ => ?_
  subst he
  exact ⟨_, rfl, _, _, _, [], _, [], hW', trodAll_cons_mk (shut_bool Try.underlying4 _) trodAll_mk0,
    trodAll_mk4 (Below.trod laidOut (by kernel_rfl) (of_decide_eq_true (by kernel_rfl)) h0 hb lt0) (Below.trod laidOut (by kernel_rfl) (of_decide_eq_true (by kernel_rfl)) h1 hb lt1) (Below.trod laidOut (by kernel_rfl) (of_decide_eq_true (by kernel_rfl)) h2 hb lt2) (Below.trod laidOut (by kernel_rfl) (of_decide_eq_true (by kernel_rfl)) h3 hb lt3), rfl, hb.frame _, fun h => by cases h⟩

set_option maxRecDepth 100000 in
theorem lifted (os : Os) (started : os.Started) (H : Type) (enc : TypeId × Value → H) (F : Stop.Interp) :
    ReturnsInHanded {} Try.checked os 4 .any ((Rows.OpenSpec.upto Rows.checkTypesSpec).pre6 enc Try.prog Try.f4 Rows.checkTypesUptoRow.domain false) (((Rows.OpenSpec.upto Rows.checkTypesSpec).at F).post enc Try.prog Try.f4 false true false false) := by
  refine returnsInHanded_of_cond (C := Try.checked) (s := Rows.OpenSpec.upto Rows.checkTypesSpec) (k := Rows.uptoSmall) rfl own started (by kernel_rfl) Try.func4
    (OpenSpec.witness (enc := enc) (C := Try.checked) (s := Rows.OpenSpec.upto Rows.checkTypesSpec) (k := Rows.uptoSmall) rfl false ⟨#[], #[.slice none 0 0, .slice none 0 0, .slice none 0 0, .agg #[.int .i64 0, .int .i64 0, .slice none 0 0]], []⟩ 8 (by kernel_rfl) (by kernel_rfl) (by kernel_rfl)
      (x := ([.nil, .nil, .nil, .agg [.lit (.int .i64 0), .lit (.int .i64 0), .nil]], [], [])) (by kernel_rfl) rfl (by kernel_rfl)) ?_
  intro W base args ds gs before hval hW _ hk _
  exact contract H enc W base args ds gs before hval hW hk

theorem closed : joinedFacts Try.prog 4 Try.f4 (Rows.OpenSpec.upto Rows.checkTypesSpec).bare Rows.checkTypesUptoRow = true := by
  unfold joinedFacts
  rw [isEnter, isFinal, isMake]
  kernel_rfl

theorem over : Rows.checkTypesUptoRow.holds Try.pinned (Rows.OpenSpec.upto Rows.checkTypesSpec) :=
  OpenClaim.holds_of_cond 4 Try.f4 rfl rfl rfl rfl rfl rfl rfl ⟨rfl, rfl, rfl, rfl, rfl⟩ rfl rfl rfl rfl rfl (by kernel_rfl) Try.func4 closed
    (of_decide_eq_true (by kernel_rfl)) (by unfold Func.isWrapper; first | (rw [if_pos (by decide +kernel)]; kernel_rfl) | (rw [if_neg (by decide +kernel)]; exact ⟨rfl, rfl⟩))
    (fun os started H enc _ F => lifted os started H enc F)

theorem proved : Rows.CheckTypesUptoSaid :=
  over
#print axioms proved
end Go.Proofs.Ytloeainlpcnhnaa.checkTypes
