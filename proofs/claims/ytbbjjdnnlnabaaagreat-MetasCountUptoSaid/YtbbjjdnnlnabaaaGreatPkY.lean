/- Texts of one proof, put together. No statement is proved here. -/
import Derived.Test.YtbbjjdnnlnabaaaGreatPkQ
import Derived.Test.YtbbjjdnnlnabaaaGreatPkV
import Derived.Test.YtbbjjdnnlnabaaaGreatPkYa
import Derived.Test.YtbbjjdnnlnabaaaGreatPkVn
import Derived.Test.YtbbjjdnnlnabaaaGreatPkP
namespace Go.Proofs.YtbbjjdnnlnabaaaGreat
open Go.ChangeShapes Go.WideShapes Go.ChangeAt Go.RowKit Go.Deep
set_option linter.unusedVariables false
set_option linter.unusedSimpArgs false
set_option maxRecDepth 100000
section
variable {H : Type} {enc : TypeId × Value → H} {w : World} {base : Nat} {spare : Nat → Bool} {held : Bool}
theorem Tryz.cellsDecl : Tryz.prog.cellsOf 60 = 4 := by kernel_rfl
theorem Tryz.cellsStr : Tryz.prog.cellsOf 9 = 1 := by kernel_rfl
theorem trod_decl {fuel : Nat} {cs : List Value} {x : DataW H × List MemPlace} (hx : DataW.trod enc Tryz.prog w base spare held fuel 60 cs = some x) :
    ∃ (y : T) (s : ByteArray) (v1 v2 v3 : Value), cs = [.string s, v1, v2, v3] ∧ Rd w y (.agg #[v1, v2, v3]) ∧ nd y ≤ Rows.uptoBulk x.1 := by
  obtain ⟨ys, n, rfl, hxe, hl, hyl, hf⟩ := DataW.trod_struct Tryz.underlying60 hx
  rw [Tryz.cellsDecl] at hl
  match cs, hl with
  | [v0, v1, v2, v3], _ =>
    match ys, hyl with
    | [y0, y1], _ =>
      have h0 : DataW.trod enc Tryz.prog w base spare held n 9 (([v0, v1, v2, v3].drop 0).take (Tryz.prog.cellsOf 9)) = some y0 := hf 0 _ rfl
      have h1 : DataW.trod enc Tryz.prog w base spare held n 39 (([v0, v1, v2, v3].drop 1).take (Tryz.prog.cellsOf 39)) = some y1 := hf 1 _ rfl
      simp only [Tryz.cellsStr, Tryz.cellsTerm, List.drop_zero, List.drop_succ_cons, List.take_succ_cons, List.take_zero] at h0 h1
      obtain ⟨s, e0, _⟩ := DataW.trod_string Tryz.underlying9 h0
      simp only [List.cons.injEq, and_true] at e0
      subst e0
      obtain ⟨t, u0, u1, u2, e, hr, hle, _⟩ := trod_term n _ _ h1
      simp only [List.cons.injEq, and_true] at e
      obtain ⟨rfl, rfl, rfl⟩ := e
      refine ⟨t, s, _, _, _, rfl, hr, ?_⟩
      have hd : x.1 = .agg [y0.1, y1.1] := congrArg Prod.fst hxe
      rw [hd]
      simp only [Rows.uptoBulk, Rows.uptoBulkAll]
      omega
theorem spot_ofQ {a : Addr} {i : Nat} {v v0 : Value} (c0 : w.cell? (a.add i) = some v) (c00 : w.cell? (a.add 0) = some v0) : a.spot = none := by
  have := cell_spot c0
  unfold Addr.add at this
  split at this
  · exact this
  · have := cell_spot c00
    simpa [Addr.add] using this
theorem bulk_mem {H : Type} : ∀ (ds : List (DataW H)) (i : Nat) (d : DataW H), ds[i]? = some d → Rows.uptoBulk d ≤ Rows.uptoBulkAll ds
  | [], i, d, h => by simp at h
  | e :: ds, 0, d, h => by
    simp at h
    subst h
    simp only [Rows.uptoBulkAll]
    omega
  | e :: ds, i + 1, d, h => by
    have := bulk_mem ds i d (by simpa using h)
    simp only [Rows.uptoBulkAll]
    omega
theorem open_decls {r : Reach} {b0 : Nat} {v : Value} {d : DataW H} {p : List MemPlace} (hv : Value.okWide Tryz.prog w r b0 22 v) (h : DataW.Trod enc Tryz.prog w base spare held 22 v d p) :
    ∃ (xs : List T) (A : Option Addr) (n c : Nat), v = .slice A n c ∧ DL w xs A n c ∧ ∀ x ∈ xs, nd x ≤ Rows.uptoBulk d := by
  obtain ⟨fuel, hf⟩ := h
  obtain ⟨a0, l0, c0, rfl⟩ := okWide_slice Tryz.underlying22 hv
  rcases DataW.trod_slice Tryz.underlying22 hf with ⟨e2, hy2⟩ | ⟨a, len, cap, elems, rest, m, rfl, e2, hy2, hb, hlc, hm, hel, hat, _, _⟩
  · simp only [Value.cells, List.cons.injEq, and_true] at e2
    exact ⟨[], none, 0, 0, e2, ⟨rfl, Nat.le_refl _, Nat.zero_le _, fun i t ht => by simp at ht⟩, fun x hx => by cases hx⟩
  · simp only [Value.cells, List.cons.injEq, and_true] at e2
    rw [e2]
    have first : ∀ i, i < len → ∃ y : T, ∃ s v1 v2 v3 dd, w.cell? (a.add (i * 4 + 0)) = some (.string s) ∧ w.cell? (a.add (i * 4 + 1)) = some v1 ∧ w.cell? (a.add (i * 4 + 2)) = some v2 ∧ w.cell? (a.add (i * 4 + 3)) = some v3 ∧ Rd w y (.agg #[v1, v2, v3]) ∧ (elems.map (·.1))[i]? = some dd ∧ nd y ≤ Rows.uptoBulk dd := by
      intro i hi
      have hi' := hat i hi
      rw [List.getElem?_eq_getElem (by omega), Option.bind_eq_some_iff] at hi'
      obtain ⟨cs', hcs, htr⟩ := hi'
      obtain ⟨y, s, u1, u2, u3, rfl, hr, hle⟩ := trod_decl htr
      rw [Tryz.cellsDecl] at hcs
      obtain ⟨_, _, hcell⟩ := World.cells?_some hcs
      have c0 := hcell 0 (by omega)
      have c1 := hcell 1 (by omega)
      have c2 := hcell 2 (by omega)
      have c3 := hcell 3 (by omega)
      simp only [List.getElem?_cons_zero, List.getElem?_cons_succ, add_add] at c0 c1 c2 c3
      exact ⟨y, s, u1, u2, u3, _, c0, c1, c2, c3, hr, by rw [List.getElem?_map, List.getElem?_eq_getElem (by omega)]; rfl, hle⟩
    have each : ∀ i, i < len → ∃ y : T, DAt w (some a) i y ∧ nd y ≤ Rows.uptoBulk d := by
      intro i hi
      obtain ⟨y, s, v1, v2, v3, dd, c0, c1, c2, c3, hr, hdd, hle⟩ := first i hi
      obtain ⟨y', _, _, _, _, _, c00, _⟩ := first 0 (by omega)
      have hs := spot_ofQ c0 (by simpa using c00)
      obtain ⟨b, o, sp⟩ := a
      dsimp only at hs
      subst hs
      rw [addr_add] at c0 c1 c2 c3
      obtain ⟨k, h, A, n, c, e⟩ := hr.full
      simp only [Value.agg.injEq, Array.mk.injEq, List.cons.injEq, and_true] at e
      obtain ⟨rfl, rfl, rfl⟩ := e
      refine ⟨y, ⟨b, o, s, k, h, A, n, c, rfl, c0, by rw [Nat.add_assoc]; exact c1, by rw [Nat.add_assoc]; exact c2, by rw [Nat.add_assoc]; exact c3, hr⟩, ?_⟩
      have h1 := bulk_mem _ _ _ hdd
      have hd : d = DataW.slice (elems.map (·.1)) (rest.map (·.1)) := congrArg Prod.fst hy2
      rw [hd]
      simp only [Rows.uptoBulk]
      omega
    obtain ⟨xs, hxl, hxs⟩ := list_of len each
    exact ⟨xs, some a, len, cap, rfl, ⟨hxl, hlc, hm, fun i y hy => (hxs i y hy).1⟩, fun x hx => by
      obtain ⟨i, hi⟩ := List.getElem?_of_mem hx
      exact (hxs i x hi).2⟩
end
end Go.Proofs.YtbbjjdnnlnabaaaGreat
namespace Go.Proofs.YtbbjjdnnlnabaaaGreat
open Go.ChangeShapes Go.WideShapes Go.ChangeAt Go.RowKit
set_option linter.unusedVariables false
set_option linter.unusedSimpArgs false
set_option maxRecDepth 100000
set_option maxHeartbeats 4000000
def fmB (x : List T × T) : Bool := lsB x.1 500 80 && ltB x.2 500 80
def fwV (W : WV) (cx : List T) (ns nm : Nat) : Bool := fwQ W.sg ns && (decide (nm ≤ 30) && (W.ms.all fmB && lsB cx 500 80))
theorem lo_lt {t : T} {s d : Int} (h : ltB t s d = true) (hm : myB t = true) : okT loV t := by
  have h4 := ((myB_iff t).1 hm).2.1
  rw [ltB, szW_small (by omega), dpW_eq t (by omega)] at h
  simp only [Bool.and_eq_true, decide_eq_true_eq] at h
  exact okT_of t ((myB_iff t).1 hm).1 h.1.1
theorem loV_of {W : WV} {cx : List T} {ns nm : Nat} (h : fwV W cx ns nm = true) : LoV W cx := by
  simp only [fwV, fwQ, fmB, lsB, Bool.and_eq_true, decide_eq_true_eq, List.all_eq_true] at h
  obtain ⟨⟨_, h1⟩, _, h3, _, h4⟩ := h
  exact ⟨fun t ht => lo_lt (h1 t ht), fun m hm => ⟨fun e he => lo_lt ((h3 m hm).1.2 e he), lo_lt (h3 m hm).2⟩, fun t ht => lo_lt (h4 t ht)⟩
theorem few_len {W : WV} {cx : List T} {ns nm : Nat} (h : fwV W cx ns nm = true) : ns ≤ 30 ∧ nm ≤ 30 ∧ cx.length ≤ 60 := by
  simp only [fwV, fwQ, fmB, lsB, Bool.and_eq_true, decide_eq_true_eq, List.all_eq_true] at h
  obtain ⟨⟨h1, _⟩, h2, _, h3, _⟩ := h
  exact ⟨h1, h2, h3⟩
theorem vFewC (W : WV) (cx : List T) (As Am Ac : Option Addr) (ns cs nm cm nc cc : Nat) (w : World) (hk : CkV w W cx As ns cs Am nm cm Ac nc cc) :
    Calls Tryz.prog 6 #[.slice As ns cs, .slice Am nm cm, .slice Ac nc cc] w fun e w' => e = .returned (.bool (fwV W cx ns nm)) ∧ Below w.heap.size w w' := by
  have hmcap := hk.ms.cap
  have hmle := hk.ms.le
  unfold maxLen at hmcap
  have HFW := Lib.hid (fewC W.sg As ns cs w hk.sg)
  have HLC := Lib.hid (fun W' (h' : Below w.heap.size w W') => lightsC cx Ac nc cc 500 80 W' (hk.cx.keep h').len (hk.cx.keep h').le (hk.cx.keep h').cap (hk.cx.keep h').at_)
  have HM := Lib.hid hk.ms
  clear hk
  have hR : fwV W cx ns nm = (fwQ W.sg ns && (decide (nm ≤ 30) && (W.ms.all fmB && lsB cx 500 80))) := rfl
  obtain ⟨R, hRR⟩ : ∃ R, fwV W cx ns nm = R := ⟨_, rfl⟩
  rw [hRR] at hR ⊢
  have HR := Lib.hid hR
  clear hR hRR
  generalize fwQ W.sg ns = r1 at *
  generalize lsB cx 500 80 = r3 at *
  go_enter Tryz.func6, Tryz.ntmps6
  go_wp2_with fail
  refine HFW.out.mono ?_
  rintro e w1 ⟨rfl, hb1⟩
  have HB1 := Lib.hid hb1
  clear hb1 HFW
  cases r1
  · go_wp2_with fail
    go_ret
    exact ⟨ret_bool (by rw [HR.out]; rfl), HB1.out⟩
  by_cases hgt : 30 < nm
  · have d1 : decide ((30 : Int) < (nm : Int)) = true := by simp; omega
    have HR1 := Lib.hid (show false = R by rw [HR.out, decide_eq_false (by omega)]; rfl)
    go_wp2_with fail
    go_ret
    exact ⟨ret_bool HR1.out, HB1.out⟩
  have d1 : decide ((30 : Int) < (nm : Int)) = false := by simp; omega
  have HR1 := Lib.hid (show R = (W.ms.all fmB && r3) by rw [HR.out, decide_eq_true (by omega), Bool.true_and, Bool.true_and])
  clear HR
  go_wp2_with fail
  go_loopw [8] (fun i wr => ∃ (j : Nat), j ≤ nm ∧ i = .int .i64 j ∧ Hid ((W.ms.drop j).all fmB = W.ms.all fmB) ∧ Hid (Below w.heap.size w wr)) (fun i _ => nm - (Go.RowKit.intOf i).toNat)
  case atStart => exact ⟨0, Nat.zero_le _, rfl, Lib.hid (by simp), HB1⟩
  case round =>
    clear HB1
    obtain ⟨i, hi, rfl, HJ, HB1⟩ := hrel
    by_cases hlt : i < nm
    · obtain ⟨x, hx⟩ := at_of HM.out.len hlt
      obtain ⟨b1, o1, A0, n0, c0, k1, h1, A1, n1, c1, pb, rfl, e0, e1, e2, e3, e4, hl1, hr1⟩ := (HM.out.at_ i x hx).keep HB1.out
      have HJ' := HJ.out
      rw [drop_at hx, List.all_cons] at HJ'
      have HJ1 := Lib.hid HJ'; clear HJ' hx HJ
      have HLS := Lib.hid (lightsC x.1 A0 n0 c0 500 80 wr hl1.len hl1.le hl1.cap hl1.at_)
      have HLT := Lib.hid (fun W' (h' : Below wr.heap.size wr W') => refLight x.2 500 80 _ W' (Rd.keep h' _ _ hr1))
      have hi0 : (0 : Int) ≤ i := by omega
      have hi1 : (i : Int) < nm := by omega
      have HMM := Lib.hid (show fmB x = (lsB x.1 500 80 && ltB x.2 500 80) from rfl)
      replace e1 : wr.cell? ⟨b1, o1 + i * 5 + 1, none⟩ = some (.int .i64 k1) := e1
      replace e2 : wr.cell? ⟨b1, o1 + i * 5 + 1 + 1, none⟩ = some (.int .i64 h1) := e2
      replace e3 : wr.cell? ⟨b1, o1 + i * 5 + 1 + 2, none⟩ = some (.slice A1 n1 c1) := e3
      clear hr1 hl1
      generalize fmB x = r at *
      generalize lsB x.1 500 80 = q1 at *
      generalize ltB x.2 500 80 = q2 at *
      go_wp2_with fail
      refine HLS.out.mono ?_
      rintro e w3 ⟨rfl, hb3⟩
      have HB3 := Lib.hid (HB1.out.trans (hb3.mono HB1.out.size))
      have HLT3 := Lib.hid (HLT.out w3 hb3)
      replace e1 := (hb3.cell (cell_lt e1)).trans e1
      replace e2 := (hb3.cell (cell_lt e2)).trans e2
      replace e3 := (hb3.cell (cell_lt e3)).trans e3
      clear hb3 HB1 HLS HLT e0 e4
      go_wp2_with fail
      refine HLT3.out.mono ?_
      rintro e w4 ⟨rfl, hb4⟩
      have HB4 := Lib.hid (HB3.out.trans (hb4.mono HB3.out.size))
      clear hb4 HB3 HLT3 e1 e2 e3
      cases q1
      · go_wp2_with fail
        go_ret
        exact ⟨ret_bool (by rw [HR1.out, ← HJ1.out, HMM.out]; rfl), HB4.out⟩
      · cases q2
        · go_wp2_with fail
          go_ret
          exact ⟨ret_bool (by rw [HR1.out, ← HJ1.out, HMM.out]; rfl), HB4.out⟩
        · go_wp2_with fail
          go_roundw
          case rel => exact ⟨i + 1, by omega, by go_num, Lib.hid (by have := HJ1.out; rw [HMM.out] at this; simpa using this), HB4⟩
          case measure => simp [Go.RowKit.intOf]; omega
    · have e := HJ.out
      rw [drop_all HM.out.len (by omega)] at e
      have HR5 := Lib.hid (show r3 = R by rw [HR1.out, ← e]; rfl)
      have HLC1 := Lib.hid (HLC.out _ HB1.out)
      clear e HJ HR1
      go_wp2_with fail
      refine HLC1.out.mono ?_
      rintro e w3 ⟨rfl, hb3⟩
      have HB3 := Lib.hid (HB1.out.trans (hb3.mono HB1.out.size))
      clear hb3 HLC1
      go_wp2_with fail
      go_ret
      exact ⟨ret_bool HR5.out, HB3.out⟩
def natT : T := .node 2 0 []
def natS : List T := [.node 0 0 [], natT, .node 1 0 [natT, natT]]
def natW : WV := ⟨natS, []⟩
theorem wf_ofV {x : Int} (h0 : 0 ≤ x) (h1 : x ≤ 1099511627776) : (Lit.int .i64 x).wf = true := by
  have := wf_wrap64 x
  rwa [wrap_small (by omega) (by omega)] at this
theorem wfV {x : Int} (h : 0 ≤ x) (h' : x ≤ 1000) : (Lit.int .i64 x).wf = true := wf_ofV h (by omega)
theorem nat_low : LoV natW [] := ⟨fun t ht _ => by
    simp only [natW, natS, natT, List.mem_cons, List.not_mem_nil, or_false] at ht
    rcases ht with rfl | rfl | rfl <;> simp [okT, okL], fun m hm => by simp [natW] at hm, fun t ht => by simp at ht⟩
theorem vNatC (w : World) : Calls Tryz.prog 18 #[] w fun e w' => ∃ q, e = .returned (.slice (some ⟨q, 0, none⟩) 3 3) ∧ DL w' natS (some ⟨q, 0, none⟩) 3 3 ∧ Below w.heap.size w w' := by
  obtain ⟨W1, hW1⟩ : ∃ W1, w.alloc (.cells #[.int .i64 2, .int .i64 0, .slice none 0 0] 39) = W1 := ⟨_, rfl⟩
  have hb1 : Below w.heap.size w W1 := by rw [← hW1]; exact (Below.refl _ _).alloc (Nat.le_refl _) _
  have x1 : Box W1 w.heap.size 39 #[.int .i64 2, .int .i64 0, .slice none 0 0] := by rw [← hW1]; exact Box.new _ _ _
  have l1 : W1.heap.size = w.heap.size + 1 := by rw [← hW1]; simp
  obtain ⟨W2, hW2⟩ : ∃ W2, W1.alloc (.cells #[.int .i64 2, .int .i64 0, .slice none 0 0, .int .i64 2, .int .i64 0, .slice none 0 0] 39) = W2 := ⟨_, rfl⟩
  have hb2 : Below W1.heap.size W1 W2 := by rw [← hW2]; exact (Below.refl _ _).alloc (Nat.le_refl _) _
  have x2 : Box W2 (w.heap.size + 1) 39 #[.int .i64 2, .int .i64 0, .slice none 0 0, .int .i64 2, .int .i64 0, .slice none 0 0] := by rw [← hW2]; exact (Box.new _ _ _).at l1
  have l2 : W2.heap.size = w.heap.size + 1 + 1 := by rw [← hW2]; simp [l1]
  obtain ⟨W3, hW3⟩ : ∃ W3, W2.alloc (.cells #[.string { data := #[110, 97, 116] }, .int .i64 0, .int .i64 0, .slice none 0 0, .string { data := #[122] }, .int .i64 2, .int .i64 0, .slice none 0 0, .string { data := #[115] }, .int .i64 1, .int .i64 0, .slice (some ⟨w.heap.size + 1, 0, none⟩) 2 2] 60) = W3 := ⟨_, rfl⟩
  have hb3 : Below W2.heap.size W2 W3 := by rw [← hW3]; exact (Below.refl _ _).alloc (Nat.le_refl _) _
  have x3 : Box W3 (w.heap.size + 1 + 1) 60 #[.string { data := #[110, 97, 116] }, .int .i64 0, .int .i64 0, .slice none 0 0, .string { data := #[122] }, .int .i64 2, .int .i64 0, .slice none 0 0, .string { data := #[115] }, .int .i64 1, .int .i64 0, .slice (some ⟨w.heap.size + 1, 0, none⟩) 2 2] := by rw [← hW3]; exact (Box.new _ _ _).at l2
  have y2 := x2.keep hb3 x2.lt
  have hbw := hb1.trans ((hb2.trans (hb3.mono hb2.size)).mono hb1.size)
  have leaf : ∀ W' : World, Rd W' natT (.agg #[.int .i64 2, .int .i64 0, .slice none 0 0]) := fun W' => rd_leaf (wfV (by omega) (by omega)) (wfV (by omega) (by omega))
  have hdl : DL W3 natS (some ⟨w.heap.size + 1 + 1, 0, none⟩) 3 3 := ⟨rfl, Nat.le_refl _, by unfold maxLen; omega, fun i x hx => by
    match i, hx with
    | 0, hx =>
      cases hx
      exact ⟨w.heap.size + 1 + 1, 0, _, _, _, _, _, _, rfl, x3.cell 0, x3.cell 1, x3.cell 2, x3.cell 3, rd_leaf (wfV (by omega) (by omega)) (wfV (by omega) (by omega))⟩
    | 1, hx =>
      cases hx
      exact ⟨w.heap.size + 1 + 1, 0, _, _, _, _, _, _, rfl, x3.cell 4, x3.cell 5, x3.cell 6, x3.cell 7, leaf _⟩
    | 2, hx =>
      cases hx
      exact ⟨w.heap.size + 1 + 1, 0, _, _, _, _, _, _, rfl, x3.cell 8, x3.cell 9, x3.cell 10, x3.cell 11, Rd_node.2 ⟨_, _, _, rfl, wfV (by omega) (by omega), wfV (by omega) (by omega), rfl, Nat.le_refl _, by unfold maxLen; omega, rd_two y2 (leaf _) (leaf _)⟩⟩
    | i + 3, hx => simp [natS] at hx⟩
  have HD := Lib.hid hdl
  have HB := Lib.hid hbw
  obtain ⟨c0, c1, c2⟩ := x1.three
  have g1 := x1.frozen 1
  have g2 := x1.frozen 2
  clear hdl hbw leaf x1 x2 x3 y2 hb1 hb2 hb3 l1
  subst hW1
  go_enter Tryz.func18, Tryz.ntmps18
  go_wp2_with fail
  clear hW2 hW3
  go_ret
  exact ⟨_, rfl, HD.out, HB.out⟩
theorem low_leafY {k : Int} (hk : k ≠ 4) : okT loV (.node k 0 []) := by rw [okT, okL]; exact ⟨fun e => absurd e hk, trivial⟩
theorem nat_lw : LwV natS := nat_low.sg
def KTv (W0 : World) (cs : List Value) (xs : List T) : Prop :=
  ∀ i x, xs[i]? = some x → ∃ k g A0 n0 c0, cs[i * 3]? = some (.int .i64 k) ∧ cs[i * 3 + 1]? = some (.int .i64 g) ∧ cs[i * 3 + 2]? = some (.slice A0 n0 c0) ∧ Rd W0 x (.agg #[.int .i64 k, .int .i64 g, .slice A0 n0 c0])
theorem KTv.app {W0 : World} {cs1 cs2 : List Value} {xs1 xs2 : List T} (h1 : KTv W0 cs1 xs1) (h2 : KTv W0 cs2 xs2) (hlen : cs1.length = xs1.length * 3) : KTv W0 (cs1 ++ cs2) (xs1 ++ xs2) := fun i x hx => by
  by_cases hi : i < xs1.length
  · rw [List.getElem?_append_left hi] at hx
    obtain ⟨k, g, A0, n0, c0, e1, e2, e3, hr⟩ := h1 i x hx
    have up : ∀ j u, cs1[j]? = some u → (cs1 ++ cs2)[j]? = some u := fun j u hj => by
      rw [List.getElem?_append_left (List.getElem?_eq_some_iff.1 hj).1]; exact hj
    exact ⟨k, g, A0, n0, c0, up _ _ e1, up _ _ e2, up _ _ e3, hr⟩
  · rw [List.getElem?_append_right (by omega)] at hx
    obtain ⟨k, g, A0, n0, c0, e1, e2, e3, hr⟩ := h2 _ x hx
    have up : ∀ q u, cs2[(i - xs1.length) * 3 + q]? = some u → (cs1 ++ cs2)[i * 3 + q]? = some u := fun q u hj => by
      rw [List.getElem?_append_right (by omega), hlen, show i * 3 + q - xs1.length * 3 = (i - xs1.length) * 3 + q by omega]; exact hj
    exact ⟨k, g, A0, n0, c0, up 0 _ e1, up 1 _ e2, up 2 _ e3, hr⟩
theorem CLV.rawV {w : World} {xs : List T} {A : Option Addr} {n c : Nat} (h : CLV w xs A n c) : ∃ cs : List Value, cs.length = n * 3 ∧ (∀ j u, cs[j]? = some u → ∃ b o, A = some ⟨b, o, none⟩ ∧ w.cell? ⟨b, o + j, none⟩ = some u) ∧ (∀ u ∈ cs, u.oneCell' = true) ∧ KTv w cs xs := by
  have key : ∀ m, m ≤ n → ∃ cs : List Value, cs.length = m * 3 ∧ (∀ j u, cs[j]? = some u → ∃ b o, A = some ⟨b, o, none⟩ ∧ w.cell? ⟨b, o + j, none⟩ = some u) ∧ (∀ u ∈ cs, u.oneCell' = true) ∧ KTv w cs (xs.take m) := by
    intro m
    induction m with
    | zero => intro _; exact ⟨[], rfl, fun j u hu => by simp at hu, fun u hu => absurd hu (by simp), fun i x hx => by simp at hx⟩
    | succ m ih =>
      intro hm
      obtain ⟨cs, h1, h2, h3, h4⟩ := ih (by omega)
      obtain ⟨x, hx⟩ := at_of h.len (show m < n by omega)
      obtain ⟨b, o, k, g, A', n', c', rfl, d0, d1, d2, hr⟩ := (h.at_ m x hx).full
      have happ : ∀ q u, [Value.int .i64 k, .int .i64 g, .slice A' n' c'][q]? = some u → w.cell? ⟨b, o + (m * 3 + q), none⟩ = some u := fun q u hu => by
        match q, hu with
        | 0, hu => cases hu; exact d0
        | 1, hu => cases hu; exact d1
        | 2, hu => cases hu; exact d2
        | q + 3, hu => simp at hu
      have hs : KTv w [Value.int .i64 k, .int .i64 g, .slice A' n' c'] [x] := fun i y hy => by
        match i, hy with
        | 0, hy => cases hy; exact ⟨k, g, A', n', c', rfl, rfl, rfl, hr⟩
        | i + 1, hy => simp at hy
      refine ⟨cs ++ [.int .i64 k, .int .i64 g, .slice A' n' c'], by rw [List.length_append, h1]; simp; omega, fun j u hu => ?_, fun u hu => ?_, ?_⟩
      · by_cases hj : j < cs.length
        · rw [List.getElem?_append_left hj] at hu
          exact h2 j u hu
        · rw [List.getElem?_append_right (by omega)] at hu
          have := happ _ _ hu
          rw [show m * 3 + (j - cs.length) = j by omega] at this
          exact ⟨b, o, rfl, this⟩
      · rcases List.mem_append.1 hu with hu | hu
        · exact h3 u hu
        · simp at hu
          rcases hu with rfl | rfl | rfl <;> rfl
      · rw [List.take_add_one, hx]
        exact h4.app hs (by rw [h1, List.length_take, h.len]; omega)
  obtain ⟨cs, h1, h2, h3, h4⟩ := key n (Nat.le_refl _)
  rw [List.take_of_length_le (by rw [h.len]; omega)] at h4
  exact ⟨cs, h1, h2, h3, h4⟩
structure RowTv (W0 w : World) (A : Option Addr) (n c : Nat) (xs : List T) (cs : List Value) : Prop where
  own : w.ownsRow W0.heap.size 39 3 (.slice A n c) n cs
  len : xs.length = n
  kids : KTv W0 cs xs
theorem RowTv.none (W0 w : World) : RowTv W0 w none 0 0 [] [] := ⟨World.ownsRow_nil _ _ _ _, rfl, fun i x hx => by simp at hx⟩
theorem RowTv.cap {W0 w : World} {A : Option Addr} {n c : Nat} {xs : List T} {cs : List Value} (h : RowTv W0 w A n c xs cs) : n ≤ c ∧ c ≤ maxLen := by
  rcases h.own.2 with ⟨e, h0⟩ | ⟨g', cap', cur, hv, _, _, h1, h2, _⟩
  · cases e; exact ⟨Nat.le_refl _, Nat.zero_le _⟩
  · cases hv; exact ⟨h1, h2⟩
theorem RowTv.lst {W0 w : World} {A : Option Addr} {n c : Nat} {xs : List T} {cs : List Value} (h : RowTv W0 w A n c xs cs) (hb : Below W0.heap.size W0 w) : CLV w xs A n c := by
  refine ⟨h.len, h.cap.1, h.cap.2, fun i x hx => ?_⟩
  have hi : i < n := by have := (List.getElem?_eq_some_iff.1 hx).1; rw [h.len] at this; exact this
  obtain ⟨k, g, A0, n0, c0, e1, e2, e3, hr⟩ := h.kids i x hx
  obtain ⟨q, hq⟩ : ∃ q, A = some ⟨q, 0, Option.none⟩ := by
    rcases h.own.2 with ⟨e, h0⟩ | ⟨g', cap', cur, hv, _⟩
    · omega
    · cases hv; exact ⟨_, rfl⟩
  subst hq
  have get : ∀ j u, cs[j]? = some u → w.cell? ⟨q, 0 + j, Option.none⟩ = some u := fun j u hj => by
    have := h.own.cells (g := q) rfl j u hj
    rwa [addr_add] at this
  exact ⟨q, 0, _, _, _, rfl, get _ _ e1, (by rw [Nat.add_assoc]; exact get _ _ e2), (by rw [Nat.add_assoc]; exact get _ _ e3), Rd.keep hb _ _ hr⟩
theorem RowTv.kept {W0 w w' : World} {A : Option Addr} {n c : Nat} {xs : List T} {cs : List Value} (h : RowTv W0 w A n c xs cs) (hb : Below w.heap.size w w') : RowTv W0 w' A n c xs cs :=
  ⟨h.own.kept (grown_of_below hb) (own_none _), h.len, h.kids⟩
theorem rowT_raw {W0 W : World} {A1 : Option Addr} {n1 c1 : Nat} {xs1 : List T} {cs1 : List Value} (h1 : RowTv W0 W A1 n1 c1 xs1 cs1) {b o n2 c2 : Nat} {xs2 : List T} {cs2 : List Value} (hl : xs2.length = n2) (g1 : cs2.length = n2 * 3)
    (g2 : ∀ j u, cs2[j]? = some u → W.cell? ⟨b, o + j, none⟩ = some u) (g3 : ∀ u ∈ cs2, u.oneCell' = true) (g4 : KTv W0 cs2 xs2) (hp : 0 < n2) (hn : n1 + n2 ≤ 100000) (hb : Below W0.heap.size W0 W) :
    ∃ g c w' cs, (Builtin.append_ #[24, 24] 24 #[.slice A1 n1 c1, .slice (some ⟨b, o, none⟩) n2 c2]).run Tryz.prog W = .ok (.slice (some ⟨g, 0, none⟩) (n1 + n2) c) w' ∧ RowTv W0 w' (some ⟨g, 0, none⟩) (n1 + n2) c (xs1 ++ xs2) cs ∧ Below W0.heap.size W0 w' ∧ W.grownBy w' (Value.slice A1 n1 c1).ownBlock ∧ ((Value.slice A1 n1 c1).ownBlock = some g ∨ g = W.heap.size) := by
  obtain ⟨i0, hi, hz0, hz1, hz2⟩ := info_parts infoTerm
  obtain ⟨g, cap, w', hrun, how, hgr, hfr, _⟩ := run_append_lies (P := Tryz.prog) W 24 24 W0.heap.size 39 i0 _ 3 40 Tryz.underlying24 hi hz0 hz1 hz2 rfl (by omega) (.slice A1 n1 c1) n1 cs1
    h1.own ⟨b, o, none⟩ n2 c2 cs2 g1 (fun j u hu => by rw [addr_add]; exact g2 j u hu) g3 hp (by unfold maxLen; omega) (by omega) hb.size _ rfl
  have hbw : Below W0.heap.size W0 w' := below_grown hb hgr (fun r hr' => (h1.own.lt r hr').1) hb.size
  exact ⟨g, cap, w', _, hrun, ⟨how, by rw [List.length_append, h1.len, hl], h1.kids.app g4 (by rw [h1.own.1, h1.len])⟩, hbw, hgr, hfr⟩
theorem rowT_app {W0 W : World} {A1 : Option Addr} {n1 c1 : Nat} {xs1 : List T} {cs1 : List Value} (h1 : RowTv W0 W A1 n1 c1 xs1 cs1) {A2 : Option Addr} {n2 c2 : Nat} {xs2 : List T} (h2 : CLV W0 xs2 A2 n2 c2) (hn : n1 + n2 ≤ 100000) (hb : Below W0.heap.size W0 W) :
    ∃ A c w' cs, (Builtin.append_ #[24, 24] 24 #[.slice A1 n1 c1, .slice A2 n2 c2]).run Tryz.prog W = .ok (.slice A (n1 + n2) c) w' ∧ RowTv W0 w' A (n1 + n2) c (xs1 ++ xs2) cs ∧ Below W0.heap.size W0 w' := by
  rcases Nat.eq_zero_or_pos n2 with rfl | hp
  · obtain ⟨i0, hi, hz0, hz1, hz2⟩ := info_parts infoTerm
    have hds : xs2 = [] := List.length_eq_zero_iff.1 h2.len
    subst hds
    have hle := h1.cap.1
    refine ⟨A1, c1, W, cs1, ?_, by rw [List.append_nil]; exact h1, hb⟩
    cases A1 <;> cases A2 <;> simp [Builtin.append_, run_underlying Tryz.underlying24, sizeOf, typeInfo, hi, Builtin.lenOf, Builtin.firstCells, loadCells, loadCellsFrom, hle, storeCells]
  · obtain ⟨cs2, g1, g2, g3, g4⟩ := h2.rawV
    obtain ⟨x, hx⟩ := at_of h2.len hp
    obtain ⟨b, o, _, _, _, e, _⟩ := h2.at_ 0 x hx
    subst e
    obtain ⟨g, c, w', cs, hrun, hr, hbw, _, _⟩ := rowT_raw (c2 := c2) h1 h2.len g1 (fun j u hu => by
      obtain ⟨b', o', e, hc⟩ := g2 j u hu
      cases e
      exact (hb.cell (cell_lt hc)).trans hc) g3 g4 hp hn hb
    exact ⟨_, c, w', cs, hrun, hr, hbw⟩
theorem rowT_one {W0 W : World} {A1 : Option Addr} {n1 c1 : Nat} {xs1 : List T} {cs1 : List Value} (h1 : RowTv W0 W A1 n1 c1 xs1 cs1) {P : Nat} {ty : TypeId} {k g : Int} {A2 : Option Addr} {n2 c2 : Nat} {x : T} (hP : Box W P ty #[.int .i64 k, .int .i64 g, .slice A2 n2 c2]) (hx : Rd W0 x (.agg #[.int .i64 k, .int .i64 g, .slice A2 n2 c2]))
    (hn : n1 + 1 ≤ 100000) (hb : Below W0.heap.size W0 W) :
    ∃ q c w' cs, (Builtin.append_ #[24, 24] 24 #[.slice A1 n1 c1, .slice (some ⟨P, 0, none⟩) 1 1]).run Tryz.prog W = .ok (.slice (some ⟨q, 0, none⟩) (n1 + 1) c) w' ∧ RowTv W0 w' (some ⟨q, 0, none⟩) (n1 + 1) c (xs1 ++ [x]) cs ∧ Below W0.heap.size W0 w' ∧ W.grownBy w' (Value.slice A1 n1 c1).ownBlock ∧ ((Value.slice A1 n1 c1).ownBlock = some q ∨ q = W.heap.size) :=
  rowT_raw (b := P) (o := 0) (n2 := 1) (c2 := 1) (xs2 := [x]) (cs2 := [.int .i64 k, .int .i64 g, .slice A2 n2 c2]) h1 rfl rfl (fun j u hu => by
    rw [Nat.zero_add]
    match j, hu with
    | 0, hu => cases hu; exact hP.cell 0
    | 1, hu => cases hu; exact hP.cell 1
    | 2, hu => cases hu; exact hP.cell 2
    | j + 3, hu => simp at hu) (fun u hu => by
    simp at hu
    rcases hu with rfl | rfl | rfl <;> rfl) (fun i y hy => by
    match i, hy with
    | 0, hy => cases hy; exact ⟨k, g, A2, n2, c2, rfl, rfl, rfl, hx⟩
    | i + 1, hy => simp at hy) (by omega) hn hb
theorem rowT_new {W0 W : World} {A2 : Option Addr} {n2 c2 : Nat} {xs2 : List T} (h2 : CLV W0 xs2 A2 n2 c2) (hn : n2 ≤ 100000) (hb : Below W0.heap.size W0 W) :
    ∃ A c w' cs, (Builtin.append_ #[24, 24] 24 #[.slice none 0 0, .slice A2 n2 c2]).run Tryz.prog W = .ok (.slice A n2 c) w' ∧ RowTv W0 w' A n2 c xs2 cs ∧ Below W.heap.size W w' := by
  rcases Nat.eq_zero_or_pos n2 with rfl | hp
  · obtain ⟨i0, hi, hz0, hz1, hz2⟩ := info_parts infoTerm
    have hds : xs2 = [] := List.length_eq_zero_iff.1 h2.len
    subst hds
    refine ⟨none, 0, W, [], ?_, RowTv.none _ _, Below.refl _ _⟩
    cases A2 <;> simp [Builtin.append_, run_underlying Tryz.underlying24, sizeOf, typeInfo, hi, Builtin.lenOf, Builtin.firstCells, loadCells, loadCellsFrom]
  · obtain ⟨cs2, g1, g2, g3, g4⟩ := h2.rawV
    obtain ⟨x, hx⟩ := at_of h2.len hp
    obtain ⟨b, o, _, _, _, e, _⟩ := h2.at_ 0 x hx
    subst e
    obtain ⟨g, c, w', cs, hrun, hr, _, hg, _⟩ := rowT_raw (c2 := c2) (RowTv.none W0 W) h2.len g1 (fun j u hu => by
      obtain ⟨b', o', e, hc⟩ := g2 j u hu
      cases e
      exact (hb.cell (cell_lt hc)).trans hc) g3 g4 hp (by omega) hb
    rw [Nat.zero_add] at hrun hr
    rw [List.nil_append] at hr
    exact ⟨_, c, w', cs, hrun, hr, below_grown (Below.refl _ _) hg (fun r h => by cases h) (Nat.le_refl _)⟩
end Go.Proofs.YtbbjjdnnlnabaaaGreat
