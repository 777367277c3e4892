/- Texts of one proof, put together. No statement is proved here. -/
import Derived.Test.YtbbjjdnnlnabaaaGreatPkVn
import Derived.Test.YtbbjjdnnlnabaaaGreatPkWd
import Derived.Test.YtbbjjdnnlnabaaaGreatZt
namespace Go.Proofs.YtbbjjdnnlnabaaaGreat
open Go.ChangeShapes Go.WideShapes Go.ChangeAt Go.RowKit
set_option linter.unusedVariables false
set_option linter.unusedSimpArgs false
set_option maxRecDepth 100000
set_option maxHeartbeats 4000000
def fiV (g : List T → T → Int) : List T → List T → Nat × Int
  | _, [] => (0, 0)
  | dn, x :: xs => if g dn x = 0 then fiV g (dn ++ [x]) xs else (dn.length, g dn x)
def firV (g : List T → T → Int) (l : List T) : Nat × Int := if 40 < l.length then (0, 4) else fiV g [] l
def cxW (W : WV) (ar ah : List T) (a : T) : Int := ckTy W (ar ++ ah) a
theorem take_snoc {α : Type} {l : List α} {j : Nat} {x : α} (h : l[j]? = some x) : l.take (j + 1) = l.take j ++ [x] := by rw [List.take_add_one, h]; rfl
theorem fi_go {g : List T → T → Int} {l : List T} {j : Nat} {x : T} (h : l[j]? = some x) (h0 : g (l.take j) x = 0) : fiV g (l.take j) (l.drop j) = fiV g (l.take (j + 1)) (l.drop (j + 1)) := by
  rw [drop_at h, fiV, if_pos h0, take_snoc h]
theorem fi_e {g : List T → T → Int} {l : List T} {j : Nat} {x : T} {e : Int} (h : l[j]? = some x) (h0 : g (l.take j) x = e) (he : e ≠ 0) : fiV g (l.take j) (l.drop j) = (j, e) := by
  have hl := (List.getElem?_eq_some_iff.1 h).1
  rw [drop_at h, fiV, if_neg (by rw [h0]; exact he), h0, List.length_take, Nat.min_eq_left (by omega)]
theorem DL.take {w : World} {ds : List T} {A : Option Addr} {n c i : Nat} (h : DL w ds A n c) (hi : i ≤ n) : DL w (ds.take i) A i c :=
  ⟨by rw [List.length_take, h.len]; omega, by have := h.le; omega, h.cap, fun j x hx => h.at_ j x (by
    by_cases hj : j < i
    · rwa [List.getElem?_take_of_lt hj] at hx
    · rw [List.getElem?_eq_none (by rw [List.length_take]; omega)] at hx; cases hx)⟩
theorem CLV.take {w : World} {ds : List T} {A : Option Addr} {n c i : Nat} (h : CLV w ds A n c) (hi : i ≤ n) : CLV w (ds.take i) A i c :=
  ⟨by rw [List.length_take, h.len]; omega, by have := h.le; omega, h.cap, fun j x hx => h.at_ j x (by
    by_cases hj : j < i
    · rwa [List.getElem?_take_of_lt hj] at hx
    · rw [List.getElem?_eq_none (by rw [List.length_take]; omega)] at hx; cases hx)⟩
def FiE (r : Nat × Int) (w : World) (e : Ending) (w' : World) : Prop := e = .returned (.tuple #[.int .i64 (r.1 : Int), .int .i64 r.2]) ∧ Below w.heap.size w w'
theorem FiE.of {r : Nat × Int} {w w' : World} {i : Nat} {e : Int} (h : r = (i, e)) (hb : Below w.heap.size w w') : FiE r w (.returned (.tuple #[.int .i64 (i : Int), .int .i64 e])) w' := by subst h; exact ⟨rfl, hb⟩
theorem FiE.of0 {r : Nat × Int} {w w' : World} {e : Int} (h : r = (0, e)) (hb : Below w.heap.size w w') : FiE r w (.returned (.tuple #[.int .i64 0, .int .i64 e])) w' := by subst h; exact ⟨rfl, hb⟩
theorem yFirstC (g : List T → T → Int) (ds : List T) (A : Option Addr) (n c : Nat) (p1 : Value) (p2 : Value) (p3 : Value) (w : World) (hx : CLV w ds A n c)
    (HF : ∀ (i : Nat) (x : T) (k h : Int) (A2 : Option Addr) (n2 c2 : Nat) (W : World), ds[i]? = some x → Below w.heap.size w W → Rd W x (.agg #[.int .i64 k, .int .i64 h, .slice A2 n2 c2]) → CLV W (ds.take i) A i c → Calls Tryz.prog 45 #[.slice A i c, .agg #[.int .i64 k, .int .i64 h, .slice A2 n2 c2], p1, p2, p3] W fun e w' => e = .returned (.int .i64 (g (ds.take i) x)) ∧ Below W.heap.size W w') :
    Calls Tryz.prog 44 #[.slice A n c, .func (.func 45) #[] #[p1, p2, p3]] w (FiE (firV g ds) w) := by
  have hm := hx.cap
  have hc := hx.le
  unfold maxLen at hm
  have HX := Lib.hid hx; clear hx
  replace HF := Lib.hid HF
  by_cases hbig : 40 < n
  · have d1 : decide ((40 : Int) < (n : Int)) = true := by simp; omega
    have HE := Lib.hid (show firV g ds = (0, 4) by unfold firV; rw [if_pos (by rw [HX.out.len]; omega)])
    go_enter Tryz.func44, Tryz.ntmps44
    go_wp2_with fail
    refine bodyPost_ret (v := .tuple #[.int .i64 0, .int .i64 4]) (by simp [results, Tryz.results44, go_sem]) rfl ?_
    exact FiE.of0 HE.out (Below.refl _ _)
  have d1 : decide ((40 : Int) < (n : Int)) = false := by simp; omega
  have HE := Lib.hid (show firV g ds = fiV g [] ds by unfold firV; rw [if_neg (by rw [HX.out.len]; omega)])
  go_enter Tryz.func44, Tryz.ntmps44
  go_wp2_with fail
  go_loopw [14] (fun i wr => ∃ (j : Nat), j ≤ n ∧ i = .int .i64 j ∧ Hid (fiV g (ds.take j) (ds.drop j) = fiV g [] ds) ∧ Hid (Below w.heap.size w wr)) (fun i _ => n - (Go.RowKit.intOf i).toNat)
  case atStart => exact ⟨0, Nat.zero_le _, rfl, Lib.hid (by simp), Lib.hid (Below.refl _ _)⟩
  case round =>
    obtain ⟨j, hj, rfl, HS, HB⟩ := hrel
    by_cases hlt : j < n
    · obtain ⟨x, ht⟩ := at_of HX.out.len hlt
      obtain ⟨b, o, k2, h2, A2, n2, c2', rfl, c0, c1, c2, hr⟩ := (RdAt.keep HB.out (HX.out.at_ j x ht)).full
      have hi0 : (0 : Int) ≤ j := by omega
      have hi1 : (j : Int) < n := by omega
      have hi2 : (j : Int) ≤ c := by omega
      obtain ⟨W1, hW1⟩ : ∃ W1, wr.alloc (.cells #[.int .i64 k2, .int .i64 h2, .slice A2 n2 c2'] 39) = W1 := ⟨_, rfl⟩
      have hbA : Below wr.heap.size wr W1 := by rw [← hW1]; exact (Below.refl _ _).alloc (Nat.le_refl _) _
      have z5 : Box W1 wr.heap.size 39 #[.int .i64 k2, .int .i64 h2, .slice A2 n2 c2'] := by rw [← hW1]; exact Box.new _ _ _
      have hbw := HB.out.trans (hbA.mono HB.out.size)
      obtain ⟨e1, he1⟩ : ∃ e, g (ds.take j) x = e := ⟨_, rfl⟩
      have HC := fun (W' : World) (h' : Below W1.heap.size W1 W') => HF.out j x k2 h2 A2 n2 c2' W' ht (hbw.trans (h'.mono hbw.size)) (Rd.keep (hbA.trans (h'.mono hbA.size)) _ _ hr) ((HX.out.take (by omega)).keep (hbw.trans (h'.mono hbw.size)))
      rw [he1] at HC
      replace HC := Lib.hid HC
      have HE1 := Lib.hid he1; clear he1
      have HT := Lib.hid ht; clear ht
      have HBW := Lib.hid hbw; clear hbw
      have a0 : W1.cell? ⟨wr.heap.size, 0, none⟩ = some (.int .i64 k2) := z5.cell 0
      have a1 : W1.cell? ⟨wr.heap.size, 1, none⟩ = some (.int .i64 h2) := z5.cell 1
      have a2 : W1.cell? ⟨wr.heap.size, 2, none⟩ = some (.slice A2 n2 c2') := z5.cell 2
      clear hr hbA z5
      have HW1 := Lib.hid hW1; clear hW1
      go_wp2_with fail
      try rw [HW1.out]
      have HKS : Hid (∀ w' : World, Below W1.heap.size W1 w' → (fun w' => w'.cell? ⟨wr.heap.size, 0, none⟩ = some (.int .i64 k2) ∧ w'.cell? ⟨wr.heap.size, 1, none⟩ = some (.int .i64 h2) ∧ w'.cell? ⟨wr.heap.size, 2, none⟩ = some (.slice A2 n2 c2')) w') := Lib.hid fun w' h => ⟨(h.cell (cell_lt a0)).trans a0, (h.cell (cell_lt a1)).trans a1, (h.cell (cell_lt a2)).trans a2⟩
      have hbd : Below W1.heap.size W1 W1.drew := (Below.refl _ W1).drew
      refine zzR HKS hbd (fun hS => ?_)
      simp only [List.size_toArray, List.length_cons, List.length_nil, Nat.reduceAdd]
      refine zzT (i := 0) (v := .func (.func 45) #[] #[p1, p2, p3]) rfl hS ?_
      try simp only [Act.put, List.setIfInBounds_toArray]
      refine zzT (i := 1) (v := .slice (some ⟨b, o, none⟩) n c) rfl hS ?_
      try simp only [Act.put]
      refine zzT (i := 2) (v := .int .i64 j) rfl hS ?_
      try simp only [Act.put]
      refine zzT (i := 3) (v := .slice (some ⟨b, o, none⟩) j c) rfl hS ?_
      try simp only [Act.put]
      refine zzT (i := 4) (v := .agg #[.int .i64 k2, .int .i64 h2, .slice A2 n2 c2']) rfl hS ?_
      try simp only [Act.put]
      refine wpAnyH_ready (rs := [5]) (by kernel_rfl) (by simp) ?_
      refine AllReadyH.cons rfl (fun KN hK => ?_) AllReadyH.nil
      go_simp
      refine (HC.out W1.drew hbd).mono ?_
      rintro e w1 ⟨rfl, hb8⟩
      have hb8' : Below W1.heap.size W1 w1 := hbd.trans (hb8.mono hbd.size)
      refine hK.out _ _ (HKS.out _ hb8') (fun hS => ?_)
      clear hK KN
      try simp only [Act.put, zzP]
      refine zzT (i := 6) (v := .int .i64 e1) rfl hS ?_
      try simp only [Act.put, List.setIfInBounds_toArray]
      refine wpAnyH_done (by kernel_rfl) ?_ _
      try simp only [List.setIfInBounds_toArray]
      try simp only [zzP]
      have HB1 := Lib.hid (HBW.out.trans (hb8'.mono HBW.out.size))
      clear hb8 hb8' HC HBW HKS hS hbd a0 a1 a2 c0 c1 c2
      by_cases hz : e1 = 0
      case' neg =>
        have d2 : (e1 != 0) = true := by simpa using hz
        have HQ := Lib.hid (HE.out.trans (HS.out.symm.trans (fi_e HT.out HE1.out hz)))
        go_wp2_with fail
        refine bodyPost_ret (v := .tuple #[.int .i64 j, .int .i64 e1]) (by simp [results, Tryz.results44, go_sem]) rfl ?_
        exact FiE.of HQ.out HB1.out
      subst hz
      have HQ := Lib.hid ((fi_go HT.out HE1.out).symm.trans HS.out)
      go_wp2_with fail
      go_roundw
      case rel => exact ⟨j + 1, by omega, by go_num, HQ, HB1⟩
      case measure => simp [Go.RowKit.intOf]; omega
    · have HQ := Lib.hid (show firV g ds = (0, 0) by rw [HE.out, ← HS.out, drop_all HX.out.len (by omega), fiV])
      go_wp2_with fail
      refine bodyPost_ret (v := .tuple #[.int .i64 0, .int .i64 0]) (by simp [results, Tryz.results44, go_sem]) rfl ?_
      exact FiE.of0 HQ.out HB.out
/-! ### Concat -/
theorem yConcatC {X : Nat → Prop} {w : World} {xs ys : List T} {A1 A2 : Option Addr} {n1 c1 n2 c2 B : Nat} (hx : RXL X w xs A1 n1 c1) (hy : RXL X w ys A2 n2 c2) (hX : ∀ b, X b → b < w.heap.size) (b0 : w.cell? ⟨B, 0, none⟩ = some (.slice A1 n1 c1)) (b1 : w.cell? ⟨B, 1, none⟩ = some (.slice A2 n2 c2))
    (h2 : 0 < n1 + n2) (hs : n1 + n2 ≤ 3518437208780) : Calls Tryz.prog 38 #[.slice (some ⟨B, 0, none⟩) 2 2] w (CEnd X (xs ++ ys) (n1 + n2) w) := by
  obtain ⟨cs, l1, k1, o1, e1⟩ := hx.cells
  obtain ⟨ds, l2, k2, o2, e2⟩ := hy.cells
  have ha1 : 0 < n1 → ∃ b o, A1 = some ⟨b, o, none⟩ := fun h => by
    obtain ⟨t, ht⟩ := at_of hx.len h
    obtain ⟨b, o, _, _, _, e, _⟩ := hx.at_ 0 t ht
    exact ⟨b, o, e⟩
  have ha2 : 0 < n2 → ∃ b o, A2 = some ⟨b, o, none⟩ := fun h => by
    obtain ⟨t, ht⟩ := at_of hy.len h
    obtain ⟨b, o, _, _, _, e, _⟩ := hy.at_ 0 t ht
    exact ⟨b, o, e⟩
  have lb := cell_lt b0
  dsimp only at lb
  have q1 := hx.le; have q2 := hx.cap; have q3 := hy.le; have q4 := hy.cap
  unfold maxLen at q2 q4
  have HX := Lib.hid hx; clear hx
  have HY := Lib.hid hy; clear hy
  have HXX := Lib.hid hX; clear hX
  have HL1 := Lib.hid (And.intro l1 (And.intro k1 (And.intro o1 e1))); clear l1 k1 o1 e1
  have HL2 := Lib.hid (And.intro l2 (And.intro k2 (And.intro o2 e2))); clear l2 k2 o2 e2
  have HA1 := Lib.hid ha1; clear ha1
  have HA2 := Lib.hid ha2; clear ha2
  go_enter Tryz.func38, Tryz.ntmps38
  go_wp2_with fail
  go_loop [3, 11] (fun z i => ∃ j : Nat, j ≤ 2 ∧ i = .int .i64 j ∧ z = .int .i64 (sm n1 n2 j : Nat)) (fun _ i => 2 - (intOf i).toNat)
  case atStart => exact ⟨0, by omega, rfl, rfl⟩
  case round =>
    obtain ⟨j, hj, rfl, rfl⟩ := hrel
    rcases (show j = 0 ∨ j = 1 ∨ j = 2 by omega) with rfl | rfl | rfl
    · have z0 : sm n1 n2 0 = 0 := rfl
      go_wp2_with fail
      go_round
      case rel => exact ⟨1, by omega, rfl, by simp [sm]⟩
      case measure => simp [intOf]
    · have z0 : sm n1 n2 1 = n1 := rfl
      go_wp2_with fail
      go_round
      case rel => exact ⟨2, by omega, rfl, by simp [sm]⟩
      case measure => simp [intOf]
    · have z0 : sm n1 n2 2 = n1 + n2 := rfl
      go_wp2_with fail
      have hG := growC (n1 + n2) (by omega) hs w
      rw [show ((n1 + n2 : Nat) : Int) = (n1 : Int) + n2 by omega] at hG
      refine hG.mono ?_
      clear hG
      rintro e w1 ⟨cap, rfl, how, hb⟩
      have HO := Lib.hid how; clear how
      have HB := Lib.hid hb; clear hb
      go_wp2_with fail
      go_loopw [6, 27] (fun v i wr => ∃ (j g cap : Nat), j ≤ 2 ∧ i = .int .i64 j ∧ v = .slice (some ⟨g, 0, none⟩) (sm n1 n2 j) cap ∧ Hid (wr.ownsRow w.heap.size 39 3 (.slice (some ⟨g, 0, none⟩) (sm n1 n2 j) cap) (sm n1 n2 j) (cl2 cs ds j)) ∧ sm n1 n2 j ≤ cap ∧ Hid (Below w.heap.size w wr)) (fun _ i _ => 2 - (intOf i).toNat)
      case atStart => exact ⟨0, w.heap.size, cap, by omega, rfl, rfl, HO, Nat.zero_le _, HB⟩
      case round =>
        obtain ⟨j, g, cap, hj, rfl, rfl, HO, hcap, HB⟩ := hrel
        have d0 : wr.cell? ⟨B, 0, none⟩ = some (.slice A1 n1 c1) := (HB.out.cell (p := ⟨B, 0, none⟩) lb).trans b0
        have d1 : wr.cell? ⟨B, 1, none⟩ = some (.slice A2 n2 c2) := (HB.out.cell (p := ⟨B, 1, none⟩) lb).trans b1
        rcases (show j = 0 ∨ j = 1 ∨ j = 2 by omega) with rfl | rfl | rfl
        · have hap := append_row (c := c1) (m := n1) HB.out HO.out hcap HL1.out.1 HL1.out.2.2.2 HL1.out.2.2.1 HA1.out (by show 0 + n1 ≤ _; omega)
          obtain ⟨g', cap', w', hrun, how', hle, hb'⟩ := hap 24
          have HO' := Lib.hid how'; clear how'
          have HB' := Lib.hid hb'; clear hb'
          have z0 : sm n1 n2 0 = 0 := rfl
          rw [z0] at hrun hle HO' ⊢
          go_wp2_with (at_builtin; refine Lib.wpList_append_run _ rfl _ _ _ _ rfl _ _ rfl rfl _ _ hrun ?_)
          go_roundw
          case rel => exact ⟨1, g', cap', by omega, rfl, by simp [sm], Lib.hid (by have := HO'.out; simpa [sm, cl2] using this), by simpa [sm] using hle, HB'⟩
          case measure => simp [intOf]
        · have hap := append_row (c := c2) (m := n2) HB.out HO.out hcap HL2.out.1 HL2.out.2.2.2 HL2.out.2.2.1 HA2.out (by show n1 + n2 ≤ _; omega)
          obtain ⟨g', cap', w', hrun, how', hle, hb'⟩ := hap 24
          have HO' := Lib.hid how'; clear how'
          have HB' := Lib.hid hb'; clear hb'
          have z0 : sm n1 n2 1 = n1 := rfl
          rw [z0] at hrun hle HO' ⊢
          go_wp2_with (at_builtin; refine Lib.wpList_append_run _ rfl _ _ _ _ rfl _ _ rfl rfl _ _ hrun ?_)
          go_roundw
          case rel => exact ⟨2, g', cap', by omega, rfl, by simp [sm], Lib.hid (by have := HO'.out; simpa [sm, cl2] using this), by simpa [sm] using hle, HB'⟩
          case measure => simp [intOf]
        · go_wp2_with fail
          go_ret
          refine ⟨_, cap, rfl, rxl_row (w := w) HO.out (KidL.app (HL1.out.2.1.move (fun _ h => h) fun b _ hl => HB.out.block b hl) (by rw [HL1.out.1, HX.out.len]) (HL2.out.2.1.move (fun _ h => h) fun b _ hl => HB.out.block b hl)) (by rw [List.length_append, HX.out.len, HY.out.len]) HXX.out, HB.out⟩
theorem clv_rxl {w : World} {xs : List T} {A : Option Addr} {n c : Nat} (h : CLV w xs A n c) : RXL (fun _ => False) w xs A n c :=
  ⟨h.len, h.le, h.cap, fun i t ht => by
    obtain ⟨b, o, k, g, A', n', c', e, c0, c1, c2, hr⟩ := (h.at_ i t ht).full
    exact ⟨b, o, _, _, _, e, id, c0, c1, c2, RdF.moveX (fun _ _ _ => ⟨id, rfl⟩) _ _ (rdF_anyQ _ _ hr)⟩⟩
theorem rxl_clv {w : World} {xs : List T} {A : Option Addr} {n c : Nat} (h : RXL (fun _ => False) w xs A n c) : CLV w xs A n c :=
  ⟨h.len, h.le, h.cap, fun i t ht => by
    obtain ⟨b, o, k, g, A', n', c', e, c0, c1, c2, hr⟩ := (h.at_ i t ht).full
    exact ⟨b, o, _, _, _, e, c0, c1, c2, RdF.rd _ _ hr⟩⟩
theorem yGrow0 (w : World) : Calls Tryz.prog 54 #[.slice none 0 0, .int .i64 0] w fun e w' => e = .returned (.slice none 0 0) ∧ Below w.heap.size w w' := by
  go_enter Tryz.func54, Tryz.ntmps54
  go_wp2_with fail
  go_ret
  exact ⟨rfl, Below.refl _ _⟩
theorem run_app_nil (ty : TypeId) (A : Option Addr) (c : Nat) (w : World) : (Builtin.append_ #[24, 24] ty #[.slice none 0 0, .slice A 0 c]).run Tryz.prog w = .ok (.slice none 0 0) w := by
  obtain ⟨i0, hi, hz0, hz1, hz2⟩ := info_parts infoTerm
  cases A <;> simp [Builtin.append_, run_underlying Tryz.underlying24, sizeOf, typeInfo, hi, Builtin.lenOf, Builtin.firstCells, loadCells, loadCellsFrom]
theorem yConcat0 {w : World} {A1 A2 : Option Addr} {c1 c2 B : Nat} (b0 : w.cell? ⟨B, 0, none⟩ = some (.slice A1 0 c1)) (b1 : w.cell? ⟨B, 1, none⟩ = some (.slice A2 0 c2)) :
    Calls Tryz.prog 38 #[.slice (some ⟨B, 0, none⟩) 2 2] w fun e w' => e = .returned (.slice none 0 0) ∧ Below w.heap.size w w' := by
  have lb := cell_lt b0
  dsimp only at lb
  go_enter Tryz.func38, Tryz.ntmps38
  go_wp2_with fail
  go_loop [3, 11] (fun z i => ∃ j : Nat, j ≤ 2 ∧ i = .int .i64 j ∧ z = .int .i64 0) (fun _ i => 2 - (intOf i).toNat)
  case atStart => exact ⟨0, by omega, rfl, rfl⟩
  case round =>
    obtain ⟨j, hj, rfl, rfl⟩ := hrel
    rcases (show j = 0 ∨ j = 1 ∨ j = 2 by omega) with rfl | rfl | rfl
    · go_wp2_with fail
      go_round
      case rel => exact ⟨1, by omega, rfl, by simp⟩
      case measure => simp [intOf]
    · go_wp2_with fail
      go_round
      case rel => exact ⟨2, by omega, rfl, by simp⟩
      case measure => simp [intOf]
    · go_wp2_with fail
      refine (yGrow0 w).mono ?_
      rintro e w1 ⟨rfl, hb⟩
      have HB := Lib.hid hb; clear hb
      go_wp2_with fail
      go_loopw [6, 27] (fun v i wr => ∃ (j : Nat), j ≤ 2 ∧ i = .int .i64 j ∧ v = .slice none 0 0 ∧ Hid (Below w.heap.size w wr)) (fun _ i _ => 2 - (intOf i).toNat)
      case atStart => exact ⟨0, by omega, rfl, rfl, HB⟩
      case round =>
        obtain ⟨j, hj, rfl, rfl, HB⟩ := hrel
        have d0 : wr.cell? ⟨B, 0, none⟩ = some (.slice A1 0 c1) := (HB.out.cell (p := ⟨B, 0, none⟩) lb).trans b0
        have d1 : wr.cell? ⟨B, 1, none⟩ = some (.slice A2 0 c2) := (HB.out.cell (p := ⟨B, 1, none⟩) lb).trans b1
        rcases (show j = 0 ∨ j = 1 ∨ j = 2 by omega) with rfl | rfl | rfl
        · have hrun := run_app_nil 24 A1 c1 wr
          go_wp2_with (at_builtin; refine Lib.wpList_append_run _ rfl _ _ _ _ rfl _ _ rfl rfl _ _ hrun ?_)
          go_roundw
          case rel => exact ⟨1, by omega, rfl, rfl, HB⟩
          case measure => simp [intOf]
        · have hrun := run_app_nil 24 A2 c2 wr
          go_wp2_with (at_builtin; refine Lib.wpList_append_run _ rfl _ _ _ _ rfl _ _ rfl rfl _ _ hrun ?_)
          go_roundw
          case rel => exact ⟨2, by omega, rfl, rfl, HB⟩
          case measure => simp [intOf]
        · go_wp2_with fail
          go_ret
          exact ⟨rfl, HB.out⟩
theorem yConcat {w : World} {xs ys : List T} {A1 A2 : Option Addr} {n1 c1 n2 c2 B : Nat} (hx : CLV w xs A1 n1 c1) (hy : CLV w ys A2 n2 c2) (b0 : w.cell? ⟨B, 0, none⟩ = some (.slice A1 n1 c1)) (b1 : w.cell? ⟨B, 1, none⟩ = some (.slice A2 n2 c2)) (hs : n1 + n2 ≤ 3518437208780) :
    Calls Tryz.prog 38 #[.slice (some ⟨B, 0, none⟩) 2 2] w fun e w' => ∃ A c, e = .returned (.slice A (n1 + n2) c) ∧ CLV w' (xs ++ ys) A (n1 + n2) c ∧ Below w.heap.size w w' := by
  rcases Nat.eq_zero_or_pos (n1 + n2) with h | h
  · obtain ⟨rfl, rfl⟩ : n1 = 0 ∧ n2 = 0 := by omega
    refine (yConcat0 b0 b1).mono ?_
    rintro e w' ⟨rfl, hb⟩
    refine ⟨none, 0, rfl, ⟨by rw [List.length_append, hx.len, hy.len], Nat.le_refl _, Nat.zero_le _, fun i t ht => ?_⟩, hb⟩
    rw [List.length_eq_zero_iff.1 hx.len, List.length_eq_zero_iff.1 hy.len] at ht
    simp at ht
  · refine (yConcatC (clv_rxl hx) (clv_rxl hy) (fun b hb => hb.elim) b0 b1 h hs).mono ?_
    rintro e w' ⟨A, c, rfl, hr, hb⟩
    exact ⟨A, c, rfl, rxl_clv hr, hb⟩
/-! ### Conforms -/
theorem clv_nil (w : World) (A : Option Addr) (c : Nat) (hc : c ≤ maxLen) : CLV w [] A 0 c := ⟨rfl, Nat.zero_le _, hc, fun i x hx => by simp at hx⟩
def LwV (l : List T) : Prop := ∀ t ∈ l, myB t = true → okT loV t
theorem LwV.at_ {l : List T} (h : LwV l) {i : Nat} {x : T} (hx : l[i]? = some x) : myB x = true → okT loV x := h x (List.mem_of_getElem? hx)
theorem LwV.nil : LwV [] := fun t ht => by cases ht
theorem yCtx1C (W0 : WV) (ar ah : List T) (a : T) (ps pm pa : Nat) (As : Option Addr) (ns cs : Nat) (Am : Option Addr) (nm cm : Nat) (Aa : Option Addr) (na ca : Nat) (A : Option Addr) (i c : Nat) (k h : Int) (A2 : Option Addr) (n2 c2 : Nat) (w : World)
    (xs : Box w ps 22 #[.slice As ns cs]) (xm : Box w pm 23 #[.slice Am nm cm]) (xa : Box w pa 24 #[.slice Aa na ca]) (hk : CkV w W0 ar As ns cs Am nm cm Aa na ca) (hah : CLV w ah A i c) (hd : Rd w a (.agg #[.int .i64 k, .int .i64 h, .slice A2 n2 c2]))
    (hl : LoV W0 (ar ++ ah)) (hld : myB a = true → okT loV a) (hlen : na + i ≤ 3518437208780) :
    Calls Tryz.prog 45 #[.slice A i c, .agg #[.int .i64 k, .int .i64 h, .slice A2 n2 c2], .pointer (some ⟨ps, 0, none⟩), .pointer (some ⟨pm, 0, none⟩), .pointer (some ⟨pa, 0, none⟩)] w fun e w' => e = .returned (.int .i64 (cxW W0 ar ah a)) ∧ Below w.heap.size w w' := by
  obtain ⟨W, hW⟩ : ∃ W, w.alloc (.cells #[.int .i64 k, .int .i64 h, .slice A2 n2 c2] 39) = W := ⟨_, rfl⟩
  have hb : Below w.heap.size w W := by rw [← hW]; exact (Below.refl _ _).alloc (Nat.le_refl _) _
  have z5 : Box W w.heap.size 39 #[.int .i64 k, .int .i64 h, .slice A2 n2 c2] := by rw [← hW]; exact Box.new _ _ _
  obtain ⟨a0, a1, a2⟩ := z5.three
  have s0 : W.cell? ⟨ps, 0, none⟩ = some (.slice As ns cs) := (xs.keep hb xs.lt).cell 0
  have m0 : W.cell? ⟨pm, 0, none⟩ = some (.slice Am nm cm) := (xm.keep hb xm.lt).cell 0
  have r0 : W.cell? ⟨pa, 0, none⟩ = some (.slice Aa na ca) := (xa.keep hb xa.lt).cell 0
  have HTY := Lib.hid (fun (A8 : Option Addr) (c8 : Nat) (W' : World) (h' : Below W.heap.size W W') (hcl : CLV W' (ar ++ ah) A8 (na + i) c8) => vCheckTypeC W0 (ar ++ ah) a As ns cs Am nm cm A8 (na + i) c8 _ W' ⟨(hk.sg.keep hb).keep h', (hk.ms.keep hb).keep h', hcl⟩ (Rd.keep h' _ _ (Rd.keep hb _ _ hd)) hl hld)
  have HAR := Lib.hid (hk.cx.keep hb)
  have HAH := Lib.hid (hah.keep hb)
  have HB := Lib.hid hb
  rw [cxW]
  obtain ⟨R, hR⟩ : ∃ R, ckTy W0 (ar ++ ah) a = R := ⟨_, rfl⟩
  rw [hR] at HTY ⊢
  clear xs xm xa hk hah hd hl hld hb z5 hR
  go_enter Tryz.func45, Tryz.ntmps45
  go_wp2_with fail
  try rw [hW]
  have HKS : Hid (∀ w' : World, Below W.heap.size W w' → (fun w' => w'.cell? ⟨ps, 0, none⟩ = some (.slice As ns cs) ∧ w'.cell? ⟨pm, 0, none⟩ = some (.slice Am nm cm) ∧ w'.cell? ⟨pa, 0, none⟩ = some (.slice Aa na ca) ∧ w'.cell? ⟨w.heap.size, 0, none⟩ = some (.int .i64 k) ∧ w'.cell? ⟨w.heap.size, 1, none⟩ = some (.int .i64 h) ∧ w'.cell? ⟨w.heap.size, 2, none⟩ = some (.slice A2 n2 c2)) w') := Lib.hid fun w' h => ⟨(h.cell (cell_lt s0)).trans s0, (h.cell (cell_lt m0)).trans m0, (h.cell (cell_lt r0)).trans r0, (h.cell (cell_lt a0)).trans a0, (h.cell (cell_lt a1)).trans a1, (h.cell (cell_lt a2)).trans a2⟩
  have hbd : Below W.heap.size W W.drew := (Below.refl _ W).drew
  refine zzR HKS hbd (fun hS => ?_)
  simp only [List.size_toArray, List.length_cons, List.length_nil, Nat.reduceAdd]
  refine zzT (i := 0) (v := .slice As ns cs) rfl hS ?_
  try simp only [Act.put, List.setIfInBounds_toArray]
  refine zzT (i := 1) (v := .slice Am nm cm) rfl hS ?_
  try simp only [Act.put]
  refine zzT (i := 2) (v := .slice Aa na ca) rfl hS ?_
  try simp only [Act.put]
  refine zzT (i := 3) (v := .slice A i c) rfl hS ?_
  try simp only [Act.put]
  refine zzT (i := 6) (v := .agg #[.int .i64 k, .int .i64 h, .slice A2 n2 c2]) rfl hS ?_
  try simp only [Act.put]
  refine wpAnyH_ready (rs := [4]) (by kernel_rfl) (by simp) ?_
  refine AllReadyH.cons rfl (fun KN hK => ?_) AllReadyH.nil
  go_simp
  have hb7 : Below W.heap.size W (W.alloc (.cells #[.slice Aa na ca, .slice A i c] 24)).drew := ((Below.refl _ W).alloc (Nat.le_refl _) _).drew
  refine hK.out _ _ (HKS.out _ hb7) (fun hS => ?_)
  clear hK KN
  try simp only [Act.put, zzP]
  have xz : Box (W.alloc (.cells #[.slice Aa na ca, .slice A i c] 24)).drew W.heap.size 24 #[.slice Aa na ca, .slice A i c] := Box.drewI (Box.new _ _ _)
  have e0 : ((W.alloc (.cells #[.slice Aa na ca, .slice A i c] 24)).drew).cell? ⟨W.heap.size, 0, none⟩ = some (.slice Aa na ca) := xz.cell 0
  have e1 : ((W.alloc (.cells #[.slice Aa na ca, .slice A i c] 24)).drew).cell? ⟨W.heap.size, 1, none⟩ = some (.slice A i c) := xz.cell 1
  generalize (W.alloc (.cells #[.slice Aa na ca, .slice A i c] 24)).drew = w7 at *
  refine wpAnyH_ready (rs := [5]) (by kernel_rfl) (by simp) ?_
  refine AllReadyH.cons rfl (fun KN hK => ?_) AllReadyH.nil
  go_simp
  refine (yConcat (HAR.out.keep hb7) (HAH.out.keep hb7) e0 e1 (by omega)).mono ?_
  rintro e w8 ⟨A8, c8, rfl, hcl, hb8⟩
  have hb8' : Below W.heap.size W w8 := hb7.trans (hb8.mono hb7.size)
  refine hK.out _ _ (HKS.out _ hb8') (fun hS => ?_)
  clear hK KN
  try simp only [Act.put, zzP]
  clear hb8 hb7 xz e0 e1
  refine wpAnyH_ready (rs := [7]) (by kernel_rfl) (by simp) ?_
  refine AllReadyH.cons rfl (fun KN hK => ?_) AllReadyH.nil
  go_simp
  refine (HTY.out A8 c8 w8 hb8' hcl).mono ?_
  rintro e w9 ⟨rfl, hb9⟩
  have hb9' : Below W.heap.size W w9 := hb8'.trans (hb9.mono hb8'.size)
  refine hK.out _ _ (HKS.out _ hb9') (fun hS => ?_)
  clear hK KN
  try simp only [Act.put, zzP]
  refine zzT (i := 8) (v := .int .i64 R) rfl hS ?_
  try simp only [Act.put, List.setIfInBounds_toArray]
  refine wpAnyH_done (by kernel_rfl) ?_ _
  try simp only [List.setIfInBounds_toArray]
  try simp only [zzP]
  have HBF := Lib.hid (HB.out.trans (hb9'.mono HB.out.size))
  clear hb9 hb9' hb8' hcl
  go_wp2_with fail
  go_ret
  exact ⟨rfl, HBF.out⟩
def ctV (W0 : WV) (ar cx : List T) : Int := (firV (cxW W0 ar) cx).2
theorem lo_take {W0 : WV} {ar cx : List T} (h : LoV W0 (ar ++ cx)) (i : Nat) : LoV W0 (ar ++ cx.take i) := ⟨h.sg, h.ms, fun t ht => h.cx t (by
  rcases List.mem_append.1 ht with ht | ht
  · exact List.mem_append_left _ ht
  · exact List.mem_append_right _ (List.mem_of_mem_take ht))⟩
theorem yCtxC (W0 : WV) (ar cx : List T) (As : Option Addr) (ns cs : Nat) (Am : Option Addr) (nm cm : Nat) (Aa : Option Addr) (na ca : Nat) (A : Option Addr) (n c : Nat) (w : World) (hk : CkV w W0 ar As ns cs Am nm cm Aa na ca) (hx : CLV w cx A n c) (hl : LoV W0 (ar ++ cx)) (hlen : na + n ≤ 3518437208780) :
    Calls Tryz.prog 30 #[.slice As ns cs, .slice Am nm cm, .slice Aa na ca, .slice A n c] w fun e w' => e = .returned (.int .i64 (ctV W0 ar cx)) ∧ Below w.heap.size w w' := by
  obtain ⟨W, hW⟩ : ∃ W, ((w.alloc (.cells #[.slice As ns cs] 22)).alloc (.cells #[.slice Am nm cm] 23)).alloc (.cells #[.slice Aa na ca] 24) = W := ⟨_, rfl⟩
  have hb : Below w.heap.size w W := by rw [← hW]; exact (((Below.refl _ _).alloc (Nat.le_refl _) _).alloc (by simp) _).alloc (by simp; omega) _
  have x0 : Box W w.heap.size 22 #[.slice As ns cs] := by rw [← hW]; exact ((Box.new _ _ _).alloc _).alloc _
  have x1 : Box W (w.heap.size + 1) 23 #[.slice Am nm cm] := by rw [← hW]; exact ((Box.new (w.alloc _) _ _).at (by simp)).alloc _
  have x2 : Box W (w.heap.size + 1 + 1) 24 #[.slice Aa na ca] := by rw [← hW]; exact (Box.new ((w.alloc _).alloc _) _ _).at (by simp)
  have HF := Lib.hid (yFirstC (cxW W0 ar) cx A n c (.pointer (some ⟨w.heap.size, 0, none⟩)) (.pointer (some ⟨w.heap.size + 1, 0, none⟩)) (.pointer (some ⟨w.heap.size + 1 + 1, 0, none⟩)) W (hx.keep hb) fun i x k h A2 n2 c2 W' hi hb' hr hd =>
    yCtx1C W0 ar (cx.take i) x _ _ _ As ns cs Am nm cm Aa na ca A i c k h A2 n2 c2 W' (x0.keep hb' x0.lt) (x1.keep hb' x1.lt) (x2.keep hb' x2.lt) ((hk.keep hb).keep hb') hd hr (lo_take hl i) (fun hm => hl.cx x (List.mem_append_right _ (List.mem_of_getElem? hi)) hm) (by have := (List.getElem?_eq_some_iff.1 hi).1; have := hx.len; omega))
  have HB := Lib.hid hb
  clear hx hl hk hb x0 x1 x2
  rw [ctV]
  generalize firV (cxW W0 ar) cx = R at *
  go_enter Tryz.func30, Tryz.ntmps30
  go_wp2_with fail
  try rw [hW]
  go_wp2_with fail
  refine HF.out.mono ?_
  rintro e w1 ⟨rfl, hb1⟩
  have HB1 := Lib.hid (HB.out.trans (hb1.mono HB.out.size)); clear hb1
  go_wp2_with fail
  go_ret
  exact ⟨rfl, HB1.out⟩
end Go.Proofs.YtbbjjdnnlnabaaaGreat
