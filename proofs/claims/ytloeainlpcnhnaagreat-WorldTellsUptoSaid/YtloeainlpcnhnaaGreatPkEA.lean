/-
  Texts of one proof, put together. No statement is proved here.
-/
import Derived.Test.YtloeainlpcnhnaaGreatPkVA
import Derived.Test.YtloeainlpcnhnaaGreatPkTnA
/-
  Contracts of the document's own all, May and more of layer 10. No statement is proved here.
-/
namespace Go.Proofs.YtloeainlpcnhnaaGreat
open Go.ChangeShapes Go.WideShapes Go.ChangeAt Go.RowKit
set_option linter.unusedVariables false
theorem drop_at' {α : Type} {l : List α} {j : Nat} {x : α} (h : l[j]? = some x) : l.drop j = x :: l.drop (j + 1) := by
  obtain ⟨h1, h2⟩ := List.getElem?_eq_some_iff.1 h
  rw [List.drop_eq_getElem_cons h1, h2]
theorem eMay1 (t : T) (v : Value) (w : World) (hv : Rd w t v) (hs : nd t ≤ 1048576) :
    Calls Tryz.prog 83 #[v] w fun e w' => e = .returned (.bool (myB t)) ∧ Below w.heap.size w w' := by
  rw [← mayB_my hs]
  exact refMay t v w hv
set_option maxRecDepth 100000 in
set_option maxHeartbeats 4000000 in
theorem eAllC (xs : List T) (A : Option Addr) (n c : Nat) (w : World) (hx : CLV w xs A n c) (hs : ∀ x ∈ xs, nd x ≤ 1048576) :
    Calls Tryz.prog 84 #[.slice A n c] w fun e w' => e = .returned (.bool (xs.all myB)) ∧ Below w.heap.size w w' := by
  have hm := hx.cap
  have hc := hx.le
  unfold maxLen at hm
  have HX := Lib.hid hx; clear hx
  obtain ⟨R, hR⟩ : ∃ R, xs.all myB = R := ⟨_, rfl⟩
  have HR := Lib.hid hR
  rw [hR]
  clear hR
  go_enter Tryz.func84, Tryz.ntmps84
  go_wp2_with fail
  go_loopw [3] (fun i wr => ∃ (j : Nat), j ≤ n ∧ i = .int .i64 j ∧ Hid ((xs.drop j).all myB = R) ∧ Hid (Below w.heap.size w wr)) (fun i _ => n - (Go.RowKit.intOf i).toNat)
  case atStart => exact ⟨0, Nat.zero_le _, rfl, Lib.hid (by simpa using HR.out), Lib.hid (Below.refl _ _)⟩
  case round =>
    obtain ⟨j, hj, rfl, HS, HB⟩ := hrel
    by_cases hlt : j < n
    · obtain ⟨x, ht⟩ := at_of HX.out.len hlt
      obtain ⟨b, o, k2, h2, A2, n2, c2', rfl, c0, c1, c2, hr⟩ := (RdAt.keep HB.out (HX.out.at_ j x ht)).full
      have hi0 : (0 : Int) ≤ j := by omega
      have hi1 : (j : Int) < n := by omega
      have dj : decide ((j : Int) < (n : Int)) = true := by simp; omega
      have hsj : IntKind.i64.wrap ((j : Int) + 1) = ((j + 1 : Nat) : Int) := by rw [wrapEq, wrap_small (by omega) (by omega)]; omega
      have HM := Lib.hid (eMay1 x _ wr hr (hs x (List.mem_of_getElem? ht)))
      have HS' := HS.out
      rw [drop_at ht, List.all_cons] at HS'
      have HS := Lib.hid HS'; clear HS' ht hr
      generalize myB x = r at *
      go_wp2_with fail
      clear c0 c1 c2
      refine HM.out.mono ?_
      rintro e w1 ⟨rfl, hb1⟩
      have HB1 := Lib.hid (HB.out.trans (hb1.mono HB.out.size))
      clear hb1 HM
      cases r
      · go_wp2_with fail
        go_ret
        exact ⟨ret_bool (by rw [← HS.out]; rfl), HB1.out⟩
      · go_wp2_with fail
        go_roundw
        case rel => exact ⟨j + 1, by omega, by go_num, Lib.hid (by simpa using HS.out), HB1⟩
        case measure => simp [Go.RowKit.intOf]; omega
    · obtain rfl : j = n := by omega
      have dj : decide ((j : Int) < (j : Int)) = false := by simp
      have HQ := Lib.hid (show true = R by rw [← HS.out, drop_all HX.out.len (by omega)]; rfl)
      go_wp2_with fail
      go_ret
      exact ⟨ret_bool HQ.out, HB.out⟩
theorem e_may_eq (W : WV) (cx l : List T) : mayV W cx l = (decide (cx.length ≤ 1000) && (W.sg.all myB && (W.ms.all mmB && (cx.all myB && l.all myB)))) := by
  unfold mayV
  cases decide (cx.length ≤ 1000) <;> cases cx.all myB <;> cases l.all myB <;> cases W.sg.all myB <;> cases W.ms.all mmB <;> rfl
structure SzE (W : WV) (cx : List T) : Prop where
  sg : ∀ t ∈ W.sg, nd t ≤ 1048576
  ms : ∀ m ∈ W.ms, (∀ e ∈ m.1, nd e ≤ 1048576) ∧ nd m.2 ≤ 1048576
  cx : ∀ t ∈ cx, nd t ≤ 1048576
set_option maxRecDepth 100000 in
set_option maxHeartbeats 8000000 in
theorem eMayC (W : WV) (cx l : List T) (As Am Ac Al : Option Addr) (ns cs nm cm nc cc nl cl : Nat) (w : World) (hs : DL w W.sg As ns cs) (hm : ML w W.ms Am nm cm) (hc : CLV w cx Ac nc cc) (hl : CLV w l Al nl cl) (hz : SzE W cx) (hlz : ∀ t ∈ l, nd t ≤ 1048576) :
    Calls Tryz.prog 60 #[.slice As ns cs, .slice Am nm cm, .slice Ac nc cc, .slice Al nl cl] w fun e w' => e = .returned (.bool (mayV W cx l)) ∧ Below w.heap.size w w' := by
  have hccap := hc.cap
  have hcle := hc.le
  have hscap := hs.cap
  have hsle := hs.le
  have hmcap := hm.cap
  have hmle := hm.le
  have hcl := hc.len
  unfold maxLen at hccap hscap hmcap
  have HCX := Lib.hid (fun W' (h' : Below w.heap.size w W') => eAllC cx Ac nc cc W' (hc.keep h') hz.cx)
  have HL := Lib.hid (fun W' (h' : Below w.heap.size w W') => eAllC l Al nl cl W' (hl.keep h') hlz)
  have HS := Lib.hid hs; clear hs
  have HM := Lib.hid hm; clear hm
  have HZ := Lib.hid hz; clear hz
  clear hc hl
  have hR : mayV W cx l = (decide (nc ≤ 1000) && (W.sg.all myB && (W.ms.all mmB && (cx.all myB && l.all myB)))) := by rw [e_may_eq, hcl]
  obtain ⟨R, hRR⟩ : ∃ R, mayV W cx l = R := ⟨_, rfl⟩
  rw [hRR] at hR ⊢
  have HR := Lib.hid hR
  clear hR hRR hcl
  generalize cx.all myB = r1 at *
  generalize l.all myB = r2 at *
  by_cases hgt : 1000 < nc
  · have d1 : decide ((1000 : Int) < (nc : Int)) = true := by simp; omega
    have HR' := Lib.hid (show R = false by rw [HR.out, decide_eq_false (by omega)]; rfl)
    go_enter Tryz.func60, Tryz.ntmps60
    go_wp2_with fail
    go_ret
    exact ⟨ret_bool HR'.out.symm, Below.refl _ _⟩
  have d1 : decide ((1000 : Int) < (nc : Int)) = false := by simp; omega
  have HR1 := Lib.hid (show R = (W.sg.all myB && (W.ms.all mmB && (r1 && r2))) by rw [HR.out, decide_eq_true (by omega)]; rfl)
  clear HR
  go_enter Tryz.func60, Tryz.ntmps60
  go_wp2_with fail
  go_loopw [9] (fun i wr => ∃ (j : Nat), j ≤ ns ∧ i = .int .i64 j ∧ Hid (R = ((W.sg.drop j).all myB && (W.ms.all mmB && (r1 && r2)))) ∧ Hid (Below w.heap.size w wr)) (fun i _ => ns - (Go.RowKit.intOf i).toNat)
  case atStart => exact ⟨0, Nat.zero_le _, rfl, Lib.hid (by simpa using HR1.out), Lib.hid (Below.refl _ _)⟩
  case round =>
    clear HR1
    obtain ⟨j, hj, rfl, HJ, HB⟩ := hrel
    by_cases hlt : j < ns
    · obtain ⟨x, hx⟩ := at_of HS.out.len hlt
      obtain ⟨b1, o1, s1, k1, h1, A1, n1, c1, rfl, e0, e1, e2, e3, hr1⟩ := (HS.out.at_ j x hx).keep HB.out
      have hi0 : (0 : Int) ≤ j := by omega
      have hi1 : (j : Int) < ns := by omega
      have dj : decide ((j : Int) < (ns : Int)) = true := by simp; omega
      have hsj : IntKind.i64.wrap ((j : Int) + 1) = ((j + 1 : Nat) : Int) := by rw [wrapEq, wrap_small (by omega) (by omega)]; omega
      have HMY := Lib.hid (eMay1 x _ wr hr1 (HZ.out.sg x (List.mem_of_getElem? hx)))
      have HJ' := HJ.out
      rw [drop_at hx, List.all_cons] at HJ'
      have HJ1 := Lib.hid HJ'; clear HJ' hx hr1
      generalize myB x = r at *
      go_wp2_with fail
      clear e0 e1 e2 e3
      refine HMY.out.mono ?_
      rintro e w3 ⟨rfl, hb3⟩
      have HB3 := Lib.hid (HB.out.trans (hb3.mono HB.out.size))
      clear hb3 HMY
      cases r
      · go_wp2_with fail
        go_ret
        exact ⟨ret_bool (by rw [HJ1.out]; rfl), HB3.out⟩
      · go_wp2_with fail
        go_roundw
        case rel => exact ⟨j + 1, by omega, by go_num, Lib.hid (by simpa using HJ1.out), HB3⟩
        case measure => simp [Go.RowKit.intOf]; omega
    · obtain rfl : j = ns := by omega
      have dj : decide ((j : Int) < (j : Int)) = false := by simp
      have HR2 := Lib.hid (show R = (W.ms.all mmB && (r1 && r2)) by rw [HJ.out, drop_all HS.out.len (by omega)]; rfl)
      clear HJ
      go_wp2_with fail
      go_loopw [11] (fun i wr => ∃ (i' : Nat), i' ≤ nm ∧ i = .int .i64 i' ∧ Hid (R = ((W.ms.drop i').all mmB && (r1 && r2))) ∧ Hid (Below w.heap.size w wr)) (fun i _ => nm - (Go.RowKit.intOf i).toNat)
      case atStart => exact ⟨0, Nat.zero_le _, rfl, Lib.hid (by simpa using HR2.out), HB⟩
      case round =>
        clear HB HR2 dj
        obtain ⟨i, hi, rfl, HJ, HB⟩ := hrel
        by_cases hlt : i < nm
        · obtain ⟨x, hx⟩ := at_of HM.out.len hlt
          obtain ⟨b1, o1, A0, n0, c0, k1, h1, A1, n1, c1, pb, rfl, e0, e1, e2, e3, e4, hl1, hr1⟩ := (HM.out.at_ i x hx).keep HB.out
          have hi0 : (0 : Int) ≤ i := by omega
          have hi1 : (i : Int) < nm := by omega
          have di : decide ((i : Int) < (nm : Int)) = true := by simp; omega
          have hsi : IntKind.i64.wrap ((i : Int) + 1) = ((i + 1 : Nat) : Int) := by rw [wrapEq, wrap_small (by omega) (by omega)]; omega
          have hzm := HZ.out.ms x (List.mem_of_getElem? hx)
          have HA := Lib.hid (eAllC x.1 _ _ _ wr hl1 hzm.1)
          have HMY := Lib.hid (fun W' (h' : Below wr.heap.size wr W') => eMay1 x.2 _ W' (Rd.keep h' _ _ hr1) hzm.2)
          have HJ' := HJ.out
          rw [drop_at' hx, List.all_cons, mmB] at HJ'
          have HJ1 := Lib.hid HJ'; clear HJ' hx hr1 hl1 hzm
          generalize x.1.all myB = ra at *
          generalize myB x.2 = rb at *
          go_wp2_with fail
          refine HA.out.mono ?_
          rintro e w3 ⟨rfl, hb3⟩
          have HB3 := Lib.hid (HB.out.trans (hb3.mono HB.out.size))
          replace e1 := (hb3.cell (cell_lt e1)).trans e1
          replace e2 := (hb3.cell (cell_lt e2)).trans e2
          replace e3 := (hb3.cell (cell_lt e3)).trans e3
          have HMY3 := Lib.hid (HMY.out w3 hb3)
          clear hb3 HA HMY e0 e4
          go_wp2_with fail
          clear e1 e2 e3
          refine HMY3.out.mono ?_
          rintro e w4 ⟨rfl, hb4⟩
          have HB4 := Lib.hid (HB3.out.trans (hb4.mono HB3.out.size))
          clear hb4 HMY3
          cases ra
          · go_wp2_with fail
            go_ret
            exact ⟨ret_bool (by rw [HJ1.out]; rfl), HB4.out⟩
          cases rb
          · go_wp2_with fail
            go_ret
            exact ⟨ret_bool (by rw [HJ1.out]; rfl), HB4.out⟩
          go_wp2_with fail
          go_roundw
          case rel => exact ⟨i + 1, by omega, by go_num, Lib.hid (by simpa using HJ1.out), HB4⟩
          case measure => simp [Go.RowKit.intOf]; omega
        · obtain rfl : i = nm := by omega
          have di : decide ((i : Int) < (i : Int)) = false := by simp
          have HR3 := Lib.hid (show R = (r1 && r2) by rw [HJ.out, List.drop_of_length_le (by rw [HM.out.len]; omega)]; rfl)
          clear HJ
          go_wp2_with fail
          refine (HCX.out wr HB.out).mono ?_
          rintro e w5 ⟨rfl, hb5⟩
          have HB5 := Lib.hid (HB.out.trans (hb5.mono HB.out.size))
          clear hb5
          go_wp2_with fail
          refine (HL.out w5 HB5.out).mono ?_
          rintro e w6 ⟨rfl, hb6⟩
          have HB6 := Lib.hid (HB5.out.trans (hb6.mono HB5.out.size))
          clear hb6
          cases r1
          · go_wp2_with fail
            go_ret
            exact ⟨ret_bool (by rw [HR3.out]; rfl), HB6.out⟩
          · go_wp2_with fail
            go_ret
            exact ⟨ret_bool (by rw [HR3.out]; rfl), HB6.out⟩
/-- a context with an entry more -/
def MoE (cx : List T) (nc : Nat) (w : World) (e : Ending) (w' : World) : Prop := ∃ g cap, e = .returned (.slice (some ⟨g, 0, none⟩) (nc + 1) cap) ∧ CLV w' cx (some ⟨g, 0, none⟩) (nc + 1) cap ∧ Below w.heap.size w w'
set_option maxRecDepth 100000 in
set_option maxHeartbeats 4000000 in
theorem eMoreC (cx : List T) (a : T) (Ac : Option Addr) (nc cc : Nat) (v : Value) (w : World) (hc : CLV w cx Ac nc cc) (hv : Rd w a v) (hn : nc ≤ 100000) :
    Calls Tryz.prog 85 #[.slice Ac nc cc, v] w (MoE (cx ++ [a]) nc w) := by
  obtain ⟨k, h, A2, n2, c2, rfl⟩ := hv.full
  obtain ⟨W, hW⟩ : ∃ W, w.alloc (.cells #[.int .i64 k, .int .i64 h, .slice A2 n2 c2] 44) = W := ⟨_, rfl⟩
  have hb : Below w.heap.size w W := by rw [← hW]; exact (Below.refl _ _).alloc (Nat.le_refl _) _
  have z5 : Box W w.heap.size 44 #[.int .i64 k, .int .i64 h, .slice A2 n2 c2] := by rw [← hW]; exact Box.new _ _ _
  obtain ⟨a0, a1, a2⟩ := z5.three
  have HC := Lib.hid (hc.keep hb)
  have HV := Lib.hid (Rd.keep hb _ _ hv)
  have HB := Lib.hid hb
  clear hc hv hb z5
  go_enter Tryz.func85, Tryz.ntmps85
  go_wp2_with fail
  try rw [hW]
  clear hW
  have HKS : Hid (∀ w' : World, Below W.heap.size W w' → (fun w' => w'.cell? ⟨w.heap.size, 0, none⟩ = some (.int .i64 k) ∧ w'.cell? ⟨w.heap.size, 1, none⟩ = some (.int .i64 h) ∧ w'.cell? ⟨w.heap.size, 2, none⟩ = some (.slice A2 n2 c2)) w') := Lib.hid fun w' h => ⟨(h.cell (cell_lt a0)).trans a0, (h.cell (cell_lt a1)).trans a1, (h.cell (cell_lt a2)).trans a2⟩
  have hbd : Below W.heap.size W W.drew := (Below.refl _ W).drew
  refine wp_region_held_drew (S := fun w' => w'.cell? ⟨w.heap.size, 0, none⟩ = some (.int .i64 k) ∧ w'.cell? ⟨w.heap.size, 1, none⟩ = some (.int .i64 h) ∧ w'.cell? ⟨w.heap.size, 2, none⟩ = some (.slice A2 n2 c2)) (by kernel_rfl) (HKS.out _ hbd) (fun hS => ?_)
  simp only [List.size_toArray, List.length_cons, List.length_nil, Nat.reduceAdd]
  refine wpAnyH_take (i := 0) (v := .slice Ac nc cc) rfl (by kernel_rfl) (by kernel_rfl) (by kernel_rfl) (fun _ _ _ h => h) (Or.inl ⟨by kernel_rfl, ?_⟩) hS ?_
  · intro w' hSw
    obtain ⟨s0, s1, s2⟩ := hSw
    go_simp
  try simp only [Act.put, List.getElem_toArray, List.getElem_cons_zero, List.setIfInBounds_toArray, List.set_cons_zero, List.set_cons_succ]
  refine wpAnyH_take (i := 2) (v := .agg #[.int .i64 k, .int .i64 h, .slice A2 n2 c2]) rfl (by kernel_rfl) (by kernel_rfl) (by kernel_rfl) (fun _ _ _ h => h) (Or.inl ⟨by kernel_rfl, ?_⟩) hS ?_
  · intro w' hSw
    obtain ⟨s0, s1, s2⟩ := hSw
    go_simp
  try simp only [Act.put, List.getElem_toArray, List.getElem_cons_succ, List.getElem_cons_zero, List.setIfInBounds_toArray, List.set_cons_zero, List.set_cons_succ]
  refine wpAnyH_ready (rs := [1, 3]) (by kernel_rfl) (by simp) ?_
  refine AllReadyH.cons rfl (fun KN hK => ?_) (AllReadyH.cons rfl (fun KN hK => ?_) AllReadyH.nil)
  · obtain ⟨A5, c5, w55, olds5, hrun5, hrow5, hb5⟩ := termApp1V HC.out (by omega) hbd
    have hb5' := hbd.trans (hb5.mono hbd.size)
    refine Lib.wp_append_run _ (.const (.slice none 0 0)) (.tmp 5) 24 24 rfl _ _ rfl rfl _ _ hrun5 ?_
    refine hK.out _ _ (HKS.out _ hb5') (fun hS => ?_)
    clear hK KN
    try simp only [Act.put, List.getElem_toArray, List.getElem_cons_succ, List.getElem_cons_zero, List.setIfInBounds_toArray, List.set_cons_zero, List.set_cons_succ]
    refine wpAnyH_ready (rs := [3]) (by kernel_rfl) (by simp) ?_
    refine AllReadyH.cons rfl (fun KN hK => ?_) AllReadyH.nil
    go_simp
    have hbB : Below W.heap.size W (w55.alloc (.cells #[.int .i64 k, .int .i64 h, .slice A2 n2 c2] 44)) := hb5'.alloc hb5'.size _
    refine hK.out _ _ (HKS.out _ hbB) (fun hS => ?_)
    clear hK KN
    try simp only [Act.put, List.getElem_toArray, List.getElem_cons_succ, List.getElem_cons_zero, List.setIfInBounds_toArray, List.set_cons_zero, List.set_cons_succ]
    have hrowB := hrow5.kept (show Below w55.heap.size w55 (w55.alloc (.cells #[.int .i64 k, .int .i64 h, .slice A2 n2 c2] 44)) from (Below.refl _ _).alloc (Nat.le_refl _) _)
    have hPB := heap_alloc_new w55 (.cells #[.int .i64 k, .int .i64 h, .slice A2 n2 c2] 44)
    clear hrow5 hb5 hb5' hrun5
    generalize w55.alloc (.cells #[.int .i64 k, .int .i64 h, .slice A2 n2 c2] 44) = w66 at *
    generalize w55.heap.size = P6 at *
    refine wpAnyH_ready (rs := [4]) (by kernel_rfl) (by simp) ?_
    refine AllReadyH.cons rfl (fun KN hK => ?_) AllReadyH.nil
    obtain ⟨g7, cap7, w77, hrun7, hcl7, hb7⟩ := termApp2V HC.out (by omega) hbB hrowB hPB HV.out
    refine Lib.wp_append_run _ (.tmp 6) (.tmp 8) 24 24 rfl _ _ rfl rfl _ _ hrun7 ?_
    refine hK.out _ _ (HKS.out _ hb7) (fun hS => ?_)
    clear hK KN
    try simp only [Act.put, List.getElem_toArray, List.getElem_cons_succ, List.getElem_cons_zero, List.setIfInBounds_toArray, List.set_cons_zero, List.set_cons_succ]
    clear hbB hrowB hPB hrun7
    refine wpAnyH_take (i := 5) (v := .slice (some ⟨g7, 0, none⟩) (nc + 1) cap7) rfl (by kernel_rfl) (by kernel_rfl) (by kernel_rfl) (fun _ _ _ h => h) (Or.inl ⟨by kernel_rfl, ?_⟩) hS ?_
    · intro w' hSw
      obtain ⟨s0, s1, s2⟩ := hSw
      go_simp
    try simp only [Act.put, List.getElem_toArray, List.getElem_cons_succ, List.getElem_cons_zero, List.setIfInBounds_toArray, List.set_cons_zero, List.set_cons_succ]
    refine wpAnyH_done (by kernel_rfl) ?_ _
    try simp only [List.setIfInBounds_toArray]
    try simp only [List.getElem_toArray, List.getElem_cons_succ, List.getElem_cons_zero, List.setIfInBounds_toArray, List.set_cons_zero, List.set_cons_succ]
    have HBF := Lib.hid (HB.out.trans (hb7.mono HB.out.size))
    have HC7 := Lib.hid hcl7
    clear hb7 hcl7 hS HKS hbd
    go_wp2_with fail
    go_ret
    exact ⟨_, _, rfl, HC7.out, HBF.out⟩
  · go_simp
    have hb5 : Below W.heap.size W (W.alloc (.cells #[.int .i64 k, .int .i64 h, .slice A2 n2 c2] 44)).drew := ((Below.refl _ W).alloc (Nat.le_refl _) _).drew
    refine hK.out _ _ (HKS.out _ hb5) (fun hS => ?_)
    clear hK KN
    try simp only [Act.put, List.getElem_toArray, List.getElem_cons_succ, List.getElem_cons_zero, List.setIfInBounds_toArray, List.set_cons_zero, List.set_cons_succ]
    have hP5 : (W.alloc (.cells #[.int .i64 k, .int .i64 h, .slice A2 n2 c2] 44)).drew.heap[W.heap.size]? = some (.cells #[.int .i64 k, .int .i64 h, .slice A2 n2 c2] 44 (0, 0)) := heap_alloc_new W _
    have hl5 : W.heap.size < (W.alloc (.cells #[.int .i64 k, .int .i64 h, .slice A2 n2 c2] 44)).drew.heap.size := (Array.getElem?_eq_some_iff.1 hP5).1
    obtain ⟨P6, hP6⟩ : ∃ p, W.heap.size = p := ⟨_, rfl⟩
    rw [hP6] at hP5 hl5
    try rw [hP6]
    clear hP6
    generalize (W.alloc (.cells #[.int .i64 k, .int .i64 h, .slice A2 n2 c2] 44)).drew = w55 at *
    refine wpAnyH_ready (rs := [1]) (by kernel_rfl) (by simp) ?_
    refine AllReadyH.cons rfl (fun KN hK => ?_) AllReadyH.nil
    obtain ⟨A5, c5, w66, olds5, hrun5, hrowB, hb6⟩ := termApp1V HC.out (by omega) hb5
    have hbB := hb5.trans (hb6.mono hb5.size)
    refine Lib.wp_append_run _ (.const (.slice none 0 0)) (.tmp 5) 24 24 rfl _ _ rfl rfl _ _ hrun5 ?_
    refine hK.out _ _ (HKS.out _ hbB) (fun hS => ?_)
    clear hK KN
    try simp only [Act.put, List.getElem_toArray, List.getElem_cons_succ, List.getElem_cons_zero, List.setIfInBounds_toArray, List.set_cons_zero, List.set_cons_succ]
    have hPB := (hb6.block P6 hl5).trans hP5
    clear hb5 hP5 hl5 hb6 hrun5
    refine wpAnyH_ready (rs := [4]) (by kernel_rfl) (by simp) ?_
    refine AllReadyH.cons rfl (fun KN hK => ?_) AllReadyH.nil
    obtain ⟨g7, cap7, w77, hrun7, hcl7, hb7⟩ := termApp2V HC.out (by omega) hbB hrowB hPB HV.out
    refine Lib.wp_append_run _ (.tmp 6) (.tmp 8) 24 24 rfl _ _ rfl rfl _ _ hrun7 ?_
    refine hK.out _ _ (HKS.out _ hb7) (fun hS => ?_)
    clear hK KN
    try simp only [Act.put, List.getElem_toArray, List.getElem_cons_succ, List.getElem_cons_zero, List.setIfInBounds_toArray, List.set_cons_zero, List.set_cons_succ]
    clear hbB hrowB hPB hrun7
    refine wpAnyH_take (i := 5) (v := .slice (some ⟨g7, 0, none⟩) (nc + 1) cap7) rfl (by kernel_rfl) (by kernel_rfl) (by kernel_rfl) (fun _ _ _ h => h) (Or.inl ⟨by kernel_rfl, ?_⟩) hS ?_
    · intro w' hSw
      obtain ⟨s0, s1, s2⟩ := hSw
      go_simp
    try simp only [Act.put, List.getElem_toArray, List.getElem_cons_succ, List.getElem_cons_zero, List.setIfInBounds_toArray, List.set_cons_zero, List.set_cons_succ]
    refine wpAnyH_done (by kernel_rfl) ?_ _
    try simp only [List.setIfInBounds_toArray]
    try simp only [List.getElem_toArray, List.getElem_cons_succ, List.getElem_cons_zero, List.setIfInBounds_toArray, List.set_cons_zero, List.set_cons_succ]
    have HBF := Lib.hid (HB.out.trans (hb7.mono HB.out.size))
    have HC7 := Lib.hid hcl7
    clear hb7 hcl7 hS HKS hbd
    go_wp2_with fail
    go_ret
    exact ⟨_, _, rfl, HC7.out, HBF.out⟩
end Go.Proofs.YtloeainlpcnhnaaGreat
/-
  Contract of the document's own spine of layer 10, given that of term for what is in it. No statement is proved here.
-/
namespace Go.Proofs.YtloeainlpcnhnaaGreat
open Go.ChangeShapes Go.WideShapes Go.ChangeAt Go.RowKit
set_option linter.unusedVariables false
abbrev PwE (w : World) (pw : Nat) (As : Option Addr) (ns cs : Nat) (Am : Option Addr) (nm cm : Nat) : Prop := Box w pw 84 #[.slice As ns cs, .slice Am nm cm]
/-- the contract of term, for one term -/
def TmE (W : WV) (m : T) : Prop := ∀ (cx : List T) (a : T) (B : Int) (As : Option Addr) (ns cs : Nat) (Am : Option Addr) (nm cm : Nat) (Ac : Option Addr) (nc cc : Nat) (pw : Nat) (vm va : Value) (w : World),
  EnvV W cx B → WkV W m → BdV B a → B + nd m * dlV ≤ hiV → cx.length + nd m ≤ 100000 → CkV w W cx As ns cs Am nm cm Ac nc cc → PwE w pw As ns cs Am nm cm → Rd w m vm → Rd w a va →
    Calls Tryz.prog 92 #[.pointer (some ⟨pw, 0, none⟩), .slice Ac nc cc, vm, va] w fun e w' => e = .returned (.int .i64 (tmV W m cx a)) ∧ Below w.heap.size w w'
/-- what a spine tells: a term that lies outside Z -/
def SpX (Z : Nat → Prop) (r : Except Int T) (w : World) (e : Ending) (w' : World) : Prop :=
  ∃ k h A n c, e = .returned (.tuple #[.agg #[.int .i64 k, .int .i64 h, .slice A n c], .int .i64 (erV r)]) ∧ (∀ t, r = .ok t → RX Z w' t (.agg #[.int .i64 k, .int .i64 h, .slice A n c])) ∧ Below w.heap.size w w'
abbrev Z2 (Z : Nat → Prop) (N : Nat) (b : Nat) : Prop := Z b ∨ b = N ∨ b = N + 1
structure SpIE (Z : Nat → Prop) (W : WV) (xs cx : List T) (t0 : T) (B : Int) (w : World) (j : Nat) (wr : World) (t' : T) (B' : Int) (k h : Int) (At : Option Addr) (nt ct : Nat) : Prop where
  tb : Box wr w.heap.size 44 #[.int .i64 k, .int .i64 h, .slice At nt ct]
  rb : Box wr (w.heap.size + 1) 44 #[.int .i64 0, .int .i64 0, .slice none 0 0]
  below : Below w.heap.size w wr
  rd : RX (Z2 Z w.heap.size) wr t' (.agg #[.int .i64 k, .int .i64 h, .slice At nt ct])
  bd : BdV B' t'
  lo : B ≤ B'
  hi : B' + ndL (xs.drop j) * dlV ≤ hiV
  eq : spV W xs cx t0 = spV W (xs.drop j) cx t'
theorem rx_any {Z : Nat → Prop} {w w' : World} {t : T} {v : Value} (h : Rd w t v) (hb : Below w.heap.size w w') (hz : ∀ b, Z b → w.heap.size ≤ b) : RX Z w' t v :=
  RdF.moveX (fun b hl _ => ⟨fun z => by have := hz b z; omega, hb.block b hl⟩) _ _ (rdF_anyQ _ _ h)
theorem RX.keepE {Z Z' : Nat → Prop} {w w' : World} {t : T} {v : Value} (h : RX Z w t v) (hb : Below w.heap.size w w') (hz : ∀ b, Z' b → Z b ∨ w.heap.size ≤ b) : RX Z' w' t v :=
  RdF.moveX (fun b hok hl => ⟨fun z => by rcases hz b z with h | h; exact hok h; omega, hb.block b hl⟩) _ _ h
theorem RdF.keepE {Z Z' : Nat → Prop} {w w' : World} {t : T} {v : Value} (h : RdF (fun b => ¬ Z b) w t v) (hb : Below w.heap.size w w') (hz : ∀ b, Z' b → Z b ∨ w.heap.size ≤ b) : RX Z' w' t v := RX.keepE h hb hz
theorem spX_put {Z : Nat → Prop} {w wr : World} {r : Except Int T} {t : T} {k h : Int} {A : Option Addr} {n c : Nat} (hr : r = .ok t) (hd : RX (Z2 Z w.heap.size) wr t (.agg #[.int .i64 k, .int .i64 h, .slice A n c])) (hb : Below w.heap.size w wr) (u0 u1 u2 : Value) :
    SpX Z r w (.returned (.tuple #[.agg #[.int .i64 k, .int .i64 h, .slice A n c], .int .i64 0])) (((wr.setCell ⟨w.heap.size + 1, 0, none⟩ u0).setCell ⟨w.heap.size + 1, 1, none⟩ u1).setCell ⟨w.heap.size + 1, 2, none⟩ u2) := by
  subst hr
  refine ⟨k, h, A, n, c, rfl, fun t' e => ?_, below_set3 hb (by omega) _ _ _⟩
  cases e
  exact RdF.moveX (fun b hok hl => ⟨fun z => hok (.inl z), heap_other3 _ _ _ _ _ _ (fun e => hok (.inr (.inr e)))⟩) _ _ hd
theorem ap_fit {q x : T} {w : World} {Z : Nat → Prop} {vq : Value} {P : Nat} {ty : TypeId} {kx hx : Int} {Ax : Option Addr} {nx cx : Nat} (bq : BdV hiV q) (bx : BdV hiV x) (hq : RX Z w q vq) (hP : Box w P ty #[.int .i64 kx, .int .i64 hx, .slice Ax nx cx]) (hxr : RX Z w x (.agg #[.int .i64 kx, .int .i64 hx, .slice Ax nx cx])) (hPz : ¬ Z P) (hZ : ∀ b, Z b → b < w.heap.size) :
    Calls Tryz.prog 99 #[vq, .agg #[.slice (some ⟨P, 0, none⟩) 1 1, .int .i64 0]] w (RZn Z (apT q [x] 0) (apE q [x] 0) w) := by
  have n1 := ((myB_iff q).1 bq.my).2.1
  have n2 := ((myB_iff x).1 bx.my).2.1
  refine rApplyX hZ hq (⟨rfl, Nat.le_refl _, by unfold maxLen; omega, fun i t ht => ?_⟩ : RXL Z w [x] (some ⟨P, 0, none⟩) 1 1) (by omega) (fun y hy => by rw [List.mem_singleton.1 hy]; omega) (fun _ => bq.ok) (fun y hy _ => by rw [List.mem_singleton.1 hy]; exact bx.ok)
  match i, ht with
  | 0, ht =>
    cases ht
    exact ⟨P, 0, _, _, _, rfl, hPz, hP.cell 0, hP.cell 1, hP.cell 2, hxr⟩
  | i + 1, ht => simp at ht
theorem rx_pi {Z : Nat → Prop} {w : World} {h : Int} {a b : T} {v : Value} (hv : RX Z w (.node 1 h [a, b]) v) : ∃ bb o c, v = .agg #[.int .i64 1, .int .i64 h, .slice (some ⟨bb, o, none⟩) 2 c] ∧ 2 ≤ c ∧ c ≤ maxLen ∧
    (∃ k g A n c', w.cell? ⟨bb, o, none⟩ = some (.int .i64 k) ∧ w.cell? ⟨bb, o + 1, none⟩ = some (.int .i64 g) ∧ w.cell? ⟨bb, o + 2, none⟩ = some (.slice A n c') ∧ RX Z w a (.agg #[.int .i64 k, .int .i64 g, .slice A n c'])) ∧
    (∃ k g A n c', w.cell? ⟨bb, o + 3, none⟩ = some (.int .i64 k) ∧ w.cell? ⟨bb, o + 4, none⟩ = some (.int .i64 g) ∧ w.cell? ⟨bb, o + 5, none⟩ = some (.slice A n c') ∧ RX Z w b (.agg #[.int .i64 k, .int .i64 g, .slice A n c'])) := by
  obtain ⟨A, n, c, rfl, _, _, h3, h4, h5, h6⟩ := RdF_node.1 hv
  obtain ⟨b0, o0, k, g, A1, n1, c1, rfl, d0, d1, d2, hr⟩ := (h6 0 a rfl).full
  obtain ⟨b1, o1, k', g', A1', n1', c1', e, f0, f1, f2, hr'⟩ := (h6 1 b rfl).full
  cases e
  simp at h3
  subst h3
  exact ⟨b0, o0, c, rfl, h4, h5, ⟨_, _, _, _, _, by simpa using d0, by simpa using d1, by simpa using d2, hr⟩, ⟨_, _, _, _, _, by simpa using f0, by simpa using f1, by simpa using f2, hr'⟩⟩
set_option maxRecDepth 100000 in
set_option maxHeartbeats 16000000 in
theorem eSpineC {Z : Nat → Prop} {W : WV} {xs cx : List T} {t : T} {B B0 : Int} (ih : ∀ x ∈ xs, TmE W x) (E : EnvV W cx B) (hxs : ∀ x ∈ xs, WkV W x) (ht : BdV B0 t) (hB : B ≤ B0) (hsum : B0 + ndL xs * dlV ≤ hiV) (hlen : cx.length + ndL xs ≤ 100000)
    {As : Option Addr} {ns cs : Nat} {Am : Option Addr} {nm cm : Nat} {Ac : Option Addr} {nc cc : Nat} {A : Option Addr} {n c : Nat} {k h : Int} {At : Option Addr} {nt ct pw : Nat} (w : World) (hk : CkV w W cx As ns cs Am nm cm Ac nc cc) (hp : PwE w pw As ns cs Am nm cm) (hx : RXL Z w xs A n c) (hv : RX Z w t (.agg #[.int .i64 k, .int .i64 h, .slice At nt ct])) (hZ : ∀ b, Z b → b < w.heap.size) :
    Calls Tryz.prog 86 #[.pointer (some ⟨pw, 0, none⟩), .slice Ac nc cc, .agg #[.int .i64 k, .int .i64 h, .slice At nt ct], .slice A n c] w (SpX Z (spV W xs cx t) w) := by
  have hcap := hx.cap
  have hle := hx.le
  unfold maxLen at hcap
  obtain ⟨W0, hW⟩ : ∃ W0, (w.alloc (.cells #[.int .i64 k, .int .i64 h, .slice At nt ct] 44)).alloc (.cells #[.int .i64 0, .int .i64 0, .slice none 0 0] 44) = W0 := ⟨_, rfl⟩
  have hb : Below w.heap.size w W0 := by rw [← hW]; exact ((Below.refl _ _).alloc (Nat.le_refl _) _).alloc (by simp) _
  have x1 : Box W0 w.heap.size 44 #[.int .i64 k, .int .i64 h, .slice At nt ct] := by rw [← hW]; exact (Box.new _ _ _).alloc _
  have x2 : Box W0 (w.heap.size + 1) 44 #[.int .i64 0, .int .i64 0, .slice none 0 0] := by rw [← hW]; exact (Box.new (w.alloc _) _ _).at (by simp)
  have hrd : RX (Z2 Z w.heap.size) W0 t (.agg #[.int .i64 k, .int .i64 h, .slice At nt ct]) := hv.keepE hb (fun b z => by rcases z with z | z | z; exact .inl z; exact .inr (by omega); exact .inr (by omega))
  have HI0 : Hid (SpIE Z W xs cx t B w 0 W0 t B0 k h At nt ct) := Lib.hid ⟨x1, x2, hb, hrd, ht, hB, by rw [List.drop_zero]; exact hsum, by rw [List.drop_zero]⟩
  have HK := Lib.hid hk; clear hk
  have HP := Lib.hid hp; clear hp
  have HX := Lib.hid hx; clear hx
  have HIH := Lib.hid ih; clear ih
  have HXS := Lib.hid hxs; clear hxs
  have HE := Lib.hid E; clear E
  have HLN := Lib.hid hlen; clear hlen
  have HZ := Lib.hid hZ; clear hZ
  obtain ⟨R, hR⟩ : ∃ R, spV W xs cx t = R := ⟨_, rfl⟩
  have HR := Lib.hid hR
  rw [hR]
  clear hR hv ht hB hsum hb hrd x1 x2
  go_enter Tryz.func86, Tryz.ntmps86
  go_wp2_with fail
  try rw [hW]
  clear hW
  go_wp2_with fail
  go_loopw [10] (fun i wr => ∃ (j : Nat) (t' : T) (B' : Int) (k' h' : Int) (At' : Option Addr) (nt' ct' : Nat), j ≤ n ∧ i = .int .i64 j ∧ Hid (SpIE Z W xs cx t B w j wr t' B' k' h' At' nt' ct')) (fun i _ => n - (Go.RowKit.intOf i).toNat)
  case atStart => exact ⟨0, t, B0, k, h, At, nt, ct, Nat.zero_le _, rfl, HI0⟩
  case round =>
    clear HI0
    obtain ⟨j, t', B', k', h', At', nt', ct', hj, rfl, HI⟩ := hrel
    have hkd := (rdF_kind (RX.rd HI.out.rd)).1
    by_cases hlt : j < n
    · obtain ⟨x, ht⟩ := at_of HX.out.len hlt
      obtain ⟨b, o, k2, h2, A2, n2, c2', rfl, e0, e1, e2, hr⟩ := (HX.out.at_ j x ht).full
      have hi0 : (0 : Int) ≤ j := by omega
      have hi1 : (j : Int) < n := by omega
      have dj : decide ((j : Int) < (n : Int)) = true := by simp; omega
      have hsj : IntKind.i64.wrap ((j : Int) + 1) = ((j + 1 : Nat) : Int) := by rw [wrapEq, wrap_small (by omega) (by omega)]; omega
      replace e0 := (HI.out.below.cell (cell_lt e0)).trans e0
      replace e1 := (HI.out.below.cell (cell_lt e1)).trans e1
      replace e2 := (HI.out.below.cell (cell_lt e2)).trans e2
      have hmem := List.mem_of_getElem? ht
      have HXJ := Lib.hid ht
      have HRX0 := Lib.hid (hr.keepE (Z' := Z2 Z w.heap.size) HI.out.below (fun b z => by rcases z with z | z | z; exact .inl z; exact .inr (by omega); exact .inr (by omega)))
      have HWK := Lib.hid (HXS.out x hmem)
      have HT := Lib.hid (HIH.out x hmem)
      have heq := HI.out.eq
      rw [drop_at ht] at heq
      have HEQ := Lib.hid (HR.out.symm.trans heq)
      have hhi := HI.out.hi
      rw [drop_at ht, ndL] at hhi
      have HHI := Lib.hid hhi
      have HNL := Lib.hid (nd_mem hmem)
      clear hr hmem heq hhi ht
      have zt := HI.out.tb
      have zr := HI.out.rb
      obtain ⟨t0, t1, t2⟩ := zt.three
      by_cases hk1 : k' = 1
      case' neg =>
        have hd : (k' != 1) = true := by simpa using hk1
        replace HEQ := Lib.hid (HEQ.out.trans (sp_no (by rw [hkd]; exact hk1)))
        clear e0 e1 e2
        obtain ⟨r0, r1, r2⟩ := zr.three
        have f0 := zr.frozen 0
        have f1 := zr.frozen 1
        have f2 := zr.frozen 2
        have lz := zr.lt
        go_wp2_with fail
        refine bodyPost_ret (v := .tuple #[.agg #[.int .i64 0, .int .i64 0, .slice none 0 0], .int .i64 3]) (by simp [results, Tryz.results86, go_sem, r0, r1, r2]) rfl ?_
        rw [HEQ.out]
        exact ⟨_, _, _, _, _, rfl, (fun t e => nomatch e), below_set3 HI.out.below (by omega) _ _ _⟩
      subst hk1
      go_wp2_with fail
      obtain ⟨p, q, rfl, hbp, hbq⟩ := HI.out.bd.pi hkd
      obtain ⟨bb, ob, cb, ev, hc2, hcm2, ⟨kp, hp, Ap, np, cp, p0, p1, p2, hrp⟩, ⟨kq, hq, Aq, nq, cq, q0, q1, q2, hrq⟩⟩ := rx_pi HI.out.rd
      have ev' : h' = 0 ∧ At' = some ⟨bb, ob, none⟩ ∧ nt' = 2 ∧ ct' = cb := by simpa using ev
      obtain ⟨rfl, rfl, rfl, rfl⟩ := ev'
      unfold maxLen at hcm2
      have HBQ0 := Lib.hid hbq
      have HRQ0 := Lib.hid hrq
      obtain ⟨e1v, he1⟩ : ∃ e, tmV W x cx p = e := ⟨_, rfl⟩
      have HTC := Lib.hid (fun (W' : World) (h' : Below wr.heap.size wr W') => HT.out cx p B' As ns cs Am nm cm Ac nc cc pw _ _ W' (HE.out.mono HI.out.lo) HWK.out hbp (by have := HHI.out; unfold dlV at *; omega) (by have := HLN.out; have := HNL.out; omega) (HK.out.keep (HI.out.below.trans (h'.mono HI.out.below.size))) (HP.out.keep (HI.out.below.trans (h'.mono HI.out.below.size)) HP.out.lt) (Rd.keep h' _ _ (RX.rd HRX0.out)) (Rd.keep h' _ _ (RX.rd hrp)))
      rw [he1] at HTC
      have HE1 := Lib.hid he1
      clear ev hbp hbq hrp hrq he1 hkd t0 t1
      have HKS : Hid (∀ w' : World, Below wr.heap.size wr w' → (fun w' => w'.cell? ⟨b, o + j * 3, none⟩ = some (.int .i64 k2) ∧ w'.cell? ⟨b, o + j * 3 + 1, none⟩ = some (.int .i64 h2) ∧ w'.cell? ⟨b, o + j * 3 + 2, none⟩ = some (.slice A2 n2 c2') ∧ w'.cell? ⟨w.heap.size, 2, none⟩ = some (.slice (some ⟨bb, ob, none⟩) 2 ct') ∧ w'.cell? ⟨bb, ob, none⟩ = some (.int .i64 kp) ∧ w'.cell? ⟨bb, ob + 1, none⟩ = some (.int .i64 hp) ∧ w'.cell? ⟨bb, ob + 2, none⟩ = some (.slice Ap np cp)) w') := Lib.hid fun w' h => ⟨(h.cell (cell_lt e0)).trans e0, (h.cell (cell_lt e1)).trans e1, (h.cell (cell_lt e2)).trans e2, (h.cell (cell_lt t2)).trans t2, (h.cell (cell_lt p0)).trans p0, (h.cell (cell_lt p1)).trans p1, (h.cell (cell_lt p2)).trans p2⟩
      have hbd : Below wr.heap.size wr wr.drew := (Below.refl _ wr).drew
      refine wp_region_held_drew (S := fun w' => w'.cell? ⟨b, o + j * 3, none⟩ = some (.int .i64 k2) ∧ w'.cell? ⟨b, o + j * 3 + 1, none⟩ = some (.int .i64 h2) ∧ w'.cell? ⟨b, o + j * 3 + 2, none⟩ = some (.slice A2 n2 c2') ∧ w'.cell? ⟨w.heap.size, 2, none⟩ = some (.slice (some ⟨bb, ob, none⟩) 2 ct') ∧ w'.cell? ⟨bb, ob, none⟩ = some (.int .i64 kp) ∧ w'.cell? ⟨bb, ob + 1, none⟩ = some (.int .i64 hp) ∧ w'.cell? ⟨bb, ob + 2, none⟩ = some (.slice Ap np cp)) (by kernel_rfl) (HKS.out _ hbd) (fun hS => ?_)
      simp only [List.size_toArray, List.length_cons, List.length_nil, Nat.reduceAdd]
      refine wpAnyH_take (i := 0) (v := .pointer (some ⟨pw, 0, none⟩)) rfl (by kernel_rfl) (by kernel_rfl) (by kernel_rfl) (fun _ _ _ h => h) (Or.inl ⟨by kernel_rfl, ?_⟩) hS ?_
      · intro w' hSw
        obtain ⟨s0, s1, s2, s3, s4, s5, s6⟩ := hSw
        go_simp
      try simp only [Act.put, List.getElem_toArray, List.getElem_cons_zero, List.setIfInBounds_toArray, List.set_cons_zero, List.set_cons_succ]
      refine wpAnyH_take (i := 1) (v := .slice Ac nc cc) rfl (by kernel_rfl) (by kernel_rfl) (by kernel_rfl) (fun _ _ _ h => h) (Or.inl ⟨by kernel_rfl, ?_⟩) hS ?_
      · intro w' hSw
        obtain ⟨s0, s1, s2, s3, s4, s5, s6⟩ := hSw
        go_simp
      try simp only [Act.put, List.getElem_toArray, List.getElem_cons_succ, List.getElem_cons_zero, List.setIfInBounds_toArray, List.set_cons_zero, List.set_cons_succ]
      refine wpAnyH_take (i := 2) (v := .slice (some ⟨b, o, none⟩) n c) rfl (by kernel_rfl) (by kernel_rfl) (by kernel_rfl) (fun _ _ _ h => h) (Or.inl ⟨by kernel_rfl, ?_⟩) hS ?_
      · intro w' hSw
        obtain ⟨s0, s1, s2, s3, s4, s5, s6⟩ := hSw
        go_simp
      try simp only [Act.put, List.getElem_toArray, List.getElem_cons_succ, List.getElem_cons_zero, List.setIfInBounds_toArray, List.set_cons_zero, List.set_cons_succ]
      refine wpAnyH_take (i := 3) (v := .int .i64 j) rfl (by kernel_rfl) (by kernel_rfl) (by kernel_rfl) (fun _ _ _ h => h) (Or.inl ⟨by kernel_rfl, ?_⟩) hS ?_
      · intro w' hSw
        obtain ⟨s0, s1, s2, s3, s4, s5, s6⟩ := hSw
        go_simp
      try simp only [Act.put, List.getElem_toArray, List.getElem_cons_succ, List.getElem_cons_zero, List.setIfInBounds_toArray, List.set_cons_zero, List.set_cons_succ]
      refine wpAnyH_take (i := 4) (v := .pointer (some ⟨b, o + j * 3, none⟩)) rfl (by kernel_rfl) (by kernel_rfl) (by kernel_rfl) (fun _ _ _ h => h) (Or.inl ⟨by kernel_rfl, ?_⟩) hS ?_
      · intro w' hSw
        obtain ⟨s0, s1, s2, s3, s4, s5, s6⟩ := hSw
        go_simp
      try simp only [Act.put, List.getElem_toArray, List.getElem_cons_succ, List.getElem_cons_zero, List.setIfInBounds_toArray, List.set_cons_zero, List.set_cons_succ]
      refine wpAnyH_take (i := 5) (v := .agg #[.int .i64 k2, .int .i64 h2, .slice A2 n2 c2']) rfl (by kernel_rfl) (by kernel_rfl) (by kernel_rfl) (fun _ _ _ h => h) (Or.inl ⟨by kernel_rfl, ?_⟩) hS ?_
      · intro w' hSw
        obtain ⟨s0, s1, s2, s3, s4, s5, s6⟩ := hSw
        go_simp
      try simp only [Act.put, List.getElem_toArray, List.getElem_cons_succ, List.getElem_cons_zero, List.setIfInBounds_toArray, List.set_cons_zero, List.set_cons_succ]
      refine wpAnyH_take (i := 6) (v := .pointer (some ⟨w.heap.size, 2, none⟩)) rfl (by kernel_rfl) (by kernel_rfl) (by kernel_rfl) (fun _ _ _ h => h) (Or.inl ⟨by kernel_rfl, ?_⟩) hS ?_
      · intro w' hSw
        obtain ⟨s0, s1, s2, s3, s4, s5, s6⟩ := hSw
        go_simp
      try simp only [Act.put, List.getElem_toArray, List.getElem_cons_succ, List.getElem_cons_zero, List.setIfInBounds_toArray, List.set_cons_zero, List.set_cons_succ]
      refine wpAnyH_take (i := 7) (v := .slice (some ⟨bb, ob, none⟩) 2 ct') rfl (by kernel_rfl) (by kernel_rfl) (by kernel_rfl) (fun _ _ _ h => h) (Or.inl ⟨by kernel_rfl, ?_⟩) hS ?_
      · intro w' hSw
        obtain ⟨s0, s1, s2, s3, s4, s5, s6⟩ := hSw
        go_simp
      try simp only [Act.put, List.getElem_toArray, List.getElem_cons_succ, List.getElem_cons_zero, List.setIfInBounds_toArray, List.set_cons_zero, List.set_cons_succ]
      refine wpAnyH_take (i := 8) (v := .pointer (some ⟨bb, ob, none⟩)) rfl (by kernel_rfl) (by kernel_rfl) (by kernel_rfl) (fun _ _ _ h => h) (Or.inl ⟨by kernel_rfl, ?_⟩) hS ?_
      · intro w' hSw
        obtain ⟨s0, s1, s2, s3, s4, s5, s6⟩ := hSw
        go_simp
      try simp only [Act.put, List.getElem_toArray, List.getElem_cons_succ, List.getElem_cons_zero, List.setIfInBounds_toArray, List.set_cons_zero, List.set_cons_succ]
      refine wpAnyH_take (i := 9) (v := .agg #[.int .i64 kp, .int .i64 hp, .slice Ap np cp]) rfl (by kernel_rfl) (by kernel_rfl) (by kernel_rfl) (fun _ _ _ h => h) (Or.inl ⟨by kernel_rfl, ?_⟩) hS ?_
      · intro w' hSw
        obtain ⟨s0, s1, s2, s3, s4, s5, s6⟩ := hSw
        go_simp
      try simp only [Act.put, List.getElem_toArray, List.getElem_cons_succ, List.getElem_cons_zero, List.setIfInBounds_toArray, List.set_cons_zero, List.set_cons_succ]
      refine wpAnyH_ready (rs := [10]) (by kernel_rfl) (by simp) ?_
      refine AllReadyH.cons rfl (fun KN hK => ?_) AllReadyH.nil
      go_simp
      refine (HTC.out _ hbd).mono ?_
      rintro e w4 ⟨rfl, hb6⟩
      have hb4 : Below wr.heap.size wr w4 := hbd.trans (hb6.mono hbd.size)
      refine hK.out _ _ (HKS.out _ hb4) (fun hS => ?_)
      clear hK KN
      try simp only [Act.put, List.getElem_toArray, List.getElem_cons_succ, List.getElem_cons_zero, List.setIfInBounds_toArray, List.set_cons_zero, List.set_cons_succ]
      refine wpAnyH_take (i := 11) (v := .int .i64 e1v) rfl (by kernel_rfl) (by kernel_rfl) (by kernel_rfl) (fun _ _ _ h => h) (Or.inl ⟨by kernel_rfl, ?_⟩) hS ?_
      · intro w' hSw
        obtain ⟨s0, s1, s2, s3, s4, s5, s6⟩ := hSw
        go_simp
      try simp only [Act.put, List.getElem_toArray, List.getElem_cons_succ, List.getElem_cons_zero, List.setIfInBounds_toArray, List.set_cons_zero, List.set_cons_succ]
      refine wpAnyH_done (by kernel_rfl) ?_ _
      try simp only [List.setIfInBounds_toArray]
      try simp only [List.getElem_toArray, List.getElem_cons_succ, List.getElem_cons_zero, List.setIfInBounds_toArray, List.set_cons_zero, List.set_cons_succ]
      have HB4 := Lib.hid (HI.out.below.trans (hb4.mono HI.out.below.size))
      have zt4 := zt.keep hb4 zt.lt
      have zr4 := zr.keep hb4 zr.lt
      by_cases hz : e1v = 0
      case' neg =>
        have hd : (e1v != 0) = true := by simpa using hz
        replace HEQ := Lib.hid (HEQ.out.trans (sp_e1 HE1.out hz))
        clear hS HKS hbd hb4 hb6 e0 e1 e2 t2 p0 p1 p2 q0 q1 q2 HTC
        obtain ⟨r0, r1, r2⟩ := zr4.three
        have f0 := zr4.frozen 0
        have f1 := zr4.frozen 1
        have f2 := zr4.frozen 2
        have lz := zr4.lt
        go_wp2_with fail
        refine bodyPost_ret (v := .tuple #[.agg #[.int .i64 0, .int .i64 0, .slice none 0 0], .int .i64 e1v]) (by simp [results, Tryz.results86, go_sem, r0, r1, r2]) rfl ?_
        rw [HEQ.out]
        exact ⟨_, _, _, _, _, rfl, (fun t e => nomatch e), below_set3 HB4.out (by omega) _ _ _⟩
      subst hz
      have hdz : ((0 : Int) != 0) = false := by decide
      replace e0 := (hb4.cell (cell_lt e0)).trans e0
      replace e1 := (hb4.cell (cell_lt e1)).trans e1
      replace e2 := (hb4.cell (cell_lt e2)).trans e2
      replace t2 := (hb4.cell (cell_lt t2)).trans t2
      replace q0 := (hb4.cell (cell_lt q0)).trans q0
      replace q1 := (hb4.cell (cell_lt q1)).trans q1
      replace q2 := (hb4.cell (cell_lt q2)).trans q2
      have HRQ := Lib.hid (HRQ0.out.keepE hb4 (fun b z => .inl z))
      have HRX := Lib.hid (HRX0.out.keepE hb4 (fun b z => .inl z))
      have HZ2 := Lib.hid (show ∀ b, Z2 Z w.heap.size b → b < w4.heap.size from fun b z => by
        have := zr4.lt
        rcases z with z | z | z
        · have := HZ.out b z; omega
        · omega
        · omega)
      have hlx : BdV loV x := ⟨HWK.out.my, tm_low HWK.out.my (by have := HLN.out; omega) HE1.out⟩
      have HBX0 := Lib.hid (hlx.mono (show loV ≤ B' by have := HE.out.lo; have := HI.out.lo; omega))
      have HBX := Lib.hid (hlx.mono (show loV ≤ hiV by unfold loV hiV; omega))
      have HBQ := Lib.hid (HBQ0.out.mono (show B' ≤ hiV by have := HHI.out; unfold dlV at *; omega))
      obtain ⟨e2v, he2⟩ : ∃ e, apE q [x] 0 = e := ⟨_, rfl⟩
      have HE2 := Lib.hid he2
      clear hS HKS hbd hb4 hb6 p0 p1 p2 HTC he2 hlx zt zr
      go_wp2_with fail
      clear hdz
      have HKS : Hid (∀ w' : World, Below w4.heap.size w4 w' → (fun w' => w'.cell? ⟨b, o + j * 3, none⟩ = some (.int .i64 k2) ∧ w'.cell? ⟨b, o + j * 3 + 1, none⟩ = some (.int .i64 h2) ∧ w'.cell? ⟨b, o + j * 3 + 2, none⟩ = some (.slice A2 n2 c2') ∧ w'.cell? ⟨w.heap.size, 2, none⟩ = some (.slice (some ⟨bb, ob, none⟩) 2 ct') ∧ w'.cell? ⟨bb, ob + 3, none⟩ = some (.int .i64 kq) ∧ w'.cell? ⟨bb, ob + 4, none⟩ = some (.int .i64 hq) ∧ w'.cell? ⟨bb, ob + 5, none⟩ = some (.slice Aq nq cq)) w') := Lib.hid fun w' h => ⟨(h.cell (cell_lt e0)).trans e0, (h.cell (cell_lt e1)).trans e1, (h.cell (cell_lt e2)).trans e2, (h.cell (cell_lt t2)).trans t2, (h.cell (cell_lt q0)).trans q0, (h.cell (cell_lt q1)).trans q1, (h.cell (cell_lt q2)).trans q2⟩
      have hbd : Below w4.heap.size w4 w4.drew := (Below.refl _ w4).drew
      refine wp_region_held_drew (S := fun w' => w'.cell? ⟨b, o + j * 3, none⟩ = some (.int .i64 k2) ∧ w'.cell? ⟨b, o + j * 3 + 1, none⟩ = some (.int .i64 h2) ∧ w'.cell? ⟨b, o + j * 3 + 2, none⟩ = some (.slice A2 n2 c2') ∧ w'.cell? ⟨w.heap.size, 2, none⟩ = some (.slice (some ⟨bb, ob, none⟩) 2 ct') ∧ w'.cell? ⟨bb, ob + 3, none⟩ = some (.int .i64 kq) ∧ w'.cell? ⟨bb, ob + 4, none⟩ = some (.int .i64 hq) ∧ w'.cell? ⟨bb, ob + 5, none⟩ = some (.slice Aq nq cq)) (by kernel_rfl) (HKS.out _ hbd) (fun hS => ?_)
      simp only [List.size_toArray, List.length_cons, List.length_nil, Nat.reduceAdd]
      refine wpAnyH_take (i := 0) (v := .pointer (some ⟨w.heap.size, 2, none⟩)) rfl (by kernel_rfl) (by kernel_rfl) (by kernel_rfl) (fun _ _ _ h => h) (Or.inl ⟨by kernel_rfl, ?_⟩) hS ?_
      · intro w' hSw
        obtain ⟨s0, s1, s2, s3, s4, s5, s6⟩ := hSw
        go_simp
      try simp only [Act.put, List.getElem_toArray, List.getElem_cons_zero, List.setIfInBounds_toArray, List.set_cons_zero, List.set_cons_succ]
      refine wpAnyH_take (i := 1) (v := .slice (some ⟨bb, ob, none⟩) 2 ct') rfl (by kernel_rfl) (by kernel_rfl) (by kernel_rfl) (fun _ _ _ h => h) (Or.inl ⟨by kernel_rfl, ?_⟩) hS ?_
      · intro w' hSw
        obtain ⟨s0, s1, s2, s3, s4, s5, s6⟩ := hSw
        go_simp
      try simp only [Act.put, List.getElem_toArray, List.getElem_cons_succ, List.getElem_cons_zero, List.setIfInBounds_toArray, List.set_cons_zero, List.set_cons_succ]
      refine wpAnyH_take (i := 2) (v := .pointer (some ⟨bb, ob + 3, none⟩)) rfl (by kernel_rfl) (by kernel_rfl) (by kernel_rfl) (fun _ _ _ h => h) (Or.inl ⟨by kernel_rfl, ?_⟩) hS ?_
      · intro w' hSw
        obtain ⟨s0, s1, s2, s3, s4, s5, s6⟩ := hSw
        go_simp
      try simp only [Act.put, List.getElem_toArray, List.getElem_cons_succ, List.getElem_cons_zero, List.setIfInBounds_toArray, List.set_cons_zero, List.set_cons_succ]
      refine wpAnyH_take (i := 3) (v := .agg #[.int .i64 kq, .int .i64 hq, .slice Aq nq cq]) rfl (by kernel_rfl) (by kernel_rfl) (by kernel_rfl) (fun _ _ _ h => h) (Or.inl ⟨by kernel_rfl, ?_⟩) hS ?_
      · intro w' hSw
        obtain ⟨s0, s1, s2, s3, s4, s5, s6⟩ := hSw
        go_simp
      try simp only [Act.put, List.getElem_toArray, List.getElem_cons_succ, List.getElem_cons_zero, List.setIfInBounds_toArray, List.set_cons_zero, List.set_cons_succ]
      refine wpAnyH_take (i := 4) (v := .slice (some ⟨b, o, none⟩) n c) rfl (by kernel_rfl) (by kernel_rfl) (by kernel_rfl) (fun _ _ _ h => h) (Or.inl ⟨by kernel_rfl, ?_⟩) hS ?_
      · intro w' hSw
        obtain ⟨s0, s1, s2, s3, s4, s5, s6⟩ := hSw
        go_simp
      try simp only [Act.put, List.getElem_toArray, List.getElem_cons_succ, List.getElem_cons_zero, List.setIfInBounds_toArray, List.set_cons_zero, List.set_cons_succ]
      refine wpAnyH_take (i := 5) (v := .int .i64 j) rfl (by kernel_rfl) (by kernel_rfl) (by kernel_rfl) (fun _ _ _ h => h) (Or.inl ⟨by kernel_rfl, ?_⟩) hS ?_
      · intro w' hSw
        obtain ⟨s0, s1, s2, s3, s4, s5, s6⟩ := hSw
        go_simp
      try simp only [Act.put, List.getElem_toArray, List.getElem_cons_succ, List.getElem_cons_zero, List.setIfInBounds_toArray, List.set_cons_zero, List.set_cons_succ]
      refine wpAnyH_take (i := 6) (v := .pointer (some ⟨b, o + j * 3, none⟩)) rfl (by kernel_rfl) (by kernel_rfl) (by kernel_rfl) (fun _ _ _ h => h) (Or.inl ⟨by kernel_rfl, ?_⟩) hS ?_
      · intro w' hSw
        obtain ⟨s0, s1, s2, s3, s4, s5, s6⟩ := hSw
        go_simp
      try simp only [Act.put, List.getElem_toArray, List.getElem_cons_succ, List.getElem_cons_zero, List.setIfInBounds_toArray, List.set_cons_zero, List.set_cons_succ]
      refine wpAnyH_take (i := 7) (v := .agg #[.int .i64 k2, .int .i64 h2, .slice A2 n2 c2']) rfl (by kernel_rfl) (by kernel_rfl) (by kernel_rfl) (fun _ _ _ h => h) (Or.inl ⟨by kernel_rfl, ?_⟩) hS ?_
      · intro w' hSw
        obtain ⟨s0, s1, s2, s3, s4, s5, s6⟩ := hSw
        go_simp
      try simp only [Act.put, List.getElem_toArray, List.getElem_cons_succ, List.getElem_cons_zero, List.setIfInBounds_toArray, List.set_cons_zero, List.set_cons_succ]
      refine wpAnyH_ready (rs := [8, 14]) (by kernel_rfl) (by simp) ?_
      refine AllReadyH.cons rfl (fun KN hK => ?_) (AllReadyH.cons rfl (fun KN hK => ?_) AllReadyH.nil)
      · go_simp
        have hPl0 : w4.heap.size ≤ w4.heap.size := Nat.le_refl _
        have hbn : Below w4.heap.size w4 ((w4.alloc (.cells #[.int .i64 k2, .int .i64 h2, .slice A2 n2 c2'] 44)).drew) := ((Below.refl _ w4).alloc (Nat.le_refl _) _).drew
        refine hK.out _ _ (HKS.out _ hbn) (fun hS => ?_)
        clear hK KN
        try simp only [Act.put, List.getElem_toArray, List.getElem_cons_succ, List.getElem_cons_zero, List.setIfInBounds_toArray, List.set_cons_zero, List.set_cons_succ]
        have zP : Box ((w4.alloc (.cells #[.int .i64 k2, .int .i64 h2, .slice A2 n2 c2'] 44)).drew) w4.heap.size 44 #[.int .i64 k2, .int .i64 h2, .slice A2 n2 c2'] := Box.drewI (Box.new _ _ _)
        obtain ⟨P, hP0⟩ : ∃ p, w4.heap.size = p := ⟨_, rfl⟩
        have hPl : w4.heap.size ≤ P := by omega
        rw [hP0] at zP
        try rw [hP0]
        clear hP0 hPl0
        generalize (w4.alloc (.cells #[.int .i64 k2, .int .i64 h2, .slice A2 n2 c2'] 44)).drew = v0 at *
        replace hbd := hbn
        clear hbn
        refine wpAnyH_take (i := 9) (v := .agg #[.slice (some ⟨P, 0, none⟩) 1 1, .int .i64 0]) rfl (by kernel_rfl) (by kernel_rfl) (by kernel_rfl) (fun _ _ _ h => h) (Or.inl ⟨by kernel_rfl, ?_⟩) hS ?_
        · intro w' hSw
          obtain ⟨s0, s1, s2, s3, s4, s5, s6⟩ := hSw
          go_simp
        try simp only [Act.put, List.getElem_toArray, List.getElem_cons_succ, List.getElem_cons_zero, List.setIfInBounds_toArray, List.set_cons_zero, List.set_cons_succ]
        refine wpAnyH_ready (rs := [10, 14]) (by kernel_rfl) (by simp) ?_
        refine AllReadyH.cons rfl (fun KN hK => ?_) (AllReadyH.cons rfl (fun KN hK => ?_) AllReadyH.nil)
        · go_simp
          have HAQ := ap_fit (Z := Z2 Z w.heap.size) HBQ.out HBX.out (HRQ.out.keepE hbd (fun b z => .inl z)) zP (HRX.out.keepE hbd (fun b z => .inl z)) (fun z => by have := HZ2.out P z; omega) (fun b z => by have := HZ2.out b z; have := hbd.size; omega)
          rw [HE2.out] at HAQ
          refine HAQ.mono ?_
          rintro e v1 ⟨k3, h3, A3, n3, c3, rfl, hrd, hb6⟩
          clear HAQ
          replace hbd : Below w4.heap.size w4 v1 := hbd.trans (hb6.mono hbd.size)
          have hrd8 := hrd
          clear hrd hb6 zP
          refine hK.out _ _ (HKS.out _ hbd) (fun hS => ?_)
          clear hK KN
          try simp only [Act.put, List.getElem_toArray, List.getElem_cons_succ, List.getElem_cons_zero, List.setIfInBounds_toArray, List.set_cons_zero, List.set_cons_succ]
          refine wpAnyH_take (i := 11) (v := .tuple #[.agg #[.int .i64 k3, .int .i64 h3, .slice A3 n3 c3], .int .i64 e2v]) rfl (by kernel_rfl) (by kernel_rfl) (by kernel_rfl) (fun _ _ _ h => h) (Or.inl ⟨by kernel_rfl, ?_⟩) hS ?_
          · intro w' hSw
            obtain ⟨s0, s1, s2, s3, s4, s5, s6⟩ := hSw
            go_simp
          try simp only [Act.put, List.getElem_toArray, List.getElem_cons_succ, List.getElem_cons_zero, List.setIfInBounds_toArray, List.set_cons_zero, List.set_cons_succ]
          refine wpAnyH_take (i := 12) (v := .agg #[.int .i64 k3, .int .i64 h3, .slice A3 n3 c3]) rfl (by kernel_rfl) (by kernel_rfl) (by kernel_rfl) (fun _ _ _ h => h) (Or.inl ⟨by kernel_rfl, ?_⟩) hS ?_
          · intro w' hSw
            obtain ⟨s0, s1, s2, s3, s4, s5, s6⟩ := hSw
            go_simp
          try simp only [Act.put, List.getElem_toArray, List.getElem_cons_succ, List.getElem_cons_zero, List.setIfInBounds_toArray, List.set_cons_zero, List.set_cons_succ]
          refine wpAnyH_take (i := 13) (v := .int .i64 e2v) rfl (by kernel_rfl) (by kernel_rfl) (by kernel_rfl) (fun _ _ _ h => h) (Or.inl ⟨by kernel_rfl, ?_⟩) hS ?_
          · intro w' hSw
            obtain ⟨s0, s1, s2, s3, s4, s5, s6⟩ := hSw
            go_simp
          try simp only [Act.put, List.getElem_toArray, List.getElem_cons_succ, List.getElem_cons_zero, List.setIfInBounds_toArray, List.set_cons_zero, List.set_cons_succ]
          refine wpAnyH_ready (rs := [14]) (by kernel_rfl) (by simp) ?_
          refine AllReadyH.cons rfl (fun KN hK => ?_) AllReadyH.nil
          go_simp
          have hpl0 : w4.heap.size ≤ v1.heap.size := hbd.size
          have hbn : Below w4.heap.size w4 (v1.alloc (.cells #[.int .i64 0, .int .i64 0, .slice none 0 0] 44)) := hbd.alloc hbd.size _
          refine hK.out _ _ (HKS.out _ hbn) (fun hS => ?_)
          clear hK KN
          try simp only [Act.put, List.getElem_toArray, List.getElem_cons_succ, List.getElem_cons_zero, List.setIfInBounds_toArray, List.set_cons_zero, List.set_cons_succ]
          have xz : Box (v1.alloc (.cells #[.int .i64 0, .int .i64 0, .slice none 0 0] 44)) v1.heap.size 44 #[.int .i64 0, .int .i64 0, .slice none 0 0] := Box.new _ _ _
          have hrd9 : RX (fun b => Z2 Z w.heap.size b ∨ b = v1.heap.size) (v1.alloc (.cells #[.int .i64 0, .int .i64 0, .slice none 0 0] 44)) (apT q [x] 0) (.agg #[.int .i64 k3, .int .i64 h3, .slice A3 n3 c3]) := RdF.moveX (fun b hok hl => ⟨fun h => h.elim hok (fun h => by omega), Below.heap_alloc _ _ _ hl⟩) _ _ hrd8
          clear hrd8
          obtain ⟨pB, hpB0⟩ : ∃ p, v1.heap.size = p := ⟨_, rfl⟩
          have hpl : w4.heap.size ≤ pB := by omega
          rw [hpB0] at xz
          rw [hpB0] at hrd9
          try rw [hpB0]
          clear hpB0 hpl0
          generalize v1.alloc (.cells #[.int .i64 0, .int .i64 0, .slice none 0 0] 44) = v2 at *
          replace hbd := hbn
          clear hbn
          obtain ⟨z0, z1, z2⟩ := xz.three
          have u0 := xz.frozen 0
          have u1 := xz.frozen 1
          have u2 := xz.frozen 2
          refine wpAnyH_ready (rs := [15]) (by kernel_rfl) (by simp) ?_
          refine AllReadyH.cons rfl (fun KN hK => ?_) AllReadyH.nil
          go_simp
          have hbF := below_set3 hbd (a := pB) hpl (.int .i64 k3) (.int .i64 h3) (.slice A3 n3 c3)
          refine hK.out _ _ (HKS.out _ hbF) (fun hS => ?_)
          clear hK KN
          try simp only [Act.put, List.getElem_toArray, List.getElem_cons_succ, List.getElem_cons_zero, List.setIfInBounds_toArray, List.set_cons_zero, List.set_cons_succ]
          have xB := xz.put3 (.int .i64 k3) (.int .i64 h3) (.slice A3 n3 c3)
          have hrdF : RX (Z2 Z w.heap.size) (((v2.setCell ⟨pB, 0, none⟩ (.int .i64 k3)).setCell ⟨pB, 1, none⟩ (.int .i64 h3)).setCell ⟨pB, 2, none⟩ (.slice A3 n3 c3)) (apT q [x] 0) (.agg #[.int .i64 k3, .int .i64 h3, .slice A3 n3 c3]) := RdF.moveX (fun b hok hl => ⟨fun z => hok (.inl z), heap_other3 _ _ _ _ _ _ (fun e => hok (.inr e))⟩) _ _ hrd9
          clear hrd9 xz hbd z0 z1 z2 u0 u1 u2
          generalize ((v2.setCell ⟨pB, 0, none⟩ (.int .i64 k3)).setCell ⟨pB, 1, none⟩ (.int .i64 h3)).setCell ⟨pB, 2, none⟩ (.slice A3 n3 c3) = Wf at *
          refine wpAnyH_take (i := 16) (v := .int .i64 e2v) rfl (by kernel_rfl) (by kernel_rfl) (by kernel_rfl) (fun _ _ _ h => h) (Or.inl ⟨by kernel_rfl, ?_⟩) hS ?_
          · intro w' hSw
            obtain ⟨s0, s1, s2, s3, s4, s5, s6⟩ := hSw
            go_simp
          try simp only [Act.put, List.getElem_toArray, List.getElem_cons_succ, List.getElem_cons_zero, List.setIfInBounds_toArray, List.set_cons_zero, List.set_cons_succ]
          refine wpAnyH_done (by kernel_rfl) ?_ _
          try simp only [List.setIfInBounds_toArray]
          try simp only [List.getElem_toArray, List.getElem_cons_succ, List.getElem_cons_zero, List.setIfInBounds_toArray, List.set_cons_zero, List.set_cons_succ]
          have HBF := Lib.hid (HB4.out.trans (hbF.mono HB4.out.size))
          have yt := zt4.keep hbF zt4.lt
          have yr := zr4.keep hbF zr4.lt
          have HRF := Lib.hid hrdF
          have hpB : w.heap.size + 1 < pB := by have := zr4.lt; omega
          clear hS HKS zt4 zr4 hbF hpl hrdF e0 e1 e2 t2 q0 q1 q2
          obtain ⟨y0, y1, y2⟩ := xB.three
          obtain ⟨t0, t1, t2⟩ := yt.three
          obtain ⟨r0, r1, r2⟩ := yr.three
          have f0 := yr.frozen 0
          have f1 := yr.frozen 1
          have f2 := yr.frozen 2
          have i0 := yt.frozen 0
          have i1 := yt.frozen 1
          have i2 := yt.frozen 2
          have lz := yr.lt
          by_cases hz2 : e2v = 0
          · subst hz2
            have hbr : BdV (B' + dlV) (apT q [x] 0) := bd_ap HBQ0.out (fun y hy => by rw [List.mem_singleton.1 hy]; exact HBX0.out) HE2.out
            have HBR := Lib.hid hbr; clear hbr
            go_wp2_with fail
            go_roundw
            case measure => simp [Go.RowKit.intOf]; omega
            case rel =>
              refine ⟨j + 1, apT q [x] 0, B' + dlV, k3, h3, A3, n3, c3, by omega, by go_num, Lib.hid ⟨yt.put3 _ _ _, yr.other3 (by omega) _ _ _, below_set3 HBF.out (by omega) _ _ _, ?_, HBR.out, ?_, ?_, ?_⟩⟩
              · exact RdF.moveX (fun b hok hl => ⟨hok, heap_other3 _ _ _ _ _ _ (fun e => hok (.inr (.inl e)))⟩) _ _ HRF.out
              · have := HI.out.lo; unfold dlV; omega
              · have := HHI.out; have h1 : 1 ≤ nd x := nd_pos x; unfold dlV hiV at *; omega
              · rw [HI.out.eq, drop_at HXJ.out, sp_go HE1.out HE2.out]
          · have hd2 : (e2v != 0) = true := by simpa using hz2
            have HE3 := Lib.hid (HEQ.out.trans (sp_e2 HE1.out HE2.out hz2))
            go_wp2_with fail
            refine bodyPost_ret (v := .tuple #[.agg #[.int .i64 0, .int .i64 0, .slice none 0 0], .int .i64 e2v]) (by simp [results, Tryz.results86, go_sem, r0, r1, r2]) rfl ?_
            rw [HE3.out]
            exact ⟨_, _, _, _, _, rfl, (fun t e => nomatch e), below_set3 HBF.out (by omega) _ _ _⟩
        · go_simp
          have hpl0 : w4.heap.size ≤ v0.heap.size := hbd.size
          have hbn : Below w4.heap.size w4 (v0.alloc (.cells #[.int .i64 0, .int .i64 0, .slice none 0 0] 44)) := hbd.alloc hbd.size _
          refine hK.out _ _ (HKS.out _ hbn) (fun hS => ?_)
          clear hK KN
          try simp only [Act.put, List.getElem_toArray, List.getElem_cons_succ, List.getElem_cons_zero, List.setIfInBounds_toArray, List.set_cons_zero, List.set_cons_succ]
          have xz : Box (v0.alloc (.cells #[.int .i64 0, .int .i64 0, .slice none 0 0] 44)) v0.heap.size 44 #[.int .i64 0, .int .i64 0, .slice none 0 0] := Box.new _ _ _
          have hne_zP : P ≠ v0.heap.size := by have := zP.lt; omega
          replace zP := zP.keep (show Below v0.heap.size v0 (v0.alloc (.cells #[.int .i64 0, .int .i64 0, .slice none 0 0] 44)) from (Below.refl _ _).alloc (Nat.le_refl _) _) zP.lt
          obtain ⟨pB, hpB0⟩ : ∃ p, v0.heap.size = p := ⟨_, rfl⟩
          have hpl : w4.heap.size ≤ pB := by omega
          rw [hpB0] at xz
          rw [hpB0] at hne_zP
          try rw [hpB0]
          clear hpB0 hpl0
          generalize v0.alloc (.cells #[.int .i64 0, .int .i64 0, .slice none 0 0] 44) = v1 at *
          replace hbd := hbn
          clear hbn
          refine wpAnyH_ready (rs := [10]) (by kernel_rfl) (by simp) ?_
          refine AllReadyH.cons rfl (fun KN hK => ?_) AllReadyH.nil
          go_simp
          have HAQ := ap_fit (Z := fun b => Z2 Z w.heap.size b ∨ b = pB) HBQ.out HBX.out (HRQ.out.keepE hbd (fun b z => z.elim .inl (fun e => .inr (by rw [e]; exact hpl)))) zP (HRX.out.keepE hbd (fun b z => z.elim .inl (fun e => .inr (by rw [e]; exact hpl)))) (fun z => z.elim (fun z => by have := HZ2.out P z; omega) (fun e => hne_zP e)) (fun b z => z.elim (fun z => by have := HZ2.out b z; have := hbd.size; omega) (fun e => by rw [e]; exact xz.lt))
          rw [HE2.out] at HAQ
          refine HAQ.mono ?_
          rintro e v2 ⟨k3, h3, A3, n3, c3, rfl, hrd, hb6⟩
          clear HAQ
          replace hbd : Below w4.heap.size w4 v2 := hbd.trans (hb6.mono hbd.size)
          replace xz := xz.keep hb6 xz.lt
          have hrd9 := hrd
          clear hrd hb6 zP
          refine hK.out _ _ (HKS.out _ hbd) (fun hS => ?_)
          clear hK KN
          try simp only [Act.put, List.getElem_toArray, List.getElem_cons_succ, List.getElem_cons_zero, List.setIfInBounds_toArray, List.set_cons_zero, List.set_cons_succ]
          refine wpAnyH_take (i := 11) (v := .tuple #[.agg #[.int .i64 k3, .int .i64 h3, .slice A3 n3 c3], .int .i64 e2v]) rfl (by kernel_rfl) (by kernel_rfl) (by kernel_rfl) (fun _ _ _ h => h) (Or.inl ⟨by kernel_rfl, ?_⟩) hS ?_
          · intro w' hSw
            obtain ⟨s0, s1, s2, s3, s4, s5, s6⟩ := hSw
            go_simp
          try simp only [Act.put, List.getElem_toArray, List.getElem_cons_succ, List.getElem_cons_zero, List.setIfInBounds_toArray, List.set_cons_zero, List.set_cons_succ]
          refine wpAnyH_take (i := 12) (v := .agg #[.int .i64 k3, .int .i64 h3, .slice A3 n3 c3]) rfl (by kernel_rfl) (by kernel_rfl) (by kernel_rfl) (fun _ _ _ h => h) (Or.inl ⟨by kernel_rfl, ?_⟩) hS ?_
          · intro w' hSw
            obtain ⟨s0, s1, s2, s3, s4, s5, s6⟩ := hSw
            go_simp
          try simp only [Act.put, List.getElem_toArray, List.getElem_cons_succ, List.getElem_cons_zero, List.setIfInBounds_toArray, List.set_cons_zero, List.set_cons_succ]
          refine wpAnyH_take (i := 13) (v := .int .i64 e2v) rfl (by kernel_rfl) (by kernel_rfl) (by kernel_rfl) (fun _ _ _ h => h) (Or.inl ⟨by kernel_rfl, ?_⟩) hS ?_
          · intro w' hSw
            obtain ⟨s0, s1, s2, s3, s4, s5, s6⟩ := hSw
            go_simp
          try simp only [Act.put, List.getElem_toArray, List.getElem_cons_succ, List.getElem_cons_zero, List.setIfInBounds_toArray, List.set_cons_zero, List.set_cons_succ]
          obtain ⟨z0, z1, z2⟩ := xz.three
          have u0 := xz.frozen 0
          have u1 := xz.frozen 1
          have u2 := xz.frozen 2
          refine wpAnyH_ready (rs := [15]) (by kernel_rfl) (by simp) ?_
          refine AllReadyH.cons rfl (fun KN hK => ?_) AllReadyH.nil
          go_simp
          have hbF := below_set3 hbd (a := pB) hpl (.int .i64 k3) (.int .i64 h3) (.slice A3 n3 c3)
          refine hK.out _ _ (HKS.out _ hbF) (fun hS => ?_)
          clear hK KN
          try simp only [Act.put, List.getElem_toArray, List.getElem_cons_succ, List.getElem_cons_zero, List.setIfInBounds_toArray, List.set_cons_zero, List.set_cons_succ]
          have xB := xz.put3 (.int .i64 k3) (.int .i64 h3) (.slice A3 n3 c3)
          have hrdF : RX (Z2 Z w.heap.size) (((v2.setCell ⟨pB, 0, none⟩ (.int .i64 k3)).setCell ⟨pB, 1, none⟩ (.int .i64 h3)).setCell ⟨pB, 2, none⟩ (.slice A3 n3 c3)) (apT q [x] 0) (.agg #[.int .i64 k3, .int .i64 h3, .slice A3 n3 c3]) := RdF.moveX (fun b hok hl => ⟨fun z => hok (.inl z), heap_other3 _ _ _ _ _ _ (fun e => hok (.inr e))⟩) _ _ hrd9
          clear hrd9 xz hbd z0 z1 z2 u0 u1 u2
          generalize ((v2.setCell ⟨pB, 0, none⟩ (.int .i64 k3)).setCell ⟨pB, 1, none⟩ (.int .i64 h3)).setCell ⟨pB, 2, none⟩ (.slice A3 n3 c3) = Wf at *
          refine wpAnyH_take (i := 16) (v := .int .i64 e2v) rfl (by kernel_rfl) (by kernel_rfl) (by kernel_rfl) (fun _ _ _ h => h) (Or.inl ⟨by kernel_rfl, ?_⟩) hS ?_
          · intro w' hSw
            obtain ⟨s0, s1, s2, s3, s4, s5, s6⟩ := hSw
            go_simp
          try simp only [Act.put, List.getElem_toArray, List.getElem_cons_succ, List.getElem_cons_zero, List.setIfInBounds_toArray, List.set_cons_zero, List.set_cons_succ]
          refine wpAnyH_done (by kernel_rfl) ?_ _
          try simp only [List.setIfInBounds_toArray]
          try simp only [List.getElem_toArray, List.getElem_cons_succ, List.getElem_cons_zero, List.setIfInBounds_toArray, List.set_cons_zero, List.set_cons_succ]
          have HBF := Lib.hid (HB4.out.trans (hbF.mono HB4.out.size))
          have yt := zt4.keep hbF zt4.lt
          have yr := zr4.keep hbF zr4.lt
          have HRF := Lib.hid hrdF
          have hpB : w.heap.size + 1 < pB := by have := zr4.lt; omega
          clear hS HKS zt4 zr4 hbF hpl hrdF e0 e1 e2 t2 q0 q1 q2
          obtain ⟨y0, y1, y2⟩ := xB.three
          obtain ⟨t0, t1, t2⟩ := yt.three
          obtain ⟨r0, r1, r2⟩ := yr.three
          have f0 := yr.frozen 0
          have f1 := yr.frozen 1
          have f2 := yr.frozen 2
          have i0 := yt.frozen 0
          have i1 := yt.frozen 1
          have i2 := yt.frozen 2
          have lz := yr.lt
          by_cases hz2 : e2v = 0
          · subst hz2
            have hbr : BdV (B' + dlV) (apT q [x] 0) := bd_ap HBQ0.out (fun y hy => by rw [List.mem_singleton.1 hy]; exact HBX0.out) HE2.out
            have HBR := Lib.hid hbr; clear hbr
            go_wp2_with fail
            go_roundw
            case measure => simp [Go.RowKit.intOf]; omega
            case rel =>
              refine ⟨j + 1, apT q [x] 0, B' + dlV, k3, h3, A3, n3, c3, by omega, by go_num, Lib.hid ⟨yt.put3 _ _ _, yr.other3 (by omega) _ _ _, below_set3 HBF.out (by omega) _ _ _, ?_, HBR.out, ?_, ?_, ?_⟩⟩
              · exact RdF.moveX (fun b hok hl => ⟨hok, heap_other3 _ _ _ _ _ _ (fun e => hok (.inr (.inl e)))⟩) _ _ HRF.out
              · have := HI.out.lo; unfold dlV; omega
              · have := HHI.out; have h1 : 1 ≤ nd x := nd_pos x; unfold dlV hiV at *; omega
              · rw [HI.out.eq, drop_at HXJ.out, sp_go HE1.out HE2.out]
          · have hd2 : (e2v != 0) = true := by simpa using hz2
            have HE3 := Lib.hid (HEQ.out.trans (sp_e2 HE1.out HE2.out hz2))
            go_wp2_with fail
            refine bodyPost_ret (v := .tuple #[.agg #[.int .i64 0, .int .i64 0, .slice none 0 0], .int .i64 e2v]) (by simp [results, Tryz.results86, go_sem, r0, r1, r2]) rfl ?_
            rw [HE3.out]
            exact ⟨_, _, _, _, _, rfl, (fun t e => nomatch e), below_set3 HBF.out (by omega) _ _ _⟩
      · go_simp
        have hpl0 : w4.heap.size ≤ w4.heap.size := Nat.le_refl _
        have hbn : Below w4.heap.size w4 ((w4.alloc (.cells #[.int .i64 0, .int .i64 0, .slice none 0 0] 44)).drew) := ((Below.refl _ w4).alloc (Nat.le_refl _) _).drew
        refine hK.out _ _ (HKS.out _ hbn) (fun hS => ?_)
        clear hK KN
        try simp only [Act.put, List.getElem_toArray, List.getElem_cons_succ, List.getElem_cons_zero, List.setIfInBounds_toArray, List.set_cons_zero, List.set_cons_succ]
        have xz : Box ((w4.alloc (.cells #[.int .i64 0, .int .i64 0, .slice none 0 0] 44)).drew) w4.heap.size 44 #[.int .i64 0, .int .i64 0, .slice none 0 0] := Box.drewI (Box.new _ _ _)
        obtain ⟨pB, hpB0⟩ : ∃ p, w4.heap.size = p := ⟨_, rfl⟩
        have hpl : w4.heap.size ≤ pB := by omega
        rw [hpB0] at xz
        try rw [hpB0]
        clear hpB0 hpl0
        generalize (w4.alloc (.cells #[.int .i64 0, .int .i64 0, .slice none 0 0] 44)).drew = v0 at *
        replace hbd := hbn
        clear hbn
        refine wpAnyH_ready (rs := [8]) (by kernel_rfl) (by simp) ?_
        refine AllReadyH.cons rfl (fun KN hK => ?_) AllReadyH.nil
        go_simp
        have hPl0 : w4.heap.size ≤ v0.heap.size := hbd.size
        have hbn : Below w4.heap.size w4 (v0.alloc (.cells #[.int .i64 k2, .int .i64 h2, .slice A2 n2 c2'] 44)) := hbd.alloc hbd.size _
        refine hK.out _ _ (HKS.out _ hbn) (fun hS => ?_)
        clear hK KN
        try simp only [Act.put, List.getElem_toArray, List.getElem_cons_succ, List.getElem_cons_zero, List.setIfInBounds_toArray, List.set_cons_zero, List.set_cons_succ]
        have zP : Box (v0.alloc (.cells #[.int .i64 k2, .int .i64 h2, .slice A2 n2 c2'] 44)) v0.heap.size 44 #[.int .i64 k2, .int .i64 h2, .slice A2 n2 c2'] := Box.new _ _ _
        have hne_zP : v0.heap.size ≠ pB := by have := xz.lt; omega
        replace xz := xz.keep (show Below v0.heap.size v0 (v0.alloc (.cells #[.int .i64 k2, .int .i64 h2, .slice A2 n2 c2'] 44)) from (Below.refl _ _).alloc (Nat.le_refl _) _) xz.lt
        obtain ⟨P, hP0⟩ : ∃ p, v0.heap.size = p := ⟨_, rfl⟩
        have hPl : w4.heap.size ≤ P := by omega
        rw [hP0] at zP
        rw [hP0] at hne_zP
        try rw [hP0]
        clear hP0 hPl0
        generalize v0.alloc (.cells #[.int .i64 k2, .int .i64 h2, .slice A2 n2 c2'] 44) = v1 at *
        replace hbd := hbn
        clear hbn
        refine wpAnyH_take (i := 9) (v := .agg #[.slice (some ⟨P, 0, none⟩) 1 1, .int .i64 0]) rfl (by kernel_rfl) (by kernel_rfl) (by kernel_rfl) (fun _ _ _ h => h) (Or.inl ⟨by kernel_rfl, ?_⟩) hS ?_
        · intro w' hSw
          obtain ⟨s0, s1, s2, s3, s4, s5, s6⟩ := hSw
          go_simp
        try simp only [Act.put, List.getElem_toArray, List.getElem_cons_succ, List.getElem_cons_zero, List.setIfInBounds_toArray, List.set_cons_zero, List.set_cons_succ]
        refine wpAnyH_ready (rs := [10]) (by kernel_rfl) (by simp) ?_
        refine AllReadyH.cons rfl (fun KN hK => ?_) AllReadyH.nil
        go_simp
        have HAQ := ap_fit (Z := fun b => Z2 Z w.heap.size b ∨ b = pB) HBQ.out HBX.out (HRQ.out.keepE hbd (fun b z => z.elim .inl (fun e => .inr (by rw [e]; exact hpl)))) zP (HRX.out.keepE hbd (fun b z => z.elim .inl (fun e => .inr (by rw [e]; exact hpl)))) (fun z => z.elim (fun z => by have := HZ2.out P z; omega) (fun e => hne_zP e)) (fun b z => z.elim (fun z => by have := HZ2.out b z; have := hbd.size; omega) (fun e => by rw [e]; exact xz.lt))
        rw [HE2.out] at HAQ
        refine HAQ.mono ?_
        rintro e v2 ⟨k3, h3, A3, n3, c3, rfl, hrd, hb6⟩
        clear HAQ
        replace hbd : Below w4.heap.size w4 v2 := hbd.trans (hb6.mono hbd.size)
        replace xz := xz.keep hb6 xz.lt
        have hrd9 := hrd
        clear hrd hb6 zP
        refine hK.out _ _ (HKS.out _ hbd) (fun hS => ?_)
        clear hK KN
        try simp only [Act.put, List.getElem_toArray, List.getElem_cons_succ, List.getElem_cons_zero, List.setIfInBounds_toArray, List.set_cons_zero, List.set_cons_succ]
        refine wpAnyH_take (i := 11) (v := .tuple #[.agg #[.int .i64 k3, .int .i64 h3, .slice A3 n3 c3], .int .i64 e2v]) rfl (by kernel_rfl) (by kernel_rfl) (by kernel_rfl) (fun _ _ _ h => h) (Or.inl ⟨by kernel_rfl, ?_⟩) hS ?_
        · intro w' hSw
          obtain ⟨s0, s1, s2, s3, s4, s5, s6⟩ := hSw
          go_simp
        try simp only [Act.put, List.getElem_toArray, List.getElem_cons_succ, List.getElem_cons_zero, List.setIfInBounds_toArray, List.set_cons_zero, List.set_cons_succ]
        refine wpAnyH_take (i := 12) (v := .agg #[.int .i64 k3, .int .i64 h3, .slice A3 n3 c3]) rfl (by kernel_rfl) (by kernel_rfl) (by kernel_rfl) (fun _ _ _ h => h) (Or.inl ⟨by kernel_rfl, ?_⟩) hS ?_
        · intro w' hSw
          obtain ⟨s0, s1, s2, s3, s4, s5, s6⟩ := hSw
          go_simp
        try simp only [Act.put, List.getElem_toArray, List.getElem_cons_succ, List.getElem_cons_zero, List.setIfInBounds_toArray, List.set_cons_zero, List.set_cons_succ]
        refine wpAnyH_take (i := 13) (v := .int .i64 e2v) rfl (by kernel_rfl) (by kernel_rfl) (by kernel_rfl) (fun _ _ _ h => h) (Or.inl ⟨by kernel_rfl, ?_⟩) hS ?_
        · intro w' hSw
          obtain ⟨s0, s1, s2, s3, s4, s5, s6⟩ := hSw
          go_simp
        try simp only [Act.put, List.getElem_toArray, List.getElem_cons_succ, List.getElem_cons_zero, List.setIfInBounds_toArray, List.set_cons_zero, List.set_cons_succ]
        obtain ⟨z0, z1, z2⟩ := xz.three
        have u0 := xz.frozen 0
        have u1 := xz.frozen 1
        have u2 := xz.frozen 2
        refine wpAnyH_ready (rs := [15]) (by kernel_rfl) (by simp) ?_
        refine AllReadyH.cons rfl (fun KN hK => ?_) AllReadyH.nil
        go_simp
        have hbF := below_set3 hbd (a := pB) hpl (.int .i64 k3) (.int .i64 h3) (.slice A3 n3 c3)
        refine hK.out _ _ (HKS.out _ hbF) (fun hS => ?_)
        clear hK KN
        try simp only [Act.put, List.getElem_toArray, List.getElem_cons_succ, List.getElem_cons_zero, List.setIfInBounds_toArray, List.set_cons_zero, List.set_cons_succ]
        have xB := xz.put3 (.int .i64 k3) (.int .i64 h3) (.slice A3 n3 c3)
        have hrdF : RX (Z2 Z w.heap.size) (((v2.setCell ⟨pB, 0, none⟩ (.int .i64 k3)).setCell ⟨pB, 1, none⟩ (.int .i64 h3)).setCell ⟨pB, 2, none⟩ (.slice A3 n3 c3)) (apT q [x] 0) (.agg #[.int .i64 k3, .int .i64 h3, .slice A3 n3 c3]) := RdF.moveX (fun b hok hl => ⟨fun z => hok (.inl z), heap_other3 _ _ _ _ _ _ (fun e => hok (.inr e))⟩) _ _ hrd9
        clear hrd9 xz hbd z0 z1 z2 u0 u1 u2
        generalize ((v2.setCell ⟨pB, 0, none⟩ (.int .i64 k3)).setCell ⟨pB, 1, none⟩ (.int .i64 h3)).setCell ⟨pB, 2, none⟩ (.slice A3 n3 c3) = Wf at *
        refine wpAnyH_take (i := 16) (v := .int .i64 e2v) rfl (by kernel_rfl) (by kernel_rfl) (by kernel_rfl) (fun _ _ _ h => h) (Or.inl ⟨by kernel_rfl, ?_⟩) hS ?_
        · intro w' hSw
          obtain ⟨s0, s1, s2, s3, s4, s5, s6⟩ := hSw
          go_simp
        try simp only [Act.put, List.getElem_toArray, List.getElem_cons_succ, List.getElem_cons_zero, List.setIfInBounds_toArray, List.set_cons_zero, List.set_cons_succ]
        refine wpAnyH_done (by kernel_rfl) ?_ _
        try simp only [List.setIfInBounds_toArray]
        try simp only [List.getElem_toArray, List.getElem_cons_succ, List.getElem_cons_zero, List.setIfInBounds_toArray, List.set_cons_zero, List.set_cons_succ]
        have HBF := Lib.hid (HB4.out.trans (hbF.mono HB4.out.size))
        have yt := zt4.keep hbF zt4.lt
        have yr := zr4.keep hbF zr4.lt
        have HRF := Lib.hid hrdF
        have hpB : w.heap.size + 1 < pB := by have := zr4.lt; omega
        clear hS HKS zt4 zr4 hbF hpl hrdF e0 e1 e2 t2 q0 q1 q2
        obtain ⟨y0, y1, y2⟩ := xB.three
        obtain ⟨t0, t1, t2⟩ := yt.three
        obtain ⟨r0, r1, r2⟩ := yr.three
        have f0 := yr.frozen 0
        have f1 := yr.frozen 1
        have f2 := yr.frozen 2
        have i0 := yt.frozen 0
        have i1 := yt.frozen 1
        have i2 := yt.frozen 2
        have lz := yr.lt
        by_cases hz2 : e2v = 0
        · subst hz2
          have hbr : BdV (B' + dlV) (apT q [x] 0) := bd_ap HBQ0.out (fun y hy => by rw [List.mem_singleton.1 hy]; exact HBX0.out) HE2.out
          have HBR := Lib.hid hbr; clear hbr
          go_wp2_with fail
          go_roundw
          case measure => simp [Go.RowKit.intOf]; omega
          case rel =>
            refine ⟨j + 1, apT q [x] 0, B' + dlV, k3, h3, A3, n3, c3, by omega, by go_num, Lib.hid ⟨yt.put3 _ _ _, yr.other3 (by omega) _ _ _, below_set3 HBF.out (by omega) _ _ _, ?_, HBR.out, ?_, ?_, ?_⟩⟩
            · exact RdF.moveX (fun b hok hl => ⟨hok, heap_other3 _ _ _ _ _ _ (fun e => hok (.inr (.inl e)))⟩) _ _ HRF.out
            · have := HI.out.lo; unfold dlV; omega
            · have := HHI.out; have h1 : 1 ≤ nd x := nd_pos x; unfold dlV hiV at *; omega
            · rw [HI.out.eq, drop_at HXJ.out, sp_go HE1.out HE2.out]
        · have hd2 : (e2v != 0) = true := by simpa using hz2
          have HE3 := Lib.hid (HEQ.out.trans (sp_e2 HE1.out HE2.out hz2))
          go_wp2_with fail
          refine bodyPost_ret (v := .tuple #[.agg #[.int .i64 0, .int .i64 0, .slice none 0 0], .int .i64 e2v]) (by simp [results, Tryz.results86, go_sem, r0, r1, r2]) rfl ?_
          rw [HE3.out]
          exact ⟨_, _, _, _, _, rfl, (fun t e => nomatch e), below_set3 HBF.out (by omega) _ _ _⟩
    · obtain rfl : j = n := by omega
      have dj : decide ((j : Int) < (j : Int)) = false := by simp
      have heq := HI.out.eq
      rw [drop_all HX.out.len (Nat.le_refl _), spV] at heq
      have HEQ := Lib.hid (HR.out.symm.trans heq); clear heq
      obtain ⟨t0, t1, t2⟩ := HI.out.tb.three
      obtain ⟨r0, r1, r2⟩ := HI.out.rb.three
      have f0 := HI.out.rb.frozen 0
      have f1 := HI.out.rb.frozen 1
      have f2 := HI.out.rb.frozen 2
      have lz := HI.out.rb.lt
      go_wp2_with fail
      refine bodyPost_ret (v := .tuple #[.agg #[.int .i64 k', .int .i64 h', .slice At' nt' ct'], .int .i64 0]) (by simp [results, Tryz.results86, go_sem, r0, r1, r2]) rfl ?_
      exact spX_put HEQ.out HI.out.rd HI.out.below _ _ _
end Go.Proofs.YtloeainlpcnhnaaGreat
/-
  Contract of the document's own term of layer 10, given that of comes. No statement is proved here.
-/
namespace Go.Proofs.YtloeainlpcnhnaaGreat
open Go.ChangeShapes Go.WideShapes Go.ChangeAt Go.RowKit
set_option linter.unusedVariables false
/-- the contract of comes, for one term -/
def CoE (W : WV) (m : T) : Prop := ∀ (cx : List T) (B : Int) (As : Option Addr) (ns cs : Nat) (Am : Option Addr) (nm cm : Nat) (Ac : Option Addr) (nc cc : Nat) (pw : Nat) (vm : Value) (w : World),
  EnvV W cx B → WkV W m → B + nd m * dlV ≤ hiV → cx.length + nd m ≤ 100000 → CkV w W cx As ns cs Am nm cm Ac nc cc → PwE w pw As ns cs Am nm cm → Rd w m vm →
    Calls Tryz.prog 106 #[.pointer (some ⟨pw, 0, none⟩), .slice Ac nc cc, vm] w (SpX (fun _ => False) (cmV W cx m) w)
def kdsE : T → List T | .node _ _ xs => xs
set_option maxRecDepth 100000 in
set_option maxHeartbeats 16000000 in
theorem eLamC {W : WV} {x : T} {hh : Int} (ih : TmE W x) (cx : List T) (a : T) (B : Int) (As : Option Addr) (ns cs : Nat) (Am : Option Addr) (nm cm : Nat) (Ac : Option Addr) (nc cc pw : Nat) (vm va : Value) (w : World)
    (hE : EnvV W cx B) (hbm : WkV W (.node 3 hh [x])) (hba : BdV B a) (hsum : B + nd (.node 3 hh [x]) * dlV ≤ hiV) (hlen : cx.length + nd (.node 3 hh [x]) ≤ 100000) (hk : CkV w W cx As ns cs Am nm cm Ac nc cc) (hp : PwE w pw As ns cs Am nm cm) (hv : Rd w (.node 3 hh [x]) vm) (ha : Rd w a va) :
    Calls Tryz.prog 92 #[.pointer (some ⟨pw, 0, none⟩), .slice Ac nc cc, vm, va] w fun e w' => e = .returned (.int .i64 (tmV W (.node 3 hh [x]) cx a)) ∧ Below w.heap.size w w' := by
  obtain ⟨k, h, A, n, c, rfl⟩ := hv.full
  obtain ⟨ka, ga, Aa, na, ca, rfl⟩ := ha.full
  obtain ⟨W0, hW⟩ : ∃ W0, (w.alloc (.cells #[.int .i64 k, .int .i64 h, .slice A n c] 44)).alloc (.cells #[.int .i64 ka, .int .i64 ga, .slice Aa na ca] 44) = W0 := ⟨_, rfl⟩
  have hb : Below w.heap.size w W0 := by rw [← hW]; exact ((Below.refl _ _).alloc (Nat.le_refl _) _).alloc (by simp) _
  have x0 : Box W0 w.heap.size 44 #[.int .i64 k, .int .i64 h, .slice A n c] := by rw [← hW]; exact (Box.new _ _ _).alloc _
  have x1 : Box W0 (w.heap.size + 1) 44 #[.int .i64 ka, .int .i64 ga, .slice Aa na ca] := by rw [← hW]; exact (Box.new (w.alloc _) _ _).at (by simp)
  obtain ⟨c0, c1, c2⟩ := x0.three
  obtain ⟨d0, d1, d2⟩ := x1.three
  have hkd := (rdF_kind ha).1
  have hkm := (rdF_kind hv).1
  have HB := Lib.hid hb
  obtain rfl : 3 = k := hkm
  by_cases hk1 : ka = 1
  case' neg =>
    have hd : (ka != 1) = true := by simpa using hk1
    have HEQ := Lib.hid (show tmV W (.node 3 hh [x]) cx a = 3 by rw [tm_lam, if_neg (by rw [hkd]; exact hk1)])
    rw [HEQ.out]
    clear hkd
    go_enter Tryz.func92, Tryz.ntmps92
    go_wp2_with fail
    clear hW
    go_ret
    exact ⟨rfl, HB.out⟩
  subst hk1
  obtain ⟨p, q, rfl, hbp, hbq⟩ := hba.pi hkd
  obtain ⟨bb, ob, cb, ev, hc2, hcm2, ⟨kp, gp, Ap, np, cp, p0, p1, p2, hrp⟩, ⟨kq, gq, Aq, nq, cq, q0, q1, q2, hrq⟩⟩ := rd_pi ha
  have ev' : ga = 0 ∧ Aa = some ⟨bb, ob, none⟩ ∧ na = 2 ∧ ca = cb := by simpa using ev
  obtain ⟨rfl, rfl, rfl, rfl⟩ := ev'
  have hhe := (rdF_kind hv).2
  rw [hdQ] at hhe
  subst hhe
  obtain ⟨bx, ox, kx, gx, Ax, nx, cx', rfl, rfl, hc1, hcm1, v0, v1, v2, hrx⟩ := rd_lamV hv
  unfold maxLen at hcm1 hcm2
  have HEQ := Lib.hid (show tmV W (.node 3 hh [x]) cx (.node 1 0 [p, q]) = tmV W x (cx ++ [p]) q by rw [tm_lam]; rfl)
  rw [HEQ.out]
  replace p0 := (hb.cell (cell_lt p0)).trans p0
  replace p1 := (hb.cell (cell_lt p1)).trans p1
  replace p2 := (hb.cell (cell_lt p2)).trans p2
  replace q0 := (hb.cell (cell_lt q0)).trans q0
  replace q1 := (hb.cell (cell_lt q1)).trans q1
  replace q2 := (hb.cell (cell_lt q2)).trans q2
  replace v0 := (hb.cell (cell_lt v0)).trans v0
  replace v1 := (hb.cell (cell_lt v1)).trans v1
  replace v2 := (hb.cell (cell_lt v2)).trans v2
  have hcl := hk.cx.len
  rw [nd, ndL, ndL] at hsum hlen
  have HMO : Hid (∀ W' : World, Below W0.heap.size W0 W' → Calls Tryz.prog 85 #[.slice Ac nc cc, .agg #[.int .i64 kp, .int .i64 gp, .slice Ap np cp]] W' (MoE (cx ++ [p]) nc W')) := Lib.hid fun W' h' =>
    eMoreC cx p Ac nc cc _ W' (hk.cx.keep (hb.trans (h'.mono hb.size))) (Rd.keep (hb.trans (h'.mono hb.size)) _ _ hrp) (by omega)
  have HTM : Hid (∀ (W' : World) (g cap : Nat), Below W0.heap.size W0 W' → CLV W' (cx ++ [p]) (some ⟨g, 0, none⟩) (nc + 1) cap → Calls Tryz.prog 92 #[.pointer (some ⟨pw, 0, none⟩), .slice (some ⟨g, 0, none⟩) (nc + 1) cap, .agg #[.int .i64 kx, .int .i64 gx, .slice Ax nx cx'], .agg #[.int .i64 kq, .int .i64 gq, .slice Aq nq cq]] W' fun e w' => e = .returned (.int .i64 (tmV W x (cx ++ [p]) q)) ∧ Below W'.heap.size W' w') := Lib.hid fun W' g cap h' hcl' =>
    have hb' := hb.trans (h'.mono hb.size)
    ih (cx ++ [p]) q B As ns cs Am nm cm _ _ _ pw _ _ W' (hE.more hbp) (hbm.arg (by simp)) hbq (by unfold dlV hiV at *; omega) (by rw [List.length_append, List.length_singleton]; omega) ⟨hk.sg.keep hb', hk.ms.keep hb', hcl'⟩ (hp.keep hb' hp.lt) (Rd.keep hb' _ _ hrx) (Rd.keep hb' _ _ hrq)
  obtain ⟨R, hR⟩ : ∃ R, tmV W x (cx ++ [p]) q = R := ⟨_, rfl⟩
  rw [hR] at HTM ⊢
  clear hkd ev hE hbm hba hsum hlen hk hp hv ha hbp hbq hrp hrq hrx hcl hb x0 x1 hR ih HEQ
  go_enter Tryz.func92, Tryz.ntmps92
  go_wp2_with fail
  try rw [hW]
  clear hW
  have HKS : Hid (∀ w' : World, Below W0.heap.size W0 w' → (fun w' => w'.cell? ⟨w.heap.size, 2, none⟩ = some (.slice (some ⟨bx, ox, none⟩) 1 c) ∧ w'.cell? ⟨w.heap.size + 1, 2, none⟩ = some (.slice (some ⟨bb, ob, none⟩) 2 ca) ∧ w'.cell? ⟨bb, ob, none⟩ = some (.int .i64 kp) ∧ w'.cell? ⟨bb, ob + 1, none⟩ = some (.int .i64 gp) ∧ w'.cell? ⟨bb, ob + 2, none⟩ = some (.slice Ap np cp) ∧ w'.cell? ⟨bb, ob + 3, none⟩ = some (.int .i64 kq) ∧ w'.cell? ⟨bb, ob + 4, none⟩ = some (.int .i64 gq) ∧ w'.cell? ⟨bb, ob + 5, none⟩ = some (.slice Aq nq cq) ∧ w'.cell? ⟨bx, ox, none⟩ = some (.int .i64 kx) ∧ w'.cell? ⟨bx, ox + 1, none⟩ = some (.int .i64 gx) ∧ w'.cell? ⟨bx, ox + 2, none⟩ = some (.slice Ax nx cx')) w') := Lib.hid fun w' h => ⟨(h.cell (cell_lt c2)).trans c2, (h.cell (cell_lt d2)).trans d2, (h.cell (cell_lt p0)).trans p0, (h.cell (cell_lt p1)).trans p1, (h.cell (cell_lt p2)).trans p2, (h.cell (cell_lt q0)).trans q0, (h.cell (cell_lt q1)).trans q1, (h.cell (cell_lt q2)).trans q2, (h.cell (cell_lt v0)).trans v0, (h.cell (cell_lt v1)).trans v1, (h.cell (cell_lt v2)).trans v2⟩
  have hbd : Below W0.heap.size W0 W0.drew := (Below.refl _ W0).drew
  refine wp_region_held_drew (S := fun w' => w'.cell? ⟨w.heap.size, 2, none⟩ = some (.slice (some ⟨bx, ox, none⟩) 1 c) ∧ w'.cell? ⟨w.heap.size + 1, 2, none⟩ = some (.slice (some ⟨bb, ob, none⟩) 2 ca) ∧ w'.cell? ⟨bb, ob, none⟩ = some (.int .i64 kp) ∧ w'.cell? ⟨bb, ob + 1, none⟩ = some (.int .i64 gp) ∧ w'.cell? ⟨bb, ob + 2, none⟩ = some (.slice Ap np cp) ∧ w'.cell? ⟨bb, ob + 3, none⟩ = some (.int .i64 kq) ∧ w'.cell? ⟨bb, ob + 4, none⟩ = some (.int .i64 gq) ∧ w'.cell? ⟨bb, ob + 5, none⟩ = some (.slice Aq nq cq) ∧ w'.cell? ⟨bx, ox, none⟩ = some (.int .i64 kx) ∧ w'.cell? ⟨bx, ox + 1, none⟩ = some (.int .i64 gx) ∧ w'.cell? ⟨bx, ox + 2, none⟩ = some (.slice Ax nx cx')) (by kernel_rfl) (HKS.out _ hbd) (fun hS => ?_)
  simp only [List.size_toArray, List.length_cons, List.length_nil, Nat.reduceAdd]
  refine wpAnyH_take (i := 0) (v := .pointer (some ⟨pw, 0, none⟩)) rfl (by kernel_rfl) (by kernel_rfl) (by kernel_rfl) (fun _ _ _ h => h) (Or.inl ⟨by kernel_rfl, ?_⟩) hS ?_
  · intro w' hSw
    obtain ⟨s0, s1, s2, s3, s4, s5, s6, s7, s8, s9, s10⟩ := hSw
    go_simp
  try simp only [Act.put, List.getElem_toArray, List.getElem_cons_zero, List.setIfInBounds_toArray, List.set_cons_zero, List.set_cons_succ]
  refine wpAnyH_take (i := 1) (v := .slice Ac nc cc) rfl (by kernel_rfl) (by kernel_rfl) (by kernel_rfl) (fun _ _ _ h => h) (Or.inl ⟨by kernel_rfl, ?_⟩) hS ?_
  · intro w' hSw
    obtain ⟨s0, s1, s2, s3, s4, s5, s6, s7, s8, s9, s10⟩ := hSw
    go_simp
  try simp only [Act.put, List.getElem_toArray, List.getElem_cons_succ, List.getElem_cons_zero, List.setIfInBounds_toArray, List.set_cons_zero, List.set_cons_succ]
  refine wpAnyH_take (i := 2) (v := .pointer (some ⟨w.heap.size + 1, 2, none⟩)) rfl (by kernel_rfl) (by kernel_rfl) (by kernel_rfl) (fun _ _ _ h => h) (Or.inl ⟨by kernel_rfl, ?_⟩) hS ?_
  · intro w' hSw
    obtain ⟨s0, s1, s2, s3, s4, s5, s6, s7, s8, s9, s10⟩ := hSw
    go_simp
  try simp only [Act.put, List.getElem_toArray, List.getElem_cons_succ, List.getElem_cons_zero, List.setIfInBounds_toArray, List.set_cons_zero, List.set_cons_succ]
  refine wpAnyH_take (i := 3) (v := .slice (some ⟨bb, ob, none⟩) 2 ca) rfl (by kernel_rfl) (by kernel_rfl) (by kernel_rfl) (fun _ _ _ h => h) (Or.inl ⟨by kernel_rfl, ?_⟩) hS ?_
  · intro w' hSw
    obtain ⟨s0, s1, s2, s3, s4, s5, s6, s7, s8, s9, s10⟩ := hSw
    go_simp
  try simp only [Act.put, List.getElem_toArray, List.getElem_cons_succ, List.getElem_cons_zero, List.setIfInBounds_toArray, List.set_cons_zero, List.set_cons_succ]
  refine wpAnyH_take (i := 4) (v := .pointer (some ⟨bb, ob, none⟩)) rfl (by kernel_rfl) (by kernel_rfl) (by kernel_rfl) (fun _ _ _ h => h) (Or.inl ⟨by kernel_rfl, ?_⟩) hS ?_
  · intro w' hSw
    obtain ⟨s0, s1, s2, s3, s4, s5, s6, s7, s8, s9, s10⟩ := hSw
    go_simp
  try simp only [Act.put, List.getElem_toArray, List.getElem_cons_succ, List.getElem_cons_zero, List.setIfInBounds_toArray, List.set_cons_zero, List.set_cons_succ]
  refine wpAnyH_take (i := 5) (v := .agg #[.int .i64 kp, .int .i64 gp, .slice Ap np cp]) rfl (by kernel_rfl) (by kernel_rfl) (by kernel_rfl) (fun _ _ _ h => h) (Or.inl ⟨by kernel_rfl, ?_⟩) hS ?_
  · intro w' hSw
    obtain ⟨s0, s1, s2, s3, s4, s5, s6, s7, s8, s9, s10⟩ := hSw
    go_simp
  try simp only [Act.put, List.getElem_toArray, List.getElem_cons_succ, List.getElem_cons_zero, List.setIfInBounds_toArray, List.set_cons_zero, List.set_cons_succ]
  refine wpAnyH_take (i := 7) (v := .pointer (some ⟨w.heap.size, 2, none⟩)) rfl (by kernel_rfl) (by kernel_rfl) (by kernel_rfl) (fun _ _ _ h => h) (Or.inl ⟨by kernel_rfl, ?_⟩) hS ?_
  · intro w' hSw
    obtain ⟨s0, s1, s2, s3, s4, s5, s6, s7, s8, s9, s10⟩ := hSw
    go_simp
  try simp only [Act.put, List.getElem_toArray, List.getElem_cons_succ, List.getElem_cons_zero, List.setIfInBounds_toArray, List.set_cons_zero, List.set_cons_succ]
  refine wpAnyH_take (i := 8) (v := .slice (some ⟨bx, ox, none⟩) 1 c) rfl (by kernel_rfl) (by kernel_rfl) (by kernel_rfl) (fun _ _ _ h => h) (Or.inl ⟨by kernel_rfl, ?_⟩) hS ?_
  · intro w' hSw
    obtain ⟨s0, s1, s2, s3, s4, s5, s6, s7, s8, s9, s10⟩ := hSw
    go_simp
  try simp only [Act.put, List.getElem_toArray, List.getElem_cons_succ, List.getElem_cons_zero, List.setIfInBounds_toArray, List.set_cons_zero, List.set_cons_succ]
  refine wpAnyH_take (i := 9) (v := .pointer (some ⟨bx, ox, none⟩)) rfl (by kernel_rfl) (by kernel_rfl) (by kernel_rfl) (fun _ _ _ h => h) (Or.inl ⟨by kernel_rfl, ?_⟩) hS ?_
  · intro w' hSw
    obtain ⟨s0, s1, s2, s3, s4, s5, s6, s7, s8, s9, s10⟩ := hSw
    go_simp
  try simp only [Act.put, List.getElem_toArray, List.getElem_cons_succ, List.getElem_cons_zero, List.setIfInBounds_toArray, List.set_cons_zero, List.set_cons_succ]
  refine wpAnyH_take (i := 10) (v := .agg #[.int .i64 kx, .int .i64 gx, .slice Ax nx cx']) rfl (by kernel_rfl) (by kernel_rfl) (by kernel_rfl) (fun _ _ _ h => h) (Or.inl ⟨by kernel_rfl, ?_⟩) hS ?_
  · intro w' hSw
    obtain ⟨s0, s1, s2, s3, s4, s5, s6, s7, s8, s9, s10⟩ := hSw
    go_simp
  try simp only [Act.put, List.getElem_toArray, List.getElem_cons_succ, List.getElem_cons_zero, List.setIfInBounds_toArray, List.set_cons_zero, List.set_cons_succ]
  refine wpAnyH_take (i := 11) (v := .pointer (some ⟨w.heap.size + 1, 2, none⟩)) rfl (by kernel_rfl) (by kernel_rfl) (by kernel_rfl) (fun _ _ _ h => h) (Or.inl ⟨by kernel_rfl, ?_⟩) hS ?_
  · intro w' hSw
    obtain ⟨s0, s1, s2, s3, s4, s5, s6, s7, s8, s9, s10⟩ := hSw
    go_simp
  try simp only [Act.put, List.getElem_toArray, List.getElem_cons_succ, List.getElem_cons_zero, List.setIfInBounds_toArray, List.set_cons_zero, List.set_cons_succ]
  refine wpAnyH_take (i := 12) (v := .slice (some ⟨bb, ob, none⟩) 2 ca) rfl (by kernel_rfl) (by kernel_rfl) (by kernel_rfl) (fun _ _ _ h => h) (Or.inl ⟨by kernel_rfl, ?_⟩) hS ?_
  · intro w' hSw
    obtain ⟨s0, s1, s2, s3, s4, s5, s6, s7, s8, s9, s10⟩ := hSw
    go_simp
  try simp only [Act.put, List.getElem_toArray, List.getElem_cons_succ, List.getElem_cons_zero, List.setIfInBounds_toArray, List.set_cons_zero, List.set_cons_succ]
  refine wpAnyH_take (i := 13) (v := .pointer (some ⟨bb, ob + 3, none⟩)) rfl (by kernel_rfl) (by kernel_rfl) (by kernel_rfl) (fun _ _ _ h => h) (Or.inl ⟨by kernel_rfl, ?_⟩) hS ?_
  · intro w' hSw
    obtain ⟨s0, s1, s2, s3, s4, s5, s6, s7, s8, s9, s10⟩ := hSw
    go_simp
  try simp only [Act.put, List.getElem_toArray, List.getElem_cons_succ, List.getElem_cons_zero, List.setIfInBounds_toArray, List.set_cons_zero, List.set_cons_succ]
  refine wpAnyH_take (i := 14) (v := .agg #[.int .i64 kq, .int .i64 gq, .slice Aq nq cq]) rfl (by kernel_rfl) (by kernel_rfl) (by kernel_rfl) (fun _ _ _ h => h) (Or.inl ⟨by kernel_rfl, ?_⟩) hS ?_
  · intro w' hSw
    obtain ⟨s0, s1, s2, s3, s4, s5, s6, s7, s8, s9, s10⟩ := hSw
    go_simp
  try simp only [Act.put, List.getElem_toArray, List.getElem_cons_succ, List.getElem_cons_zero, List.setIfInBounds_toArray, List.set_cons_zero, List.set_cons_succ]
  refine wpAnyH_ready (rs := [6]) (by kernel_rfl) (by simp) ?_
  refine AllReadyH.cons rfl (fun KN hK => ?_) AllReadyH.nil
  go_simp
  refine (HMO.out _ hbd).mono ?_
  rintro e v7 ⟨g, cap, rfl, hcl7, hb6⟩
  replace hbd : Below W0.heap.size W0 v7 := hbd.trans (hb6.mono hbd.size)
  clear hb6
  refine hK.out _ _ (HKS.out _ hbd) (fun hS => ?_)
  clear hK KN
  try simp only [Act.put, List.getElem_toArray, List.getElem_cons_succ, List.getElem_cons_zero, List.setIfInBounds_toArray, List.set_cons_zero, List.set_cons_succ]
  refine wpAnyH_ready (rs := [15]) (by kernel_rfl) (by simp) ?_
  refine AllReadyH.cons rfl (fun KN hK => ?_) AllReadyH.nil
  go_simp
  refine (HTM.out v7 g cap hbd hcl7).mono ?_
  rintro e v8 ⟨rfl, hb6⟩
  replace hbd : Below W0.heap.size W0 v8 := hbd.trans (hb6.mono hbd.size)
  clear hb6
  refine hK.out _ _ (HKS.out _ hbd) (fun hS => ?_)
  clear hK KN
  try simp only [Act.put, List.getElem_toArray, List.getElem_cons_succ, List.getElem_cons_zero, List.setIfInBounds_toArray, List.set_cons_zero, List.set_cons_succ]
  refine wpAnyH_take (i := 16) (v := .int .i64 R) rfl (by kernel_rfl) (by kernel_rfl) (by kernel_rfl) (fun _ _ _ h => h) (Or.inl ⟨by kernel_rfl, ?_⟩) hS ?_
  · intro w' hSw
    obtain ⟨s0, s1, s2, s3, s4, s5, s6, s7, s8, s9, s10⟩ := hSw
    go_simp
  try simp only [Act.put, List.getElem_toArray, List.getElem_cons_succ, List.getElem_cons_zero, List.setIfInBounds_toArray, List.set_cons_zero, List.set_cons_succ]
  refine wpAnyH_done (by kernel_rfl) ?_ _
  try simp only [List.setIfInBounds_toArray]
  try simp only [List.getElem_toArray, List.getElem_cons_succ, List.getElem_cons_zero, List.setIfInBounds_toArray, List.set_cons_zero, List.set_cons_succ]
  have HBF := Lib.hid (HB.out.trans (hbd.mono HB.out.size))
  clear hS HKS hbd hcl7
  go_wp2_with fail
  go_ret
  exact ⟨rfl, HBF.out⟩
set_option maxRecDepth 100000 in
set_option maxHeartbeats 16000000 in
theorem eNeuC {W : WV} {m : T} (hk3 : kdQ m ≠ 3) (hco : CoE W m) (cx : List T) (a : T) (B : Int) (As : Option Addr) (ns cs : Nat) (Am : Option Addr) (nm cm : Nat) (Ac : Option Addr) (nc cc pw : Nat) (vm va : Value) (w : World)
    (hE : EnvV W cx B) (hbm : WkV W m) (hsum : B + nd m * dlV ≤ hiV) (hlen : cx.length + nd m ≤ 100000) (hk : CkV w W cx As ns cs Am nm cm Ac nc cc) (hp : PwE w pw As ns cs Am nm cm) (hv : Rd w m vm) (ha : Rd w a va) :
    Calls Tryz.prog 92 #[.pointer (some ⟨pw, 0, none⟩), .slice Ac nc cc, vm, va] w fun e w' => e = .returned (.int .i64 (tmV W m cx a)) ∧ Below w.heap.size w w' := by
  obtain ⟨k, h, A, n, c, rfl⟩ := hv.full
  obtain ⟨ka, ga, Aa, na, ca, rfl⟩ := ha.full
  obtain ⟨W0, hW⟩ : ∃ W0, (w.alloc (.cells #[.int .i64 k, .int .i64 h, .slice A n c] 44)).alloc (.cells #[.int .i64 ka, .int .i64 ga, .slice Aa na ca] 44) = W0 := ⟨_, rfl⟩
  have hb : Below w.heap.size w W0 := by rw [← hW]; exact ((Below.refl _ _).alloc (Nat.le_refl _) _).alloc (by simp) _
  have x0 : Box W0 w.heap.size 44 #[.int .i64 k, .int .i64 h, .slice A n c] := by rw [← hW]; exact (Box.new _ _ _).alloc _
  have x1 : Box W0 (w.heap.size + 1) 44 #[.int .i64 ka, .int .i64 ga, .slice Aa na ca] := by rw [← hW]; exact (Box.new (w.alloc _) _ _).at (by simp)
  obtain ⟨c0, c1, c2⟩ := x0.three
  obtain ⟨d0, d1, d2⟩ := x1.three
  have hkd := (rdF_kind ha).1
  have hkm := (rdF_kind hv).1
  have HB := Lib.hid hb
  have hkn : k ≠ 3 := by rw [← hkm]; exact hk3
  have d3 : (k == 3) = false := by simpa using hkn
  have htm : tmV W m cx a = if ka = 2 then enV a (cmV W cx m) else 3 := by
    obtain ⟨km, gm, xm⟩ := m
    rw [tm_neu W (by rw [kdQ] at hk3; exact hk3), hkd]
  by_cases hk2 : ka = 2
  case' neg =>
    have hd : (ka != 2) = true := by simpa using hk2
    have HEQ := Lib.hid (show tmV W m cx a = 3 by rw [htm, if_neg hk2])
    rw [HEQ.out]
    clear hkm hkd htm hkn
    go_enter Tryz.func92, Tryz.ntmps92
    go_wp2_with fail
    clear hW
    go_ret
    exact ⟨rfl, HB.out⟩
  subst hk2
  rw [htm, if_pos rfl]
  have HC := Lib.hid (hco cx B As ns cs Am nm cm Ac nc cc pw _ W0 hE hbm hsum hlen (hk.keep hb) (hp.keep hb hp.lt) (Rd.keep hb _ _ hv))
  have HRA := Lib.hid (Rd.keep hb _ _ ha)
  have X1 := Lib.hid x1
  obtain ⟨R, hR⟩ : ∃ R, cmV W cx m = R := ⟨_, rfl⟩
  rw [hR] at HC ⊢
  have HER := Lib.hid (show ∀ e, R = .error e → e ≠ 0 from fun e h => cm_err (hR.trans h))
  clear hkm hkd htm hkn hE hbm hsum hlen hk hp hv ha hb x0 x1 hR hco
  go_enter Tryz.func92, Tryz.ntmps92
  go_wp2_with fail
  try rw [hW]
  clear hW
  go_wp2_with fail
  refine HC.out.mono ?_
  rintro e w1 ⟨k3, h3, A3, n3, c3, rfl, hrd, hb1⟩
  have HB1 := Lib.hid (HB.out.trans (hb1.mono HB.out.size))
  have HRA1 := Lib.hid (Rd.keep hb1 _ _ HRA.out)
  have X2 := Lib.hid (X1.out.keep hb1 X1.out.lt)
  obtain ⟨W2, hW2⟩ : ∃ W2, w1.alloc (.cells #[.int .i64 k3, .int .i64 h3, .slice A3 n3 c3] 44) = W2 := ⟨_, rfl⟩
  have s2 : Below w1.heap.size w1 W2 := by rw [← hW2]; exact (Below.refl _ _).alloc (Nat.le_refl _) _
  have z2 : Box W2 w1.heap.size 44 #[.int .i64 k3, .int .i64 h3, .slice A3 n3 c3] := by rw [← hW2]; exact Box.new _ _ _
  have HB2 := Lib.hid (HB1.out.trans (s2.mono HB1.out.size))
  have HR2 := Lib.hid (Rd.keep s2 _ _ HRA1.out)
  have X3 := Lib.hid (X2.out.keep s2 X2.out.lt)
  clear c0 c1 c2 d0 d1 d2 hb1 HC HRA X1 HB1 HRA1 X2
  cases R with
  | error er =>
    have hne : er ≠ 0 := HER.out er rfl
    have hd2 : (er != 0) = true := by simpa using hne
    clear hne hrd s2 z2 HER
    rw [show erV (.error er) = er from rfl]
    go_wp2_with fail
    clear hW2
    go_ret
    exact ⟨rfl, HB2.out⟩
  | ok t =>
    have hr := RX.rd (hrd t rfl)
    have HT := Lib.hid (Rd.keep s2 _ _ hr)
    have HS := Lib.hid (refSame t a _ _ W2 HT.out HR2.out)
    obtain ⟨f0, f1, f2⟩ := z2.three
    obtain ⟨g0, g1, g2⟩ := X3.out.three
    rw [show erV (.ok t) = 0 from rfl]
    obtain ⟨r, hr0⟩ : ∃ r, samB t a = r := ⟨_, rfl⟩
    rw [hr0] at HS
    have HSR := Lib.hid hr0
    clear hr hrd s2 z2 HER HR2 HT hr0
    subst hW2
    go_wp2_with fail
    clear f0 f1 f2 g0 g1 g2
    refine HS.out.mono ?_
    rintro e w4 ⟨rfl, hb4⟩
    have HB4 := Lib.hid (HB2.out.trans (hb4.mono HB2.out.size))
    clear hb4 HS
    cases r
    · go_wp2_with fail
      go_ret
      exact ⟨ret_int (by rw [enV, if_neg (by rw [HSR.out]; decide)]), HB4.out⟩
    · go_wp2_with fail
      go_ret
      exact ⟨ret_int (by rw [enV, if_pos HSR.out]), HB4.out⟩
/-- each term -/
theorem eTermC {W : WV} (hco : ∀ m, (∀ x ∈ kdsE m, TmE W x) → CoE W m) (m : T) : TmE W m := by
  induction m using T.ind with
  | step k h xs ih =>
    intro cx a B As ns cs Am nm cm Ac nc cc pw vm va w hE hbm hba hsum hlen hk hp hv ha
    by_cases hk3 : k = 3
    · subst hk3
      obtain ⟨rfl, x, rfl, _⟩ := lamV hbm.nod
      exact eLamC (ih x (by simp)) cx a B As ns cs Am nm cm Ac nc cc pw vm va w hE hbm hba hsum hlen hk hp hv ha
    · exact eNeuC (by rw [kdQ]; exact hk3) (hco (.node k h xs) ih) cx a B As ns cs Am nm cm Ac nc cc pw vm va w hE hbm hsum hlen hk hp hv ha
end Go.Proofs.YtloeainlpcnhnaaGreat
/-
  The document's own comes of layer 10, of a variable, of a constant and of what has no type. No statement is proved here.
-/
namespace Go.Proofs.YtloeainlpcnhnaaGreat
open Go.ChangeShapes Go.WideShapes Go.ChangeAt Go.RowKit
set_option linter.unusedVariables false
theorem clv_rx {Z : Nat → Prop} {w w' : World} {xs : List T} {A : Option Addr} {n c : Nat} (h : CLV w xs A n c) (hb : Below w.heap.size w w') (hz : ∀ b, Z b → w.heap.size ≤ b) : RXL Z w' xs A n c :=
  ⟨h.len, h.le, h.cap, fun i t ht => by
    obtain ⟨b, o, k, g, A', n', c', e, c0, c1, c2, hr⟩ := (h.at_ i t ht).full
    exact ⟨b, o, _, _, _, e, fun z => by have := hz b z; have := cell_lt c0; dsimp only at this; omega, (hb.cell (cell_lt c0)).trans c0, (hb.cell (cell_lt c1)).trans c1, (hb.cell (cell_lt c2)).trans c2, rx_any hr hb hz⟩⟩
theorem rup_bd {M : Int} {t : T} {b : Int} (hM : M ≤ 281474976710656) (bt : BdV M t) (hb : 0 ≤ b ∧ b ≤ 1048576) : rupX t b 0 = upT b t 0 := by
  have h4 := ((myB_iff t).1 bt.my).2.1
  rw [rupX, if_pos (by rw [Bool.and_eq_true, mvB_iff]; exact ⟨by omega, by rw [mayB_my (by omega)]; exact bt.my⟩), upW_eq (M := M) (by omega) hb t 0 bt.ok (by omega) (by omega)]
/-- an error, with noughts laid in the answer's block or not -/
theorem spX_no {Z : Nat → Prop} {w w' : World} {r : Except Int T} {er : Int} (hr : r = .error er) (hb : Below w.heap.size w w') (p : Nat) (hp : w.heap.size ≤ p) (u0 u1 u2 : Value) :
    SpX Z r w (.returned (.tuple #[.agg #[.int .i64 0, .int .i64 0, .slice none 0 0], .int .i64 er])) (((w'.setCell ⟨p, 0, none⟩ u0).setCell ⟨p, 1, none⟩ u1).setCell ⟨p, 2, none⟩ u2) := by
  subst hr
  exact ⟨_, _, _, _, _, rfl, (fun t e => nomatch e), below_set3 hb hp _ _ _⟩
theorem spX_no0 {Z : Nat → Prop} {w w' : World} {r : Except Int T} {er : Int} (hr : r = .error er) (hb : Below w.heap.size w w') :
    SpX Z r w (.returned (.tuple #[.agg #[.int .i64 0, .int .i64 0, .slice none 0 0], .int .i64 er])) w' := by
  subst hr
  exact ⟨_, _, _, _, _, rfl, (fun t e => nomatch e), hb⟩
/-- an answer, moved into the answer's block -/
theorem spX_mv {w wr : World} {r : Except Int T} {k h : Int} {A : Option Addr} {n c : Nat} {p : Nat} (hr : ∀ t, r = .ok t → RX (fun b => b = p) wr t (.agg #[.int .i64 k, .int .i64 h, .slice A n c])) (hb : Below w.heap.size w wr) (hp : w.heap.size ≤ p) (u0 u1 u2 : Value) :
    SpX (fun _ => False) r w (.returned (.tuple #[.agg #[.int .i64 k, .int .i64 h, .slice A n c], .int .i64 (erV r)])) (((wr.setCell ⟨p, 0, none⟩ u0).setCell ⟨p, 1, none⟩ u1).setCell ⟨p, 2, none⟩ u2) :=
  ⟨k, h, A, n, c, rfl, fun t e => RdF.moveX (fun b hok hl => ⟨fun z => z, heap_other3 _ _ _ _ _ _ hok⟩) _ _ (hr t e), below_set3 hb hp _ _ _⟩
set_option maxRecDepth 100000 in
set_option maxHeartbeats 16000000 in
theorem eNoC {W : WV} {k h : Int} {xs : List T} (h4 : k ≠ 4) (h5 : k ≠ 5) (h6 : k ≠ 6) : CoE W (.node k h xs) := by
  intro cx B As ns cs Am nm cm Ac nc cc pw vm w hE hbm hsum hlen hk hp hv
  obtain ⟨A, n, c, rfl, _, _, g3, g4, g5, g6⟩ := Rd_node.1 hv
  obtain ⟨W0, hW⟩ : ∃ W0, (w.alloc (.cells #[.int .i64 k, .int .i64 h, .slice A n c] 44)).alloc (.cells #[.int .i64 0, .int .i64 0, .slice none 0 0] 44) = W0 := ⟨_, rfl⟩
  have hb : Below w.heap.size w W0 := by rw [← hW]; exact ((Below.refl _ _).alloc (Nat.le_refl _) _).alloc (by simp) _
  have x1 : Box W0 w.heap.size 44 #[.int .i64 k, .int .i64 h, .slice A n c] := by rw [← hW]; exact (Box.new _ _ _).alloc _
  have x2 : Box W0 (w.heap.size + 1) 44 #[.int .i64 0, .int .i64 0, .slice none 0 0] := by rw [← hW]; exact (Box.new (w.alloc _) _ _).at (by simp)
  obtain ⟨d0, d1, d2⟩ := x1.three
  have HB := Lib.hid hb
  have b4 : (k == 4) = false := by simpa using h4
  have b5 : (k == 5) = false := by simpa using h5
  have b6 : (k == 6) = false := by simpa using h6
  have HQ := Lib.hid (cm_none (W := W) (cx := cx) (h := h) (xs := xs) h4 h5 h6)
  obtain ⟨r0, r1, r2⟩ := x2.three
  have f0 := x2.frozen 0
  have f1 := x2.frozen 1
  have f2 := x2.frozen 2
  have lz := x2.lt
  clear hE hbm hsum hlen hk hp hb x1 x2 hv g3 g4 g5 g6
  go_enter Tryz.func106, Tryz.ntmps106
  go_wp2_with fail
  try rw [hW]
  clear hW
  go_wp2_with fail
  refine bodyPost_ret (v := .tuple #[.agg #[.int .i64 0, .int .i64 0, .slice none 0 0], .int .i64 3]) (by simp [results, Tryz.results106, go_sem, r0, r1, r2]) rfl ?_
  first | exact spX_no HQ.out HB.out _ (by omega) _ _ _ | exact spX_no0 HQ.out HB.out
set_option maxRecDepth 100000 in
set_option maxHeartbeats 16000000 in
theorem eConC {W : WV} {h : Int} {xs : List T} (ih : ∀ x ∈ xs, TmE W x) : CoE W (.node 5 h xs) := by
  intro cx B As ns cs Am nm cm Ac nc cc pw vm w hE hbm hsum hlen hk hp hv
  obtain ⟨A, n, c, rfl, _, _, g3, g4, g5, g6⟩ := Rd_node.1 hv
  have hxl : CLV w xs A n c := ⟨g3, g4, g5, g6⟩
  clear g3 g4 g5 g6
  have h0 := headV hbm.nod
  have hscap := hk.sg.cap
  have hsle := hk.sg.le
  have hsl := hk.sg.len
  unfold maxLen at hscap
  obtain ⟨i, rfl⟩ : ∃ i : Nat, h = i := ⟨h.toNat, by omega⟩
  obtain ⟨W0, hW⟩ : ∃ W0, (w.alloc (.cells #[.int .i64 5, .int .i64 (i : Int), .slice A n c] 44)).alloc (.cells #[.int .i64 0, .int .i64 0, .slice none 0 0] 44) = W0 := ⟨_, rfl⟩
  have hb : Below w.heap.size w W0 := by rw [← hW]; exact ((Below.refl _ _).alloc (Nat.le_refl _) _).alloc (by simp) _
  have x1 : Box W0 w.heap.size 44 #[.int .i64 5, .int .i64 (i : Int), .slice A n c] := by rw [← hW]; exact (Box.new _ _ _).alloc _
  have x2 : Box W0 (w.heap.size + 1) 44 #[.int .i64 0, .int .i64 0, .slice none 0 0] := by rw [← hW]; exact (Box.new (w.alloc _) _ _).at (by simp)
  obtain ⟨d0, d1, d2⟩ := x1.three
  have s0 : W0.cell? ⟨pw, 0, none⟩ = some (.slice As ns cs) := (hp.keep hb hp.lt).cell 0
  have HB := Lib.hid hb
  by_cases hlt : i < ns
  case' neg =>
    have dg : decide ((i : Int) ≥ (ns : Int)) = true := by simp; omega
    have dg2 : decide ((ns : Int) ≤ (i : Int)) = true := by simp; omega
    have hge : ns ≤ i := by omega
    have HQ := Lib.hid (cm_con_no (W := W) (cx := cx) (xs := xs) (h := (i : Int)) (by omega))
    clear hE  hbm hsum hxl hv hlen hk hp ih hb x1
    go_enter Tryz.func106, Tryz.ntmps106
    go_wp2_with fail
    try rw [hW]
    clear hW
    go_wp2_with fail
    have HKS : Hid (∀ w' : World, Below W0.heap.size W0 w' → (fun w' => w'.cell? ⟨w.heap.size, 1, none⟩ = some (.int .i64 (i : Int)) ∧ w'.cell? ⟨pw, 0, none⟩ = some (.slice As ns cs)) w') := Lib.hid fun w' h => ⟨(h.cell (cell_lt d1)).trans d1, (h.cell (cell_lt s0)).trans s0⟩
    have hbd : Below W0.heap.size W0 W0.drew := (Below.refl _ W0).drew
    refine wp_region_held_drew (S := fun w' => w'.cell? ⟨w.heap.size, 1, none⟩ = some (.int .i64 (i : Int)) ∧ w'.cell? ⟨pw, 0, none⟩ = some (.slice As ns cs)) (by kernel_rfl) (HKS.out _ hbd) (fun hS => ?_)
    simp only [List.size_toArray, List.length_cons, List.length_nil, Nat.reduceAdd]
    refine wpAnyH_take (i := 0) (v := .pointer (some ⟨w.heap.size, 1, none⟩)) rfl (by kernel_rfl) (by kernel_rfl) (by kernel_rfl) (fun _ _ _ h => h) (Or.inl ⟨by kernel_rfl, ?_⟩) hS ?_
    · intro w' hSw
      obtain ⟨s0, s1⟩ := hSw
      go_simp
    try simp only [Act.put, List.getElem_toArray, List.getElem_cons_zero, List.setIfInBounds_toArray, List.set_cons_zero, List.set_cons_succ]
    refine wpAnyH_take (i := 1) (v := .int .i64 (i : Int)) rfl (by kernel_rfl) (by kernel_rfl) (by kernel_rfl) (fun _ _ _ h => h) (Or.inl ⟨by kernel_rfl, ?_⟩) hS ?_
    · intro w' hSw
      obtain ⟨s0, s1⟩ := hSw
      go_simp
    try simp only [Act.put, List.getElem_toArray, List.getElem_cons_succ, List.getElem_cons_zero, List.setIfInBounds_toArray, List.set_cons_zero, List.set_cons_succ]
    refine wpAnyH_take (i := 2) (v := .pointer (some ⟨pw, 0, none⟩)) rfl (by kernel_rfl) (by kernel_rfl) (by kernel_rfl) (fun _ _ _ h => h) (Or.inl ⟨by kernel_rfl, ?_⟩) hS ?_
    · intro w' hSw
      obtain ⟨s0, s1⟩ := hSw
      go_simp
    try simp only [Act.put, List.getElem_toArray, List.getElem_cons_succ, List.getElem_cons_zero, List.setIfInBounds_toArray, List.set_cons_zero, List.set_cons_succ]
    refine wpAnyH_take (i := 3) (v := .pointer (some ⟨pw, 0, none⟩)) rfl (by kernel_rfl) (by kernel_rfl) (by kernel_rfl) (fun _ _ _ h => h) (Or.inl ⟨by kernel_rfl, ?_⟩) hS ?_
    · intro w' hSw
      obtain ⟨s0, s1⟩ := hSw
      go_simp
    try simp only [Act.put, List.getElem_toArray, List.getElem_cons_succ, List.getElem_cons_zero, List.setIfInBounds_toArray, List.set_cons_zero, List.set_cons_succ]
    refine wpAnyH_take (i := 4) (v := .pointer (some ⟨pw, 0, none⟩)) rfl (by kernel_rfl) (by kernel_rfl) (by kernel_rfl) (fun _ _ _ h => h) (Or.inl ⟨by kernel_rfl, ?_⟩) hS ?_
    · intro w' hSw
      obtain ⟨s0, s1⟩ := hSw
      go_simp
    try simp only [Act.put, List.getElem_toArray, List.getElem_cons_succ, List.getElem_cons_zero, List.setIfInBounds_toArray, List.set_cons_zero, List.set_cons_succ]
    refine wpAnyH_take (i := 5) (v := .slice As ns cs) rfl (by kernel_rfl) (by kernel_rfl) (by kernel_rfl) (fun _ _ _ h => h) (Or.inl ⟨by kernel_rfl, ?_⟩) hS ?_
    · intro w' hSw
      obtain ⟨s0, s1⟩ := hSw
      go_simp
    try simp only [Act.put, List.getElem_toArray, List.getElem_cons_succ, List.getElem_cons_zero, List.setIfInBounds_toArray, List.set_cons_zero, List.set_cons_succ]
    refine wpAnyH_take (i := 6) (v := .int .i64 ns) rfl (by kernel_rfl) (by kernel_rfl) (by kernel_rfl) (fun _ _ _ h => h) (Or.inl ⟨by kernel_rfl, ?_⟩) hS ?_
    · intro w' hSw
      obtain ⟨s0, s1⟩ := hSw
      go_simp
    try simp only [Act.put, List.getElem_toArray, List.getElem_cons_succ, List.getElem_cons_zero, List.setIfInBounds_toArray, List.set_cons_zero, List.set_cons_succ]
    refine wpAnyH_take (i := 7) (v := .bool true) rfl (by kernel_rfl) (by kernel_rfl) (by kernel_rfl) (fun _ _ _ h => h) (Or.inl ⟨by kernel_rfl, ?_⟩) hS ?_
    · intro w' hSw
      obtain ⟨s0, s1⟩ := hSw
      go_simp
    try simp only [Act.put, List.getElem_toArray, List.getElem_cons_succ, List.getElem_cons_zero, List.setIfInBounds_toArray, List.set_cons_zero, List.set_cons_succ]
    refine wpAnyH_done (by kernel_rfl) ?_ _
    try simp only [List.setIfInBounds_toArray]
    try simp only [List.getElem_toArray, List.getElem_cons_succ, List.getElem_cons_zero, List.setIfInBounds_toArray, List.set_cons_zero, List.set_cons_succ]
    have HBF := Lib.hid (HB.out.trans (hbd.mono HB.out.size))
    have yr := x2.keep hbd x2.lt
    replace s0 := (hbd.cell (cell_lt s0)).trans s0
    clear hS HKS hbd x2 d0 d1 d2 HB
    generalize W0.drew = W1 at *
    obtain ⟨r0, r1, r2⟩ := yr.three
    have f0 := yr.frozen 0
    have f1 := yr.frozen 1
    have f2 := yr.frozen 2
    have lz := yr.lt
    clear yr
    go_wp2_with fail
    refine bodyPost_ret (v := .tuple #[.agg #[.int .i64 0, .int .i64 0, .slice none 0 0], .int .i64 2]) (by simp [results, Tryz.results106, go_sem, r0, r1, r2]) rfl ?_
    first | exact spX_no HQ.out HBF.out _ (by omega) _ _ _ | exact spX_no0 HQ.out HBF.out
  have dg : decide ((i : Int) ≥ (ns : Int)) = false := by simp; omega
  have dg2 : decide ((ns : Int) ≤ (i : Int)) = false := by simp; omega
  have hge : ¬ ns ≤ i := by omega
  obtain ⟨e, he⟩ := at_of hsl hlt
  obtain ⟨bs, os, st, ke, ge, Ae, ne, ce, rfl, e0, e1, e2, e3, hre⟩ := hk.sg.at_ i e he
  replace e1 := (hb.cell (cell_lt e1)).trans e1
  replace e2 := (hb.cell (cell_lt e2)).trans e2
  replace e3 := (hb.cell (cell_lt e3)).trans e3
  have hi0 : (0 : Int) ≤ (i : Int) := by omega
  have hi1 : (i : Int) < (ns : Int) := by omega
  have hme := hE.sg e (List.mem_of_getElem? he)
  have HKI := Lib.hid (fun (W' : World) (h' : Below W0.heap.size W0 W') => rkindC e _ W' (Rd.keep (hb.trans (h'.mono hb.size)) _ _ hre) (by have := ((myB_iff e).1 hme.my).2.1; omega))
  rw [nd] at hlen hsum
  have HSP0 := Lib.hid (fun (Z : Nat → Prop) (W' : World) (h' : Below W0.heap.size W0 W') (hz : ∀ b, Z b → w.heap.size ≤ b ∧ b < W'.heap.size) => eSpineC (Z := Z) (W := W) (xs := xs) (cx := cx) (t := e) (B := B) (B0 := B) (ns := ns) (Am := Am) (nm := nm) (Ac := Ac) ih hE (fun x hx => hbm.arg hx) (hme.mono hE.lo) (Int.le_refl _) (by unfold dlV hiV at *; omega) (by omega) W' (hk.keep (hb.trans (h'.mono hb.size))) (hp.keep (hb.trans (h'.mono hb.size)) hp.lt) (clv_rx hxl (hb.trans (h'.mono hb.size)) (fun b z => (hz b z).1)) (rx_any hre (hb.trans (h'.mono hb.size)) (fun b z => (hz b z).1)) (fun b z => (hz b z).2))
  obtain ⟨r, hr⟩ : ∃ r, kiB e = r := ⟨_, rfl⟩
  rw [hr] at HKI
  obtain ⟨R, hR⟩ : ∃ R, spV W xs cx e = R := ⟨_, rfl⟩
  rw [hR] at HSP0
  have HEQ0 : Hid (cmV W cx (.node 5 (i : Int) xs) = if r = true then .error 2 else R) := Lib.hid (by
    cases r
    · rw [cm_con e he hr, hR]; rfl
    · rw [cm_con_ki e he hr]; rfl)
  clear hE hbm hsum hlen hk hp ih hre hme he hxl hr hlt hR hv hsl
  go_enter Tryz.func106, Tryz.ntmps106
  go_wp2_with fail
  try rw [hW]
  clear hW
  go_wp2_with fail
  have HKS : Hid (∀ w' : World, Below W0.heap.size W0 w' → (fun w' => w'.cell? ⟨w.heap.size, 1, none⟩ = some (.int .i64 (i : Int)) ∧ w'.cell? ⟨pw, 0, none⟩ = some (.slice (some ⟨bs, os, none⟩) ns cs)) w') := Lib.hid fun w' h => ⟨(h.cell (cell_lt d1)).trans d1, (h.cell (cell_lt s0)).trans s0⟩
  have hbd : Below W0.heap.size W0 W0.drew := (Below.refl _ W0).drew
  refine wp_region_held_drew (S := fun w' => w'.cell? ⟨w.heap.size, 1, none⟩ = some (.int .i64 (i : Int)) ∧ w'.cell? ⟨pw, 0, none⟩ = some (.slice (some ⟨bs, os, none⟩) ns cs)) (by kernel_rfl) (HKS.out _ hbd) (fun hS => ?_)
  simp only [List.size_toArray, List.length_cons, List.length_nil, Nat.reduceAdd]
  refine wpAnyH_take (i := 0) (v := .pointer (some ⟨w.heap.size, 1, none⟩)) rfl (by kernel_rfl) (by kernel_rfl) (by kernel_rfl) (fun _ _ _ h => h) (Or.inl ⟨by kernel_rfl, ?_⟩) hS ?_
  · intro w' hSw
    obtain ⟨s0, s1⟩ := hSw
    go_simp
  try simp only [Act.put, List.getElem_toArray, List.getElem_cons_zero, List.setIfInBounds_toArray, List.set_cons_zero, List.set_cons_succ]
  refine wpAnyH_take (i := 1) (v := .int .i64 (i : Int)) rfl (by kernel_rfl) (by kernel_rfl) (by kernel_rfl) (fun _ _ _ h => h) (Or.inl ⟨by kernel_rfl, ?_⟩) hS ?_
  · intro w' hSw
    obtain ⟨s0, s1⟩ := hSw
    go_simp
  try simp only [Act.put, List.getElem_toArray, List.getElem_cons_succ, List.getElem_cons_zero, List.setIfInBounds_toArray, List.set_cons_zero, List.set_cons_succ]
  refine wpAnyH_take (i := 2) (v := .pointer (some ⟨pw, 0, none⟩)) rfl (by kernel_rfl) (by kernel_rfl) (by kernel_rfl) (fun _ _ _ h => h) (Or.inl ⟨by kernel_rfl, ?_⟩) hS ?_
  · intro w' hSw
    obtain ⟨s0, s1⟩ := hSw
    go_simp
  try simp only [Act.put, List.getElem_toArray, List.getElem_cons_succ, List.getElem_cons_zero, List.setIfInBounds_toArray, List.set_cons_zero, List.set_cons_succ]
  refine wpAnyH_take (i := 3) (v := .pointer (some ⟨pw, 0, none⟩)) rfl (by kernel_rfl) (by kernel_rfl) (by kernel_rfl) (fun _ _ _ h => h) (Or.inl ⟨by kernel_rfl, ?_⟩) hS ?_
  · intro w' hSw
    obtain ⟨s0, s1⟩ := hSw
    go_simp
  try simp only [Act.put, List.getElem_toArray, List.getElem_cons_succ, List.getElem_cons_zero, List.setIfInBounds_toArray, List.set_cons_zero, List.set_cons_succ]
  refine wpAnyH_take (i := 4) (v := .pointer (some ⟨pw, 0, none⟩)) rfl (by kernel_rfl) (by kernel_rfl) (by kernel_rfl) (fun _ _ _ h => h) (Or.inl ⟨by kernel_rfl, ?_⟩) hS ?_
  · intro w' hSw
    obtain ⟨s0, s1⟩ := hSw
    go_simp
  try simp only [Act.put, List.getElem_toArray, List.getElem_cons_succ, List.getElem_cons_zero, List.setIfInBounds_toArray, List.set_cons_zero, List.set_cons_succ]
  refine wpAnyH_take (i := 5) (v := .slice (some ⟨bs, os, none⟩) ns cs) rfl (by kernel_rfl) (by kernel_rfl) (by kernel_rfl) (fun _ _ _ h => h) (Or.inl ⟨by kernel_rfl, ?_⟩) hS ?_
  · intro w' hSw
    obtain ⟨s0, s1⟩ := hSw
    go_simp
  try simp only [Act.put, List.getElem_toArray, List.getElem_cons_succ, List.getElem_cons_zero, List.setIfInBounds_toArray, List.set_cons_zero, List.set_cons_succ]
  refine wpAnyH_take (i := 6) (v := .int .i64 ns) rfl (by kernel_rfl) (by kernel_rfl) (by kernel_rfl) (fun _ _ _ h => h) (Or.inl ⟨by kernel_rfl, ?_⟩) hS ?_
  · intro w' hSw
    obtain ⟨s0, s1⟩ := hSw
    go_simp
  try simp only [Act.put, List.getElem_toArray, List.getElem_cons_succ, List.getElem_cons_zero, List.setIfInBounds_toArray, List.set_cons_zero, List.set_cons_succ]
  refine wpAnyH_take (i := 7) (v := .bool false) rfl (by kernel_rfl) (by kernel_rfl) (by kernel_rfl) (fun _ _ _ h => h) (Or.inl ⟨by kernel_rfl, ?_⟩) hS ?_
  · intro w' hSw
    obtain ⟨s0, s1⟩ := hSw
    go_simp
  try simp only [Act.put, List.getElem_toArray, List.getElem_cons_succ, List.getElem_cons_zero, List.setIfInBounds_toArray, List.set_cons_zero, List.set_cons_succ]
  refine wpAnyH_done (by kernel_rfl) ?_ _
  try simp only [List.setIfInBounds_toArray]
  try simp only [List.getElem_toArray, List.getElem_cons_succ, List.getElem_cons_zero, List.setIfInBounds_toArray, List.set_cons_zero, List.set_cons_succ]
  have HB1 := Lib.hid (HB.out.trans (hbd.mono HB.out.size))
  replace x1 := x1.keep hbd x1.lt
  replace x2 := x2.keep hbd x2.lt
  have HKJ := Lib.hid (fun (W' : World) (h' : Below W0.drew.heap.size W0.drew W') => HKI.out W' (hbd.trans (h'.mono hbd.size)))
  have HSP1 := Lib.hid (fun (Z : Nat → Prop) (W' : World) (h' : Below W0.drew.heap.size W0.drew W') => HSP0.out Z W' (hbd.trans (h'.mono hbd.size)))
  clear HKI HSP0
  have HKI := HKJ
  replace d1 := (hbd.cell (cell_lt d1)).trans d1
  replace d2 := (hbd.cell (cell_lt d2)).trans d2
  replace s0 := (hbd.cell (cell_lt s0)).trans s0
  replace e1 := (hbd.cell (cell_lt e1)).trans e1
  replace e2 := (hbd.cell (cell_lt e2)).trans e2
  replace e3 := (hbd.cell (cell_lt e3)).trans e3
  clear hS HKS HKJ d0 e0 hb HB hbd
  generalize W0.drew = W1 at *
  go_wp2_with fail
  have HKS : Hid (∀ w' : World, Below W1.heap.size W1 w' → (fun w' => w'.cell? ⟨w.heap.size, 1, none⟩ = some (.int .i64 (i : Int)) ∧ w'.cell? ⟨pw, 0, none⟩ = some (.slice (some ⟨bs, os, none⟩) ns cs) ∧ w'.cell? ⟨bs, os + i * 4 + 1, none⟩ = some (.int .i64 ke) ∧ w'.cell? ⟨bs, os + i * 4 + 2, none⟩ = some (.int .i64 ge) ∧ w'.cell? ⟨bs, os + i * 4 + 3, none⟩ = some (.slice Ae ne ce)) w') := Lib.hid fun w' h => ⟨(h.cell (cell_lt d1)).trans d1, (h.cell (cell_lt s0)).trans s0, (h.cell (cell_lt e1)).trans e1, (h.cell (cell_lt e2)).trans e2, (h.cell (cell_lt e3)).trans e3⟩
  have hbd : Below W1.heap.size W1 W1.drew := (Below.refl _ W1).drew
  refine wp_region_held_drew (S := fun w' => w'.cell? ⟨w.heap.size, 1, none⟩ = some (.int .i64 (i : Int)) ∧ w'.cell? ⟨pw, 0, none⟩ = some (.slice (some ⟨bs, os, none⟩) ns cs) ∧ w'.cell? ⟨bs, os + i * 4 + 1, none⟩ = some (.int .i64 ke) ∧ w'.cell? ⟨bs, os + i * 4 + 2, none⟩ = some (.int .i64 ge) ∧ w'.cell? ⟨bs, os + i * 4 + 3, none⟩ = some (.slice Ae ne ce)) (by kernel_rfl) (HKS.out _ hbd) (fun hS => ?_)
  simp only [List.size_toArray, List.length_cons, List.length_nil, Nat.reduceAdd]
  refine wpAnyH_take (i := 0) (v := .pointer (some ⟨pw, 0, none⟩)) rfl (by kernel_rfl) (by kernel_rfl) (by kernel_rfl) (fun _ _ _ h => h) (Or.inl ⟨by kernel_rfl, ?_⟩) hS ?_
  · intro w' hSw
    obtain ⟨s0, s1, s2, s3, s4⟩ := hSw
    go_simp
  try simp only [Act.put, List.getElem_toArray, List.getElem_cons_zero, List.setIfInBounds_toArray, List.set_cons_zero, List.set_cons_succ]
  refine wpAnyH_take (i := 1) (v := .pointer (some ⟨pw, 0, none⟩)) rfl (by kernel_rfl) (by kernel_rfl) (by kernel_rfl) (fun _ _ _ h => h) (Or.inl ⟨by kernel_rfl, ?_⟩) hS ?_
  · intro w' hSw
    obtain ⟨s0, s1, s2, s3, s4⟩ := hSw
    go_simp
  try simp only [Act.put, List.getElem_toArray, List.getElem_cons_succ, List.getElem_cons_zero, List.setIfInBounds_toArray, List.set_cons_zero, List.set_cons_succ]
  refine wpAnyH_take (i := 2) (v := .pointer (some ⟨pw, 0, none⟩)) rfl (by kernel_rfl) (by kernel_rfl) (by kernel_rfl) (fun _ _ _ h => h) (Or.inl ⟨by kernel_rfl, ?_⟩) hS ?_
  · intro w' hSw
    obtain ⟨s0, s1, s2, s3, s4⟩ := hSw
    go_simp
  try simp only [Act.put, List.getElem_toArray, List.getElem_cons_succ, List.getElem_cons_zero, List.setIfInBounds_toArray, List.set_cons_zero, List.set_cons_succ]
  refine wpAnyH_take (i := 3) (v := .slice (some ⟨bs, os, none⟩) ns cs) rfl (by kernel_rfl) (by kernel_rfl) (by kernel_rfl) (fun _ _ _ h => h) (Or.inl ⟨by kernel_rfl, ?_⟩) hS ?_
  · intro w' hSw
    obtain ⟨s0, s1, s2, s3, s4⟩ := hSw
    go_simp
  try simp only [Act.put, List.getElem_toArray, List.getElem_cons_succ, List.getElem_cons_zero, List.setIfInBounds_toArray, List.set_cons_zero, List.set_cons_succ]
  refine wpAnyH_take (i := 4) (v := .pointer (some ⟨w.heap.size, 1, none⟩)) rfl (by kernel_rfl) (by kernel_rfl) (by kernel_rfl) (fun _ _ _ h => h) (Or.inl ⟨by kernel_rfl, ?_⟩) hS ?_
  · intro w' hSw
    obtain ⟨s0, s1, s2, s3, s4⟩ := hSw
    go_simp
  try simp only [Act.put, List.getElem_toArray, List.getElem_cons_succ, List.getElem_cons_zero, List.setIfInBounds_toArray, List.set_cons_zero, List.set_cons_succ]
  refine wpAnyH_take (i := 5) (v := .int .i64 (i : Int)) rfl (by kernel_rfl) (by kernel_rfl) (by kernel_rfl) (fun _ _ _ h => h) (Or.inl ⟨by kernel_rfl, ?_⟩) hS ?_
  · intro w' hSw
    obtain ⟨s0, s1, s2, s3, s4⟩ := hSw
    go_simp
  try simp only [Act.put, List.getElem_toArray, List.getElem_cons_succ, List.getElem_cons_zero, List.setIfInBounds_toArray, List.set_cons_zero, List.set_cons_succ]
  refine wpAnyH_take (i := 6) (v := .pointer (some ⟨bs, os + i * 4, none⟩)) rfl (by kernel_rfl) (by kernel_rfl) (by kernel_rfl) (fun _ _ _ h => h) (Or.inl ⟨by kernel_rfl, ?_⟩) hS ?_
  · intro w' hSw
    obtain ⟨s0, s1, s2, s3, s4⟩ := hSw
    go_simp
  try simp only [Act.put, List.getElem_toArray, List.getElem_cons_succ, List.getElem_cons_zero, List.setIfInBounds_toArray, List.set_cons_zero, List.set_cons_succ]
  refine wpAnyH_take (i := 7) (v := .pointer (some ⟨bs, os + i * 4 + 1, none⟩)) rfl (by kernel_rfl) (by kernel_rfl) (by kernel_rfl) (fun _ _ _ h => h) (Or.inl ⟨by kernel_rfl, ?_⟩) hS ?_
  · intro w' hSw
    obtain ⟨s0, s1, s2, s3, s4⟩ := hSw
    go_simp
  try simp only [Act.put, List.getElem_toArray, List.getElem_cons_succ, List.getElem_cons_zero, List.setIfInBounds_toArray, List.set_cons_zero, List.set_cons_succ]
  refine wpAnyH_take (i := 8) (v := .agg #[.int .i64 ke, .int .i64 ge, .slice Ae ne ce]) rfl (by kernel_rfl) (by kernel_rfl) (by kernel_rfl) (fun _ _ _ h => h) (Or.inl ⟨by kernel_rfl, ?_⟩) hS ?_
  · intro w' hSw
    obtain ⟨s0, s1, s2, s3, s4⟩ := hSw
    go_simp
  try simp only [Act.put, List.getElem_toArray, List.getElem_cons_succ, List.getElem_cons_zero, List.setIfInBounds_toArray, List.set_cons_zero, List.set_cons_succ]
  refine wpAnyH_ready (rs := [9]) (by kernel_rfl) (by simp) ?_
  refine AllReadyH.cons rfl (fun KN hK => ?_) AllReadyH.nil
  go_simp
  refine (HKI.out _ hbd).mono ?_
  rintro e w4 ⟨rfl, hb6⟩
  replace hbd : Below W1.heap.size W1 w4 := hbd.trans (hb6.mono hbd.size)
  clear hb6
  refine hK.out _ _ (HKS.out _ hbd) (fun hS => ?_)
  clear hK KN
  try simp only [Act.put, List.getElem_toArray, List.getElem_cons_succ, List.getElem_cons_zero, List.setIfInBounds_toArray, List.set_cons_zero, List.set_cons_succ]
  refine wpAnyH_take (i := 10) (v := .bool r) rfl (by kernel_rfl) (by kernel_rfl) (by kernel_rfl) (fun _ _ _ h => h) (Or.inl ⟨by kernel_rfl, ?_⟩) hS ?_
  · intro w' hSw
    obtain ⟨s0, s1, s2, s3, s4⟩ := hSw
    go_simp
  try simp only [Act.put, List.getElem_toArray, List.getElem_cons_succ, List.getElem_cons_zero, List.setIfInBounds_toArray, List.set_cons_zero, List.set_cons_succ]
  refine wpAnyH_done (by kernel_rfl) ?_ _
  try simp only [List.setIfInBounds_toArray]
  try simp only [List.getElem_toArray, List.getElem_cons_succ, List.getElem_cons_zero, List.setIfInBounds_toArray, List.set_cons_zero, List.set_cons_succ]
  have HB3 := Lib.hid (HB1.out.trans (hbd.mono HB1.out.size))
  replace x1 := x1.keep hbd x1.lt
  replace x2 := x2.keep hbd x2.lt
  have HSP := Lib.hid (fun (Z : Nat → Prop) (W' : World) (h' : Below w4.heap.size w4 W') => HSP1.out Z W' (hbd.trans (h'.mono hbd.size)))
  replace d1 := (hbd.cell (cell_lt d1)).trans d1
  replace d2 := (hbd.cell (cell_lt d2)).trans d2
  replace s0 := (hbd.cell (cell_lt s0)).trans s0
  replace e1 := (hbd.cell (cell_lt e1)).trans e1
  replace e2 := (hbd.cell (cell_lt e2)).trans e2
  replace e3 := (hbd.cell (cell_lt e3)).trans e3
  clear hS HKS HKI HSP1 hbd HB1
  cases r
  case' true =>
    have HQ := Lib.hid (HEQ0.out.trans (if_pos rfl))
    obtain ⟨r0, r1, r2⟩ := x2.three
    have f0 := x2.frozen 0
    have f1 := x2.frozen 1
    have f2 := x2.frozen 2
    have lz := x2.lt
    clear x1 x2 HSP e1 e2 e3 d1 d2
    go_wp2_with fail
    refine bodyPost_ret (v := .tuple #[.agg #[.int .i64 0, .int .i64 0, .slice none 0 0], .int .i64 2]) (by simp [results, Tryz.results106, go_sem, r0, r1, r2]) rfl ?_
    first | exact spX_no HQ.out HB3.out _ (by omega) _ _ _ | exact spX_no0 HQ.out HB3.out
  have HEQ := Lib.hid (HEQ0.out.trans (if_neg (by decide)))
  clear HEQ0 x1
  have hlz := x2.lt
  have hl0 := HB3.out.size
  generalize w4 = W3 at *
  go_wp2_with fail
  have HKS : Hid (∀ w' : World, Below W3.heap.size W3 w' → (fun w' => w'.cell? ⟨w.heap.size, 1, none⟩ = some (.int .i64 (i : Int)) ∧ w'.cell? ⟨pw, 0, none⟩ = some (.slice (some ⟨bs, os, none⟩) ns cs) ∧ w'.cell? ⟨bs, os + i * 4 + 1, none⟩ = some (.int .i64 ke) ∧ w'.cell? ⟨bs, os + i * 4 + 2, none⟩ = some (.int .i64 ge) ∧ w'.cell? ⟨bs, os + i * 4 + 3, none⟩ = some (.slice Ae ne ce) ∧ w'.cell? ⟨w.heap.size, 2, none⟩ = some (.slice A n c)) w') := Lib.hid fun w' h => ⟨(h.cell (cell_lt d1)).trans d1, (h.cell (cell_lt s0)).trans s0, (h.cell (cell_lt e1)).trans e1, (h.cell (cell_lt e2)).trans e2, (h.cell (cell_lt e3)).trans e3, (h.cell (cell_lt d2)).trans d2⟩
  have hbd : Below W3.heap.size W3 W3.drew := (Below.refl _ W3).drew
  refine wp_region_held_drew (S := fun w' => w'.cell? ⟨w.heap.size, 1, none⟩ = some (.int .i64 (i : Int)) ∧ w'.cell? ⟨pw, 0, none⟩ = some (.slice (some ⟨bs, os, none⟩) ns cs) ∧ w'.cell? ⟨bs, os + i * 4 + 1, none⟩ = some (.int .i64 ke) ∧ w'.cell? ⟨bs, os + i * 4 + 2, none⟩ = some (.int .i64 ge) ∧ w'.cell? ⟨bs, os + i * 4 + 3, none⟩ = some (.slice Ae ne ce) ∧ w'.cell? ⟨w.heap.size, 2, none⟩ = some (.slice A n c)) (by kernel_rfl) (HKS.out _ hbd) (fun hS => ?_)
  simp only [List.size_toArray, List.length_cons, List.length_nil, Nat.reduceAdd]
  refine wpAnyH_take (i := 0) (v := .pointer (some ⟨pw, 0, none⟩)) rfl (by kernel_rfl) (by kernel_rfl) (by kernel_rfl) (fun _ _ _ h => h) (Or.inl ⟨by kernel_rfl, ?_⟩) hS ?_
  · intro w' hSw
    obtain ⟨s0, s1, s2, s3, s4, s5⟩ := hSw
    go_simp
  try simp only [Act.put, List.getElem_toArray, List.getElem_cons_zero, List.setIfInBounds_toArray, List.set_cons_zero, List.set_cons_succ]
  refine wpAnyH_take (i := 1) (v := .slice Ac nc cc) rfl (by kernel_rfl) (by kernel_rfl) (by kernel_rfl) (fun _ _ _ h => h) (Or.inl ⟨by kernel_rfl, ?_⟩) hS ?_
  · intro w' hSw
    obtain ⟨s0, s1, s2, s3, s4, s5⟩ := hSw
    go_simp
  try simp only [Act.put, List.getElem_toArray, List.getElem_cons_succ, List.getElem_cons_zero, List.setIfInBounds_toArray, List.set_cons_zero, List.set_cons_succ]
  refine wpAnyH_take (i := 2) (v := .pointer (some ⟨pw, 0, none⟩)) rfl (by kernel_rfl) (by kernel_rfl) (by kernel_rfl) (fun _ _ _ h => h) (Or.inl ⟨by kernel_rfl, ?_⟩) hS ?_
  · intro w' hSw
    obtain ⟨s0, s1, s2, s3, s4, s5⟩ := hSw
    go_simp
  try simp only [Act.put, List.getElem_toArray, List.getElem_cons_succ, List.getElem_cons_zero, List.setIfInBounds_toArray, List.set_cons_zero, List.set_cons_succ]
  refine wpAnyH_take (i := 3) (v := .pointer (some ⟨pw, 0, none⟩)) rfl (by kernel_rfl) (by kernel_rfl) (by kernel_rfl) (fun _ _ _ h => h) (Or.inl ⟨by kernel_rfl, ?_⟩) hS ?_
  · intro w' hSw
    obtain ⟨s0, s1, s2, s3, s4, s5⟩ := hSw
    go_simp
  try simp only [Act.put, List.getElem_toArray, List.getElem_cons_succ, List.getElem_cons_zero, List.setIfInBounds_toArray, List.set_cons_zero, List.set_cons_succ]
  refine wpAnyH_take (i := 4) (v := .pointer (some ⟨pw, 0, none⟩)) rfl (by kernel_rfl) (by kernel_rfl) (by kernel_rfl) (fun _ _ _ h => h) (Or.inl ⟨by kernel_rfl, ?_⟩) hS ?_
  · intro w' hSw
    obtain ⟨s0, s1, s2, s3, s4, s5⟩ := hSw
    go_simp
  try simp only [Act.put, List.getElem_toArray, List.getElem_cons_succ, List.getElem_cons_zero, List.setIfInBounds_toArray, List.set_cons_zero, List.set_cons_succ]
  refine wpAnyH_take (i := 5) (v := .slice (some ⟨bs, os, none⟩) ns cs) rfl (by kernel_rfl) (by kernel_rfl) (by kernel_rfl) (fun _ _ _ h => h) (Or.inl ⟨by kernel_rfl, ?_⟩) hS ?_
  · intro w' hSw
    obtain ⟨s0, s1, s2, s3, s4, s5⟩ := hSw
    go_simp
  try simp only [Act.put, List.getElem_toArray, List.getElem_cons_succ, List.getElem_cons_zero, List.setIfInBounds_toArray, List.set_cons_zero, List.set_cons_succ]
  refine wpAnyH_take (i := 6) (v := .pointer (some ⟨w.heap.size, 1, none⟩)) rfl (by kernel_rfl) (by kernel_rfl) (by kernel_rfl) (fun _ _ _ h => h) (Or.inl ⟨by kernel_rfl, ?_⟩) hS ?_
  · intro w' hSw
    obtain ⟨s0, s1, s2, s3, s4, s5⟩ := hSw
    go_simp
  try simp only [Act.put, List.getElem_toArray, List.getElem_cons_succ, List.getElem_cons_zero, List.setIfInBounds_toArray, List.set_cons_zero, List.set_cons_succ]
  refine wpAnyH_take (i := 7) (v := .int .i64 (i : Int)) rfl (by kernel_rfl) (by kernel_rfl) (by kernel_rfl) (fun _ _ _ h => h) (Or.inl ⟨by kernel_rfl, ?_⟩) hS ?_
  · intro w' hSw
    obtain ⟨s0, s1, s2, s3, s4, s5⟩ := hSw
    go_simp
  try simp only [Act.put, List.getElem_toArray, List.getElem_cons_succ, List.getElem_cons_zero, List.setIfInBounds_toArray, List.set_cons_zero, List.set_cons_succ]
  refine wpAnyH_take (i := 8) (v := .pointer (some ⟨bs, os + i * 4, none⟩)) rfl (by kernel_rfl) (by kernel_rfl) (by kernel_rfl) (fun _ _ _ h => h) (Or.inl ⟨by kernel_rfl, ?_⟩) hS ?_
  · intro w' hSw
    obtain ⟨s0, s1, s2, s3, s4, s5⟩ := hSw
    go_simp
  try simp only [Act.put, List.getElem_toArray, List.getElem_cons_succ, List.getElem_cons_zero, List.setIfInBounds_toArray, List.set_cons_zero, List.set_cons_succ]
  refine wpAnyH_take (i := 9) (v := .pointer (some ⟨bs, os + i * 4 + 1, none⟩)) rfl (by kernel_rfl) (by kernel_rfl) (by kernel_rfl) (fun _ _ _ h => h) (Or.inl ⟨by kernel_rfl, ?_⟩) hS ?_
  · intro w' hSw
    obtain ⟨s0, s1, s2, s3, s4, s5⟩ := hSw
    go_simp
  try simp only [Act.put, List.getElem_toArray, List.getElem_cons_succ, List.getElem_cons_zero, List.setIfInBounds_toArray, List.set_cons_zero, List.set_cons_succ]
  refine wpAnyH_take (i := 10) (v := .agg #[.int .i64 ke, .int .i64 ge, .slice Ae ne ce]) rfl (by kernel_rfl) (by kernel_rfl) (by kernel_rfl) (fun _ _ _ h => h) (Or.inl ⟨by kernel_rfl, ?_⟩) hS ?_
  · intro w' hSw
    obtain ⟨s0, s1, s2, s3, s4, s5⟩ := hSw
    go_simp
  try simp only [Act.put, List.getElem_toArray, List.getElem_cons_succ, List.getElem_cons_zero, List.setIfInBounds_toArray, List.set_cons_zero, List.set_cons_succ]
  refine wpAnyH_take (i := 11) (v := .pointer (some ⟨w.heap.size, 2, none⟩)) rfl (by kernel_rfl) (by kernel_rfl) (by kernel_rfl) (fun _ _ _ h => h) (Or.inl ⟨by kernel_rfl, ?_⟩) hS ?_
  · intro w' hSw
    obtain ⟨s0, s1, s2, s3, s4, s5⟩ := hSw
    go_simp
  try simp only [Act.put, List.getElem_toArray, List.getElem_cons_succ, List.getElem_cons_zero, List.setIfInBounds_toArray, List.set_cons_zero, List.set_cons_succ]
  refine wpAnyH_take (i := 12) (v := .slice A n c) rfl (by kernel_rfl) (by kernel_rfl) (by kernel_rfl) (fun _ _ _ h => h) (Or.inl ⟨by kernel_rfl, ?_⟩) hS ?_
  · intro w' hSw
    obtain ⟨s0, s1, s2, s3, s4, s5⟩ := hSw
    go_simp
  try simp only [Act.put, List.getElem_toArray, List.getElem_cons_succ, List.getElem_cons_zero, List.setIfInBounds_toArray, List.set_cons_zero, List.set_cons_succ]
  refine wpAnyH_ready (rs := [13, 17]) (by kernel_rfl) (by simp) ?_
  refine AllReadyH.cons rfl (fun KN hK => ?_) (AllReadyH.cons rfl (fun KN hK => ?_) AllReadyH.nil)
  · go_simp
    refine (HSP.out (fun b => b = w.heap.size + 1) _ hbd (fun b z => by have := hbd.size; omega)).mono ?_
    rintro e v0 ⟨k3, h3, A3, n3, c3, rfl, hS9, hb6⟩
    replace hbd : Below W3.heap.size W3 v0 := hbd.trans (hb6.mono hbd.size)
    clear hb6
    refine hK.out _ _ (HKS.out _ hbd) (fun hS => ?_)
    clear hK KN
    try simp only [Act.put, List.getElem_toArray, List.getElem_cons_succ, List.getElem_cons_zero, List.setIfInBounds_toArray, List.set_cons_zero, List.set_cons_succ]
    refine wpAnyH_take (i := 14) (v := .tuple #[.agg #[.int .i64 k3, .int .i64 h3, .slice A3 n3 c3], .int .i64 (erV R)]) rfl (by kernel_rfl) (by kernel_rfl) (by kernel_rfl) (fun _ _ _ h => h) (Or.inl ⟨by kernel_rfl, ?_⟩) hS ?_
    · intro w' hSw
      obtain ⟨s0, s1, s2, s3, s4, s5⟩ := hSw
      go_simp
    try simp only [Act.put, List.getElem_toArray, List.getElem_cons_succ, List.getElem_cons_zero, List.setIfInBounds_toArray, List.set_cons_zero, List.set_cons_succ]
    refine wpAnyH_take (i := 15) (v := .agg #[.int .i64 k3, .int .i64 h3, .slice A3 n3 c3]) rfl (by kernel_rfl) (by kernel_rfl) (by kernel_rfl) (fun _ _ _ h => h) (Or.inl ⟨by kernel_rfl, ?_⟩) hS ?_
    · intro w' hSw
      obtain ⟨s0, s1, s2, s3, s4, s5⟩ := hSw
      go_simp
    try simp only [Act.put, List.getElem_toArray, List.getElem_cons_succ, List.getElem_cons_zero, List.setIfInBounds_toArray, List.set_cons_zero, List.set_cons_succ]
    refine wpAnyH_take (i := 16) (v := .int .i64 (erV R)) rfl (by kernel_rfl) (by kernel_rfl) (by kernel_rfl) (fun _ _ _ h => h) (Or.inl ⟨by kernel_rfl, ?_⟩) hS ?_
    · intro w' hSw
      obtain ⟨s0, s1, s2, s3, s4, s5⟩ := hSw
      go_simp
    try simp only [Act.put, List.getElem_toArray, List.getElem_cons_succ, List.getElem_cons_zero, List.setIfInBounds_toArray, List.set_cons_zero, List.set_cons_succ]
    refine wpAnyH_ready (rs := [17]) (by kernel_rfl) (by simp) ?_
    refine AllReadyH.cons rfl (fun KN hK => ?_) AllReadyH.nil
    go_simp
    have hbn : Below W3.heap.size W3 (v0.alloc (.cells #[.int .i64 0, .int .i64 0, .slice none 0 0] 44)) := hbd.alloc hbd.size _
    refine hK.out _ _ (HKS.out _ hbn) (fun hS => ?_)
    clear hK KN
    try simp only [Act.put, List.getElem_toArray, List.getElem_cons_succ, List.getElem_cons_zero, List.setIfInBounds_toArray, List.set_cons_zero, List.set_cons_succ]
    have xz : Box (v0.alloc (.cells #[.int .i64 0, .int .i64 0, .slice none 0 0] 44)) v0.heap.size 44 #[.int .i64 0, .int .i64 0, .slice none 0 0] := Box.new _ _ _
    have hpl0 : W3.heap.size ≤ v0.heap.size := hbd.size
    replace hS9 : ∀ t, R = .ok t → RX (fun b => b = w.heap.size + 1 ∨ b = v0.heap.size) (v0.alloc (.cells #[.int .i64 0, .int .i64 0, .slice none 0 0] 44)) t (.agg #[.int .i64 k3, .int .i64 h3, .slice A3 n3 c3]) := fun t e => (hS9 t e).keepE (show Below v0.heap.size v0 (v0.alloc (.cells #[.int .i64 0, .int .i64 0, .slice none 0 0] 44)) from (Below.refl _ _).alloc (Nat.le_refl _) _) (fun b z => z.elim .inl (fun e => .inr (by omega)))
    obtain ⟨pB, hpB0⟩ : ∃ p, v0.heap.size = p := ⟨_, rfl⟩
    rw [hpB0] at xz hS9
    try rw [hpB0]
    have hpl : W3.heap.size ≤ pB := by omega
    clear hpB0 hbd hpl0
    generalize v0.alloc (.cells #[.int .i64 0, .int .i64 0, .slice none 0 0] 44) = wN at *
    have hbd := hbn
    clear hbn
    obtain ⟨z0, z1, z2⟩ := xz.three
    have u0 := xz.frozen 0
    have u1 := xz.frozen 1
    have u2 := xz.frozen 2
    refine wpAnyH_ready (rs := [18]) (by kernel_rfl) (by simp) ?_
    refine AllReadyH.cons rfl (fun KN hK => ?_) AllReadyH.nil
    go_simp
    have hbF := below_set3 hbd (a := pB) hpl (.int .i64 k3) (.int .i64 h3) (.slice A3 n3 c3)
    refine hK.out _ _ (HKS.out _ hbF) (fun hS => ?_)
    clear hK KN
    try simp only [Act.put, List.getElem_toArray, List.getElem_cons_succ, List.getElem_cons_zero, List.setIfInBounds_toArray, List.set_cons_zero, List.set_cons_succ]
    have xB := xz.put3 (.int .i64 k3) (.int .i64 h3) (.slice A3 n3 c3)
    have hrdF : ∀ t, R = .ok t → RX (fun b => b = w.heap.size + 1) (((wN.setCell ⟨pB, 0, none⟩ (.int .i64 k3)).setCell ⟨pB, 1, none⟩ (.int .i64 h3)).setCell ⟨pB, 2, none⟩ (.slice A3 n3 c3)) t (.agg #[.int .i64 k3, .int .i64 h3, .slice A3 n3 c3]) := fun t e => RdF.moveX (fun b hok hl => ⟨fun z => hok (.inl z), heap_other3 _ _ _ _ _ _ (fun e => hok (.inr e))⟩) _ _ (hS9 t e)
    clear hS9 xz hbd z0 z1 z2 u0 u1 u2
    generalize ((wN.setCell ⟨pB, 0, none⟩ (.int .i64 k3)).setCell ⟨pB, 1, none⟩ (.int .i64 h3)).setCell ⟨pB, 2, none⟩ (.slice A3 n3 c3) = Wf at *
    refine wpAnyH_take (i := 19) (v := .int .i64 (erV R)) rfl (by kernel_rfl) (by kernel_rfl) (by kernel_rfl) (fun _ _ _ h => h) (Or.inl ⟨by kernel_rfl, ?_⟩) hS ?_
    · intro w' hSw
      obtain ⟨s0, s1, s2, s3, s4, s5⟩ := hSw
      go_simp
    try simp only [Act.put, List.getElem_toArray, List.getElem_cons_succ, List.getElem_cons_zero, List.setIfInBounds_toArray, List.set_cons_zero, List.set_cons_succ]
    refine wpAnyH_done (by kernel_rfl) ?_ _
    try simp only [List.setIfInBounds_toArray]
    try simp only [List.getElem_toArray, List.getElem_cons_succ, List.getElem_cons_zero, List.setIfInBounds_toArray, List.set_cons_zero, List.set_cons_succ]
    have HBF := Lib.hid (HB3.out.trans (hbF.mono HB3.out.size))
    have yr := x2.keep hbF x2.lt
    have y := yr.put3 (.int .i64 k3) (.int .i64 h3) (.slice A3 n3 c3)
    have HRF := Lib.hid hrdF
    clear hS HKS hbF hpl hrdF HSP x2 d1 s0 e1 e2 e3 d2
    obtain ⟨y0, y1, y2⟩ := xB.three
    obtain ⟨r0, r1, r2⟩ := yr.three
    have f0 := yr.frozen 0
    have f1 := yr.frozen 1
    have f2 := yr.frozen 2
    have lz := yr.lt
    obtain ⟨z0, z1, z2⟩ := y.three
    clear yr y xB
    go_wp2_with fail
    refine bodyPost_ret (v := .tuple #[.agg #[.int .i64 k3, .int .i64 h3, .slice A3 n3 c3], .int .i64 (erV R)]) (by simp [results, Tryz.results106, go_sem, z0, z1, z2]) rfl ?_
    rw [HEQ.out]
    exact spX_mv HRF.out HBF.out (by omega) _ _ _
  · go_simp
    have hbn : Below W3.heap.size W3 ((W3.alloc (.cells #[.int .i64 0, .int .i64 0, .slice none 0 0] 44)).drew) := ((Below.refl _ W3).alloc (Nat.le_refl _) _).drew
    refine hK.out _ _ (HKS.out _ hbn) (fun hS => ?_)
    clear hK KN
    try simp only [Act.put, List.getElem_toArray, List.getElem_cons_succ, List.getElem_cons_zero, List.setIfInBounds_toArray, List.set_cons_zero, List.set_cons_succ]
    have xz : Box ((W3.alloc (.cells #[.int .i64 0, .int .i64 0, .slice none 0 0] 44)).drew) W3.heap.size 44 #[.int .i64 0, .int .i64 0, .slice none 0 0] := Box.drewI (Box.new _ _ _)
    have hpl0 : W3.heap.size ≤ W3.heap.size := Nat.le_refl _
    obtain ⟨pB, hpB0⟩ : ∃ p, W3.heap.size = p := ⟨_, rfl⟩
    rw [hpB0] at xz
    try rw [hpB0]
    have hpl : W3.heap.size ≤ pB := by omega
    clear hpB0 hbd hpl0
    generalize (W3.alloc (.cells #[.int .i64 0, .int .i64 0, .slice none 0 0] 44)).drew = wN at *
    have hbd := hbn
    clear hbn
    refine wpAnyH_ready (rs := [13]) (by kernel_rfl) (by simp) ?_
    refine AllReadyH.cons rfl (fun KN hK => ?_) AllReadyH.nil
    go_simp
    refine (HSP.out (fun b => b = w.heap.size + 1 ∨ b = pB) _ hbd (fun b z => by have := xz.lt; have := hbd.size; rcases z with z | z <;> omega)).mono ?_
    rintro e v1 ⟨k3, h3, A3, n3, c3, rfl, hS9, hb6⟩
    replace hbd : Below W3.heap.size W3 v1 := hbd.trans (hb6.mono hbd.size)
    replace xz := xz.keep hb6 xz.lt
    clear hb6
    refine hK.out _ _ (HKS.out _ hbd) (fun hS => ?_)
    clear hK KN
    try simp only [Act.put, List.getElem_toArray, List.getElem_cons_succ, List.getElem_cons_zero, List.setIfInBounds_toArray, List.set_cons_zero, List.set_cons_succ]
    refine wpAnyH_take (i := 14) (v := .tuple #[.agg #[.int .i64 k3, .int .i64 h3, .slice A3 n3 c3], .int .i64 (erV R)]) rfl (by kernel_rfl) (by kernel_rfl) (by kernel_rfl) (fun _ _ _ h => h) (Or.inl ⟨by kernel_rfl, ?_⟩) hS ?_
    · intro w' hSw
      obtain ⟨s0, s1, s2, s3, s4, s5⟩ := hSw
      go_simp
    try simp only [Act.put, List.getElem_toArray, List.getElem_cons_succ, List.getElem_cons_zero, List.setIfInBounds_toArray, List.set_cons_zero, List.set_cons_succ]
    refine wpAnyH_take (i := 15) (v := .agg #[.int .i64 k3, .int .i64 h3, .slice A3 n3 c3]) rfl (by kernel_rfl) (by kernel_rfl) (by kernel_rfl) (fun _ _ _ h => h) (Or.inl ⟨by kernel_rfl, ?_⟩) hS ?_
    · intro w' hSw
      obtain ⟨s0, s1, s2, s3, s4, s5⟩ := hSw
      go_simp
    try simp only [Act.put, List.getElem_toArray, List.getElem_cons_succ, List.getElem_cons_zero, List.setIfInBounds_toArray, List.set_cons_zero, List.set_cons_succ]
    refine wpAnyH_take (i := 16) (v := .int .i64 (erV R)) rfl (by kernel_rfl) (by kernel_rfl) (by kernel_rfl) (fun _ _ _ h => h) (Or.inl ⟨by kernel_rfl, ?_⟩) hS ?_
    · intro w' hSw
      obtain ⟨s0, s1, s2, s3, s4, s5⟩ := hSw
      go_simp
    try simp only [Act.put, List.getElem_toArray, List.getElem_cons_succ, List.getElem_cons_zero, List.setIfInBounds_toArray, List.set_cons_zero, List.set_cons_succ]
    obtain ⟨z0, z1, z2⟩ := xz.three
    have u0 := xz.frozen 0
    have u1 := xz.frozen 1
    have u2 := xz.frozen 2
    refine wpAnyH_ready (rs := [18]) (by kernel_rfl) (by simp) ?_
    refine AllReadyH.cons rfl (fun KN hK => ?_) AllReadyH.nil
    go_simp
    have hbF := below_set3 hbd (a := pB) hpl (.int .i64 k3) (.int .i64 h3) (.slice A3 n3 c3)
    refine hK.out _ _ (HKS.out _ hbF) (fun hS => ?_)
    clear hK KN
    try simp only [Act.put, List.getElem_toArray, List.getElem_cons_succ, List.getElem_cons_zero, List.setIfInBounds_toArray, List.set_cons_zero, List.set_cons_succ]
    have xB := xz.put3 (.int .i64 k3) (.int .i64 h3) (.slice A3 n3 c3)
    have hrdF : ∀ t, R = .ok t → RX (fun b => b = w.heap.size + 1) (((v1.setCell ⟨pB, 0, none⟩ (.int .i64 k3)).setCell ⟨pB, 1, none⟩ (.int .i64 h3)).setCell ⟨pB, 2, none⟩ (.slice A3 n3 c3)) t (.agg #[.int .i64 k3, .int .i64 h3, .slice A3 n3 c3]) := fun t e => RdF.moveX (fun b hok hl => ⟨fun z => hok (.inl z), heap_other3 _ _ _ _ _ _ (fun e => hok (.inr e))⟩) _ _ (hS9 t e)
    clear hS9 xz hbd z0 z1 z2 u0 u1 u2
    generalize ((v1.setCell ⟨pB, 0, none⟩ (.int .i64 k3)).setCell ⟨pB, 1, none⟩ (.int .i64 h3)).setCell ⟨pB, 2, none⟩ (.slice A3 n3 c3) = Wf at *
    refine wpAnyH_take (i := 19) (v := .int .i64 (erV R)) rfl (by kernel_rfl) (by kernel_rfl) (by kernel_rfl) (fun _ _ _ h => h) (Or.inl ⟨by kernel_rfl, ?_⟩) hS ?_
    · intro w' hSw
      obtain ⟨s0, s1, s2, s3, s4, s5⟩ := hSw
      go_simp
    try simp only [Act.put, List.getElem_toArray, List.getElem_cons_succ, List.getElem_cons_zero, List.setIfInBounds_toArray, List.set_cons_zero, List.set_cons_succ]
    refine wpAnyH_done (by kernel_rfl) ?_ _
    try simp only [List.setIfInBounds_toArray]
    try simp only [List.getElem_toArray, List.getElem_cons_succ, List.getElem_cons_zero, List.setIfInBounds_toArray, List.set_cons_zero, List.set_cons_succ]
    have HBF := Lib.hid (HB3.out.trans (hbF.mono HB3.out.size))
    have yr := x2.keep hbF x2.lt
    have y := yr.put3 (.int .i64 k3) (.int .i64 h3) (.slice A3 n3 c3)
    have HRF := Lib.hid hrdF
    clear hS HKS hbF hpl hrdF HSP x2 d1 s0 e1 e2 e3 d2
    obtain ⟨y0, y1, y2⟩ := xB.three
    obtain ⟨r0, r1, r2⟩ := yr.three
    have f0 := yr.frozen 0
    have f1 := yr.frozen 1
    have f2 := yr.frozen 2
    have lz := yr.lt
    obtain ⟨z0, z1, z2⟩ := y.three
    clear yr y xB
    go_wp2_with fail
    refine bodyPost_ret (v := .tuple #[.agg #[.int .i64 k3, .int .i64 h3, .slice A3 n3 c3], .int .i64 (erV R)]) (by simp [results, Tryz.results106, go_sem, z0, z1, z2]) rfl ?_
    rw [HEQ.out]
    exact spX_mv HRF.out HBF.out (by omega) _ _ _
set_option maxRecDepth 100000 in
set_option maxHeartbeats 16000000 in
theorem eVarC {W : WV} {h : Int} {xs : List T} (ih : ∀ x ∈ xs, TmE W x) : CoE W (.node 4 h xs) := by
  intro cx B As ns cs Am nm cm Ac nc cc pw vm w hE hbm hsum hlen hk hp hv
  obtain ⟨A, n, c, rfl, _, _, g3, g4, g5, g6⟩ := Rd_node.1 hv
  have hxl : CLV w xs A n c := ⟨g3, g4, g5, g6⟩
  clear g3 g4 g5 g6
  have h0 := headV hbm.nod
  have hccap := hk.cx.cap
  have hcle := hk.cx.le
  have hcl := hk.cx.len
  unfold maxLen at hccap
  obtain ⟨W0, hW⟩ : ∃ W0, (w.alloc (.cells #[.int .i64 4, .int .i64 h, .slice A n c] 44)).alloc (.cells #[.int .i64 0, .int .i64 0, .slice none 0 0] 44) = W0 := ⟨_, rfl⟩
  have hb : Below w.heap.size w W0 := by rw [← hW]; exact ((Below.refl _ _).alloc (Nat.le_refl _) _).alloc (by simp) _
  have x1 : Box W0 w.heap.size 44 #[.int .i64 4, .int .i64 h, .slice A n c] := by rw [← hW]; exact (Box.new _ _ _).alloc _
  have x2 : Box W0 (w.heap.size + 1) 44 #[.int .i64 0, .int .i64 0, .slice none 0 0] := by rw [← hW]; exact (Box.new (w.alloc _) _ _).at (by simp)
  obtain ⟨d0, d1, d2⟩ := x1.three
  have HB := Lib.hid hb
  by_cases hlt : (nc : Int) ≤ h
  case' pos =>
    have hd : decide (h ≥ (nc : Int)) = true := by simpa using hlt
    have HQ := Lib.hid (cm_var_no (W := W) (xs := xs) (cx := cx) (h := h) (by omega))
    obtain ⟨r0, r1, r2⟩ := x2.three
    have f0 := x2.frozen 0
    have f1 := x2.frozen 1
    have f2 := x2.frozen 2
    have lz := x2.lt
    clear hE hbm hsum hlen hk hp ih hb x1 x2 hxl hv
    go_enter Tryz.func106, Tryz.ntmps106
    go_wp2_with fail
    try rw [hW]
    clear hW
    go_wp2_with fail
    refine bodyPost_ret (v := .tuple #[.agg #[.int .i64 0, .int .i64 0, .slice none 0 0], .int .i64 2]) (by simp [results, Tryz.results106, go_sem, r0, r1, r2]) rfl ?_
    first | exact spX_no HQ.out HB.out _ (by omega) _ _ _ | exact spX_no0 HQ.out HB.out
  have hd : decide (h ≥ (nc : Int)) = false := by simpa using hlt
  obtain ⟨i, hi⟩ : ∃ i : Nat, (i : Int) + h + 1 = nc := ⟨((nc : Int) - 1 - h).toNat, by omega⟩
  obtain ⟨en, hen⟩ := at_of hcl (show i < nc by omega)
  have HEQ0 := cm_var (W := W) (xs := xs) (h := h) i en hen (by omega) h0
  obtain ⟨bc, oc, ke, he, Ae, ne, ce, eA, e0, e1, e2, hre⟩ := (hk.cx.at_ i en hen).full
  subst eA
  replace e0 := (hb.cell (cell_lt e0)).trans e0
  replace e1 := (hb.cell (cell_lt e1)).trans e1
  replace e2 := (hb.cell (cell_lt e2)).trans e2
  have hbe := hE.cx en (List.mem_of_getElem? hen)
  have hw1 : IntKind.i64.wrap ((nc : Int) - 1) = (nc : Int) - 1 := by rw [wrapEq, wrap_small (by omega) (by omega)]
  have hw2 : IntKind.i64.wrap ((nc : Int) - 1 - h) = (i : Int) := by rw [wrapEq, wrap_small (by omega) (by omega)]; omega
  have hw3 : IntKind.i64.wrap (h + 1) = h + 1 := by rw [wrapEq, wrap_small (by omega) (by omega)]
  have hi0 : (0 : Int) ≤ i := by omega
  have hi1 : (i : Int) < nc := by omega
  have hn1 : nc ≤ 100000 := by omega
  rw [nd] at hlen hsum
  have hBh : B ≤ hiV - dlV := by unfold dlV hiV at *; omega
  have hbu : BdV (B + 1048576) (upT (h + 1) en 0) := (bd_up hbe (by omega)).mono (by omega)
  have hnd : nd en ≤ 1048576 := by have := ((myB_iff en).1 hbe.my).2.1; omega
  have hru : rupX en (h + 1) 0 = upT (h + 1) en 0 := rup_bd (M := B) (by unfold hiV dlV at *; omega) hbe ⟨by omega, by omega⟩
  have HUP : Hid (∀ W' : World, Below W0.heap.size W0 W' → Calls Tryz.prog 121 #[.agg #[.int .i64 ke, .int .i64 he, .slice Ae ne ce], .int .i64 (h + 1), .int .i64 0] W' (FEnd (upT (h + 1) en 0) W')) := Lib.hid fun W' h' => by
    rw [← hru]
    exact refUpC en (h + 1) 0 _ W' (Rd.keep (hb.trans (h'.mono hb.size)) _ _ hre) hnd
  have HSP := Lib.hid (fun (Z : Nat → Prop) (W' : World) (ku gu : Int) (Au : Option Addr) (nu cu : Nat) (h' : Below W0.heap.size W0 W') (hU : RX Z W' (upT (h + 1) en 0) (.agg #[.int .i64 ku, .int .i64 gu, .slice Au nu cu])) (hz : ∀ b, Z b → w.heap.size ≤ b ∧ b < W'.heap.size) => eSpineC (Z := Z) (W := W) (xs := xs) (cx := cx) (t := upT (h + 1) en 0) (B := B) (B0 := B + 1048576) (ns := ns) (Am := Am) (nm := nm) (nc := nc) ih hE (fun x hx => hbm.arg hx) hbu (by omega) (by unfold dlV hiV at *; omega) (by omega) W' (hk.keep (hb.trans (h'.mono hb.size))) (hp.keep (hb.trans (h'.mono hb.size)) hp.lt) (clv_rx hxl (hb.trans (h'.mono hb.size)) (fun b z => (hz b z).1)) hU (fun b z => (hz b z).2))
  obtain ⟨R, hR⟩ : ∃ R, spV W xs cx (upT (h + 1) en 0) = R := ⟨_, rfl⟩
  rw [hR] at HSP HEQ0
  have HEQ := Lib.hid HEQ0
  have hlz := x2.lt
  have hl0 := hb.size
  generalize upT (h + 1) en 0 = u at *
  clear hE hbm hsum hlen hk hp ih hre hbe hxl hru hbu hlt hR hv hen hb x1 hBh hnd HEQ0
  go_enter Tryz.func106, Tryz.ntmps106
  go_wp2_with fail
  try rw [hW]
  clear hW
  go_wp2_with fail
  have HKS : Hid (∀ w' : World, Below W0.heap.size W0 w' → (fun w' => w'.cell? ⟨w.heap.size, 1, none⟩ = some (.int .i64 h) ∧ w'.cell? ⟨w.heap.size, 2, none⟩ = some (.slice A n c) ∧ w'.cell? ⟨bc, oc + i * 3, none⟩ = some (.int .i64 ke) ∧ w'.cell? ⟨bc, oc + i * 3 + 1, none⟩ = some (.int .i64 he) ∧ w'.cell? ⟨bc, oc + i * 3 + 2, none⟩ = some (.slice Ae ne ce)) w') := Lib.hid fun w' h => ⟨(h.cell (cell_lt d1)).trans d1, (h.cell (cell_lt d2)).trans d2, (h.cell (cell_lt e0)).trans e0, (h.cell (cell_lt e1)).trans e1, (h.cell (cell_lt e2)).trans e2⟩
  have hbd : Below W0.heap.size W0 W0.drew := (Below.refl _ W0).drew
  refine wp_region_held_drew (S := fun w' => w'.cell? ⟨w.heap.size, 1, none⟩ = some (.int .i64 h) ∧ w'.cell? ⟨w.heap.size, 2, none⟩ = some (.slice A n c) ∧ w'.cell? ⟨bc, oc + i * 3, none⟩ = some (.int .i64 ke) ∧ w'.cell? ⟨bc, oc + i * 3 + 1, none⟩ = some (.int .i64 he) ∧ w'.cell? ⟨bc, oc + i * 3 + 2, none⟩ = some (.slice Ae ne ce)) (by kernel_rfl) (HKS.out _ hbd) (fun hS => ?_)
  simp only [List.size_toArray, List.length_cons, List.length_nil, Nat.reduceAdd]
  refine wpAnyH_take (i := 0) (v := .pointer (some ⟨pw, 0, none⟩)) rfl (by kernel_rfl) (by kernel_rfl) (by kernel_rfl) (fun _ _ _ h => h) (Or.inl ⟨by kernel_rfl, ?_⟩) hS ?_
  · intro w' hSw
    obtain ⟨s0, s1, s2, s3, s4⟩ := hSw
    go_simp
  try simp only [Act.put, List.getElem_toArray, List.getElem_cons_zero, List.setIfInBounds_toArray, List.set_cons_zero, List.set_cons_succ]
  refine wpAnyH_take (i := 1) (v := .slice (some ⟨bc, oc, none⟩) nc cc) rfl (by kernel_rfl) (by kernel_rfl) (by kernel_rfl) (fun _ _ _ h => h) (Or.inl ⟨by kernel_rfl, ?_⟩) hS ?_
  · intro w' hSw
    obtain ⟨s0, s1, s2, s3, s4⟩ := hSw
    go_simp
  try simp only [Act.put, List.getElem_toArray, List.getElem_cons_succ, List.getElem_cons_zero, List.setIfInBounds_toArray, List.set_cons_zero, List.set_cons_succ]
  refine wpAnyH_take (i := 2) (v := .slice (some ⟨bc, oc, none⟩) nc cc) rfl (by kernel_rfl) (by kernel_rfl) (by kernel_rfl) (fun _ _ _ h => h) (Or.inl ⟨by kernel_rfl, ?_⟩) hS ?_
  · intro w' hSw
    obtain ⟨s0, s1, s2, s3, s4⟩ := hSw
    go_simp
  try simp only [Act.put, List.getElem_toArray, List.getElem_cons_succ, List.getElem_cons_zero, List.setIfInBounds_toArray, List.set_cons_zero, List.set_cons_succ]
  refine wpAnyH_take (i := 3) (v := .slice (some ⟨bc, oc, none⟩) nc cc) rfl (by kernel_rfl) (by kernel_rfl) (by kernel_rfl) (fun _ _ _ h => h) (Or.inl ⟨by kernel_rfl, ?_⟩) hS ?_
  · intro w' hSw
    obtain ⟨s0, s1, s2, s3, s4⟩ := hSw
    go_simp
  try simp only [Act.put, List.getElem_toArray, List.getElem_cons_succ, List.getElem_cons_zero, List.setIfInBounds_toArray, List.set_cons_zero, List.set_cons_succ]
  refine wpAnyH_take (i := 4) (v := .int .i64 nc) rfl (by kernel_rfl) (by kernel_rfl) (by kernel_rfl) (fun _ _ _ h => h) (Or.inl ⟨by kernel_rfl, ?_⟩) hS ?_
  · intro w' hSw
    obtain ⟨s0, s1, s2, s3, s4⟩ := hSw
    go_simp
  try simp only [Act.put, List.getElem_toArray, List.getElem_cons_succ, List.getElem_cons_zero, List.setIfInBounds_toArray, List.set_cons_zero, List.set_cons_succ]
  refine wpAnyH_take (i := 5) (v := .int .i64 ((nc : Int) - 1)) rfl (by kernel_rfl) (by kernel_rfl) (by kernel_rfl) (fun _ _ _ h => h) (Or.inl ⟨by kernel_rfl, ?_⟩) hS ?_
  · intro w' hSw
    obtain ⟨s0, s1, s2, s3, s4⟩ := hSw
    go_simp
  try simp only [Act.put, List.getElem_toArray, List.getElem_cons_succ, List.getElem_cons_zero, List.setIfInBounds_toArray, List.set_cons_zero, List.set_cons_succ]
  refine wpAnyH_take (i := 6) (v := .pointer (some ⟨w.heap.size, 1, none⟩)) rfl (by kernel_rfl) (by kernel_rfl) (by kernel_rfl) (fun _ _ _ h => h) (Or.inl ⟨by kernel_rfl, ?_⟩) hS ?_
  · intro w' hSw
    obtain ⟨s0, s1, s2, s3, s4⟩ := hSw
    go_simp
  try simp only [Act.put, List.getElem_toArray, List.getElem_cons_succ, List.getElem_cons_zero, List.setIfInBounds_toArray, List.set_cons_zero, List.set_cons_succ]
  refine wpAnyH_take (i := 7) (v := .int .i64 h) rfl (by kernel_rfl) (by kernel_rfl) (by kernel_rfl) (fun _ _ _ h => h) (Or.inl ⟨by kernel_rfl, ?_⟩) hS ?_
  · intro w' hSw
    obtain ⟨s0, s1, s2, s3, s4⟩ := hSw
    go_simp
  try simp only [Act.put, List.getElem_toArray, List.getElem_cons_succ, List.getElem_cons_zero, List.setIfInBounds_toArray, List.set_cons_zero, List.set_cons_succ]
  refine wpAnyH_take (i := 8) (v := .int .i64 i) rfl (by kernel_rfl) (by kernel_rfl) (by kernel_rfl) (fun _ _ _ h => h) (Or.inl ⟨by kernel_rfl, ?_⟩) hS ?_
  · intro w' hSw
    obtain ⟨s0, s1, s2, s3, s4⟩ := hSw
    go_simp
  try simp only [Act.put, List.getElem_toArray, List.getElem_cons_succ, List.getElem_cons_zero, List.setIfInBounds_toArray, List.set_cons_zero, List.set_cons_succ]
  refine wpAnyH_take (i := 9) (v := .pointer (some ⟨bc, oc + i * 3, none⟩)) rfl (by kernel_rfl) (by kernel_rfl) (by kernel_rfl) (fun _ _ _ h => h) (Or.inl ⟨by kernel_rfl, ?_⟩) hS ?_
  · intro w' hSw
    obtain ⟨s0, s1, s2, s3, s4⟩ := hSw
    go_simp
  try simp only [Act.put, List.getElem_toArray, List.getElem_cons_succ, List.getElem_cons_zero, List.setIfInBounds_toArray, List.set_cons_zero, List.set_cons_succ]
  refine wpAnyH_take (i := 10) (v := .agg #[.int .i64 ke, .int .i64 he, .slice Ae ne ce]) rfl (by kernel_rfl) (by kernel_rfl) (by kernel_rfl) (fun _ _ _ h => h) (Or.inl ⟨by kernel_rfl, ?_⟩) hS ?_
  · intro w' hSw
    obtain ⟨s0, s1, s2, s3, s4⟩ := hSw
    go_simp
  try simp only [Act.put, List.getElem_toArray, List.getElem_cons_succ, List.getElem_cons_zero, List.setIfInBounds_toArray, List.set_cons_zero, List.set_cons_succ]
  refine wpAnyH_take (i := 11) (v := .pointer (some ⟨w.heap.size, 1, none⟩)) rfl (by kernel_rfl) (by kernel_rfl) (by kernel_rfl) (fun _ _ _ h => h) (Or.inl ⟨by kernel_rfl, ?_⟩) hS ?_
  · intro w' hSw
    obtain ⟨s0, s1, s2, s3, s4⟩ := hSw
    go_simp
  try simp only [Act.put, List.getElem_toArray, List.getElem_cons_succ, List.getElem_cons_zero, List.setIfInBounds_toArray, List.set_cons_zero, List.set_cons_succ]
  refine wpAnyH_take (i := 12) (v := .int .i64 h) rfl (by kernel_rfl) (by kernel_rfl) (by kernel_rfl) (fun _ _ _ h => h) (Or.inl ⟨by kernel_rfl, ?_⟩) hS ?_
  · intro w' hSw
    obtain ⟨s0, s1, s2, s3, s4⟩ := hSw
    go_simp
  try simp only [Act.put, List.getElem_toArray, List.getElem_cons_succ, List.getElem_cons_zero, List.setIfInBounds_toArray, List.set_cons_zero, List.set_cons_succ]
  refine wpAnyH_take (i := 13) (v := .int .i64 (h + 1)) rfl (by kernel_rfl) (by kernel_rfl) (by kernel_rfl) (fun _ _ _ h => h) (Or.inl ⟨by kernel_rfl, ?_⟩) hS ?_
  · intro w' hSw
    obtain ⟨s0, s1, s2, s3, s4⟩ := hSw
    go_simp
  try simp only [Act.put, List.getElem_toArray, List.getElem_cons_succ, List.getElem_cons_zero, List.setIfInBounds_toArray, List.set_cons_zero, List.set_cons_succ]
  refine wpAnyH_take (i := 15) (v := .pointer (some ⟨w.heap.size, 2, none⟩)) rfl (by kernel_rfl) (by kernel_rfl) (by kernel_rfl) (fun _ _ _ h => h) (Or.inl ⟨by kernel_rfl, ?_⟩) hS ?_
  · intro w' hSw
    obtain ⟨s0, s1, s2, s3, s4⟩ := hSw
    go_simp
  try simp only [Act.put, List.getElem_toArray, List.getElem_cons_succ, List.getElem_cons_zero, List.setIfInBounds_toArray, List.set_cons_zero, List.set_cons_succ]
  refine wpAnyH_take (i := 16) (v := .slice A n c) rfl (by kernel_rfl) (by kernel_rfl) (by kernel_rfl) (fun _ _ _ h => h) (Or.inl ⟨by kernel_rfl, ?_⟩) hS ?_
  · intro w' hSw
    obtain ⟨s0, s1, s2, s3, s4⟩ := hSw
    go_simp
  try simp only [Act.put, List.getElem_toArray, List.getElem_cons_succ, List.getElem_cons_zero, List.setIfInBounds_toArray, List.set_cons_zero, List.set_cons_succ]
  refine wpAnyH_ready (rs := [14, 21]) (by kernel_rfl) (by simp) ?_
  refine AllReadyH.cons rfl (fun KN hK => ?_) (AllReadyH.cons rfl (fun KN hK => ?_) AllReadyH.nil)
  · go_simp
    refine (HUP.out _ hbd).mono ?_
    rintro e v0 ⟨vu, rfl, hu, hb6⟩
    obtain ⟨ku, gu, Au, nu, cu, rfl⟩ := (RdF.rd _ _ hu).full
    have hU : RX (fun b => b = w.heap.size + 1) v0 u (.agg #[.int .i64 ku, .int .i64 gu, .slice Au nu cu]) := RdF.moveX (fun b hok hl => ⟨fun z => by have := hbd.size; omega, rfl⟩) _ _ hu
    replace hbd : Below W0.heap.size W0 v0 := hbd.trans (hb6.mono hbd.size)
    clear hb6 hu
    refine hK.out _ _ (HKS.out _ hbd) (fun hS => ?_)
    clear hK KN
    try simp only [Act.put, List.getElem_toArray, List.getElem_cons_succ, List.getElem_cons_zero, List.setIfInBounds_toArray, List.set_cons_zero, List.set_cons_succ]
    refine wpAnyH_ready (rs := [17, 21]) (by kernel_rfl) (by simp) ?_
    refine AllReadyH.cons rfl (fun KN hK => ?_) (AllReadyH.cons rfl (fun KN hK => ?_) AllReadyH.nil)
    · go_simp
      refine (HSP.out (fun b => b = w.heap.size + 1) _ _ _ _ _ _ hbd hU (fun b z => by have := hbd.size; omega)).mono ?_
      rintro e v1 ⟨k3, h3, A3, n3, c3, rfl, hS9, hb6⟩
      replace hbd : Below W0.heap.size W0 v1 := hbd.trans (hb6.mono hbd.size)
      clear hb6 hU
      refine hK.out _ _ (HKS.out _ hbd) (fun hS => ?_)
      clear hK KN
      try simp only [Act.put, List.getElem_toArray, List.getElem_cons_succ, List.getElem_cons_zero, List.setIfInBounds_toArray, List.set_cons_zero, List.set_cons_succ]
      refine wpAnyH_take (i := 18) (v := .tuple #[.agg #[.int .i64 k3, .int .i64 h3, .slice A3 n3 c3], .int .i64 (erV R)]) rfl (by kernel_rfl) (by kernel_rfl) (by kernel_rfl) (fun _ _ _ h => h) (Or.inl ⟨by kernel_rfl, ?_⟩) hS ?_
      · intro w' hSw
        obtain ⟨s0, s1, s2, s3, s4⟩ := hSw
        go_simp
      try simp only [Act.put, List.getElem_toArray, List.getElem_cons_succ, List.getElem_cons_zero, List.setIfInBounds_toArray, List.set_cons_zero, List.set_cons_succ]
      refine wpAnyH_take (i := 19) (v := .agg #[.int .i64 k3, .int .i64 h3, .slice A3 n3 c3]) rfl (by kernel_rfl) (by kernel_rfl) (by kernel_rfl) (fun _ _ _ h => h) (Or.inl ⟨by kernel_rfl, ?_⟩) hS ?_
      · intro w' hSw
        obtain ⟨s0, s1, s2, s3, s4⟩ := hSw
        go_simp
      try simp only [Act.put, List.getElem_toArray, List.getElem_cons_succ, List.getElem_cons_zero, List.setIfInBounds_toArray, List.set_cons_zero, List.set_cons_succ]
      refine wpAnyH_take (i := 20) (v := .int .i64 (erV R)) rfl (by kernel_rfl) (by kernel_rfl) (by kernel_rfl) (fun _ _ _ h => h) (Or.inl ⟨by kernel_rfl, ?_⟩) hS ?_
      · intro w' hSw
        obtain ⟨s0, s1, s2, s3, s4⟩ := hSw
        go_simp
      try simp only [Act.put, List.getElem_toArray, List.getElem_cons_succ, List.getElem_cons_zero, List.setIfInBounds_toArray, List.set_cons_zero, List.set_cons_succ]
      refine wpAnyH_ready (rs := [21]) (by kernel_rfl) (by simp) ?_
      refine AllReadyH.cons rfl (fun KN hK => ?_) AllReadyH.nil
      go_simp
      have hbn : Below W0.heap.size W0 (v1.alloc (.cells #[.int .i64 0, .int .i64 0, .slice none 0 0] 44)) := hbd.alloc hbd.size _
      refine hK.out _ _ (HKS.out _ hbn) (fun hS => ?_)
      clear hK KN
      try simp only [Act.put, List.getElem_toArray, List.getElem_cons_succ, List.getElem_cons_zero, List.setIfInBounds_toArray, List.set_cons_zero, List.set_cons_succ]
      have xz : Box (v1.alloc (.cells #[.int .i64 0, .int .i64 0, .slice none 0 0] 44)) v1.heap.size 44 #[.int .i64 0, .int .i64 0, .slice none 0 0] := Box.new _ _ _
      have hpl0 : W0.heap.size ≤ v1.heap.size := hbd.size
      replace hS9 : ∀ t, R = .ok t → RX (fun b => b = w.heap.size + 1 ∨ b = v1.heap.size) (v1.alloc (.cells #[.int .i64 0, .int .i64 0, .slice none 0 0] 44)) t (.agg #[.int .i64 k3, .int .i64 h3, .slice A3 n3 c3]) := fun t e => (hS9 t e).keepE (show Below v1.heap.size v1 (v1.alloc (.cells #[.int .i64 0, .int .i64 0, .slice none 0 0] 44)) from (Below.refl _ _).alloc (Nat.le_refl _) _) (fun b z => z.elim .inl (fun e => .inr (by omega)))
      obtain ⟨pB, hpB0⟩ : ∃ p, v1.heap.size = p := ⟨_, rfl⟩
      rw [hpB0] at xz hS9
      try rw [hpB0]
      have hpl : W0.heap.size ≤ pB := by omega
      clear hpB0 hbd hpl0
      generalize v1.alloc (.cells #[.int .i64 0, .int .i64 0, .slice none 0 0] 44) = wN at *
      have hbd := hbn
      clear hbn
      obtain ⟨z0, z1, z2⟩ := xz.three
      have u0 := xz.frozen 0
      have u1 := xz.frozen 1
      have u2 := xz.frozen 2
      refine wpAnyH_ready (rs := [22]) (by kernel_rfl) (by simp) ?_
      refine AllReadyH.cons rfl (fun KN hK => ?_) AllReadyH.nil
      go_simp
      have hbF := below_set3 hbd (a := pB) hpl (.int .i64 k3) (.int .i64 h3) (.slice A3 n3 c3)
      refine hK.out _ _ (HKS.out _ hbF) (fun hS => ?_)
      clear hK KN
      try simp only [Act.put, List.getElem_toArray, List.getElem_cons_succ, List.getElem_cons_zero, List.setIfInBounds_toArray, List.set_cons_zero, List.set_cons_succ]
      have xB := xz.put3 (.int .i64 k3) (.int .i64 h3) (.slice A3 n3 c3)
      have hrdF : ∀ t, R = .ok t → RX (fun b => b = w.heap.size + 1) (((wN.setCell ⟨pB, 0, none⟩ (.int .i64 k3)).setCell ⟨pB, 1, none⟩ (.int .i64 h3)).setCell ⟨pB, 2, none⟩ (.slice A3 n3 c3)) t (.agg #[.int .i64 k3, .int .i64 h3, .slice A3 n3 c3]) := fun t e => RdF.moveX (fun b hok hl => ⟨fun z => hok (.inl z), heap_other3 _ _ _ _ _ _ (fun e => hok (.inr e))⟩) _ _ (hS9 t e)
      clear hS9 xz hbd z0 z1 z2 u0 u1 u2
      generalize ((wN.setCell ⟨pB, 0, none⟩ (.int .i64 k3)).setCell ⟨pB, 1, none⟩ (.int .i64 h3)).setCell ⟨pB, 2, none⟩ (.slice A3 n3 c3) = Wf at *
      refine wpAnyH_take (i := 23) (v := .int .i64 (erV R)) rfl (by kernel_rfl) (by kernel_rfl) (by kernel_rfl) (fun _ _ _ h => h) (Or.inl ⟨by kernel_rfl, ?_⟩) hS ?_
      · intro w' hSw
        obtain ⟨s0, s1, s2, s3, s4⟩ := hSw
        go_simp
      try simp only [Act.put, List.getElem_toArray, List.getElem_cons_succ, List.getElem_cons_zero, List.setIfInBounds_toArray, List.set_cons_zero, List.set_cons_succ]
      refine wpAnyH_done (by kernel_rfl) ?_ _
      try simp only [List.setIfInBounds_toArray]
      try simp only [List.getElem_toArray, List.getElem_cons_succ, List.getElem_cons_zero, List.setIfInBounds_toArray, List.set_cons_zero, List.set_cons_succ]
      have HBF := Lib.hid (HB.out.trans (hbF.mono HB.out.size))
      have yr := x2.keep hbF x2.lt
      have y := yr.put3 (.int .i64 k3) (.int .i64 h3) (.slice A3 n3 c3)
      have HRF := Lib.hid hrdF
      clear hS HKS hbF hpl hrdF HSP x2 d1 d2 e0 e1 e2 HUP
      obtain ⟨y0, y1, y2⟩ := xB.three
      obtain ⟨r0, r1, r2⟩ := yr.three
      have f0 := yr.frozen 0
      have f1 := yr.frozen 1
      have f2 := yr.frozen 2
      have lz := yr.lt
      obtain ⟨z0, z1, z2⟩ := y.three
      clear yr y xB
      go_wp2_with fail
      refine bodyPost_ret (v := .tuple #[.agg #[.int .i64 k3, .int .i64 h3, .slice A3 n3 c3], .int .i64 (erV R)]) (by simp [results, Tryz.results106, go_sem, z0, z1, z2]) rfl ?_
      rw [HEQ.out]
      exact spX_mv HRF.out HBF.out (by omega) _ _ _
    · go_simp
      have hbn : Below W0.heap.size W0 (v0.alloc (.cells #[.int .i64 0, .int .i64 0, .slice none 0 0] 44)) := hbd.alloc hbd.size _
      refine hK.out _ _ (HKS.out _ hbn) (fun hS => ?_)
      clear hK KN
      try simp only [Act.put, List.getElem_toArray, List.getElem_cons_succ, List.getElem_cons_zero, List.setIfInBounds_toArray, List.set_cons_zero, List.set_cons_succ]
      have xz : Box (v0.alloc (.cells #[.int .i64 0, .int .i64 0, .slice none 0 0] 44)) v0.heap.size 44 #[.int .i64 0, .int .i64 0, .slice none 0 0] := Box.new _ _ _
      have hpl0 : W0.heap.size ≤ v0.heap.size := hbd.size
      replace hU := hU.keepE (Z' := fun b => b = w.heap.size + 1 ∨ b = v0.heap.size) (show Below v0.heap.size v0 (v0.alloc (.cells #[.int .i64 0, .int .i64 0, .slice none 0 0] 44)) from (Below.refl _ _).alloc (Nat.le_refl _) _) (fun b z => z.elim .inl (fun e => .inr (by omega)))
      obtain ⟨pB, hpB0⟩ : ∃ p, v0.heap.size = p := ⟨_, rfl⟩
      rw [hpB0] at xz hU
      try rw [hpB0]
      have hpl : W0.heap.size ≤ pB := by omega
      clear hpB0 hbd hpl0
      generalize v0.alloc (.cells #[.int .i64 0, .int .i64 0, .slice none 0 0] 44) = wN at *
      have hbd := hbn
      clear hbn
      refine wpAnyH_ready (rs := [17]) (by kernel_rfl) (by simp) ?_
      refine AllReadyH.cons rfl (fun KN hK => ?_) AllReadyH.nil
      go_simp
      refine (HSP.out (fun b => b = w.heap.size + 1 ∨ b = pB) _ _ _ _ _ _ hbd hU (fun b z => by have := xz.lt; have := hbd.size; rcases z with z | z <;> omega)).mono ?_
      rintro e v2 ⟨k3, h3, A3, n3, c3, rfl, hS9, hb6⟩
      replace hbd : Below W0.heap.size W0 v2 := hbd.trans (hb6.mono hbd.size)
      replace xz := xz.keep hb6 xz.lt
      clear hb6 hU
      refine hK.out _ _ (HKS.out _ hbd) (fun hS => ?_)
      clear hK KN
      try simp only [Act.put, List.getElem_toArray, List.getElem_cons_succ, List.getElem_cons_zero, List.setIfInBounds_toArray, List.set_cons_zero, List.set_cons_succ]
      refine wpAnyH_take (i := 18) (v := .tuple #[.agg #[.int .i64 k3, .int .i64 h3, .slice A3 n3 c3], .int .i64 (erV R)]) rfl (by kernel_rfl) (by kernel_rfl) (by kernel_rfl) (fun _ _ _ h => h) (Or.inl ⟨by kernel_rfl, ?_⟩) hS ?_
      · intro w' hSw
        obtain ⟨s0, s1, s2, s3, s4⟩ := hSw
        go_simp
      try simp only [Act.put, List.getElem_toArray, List.getElem_cons_succ, List.getElem_cons_zero, List.setIfInBounds_toArray, List.set_cons_zero, List.set_cons_succ]
      refine wpAnyH_take (i := 19) (v := .agg #[.int .i64 k3, .int .i64 h3, .slice A3 n3 c3]) rfl (by kernel_rfl) (by kernel_rfl) (by kernel_rfl) (fun _ _ _ h => h) (Or.inl ⟨by kernel_rfl, ?_⟩) hS ?_
      · intro w' hSw
        obtain ⟨s0, s1, s2, s3, s4⟩ := hSw
        go_simp
      try simp only [Act.put, List.getElem_toArray, List.getElem_cons_succ, List.getElem_cons_zero, List.setIfInBounds_toArray, List.set_cons_zero, List.set_cons_succ]
      refine wpAnyH_take (i := 20) (v := .int .i64 (erV R)) rfl (by kernel_rfl) (by kernel_rfl) (by kernel_rfl) (fun _ _ _ h => h) (Or.inl ⟨by kernel_rfl, ?_⟩) hS ?_
      · intro w' hSw
        obtain ⟨s0, s1, s2, s3, s4⟩ := hSw
        go_simp
      try simp only [Act.put, List.getElem_toArray, List.getElem_cons_succ, List.getElem_cons_zero, List.setIfInBounds_toArray, List.set_cons_zero, List.set_cons_succ]
      obtain ⟨z0, z1, z2⟩ := xz.three
      have u0 := xz.frozen 0
      have u1 := xz.frozen 1
      have u2 := xz.frozen 2
      refine wpAnyH_ready (rs := [22]) (by kernel_rfl) (by simp) ?_
      refine AllReadyH.cons rfl (fun KN hK => ?_) AllReadyH.nil
      go_simp
      have hbF := below_set3 hbd (a := pB) hpl (.int .i64 k3) (.int .i64 h3) (.slice A3 n3 c3)
      refine hK.out _ _ (HKS.out _ hbF) (fun hS => ?_)
      clear hK KN
      try simp only [Act.put, List.getElem_toArray, List.getElem_cons_succ, List.getElem_cons_zero, List.setIfInBounds_toArray, List.set_cons_zero, List.set_cons_succ]
      have xB := xz.put3 (.int .i64 k3) (.int .i64 h3) (.slice A3 n3 c3)
      have hrdF : ∀ t, R = .ok t → RX (fun b => b = w.heap.size + 1) (((v2.setCell ⟨pB, 0, none⟩ (.int .i64 k3)).setCell ⟨pB, 1, none⟩ (.int .i64 h3)).setCell ⟨pB, 2, none⟩ (.slice A3 n3 c3)) t (.agg #[.int .i64 k3, .int .i64 h3, .slice A3 n3 c3]) := fun t e => RdF.moveX (fun b hok hl => ⟨fun z => hok (.inl z), heap_other3 _ _ _ _ _ _ (fun e => hok (.inr e))⟩) _ _ (hS9 t e)
      clear hS9 xz hbd z0 z1 z2 u0 u1 u2
      generalize ((v2.setCell ⟨pB, 0, none⟩ (.int .i64 k3)).setCell ⟨pB, 1, none⟩ (.int .i64 h3)).setCell ⟨pB, 2, none⟩ (.slice A3 n3 c3) = Wf at *
      refine wpAnyH_take (i := 23) (v := .int .i64 (erV R)) rfl (by kernel_rfl) (by kernel_rfl) (by kernel_rfl) (fun _ _ _ h => h) (Or.inl ⟨by kernel_rfl, ?_⟩) hS ?_
      · intro w' hSw
        obtain ⟨s0, s1, s2, s3, s4⟩ := hSw
        go_simp
      try simp only [Act.put, List.getElem_toArray, List.getElem_cons_succ, List.getElem_cons_zero, List.setIfInBounds_toArray, List.set_cons_zero, List.set_cons_succ]
      refine wpAnyH_done (by kernel_rfl) ?_ _
      try simp only [List.setIfInBounds_toArray]
      try simp only [List.getElem_toArray, List.getElem_cons_succ, List.getElem_cons_zero, List.setIfInBounds_toArray, List.set_cons_zero, List.set_cons_succ]
      have HBF := Lib.hid (HB.out.trans (hbF.mono HB.out.size))
      have yr := x2.keep hbF x2.lt
      have y := yr.put3 (.int .i64 k3) (.int .i64 h3) (.slice A3 n3 c3)
      have HRF := Lib.hid hrdF
      clear hS HKS hbF hpl hrdF HSP x2 d1 d2 e0 e1 e2 HUP
      obtain ⟨y0, y1, y2⟩ := xB.three
      obtain ⟨r0, r1, r2⟩ := yr.three
      have f0 := yr.frozen 0
      have f1 := yr.frozen 1
      have f2 := yr.frozen 2
      have lz := yr.lt
      obtain ⟨z0, z1, z2⟩ := y.three
      clear yr y xB
      go_wp2_with fail
      refine bodyPost_ret (v := .tuple #[.agg #[.int .i64 k3, .int .i64 h3, .slice A3 n3 c3], .int .i64 (erV R)]) (by simp [results, Tryz.results106, go_sem, z0, z1, z2]) rfl ?_
      rw [HEQ.out]
      exact spX_mv HRF.out HBF.out (by omega) _ _ _
  · go_simp
    have hbn : Below W0.heap.size W0 ((W0.alloc (.cells #[.int .i64 0, .int .i64 0, .slice none 0 0] 44)).drew) := ((Below.refl _ W0).alloc (Nat.le_refl _) _).drew
    refine hK.out _ _ (HKS.out _ hbn) (fun hS => ?_)
    clear hK KN
    try simp only [Act.put, List.getElem_toArray, List.getElem_cons_succ, List.getElem_cons_zero, List.setIfInBounds_toArray, List.set_cons_zero, List.set_cons_succ]
    have xz : Box ((W0.alloc (.cells #[.int .i64 0, .int .i64 0, .slice none 0 0] 44)).drew) W0.heap.size 44 #[.int .i64 0, .int .i64 0, .slice none 0 0] := Box.drewI (Box.new _ _ _)
    have hpl0 : W0.heap.size ≤ W0.heap.size := Nat.le_refl _
    obtain ⟨pB, hpB0⟩ : ∃ p, W0.heap.size = p := ⟨_, rfl⟩
    rw [hpB0] at xz
    try rw [hpB0]
    have hpl : W0.heap.size ≤ pB := by omega
    clear hpB0 hbd hpl0
    generalize (W0.alloc (.cells #[.int .i64 0, .int .i64 0, .slice none 0 0] 44)).drew = wN at *
    have hbd := hbn
    clear hbn
    refine wpAnyH_ready (rs := [14]) (by kernel_rfl) (by simp) ?_
    refine AllReadyH.cons rfl (fun KN hK => ?_) AllReadyH.nil
    go_simp
    refine (HUP.out _ hbd).mono ?_
    rintro e v1 ⟨vu, rfl, hu, hb6⟩
    obtain ⟨ku, gu, Au, nu, cu, rfl⟩ := (RdF.rd _ _ hu).full
    have hU : RX (fun b => b = w.heap.size + 1 ∨ b = pB) v1 u (.agg #[.int .i64 ku, .int .i64 gu, .slice Au nu cu]) := RdF.moveX (fun b hok hl => ⟨fun z => by have := hbd.size; have := xz.lt; rcases z with z | z <;> omega, rfl⟩) _ _ hu
    replace hbd : Below W0.heap.size W0 v1 := hbd.trans (hb6.mono hbd.size)
    replace xz := xz.keep hb6 xz.lt
    clear hb6 hu
    refine hK.out _ _ (HKS.out _ hbd) (fun hS => ?_)
    clear hK KN
    try simp only [Act.put, List.getElem_toArray, List.getElem_cons_succ, List.getElem_cons_zero, List.setIfInBounds_toArray, List.set_cons_zero, List.set_cons_succ]
    refine wpAnyH_ready (rs := [17]) (by kernel_rfl) (by simp) ?_
    refine AllReadyH.cons rfl (fun KN hK => ?_) AllReadyH.nil
    go_simp
    refine (HSP.out (fun b => b = w.heap.size + 1 ∨ b = pB) _ _ _ _ _ _ hbd hU (fun b z => by have := xz.lt; have := hbd.size; rcases z with z | z <;> omega)).mono ?_
    rintro e v2 ⟨k3, h3, A3, n3, c3, rfl, hS9, hb6⟩
    replace hbd : Below W0.heap.size W0 v2 := hbd.trans (hb6.mono hbd.size)
    replace xz := xz.keep hb6 xz.lt
    clear hb6 hU
    refine hK.out _ _ (HKS.out _ hbd) (fun hS => ?_)
    clear hK KN
    try simp only [Act.put, List.getElem_toArray, List.getElem_cons_succ, List.getElem_cons_zero, List.setIfInBounds_toArray, List.set_cons_zero, List.set_cons_succ]
    refine wpAnyH_take (i := 18) (v := .tuple #[.agg #[.int .i64 k3, .int .i64 h3, .slice A3 n3 c3], .int .i64 (erV R)]) rfl (by kernel_rfl) (by kernel_rfl) (by kernel_rfl) (fun _ _ _ h => h) (Or.inl ⟨by kernel_rfl, ?_⟩) hS ?_
    · intro w' hSw
      obtain ⟨s0, s1, s2, s3, s4⟩ := hSw
      go_simp
    try simp only [Act.put, List.getElem_toArray, List.getElem_cons_succ, List.getElem_cons_zero, List.setIfInBounds_toArray, List.set_cons_zero, List.set_cons_succ]
    refine wpAnyH_take (i := 19) (v := .agg #[.int .i64 k3, .int .i64 h3, .slice A3 n3 c3]) rfl (by kernel_rfl) (by kernel_rfl) (by kernel_rfl) (fun _ _ _ h => h) (Or.inl ⟨by kernel_rfl, ?_⟩) hS ?_
    · intro w' hSw
      obtain ⟨s0, s1, s2, s3, s4⟩ := hSw
      go_simp
    try simp only [Act.put, List.getElem_toArray, List.getElem_cons_succ, List.getElem_cons_zero, List.setIfInBounds_toArray, List.set_cons_zero, List.set_cons_succ]
    refine wpAnyH_take (i := 20) (v := .int .i64 (erV R)) rfl (by kernel_rfl) (by kernel_rfl) (by kernel_rfl) (fun _ _ _ h => h) (Or.inl ⟨by kernel_rfl, ?_⟩) hS ?_
    · intro w' hSw
      obtain ⟨s0, s1, s2, s3, s4⟩ := hSw
      go_simp
    try simp only [Act.put, List.getElem_toArray, List.getElem_cons_succ, List.getElem_cons_zero, List.setIfInBounds_toArray, List.set_cons_zero, List.set_cons_succ]
    obtain ⟨z0, z1, z2⟩ := xz.three
    have u0 := xz.frozen 0
    have u1 := xz.frozen 1
    have u2 := xz.frozen 2
    refine wpAnyH_ready (rs := [22]) (by kernel_rfl) (by simp) ?_
    refine AllReadyH.cons rfl (fun KN hK => ?_) AllReadyH.nil
    go_simp
    have hbF := below_set3 hbd (a := pB) hpl (.int .i64 k3) (.int .i64 h3) (.slice A3 n3 c3)
    refine hK.out _ _ (HKS.out _ hbF) (fun hS => ?_)
    clear hK KN
    try simp only [Act.put, List.getElem_toArray, List.getElem_cons_succ, List.getElem_cons_zero, List.setIfInBounds_toArray, List.set_cons_zero, List.set_cons_succ]
    have xB := xz.put3 (.int .i64 k3) (.int .i64 h3) (.slice A3 n3 c3)
    have hrdF : ∀ t, R = .ok t → RX (fun b => b = w.heap.size + 1) (((v2.setCell ⟨pB, 0, none⟩ (.int .i64 k3)).setCell ⟨pB, 1, none⟩ (.int .i64 h3)).setCell ⟨pB, 2, none⟩ (.slice A3 n3 c3)) t (.agg #[.int .i64 k3, .int .i64 h3, .slice A3 n3 c3]) := fun t e => RdF.moveX (fun b hok hl => ⟨fun z => hok (.inl z), heap_other3 _ _ _ _ _ _ (fun e => hok (.inr e))⟩) _ _ (hS9 t e)
    clear hS9 xz hbd z0 z1 z2 u0 u1 u2
    generalize ((v2.setCell ⟨pB, 0, none⟩ (.int .i64 k3)).setCell ⟨pB, 1, none⟩ (.int .i64 h3)).setCell ⟨pB, 2, none⟩ (.slice A3 n3 c3) = Wf at *
    refine wpAnyH_take (i := 23) (v := .int .i64 (erV R)) rfl (by kernel_rfl) (by kernel_rfl) (by kernel_rfl) (fun _ _ _ h => h) (Or.inl ⟨by kernel_rfl, ?_⟩) hS ?_
    · intro w' hSw
      obtain ⟨s0, s1, s2, s3, s4⟩ := hSw
      go_simp
    try simp only [Act.put, List.getElem_toArray, List.getElem_cons_succ, List.getElem_cons_zero, List.setIfInBounds_toArray, List.set_cons_zero, List.set_cons_succ]
    refine wpAnyH_done (by kernel_rfl) ?_ _
    try simp only [List.setIfInBounds_toArray]
    try simp only [List.getElem_toArray, List.getElem_cons_succ, List.getElem_cons_zero, List.setIfInBounds_toArray, List.set_cons_zero, List.set_cons_succ]
    have HBF := Lib.hid (HB.out.trans (hbF.mono HB.out.size))
    have yr := x2.keep hbF x2.lt
    have y := yr.put3 (.int .i64 k3) (.int .i64 h3) (.slice A3 n3 c3)
    have HRF := Lib.hid hrdF
    clear hS HKS hbF hpl hrdF HSP x2 d1 d2 e0 e1 e2 HUP
    obtain ⟨y0, y1, y2⟩ := xB.three
    obtain ⟨r0, r1, r2⟩ := yr.three
    have f0 := yr.frozen 0
    have f1 := yr.frozen 1
    have f2 := yr.frozen 2
    have lz := yr.lt
    obtain ⟨z0, z1, z2⟩ := y.three
    clear yr y xB
    go_wp2_with fail
    refine bodyPost_ret (v := .tuple #[.agg #[.int .i64 k3, .int .i64 h3, .slice A3 n3 c3], .int .i64 (erV R)]) (by simp [results, Tryz.results106, go_sem, z0, z1, z2]) rfl ?_
    rw [HEQ.out]
    exact spX_mv HRF.out HBF.out (by omega) _ _ _
end Go.Proofs.YtloeainlpcnhnaaGreat
/-
  The document's own meta of layer 10, and comes, of every term. No statement is proved here.
-/
namespace Go.Proofs.YtloeainlpcnhnaaGreat
open Go.ChangeShapes Go.WideShapes Go.ChangeAt Go.RowKit
set_option linter.unusedVariables false
/-- what holds at the head of meta's loop -/
structure MeIe (W : WV) (xs cx es : List T) (h : Int) (A : Option Addr) (n c : Nat) (Ad : Option Addr) (ndd cd : Nat) (kt gt : Int) (At : Option Addr) (nt ct : Nat) (pb : Bool) (Bd : Nat) (w : World) (j : Nat) (wr : World) : Prop where
  tb : Box wr w.heap.size 44 #[.int .i64 6, .int .i64 h, .slice A n c]
  rb : Box wr (w.heap.size + 1) 44 #[.int .i64 0, .int .i64 0, .slice none 0 0]
  db : Box wr Bd 47 #[.slice Ad ndd cd, .int .i64 kt, .int .i64 gt, .slice At nt ct, .bool pb]
  below : Below w.heap.size w wr
  eq : mtV W xs [] cx es = mtV W (xs.drop j) (xs.take j) cx (es.drop j)
theorem spX_mvZ {Z : Nat → Prop} {w wr : World} {r : Except Int T} {k h : Int} {A : Option Addr} {n c : Nat} {p : Nat} (hr : ∀ t, r = .ok t → RX (fun b => Z b ∨ b = p) wr t (.agg #[.int .i64 k, .int .i64 h, .slice A n c])) (hb : Below w.heap.size w wr) (hp : w.heap.size ≤ p) (u0 u1 u2 : Value) :
    SpX Z r w (.returned (.tuple #[.agg #[.int .i64 k, .int .i64 h, .slice A n c], .int .i64 (erV r)])) (((wr.setCell ⟨p, 0, none⟩ u0).setCell ⟨p, 1, none⟩ u1).setCell ⟨p, 2, none⟩ u2) :=
  ⟨k, h, A, n, c, rfl, fun t e => RdF.moveX (fun b hok hl => ⟨fun z => hok (.inl z), heap_other3 _ _ _ _ _ _ (fun e => hok (.inr e))⟩) _ _ (hr t e), below_set3 hb hp _ _ _⟩
/-- Apply's answer, in the form of a spine's -/
def ApX (Z : Nat → Prop) (t : T) (ec : Int) (w : World) (e : Ending) (w' : World) : Prop :=
  ∃ k h A n c, e = .returned (.tuple #[.agg #[.int .i64 k, .int .i64 h, .slice A n c], .int .i64 ec]) ∧ (∀ t', (Except.ok t : Except Int T) = .ok t' → RX Z w' t' (.agg #[.int .i64 k, .int .i64 h, .slice A n c])) ∧ Below w.heap.size w w'
theorem rzn_x {Z : Nat → Prop} {t : T} {ec : Int} {w w' : World} {e : Ending} (h : RZn Z t ec w e w') : ApX Z t ec w e w' := by
  obtain ⟨k, g, A, n, c, he, hr, hb⟩ := h
  exact ⟨k, g, A, n, c, he, (fun t' e' => by cases e'; exact hr), hb⟩
theorem clv_take {Z : Nat → Prop} {w : World} {xs : List T} {A : Option Addr} {n c j : Nat} (h : RXL Z w xs A n c) (hj : j ≤ n) : RXL Z w (xs.take j) A j c :=
  ⟨by rw [List.length_take, h.len]; omega, by have := h.le; omega, h.cap, fun q u hu => by
    have hq : q < j := by have := (List.getElem?_eq_some_iff.1 hu).1; rw [List.length_take] at this; omega
    rw [List.getElem?_take_of_lt hq] at hu
    exact h.at_ q u hu⟩
set_option maxRecDepth 100000 in
set_option maxHeartbeats 16000000 in
theorem eMetaC {W : WV} {h : Int} {xs : List T} (ih : ∀ x ∈ xs, TmE W x) (cx : List T) (B : Int) (As : Option Addr) (ns cs : Nat) (Am : Option Addr) (nm cm : Nat) (Ac : Option Addr) (nc cc pw : Nat) (A : Option Addr) (n c : Nat) (Z : Nat → Prop) (w0 w : World)
    (hE : EnvV W cx B) (hbm : WkV W (.node 6 h xs)) (hsum : B + nd (.node 6 h xs) * dlV ≤ hiV) (hlen : cx.length + nd (.node 6 h xs) ≤ 100000) (hb0 : Below w0.heap.size w0 w) (hk : CkV w0 W cx As ns cs Am nm cm Ac nc cc) (hp : PwE w0 pw As ns cs Am nm cm) (hv : Rd w0 (.node 6 h xs) (.agg #[.int .i64 6, .int .i64 h, .slice A n c])) (hZ : ∀ b, Z b → w0.heap.size ≤ b ∧ b < w.heap.size) :
    Calls Tryz.prog 122 #[.pointer (some ⟨pw, 0, none⟩), .slice Ac nc cc, .agg #[.int .i64 6, .int .i64 h, .slice A n c]] w (SpX Z (cmV W cx (.node 6 h xs)) w) := by
  have hccap := hk.cx.cap
  have hcl := hk.cx.len
  have hmcap := hk.ms.cap
  have hmle := hk.ms.le
  have hml := hk.ms.len
  unfold maxLen at hccap hmcap
  have h0 := headV hbm.nod
  have hx : CLV w0 xs A n c := by
    obtain ⟨A', n', c', e, _, _, h3, h4, h5, h6⟩ := Rd_node.1 hv
    have e' : A = A' ∧ n = n' ∧ c = c' := by simpa using e
    obtain ⟨rfl, rfl, rfl⟩ := e'
    exact ⟨h3, h4, h5, h6⟩
  obtain ⟨i, rfl⟩ : ∃ i : Nat, h = i := ⟨h.toNat, by omega⟩
  obtain ⟨W0, hW⟩ : ∃ W0, (w.alloc (.cells #[.int .i64 6, .int .i64 (i : Int), .slice A n c] 44)).alloc (.cells #[.int .i64 0, .int .i64 0, .slice none 0 0] 44) = W0 := ⟨_, rfl⟩
  have hb : Below w.heap.size w W0 := by rw [← hW]; exact ((Below.refl _ _).alloc (Nat.le_refl _) _).alloc (by simp) _
  have x1 : Box W0 w.heap.size 44 #[.int .i64 6, .int .i64 (i : Int), .slice A n c] := by rw [← hW]; exact (Box.new _ _ _).alloc _
  have x2 : Box W0 (w.heap.size + 1) 44 #[.int .i64 0, .int .i64 0, .slice none 0 0] := by rw [← hW]; exact (Box.new (w.alloc _) _ _).at (by simp)
  obtain ⟨d0, d1, d2⟩ := x1.three
  have hbz := hb0.trans (hb.mono hb0.size)
  have s1 : W0.cell? ⟨pw, 1, none⟩ = some (.slice Am nm cm) := (hp.keep hbz hp.lt).cell 1
  have HB := Lib.hid hb
  by_cases hlt : i < nm
  case' neg =>
    have dg : decide ((i : Int) ≥ (nm : Int)) = true := by simp; omega
    have dg2 : decide ((nm : Int) ≤ (i : Int)) = true := by simp; omega
    have hge : nm ≤ i := by omega
    have HQ := Lib.hid (cm_meta_no (W := W) (cx := cx) (xs := xs) (h := (i : Int)) (by omega))
    clear hE hbm hsum hlen hk hp ih hb x1 hx hv hb0 hbz hZ
    go_enter Tryz.func122, Tryz.ntmps122
    go_wp2_with fail
    try rw [hW]
    clear hW
    try go_wp2_with fail
    have HKS : Hid (∀ w' : World, Below W0.heap.size W0 w' → (fun w' => w'.cell? ⟨w.heap.size, 1, none⟩ = some (.int .i64 (i : Int)) ∧ w'.cell? ⟨pw, 1, none⟩ = some (.slice Am nm cm)) w') := Lib.hid fun w' h => ⟨(h.cell (cell_lt d1)).trans d1, (h.cell (cell_lt s1)).trans s1⟩
    have hbd : Below W0.heap.size W0 W0.drew := (Below.refl _ W0).drew
    refine wp_region_held_drew (S := fun w' => w'.cell? ⟨w.heap.size, 1, none⟩ = some (.int .i64 (i : Int)) ∧ w'.cell? ⟨pw, 1, none⟩ = some (.slice Am nm cm)) (by kernel_rfl) (HKS.out _ hbd) (fun hS => ?_)
    simp only [List.size_toArray, List.length_cons, List.length_nil, Nat.reduceAdd]
    refine wpAnyH_take (i := 0) (v := .pointer (some ⟨w.heap.size, 1, none⟩)) rfl (by kernel_rfl) (by kernel_rfl) (by kernel_rfl) (fun _ _ _ h => h) (Or.inl ⟨by kernel_rfl, ?_⟩) hS ?_
    · intro w' hSw
      obtain ⟨s0, s1⟩ := hSw
      go_simp
    try simp only [Act.put, List.getElem_toArray, List.getElem_cons_zero, List.setIfInBounds_toArray, List.set_cons_zero, List.set_cons_succ]
    refine wpAnyH_take (i := 1) (v := .int .i64 (i : Int)) rfl (by kernel_rfl) (by kernel_rfl) (by kernel_rfl) (fun _ _ _ h => h) (Or.inl ⟨by kernel_rfl, ?_⟩) hS ?_
    · intro w' hSw
      obtain ⟨s0, s1⟩ := hSw
      go_simp
    try simp only [Act.put, List.getElem_toArray, List.getElem_cons_succ, List.getElem_cons_zero, List.setIfInBounds_toArray, List.set_cons_zero, List.set_cons_succ]
    refine wpAnyH_take (i := 2) (v := .pointer (some ⟨pw, 0, none⟩)) rfl (by kernel_rfl) (by kernel_rfl) (by kernel_rfl) (fun _ _ _ h => h) (Or.inl ⟨by kernel_rfl, ?_⟩) hS ?_
    · intro w' hSw
      obtain ⟨s0, s1⟩ := hSw
      go_simp
    try simp only [Act.put, List.getElem_toArray, List.getElem_cons_succ, List.getElem_cons_zero, List.setIfInBounds_toArray, List.set_cons_zero, List.set_cons_succ]
    refine wpAnyH_take (i := 3) (v := .pointer (some ⟨pw, 0, none⟩)) rfl (by kernel_rfl) (by kernel_rfl) (by kernel_rfl) (fun _ _ _ h => h) (Or.inl ⟨by kernel_rfl, ?_⟩) hS ?_
    · intro w' hSw
      obtain ⟨s0, s1⟩ := hSw
      go_simp
    try simp only [Act.put, List.getElem_toArray, List.getElem_cons_succ, List.getElem_cons_zero, List.setIfInBounds_toArray, List.set_cons_zero, List.set_cons_succ]
    refine wpAnyH_take (i := 4) (v := .pointer (some ⟨pw, 1, none⟩)) rfl (by kernel_rfl) (by kernel_rfl) (by kernel_rfl) (fun _ _ _ h => h) (Or.inl ⟨by kernel_rfl, ?_⟩) hS ?_
    · intro w' hSw
      obtain ⟨s0, s1⟩ := hSw
      go_simp
    try simp only [Act.put, List.getElem_toArray, List.getElem_cons_succ, List.getElem_cons_zero, List.setIfInBounds_toArray, List.set_cons_zero, List.set_cons_succ]
    refine wpAnyH_take (i := 5) (v := .slice Am nm cm) rfl (by kernel_rfl) (by kernel_rfl) (by kernel_rfl) (fun _ _ _ h => h) (Or.inl ⟨by kernel_rfl, ?_⟩) hS ?_
    · intro w' hSw
      obtain ⟨s0, s1⟩ := hSw
      go_simp
    try simp only [Act.put, List.getElem_toArray, List.getElem_cons_succ, List.getElem_cons_zero, List.setIfInBounds_toArray, List.set_cons_zero, List.set_cons_succ]
    refine wpAnyH_take (i := 6) (v := .int .i64 nm) rfl (by kernel_rfl) (by kernel_rfl) (by kernel_rfl) (fun _ _ _ h => h) (Or.inl ⟨by kernel_rfl, ?_⟩) hS ?_
    · intro w' hSw
      obtain ⟨s0, s1⟩ := hSw
      go_simp
    try simp only [Act.put, List.getElem_toArray, List.getElem_cons_succ, List.getElem_cons_zero, List.setIfInBounds_toArray, List.set_cons_zero, List.set_cons_succ]
    refine wpAnyH_take (i := 7) (v := .bool true) rfl (by kernel_rfl) (by kernel_rfl) (by kernel_rfl) (fun _ _ _ h => h) (Or.inl ⟨by kernel_rfl, ?_⟩) hS ?_
    · intro w' hSw
      obtain ⟨s0, s1⟩ := hSw
      go_simp
    try simp only [Act.put, List.getElem_toArray, List.getElem_cons_succ, List.getElem_cons_zero, List.setIfInBounds_toArray, List.set_cons_zero, List.set_cons_succ]
    refine wpAnyH_done (by kernel_rfl) ?_ _
    try simp only [List.setIfInBounds_toArray]
    try simp only [List.getElem_toArray, List.getElem_cons_succ, List.getElem_cons_zero, List.setIfInBounds_toArray, List.set_cons_zero, List.set_cons_succ]
    have HBF := Lib.hid (HB.out.trans (hbd.mono HB.out.size))
    have yr := x2.keep hbd x2.lt
    replace s1 := (hbd.cell (cell_lt s1)).trans s1
    clear hS HKS hbd x2 d0 d1 d2 HB
    generalize W0.drew = W1 at *
    obtain ⟨r0, r1, r2⟩ := yr.three
    have f0 := yr.frozen 0
    have f1 := yr.frozen 1
    have f2 := yr.frozen 2
    have lz := yr.lt
    clear yr
    go_wp2_with fail
    refine bodyPost_ret (v := .tuple #[.agg #[.int .i64 0, .int .i64 0, .slice none 0 0], .int .i64 2]) (by simp [results, Tryz.results122, go_sem, r0, r1, r2]) rfl ?_
    first | exact spX_no HQ.out HBF.out _ (by omega) _ _ _ | exact spX_no0 HQ.out HBF.out
  have dg : decide ((i : Int) ≥ (nm : Int)) = false := by simp; omega
  have dg2 : decide ((nm : Int) ≤ (i : Int)) = false := by simp; omega
  have hge : ¬ nm ≤ i := by omega
  obtain ⟨md, hen⟩ := at_of hml hlt
  have HWM := Lib.hid hbm
  have HBM := Lib.hid (hbm.bd (fun e9 => by have h9 := List.mem_of_getElem? hen; rw [e9] at h9; cases h9))
  have HEQ := Lib.hid (cm_meta (W := W) (cx := cx) (xs := xs) hen)
  obtain ⟨bc, oc, Ad, ndd, cd, ke, he, Ae, ne, ce, pb, eA, e0, e1, e2, e3, e4, hlx, hre⟩ := hk.ms.at_ i md hen
  subst eA
  have hmd := hE.ms md (List.mem_of_getElem? hen)
  replace e0 := (hbz.cell (cell_lt e0)).trans e0
  replace e1 := (hbz.cell (cell_lt e1)).trans e1
  replace e2 := (hbz.cell (cell_lt e2)).trans e2
  replace e3 := (hbz.cell (cell_lt e3)).trans e3
  replace e4 := (hbz.cell (cell_lt e4)).trans e4
  have HB0 := Lib.hid hb0
  have HK := Lib.hid hk
  have HPW := Lib.hid hp
  have HX := Lib.hid hx
  have HE := Lib.hid hE
  have HSUM := Lib.hid hsum
  have HLEN := Lib.hid hlen
  have HIH := Lib.hid ih
  have HZ := Lib.hid hZ
  have HLX := Lib.hid hlx
  have HRE := Lib.hid hre
  have HMD := Lib.hid hmd
  have hdcap := hlx.cap
  have hdle := hlx.le
  have hdl := hlx.len
  have hnn := hx.len
  have hncap := hx.cap
  have hnle := hx.le
  unfold maxLen at hdcap hncap
  have hi0 : (0 : Int) ≤ i := by omega
  have hi1 : (i : Int) < nm := by omega
  obtain ⟨es, tt⟩ := md
  clear hE hbm hsum hlen hk hp ih hlx hre hmd hen hx hv hb0 hbz hZ hb hlt
  go_enter Tryz.func122, Tryz.ntmps122
  go_wp2_with fail
  try rw [hW]
  clear hW
  try go_wp2_with fail
  have HKS : Hid (∀ w' : World, Below W0.heap.size W0 w' → (fun w' => w'.cell? ⟨w.heap.size, 1, none⟩ = some (.int .i64 (i : Int)) ∧ w'.cell? ⟨pw, 1, none⟩ = some (.slice (some ⟨bc, oc, none⟩) nm cm)) w') := Lib.hid fun w' h => ⟨(h.cell (cell_lt d1)).trans d1, (h.cell (cell_lt s1)).trans s1⟩
  have hbd : Below W0.heap.size W0 W0.drew := (Below.refl _ W0).drew
  refine wp_region_held_drew (S := fun w' => w'.cell? ⟨w.heap.size, 1, none⟩ = some (.int .i64 (i : Int)) ∧ w'.cell? ⟨pw, 1, none⟩ = some (.slice (some ⟨bc, oc, none⟩) nm cm)) (by kernel_rfl) (HKS.out _ hbd) (fun hS => ?_)
  simp only [List.size_toArray, List.length_cons, List.length_nil, Nat.reduceAdd]
  refine wpAnyH_take (i := 0) (v := .pointer (some ⟨w.heap.size, 1, none⟩)) rfl (by kernel_rfl) (by kernel_rfl) (by kernel_rfl) (fun _ _ _ h => h) (Or.inl ⟨by kernel_rfl, ?_⟩) hS ?_
  · intro w' hSw
    obtain ⟨s0, s1⟩ := hSw
    go_simp
  try simp only [Act.put, List.getElem_toArray, List.getElem_cons_zero, List.setIfInBounds_toArray, List.set_cons_zero, List.set_cons_succ]
  refine wpAnyH_take (i := 1) (v := .int .i64 (i : Int)) rfl (by kernel_rfl) (by kernel_rfl) (by kernel_rfl) (fun _ _ _ h => h) (Or.inl ⟨by kernel_rfl, ?_⟩) hS ?_
  · intro w' hSw
    obtain ⟨s0, s1⟩ := hSw
    go_simp
  try simp only [Act.put, List.getElem_toArray, List.getElem_cons_succ, List.getElem_cons_zero, List.setIfInBounds_toArray, List.set_cons_zero, List.set_cons_succ]
  refine wpAnyH_take (i := 2) (v := .pointer (some ⟨pw, 0, none⟩)) rfl (by kernel_rfl) (by kernel_rfl) (by kernel_rfl) (fun _ _ _ h => h) (Or.inl ⟨by kernel_rfl, ?_⟩) hS ?_
  · intro w' hSw
    obtain ⟨s0, s1⟩ := hSw
    go_simp
  try simp only [Act.put, List.getElem_toArray, List.getElem_cons_succ, List.getElem_cons_zero, List.setIfInBounds_toArray, List.set_cons_zero, List.set_cons_succ]
  refine wpAnyH_take (i := 3) (v := .pointer (some ⟨pw, 0, none⟩)) rfl (by kernel_rfl) (by kernel_rfl) (by kernel_rfl) (fun _ _ _ h => h) (Or.inl ⟨by kernel_rfl, ?_⟩) hS ?_
  · intro w' hSw
    obtain ⟨s0, s1⟩ := hSw
    go_simp
  try simp only [Act.put, List.getElem_toArray, List.getElem_cons_succ, List.getElem_cons_zero, List.setIfInBounds_toArray, List.set_cons_zero, List.set_cons_succ]
  refine wpAnyH_take (i := 4) (v := .pointer (some ⟨pw, 1, none⟩)) rfl (by kernel_rfl) (by kernel_rfl) (by kernel_rfl) (fun _ _ _ h => h) (Or.inl ⟨by kernel_rfl, ?_⟩) hS ?_
  · intro w' hSw
    obtain ⟨s0, s1⟩ := hSw
    go_simp
  try simp only [Act.put, List.getElem_toArray, List.getElem_cons_succ, List.getElem_cons_zero, List.setIfInBounds_toArray, List.set_cons_zero, List.set_cons_succ]
  refine wpAnyH_take (i := 5) (v := .slice (some ⟨bc, oc, none⟩) nm cm) rfl (by kernel_rfl) (by kernel_rfl) (by kernel_rfl) (fun _ _ _ h => h) (Or.inl ⟨by kernel_rfl, ?_⟩) hS ?_
  · intro w' hSw
    obtain ⟨s0, s1⟩ := hSw
    go_simp
  try simp only [Act.put, List.getElem_toArray, List.getElem_cons_succ, List.getElem_cons_zero, List.setIfInBounds_toArray, List.set_cons_zero, List.set_cons_succ]
  refine wpAnyH_take (i := 6) (v := .int .i64 nm) rfl (by kernel_rfl) (by kernel_rfl) (by kernel_rfl) (fun _ _ _ h => h) (Or.inl ⟨by kernel_rfl, ?_⟩) hS ?_
  · intro w' hSw
    obtain ⟨s0, s1⟩ := hSw
    go_simp
  try simp only [Act.put, List.getElem_toArray, List.getElem_cons_succ, List.getElem_cons_zero, List.setIfInBounds_toArray, List.set_cons_zero, List.set_cons_succ]
  refine wpAnyH_take (i := 7) (v := .bool false) rfl (by kernel_rfl) (by kernel_rfl) (by kernel_rfl) (fun _ _ _ h => h) (Or.inl ⟨by kernel_rfl, ?_⟩) hS ?_
  · intro w' hSw
    obtain ⟨s0, s1⟩ := hSw
    go_simp
  try simp only [Act.put, List.getElem_toArray, List.getElem_cons_succ, List.getElem_cons_zero, List.setIfInBounds_toArray, List.set_cons_zero, List.set_cons_succ]
  refine wpAnyH_done (by kernel_rfl) ?_ _
  try simp only [List.setIfInBounds_toArray]
  try simp only [List.getElem_toArray, List.getElem_cons_succ, List.getElem_cons_zero, List.setIfInBounds_toArray, List.set_cons_zero, List.set_cons_succ]
  have HB1 := Lib.hid (HB.out.trans (hbd.mono HB.out.size))
  replace x1 := x1.keep hbd x1.lt
  replace x2 := x2.keep hbd x2.lt
  replace d1 := (hbd.cell (cell_lt d1)).trans d1
  replace d2 := (hbd.cell (cell_lt d2)).trans d2
  replace s1 := (hbd.cell (cell_lt s1)).trans s1
  replace e0 := (hbd.cell (cell_lt e0)).trans e0
  replace e1 := (hbd.cell (cell_lt e1)).trans e1
  replace e2 := (hbd.cell (cell_lt e2)).trans e2
  replace e3 := (hbd.cell (cell_lt e3)).trans e3
  replace e4 := (hbd.cell (cell_lt e4)).trans e4
  clear hS HKS d0 HB hbd
  generalize W0.drew = W1 at *
  have lz1 := x2.lt
  go_wp2_with fail
  have HKS : Hid (∀ w' : World, Below W1.heap.size W1 w' → (fun w' => w'.cell? ⟨w.heap.size, 1, none⟩ = some (.int .i64 (i : Int)) ∧ w'.cell? ⟨pw, 1, none⟩ = some (.slice (some ⟨bc, oc, none⟩) nm cm) ∧ w'.cell? ⟨bc, oc + i * 5, none⟩ = some (.slice Ad ndd cd) ∧ w'.cell? ⟨bc, oc + i * 5 + 1, none⟩ = some (.int .i64 ke) ∧ w'.cell? ⟨bc, oc + i * 5 + 2, none⟩ = some (.int .i64 he) ∧ w'.cell? ⟨bc, oc + i * 5 + 3, none⟩ = some (.slice Ae ne ce) ∧ w'.cell? ⟨bc, oc + i * 5 + 4, none⟩ = some (.bool pb)) w') := Lib.hid fun w' h => ⟨(h.cell (cell_lt d1)).trans d1, (h.cell (cell_lt s1)).trans s1, (h.cell (cell_lt e0)).trans e0, (h.cell (cell_lt e1)).trans e1, (h.cell (cell_lt e2)).trans e2, (h.cell (cell_lt e3)).trans e3, (h.cell (cell_lt e4)).trans e4⟩
  have hbd : Below W1.heap.size W1 W1.drew := (Below.refl _ W1).drew
  refine wp_region_held_drew (S := fun w' => w'.cell? ⟨w.heap.size, 1, none⟩ = some (.int .i64 (i : Int)) ∧ w'.cell? ⟨pw, 1, none⟩ = some (.slice (some ⟨bc, oc, none⟩) nm cm) ∧ w'.cell? ⟨bc, oc + i * 5, none⟩ = some (.slice Ad ndd cd) ∧ w'.cell? ⟨bc, oc + i * 5 + 1, none⟩ = some (.int .i64 ke) ∧ w'.cell? ⟨bc, oc + i * 5 + 2, none⟩ = some (.int .i64 he) ∧ w'.cell? ⟨bc, oc + i * 5 + 3, none⟩ = some (.slice Ae ne ce) ∧ w'.cell? ⟨bc, oc + i * 5 + 4, none⟩ = some (.bool pb)) (by kernel_rfl) (HKS.out _ hbd) (fun hS => ?_)
  simp only [List.size_toArray, List.length_cons, List.length_nil, Nat.reduceAdd]
  refine wpAnyH_take (i := 0) (v := .pointer (some ⟨pw, 0, none⟩)) rfl (by kernel_rfl) (by kernel_rfl) (by kernel_rfl) (fun _ _ _ h => h) (Or.inl ⟨by kernel_rfl, ?_⟩) hS ?_
  · intro w' hSw
    obtain ⟨s0, s1, s2, s3, s4, s5, s6⟩ := hSw
    go_simp
  try simp only [Act.put, List.getElem_toArray, List.getElem_cons_zero, List.setIfInBounds_toArray, List.set_cons_zero, List.set_cons_succ]
  refine wpAnyH_take (i := 1) (v := .pointer (some ⟨pw, 0, none⟩)) rfl (by kernel_rfl) (by kernel_rfl) (by kernel_rfl) (fun _ _ _ h => h) (Or.inl ⟨by kernel_rfl, ?_⟩) hS ?_
  · intro w' hSw
    obtain ⟨s0, s1, s2, s3, s4, s5, s6⟩ := hSw
    go_simp
  try simp only [Act.put, List.getElem_toArray, List.getElem_cons_succ, List.getElem_cons_zero, List.setIfInBounds_toArray, List.set_cons_zero, List.set_cons_succ]
  refine wpAnyH_take (i := 2) (v := .pointer (some ⟨pw, 1, none⟩)) rfl (by kernel_rfl) (by kernel_rfl) (by kernel_rfl) (fun _ _ _ h => h) (Or.inl ⟨by kernel_rfl, ?_⟩) hS ?_
  · intro w' hSw
    obtain ⟨s0, s1, s2, s3, s4, s5, s6⟩ := hSw
    go_simp
  try simp only [Act.put, List.getElem_toArray, List.getElem_cons_succ, List.getElem_cons_zero, List.setIfInBounds_toArray, List.set_cons_zero, List.set_cons_succ]
  refine wpAnyH_take (i := 3) (v := .slice (some ⟨bc, oc, none⟩) nm cm) rfl (by kernel_rfl) (by kernel_rfl) (by kernel_rfl) (fun _ _ _ h => h) (Or.inl ⟨by kernel_rfl, ?_⟩) hS ?_
  · intro w' hSw
    obtain ⟨s0, s1, s2, s3, s4, s5, s6⟩ := hSw
    go_simp
  try simp only [Act.put, List.getElem_toArray, List.getElem_cons_succ, List.getElem_cons_zero, List.setIfInBounds_toArray, List.set_cons_zero, List.set_cons_succ]
  refine wpAnyH_take (i := 4) (v := .pointer (some ⟨w.heap.size, 1, none⟩)) rfl (by kernel_rfl) (by kernel_rfl) (by kernel_rfl) (fun _ _ _ h => h) (Or.inl ⟨by kernel_rfl, ?_⟩) hS ?_
  · intro w' hSw
    obtain ⟨s0, s1, s2, s3, s4, s5, s6⟩ := hSw
    go_simp
  try simp only [Act.put, List.getElem_toArray, List.getElem_cons_succ, List.getElem_cons_zero, List.setIfInBounds_toArray, List.set_cons_zero, List.set_cons_succ]
  refine wpAnyH_take (i := 5) (v := .int .i64 (i : Int)) rfl (by kernel_rfl) (by kernel_rfl) (by kernel_rfl) (fun _ _ _ h => h) (Or.inl ⟨by kernel_rfl, ?_⟩) hS ?_
  · intro w' hSw
    obtain ⟨s0, s1, s2, s3, s4, s5, s6⟩ := hSw
    go_simp
  try simp only [Act.put, List.getElem_toArray, List.getElem_cons_succ, List.getElem_cons_zero, List.setIfInBounds_toArray, List.set_cons_zero, List.set_cons_succ]
  refine wpAnyH_take (i := 6) (v := .pointer (some ⟨bc, oc + i * 5, none⟩)) rfl (by kernel_rfl) (by kernel_rfl) (by kernel_rfl) (fun _ _ _ h => h) (Or.inl ⟨by kernel_rfl, ?_⟩) hS ?_
  · intro w' hSw
    obtain ⟨s0, s1, s2, s3, s4, s5, s6⟩ := hSw
    go_simp
  try simp only [Act.put, List.getElem_toArray, List.getElem_cons_succ, List.getElem_cons_zero, List.setIfInBounds_toArray, List.set_cons_zero, List.set_cons_succ]
  refine wpAnyH_take (i := 7) (v := .agg #[.slice Ad ndd cd, .int .i64 ke, .int .i64 he, .slice Ae ne ce, .bool pb]) rfl (by kernel_rfl) (by kernel_rfl) (by kernel_rfl) (fun _ _ _ h => h) (Or.inl ⟨by kernel_rfl, ?_⟩) hS ?_
  · intro w' hSw
    obtain ⟨s0, s1, s2, s3, s4, s5, s6⟩ := hSw
    go_simp
  try simp only [Act.put, List.getElem_toArray, List.getElem_cons_succ, List.getElem_cons_zero, List.setIfInBounds_toArray, List.set_cons_zero, List.set_cons_succ]
  refine wpAnyH_ready (rs := [8]) (by kernel_rfl) (by simp) ?_
  refine AllReadyH.cons rfl (fun KN hK => ?_) AllReadyH.nil
  go_simp
  have hb5 : Below W1.heap.size W1 (W1.alloc (.cells #[.slice none 0 0, .int .i64 0, .int .i64 0, .slice none 0 0, .bool false] 47)).drew := ((Below.refl _ W1).alloc (Nat.le_refl _) _).drew
  refine hK.out _ _ (HKS.out _ hb5) (fun hS => ?_)
  clear hK KN
  try simp only [Act.put, List.getElem_toArray, List.getElem_cons_succ, List.getElem_cons_zero, List.setIfInBounds_toArray, List.set_cons_zero, List.set_cons_succ]
  have xd : Box (W1.alloc (.cells #[.slice none 0 0, .int .i64 0, .int .i64 0, .slice none 0 0, .bool false] 47)).drew W1.heap.size 47 #[.slice none 0 0, .int .i64 0, .int .i64 0, .slice none 0 0, .bool false] := Box.drewI (Box.new _ _ _)
  obtain ⟨Bd, hBd⟩ : ∃ p, W1.heap.size = p := ⟨_, rfl⟩
  rw [hBd] at xd
  try rw [hBd]
  have hlB : w.heap.size + 1 < Bd := by omega
  have HBD := Lib.hid hBd
  clear hBd
  generalize (W1.alloc (.cells #[.slice none 0 0, .int .i64 0, .int .i64 0, .slice none 0 0, .bool false] 47)).drew = W5 at *
  have z0 : W5.cell? ⟨Bd, 0, none⟩ = some (.slice none 0 0) := xd.cell 0
  have z1 : W5.cell? ⟨Bd, 1, none⟩ = some (.int .i64 0) := xd.cell 1
  have z2 : W5.cell? ⟨Bd, 2, none⟩ = some (.int .i64 0) := xd.cell 2
  have z3 : W5.cell? ⟨Bd, 3, none⟩ = some (.slice none 0 0) := xd.cell 3
  have z4 : W5.cell? ⟨Bd, 4, none⟩ = some (.bool false) := xd.cell 4
  have u0 := xd.frozen 0
  have u1 := xd.frozen 1
  have u2 := xd.frozen 2
  have u3 := xd.frozen 3
  have u4 := xd.frozen 4
  refine wpAnyH_ready (rs := [9]) (by kernel_rfl) (by simp) ?_
  refine AllReadyH.cons rfl (fun KN hK => ?_) AllReadyH.nil
  go_simp
  have hBle : W1.heap.size ≤ Bd := by rw [HBD.out]; exact Nat.le_refl _
  have hbF : Below W1.heap.size W1 (((((W5.setCell ⟨Bd, 0, none⟩ (.slice Ad ndd cd)).setCell ⟨Bd, 1, none⟩ (.int .i64 ke)).setCell ⟨Bd, 2, none⟩ (.int .i64 he)).setCell ⟨Bd, 3, none⟩ (.slice Ae ne ce)).setCell ⟨Bd, 4, none⟩ (.bool pb)) := ((((hb5.setCell hBle _).setCell hBle _).setCell hBle _).setCell hBle _).setCell hBle _
  refine hK.out _ _ (HKS.out _ hbF) (fun hS => ?_)
  clear hK KN
  try simp only [Act.put, List.getElem_toArray, List.getElem_cons_succ, List.getElem_cons_zero, List.setIfInBounds_toArray, List.set_cons_zero, List.set_cons_succ]
  have yd : Box (((((W5.setCell ⟨Bd, 0, none⟩ (.slice Ad ndd cd)).setCell ⟨Bd, 1, none⟩ (.int .i64 ke)).setCell ⟨Bd, 2, none⟩ (.int .i64 he)).setCell ⟨Bd, 3, none⟩ (.slice Ae ne ce)).setCell ⟨Bd, 4, none⟩ (.bool pb)) Bd 47 #[.slice Ad ndd cd, .int .i64 ke, .int .i64 he, .slice Ae ne ce, .bool pb] := by simpa using ((((xd.setAt 0 (.slice Ad ndd cd)).setAt 1 (.int .i64 ke)).setAt 2 (.int .i64 he)).setAt 3 (.slice Ae ne ce)).setAt 4 (.bool pb)
  clear z0 z1 z2 z3 z4 u0 u1 u2 u3 u4 xd hb5
  generalize ((((W5.setCell ⟨Bd, 0, none⟩ (.slice Ad ndd cd)).setCell ⟨Bd, 1, none⟩ (.int .i64 ke)).setCell ⟨Bd, 2, none⟩ (.int .i64 he)).setCell ⟨Bd, 3, none⟩ (.slice Ae ne ce)).setCell ⟨Bd, 4, none⟩ (.bool pb) = W6 at *
  refine wpAnyH_done (by kernel_rfl) ?_ _
  try simp only [List.setIfInBounds_toArray]
  try simp only [List.getElem_toArray, List.getElem_cons_succ, List.getElem_cons_zero, List.setIfInBounds_toArray, List.set_cons_zero, List.set_cons_succ]
  have ym := x1.keep hbF x1.lt
  have yr := x2.keep hbF x2.lt
  have HBW6 := Lib.hid (HB1.out.trans (hbF.mono HB1.out.size))
  have lz6 := yd.lt
  clear hS HKS hbd hbF x1 x2 d1 d2 s1 e0 e1 e2 e3 e4 HB1
  obtain ⟨m0, m1, m2⟩ := ym.three
  obtain ⟨r0, r1, r2⟩ := yr.three
  have f0 := yr.frozen 0
  have f1 := yr.frozen 1
  have f2 := yr.frozen 2
  have lz := yr.lt
  have q0 : W6.cell? ⟨Bd, 0, none⟩ = some (.slice Ad ndd cd) := yd.cell 0
  by_cases hne : n = ndd
  case' neg =>
    have hd2 : ((n : Int) != (ndd : Int)) = true := by simp; omega
    have HEQ2 := Lib.hid (HEQ.out.trans (if_neg (show ¬ xs.length = es.length by omega)))
    go_wp2_with fail
    refine bodyPost_ret (v := .tuple #[.agg #[.int .i64 0, .int .i64 0, .slice none 0 0], .int .i64 3]) (by simp [results, Tryz.results122, go_sem, r0, r1, r2]) rfl ?_
    first | exact spX_no HEQ2.out HBW6.out _ (by omega) _ _ _ | exact spX_no0 HEQ2.out HBW6.out
  subst hne
  have HEQ2 := Lib.hid (HEQ.out.trans (if_pos (show xs.length = es.length by omega)))
  have HI0 : Hid (MeIe W xs cx es (i : Int) A n c Ad n cd ke he Ae ne ce pb Bd w 0 W6) := Lib.hid ⟨ym, yr, yd, HBW6.out, by rw [List.drop_zero, List.take_zero, List.drop_zero]⟩
  clear HEQ ym yr yd
  go_wp2_with fail
  clear m0 m1 m2 r0 r1 r2 f0 f1 f2 q0 HBW6
  go_loopw [9] (fun i' wr => ∃ (j : Nat), j ≤ n ∧ i' = .int .i64 j ∧ Hid (MeIe W xs cx es (i : Int) A n c Ad n cd ke he Ae ne ce pb Bd w j wr)) (fun i _ => n - (Go.RowKit.intOf i).toNat)
  case atStart => exact ⟨0, Nat.zero_le _, rfl, HI0⟩
  case round =>
    clear HI0
    obtain ⟨j, hj, rfl, HI⟩ := hrel
    by_cases hlt2 : j < n
    · obtain ⟨x, hxj⟩ := at_of HX.out.len hlt2
      have hel : es.length = n := hdl
      obtain ⟨en, hej⟩ := at_of hel hlt2
      have HBX := Lib.hid (HBM.out.arg (List.mem_of_getElem? hxj))
      have HWX := Lib.hid (HWM.out.arg (List.mem_of_getElem? hxj))
      have HBE := Lib.hid (HMD.out.1 en (List.mem_of_getElem? hej))
      have hB0w := Lib.hid (HB0.out.trans (HI.out.below.mono HB0.out.size))
      obtain ⟨ba, oa, kx, gx, Ax, nx, cx', eA, v0, v1, v2, hrx⟩ := ((HX.out.keep hB0w.out).at_ j x hxj).full
      obtain ⟨be, oe, ke2, ge2, Ae2, ne2, ce2, eE, e0, e1, e2, hre⟩ := (HLX.out.at_ j en hej).full
      replace e0 := (hB0w.out.cell (cell_lt e0)).trans e0
      replace e1 := (hB0w.out.cell (cell_lt e1)).trans e1
      replace e2 := (hB0w.out.cell (cell_lt e2)).trans e2
      subst eA eE
      have heq := HI.out.eq
      rw [drop_at hxj, drop_at hej, mt_cons] at heq
      have HME := Lib.hid heq
      have HXJ := Lib.hid hxj
      have hnl := nd_mem (List.mem_of_getElem? hxj)
      have hBh : B + (1 + nd x) * dlV ≤ hiV := by have := HSUM.out; rw [nd] at this; unfold dlV hiV at *; omega
      have hLh : cx.length + nd x ≤ 100000 := by have := HLEN.out; rw [nd] at this; omega
      have HRX := Lib.hid hrx
      have HVC := Lib.hid (And.intro v0 (And.intro v1 v2))
      have hj0 : (0 : Int) ≤ j := by omega
      have hj1 : (j : Int) < n := by omega
      have hj3 : (j : Int) ≤ (c : Int) := by omega
      obtain ⟨ee, hee⟩ : ∃ e, apE en (xs.take j) nc = e := ⟨_, rfl⟩
      have HEE := Lib.hid hee
      have HAP : Hid (∀ (Z' : Nat → Prop) (W' : World), Below wr.heap.size wr W' → (∀ b, Z' b → w.heap.size ≤ b ∧ b < W'.heap.size) → Calls Tryz.prog 99 #[.agg #[.int .i64 ke2, .int .i64 ge2, .slice Ae2 ne2 ce2], .agg #[.slice (some ⟨ba, oa, none⟩) j c, .int .i64 nc]] W' (ApX Z' (apT en (xs.take j) nc) ee W')) := Lib.hid fun Z' W' h' hz => by
        rw [← hee]
        have hbw := HB0.out.trans ((HI.out.below.trans (h'.mono HI.out.below.size)).mono HB0.out.size)
        exact (rApplyX (Z := Z') (fun b z => (hz b z).2) (rx_any (Z := Z') hre hbw (fun b z => by have := (hz b z).1; have := HB0.out.size; omega)) (clv_take (clv_rx HX.out hbw (fun b z => by have := (hz b z).1; have := HB0.out.size; omega)) (by omega)) (by have := ((myB_iff _).1 HBE.out.my).2.1; omega) (fun y hy => by have := ((myB_iff _).1 (HBM.out.arg (List.mem_of_mem_take hy)).my).2.1; omega) (fun _ => lo_of HBE.out (by decide)) (fun y hy _ => lo_of (HBM.out.arg (List.mem_of_mem_take hy)) (by decide))).mono (fun e w' h => rzn_x h)
      clear hee hxj hej heq hrx hre hnl
      obtain ⟨m0, m1, m2⟩ := HI.out.tb.three
      have q0 : wr.cell? ⟨Bd, 0, none⟩ = some (.slice (some ⟨be, oe, none⟩) n cd) := HI.out.db.cell 0
      have hlz := HI.out.rb.lt
      have hl0 := HI.out.below.size
      go_wp2_with fail
      clear m0 m1 v0 v1 v2
      have HKS : Hid (∀ w' : World, Below wr.heap.size wr w' → (fun w' => w'.cell? ⟨Bd, 0, none⟩ = some (.slice (some ⟨be, oe, none⟩) n cd) ∧ w'.cell? ⟨be, oe + j * 3, none⟩ = some (.int .i64 ke2) ∧ w'.cell? ⟨be, oe + j * 3 + 1, none⟩ = some (.int .i64 ge2) ∧ w'.cell? ⟨be, oe + j * 3 + 2, none⟩ = some (.slice Ae2 ne2 ce2) ∧ w'.cell? ⟨w.heap.size, 2, none⟩ = some (.slice (some ⟨ba, oa, none⟩) n c)) w') := Lib.hid fun w' h => ⟨(h.cell (cell_lt q0)).trans q0, (h.cell (cell_lt e0)).trans e0, (h.cell (cell_lt e1)).trans e1, (h.cell (cell_lt e2)).trans e2, (h.cell (cell_lt m2)).trans m2⟩
      have hbd : Below wr.heap.size wr wr.drew := (Below.refl _ wr).drew
      refine wp_region_held_drew (S := fun w' => w'.cell? ⟨Bd, 0, none⟩ = some (.slice (some ⟨be, oe, none⟩) n cd) ∧ w'.cell? ⟨be, oe + j * 3, none⟩ = some (.int .i64 ke2) ∧ w'.cell? ⟨be, oe + j * 3 + 1, none⟩ = some (.int .i64 ge2) ∧ w'.cell? ⟨be, oe + j * 3 + 2, none⟩ = some (.slice Ae2 ne2 ce2) ∧ w'.cell? ⟨w.heap.size, 2, none⟩ = some (.slice (some ⟨ba, oa, none⟩) n c)) (by kernel_rfl) (HKS.out _ hbd) (fun hS => ?_)
      simp only [List.size_toArray, List.length_cons, List.length_nil, Nat.reduceAdd]
      refine wpAnyH_take (i := 0) (v := .pointer (some ⟨Bd, 0, none⟩)) rfl (by kernel_rfl) (by kernel_rfl) (by kernel_rfl) (fun _ _ _ h => h) (Or.inl ⟨by kernel_rfl, ?_⟩) hS ?_
      · intro w' hSw
        obtain ⟨s0, s1, s2, s3, s4⟩ := hSw
        go_simp
      try simp only [Act.put, List.getElem_toArray, List.getElem_cons_zero, List.setIfInBounds_toArray, List.set_cons_zero, List.set_cons_succ]
      refine wpAnyH_take (i := 1) (v := .slice (some ⟨be, oe, none⟩) n cd) rfl (by kernel_rfl) (by kernel_rfl) (by kernel_rfl) (fun _ _ _ h => h) (Or.inl ⟨by kernel_rfl, ?_⟩) hS ?_
      · intro w' hSw
        obtain ⟨s0, s1, s2, s3, s4⟩ := hSw
        go_simp
      try simp only [Act.put, List.getElem_toArray, List.getElem_cons_succ, List.getElem_cons_zero, List.setIfInBounds_toArray, List.set_cons_zero, List.set_cons_succ]
      refine wpAnyH_take (i := 2) (v := .int .i64 j) rfl (by kernel_rfl) (by kernel_rfl) (by kernel_rfl) (fun _ _ _ h => h) (Or.inl ⟨by kernel_rfl, ?_⟩) hS ?_
      · intro w' hSw
        obtain ⟨s0, s1, s2, s3, s4⟩ := hSw
        go_simp
      try simp only [Act.put, List.getElem_toArray, List.getElem_cons_succ, List.getElem_cons_zero, List.setIfInBounds_toArray, List.set_cons_zero, List.set_cons_succ]
      refine wpAnyH_take (i := 3) (v := .pointer (some ⟨be, oe + j * 3, none⟩)) rfl (by kernel_rfl) (by kernel_rfl) (by kernel_rfl) (fun _ _ _ h => h) (Or.inl ⟨by kernel_rfl, ?_⟩) hS ?_
      · intro w' hSw
        obtain ⟨s0, s1, s2, s3, s4⟩ := hSw
        go_simp
      try simp only [Act.put, List.getElem_toArray, List.getElem_cons_succ, List.getElem_cons_zero, List.setIfInBounds_toArray, List.set_cons_zero, List.set_cons_succ]
      refine wpAnyH_take (i := 4) (v := .agg #[.int .i64 ke2, .int .i64 ge2, .slice Ae2 ne2 ce2]) rfl (by kernel_rfl) (by kernel_rfl) (by kernel_rfl) (fun _ _ _ h => h) (Or.inl ⟨by kernel_rfl, ?_⟩) hS ?_
      · intro w' hSw
        obtain ⟨s0, s1, s2, s3, s4⟩ := hSw
        go_simp
      try simp only [Act.put, List.getElem_toArray, List.getElem_cons_succ, List.getElem_cons_zero, List.setIfInBounds_toArray, List.set_cons_zero, List.set_cons_succ]
      refine wpAnyH_take (i := 5) (v := .pointer (some ⟨w.heap.size, 2, none⟩)) rfl (by kernel_rfl) (by kernel_rfl) (by kernel_rfl) (fun _ _ _ h => h) (Or.inl ⟨by kernel_rfl, ?_⟩) hS ?_
      · intro w' hSw
        obtain ⟨s0, s1, s2, s3, s4⟩ := hSw
        go_simp
      try simp only [Act.put, List.getElem_toArray, List.getElem_cons_succ, List.getElem_cons_zero, List.setIfInBounds_toArray, List.set_cons_zero, List.set_cons_succ]
      refine wpAnyH_take (i := 6) (v := .slice (some ⟨ba, oa, none⟩) n c) rfl (by kernel_rfl) (by kernel_rfl) (by kernel_rfl) (fun _ _ _ h => h) (Or.inl ⟨by kernel_rfl, ?_⟩) hS ?_
      · intro w' hSw
        obtain ⟨s0, s1, s2, s3, s4⟩ := hSw
        go_simp
      try simp only [Act.put, List.getElem_toArray, List.getElem_cons_succ, List.getElem_cons_zero, List.setIfInBounds_toArray, List.set_cons_zero, List.set_cons_succ]
      refine wpAnyH_take (i := 7) (v := .int .i64 j) rfl (by kernel_rfl) (by kernel_rfl) (by kernel_rfl) (fun _ _ _ h => h) (Or.inl ⟨by kernel_rfl, ?_⟩) hS ?_
      · intro w' hSw
        obtain ⟨s0, s1, s2, s3, s4⟩ := hSw
        go_simp
      try simp only [Act.put, List.getElem_toArray, List.getElem_cons_succ, List.getElem_cons_zero, List.setIfInBounds_toArray, List.set_cons_zero, List.set_cons_succ]
      refine wpAnyH_take (i := 8) (v := .slice (some ⟨ba, oa, none⟩) j c) rfl (by kernel_rfl) (by kernel_rfl) (by kernel_rfl) (fun _ _ _ h => h) (Or.inl ⟨by kernel_rfl, ?_⟩) hS ?_
      · intro w' hSw
        obtain ⟨s0, s1, s2, s3, s4⟩ := hSw
        go_simp
      try simp only [Act.put, List.getElem_toArray, List.getElem_cons_succ, List.getElem_cons_zero, List.setIfInBounds_toArray, List.set_cons_zero, List.set_cons_succ]
      refine wpAnyH_take (i := 9) (v := .slice Ac nc cc) rfl (by kernel_rfl) (by kernel_rfl) (by kernel_rfl) (fun _ _ _ h => h) (Or.inl ⟨by kernel_rfl, ?_⟩) hS ?_
      · intro w' hSw
        obtain ⟨s0, s1, s2, s3, s4⟩ := hSw
        go_simp
      try simp only [Act.put, List.getElem_toArray, List.getElem_cons_succ, List.getElem_cons_zero, List.setIfInBounds_toArray, List.set_cons_zero, List.set_cons_succ]
      refine wpAnyH_take (i := 10) (v := .int .i64 nc) rfl (by kernel_rfl) (by kernel_rfl) (by kernel_rfl) (fun _ _ _ h => h) (Or.inl ⟨by kernel_rfl, ?_⟩) hS ?_
      · intro w' hSw
        obtain ⟨s0, s1, s2, s3, s4⟩ := hSw
        go_simp
      try simp only [Act.put, List.getElem_toArray, List.getElem_cons_succ, List.getElem_cons_zero, List.setIfInBounds_toArray, List.set_cons_zero, List.set_cons_succ]
      refine wpAnyH_take (i := 11) (v := .agg #[.slice (some ⟨ba, oa, none⟩) j c, .int .i64 nc]) rfl (by kernel_rfl) (by kernel_rfl) (by kernel_rfl) (fun _ _ _ h => h) (Or.inl ⟨by kernel_rfl, ?_⟩) hS ?_
      · intro w' hSw
        obtain ⟨s0, s1, s2, s3, s4⟩ := hSw
        go_simp
      try simp only [Act.put, List.getElem_toArray, List.getElem_cons_succ, List.getElem_cons_zero, List.setIfInBounds_toArray, List.set_cons_zero, List.set_cons_succ]
      refine wpAnyH_ready (rs := [12, 16]) (by kernel_rfl) (by simp) ?_
      refine AllReadyH.cons rfl (fun KN hK => ?_) (AllReadyH.cons rfl (fun KN hK => ?_) AllReadyH.nil)
      · go_simp
        refine (HAP.out (fun b => b = w.heap.size + 1) _ hbd (fun b z => by have := hbd.size; omega)).mono ?_
        rintro e v0 ⟨k3, h3, A3, n3, c3, rfl, hS9, hb6⟩
        replace hbd : Below wr.heap.size wr v0 := hbd.trans (hb6.mono hbd.size)
        clear hb6
        refine hK.out _ _ (HKS.out _ hbd) (fun hS => ?_)
        clear hK KN
        try simp only [Act.put, List.getElem_toArray, List.getElem_cons_succ, List.getElem_cons_zero, List.setIfInBounds_toArray, List.set_cons_zero, List.set_cons_succ]
        refine wpAnyH_take (i := 13) (v := .tuple #[.agg #[.int .i64 k3, .int .i64 h3, .slice A3 n3 c3], .int .i64 ee]) rfl (by kernel_rfl) (by kernel_rfl) (by kernel_rfl) (fun _ _ _ h => h) (Or.inl ⟨by kernel_rfl, ?_⟩) hS ?_
        · intro w' hSw
          obtain ⟨s0, s1, s2, s3, s4⟩ := hSw
          go_simp
        try simp only [Act.put, List.getElem_toArray, List.getElem_cons_succ, List.getElem_cons_zero, List.setIfInBounds_toArray, List.set_cons_zero, List.set_cons_succ]
        refine wpAnyH_take (i := 14) (v := .agg #[.int .i64 k3, .int .i64 h3, .slice A3 n3 c3]) rfl (by kernel_rfl) (by kernel_rfl) (by kernel_rfl) (fun _ _ _ h => h) (Or.inl ⟨by kernel_rfl, ?_⟩) hS ?_
        · intro w' hSw
          obtain ⟨s0, s1, s2, s3, s4⟩ := hSw
          go_simp
        try simp only [Act.put, List.getElem_toArray, List.getElem_cons_succ, List.getElem_cons_zero, List.setIfInBounds_toArray, List.set_cons_zero, List.set_cons_succ]
        refine wpAnyH_take (i := 15) (v := .int .i64 ee) rfl (by kernel_rfl) (by kernel_rfl) (by kernel_rfl) (fun _ _ _ h => h) (Or.inl ⟨by kernel_rfl, ?_⟩) hS ?_
        · intro w' hSw
          obtain ⟨s0, s1, s2, s3, s4⟩ := hSw
          go_simp
        try simp only [Act.put, List.getElem_toArray, List.getElem_cons_succ, List.getElem_cons_zero, List.setIfInBounds_toArray, List.set_cons_zero, List.set_cons_succ]
        refine wpAnyH_ready (rs := [16]) (by kernel_rfl) (by simp) ?_
        refine AllReadyH.cons rfl (fun KN hK => ?_) AllReadyH.nil
        go_simp
        have hbn : Below wr.heap.size wr (v0.alloc (.cells #[.int .i64 0, .int .i64 0, .slice none 0 0] 44)) := hbd.alloc hbd.size _
        refine hK.out _ _ (HKS.out _ hbn) (fun hS => ?_)
        clear hK KN
        try simp only [Act.put, List.getElem_toArray, List.getElem_cons_succ, List.getElem_cons_zero, List.setIfInBounds_toArray, List.set_cons_zero, List.set_cons_succ]
        have xz : Box (v0.alloc (.cells #[.int .i64 0, .int .i64 0, .slice none 0 0] 44)) v0.heap.size 44 #[.int .i64 0, .int .i64 0, .slice none 0 0] := Box.new _ _ _
        have hpl0 : wr.heap.size ≤ v0.heap.size := hbd.size
        replace hS9 : ∀ t, (Except.ok (apT en (xs.take j) nc) : Except Int T) = .ok t → RX (fun b => b = w.heap.size + 1 ∨ b = v0.heap.size) (v0.alloc (.cells #[.int .i64 0, .int .i64 0, .slice none 0 0] 44)) t (.agg #[.int .i64 k3, .int .i64 h3, .slice A3 n3 c3]) := fun t e => (hS9 t e).keepE (show Below v0.heap.size v0 (v0.alloc (.cells #[.int .i64 0, .int .i64 0, .slice none 0 0] 44)) from (Below.refl _ _).alloc (Nat.le_refl _) _) (fun b z => z.elim .inl (fun e => .inr (by omega)))
        obtain ⟨pB, hpB0⟩ : ∃ p, v0.heap.size = p := ⟨_, rfl⟩
        rw [hpB0] at xz hS9
        try rw [hpB0]
        have hpl : wr.heap.size ≤ pB := by omega
        clear hpB0 hbd hpl0
        generalize v0.alloc (.cells #[.int .i64 0, .int .i64 0, .slice none 0 0] 44) = wN at *
        have hbd := hbn
        clear hbn
        obtain ⟨z0, z1, z2⟩ := xz.three
        have u0 := xz.frozen 0
        have u1 := xz.frozen 1
        have u2 := xz.frozen 2
        refine wpAnyH_ready (rs := [17]) (by kernel_rfl) (by simp) ?_
        refine AllReadyH.cons rfl (fun KN hK => ?_) AllReadyH.nil
        go_simp
        have hbF := below_set3 hbd (a := pB) hpl (.int .i64 k3) (.int .i64 h3) (.slice A3 n3 c3)
        refine hK.out _ _ (HKS.out _ hbF) (fun hS => ?_)
        clear hK KN
        try simp only [Act.put, List.getElem_toArray, List.getElem_cons_succ, List.getElem_cons_zero, List.setIfInBounds_toArray, List.set_cons_zero, List.set_cons_succ]
        have xB := xz.put3 (.int .i64 k3) (.int .i64 h3) (.slice A3 n3 c3)
        have hrdF : ∀ t, (Except.ok (apT en (xs.take j) nc) : Except Int T) = .ok t → RX (fun b => b = w.heap.size + 1) (((wN.setCell ⟨pB, 0, none⟩ (.int .i64 k3)).setCell ⟨pB, 1, none⟩ (.int .i64 h3)).setCell ⟨pB, 2, none⟩ (.slice A3 n3 c3)) t (.agg #[.int .i64 k3, .int .i64 h3, .slice A3 n3 c3]) := fun t e => RdF.moveX (fun b hok hl => ⟨fun z => hok (.inl z), heap_other3 _ _ _ _ _ _ (fun e => hok (.inr e))⟩) _ _ (hS9 t e)
        clear hS9 xz hbd z0 z1 z2 u0 u1 u2
        generalize ((wN.setCell ⟨pB, 0, none⟩ (.int .i64 k3)).setCell ⟨pB, 1, none⟩ (.int .i64 h3)).setCell ⟨pB, 2, none⟩ (.slice A3 n3 c3) = Wf at *
        refine wpAnyH_take (i := 18) (v := .int .i64 ee) rfl (by kernel_rfl) (by kernel_rfl) (by kernel_rfl) (fun _ _ _ h => h) (Or.inl ⟨by kernel_rfl, ?_⟩) hS ?_
        · intro w' hSw
          obtain ⟨s0, s1, s2, s3, s4⟩ := hSw
          go_simp
        try simp only [Act.put, List.getElem_toArray, List.getElem_cons_succ, List.getElem_cons_zero, List.setIfInBounds_toArray, List.set_cons_zero, List.set_cons_succ]
        refine wpAnyH_done (by kernel_rfl) ?_ _
        try simp only [List.setIfInBounds_toArray]
        try simp only [List.getElem_toArray, List.getElem_cons_succ, List.getElem_cons_zero, List.setIfInBounds_toArray, List.set_cons_zero, List.set_cons_succ]
        have HBF := Lib.hid (HI.out.below.trans (hbF.mono HI.out.below.size))
        have ym := HI.out.tb.keep hbF HI.out.tb.lt
        have yr := HI.out.rb.keep hbF HI.out.rb.lt
        have yd := HI.out.db.keep hbF HI.out.db.lt
        have HRX2 := Lib.hid (Rd.keep hbF _ _ HRX.out)
        have v0 := (hbF.cell (cell_lt HVC.out.1)).trans HVC.out.1
        have v1 := (hbF.cell (cell_lt HVC.out.2.1)).trans HVC.out.2.1
        have v2 := (hbF.cell (cell_lt HVC.out.2.2)).trans HVC.out.2.2
        have HB0F := Lib.hid (hB0w.out.trans (hbF.mono hB0w.out.size))
        have HRA := Lib.hid (RX.rd (hrdF _ rfl))
        clear hS HKS HAP hbF hpl hrdF m2 q0 e0 e1 e2
        obtain ⟨y0, y1, y2⟩ := xB.three
        obtain ⟨r0, r1, r2⟩ := yr.three
        have f0 := yr.frozen 0
        have f1 := yr.frozen 1
        have f2 := yr.frozen 2
        have lz := yr.lt
        clear xB
        by_cases hz2 : ee = 0
        · subst hz2
          have hbr : BdV (B + dlV) (apT en (xs.take j) nc) := bd_ap (HBE.out.mono HE.out.lo) (fun y hy => (HBM.out.arg (List.mem_of_mem_take hy)).mono HE.out.lo) HEE.out
          have HTC := Lib.hid (fun W' (h' : Below Wf.heap.size Wf W') => HIH.out x (List.mem_of_getElem? HXJ.out) cx (apT en (xs.take j) nc) (B + dlV) As ns cs (some ⟨bc, oc, none⟩) nm cm Ac nc cc pw _ _ W' (HE.out.mono (by unfold dlV; omega)) HWX.out hbr (by unfold dlV hiV at *; omega) hLh (HK.out.keep (HB0F.out.trans (h'.mono HB0F.out.size))) (HPW.out.keep (HB0F.out.trans (h'.mono HB0F.out.size)) HPW.out.lt) (Rd.keep h' _ _ HRX2.out) (Rd.keep h' _ _ HRA.out))
          have HME1 := Lib.hid (HME.out.trans (if_pos (by rw [hcl]; exact HEE.out)))
          rw [hcl] at HME1
          obtain ⟨e4, he4⟩ : ∃ e, tmV W x cx (apT en (xs.take j) nc) = e := ⟨_, rfl⟩
          have HE4 := Lib.hid he4
          rw [he4] at HTC
          clear hbr he4
          obtain ⟨m0, m1, m2⟩ := ym.three
          go_wp2_with fail
          have HKS : Hid (∀ w' : World, Below Wf.heap.size Wf w' → (fun w' => w'.cell? ⟨w.heap.size, 2, none⟩ = some (.slice (some ⟨ba, oa, none⟩) n c) ∧ w'.cell? ⟨ba, oa + j * 3, none⟩ = some (.int .i64 kx) ∧ w'.cell? ⟨ba, oa + j * 3 + 1, none⟩ = some (.int .i64 gx) ∧ w'.cell? ⟨ba, oa + j * 3 + 2, none⟩ = some (.slice Ax nx cx') ∧ w'.cell? ⟨pB, 0, none⟩ = some (.int .i64 k3) ∧ w'.cell? ⟨pB, 1, none⟩ = some (.int .i64 h3) ∧ w'.cell? ⟨pB, 2, none⟩ = some (.slice A3 n3 c3)) w') := Lib.hid fun w' h => ⟨(h.cell (cell_lt m2)).trans m2, (h.cell (cell_lt v0)).trans v0, (h.cell (cell_lt v1)).trans v1, (h.cell (cell_lt v2)).trans v2, (h.cell (cell_lt y0)).trans y0, (h.cell (cell_lt y1)).trans y1, (h.cell (cell_lt y2)).trans y2⟩
          have hbd : Below Wf.heap.size Wf Wf.drew := (Below.refl _ Wf).drew
          refine wp_region_held_drew (S := fun w' => w'.cell? ⟨w.heap.size, 2, none⟩ = some (.slice (some ⟨ba, oa, none⟩) n c) ∧ w'.cell? ⟨ba, oa + j * 3, none⟩ = some (.int .i64 kx) ∧ w'.cell? ⟨ba, oa + j * 3 + 1, none⟩ = some (.int .i64 gx) ∧ w'.cell? ⟨ba, oa + j * 3 + 2, none⟩ = some (.slice Ax nx cx') ∧ w'.cell? ⟨pB, 0, none⟩ = some (.int .i64 k3) ∧ w'.cell? ⟨pB, 1, none⟩ = some (.int .i64 h3) ∧ w'.cell? ⟨pB, 2, none⟩ = some (.slice A3 n3 c3)) (by kernel_rfl) (HKS.out _ hbd) (fun hS => ?_)
          simp only [List.size_toArray, List.length_cons, List.length_nil, Nat.reduceAdd]
          refine wpAnyH_take (i := 0) (v := .pointer (some ⟨pw, 0, none⟩)) rfl (by kernel_rfl) (by kernel_rfl) (by kernel_rfl) (fun _ _ _ h => h) (Or.inl ⟨by kernel_rfl, ?_⟩) hS ?_
          · intro w' hSw
            obtain ⟨s0, s1, s2, s3, s4, s5, s6⟩ := hSw
            go_simp
          try simp only [Act.put, List.getElem_toArray, List.getElem_cons_zero, List.setIfInBounds_toArray, List.set_cons_zero, List.set_cons_succ]
          refine wpAnyH_take (i := 1) (v := .slice Ac nc cc) rfl (by kernel_rfl) (by kernel_rfl) (by kernel_rfl) (fun _ _ _ h => h) (Or.inl ⟨by kernel_rfl, ?_⟩) hS ?_
          · intro w' hSw
            obtain ⟨s0, s1, s2, s3, s4, s5, s6⟩ := hSw
            go_simp
          try simp only [Act.put, List.getElem_toArray, List.getElem_cons_succ, List.getElem_cons_zero, List.setIfInBounds_toArray, List.set_cons_zero, List.set_cons_succ]
          refine wpAnyH_take (i := 2) (v := .pointer (some ⟨w.heap.size, 2, none⟩)) rfl (by kernel_rfl) (by kernel_rfl) (by kernel_rfl) (fun _ _ _ h => h) (Or.inl ⟨by kernel_rfl, ?_⟩) hS ?_
          · intro w' hSw
            obtain ⟨s0, s1, s2, s3, s4, s5, s6⟩ := hSw
            go_simp
          try simp only [Act.put, List.getElem_toArray, List.getElem_cons_succ, List.getElem_cons_zero, List.setIfInBounds_toArray, List.set_cons_zero, List.set_cons_succ]
          refine wpAnyH_take (i := 3) (v := .slice (some ⟨ba, oa, none⟩) n c) rfl (by kernel_rfl) (by kernel_rfl) (by kernel_rfl) (fun _ _ _ h => h) (Or.inl ⟨by kernel_rfl, ?_⟩) hS ?_
          · intro w' hSw
            obtain ⟨s0, s1, s2, s3, s4, s5, s6⟩ := hSw
            go_simp
          try simp only [Act.put, List.getElem_toArray, List.getElem_cons_succ, List.getElem_cons_zero, List.setIfInBounds_toArray, List.set_cons_zero, List.set_cons_succ]
          refine wpAnyH_take (i := 4) (v := .int .i64 j) rfl (by kernel_rfl) (by kernel_rfl) (by kernel_rfl) (fun _ _ _ h => h) (Or.inl ⟨by kernel_rfl, ?_⟩) hS ?_
          · intro w' hSw
            obtain ⟨s0, s1, s2, s3, s4, s5, s6⟩ := hSw
            go_simp
          try simp only [Act.put, List.getElem_toArray, List.getElem_cons_succ, List.getElem_cons_zero, List.setIfInBounds_toArray, List.set_cons_zero, List.set_cons_succ]
          refine wpAnyH_take (i := 5) (v := .pointer (some ⟨ba, oa + j * 3, none⟩)) rfl (by kernel_rfl) (by kernel_rfl) (by kernel_rfl) (fun _ _ _ h => h) (Or.inl ⟨by kernel_rfl, ?_⟩) hS ?_
          · intro w' hSw
            obtain ⟨s0, s1, s2, s3, s4, s5, s6⟩ := hSw
            go_simp
          try simp only [Act.put, List.getElem_toArray, List.getElem_cons_succ, List.getElem_cons_zero, List.setIfInBounds_toArray, List.set_cons_zero, List.set_cons_succ]
          refine wpAnyH_take (i := 6) (v := .agg #[.int .i64 kx, .int .i64 gx, .slice Ax nx cx']) rfl (by kernel_rfl) (by kernel_rfl) (by kernel_rfl) (fun _ _ _ h => h) (Or.inl ⟨by kernel_rfl, ?_⟩) hS ?_
          · intro w' hSw
            obtain ⟨s0, s1, s2, s3, s4, s5, s6⟩ := hSw
            go_simp
          try simp only [Act.put, List.getElem_toArray, List.getElem_cons_succ, List.getElem_cons_zero, List.setIfInBounds_toArray, List.set_cons_zero, List.set_cons_succ]
          refine wpAnyH_take (i := 7) (v := .agg #[.int .i64 k3, .int .i64 h3, .slice A3 n3 c3]) rfl (by kernel_rfl) (by kernel_rfl) (by kernel_rfl) (fun _ _ _ h => h) (Or.inl ⟨by kernel_rfl, ?_⟩) hS ?_
          · intro w' hSw
            obtain ⟨s0, s1, s2, s3, s4, s5, s6⟩ := hSw
            go_simp
          try simp only [Act.put, List.getElem_toArray, List.getElem_cons_succ, List.getElem_cons_zero, List.setIfInBounds_toArray, List.set_cons_zero, List.set_cons_succ]
          refine wpAnyH_ready (rs := [8]) (by kernel_rfl) (by simp) ?_
          refine AllReadyH.cons rfl (fun KN hK => ?_) AllReadyH.nil
          go_simp
          refine (HTC.out _ hbd).mono ?_
          rintro e w9 ⟨rfl, hb6⟩
          replace hbd : Below Wf.heap.size Wf w9 := hbd.trans (hb6.mono hbd.size)
          clear hb6
          refine hK.out _ _ (HKS.out _ hbd) (fun hS => ?_)
          clear hK KN
          try simp only [Act.put, List.getElem_toArray, List.getElem_cons_succ, List.getElem_cons_zero, List.setIfInBounds_toArray, List.set_cons_zero, List.set_cons_succ]
          refine wpAnyH_take (i := 9) (v := .int .i64 e4) rfl (by kernel_rfl) (by kernel_rfl) (by kernel_rfl) (fun _ _ _ h => h) (Or.inl ⟨by kernel_rfl, ?_⟩) hS ?_
          · intro w' hSw
            obtain ⟨s0, s1, s2, s3, s4, s5, s6⟩ := hSw
            go_simp
          try simp only [Act.put, List.getElem_toArray, List.getElem_cons_succ, List.getElem_cons_zero, List.setIfInBounds_toArray, List.set_cons_zero, List.set_cons_succ]
          refine wpAnyH_done (by kernel_rfl) ?_ _
          try simp only [List.setIfInBounds_toArray]
          try simp only [List.getElem_toArray, List.getElem_cons_succ, List.getElem_cons_zero, List.setIfInBounds_toArray, List.set_cons_zero, List.set_cons_succ]
          have HB9 := Lib.hid (HBF.out.trans (hbd.mono HBF.out.size))
          replace ym := ym.keep hbd ym.lt
          replace yr := yr.keep hbd yr.lt
          replace yd := yd.keep hbd yd.lt
          clear hS HKS hbd HTC r0 r1 r2 f0 f1 f2 lz m0 m1 m2 v0 v1 v2 y0 y1 y2
          obtain ⟨r0, r1, r2⟩ := yr.three
          have f0 := yr.frozen 0
          have f1 := yr.frozen 1
          have f2 := yr.frozen 2
          have lz := yr.lt
          by_cases hz4 : e4 = 0
          · subst hz4
            go_wp2_with fail
            go_roundw
            case measure => simp [Go.RowKit.intOf]; omega
            case rel =>
              refine ⟨j + 1, by omega, by go_num, Lib.hid ⟨ym, yr, yd, HB9.out, ?_⟩⟩
              rw [HME1.out, if_pos HE4.out, take_snocV HXJ.out]
          · have hd4 : (e4 != 0) = true := by simpa using hz4
            have HE5 := Lib.hid (show mtV W xs [] cx es = e4 by rw [HME1.out, if_neg (by rw [HE4.out]; exact hz4), HE4.out])
            have HEQ3 := Lib.hid (HEQ2.out.trans (if_neg (by rw [HE5.out]; exact hz4)))
            rw [HE5.out] at HEQ3
            go_wp2_with fail
            refine bodyPost_ret (v := .tuple #[.agg #[.int .i64 0, .int .i64 0, .slice none 0 0], .int .i64 e4]) (by simp [results, Tryz.results122, go_sem, r0, r1, r2]) rfl ?_
            first | exact spX_no HEQ3.out HB9.out _ (by omega) _ _ _ | exact spX_no0 HEQ3.out HB9.out
        · have hd2 : (ee != 0) = true := by simpa using hz2
          have HE5 := Lib.hid (show mtV W xs [] cx es = ee by rw [HME.out, if_neg (by rw [hcl, HEE.out]; exact hz2), hcl, HEE.out])
          have HEQ3 := Lib.hid (HEQ2.out.trans (if_neg (by rw [HE5.out]; exact hz2)))
          rw [HE5.out] at HEQ3
          go_wp2_with fail
          refine bodyPost_ret (v := .tuple #[.agg #[.int .i64 0, .int .i64 0, .slice none 0 0], .int .i64 ee]) (by simp [results, Tryz.results122, go_sem, r0, r1, r2]) rfl ?_
          first | exact spX_no HEQ3.out HBF.out _ (by omega) _ _ _ | exact spX_no0 HEQ3.out HBF.out
      · go_simp
        have hbn : Below wr.heap.size wr ((wr.alloc (.cells #[.int .i64 0, .int .i64 0, .slice none 0 0] 44)).drew) := ((Below.refl _ wr).alloc (Nat.le_refl _) _).drew
        refine hK.out _ _ (HKS.out _ hbn) (fun hS => ?_)
        clear hK KN
        try simp only [Act.put, List.getElem_toArray, List.getElem_cons_succ, List.getElem_cons_zero, List.setIfInBounds_toArray, List.set_cons_zero, List.set_cons_succ]
        have xz : Box ((wr.alloc (.cells #[.int .i64 0, .int .i64 0, .slice none 0 0] 44)).drew) wr.heap.size 44 #[.int .i64 0, .int .i64 0, .slice none 0 0] := Box.drewI (Box.new _ _ _)
        have hpl0 : wr.heap.size ≤ wr.heap.size := Nat.le_refl _
        obtain ⟨pB, hpB0⟩ : ∃ p, wr.heap.size = p := ⟨_, rfl⟩
        rw [hpB0] at xz
        try rw [hpB0]
        have hpl : wr.heap.size ≤ pB := by omega
        clear hpB0 hbd hpl0
        generalize (wr.alloc (.cells #[.int .i64 0, .int .i64 0, .slice none 0 0] 44)).drew = wN at *
        have hbd := hbn
        clear hbn
        refine wpAnyH_ready (rs := [12]) (by kernel_rfl) (by simp) ?_
        refine AllReadyH.cons rfl (fun KN hK => ?_) AllReadyH.nil
        go_simp
        refine (HAP.out (fun b => b = w.heap.size + 1 ∨ b = pB) _ hbd (fun b z => by have := xz.lt; have := hbd.size; rcases z with z | z <;> omega)).mono ?_
        rintro e v1 ⟨k3, h3, A3, n3, c3, rfl, hS9, hb6⟩
        replace hbd : Below wr.heap.size wr v1 := hbd.trans (hb6.mono hbd.size)
        replace xz := xz.keep hb6 xz.lt
        clear hb6
        refine hK.out _ _ (HKS.out _ hbd) (fun hS => ?_)
        clear hK KN
        try simp only [Act.put, List.getElem_toArray, List.getElem_cons_succ, List.getElem_cons_zero, List.setIfInBounds_toArray, List.set_cons_zero, List.set_cons_succ]
        refine wpAnyH_take (i := 13) (v := .tuple #[.agg #[.int .i64 k3, .int .i64 h3, .slice A3 n3 c3], .int .i64 ee]) rfl (by kernel_rfl) (by kernel_rfl) (by kernel_rfl) (fun _ _ _ h => h) (Or.inl ⟨by kernel_rfl, ?_⟩) hS ?_
        · intro w' hSw
          obtain ⟨s0, s1, s2, s3, s4⟩ := hSw
          go_simp
        try simp only [Act.put, List.getElem_toArray, List.getElem_cons_succ, List.getElem_cons_zero, List.setIfInBounds_toArray, List.set_cons_zero, List.set_cons_succ]
        refine wpAnyH_take (i := 14) (v := .agg #[.int .i64 k3, .int .i64 h3, .slice A3 n3 c3]) rfl (by kernel_rfl) (by kernel_rfl) (by kernel_rfl) (fun _ _ _ h => h) (Or.inl ⟨by kernel_rfl, ?_⟩) hS ?_
        · intro w' hSw
          obtain ⟨s0, s1, s2, s3, s4⟩ := hSw
          go_simp
        try simp only [Act.put, List.getElem_toArray, List.getElem_cons_succ, List.getElem_cons_zero, List.setIfInBounds_toArray, List.set_cons_zero, List.set_cons_succ]
        refine wpAnyH_take (i := 15) (v := .int .i64 ee) rfl (by kernel_rfl) (by kernel_rfl) (by kernel_rfl) (fun _ _ _ h => h) (Or.inl ⟨by kernel_rfl, ?_⟩) hS ?_
        · intro w' hSw
          obtain ⟨s0, s1, s2, s3, s4⟩ := hSw
          go_simp
        try simp only [Act.put, List.getElem_toArray, List.getElem_cons_succ, List.getElem_cons_zero, List.setIfInBounds_toArray, List.set_cons_zero, List.set_cons_succ]
        obtain ⟨z0, z1, z2⟩ := xz.three
        have u0 := xz.frozen 0
        have u1 := xz.frozen 1
        have u2 := xz.frozen 2
        refine wpAnyH_ready (rs := [17]) (by kernel_rfl) (by simp) ?_
        refine AllReadyH.cons rfl (fun KN hK => ?_) AllReadyH.nil
        go_simp
        have hbF := below_set3 hbd (a := pB) hpl (.int .i64 k3) (.int .i64 h3) (.slice A3 n3 c3)
        refine hK.out _ _ (HKS.out _ hbF) (fun hS => ?_)
        clear hK KN
        try simp only [Act.put, List.getElem_toArray, List.getElem_cons_succ, List.getElem_cons_zero, List.setIfInBounds_toArray, List.set_cons_zero, List.set_cons_succ]
        have xB := xz.put3 (.int .i64 k3) (.int .i64 h3) (.slice A3 n3 c3)
        have hrdF : ∀ t, (Except.ok (apT en (xs.take j) nc) : Except Int T) = .ok t → RX (fun b => b = w.heap.size + 1) (((v1.setCell ⟨pB, 0, none⟩ (.int .i64 k3)).setCell ⟨pB, 1, none⟩ (.int .i64 h3)).setCell ⟨pB, 2, none⟩ (.slice A3 n3 c3)) t (.agg #[.int .i64 k3, .int .i64 h3, .slice A3 n3 c3]) := fun t e => RdF.moveX (fun b hok hl => ⟨fun z => hok (.inl z), heap_other3 _ _ _ _ _ _ (fun e => hok (.inr e))⟩) _ _ (hS9 t e)
        clear hS9 xz hbd z0 z1 z2 u0 u1 u2
        generalize ((v1.setCell ⟨pB, 0, none⟩ (.int .i64 k3)).setCell ⟨pB, 1, none⟩ (.int .i64 h3)).setCell ⟨pB, 2, none⟩ (.slice A3 n3 c3) = Wf at *
        refine wpAnyH_take (i := 18) (v := .int .i64 ee) rfl (by kernel_rfl) (by kernel_rfl) (by kernel_rfl) (fun _ _ _ h => h) (Or.inl ⟨by kernel_rfl, ?_⟩) hS ?_
        · intro w' hSw
          obtain ⟨s0, s1, s2, s3, s4⟩ := hSw
          go_simp
        try simp only [Act.put, List.getElem_toArray, List.getElem_cons_succ, List.getElem_cons_zero, List.setIfInBounds_toArray, List.set_cons_zero, List.set_cons_succ]
        refine wpAnyH_done (by kernel_rfl) ?_ _
        try simp only [List.setIfInBounds_toArray]
        try simp only [List.getElem_toArray, List.getElem_cons_succ, List.getElem_cons_zero, List.setIfInBounds_toArray, List.set_cons_zero, List.set_cons_succ]
        have HBF := Lib.hid (HI.out.below.trans (hbF.mono HI.out.below.size))
        have ym := HI.out.tb.keep hbF HI.out.tb.lt
        have yr := HI.out.rb.keep hbF HI.out.rb.lt
        have yd := HI.out.db.keep hbF HI.out.db.lt
        have HRX2 := Lib.hid (Rd.keep hbF _ _ HRX.out)
        have v0 := (hbF.cell (cell_lt HVC.out.1)).trans HVC.out.1
        have v1 := (hbF.cell (cell_lt HVC.out.2.1)).trans HVC.out.2.1
        have v2 := (hbF.cell (cell_lt HVC.out.2.2)).trans HVC.out.2.2
        have HB0F := Lib.hid (hB0w.out.trans (hbF.mono hB0w.out.size))
        have HRA := Lib.hid (RX.rd (hrdF _ rfl))
        clear hS HKS HAP hbF hpl hrdF m2 q0 e0 e1 e2
        obtain ⟨y0, y1, y2⟩ := xB.three
        obtain ⟨r0, r1, r2⟩ := yr.three
        have f0 := yr.frozen 0
        have f1 := yr.frozen 1
        have f2 := yr.frozen 2
        have lz := yr.lt
        clear xB
        by_cases hz2 : ee = 0
        · subst hz2
          have hbr : BdV (B + dlV) (apT en (xs.take j) nc) := bd_ap (HBE.out.mono HE.out.lo) (fun y hy => (HBM.out.arg (List.mem_of_mem_take hy)).mono HE.out.lo) HEE.out
          have HTC := Lib.hid (fun W' (h' : Below Wf.heap.size Wf W') => HIH.out x (List.mem_of_getElem? HXJ.out) cx (apT en (xs.take j) nc) (B + dlV) As ns cs (some ⟨bc, oc, none⟩) nm cm Ac nc cc pw _ _ W' (HE.out.mono (by unfold dlV; omega)) HWX.out hbr (by unfold dlV hiV at *; omega) hLh (HK.out.keep (HB0F.out.trans (h'.mono HB0F.out.size))) (HPW.out.keep (HB0F.out.trans (h'.mono HB0F.out.size)) HPW.out.lt) (Rd.keep h' _ _ HRX2.out) (Rd.keep h' _ _ HRA.out))
          have HME1 := Lib.hid (HME.out.trans (if_pos (by rw [hcl]; exact HEE.out)))
          rw [hcl] at HME1
          obtain ⟨e4, he4⟩ : ∃ e, tmV W x cx (apT en (xs.take j) nc) = e := ⟨_, rfl⟩
          have HE4 := Lib.hid he4
          rw [he4] at HTC
          clear hbr he4
          obtain ⟨m0, m1, m2⟩ := ym.three
          go_wp2_with fail
          have HKS : Hid (∀ w' : World, Below Wf.heap.size Wf w' → (fun w' => w'.cell? ⟨w.heap.size, 2, none⟩ = some (.slice (some ⟨ba, oa, none⟩) n c) ∧ w'.cell? ⟨ba, oa + j * 3, none⟩ = some (.int .i64 kx) ∧ w'.cell? ⟨ba, oa + j * 3 + 1, none⟩ = some (.int .i64 gx) ∧ w'.cell? ⟨ba, oa + j * 3 + 2, none⟩ = some (.slice Ax nx cx') ∧ w'.cell? ⟨pB, 0, none⟩ = some (.int .i64 k3) ∧ w'.cell? ⟨pB, 1, none⟩ = some (.int .i64 h3) ∧ w'.cell? ⟨pB, 2, none⟩ = some (.slice A3 n3 c3)) w') := Lib.hid fun w' h => ⟨(h.cell (cell_lt m2)).trans m2, (h.cell (cell_lt v0)).trans v0, (h.cell (cell_lt v1)).trans v1, (h.cell (cell_lt v2)).trans v2, (h.cell (cell_lt y0)).trans y0, (h.cell (cell_lt y1)).trans y1, (h.cell (cell_lt y2)).trans y2⟩
          have hbd : Below Wf.heap.size Wf Wf.drew := (Below.refl _ Wf).drew
          refine wp_region_held_drew (S := fun w' => w'.cell? ⟨w.heap.size, 2, none⟩ = some (.slice (some ⟨ba, oa, none⟩) n c) ∧ w'.cell? ⟨ba, oa + j * 3, none⟩ = some (.int .i64 kx) ∧ w'.cell? ⟨ba, oa + j * 3 + 1, none⟩ = some (.int .i64 gx) ∧ w'.cell? ⟨ba, oa + j * 3 + 2, none⟩ = some (.slice Ax nx cx') ∧ w'.cell? ⟨pB, 0, none⟩ = some (.int .i64 k3) ∧ w'.cell? ⟨pB, 1, none⟩ = some (.int .i64 h3) ∧ w'.cell? ⟨pB, 2, none⟩ = some (.slice A3 n3 c3)) (by kernel_rfl) (HKS.out _ hbd) (fun hS => ?_)
          simp only [List.size_toArray, List.length_cons, List.length_nil, Nat.reduceAdd]
          refine wpAnyH_take (i := 0) (v := .pointer (some ⟨pw, 0, none⟩)) rfl (by kernel_rfl) (by kernel_rfl) (by kernel_rfl) (fun _ _ _ h => h) (Or.inl ⟨by kernel_rfl, ?_⟩) hS ?_
          · intro w' hSw
            obtain ⟨s0, s1, s2, s3, s4, s5, s6⟩ := hSw
            go_simp
          try simp only [Act.put, List.getElem_toArray, List.getElem_cons_zero, List.setIfInBounds_toArray, List.set_cons_zero, List.set_cons_succ]
          refine wpAnyH_take (i := 1) (v := .slice Ac nc cc) rfl (by kernel_rfl) (by kernel_rfl) (by kernel_rfl) (fun _ _ _ h => h) (Or.inl ⟨by kernel_rfl, ?_⟩) hS ?_
          · intro w' hSw
            obtain ⟨s0, s1, s2, s3, s4, s5, s6⟩ := hSw
            go_simp
          try simp only [Act.put, List.getElem_toArray, List.getElem_cons_succ, List.getElem_cons_zero, List.setIfInBounds_toArray, List.set_cons_zero, List.set_cons_succ]
          refine wpAnyH_take (i := 2) (v := .pointer (some ⟨w.heap.size, 2, none⟩)) rfl (by kernel_rfl) (by kernel_rfl) (by kernel_rfl) (fun _ _ _ h => h) (Or.inl ⟨by kernel_rfl, ?_⟩) hS ?_
          · intro w' hSw
            obtain ⟨s0, s1, s2, s3, s4, s5, s6⟩ := hSw
            go_simp
          try simp only [Act.put, List.getElem_toArray, List.getElem_cons_succ, List.getElem_cons_zero, List.setIfInBounds_toArray, List.set_cons_zero, List.set_cons_succ]
          refine wpAnyH_take (i := 3) (v := .slice (some ⟨ba, oa, none⟩) n c) rfl (by kernel_rfl) (by kernel_rfl) (by kernel_rfl) (fun _ _ _ h => h) (Or.inl ⟨by kernel_rfl, ?_⟩) hS ?_
          · intro w' hSw
            obtain ⟨s0, s1, s2, s3, s4, s5, s6⟩ := hSw
            go_simp
          try simp only [Act.put, List.getElem_toArray, List.getElem_cons_succ, List.getElem_cons_zero, List.setIfInBounds_toArray, List.set_cons_zero, List.set_cons_succ]
          refine wpAnyH_take (i := 4) (v := .int .i64 j) rfl (by kernel_rfl) (by kernel_rfl) (by kernel_rfl) (fun _ _ _ h => h) (Or.inl ⟨by kernel_rfl, ?_⟩) hS ?_
          · intro w' hSw
            obtain ⟨s0, s1, s2, s3, s4, s5, s6⟩ := hSw
            go_simp
          try simp only [Act.put, List.getElem_toArray, List.getElem_cons_succ, List.getElem_cons_zero, List.setIfInBounds_toArray, List.set_cons_zero, List.set_cons_succ]
          refine wpAnyH_take (i := 5) (v := .pointer (some ⟨ba, oa + j * 3, none⟩)) rfl (by kernel_rfl) (by kernel_rfl) (by kernel_rfl) (fun _ _ _ h => h) (Or.inl ⟨by kernel_rfl, ?_⟩) hS ?_
          · intro w' hSw
            obtain ⟨s0, s1, s2, s3, s4, s5, s6⟩ := hSw
            go_simp
          try simp only [Act.put, List.getElem_toArray, List.getElem_cons_succ, List.getElem_cons_zero, List.setIfInBounds_toArray, List.set_cons_zero, List.set_cons_succ]
          refine wpAnyH_take (i := 6) (v := .agg #[.int .i64 kx, .int .i64 gx, .slice Ax nx cx']) rfl (by kernel_rfl) (by kernel_rfl) (by kernel_rfl) (fun _ _ _ h => h) (Or.inl ⟨by kernel_rfl, ?_⟩) hS ?_
          · intro w' hSw
            obtain ⟨s0, s1, s2, s3, s4, s5, s6⟩ := hSw
            go_simp
          try simp only [Act.put, List.getElem_toArray, List.getElem_cons_succ, List.getElem_cons_zero, List.setIfInBounds_toArray, List.set_cons_zero, List.set_cons_succ]
          refine wpAnyH_take (i := 7) (v := .agg #[.int .i64 k3, .int .i64 h3, .slice A3 n3 c3]) rfl (by kernel_rfl) (by kernel_rfl) (by kernel_rfl) (fun _ _ _ h => h) (Or.inl ⟨by kernel_rfl, ?_⟩) hS ?_
          · intro w' hSw
            obtain ⟨s0, s1, s2, s3, s4, s5, s6⟩ := hSw
            go_simp
          try simp only [Act.put, List.getElem_toArray, List.getElem_cons_succ, List.getElem_cons_zero, List.setIfInBounds_toArray, List.set_cons_zero, List.set_cons_succ]
          refine wpAnyH_ready (rs := [8]) (by kernel_rfl) (by simp) ?_
          refine AllReadyH.cons rfl (fun KN hK => ?_) AllReadyH.nil
          go_simp
          refine (HTC.out _ hbd).mono ?_
          rintro e w9 ⟨rfl, hb6⟩
          replace hbd : Below Wf.heap.size Wf w9 := hbd.trans (hb6.mono hbd.size)
          clear hb6
          refine hK.out _ _ (HKS.out _ hbd) (fun hS => ?_)
          clear hK KN
          try simp only [Act.put, List.getElem_toArray, List.getElem_cons_succ, List.getElem_cons_zero, List.setIfInBounds_toArray, List.set_cons_zero, List.set_cons_succ]
          refine wpAnyH_take (i := 9) (v := .int .i64 e4) rfl (by kernel_rfl) (by kernel_rfl) (by kernel_rfl) (fun _ _ _ h => h) (Or.inl ⟨by kernel_rfl, ?_⟩) hS ?_
          · intro w' hSw
            obtain ⟨s0, s1, s2, s3, s4, s5, s6⟩ := hSw
            go_simp
          try simp only [Act.put, List.getElem_toArray, List.getElem_cons_succ, List.getElem_cons_zero, List.setIfInBounds_toArray, List.set_cons_zero, List.set_cons_succ]
          refine wpAnyH_done (by kernel_rfl) ?_ _
          try simp only [List.setIfInBounds_toArray]
          try simp only [List.getElem_toArray, List.getElem_cons_succ, List.getElem_cons_zero, List.setIfInBounds_toArray, List.set_cons_zero, List.set_cons_succ]
          have HB9 := Lib.hid (HBF.out.trans (hbd.mono HBF.out.size))
          replace ym := ym.keep hbd ym.lt
          replace yr := yr.keep hbd yr.lt
          replace yd := yd.keep hbd yd.lt
          clear hS HKS hbd HTC r0 r1 r2 f0 f1 f2 lz m0 m1 m2 v0 v1 v2 y0 y1 y2
          obtain ⟨r0, r1, r2⟩ := yr.three
          have f0 := yr.frozen 0
          have f1 := yr.frozen 1
          have f2 := yr.frozen 2
          have lz := yr.lt
          by_cases hz4 : e4 = 0
          · subst hz4
            go_wp2_with fail
            go_roundw
            case measure => simp [Go.RowKit.intOf]; omega
            case rel =>
              refine ⟨j + 1, by omega, by go_num, Lib.hid ⟨ym, yr, yd, HB9.out, ?_⟩⟩
              rw [HME1.out, if_pos HE4.out, take_snocV HXJ.out]
          · have hd4 : (e4 != 0) = true := by simpa using hz4
            have HE5 := Lib.hid (show mtV W xs [] cx es = e4 by rw [HME1.out, if_neg (by rw [HE4.out]; exact hz4), HE4.out])
            have HEQ3 := Lib.hid (HEQ2.out.trans (if_neg (by rw [HE5.out]; exact hz4)))
            rw [HE5.out] at HEQ3
            go_wp2_with fail
            refine bodyPost_ret (v := .tuple #[.agg #[.int .i64 0, .int .i64 0, .slice none 0 0], .int .i64 e4]) (by simp [results, Tryz.results122, go_sem, r0, r1, r2]) rfl ?_
            first | exact spX_no HEQ3.out HB9.out _ (by omega) _ _ _ | exact spX_no0 HEQ3.out HB9.out
        · have hd2 : (ee != 0) = true := by simpa using hz2
          have HE5 := Lib.hid (show mtV W xs [] cx es = ee by rw [HME.out, if_neg (by rw [hcl, HEE.out]; exact hz2), hcl, HEE.out])
          have HEQ3 := Lib.hid (HEQ2.out.trans (if_neg (by rw [HE5.out]; exact hz2)))
          rw [HE5.out] at HEQ3
          go_wp2_with fail
          refine bodyPost_ret (v := .tuple #[.agg #[.int .i64 0, .int .i64 0, .slice none 0 0], .int .i64 ee]) (by simp [results, Tryz.results122, go_sem, r0, r1, r2]) rfl ?_
          first | exact spX_no HEQ3.out HBF.out _ (by omega) _ _ _ | exact spX_no0 HEQ3.out HBF.out
    · obtain rfl : j = n := by omega
      have heq := HI.out.eq
      rw [drop_all HX.out.len (Nat.le_refl _), mtV] at heq
      have HEQ3 := Lib.hid (HEQ2.out.trans (if_pos heq))
      have hB0w := Lib.hid (HB0.out.trans (HI.out.below.mono HB0.out.size))
      have hlz := HI.out.rb.lt
      have HAP : Hid (Calls Tryz.prog 99 #[.agg #[.int .i64 ke, .int .i64 he, .slice Ae ne ce], .agg #[.slice A j c, .int .i64 nc]] wr (RZn (fun b => Z b ∨ b = w.heap.size + 1) (apT tt xs nc) (apE tt xs nc) wr)) := Lib.hid
        (rApplyX (fun b z => by have := HI.out.below.size; rcases z with z | z; (have := HZ.out b z; omega); omega) (rx_any HRE.out hB0w.out (fun b z => by have := HB0.out.size; rcases z with z | z; (exact (HZ.out b z).1); omega)) (clv_rx HX.out hB0w.out (fun b z => by have := HB0.out.size; rcases z with z | z; (exact (HZ.out b z).1); omega)) (by have := ((myB_iff _).1 HMD.out.2.my).2.1; omega) (fun y hy => by have := ((myB_iff _).1 (HBM.out.arg hy).my).2.1; omega) (fun _ => lo_of HMD.out.2 (by decide)) (fun y hy _ => lo_of (HBM.out.arg hy) (by decide)))
      have HER := Lib.hid (show erV (apV tt xs nc) = apE tt xs nc by unfold apV; split; (rename_i h; rw [h]; rfl); rfl)
      have HOK := Lib.hid (show ∀ t, apV tt xs nc = .ok t → t = apT tt xs nc by intro t; unfold apV; split; (intro e; cases e; rfl); (intro e; cases e))
      rw [hcl] at HEQ3
      obtain ⟨R, hR⟩ : ∃ R, apV tt xs nc = R := ⟨_, rfl⟩
      rw [hR] at HEQ3 HER HOK
      rw [← HER.out] at HAP
      obtain ⟨m0, m1, m2⟩ := HI.out.tb.three
      have q1 : wr.cell? ⟨Bd, 1, none⟩ = some (.int .i64 ke) := HI.out.db.cell 1
      have q2 : wr.cell? ⟨Bd, 2, none⟩ = some (.int .i64 he) := HI.out.db.cell 2
      have q3 : wr.cell? ⟨Bd, 3, none⟩ = some (.slice Ae ne ce) := HI.out.db.cell 3
      clear heq hR
      go_wp2_with fail
      refine HAP.out.mono ?_
      rintro e w8 ⟨k4, h4, A4, n4, c4, rfl, hrd, hb8⟩
      have HB8 := Lib.hid (HI.out.below.trans (hb8.mono HI.out.below.size))
      have z2 := HI.out.rb.keep hb8 HI.out.rb.lt
      clear m0 m1 m2 q1 q2 q3 HAP
      obtain ⟨W9, hW9⟩ : ∃ W9, w8.alloc (.cells #[.int .i64 k4, .int .i64 h4, .slice A4 n4 c4] 44) = W9 := ⟨_, rfl⟩
      have hb9 : Below w8.heap.size w8 W9 := by rw [← hW9]; exact (Below.refl _ _).alloc (Nat.le_refl _) _
      have x9 : Box W9 w8.heap.size 44 #[.int .i64 k4, .int .i64 h4, .slice A4 n4 c4] := by rw [← hW9]; exact Box.new _ _ _
      have HB9 := Lib.hid (HB8.out.trans (hb9.mono HB8.out.size))
      have z9 := z2.keep hb9 z2.lt
      have HRD := Lib.hid (hrd.keepE (Z' := fun b => Z b ∨ b = w.heap.size + 1) hb9 (fun b z => .inl z))
      have y := z9.put3 (.int .i64 k4) (.int .i64 h4) (.slice A4 n4 c4)
      obtain ⟨p0, p1, p2⟩ := x9.three
      obtain ⟨y0, y1, y2⟩ := y.three
      obtain ⟨r0, r1, r2⟩ := z9.three
      have f0 := z9.frozen 0
      have f1 := z9.frozen 1
      have f2 := z9.frozen 2
      have lz := z9.lt
      have hne9 : w.heap.size + 1 ≠ w8.heap.size := by have := z2.lt; omega
      clear hrd hb8 hb9 z2 z9 x9 y
      go_wp2_with fail
      trace_state
      refine bodyPost_ret (v := .tuple #[.agg #[.int .i64 k4, .int .i64 h4, .slice A4 n4 c4], .int .i64 (erV R)]) (by simp [results, Tryz.results122, go_sem, y0, y1, y2]) rfl ?_
      rw [HEQ3.out]
      exact spX_mvZ (p := w.heap.size + 1) (fun t e => by
        rw [HOK.out t e]
        exact HRD.out) HB9.out (by omega) _ _ _
end Go.Proofs.YtloeainlpcnhnaaGreat
/-
  The document's own comes, term and Term of layer 10, of every term. No statement is proved here.
-/
namespace Go.Proofs.YtloeainlpcnhnaaGreat
open Go.ChangeShapes Go.WideShapes Go.ChangeAt Go.RowKit
set_option linter.unusedVariables false
set_option maxRecDepth 100000 in
set_option maxHeartbeats 16000000 in
theorem eComesMeC {W : WV} {h : Int} {xs : List T} (ih : ∀ x ∈ xs, TmE W x) : CoE W (.node 6 h xs) := by
  intro cx B As ns cs Am nm cm Ac nc cc pw vm w hE hbm hsum hlen hk hp hv
  obtain ⟨A, n, c, rfl, _, _, g3, g4, g5, g6⟩ := Rd_node.1 hv
  obtain ⟨W0, hW⟩ : ∃ W0, (w.alloc (.cells #[.int .i64 6, .int .i64 h, .slice A n c] 44)).alloc (.cells #[.int .i64 0, .int .i64 0, .slice none 0 0] 44) = W0 := ⟨_, rfl⟩
  have hb : Below w.heap.size w W0 := by rw [← hW]; exact ((Below.refl _ _).alloc (Nat.le_refl _) _).alloc (by simp) _
  have x1 : Box W0 w.heap.size 44 #[.int .i64 6, .int .i64 h, .slice A n c] := by rw [← hW]; exact (Box.new _ _ _).alloc _
  have x2 : Box W0 (w.heap.size + 1) 44 #[.int .i64 0, .int .i64 0, .slice none 0 0] := by rw [← hW]; exact (Box.new (w.alloc _) _ _).at (by simp)
  obtain ⟨d0, d1, d2⟩ := x1.three
  have HB := Lib.hid hb
  have HME := Lib.hid (eMetaC ih cx B As ns cs Am nm cm Ac nc cc pw A n c (fun b => b = w.heap.size + 1) w W0 hE hbm hsum hlen hb hk hp hv (fun b z => by have := x2.lt; omega))
  obtain ⟨R, hR⟩ : ∃ R, cmV W cx (.node 6 h xs) = R := ⟨_, rfl⟩
  rw [hR] at HME ⊢
  have X2 := Lib.hid x2
  clear hE hbm hsum hlen hk hp hb x1 x2 hv g3 g4 g5 g6 hR
  go_enter Tryz.func106, Tryz.ntmps106
  go_wp2_with fail
  try rw [hW]
  clear hW
  try go_wp2_with fail
  refine HME.out.mono ?_
  rintro e w8 ⟨k4, h4, A4, n4, c4, rfl, hrd, hb8⟩
  have HB8 := Lib.hid (HB.out.trans (hb8.mono HB.out.size))
  have z2 := X2.out.keep hb8 X2.out.lt
  clear HME d0 d1 d2
  obtain ⟨W9, hW9⟩ : ∃ W9, w8.alloc (.cells #[.int .i64 k4, .int .i64 h4, .slice A4 n4 c4] 44) = W9 := ⟨_, rfl⟩
  have hb9 : Below w8.heap.size w8 W9 := by rw [← hW9]; exact (Below.refl _ _).alloc (Nat.le_refl _) _
  have x9 : Box W9 w8.heap.size 44 #[.int .i64 k4, .int .i64 h4, .slice A4 n4 c4] := by rw [← hW9]; exact Box.new _ _ _
  have HB9 := Lib.hid (HB8.out.trans (hb9.mono HB8.out.size))
  have z9 := z2.keep hb9 z2.lt
  have HRD := Lib.hid (fun (t : T) (e : R = .ok t) => (hrd t e).keepE (Z' := fun b => b = w.heap.size + 1) hb9 (fun b z => .inl z))
  have y := z9.put3 (.int .i64 k4) (.int .i64 h4) (.slice A4 n4 c4)
  obtain ⟨p0, p1, p2⟩ := x9.three
  obtain ⟨y0, y1, y2⟩ := y.three
  obtain ⟨r0, r1, r2⟩ := z9.three
  have f0 := z9.frozen 0
  have f1 := z9.frozen 1
  have f2 := z9.frozen 2
  have lz := z9.lt
  have hne9 : w.heap.size + 1 ≠ w8.heap.size := by have := z2.lt; omega
  clear hrd hb8 hb9 z2 z9 x9 y
  go_wp2_with fail
  refine bodyPost_ret (v := .tuple #[.agg #[.int .i64 k4, .int .i64 h4, .slice A4 n4 c4], .int .i64 (erV R)]) (by simp [results, Tryz.results106, go_sem, y0, y1, y2]) rfl ?_
  exact spX_mv HRD.out HB9.out (by omega) _ _ _
theorem eComesC {W : WV} (m : T) (ih : ∀ x ∈ kdsE m, TmE W x) : CoE W m := by
  obtain ⟨k, h, xs⟩ := m
  by_cases h4 : k = 4
  · subst h4; exact eVarC ih
  by_cases h5 : k = 5
  · subst h5; exact eConC ih
  by_cases h6 : k = 6
  · subst h6; exact eComesMeC ih
  exact eNoC h4 h5 h6
theorem eTermAll {W : WV} (m : T) : TmE W m := eTermC (fun m ih => eComesC m ih) m
end Go.Proofs.YtloeainlpcnhnaaGreat
