/- Texts of one proof, put together. No statement is proved here. -/
import Derived.Test.YtbbjjdnnlnabaaaGreatPkEj
import Derived.Test.YtbbjjdnnlnabaaaGreatPkNj
import Derived.Test.YtbbjjdnnlnabaaaGreatZt
namespace Go.Proofs.YtbbjjdnnlnabaaaGreat
open Go.ChangeShapes Go.WideShapes Go.ChangeAt Go.RowKit
set_option linter.unusedVariables false
set_option linter.unusedSimpArgs false
set_option maxRecDepth 100000
set_option maxHeartbeats 8000000
def SzP (ds : List MP) : Prop := ∀ d ∈ ds, (∀ t ∈ d.1.1, nd t ≤ 1048576) ∧ nd d.1.2 ≤ 1048576
theorem SzP.ms {ds : List MP} (h : SzP ds) (i : Nat) : ∀ m ∈ msP (ds.take i), (∀ e ∈ m.1, nd e ≤ 1048576) ∧ nd m.2 ≤ 1048576 := fun m hm => by
  obtain ⟨d, hd, rfl⟩ := List.mem_map.1 hm
  exact h d (List.mem_of_mem_take hd)
theorem eDeC (W : WV) (d : MP) (As : Option Addr) (ns cs : Nat) (Am : Option Addr) (nm cm : Nat) (A1 : Option Addr) (n1 c1 : Nat) (k h : Int) (A2 : Option Addr) (n2 c2 : Nat) (w : World) (hs : DL w W.sg As ns cs) (hm : ML w W.ms Am nm cm) (hx : CLV w d.1.1 A1 n1 c1) (hr : Rd w d.1.2 (.agg #[.int .i64 k, .int .i64 h, .slice A2 n2 c2]))
    (hl : LoV W d.1.1) (hlt : myB d.1.2 = true → okT loV d.1.2) (hlen : n1 ≤ 1000000) (hz : SzE W d.1.1) (hzt : nd d.1.2 ≤ 1048576) :
    Calls Tryz.prog 22 #[.slice As ns cs, .slice Am nm cm, .agg #[.slice A1 n1 c1, .int .i64 k, .int .i64 h, .slice A2 n2 c2, .bool d.2]] w fun e w' => e = .returned (.int .i64 (deV W d)) ∧ Below w.heap.size w w' := by
  obtain ⟨W0, hW⟩ : ∃ W0, w.alloc (.cells #[.slice A1 n1 c1, .int .i64 k, .int .i64 h, .slice A2 n2 c2, .bool d.2] 42) = W0 := ⟨_, rfl⟩
  have hb : Below w.heap.size w W0 := by rw [← hW]; exact (Below.refl _ _).alloc (Nat.le_refl _) _
  have x0 : Box W0 w.heap.size 42 #[.slice A1 n1 c1, .int .i64 k, .int .i64 h, .slice A2 n2 c2, .bool d.2] := by rw [← hW]; exact Box.new _ _ _
  obtain ⟨hk, _⟩ := rdF_kind hr
  have hxl := hx.len
  have HCX := Lib.hid (eCtxC W [] d.1.1 As ns cs Am nm cm none 0 0 A1 n1 c1 W0 ⟨hs.keep hb, hm.keep hb, clv_nil _ _ _ (Nat.zero_le _)⟩ (hx.keep hb) (by rw [List.nil_append]; exact hl) (by rw [List.nil_append]; exact hz) (by omega))
  have HCT := Lib.hid (fun (W' : World) (h' : Below W0.heap.size W0 W') => eCheckTypeC W d.1.1 d.1.2 As ns cs Am nm cm A1 n1 c1 _ W' ⟨hs.keep (hb.trans (h'.mono hb.size)), hm.keep (hb.trans (h'.mono hb.size)), hx.keep (hb.trans (h'.mono hb.size))⟩ (Rd.keep (hb.trans (h'.mono hb.size)) _ _ hr) hl hz hzt hlt)
  have HE := Lib.hid (show deV W d = if ctV W [] d.1.1 = 0 then (if k = 2 ∧ (d.2 = true → n1 = 0) then ckTy W d.1.1 d.1.2 else 1) else ctV W [] d.1.1 by rw [← hk, ← hxl]; rfl)
  have HB := Lib.hid hb
  clear hs hm hx hr hl hlt hb hk hxl hz hzt
  generalize deV W d = R at *
  generalize ctV W [] d.1.1 = e1 at *
  generalize ckTy W d.1.1 d.1.2 = e2 at *
  generalize d.2 = p at *
  obtain ⟨a0, a1, a2, a3, a4⟩ : W0.cell? ⟨w.heap.size, 0, none⟩ = some (.slice A1 n1 c1) ∧ W0.cell? ⟨w.heap.size, 1, none⟩ = some (.int .i64 k) ∧ W0.cell? ⟨w.heap.size, 2, none⟩ = some (.int .i64 h) ∧ W0.cell? ⟨w.heap.size, 3, none⟩ = some (.slice A2 n2 c2) ∧ W0.cell? ⟨w.heap.size, 4, none⟩ = some (.bool p) := ⟨x0.cell 0, x0.cell 1, x0.cell 2, x0.cell 3, x0.cell 4⟩
  clear x0
  go_enter Tryz.func22, Tryz.ntmps22
  go_wp2_with fail
  try rw [hW]
  clear hW
  go_wp2_with fail
  refine HCX.out.mono ?_
  rintro e w1 ⟨rfl, hb1⟩
  replace a0 := (hb1.cell (cell_lt a0)).trans a0
  replace a1 := (hb1.cell (cell_lt a1)).trans a1
  replace a2 := (hb1.cell (cell_lt a2)).trans a2
  replace a3 := (hb1.cell (cell_lt a3)).trans a3
  replace a4 := (hb1.cell (cell_lt a4)).trans a4
  have HB1 := Lib.hid (HB.out.trans (hb1.mono HB.out.size))
  have HF := Lib.hid (HCT.out w1 hb1)
  clear hb1 HCX HCT
  by_cases hz : e1 = 0
  case' neg =>
    have dz : (e1 != 0) = true := by simpa using hz
    have HQ := Lib.hid (show e1 = R by rw [HE.out, if_neg hz])
    clear hz HE HF a0 a1 a2 a3 a4
    go_wp2_with fail
    go_ret
    exact ⟨ret_int HQ.out, HB1.out⟩
  have HQ := Lib.hid (show R = if k = 2 ∧ (p = true → n1 = 0) then e2 else 1 by rw [HE.out, if_pos hz])
  subst hz
  have dz : ((0 : Int) != 0) = false := by decide
  clear HE
  by_cases hk2 : k = 2
  case' neg =>
    have dk : (k != 2) = true := by simpa using hk2
    have HR := Lib.hid (show 1 = R by rw [HQ.out, if_neg (fun e => hk2 e.1)])
    clear hk2 HQ HF
    go_wp2_with fail
    go_ret
    exact ⟨ret_int HR.out, HB1.out⟩
  subst hk2
  have dk : ((2 : Int) != 2) = false := by decide
  by_cases hp : p = true ∧ 0 < n1
  · obtain ⟨rfl, h0⟩ := hp
    have dn : decide ((0 : Int) < (n1 : Int)) = true := by simp; omega
    have HR := Lib.hid (show 1 = R by rw [HQ.out, if_neg (fun e => by have := e.2 rfl; omega)])
    clear HQ HF
    go_wp2_with fail
    go_ret
    exact ⟨ret_int HR.out, HB1.out⟩
  · have HR := Lib.hid (show e2 = R by
      have hq : p = true → n1 = 0 := fun e => by
        by_cases h0 : n1 = 0
        · exact h0
        · exact absurd ⟨e, by omega⟩ hp
      rw [HQ.out, if_pos ⟨rfl, hq⟩])
    clear HQ
    cases p with
    | false =>
      clear hp
      go_wp2_with fail
      refine HF.out.mono ?_
      rintro e w2 ⟨rfl, hb2⟩
      have HB2 := Lib.hid (HB1.out.trans (hb2.mono HB1.out.size))
      clear hb2 HF
      go_wp2_with fail
      go_ret
      exact ⟨ret_int HR.out, HB2.out⟩
    | true =>
      have h0 : ¬ 0 < n1 := fun h => hp ⟨rfl, h⟩
      have dn : decide ((0 : Int) < (n1 : Int)) = false := by simp; omega
      clear hp
      go_wp2_with fail
      refine HF.out.mono ?_
      rintro e w2 ⟨rfl, hb2⟩
      have HB2 := Lib.hid (HB1.out.trans (hb2.mono HB1.out.size))
      clear hb2 HF
      go_wp2_with fail
      go_ret
      exact ⟨ret_int HR.out, HB2.out⟩
theorem eDcC (sg : List T) (ds : List MP) (As : Option Addr) (ns cs : Nat) (Am : Option Addr) (nm cm : Nat) (w : World) (hs : DL w sg As ns cs) (hm : PL w ds Am nm cm) (hls : LwV sg) (hlp : LoP ds) (hz : ∀ t ∈ sg, nd t ≤ 1048576) (hzp : SzP ds) :
    Calls Tryz.prog 10 #[.slice As ns cs, .slice Am nm cm] w (FiE (dcV sg ds) w) := by
  have hcap := hm.cap
  have hle := hm.le
  have hln := hm.len
  unfold maxLen at hcap
  have HS := Lib.hid hs; clear hs
  have HM := Lib.hid hm; clear hm
  have HLS := Lib.hid hls; clear hls
  have HLP := Lib.hid hlp; clear hlp
  have HZ := Lib.hid hz; clear hz
  have HZP := Lib.hid hzp; clear hzp
  by_cases h40 : 40 < nm
  · have hd : decide ((nm : Int) > 40) = true := by simp; omega
    have HQ := Lib.hid (show dcV sg ds = (0, 4) by rw [dcV, if_pos (by omega)])
    go_enter Tryz.func10, Tryz.ntmps10
    go_wp2_with fail
    refine bodyPost_ret (v := .tuple #[.int .i64 0, .int .i64 4]) (by simp [results, Tryz.results10, go_sem]) rfl ?_
    exact FiE.of0 HQ.out (Below.refl _ _)
  have hd : decide ((nm : Int) > 40) = false := by simp; omega
  obtain ⟨Q, hQ⟩ : ∃ Q, fiG (fun i d => deV ⟨sg, msP (ds.take i)⟩ d) 0 ds = Q := ⟨_, rfl⟩
  have HR := Lib.hid (show dcV sg ds = Q by rw [dcV, if_neg (by omega), hQ])
  have HQ0 := Lib.hid hQ; clear hQ
  go_enter Tryz.func10, Tryz.ntmps10
  go_wp2_with fail
  go_loopw [6] (fun i wr => ∃ (j : Nat), j ≤ nm ∧ i = .int .i64 j ∧ Hid (fiG (fun i d => deV ⟨sg, msP (ds.take i)⟩ d) j (ds.drop j) = Q) ∧ Hid (Below w.heap.size w wr)) (fun i _ => nm - (Go.RowKit.intOf i).toNat)
  case atStart => exact ⟨0, Nat.zero_le _, rfl, Lib.hid (by simpa using HQ0.out), Lib.hid (Below.refl _ _)⟩
  case round =>
    obtain ⟨j, hj, rfl, HI, HB⟩ := hrel
    by_cases hlt : j < nm
    · obtain ⟨⟨⟨cxd, td⟩, p⟩, ht⟩ := at_of HM.out.len hlt
      obtain ⟨b, o, A1, n1, c1, k, g, A2, n2, c2, rfl, f0, f1, f2, f3, f4, hl1, hr1⟩ := (HM.out.keep HB.out).at_ j _ ht
      dsimp only at f4 hl1 hr1
      have hi0 : (0 : Int) ≤ j := by omega
      have hi1 : (j : Int) < nm := by omega
      have hj3 : (j : Int) ≤ (cm : Int) := by omega
      have dj : decide ((j : Int) < (nm : Int)) = true := by simp; omega
      have hsj : IntKind.i64.wrap ((j : Int) + 1) = ((j + 1 : Nat) : Int) := by rw [wrapEq, wrap_small (by omega) (by omega)]; omega
      obtain ⟨l1, l2, l3⟩ := LoP.at_ HLP.out ht
      have hzd := HZP.out _ (List.mem_of_getElem? ht)
      have hnl := hl1.len
      dsimp only at l1 l2 l3 hzd
      have hml := (HM.out.take (Nat.le_of_lt hlt)).ml
      have HD := Lib.hid (fun (W' : World) (h' : Below wr.heap.size wr W') => eDeC ⟨sg, msP (ds.take j)⟩ ((cxd, td), p) As ns cs (some ⟨b, o, none⟩) j cm A1 n1 c1 k g A2 n2 c2 W' (HS.out.keep (HB.out.trans (h'.mono HB.out.size))) (hml.keep (HB.out.trans (h'.mono HB.out.size))) (hl1.keep h') (Rd.keep h' _ _ hr1) ⟨HLS.out, (LoP.take HLP.out j).ms, l1⟩ l2 (by omega) ⟨HZ.out, HZP.out.ms j, hzd.1⟩ hzd.2)
      obtain ⟨R2, hR2⟩ : ∃ R, deV ⟨sg, msP (ds.take j)⟩ ((cxd, td), p) = R := ⟨_, rfl⟩
      rw [hR2] at HD
      have HI' := HI.out
      rw [drop_at ht, fiG, hR2] at HI'
      have HI2 := Lib.hid HI'
      clear HI' HI hR2 ht hl1 hr1 l1 l2 l3 hzd hml hnl
      go_wp2_with fail
      have HKS : Hid (∀ w' : World, Below wr.heap.size wr w' → (fun w' => w'.cell? ⟨b, o + j * 5, none⟩ = some (.slice A1 n1 c1) ∧ w'.cell? ⟨b, o + j * 5 + 1, none⟩ = some (.int .i64 k) ∧ w'.cell? ⟨b, o + j * 5 + 2, none⟩ = some (.int .i64 g) ∧ w'.cell? ⟨b, o + j * 5 + 3, none⟩ = some (.slice A2 n2 c2) ∧ w'.cell? ⟨b, o + j * 5 + 4, none⟩ = some (.bool p)) w') := Lib.hid fun w' h => ⟨(h.cell (cell_lt f0)).trans f0, (h.cell (cell_lt f1)).trans f1, (h.cell (cell_lt f2)).trans f2, (h.cell (cell_lt f3)).trans f3, (h.cell (cell_lt f4)).trans f4⟩
      have hbd : Below wr.heap.size wr wr.drew := (Below.refl _ wr).drew
      refine zzR HKS hbd (fun hS => ?_)
      simp only [List.size_toArray, List.length_cons, List.length_nil, Nat.reduceAdd]
      refine zzT (i := 0) (v := .slice As ns cs) rfl hS ?_
      try simp only [Act.put, zzP]
      refine zzT (i := 1) (v := .slice (some ⟨b, o, none⟩) nm cm) rfl hS ?_
      try simp only [Act.put, zzP]
      refine zzT (i := 2) (v := .int .i64 j) rfl hS ?_
      try simp only [Act.put, zzP]
      refine zzT (i := 3) (v := .slice (some ⟨b, o, none⟩) j cm) rfl hS ?_
      try simp only [Act.put, zzP]
      refine zzT (i := 4) (v := .slice (some ⟨b, o, none⟩) nm cm) rfl hS ?_
      try simp only [Act.put, zzP]
      refine zzT (i := 5) (v := .int .i64 j) rfl hS ?_
      try simp only [Act.put, zzP]
      refine zzT (i := 6) (v := .pointer (some ⟨b, o + j * 5, none⟩)) rfl hS ?_
      try simp only [Act.put, zzP]
      refine zzT (i := 7) (v := .agg #[.slice A1 n1 c1, .int .i64 k, .int .i64 g, .slice A2 n2 c2, .bool p]) rfl hS ?_
      try simp only [Act.put, zzP]
      refine wpAnyH_ready (rs := [8]) (by kernel_rfl) (by simp) ?_
      refine AllReadyH.cons rfl (fun KN hK => ?_) AllReadyH.nil
      go_simp
      refine (HD.out _ hbd).mono ?_
      rintro e w2 ⟨rfl, hb6⟩
      replace hbd : Below wr.heap.size wr w2 := hbd.trans (hb6.mono hbd.size)
      clear hb6
      refine hK.out _ _ (HKS.out _ hbd) (fun hS => ?_)
      clear hK KN
      try simp only [Act.put, zzP]
      refine zzT (i := 9) (v := .int .i64 R2) rfl hS ?_
      try simp only [Act.put, zzP]
      refine wpAnyH_done (by kernel_rfl) ?_ _
      try simp only [List.setIfInBounds_toArray]
      try simp only [zzP]
      have HB2 := Lib.hid (HB.out.trans (hbd.mono HB.out.size))
      clear hS HKS hbd HD f0 f1 f2 f3 f4 hj3 HB
      by_cases hz : R2 = 0
      · subst hz
        have HF := Lib.hid (HI2.out)
        rw [if_pos rfl] at HF
        go_wp2_with fail
        go_roundw
        case measure => simp [Go.RowKit.intOf]; omega
        case rel => exact ⟨j + 1, by omega, by go_num, HF, HB2⟩
      · have hd2 : (R2 != 0) = true := by simpa using hz
        have HF := Lib.hid (show Q = (j, R2) by rw [← HI2.out, if_neg hz])
        go_wp2_with fail
        refine bodyPost_ret (v := .tuple #[.int .i64 (j : Int), .int .i64 R2]) (by simp [results, Tryz.results10, go_sem]) rfl ?_
        exact FiE.of (HR.out.trans HF.out) HB2.out
    · obtain rfl : j = nm := by omega
      have dj : decide ((j : Int) < (j : Int)) = false := by simp
      have HF := Lib.hid (show Q = (0, 0) by rw [← HI.out, List.drop_eq_nil_of_le (by omega), fiG])
      go_wp2_with fail
      refine bodyPost_ret (v := .tuple #[.int .i64 0, .int .i64 0]) (by simp [results, Tryz.results10, go_sem]) rfl ?_
      exact FiE.of0 (HR.out.trans HF.out) HB.out
end Go.Proofs.YtbbjjdnnlnabaaaGreat
