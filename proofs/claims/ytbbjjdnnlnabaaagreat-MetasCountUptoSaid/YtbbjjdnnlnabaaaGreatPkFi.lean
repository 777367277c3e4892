/- Texts of one proof, put together. No statement is proved here. -/
import Derived.Test.YtbbjjdnnlnabaaaGreatPkFh
import Derived.Test.YtbbjjdnnlnabaaaGreatPkNl
import Derived.Test.YtbbjjdnnlnabaaaGreatPkFg
import Derived.Deep.AppendLies
import Derived.Test.YtbbjjdnnlnabaaaGreatZt
namespace Go.Proofs.YtbbjjdnnlnabaaaGreat
open Go.ChangeShapes Go.WideShapes Go.ChangeAt Go.RowKit
set_option linter.unusedVariables false
set_option linter.unusedSimpArgs false
set_option maxRecDepth 100000
set_option maxHeartbeats 16000000
theorem eSuC (sg : List T) (l : List MP) (ext : List T) (ds : List MP) (theta : List T) (As : Option Addr) (ns cs : Nat) (Am : Option Addr) (nm cm : Nat) (Ac : Option Addr) (nc cc : Nat) (Ad : Option Addr) (ndd cd : Nat) (At : Option Addr) (nt ct : Nat) (w : World) (hs : DL w sg As ns cs) (hm : PL w l Am nm cm) (hx : CLV w ext Ac nc cc) (hd : PL w ds Ad ndd cd) (ht : CLV w theta At nt ct)
    (hl : LoV ⟨sg, msP l⟩ ext) (hld : LoP ds) (hlt : LwV theta) (hnc : nc ≤ 90000) (hz : SzE ⟨sg, msP l⟩ ext) (hzp : SzP ds) (hzt : ∀ x ∈ theta, nd x ≤ 1048576) :
    Calls Tryz.prog 16 #[.slice As ns cs, .slice Am nm cm, .slice Ac nc cc, .slice Ad ndd cd, .slice At nt ct] w fun e w' => e = .returned (.int .i64 (suV sg l ext ds theta)) ∧ Below w.heap.size w w' := by
  have hdcap := hd.cap
  have hdle := hd.le
  have hdln := hd.len
  have htcap := ht.cap
  have htle := ht.le
  have htln := ht.len
  unfold maxLen at hdcap htcap
  have HS := Lib.hid hs; clear hs
  have HM := Lib.hid hm; clear hm
  have HX := Lib.hid hx; clear hx
  have HDL := Lib.hid hd; clear hd
  have HT := Lib.hid ht; clear ht
  have HL := Lib.hid hl; clear hl
  have HLD := Lib.hid hld; clear hld
  have HLT := Lib.hid hlt; clear hlt
  have HZ := Lib.hid hz; clear hz
  have HZP := Lib.hid hzp; clear hzp
  have HZT := Lib.hid hzt; clear hzt
  by_cases h40 : 40 < ndd
  · have hd : decide ((ndd : Int) > 40) = true := by simp; omega
    have HQ := Lib.hid (show 4 = suV sg l ext ds theta by rw [suV, if_pos (by omega)])
    go_enter Tryz.func16, Tryz.ntmps16
    go_wp2_with fail
    go_ret
    exact ⟨ret_int HQ.out, Below.refl _ _⟩
  have hd : decide ((ndd : Int) > 40) = false := by simp; omega
  by_cases hne : nt = ndd
  case' neg =>
    have hd2 : ((nt : Int) != (ndd : Int)) = true := by simp; omega
    have HQ := Lib.hid (show 3 = suV sg l ext ds theta by rw [suV, if_neg (by omega), if_neg (by omega)])
    go_enter Tryz.func16, Tryz.ntmps16
    go_wp2_with fail
    go_ret
    exact ⟨ret_int HQ.out, Below.refl _ _⟩
  subst hne
  obtain ⟨n, hn⟩ : ∃ n, n = nt := ⟨nt, rfl⟩
  subst hn
  obtain ⟨Q, hQ⟩ : ∃ Q, fiG (fun i t => plV ⟨sg, msP l⟩ l ext (theta.take i) (ds.getD i noMP) t) 0 theta = Q := ⟨_, rfl⟩
  have HR := Lib.hid (show suV sg l ext ds theta = Q.2 by rw [suV, if_neg (by omega), if_pos (by omega), hQ])
  have HQ0 := Lib.hid hQ; clear hQ
  go_enter Tryz.func16, Tryz.ntmps16
  go_wp2_with fail
  go_loopw [11] (fun i wr => ∃ (j : Nat), j ≤ n ∧ i = .int .i64 j ∧ Hid (fiG (fun i t => plV ⟨sg, msP l⟩ l ext (theta.take i) (ds.getD i noMP) t) j (theta.drop j) = Q) ∧ Hid (Below w.heap.size w wr)) (fun i _ => n - (Go.RowKit.intOf i).toNat)
  case atStart => exact ⟨0, Nat.zero_le _, rfl, Lib.hid (by simpa using HQ0.out), Lib.hid (Below.refl _ _)⟩
  case round =>
    obtain ⟨j, hj, rfl, HI, HB⟩ := hrel
    by_cases hlt : j < n
    · obtain ⟨⟨⟨cxd, td⟩, p⟩, htd⟩ := at_of HDL.out.len hlt
      obtain ⟨x, htx⟩ := at_of HT.out.len hlt
      obtain ⟨bd, od, A1, n1, c1, k, g, A2, n2, c2, rfl, f0, f1, f2, f3, f4, hl1, hr1⟩ := (HDL.out.keep HB.out).at_ j _ htd
      obtain ⟨bt, ot, kx, gx, Ax, nx, cx, rfl, u0, u1, u2, hrx⟩ := ((HT.out.keep HB.out).at_ j x htx).full
      dsimp only at f4 hl1 hr1
      have hi0 : (0 : Int) ≤ j := by omega
      have hi1 : (j : Int) < n := by omega
      have hj3 : (j : Int) ≤ (ct : Int) := by omega
      have dj : decide ((j : Int) < (n : Int)) = true := by simp; omega
      have hsj : IntKind.i64.wrap ((j : Int) + 1) = ((j + 1 : Nat) : Int) := by rw [wrapEq, wrap_small (by omega) (by omega)]; omega
      obtain ⟨l1, l2, l3⟩ := LoP.at_ HLD.out htd
      have hzd := HZP.out _ (List.mem_of_getElem? htd)
      have hnl := hl1.len
      dsimp only at l1 l2 l3 hzd
      have hgd : ds.getD j noMP = ((cxd, td), p) := by rw [List.getD_eq_getElem?_getD, htd]; rfl
      have hthi : ThI (theta.take j) wr (some ⟨bt, ot, none⟩) j ct := ⟨fun y hy hm => okT_mono (by unfold loV; omega) _ (HLT.out y (List.mem_of_mem_take hy) hm), by rw [List.length_take, htln]; omega, by omega, HT.out.cap, fun q u hu => by
        have hq : q < j := by have := (List.getElem?_eq_some_iff.1 hu).1; rw [List.length_take] at this; omega
        rw [List.getElem?_take_of_lt hq] at hu
        exact (HT.out.keep HB.out).at_ q u hu⟩
      have HD := Lib.hid (fun (W' : World) (h' : Below wr.heap.size wr W') => ePlC sg l ext (theta.take j) ((cxd, td), p) x As ns cs Am nm cm Ac nc cc (some ⟨bt, ot, none⟩) j ct A1 n1 c1 k g A2 n2 c2 kx gx Ax nx cx W' (HS.out.keep (HB.out.trans (h'.mono HB.out.size))) (HM.out.keep (HB.out.trans (h'.mono HB.out.size))) (HX.out.keep (HB.out.trans (h'.mono HB.out.size))) (hthi.keep h') (hl1.keep h') (Rd.keep h' _ _ hr1) (Rd.keep h' _ _ hrx) HL.out l1 l2 (HLT.out.at_ htx) (by omega) hnc HZ.out (fun y hy => HZT.out y (List.mem_of_mem_take hy)) hzd.1 hzd.2 (HZT.out x (List.mem_of_getElem? htx)))
      obtain ⟨R2, hR2⟩ : ∃ R, plV ⟨sg, msP l⟩ l ext (theta.take j) ((cxd, td), p) x = R := ⟨_, rfl⟩
      rw [hR2] at HD
      have HI' := HI.out
      rw [drop_at htx, fiG, hgd, hR2] at HI'
      have HI2 := Lib.hid HI'
      clear HI' HI hR2 htd htx hl1 hr1 l1 l2 l3 hzd hnl hgd hthi hrx
      go_wp2_with fail
      have HKS : Hid (∀ w' : World, Below wr.heap.size wr w' → (fun w' => w'.cell? ⟨bd, od + j * 5, none⟩ = some (.slice A1 n1 c1) ∧ w'.cell? ⟨bd, od + j * 5 + 1, none⟩ = some (.int .i64 k) ∧ w'.cell? ⟨bd, od + j * 5 + 2, none⟩ = some (.int .i64 g) ∧ w'.cell? ⟨bd, od + j * 5 + 3, none⟩ = some (.slice A2 n2 c2) ∧ w'.cell? ⟨bd, od + j * 5 + 4, none⟩ = some (.bool p) ∧ w'.cell? ⟨bt, ot + j * 3, none⟩ = some (.int .i64 kx) ∧ w'.cell? ⟨bt, ot + j * 3 + 1, none⟩ = some (.int .i64 gx) ∧ w'.cell? ⟨bt, ot + j * 3 + 2, none⟩ = some (.slice Ax nx cx)) w') := Lib.hid fun w' h => ⟨(h.cell (cell_lt f0)).trans f0, (h.cell (cell_lt f1)).trans f1, (h.cell (cell_lt f2)).trans f2, (h.cell (cell_lt f3)).trans f3, (h.cell (cell_lt f4)).trans f4, (h.cell (cell_lt u0)).trans u0, (h.cell (cell_lt u1)).trans u1, (h.cell (cell_lt u2)).trans u2⟩
      have hbd : Below wr.heap.size wr wr.drew := (Below.refl _ wr).drew
      refine zzR HKS hbd (fun hS => ?_)
      simp only [List.size_toArray, List.length_cons, List.length_nil, Nat.reduceAdd]
      refine zzT (i := 0) (v := .slice As ns cs) rfl hS ?_
      try simp only [Act.put, zzP]
      refine zzT (i := 1) (v := .slice Am nm cm) rfl hS ?_
      try simp only [Act.put, zzP]
      refine zzT (i := 2) (v := .slice Ac nc cc) rfl hS ?_
      try simp only [Act.put, zzP]
      refine zzT (i := 3) (v := .slice (some ⟨bd, od, none⟩) n cd) rfl hS ?_
      try simp only [Act.put, zzP]
      refine zzT (i := 4) (v := .int .i64 j) rfl hS ?_
      try simp only [Act.put, zzP]
      refine zzT (i := 5) (v := .pointer (some ⟨bd, od + j * 5, none⟩)) rfl hS ?_
      try simp only [Act.put, zzP]
      refine zzT (i := 6) (v := .agg #[.slice A1 n1 c1, .int .i64 k, .int .i64 g, .slice A2 n2 c2, .bool p]) rfl hS ?_
      try simp only [Act.put, zzP]
      refine zzT (i := 7) (v := .slice (some ⟨bt, ot, none⟩) n ct) rfl hS ?_
      try simp only [Act.put, zzP]
      refine zzT (i := 8) (v := .int .i64 j) rfl hS ?_
      try simp only [Act.put, zzP]
      refine zzT (i := 9) (v := .slice (some ⟨bt, ot, none⟩) j ct) rfl hS ?_
      try simp only [Act.put, zzP]
      refine zzT (i := 10) (v := .slice (some ⟨bt, ot, none⟩) n ct) rfl hS ?_
      try simp only [Act.put, zzP]
      refine zzT (i := 11) (v := .int .i64 j) rfl hS ?_
      try simp only [Act.put, zzP]
      refine zzT (i := 12) (v := .pointer (some ⟨bt, ot + j * 3, none⟩)) rfl hS ?_
      try simp only [Act.put, zzP]
      refine zzT (i := 13) (v := .agg #[.int .i64 kx, .int .i64 gx, .slice Ax nx cx]) rfl hS ?_
      try simp only [Act.put, zzP]
      refine wpAnyH_ready (rs := [14]) (by kernel_rfl) (by simp) ?_
      refine AllReadyH.cons rfl (fun KN hK => ?_) AllReadyH.nil
      go_simp
      refine (HD.out _ hbd).mono ?_
      rintro e w2 ⟨rfl, hb6⟩
      replace hbd : Below wr.heap.size wr w2 := hbd.trans (hb6.mono hbd.size)
      clear hb6
      refine hK.out _ _ (HKS.out _ hbd) (fun hS => ?_)
      clear hK KN
      try simp only [Act.put, zzP]
      refine zzT (i := 15) (v := .int .i64 R2) rfl hS ?_
      try simp only [Act.put, zzP]
      refine wpAnyH_done (by kernel_rfl) ?_ _
      try simp only [List.setIfInBounds_toArray]
      try simp only [zzP]
      have HB2 := Lib.hid (HB.out.trans (hbd.mono HB.out.size))
      clear hS HKS hbd HD f0 f1 f2 f3 f4 u0 u1 u2 hj3 HB
      by_cases hz : R2 = 0
      · subst hz
        have HF := HI2
        rw [if_pos rfl] at HF
        go_wp2_with fail
        go_roundw
        case measure => simp [Go.RowKit.intOf]; omega
        case rel => exact ⟨j + 1, by omega, by go_num, HF, HB2⟩
      · have hd2 : (R2 != 0) = true := by simpa using hz
        have HF := Lib.hid (show R2 = suV sg l ext ds theta by rw [HR.out, ← HI2.out, if_neg hz])
        go_wp2_with fail
        go_ret
        exact ⟨ret_int HF.out, HB2.out⟩
    · obtain rfl : j = n := by omega
      have dj : decide ((j : Int) < (j : Int)) = false := by simp
      have HF := Lib.hid (show 0 = suV sg l ext ds theta by rw [HR.out, ← HI.out, drop_all htln (by omega), fiG])
      go_wp2_with fail
      go_ret
      exact ⟨ret_int HF.out, HB.out⟩
theorem push_oneV {ty sl : TypeId} {i0 : TypeInfo} {z : Value} {by_ : Nat} (hu : Tryz.prog.underlying sl = some (.slice ty)) (hi : Tryz.prog.info? ty = some i0) (hz : i0.zero = some z) (hs : i0.size = 1) (hby : i0.bytes = by_) (hzc : z.cells.size = 1) (hb8 : by_ ≤ 8)
    {w : World} {base n c : Nat} {A : Option Addr} {vs : List Value} {x : Value} (h : w.ownsRow base ty 1 (.slice A n c) n vs) (hx : x.oneCell' = true) (hbase : base ≤ w.heap.size) (hn : n ≤ 1000) :
    ∃ g cap w3, (Builtin.append_ #[sl, sl] sl #[.slice A n c, .slice (some ⟨w.heap.size, 0, none⟩) 1 1]).run Tryz.prog (w.alloc (.cells #[x] ty)) = .ok (.slice (some ⟨g, 0, none⟩) (n + 1) cap) w3 ∧ w3.ownsRow base ty 1 (.slice (some ⟨g, 0, none⟩) (n + 1) cap) (n + 1) (vs ++ [x]) ∧ Below base w w3 := by
  have hb1 : Below base w (w.alloc (.cells #[x] ty)) := (Below.refl _ _).alloc hbase _
  have hr1 := h.alloc (.cells #[x] ty)
  obtain ⟨g, cap, w4, hrun, how4, hgr, _, _⟩ := run_append_lies (P := Tryz.prog) (w.alloc (.cells #[x] ty)) sl sl base ty i0 z 1 by_ hu hi hz hs hby hzc (by omega) (.slice A n c) n vs hr1 ⟨w.heap.size, 0, none⟩ 1 1 [x] rfl
    (World.news_of_block (heap_alloc_new w _)) (by intro u hu; simp at hu; subst hu; exact hx) (by omega) (by unfold maxLen; omega) (by have : (n + 1) * by_ ≤ 1001 * 8 := Nat.mul_le_mul (by omega) hb8; omega) (Nat.le_trans hbase hb1.size) _ rfl
  exact ⟨g, cap, w4, hrun, how4, hb1.grown hgr (Nat.le_trans hbase hb1.size) fun r hr => (hr1.lt r hr).1⟩
def RkE (f : MP → Value) (ds : List MP) (n : Nat) (w : World) (e : Ending) (w' : World) : Prop :=
  ∃ A c, e = .returned (.slice A n c) ∧ (∀ i d, ds[i]? = some d → ∃ g, A = some ⟨g, 0, none⟩ ∧ w'.cell? ⟨g, i, none⟩ = some (f d)) ∧ Below w.heap.size w w'
theorem RkE.of {f : MP → Value} {ds : List MP} {n c : Nat} {A : Option Addr} {w w' : World} {ty : TypeId} (hl : ds.length = n) (hr : w'.ownsRow w.heap.size ty 1 (.slice A n c) n ((ds.take n).map f)) (hb : Below w.heap.size w w') : RkE f ds n w (.returned (.slice A n c)) w' := by
  refine ⟨A, c, rfl, fun i d hd => ?_, hb⟩
  have hi := (List.getElem?_eq_some_iff.1 hd).1
  rw [List.take_of_length_le (by omega)] at hr
  rcases hr.2 with ⟨e, h0⟩ | ⟨g, cap, cur, e, _⟩
  · omega
  · cases e
    have := hr.cells (g := g) rfl i (f d) (by rw [List.getElem?_map, hd]; rfl)
    rw [addr_add, Nat.zero_add] at this
    exact ⟨g, rfl, this⟩
theorem take_mapF {f : MP → Value} {ds : List MP} {j : Nat} {d : MP} (hd : ds[j]? = some d) : (ds.take (j + 1)).map f = (ds.take j).map f ++ [f d] := by
  rw [List.take_add_one, hd, List.map_append]; rfl
theorem eSzC (ds : List MP) (A : Option Addr) (n c : Nat) (w : World) (hx : PL w ds A n c) (hn : n ≤ 1000) :
    Calls Tryz.prog 12 #[.slice A n c] w (RkE szF ds n w) := by
  have hle := hx.le
  have hcap := hx.cap
  have hlen := hx.len
  unfold maxLen at hcap
  have HX := Lib.hid hx
  have HLN := Lib.hid hlen
  clear hx hlen
  obtain ⟨i0, hi, hz0, hz1, hz2⟩ := info_parts infoIntN
  have HPU := Lib.hid (fun (W : World) (j : Nat) (A' : Option Addr) (c' : Nat) (vs : List Value) (x : Value) (h : W.ownsRow w.heap.size 3 1 (.slice A' j c') j vs) (hx1 : x.oneCell' = true) (hb : w.heap.size ≤ W.heap.size) (hj : j ≤ 1000) => push_oneV Tryz.underlying32 hi hz0 hz1 hz2 rfl (by omega) h hx1 hb hj)
  clear hi hz0 hz1 hz2
  go_enter Tryz.func12, Tryz.ntmps12
  go_wp2_with fail
  go_loopw [3, 4] (fun v i wr => ∃ (j : Nat) (A' : Option Addr) (c' : Nat), j ≤ n ∧ i = .int .i64 j ∧ v = .slice A' j c' ∧ Hid (wr.ownsRow w.heap.size 3 1 (.slice A' j c') j ((ds.take j).map szF)) ∧ Hid (Below w.heap.size w wr)) (fun _ i _ => n - (Go.RowKit.intOf i).toNat)
  case atStart => exact ⟨0, none, 0, Nat.zero_le _, rfl, rfl, Lib.hid (World.ownsRow_nil _ _ _ _), Lib.hid (Below.refl _ _)⟩
  case round =>
    obtain ⟨j, A', c', hj, rfl, rfl, HR, HB⟩ := hrel
    by_cases hlt : j < n
    · obtain ⟨d, hd⟩ := at_of HLN.out hlt
      obtain ⟨b, o, A1, n1, c1, k, g, A2, n2, c2, rfl, e0, e1, e2, e3, e4, hl, _⟩ := (HX.out.at_ j d hd).keep HB.out
      have hi0 : (0 : Int) ≤ j := by omega
      have hi1 : (j : Int) < n := by omega
      have hln := hl.len
      obtain ⟨g7, cap7, w7, hrun7, hrow7, hb7⟩ := HPU.out wr j A' c' _ (.int .i64 (n1 : Int)) HR.out rfl HB.out.size (by omega)
      have HR7 : Hid (w7.ownsRow w.heap.size 3 1 (.slice (some ⟨g7, 0, none⟩) (j + 1) cap7) (j + 1) ((ds.take (j + 1)).map szF)) := Lib.hid (by
        rw [take_mapF hd, show szF d = .int .i64 (n1 : Int) from (by rw [szF, hln])]
        exact hrow7)
      have HB7 := Lib.hid (HB.out.trans hb7)
      clear hb7 hrow7 hl hd hln HR HPU
      go_wp2_with (at_builtin; first | (refine Lib.wpList_append_run _ rfl _ _ _ _ rfl _ _ rfl rfl _ _ hrun7 ?_; clear hrun7))
      go_roundw
      case rel => exact ⟨j + 1, _, _, hlt, by go_num, rfl, HR7, HB7⟩
      case measure => simp [Go.RowKit.intOf]; omega
    · obtain rfl : j = n := by omega
      go_wp2_with fail
      go_ret
      exact RkE.of HLN.out HR.out HB.out
theorem ePaC (ds : List MP) (A : Option Addr) (n c : Nat) (w : World) (hx : PL w ds A n c) (hn : n ≤ 1000) :
    Calls Tryz.prog 14 #[.slice A n c] w (RkE paF ds n w) := by
  have hle := hx.le
  have hcap := hx.cap
  have hlen := hx.len
  unfold maxLen at hcap
  have HX := Lib.hid hx
  have HLN := Lib.hid hlen
  clear hx hlen
  obtain ⟨i0, hi, hz0, hz1, hz2⟩ := info_parts infoBoolN
  have HPU := Lib.hid (fun (W : World) (j : Nat) (A' : Option Addr) (c' : Nat) (vs : List Value) (x : Value) (h : W.ownsRow w.heap.size 4 1 (.slice A' j c') j vs) (hx1 : x.oneCell' = true) (hb : w.heap.size ≤ W.heap.size) (hj : j ≤ 1000) => push_oneV Tryz.underlying34 hi hz0 hz1 hz2 rfl (by omega) h hx1 hb hj)
  clear hi hz0 hz1 hz2
  go_enter Tryz.func14, Tryz.ntmps14
  go_wp2_with fail
  go_loopw [3, 4] (fun v i wr => ∃ (j : Nat) (A' : Option Addr) (c' : Nat), j ≤ n ∧ i = .int .i64 j ∧ v = .slice A' j c' ∧ Hid (wr.ownsRow w.heap.size 4 1 (.slice A' j c') j ((ds.take j).map paF)) ∧ Hid (Below w.heap.size w wr)) (fun _ i _ => n - (Go.RowKit.intOf i).toNat)
  case atStart => exact ⟨0, none, 0, Nat.zero_le _, rfl, rfl, Lib.hid (World.ownsRow_nil _ _ _ _), Lib.hid (Below.refl _ _)⟩
  case round =>
    obtain ⟨j, A', c', hj, rfl, rfl, HR, HB⟩ := hrel
    by_cases hlt : j < n
    · obtain ⟨d, hd⟩ := at_of HLN.out hlt
      obtain ⟨b, o, A1, n1, c1, k, g, A2, n2, c2, rfl, e0, e1, e2, e3, e4, hl, _⟩ := (HX.out.at_ j d hd).keep HB.out
      have hi0 : (0 : Int) ≤ j := by omega
      have hi1 : (j : Int) < n := by omega
      have hln := hl.len
      obtain ⟨g7, cap7, w7, hrun7, hrow7, hb7⟩ := HPU.out wr j A' c' _ (.bool d.2) HR.out rfl HB.out.size (by omega)
      have HR7 : Hid (w7.ownsRow w.heap.size 4 1 (.slice (some ⟨g7, 0, none⟩) (j + 1) cap7) (j + 1) ((ds.take (j + 1)).map paF)) := Lib.hid (by
        rw [take_mapF hd, show paF d = .bool d.2 from rfl]
        exact hrow7)
      have HB7 := Lib.hid (HB.out.trans hb7)
      clear hb7 hrow7 hl hd hln HR HPU
      go_wp2_with (at_builtin; first | (refine Lib.wpList_append_run _ rfl _ _ _ _ rfl _ _ rfl rfl _ _ hrun7 ?_; clear hrun7))
      go_roundw
      case rel => exact ⟨j + 1, _, _, hlt, by go_num, rfl, HR7, HB7⟩
      case measure => simp [Go.RowKit.intOf]; omega
    · obtain rfl : j = n := by omega
      go_wp2_with fail
      go_ret
      exact RkE.of HLN.out HR.out HB.out
end Go.Proofs.YtbbjjdnnlnabaaaGreat
