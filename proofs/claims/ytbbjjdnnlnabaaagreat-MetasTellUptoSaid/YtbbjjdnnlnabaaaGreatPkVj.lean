/- Texts of one proof, put together. No statement is proved here. -/
import Derived.Test.YtbbjjdnnlnabaaaGreatPkVg
import Derived.Test.YtbbjjdnnlnabaaaGreatZt
namespace Go.Proofs.YtbbjjdnnlnabaaaGreat
open Go.ChangeShapes Go.WideShapes Go.ChangeAt Go.RowKit
set_option linter.unusedVariables false
set_option linter.unusedSimpArgs false
set_option maxRecDepth 100000
set_option maxHeartbeats 16000000
theorem rd_lamV {w : World} {h : Int} {x : T} {A : Option Addr} {n c : Nat} (hv : Rd w (.node 3 h [x]) (.agg #[.int .i64 3, .int .i64 h, .slice A n c])) : ∃ b o k g A1 n1 c1, A = some ⟨b, o, none⟩ ∧ n = 1 ∧ 1 ≤ c ∧ c ≤ maxLen ∧
    w.cell? ⟨b, o, none⟩ = some (.int .i64 k) ∧ w.cell? ⟨b, o + 1, none⟩ = some (.int .i64 g) ∧ w.cell? ⟨b, o + 2, none⟩ = some (.slice A1 n1 c1) ∧ Rd w x (.agg #[.int .i64 k, .int .i64 g, .slice A1 n1 c1]) := by
  obtain ⟨A', n', c', e, _, _, h3, h4, h5, h6⟩ := Rd_node.1 hv
  have e' : A = A' ∧ n = n' ∧ c = c' := by simpa using e
  obtain ⟨rfl, rfl, rfl⟩ := e'
  obtain ⟨b, o, k, g, A1, n1, c1, rfl, c0, d0, e0, r0⟩ := (h6 0 x rfl).full
  simp at h3
  exact ⟨b, o, k, g, A1, n1, c1, rfl, h3.symm, by omega, h5, by simpa using c0, by simpa using d0, by simpa using e0, r0⟩
theorem vLamC {W : WV} {x : T} {hh : Int} (ih : TmC W x) (cx : List T) (a : T) (B : Int) (As : Option Addr) (ns cs : Nat) (Am : Option Addr) (nm cm : Nat) (Ac : Option Addr) (nc cc : Nat) (A : Option Addr) (n c : Nat) (ka ga : Int) (Aa : Option Addr) (na ca : Nat) (w : World)
    (hE : EnvV W cx B) (hbm : WkV W (.node 3 hh [x])) (hba : BdV B a) (hsum : B + nd (.node 3 hh [x]) * dlV ≤ hiV) (hlen : cx.length + nd (.node 3 hh [x]) ≤ 1000000) (hk : CkV w W cx As ns cs Am nm cm Ac nc cc) (hv : Rd w (.node 3 hh [x]) (.agg #[.int .i64 3, .int .i64 hh, .slice A n c])) (ha : Rd w a (.agg #[.int .i64 ka, .int .i64 ga, .slice Aa na ca])) :
    Calls Tryz.prog 71 #[.agg #[.slice As ns cs, .slice Am nm cm, .slice Ac nc cc], .agg #[.int .i64 3, .int .i64 hh, .slice A n c], .agg #[.int .i64 ka, .int .i64 ga, .slice Aa na ca]] w fun e w' => e = .returned (.int .i64 (tmV W (.node 3 hh [x]) cx a)) ∧ Below w.heap.size w w' := by
  obtain ⟨W0, hW⟩ : ∃ W0, ((w.alloc (.cells #[.slice As ns cs, .slice Am nm cm, .slice Ac nc cc] 75)).alloc (.cells #[.int .i64 3, .int .i64 hh, .slice A n c] 39)).alloc (.cells #[.int .i64 ka, .int .i64 ga, .slice Aa na ca] 39) = W0 := ⟨_, rfl⟩
  have hb : Below w.heap.size w W0 := by rw [← hW]; exact (((Below.refl _ _).alloc (Nat.le_refl _) _).alloc (by simp) _).alloc (by simp; omega) _
  have x0 : Box W0 w.heap.size 75 #[.slice As ns cs, .slice Am nm cm, .slice Ac nc cc] := by rw [← hW]; exact ((Box.new _ _ _).alloc _).alloc _
  have x1 : Box W0 (w.heap.size + 1) 39 #[.int .i64 3, .int .i64 hh, .slice A n c] := by rw [← hW]; exact ((Box.new (w.alloc _) _ _).at (by simp)).alloc _
  have x2 : Box W0 (w.heap.size + 1 + 1) 39 #[.int .i64 ka, .int .i64 ga, .slice Aa na ca] := by rw [← hW]; exact (Box.new ((w.alloc _).alloc _) _ _).at (by simp)
  obtain ⟨c0, c1, c2⟩ := x0.three
  obtain ⟨d0, d1, d2⟩ := x1.three
  obtain ⟨a0, a1, a2⟩ := x2.three
  have hkd := (rdF_kind ha).1
  have HB := Lib.hid hb
  by_cases hk1 : ka = 1
  case' neg =>
    have hd : (ka != 1) = true := by simpa using hk1
    have HEQ := Lib.hid (show tmV W (.node 3 hh [x]) cx a = 3 by rw [tm_lam, if_neg (by rw [hkd]; exact hk1)])
    rw [HEQ.out]
    go_enter Tryz.func71, Tryz.ntmps71
    go_wp2_with fail
    clear hW
    go_ret
    exact ⟨rfl, HB.out⟩
  subst hk1
  obtain ⟨p, q, rfl, hbp, hbq⟩ := hba.pi hkd
  obtain ⟨bb, ob, cb, ev, hc2, hcm2, ⟨kp, gp, Ap, np, cp, p0, p1, p2, hrp⟩, ⟨kq, gq, Aq, nq, cq, q0, q1, q2, hrq⟩⟩ := rd_pi ha
  have ev' : ga = 0 ∧ Aa = some ⟨bb, ob, none⟩ ∧ na = 2 ∧ ca = cb := by simpa using ev
  obtain ⟨rfl, rfl, rfl, rfl⟩ := ev'
  obtain ⟨bx, ox, kx, gx, Ax, nx, cx', rfl, rfl, hc1, hcm1, v0, v1, v2, hrx⟩ := rd_lamV hv
  unfold maxLen at hcm1 hcm2
  have HEQ := Lib.hid (show tmV W (.node 3 hh [x]) cx (.node 1 0 [p, q]) = tmV W x (cx ++ [p]) q by rw [tm_lam]; rfl)
  rw [HEQ.out]
  replace p0 := (hb.cell (cell_lt p0)).trans p0
  replace p1 := (hb.cell (cell_lt p1)).trans p1
  replace p2 := (hb.cell (cell_lt p2)).trans p2
  replace q0 := (hb.cell (cell_lt q0)).trans q0
  replace q1 := (hb.cell (cell_lt q1)).trans q1
  replace q2 := (hb.cell (cell_lt q2)).trans q2
  replace v0 := (hb.cell (cell_lt v0)).trans v0
  replace v1 := (hb.cell (cell_lt v1)).trans v1
  replace v2 := (hb.cell (cell_lt v2)).trans v2
  have hcl := hk.cx.len
  rw [nd, ndL, ndL] at hsum hlen
  have HMO : Hid (∀ W' : World, Below W0.heap.size W0 W' → Calls Tryz.prog 91 #[.agg #[.slice As ns cs, .slice Am nm cm, .slice Ac nc cc], .agg #[.int .i64 kp, .int .i64 gp, .slice Ap np cp]] W' (MoreV As Am ns cs nm cm nc (cx ++ [p]) W')) := Lib.hid fun W' h' =>
    moreC cx p As Am Ac ns cs nm cm nc cc _ _ _ _ _ W' (hk.cx.keep (hb.trans (h'.mono hb.size))) (Rd.keep (hb.trans (h'.mono hb.size)) _ _ hrp) (by omega)
  have HTM : Hid (∀ (W' : World) (g cap : Nat), Below W0.heap.size W0 W' → CLV W' (cx ++ [p]) (some ⟨g, 0, none⟩) (nc + 1) cap → Calls Tryz.prog 53 #[.agg #[.slice As ns cs, .slice Am nm cm, .slice (some ⟨g, 0, none⟩) (nc + 1) cap], .agg #[.int .i64 kx, .int .i64 gx, .slice Ax nx cx'], .agg #[.int .i64 kq, .int .i64 gq, .slice Aq nq cq]] W' fun e w' => e = .returned (.int .i64 (tmV W x (cx ++ [p]) q)) ∧ Below W'.heap.size W' w') := Lib.hid fun W' g cap h' hcl' =>
    have hb' := hb.trans (h'.mono hb.size)
    ih (cx ++ [p]) q B As ns cs Am nm cm _ _ _ _ _ W' (hE.more hbp) (hbm.arg (by simp)) hbq (by unfold dlV hiV at *; omega) (by rw [List.length_append, List.length_singleton]; omega) ⟨hk.sg.keep hb', hk.ms.keep hb', hcl'⟩ (Rd.keep hb' _ _ hrx) (Rd.keep hb' _ _ hrq)
  generalize tmV W x (cx ++ [p]) q = R at *
  clear hE hbm hba hsum hlen hk hv ha hbp hbq hrp hrq hrx ev hb hkd HEQ
  go_enter Tryz.func71, Tryz.ntmps71
  go_wp2_with fail
  clear hW
  have HKS : Hid (∀ w' : World, Below W0.heap.size W0 w' → (fun w' => w'.cell? ⟨w.heap.size, 0, none⟩ = some (.slice As ns cs) ∧ w'.cell? ⟨w.heap.size, 1, none⟩ = some (.slice Am nm cm) ∧ w'.cell? ⟨w.heap.size, 2, none⟩ = some (.slice Ac nc cc) ∧ w'.cell? ⟨w.heap.size + 1, 2, none⟩ = some (.slice (some ⟨bx, ox, none⟩) 1 c) ∧ w'.cell? ⟨w.heap.size + 1 + 1, 2, none⟩ = some (.slice (some ⟨bb, ob, none⟩) 2 ca) ∧ w'.cell? ⟨bb, ob, none⟩ = some (.int .i64 kp) ∧ w'.cell? ⟨bb, ob + 1, none⟩ = some (.int .i64 gp) ∧ w'.cell? ⟨bb, ob + 2, none⟩ = some (.slice Ap np cp) ∧ w'.cell? ⟨bb, ob + 3, none⟩ = some (.int .i64 kq) ∧ w'.cell? ⟨bb, ob + 4, none⟩ = some (.int .i64 gq) ∧ w'.cell? ⟨bb, ob + 5, none⟩ = some (.slice Aq nq cq) ∧ w'.cell? ⟨bx, ox, none⟩ = some (.int .i64 kx) ∧ w'.cell? ⟨bx, ox + 1, none⟩ = some (.int .i64 gx) ∧ w'.cell? ⟨bx, ox + 2, none⟩ = some (.slice Ax nx cx')) w') := Lib.hid fun w' h => ⟨(h.cell (cell_lt c0)).trans c0, (h.cell (cell_lt c1)).trans c1, (h.cell (cell_lt c2)).trans c2, (h.cell (cell_lt d2)).trans d2, (h.cell (cell_lt a2)).trans a2, (h.cell (cell_lt p0)).trans p0, (h.cell (cell_lt p1)).trans p1, (h.cell (cell_lt p2)).trans p2, (h.cell (cell_lt q0)).trans q0, (h.cell (cell_lt q1)).trans q1, (h.cell (cell_lt q2)).trans q2, (h.cell (cell_lt v0)).trans v0, (h.cell (cell_lt v1)).trans v1, (h.cell (cell_lt v2)).trans v2⟩
  have hbd : Below W0.heap.size W0 W0.drew := (Below.refl _ W0).drew
  refine zzR HKS hbd (fun hS => ?_)
  simp only [List.size_toArray, List.length_cons, List.length_nil, Nat.reduceAdd]
  refine zzT (i := 0) (v := .agg #[.slice As ns cs, .slice Am nm cm, .slice Ac nc cc]) rfl hS ?_
  try simp only [Act.put, List.setIfInBounds_toArray]
  refine zzT (i := 1) (v := .pointer (some ⟨w.heap.size + 1 + 1, 2, none⟩)) rfl hS ?_
  try simp only [Act.put]
  refine zzT (i := 2) (v := .slice (some ⟨bb, ob, none⟩) 2 ca) rfl hS ?_
  try simp only [Act.put]
  refine zzT (i := 3) (v := .pointer (some ⟨bb, ob, none⟩)) rfl hS ?_
  try simp only [Act.put]
  refine zzT (i := 4) (v := .agg #[.int .i64 kp, .int .i64 gp, .slice Ap np cp]) rfl hS ?_
  try simp only [Act.put]
  refine zzT (i := 6) (v := .pointer (some ⟨w.heap.size + 1, 2, none⟩)) rfl hS ?_
  try simp only [Act.put]
  refine zzT (i := 7) (v := .slice (some ⟨bx, ox, none⟩) 1 c) rfl hS ?_
  try simp only [Act.put]
  refine zzT (i := 8) (v := .pointer (some ⟨bx, ox, none⟩)) rfl hS ?_
  try simp only [Act.put]
  refine zzT (i := 9) (v := .agg #[.int .i64 kx, .int .i64 gx, .slice Ax nx cx']) rfl hS ?_
  try simp only [Act.put]
  refine zzT (i := 10) (v := .pointer (some ⟨w.heap.size + 1 + 1, 2, none⟩)) rfl hS ?_
  try simp only [Act.put]
  refine zzT (i := 11) (v := .slice (some ⟨bb, ob, none⟩) 2 ca) rfl hS ?_
  try simp only [Act.put]
  refine zzT (i := 12) (v := .pointer (some ⟨bb, ob + 3, none⟩)) rfl hS ?_
  try simp only [Act.put]
  refine zzT (i := 13) (v := .agg #[.int .i64 kq, .int .i64 gq, .slice Aq nq cq]) rfl hS ?_
  try simp only [Act.put]
  refine wpAnyH_ready (rs := [5]) (by kernel_rfl) (by simp) ?_
  refine AllReadyH.cons rfl (fun KN hK => ?_) AllReadyH.nil
  go_simp
  refine (HMO.out _ hbd).mono ?_
  rintro e w8 ⟨g8, cap8, rfl, hcl8, hb8⟩
  have hb8' : Below W0.heap.size W0 w8 := hbd.trans (hb8.mono hbd.size)
  refine hK.out _ _ (HKS.out _ hb8') (fun hS => ?_)
  clear hK KN
  try simp only [Act.put, zzP]
  clear hb8
  refine wpAnyH_ready (rs := [14]) (by kernel_rfl) (by simp) ?_
  refine AllReadyH.cons rfl (fun KN hK => ?_) AllReadyH.nil
  go_simp
  refine (HTM.out w8 g8 cap8 hb8' hcl8).mono ?_
  rintro e w9 ⟨rfl, hb9⟩
  have hb9' : Below W0.heap.size W0 w9 := hb8'.trans (hb9.mono hb8'.size)
  refine hK.out _ _ (HKS.out _ hb9') (fun hS => ?_)
  clear hK KN
  try simp only [Act.put, zzP]
  refine zzT (i := 15) (v := .int .i64 R) rfl hS ?_
  try simp only [Act.put, List.setIfInBounds_toArray]
  refine wpAnyH_done (by kernel_rfl) ?_ _
  try simp only [List.setIfInBounds_toArray]
  try simp only [zzP]
  have HBF := Lib.hid (HB.out.trans (hb9'.mono HB.out.size))
  clear hS HKS hbd hb9' hb9 hb8' hcl8 x0 x1 x2 c0 c1 c2 d0 d1 d2 a0 a1 a2 p0 p1 p2 q0 q1 q2 v0 v1 v2
  go_wp2_with fail
  refine bodyPost_ret (v := .int .i64 R) (by simp [results, Tryz.results71, go_sem]) rfl ?_
  exact ⟨rfl, HBF.out⟩
theorem vTermC (W : WV) (m : T) : TmC W m := by
  induction m using T.ind with
  | step k h xs ih =>
    intro cx a B As ns cs Am nm cm Ac nc cc vm va w hE hbm hba hsum hlen hk hv ha
    obtain ⟨A, n, c, rfl, hrest⟩ := Rd_node.1 hv
    clear hrest
    obtain ⟨ka, ga, Aa, na, ca, rfl⟩ := ha.full
    obtain ⟨W0, hW⟩ : ∃ W0, ((w.alloc (.cells #[.slice As ns cs, .slice Am nm cm, .slice Ac nc cc] 75)).alloc (.cells #[.int .i64 k, .int .i64 h, .slice A n c] 39)).alloc (.cells #[.int .i64 ka, .int .i64 ga, .slice Aa na ca] 39) = W0 := ⟨_, rfl⟩
    have hb : Below w.heap.size w W0 := by rw [← hW]; exact (((Below.refl _ _).alloc (Nat.le_refl _) _).alloc (by simp) _).alloc (by simp; omega) _
    have x0 : Box W0 w.heap.size 75 #[.slice As ns cs, .slice Am nm cm, .slice Ac nc cc] := by rw [← hW]; exact ((Box.new _ _ _).alloc _).alloc _
    have x1 : Box W0 (w.heap.size + 1) 39 #[.int .i64 k, .int .i64 h, .slice A n c] := by rw [← hW]; exact ((Box.new (w.alloc _) _ _).at (by simp)).alloc _
    have x2 : Box W0 (w.heap.size + 1 + 1) 39 #[.int .i64 ka, .int .i64 ga, .slice Aa na ca] := by rw [← hW]; exact (Box.new ((w.alloc _).alloc _) _ _).at (by simp)
    obtain ⟨c0, c1, c2⟩ := x0.three
    obtain ⟨d0, d1, d2⟩ := x1.three
    obtain ⟨a0, a1, a2⟩ := x2.three
    have hkd := (rdF_kind ha).1
    have HB := Lib.hid hb
    by_cases hk3 : k = 3
    case' pos =>
      subst hk3
      obtain ⟨rfl, x, rfl, _⟩ := lamV hbm.nod
      have HL := Lib.hid (vLamC (ih x (by simp)) cx a B As ns cs Am nm cm Ac nc cc A n c ka ga Aa na ca W0 hE hbm hba hsum hlen (hk.keep hb) (Rd.keep hb _ _ hv) (Rd.keep hb _ _ ha))
      generalize tmV W (.node 3 0 [x]) cx a = R at *
      clear hE hbm hba hsum hlen hk hv ha hb hkd ih x0 x1 x2
      go_enter Tryz.func53, Tryz.ntmps53
      go_wp2_with fail
      clear hW
      refine HL.out.mono ?_
      rintro e w1 ⟨rfl, hb1⟩
      go_wp2_with fail
      go_ret
      exact ⟨rfl, HB.out.trans (hb1.mono HB.out.size)⟩
    have e3 : (k == 3) = false := by simpa using hk3
    have hka : kdQ a = ka := hkd
    by_cases hk2 : ka = 2
    case' neg =>
      have hd : (ka != 2) = true := by simpa using hk2
      have HEQ := Lib.hid (show tmV W (.node k h xs) cx a = 3 by rw [tm_neu W hk3, if_neg (by rw [hka]; exact hk2)])
      rw [HEQ.out]
      clear hE hbm hba hsum hlen hk hv ha hb hkd ih x0 x1 x2
      go_enter Tryz.func53, Tryz.ntmps53
      go_wp2_with fail
      clear hW
      go_ret
      exact ⟨rfl, HB.out⟩
    subst hk2
    have HEQ := Lib.hid (show tmV W (.node k h xs) cx a = enV a (cmV W cx (.node k h xs)) by rw [tm_neu W hk3, if_pos hka])
    rw [HEQ.out]
    have HC := Lib.hid (vComesC ih cx B As ns cs Am nm cm Ac nc cc A n c w W0 hE hbm hsum hlen hb hk hv)
    have HER := Lib.hid (fun e (he : cmV W cx (.node k h xs) = .error e) => cm_err he)
    have HA := Lib.hid (Rd.keep hb _ _ ha)
    generalize cmV W cx (.node k h xs) = R at *
    have HZE := Lib.hid (show ∀ er, R = .error er → er = enV a R from fun er e => by subst e; rfl)
    have HZO := Lib.hid (show ∀ t, R = .ok t → (if samB t a = true then 0 else 3) = enV a R from fun t e => by subst e; rfl)
    generalize enV a R = Z at *
    have X2 := Lib.hid x2
    clear hE hbm hba hsum hlen hk hv ha hb hkd ih HEQ x0 x1 x2
    go_enter Tryz.func53, Tryz.ntmps53
    go_wp2_with fail
    clear hW
    refine HC.out.mono ?_
    rintro e w1 ⟨k4, h4, A4, n4, c4, rfl, hrd, hb1⟩
    clear c0 c1 c2 d0 d1 d2 a0 a1 a2
    have HB1 := Lib.hid (HB.out.trans (hb1.mono HB.out.size))
    replace X2 := Lib.hid (X2.out.keep hb1 X2.out.lt)
    have HA1 := Lib.hid (Rd.keep hb1 _ _ HA.out)
    cases R with
    | error er =>
      have hne := HER.out er rfl
      have hd : (er != 0) = true := by simpa using hne
      clear hb1 hrd
      simp only [erV]
      go_wp2_with fail
      go_ret
      exact ⟨ret_int (HZE.out er rfl), HB1.out.alloc HB1.out.size _⟩
    | ok t =>
      have hrt := RdF.rd _ _ (hrd t rfl)
      obtain ⟨W2, hW2⟩ : ∃ W2, w1.alloc (.cells #[.int .i64 k4, .int .i64 h4, .slice A4 n4 c4] 39) = W2 := ⟨_, rfl⟩
      have hb2 : Below w1.heap.size w1 W2 := by rw [← hW2]; exact (Below.refl _ _).alloc (Nat.le_refl _) _
      have z2 : Box W2 w1.heap.size 39 #[.int .i64 k4, .int .i64 h4, .slice A4 n4 c4] := by rw [← hW2]; exact Box.new _ _ _
      have HSM := Lib.hid (termSame t a _ _ W2 (Rd.keep hb2 _ _ hrt) (Rd.keep hb2 _ _ HA1.out))
      have HB2 := Lib.hid (HB1.out.trans (hb2.mono HB1.out.size))
      obtain ⟨b0, b1, b2⟩ := (X2.out.keep hb2 X2.out.lt).three
      obtain ⟨y0, y1, y2⟩ := z2.three
      clear hb1 hrd hb2 hrt z2
      have HSE := Lib.hid (HZO.out t rfl)
      simp only [erV]
      generalize samB t a = r at *
      go_wp2_with fail
      refine HSM.out.mono ?_
      rintro e w3 ⟨rfl, hb3⟩
      have HB3 := Lib.hid (HB2.out.trans (hb3.mono HB2.out.size))
      clear hb3 HSM b0 b1 b2 y0 y1 y2 hW2
      cases r
      · go_wp2_with fail
        go_ret
        exact ⟨ret_int HSE.out, HB3.out⟩
      · go_wp2_with fail
        go_ret
        exact ⟨ret_int HSE.out, HB3.out⟩
def ckT (W : WV) (cx : List T) (m a : T) : Int := if mayV W cx [m, a] = true then tmV W m cx a else 1
theorem mayV_iff (W : WV) (cx l : List T) : mayV W cx l = true ↔ cx.length ≤ 1000 ∧ (∀ t ∈ cx, myB t = true) ∧ (∀ t ∈ l, myB t = true) ∧ (∀ t ∈ W.sg, myB t = true) ∧ ∀ m ∈ W.ms, (∀ t ∈ m.1, myB t = true) ∧ myB m.2 = true := by
  simp only [mayV, mmB, Bool.and_eq_true, decide_eq_true_eq, List.all_eq_true]
structure LoV (W : WV) (cx : List T) : Prop where
  sg : ∀ t ∈ W.sg, myB t = true → okT loV t
  ms : ∀ m ∈ W.ms, (∀ e ∈ m.1, myB e = true → okT loV e) ∧ (myB m.2 = true → okT loV m.2)
  cx : ∀ t ∈ cx, myB t = true → okT loV t
theorem env_of {W : WV} {cx l : List T} (L : LoV W cx) (h : mayV W cx l = true) : EnvV W cx loV := by
  obtain ⟨_, h2, _, h4, h5⟩ := (mayV_iff W cx l).1 h
  exact ⟨fun t ht => ⟨h4 t ht, L.sg t ht (h4 t ht)⟩, fun m hm => ⟨fun e he => ⟨(h5 m hm).1 e he, (L.ms m hm).1 e he ((h5 m hm).1 e he)⟩, (h5 m hm).2, (L.ms m hm).2 (h5 m hm).2⟩, fun t ht => ⟨h2 t ht, L.cx t ht (h2 t ht)⟩, Int.le_refl _⟩
theorem clv_two {w : World} {p : Nat} {ty : TypeId} {t u : T} {k h k2 h2 : Int} {A A2 : Option Addr} {n c n2 c2 : Nat} (hb : Box w p ty #[.int .i64 k, .int .i64 h, .slice A n c, .int .i64 k2, .int .i64 h2, .slice A2 n2 c2]) (hr : Rd w t (.agg #[.int .i64 k, .int .i64 h, .slice A n c])) (hr2 : Rd w u (.agg #[.int .i64 k2, .int .i64 h2, .slice A2 n2 c2])) :
    CLV w [t, u] (some ⟨p, 0, none⟩) 2 2 := ⟨rfl, Nat.le_refl _, by unfold maxLen; omega, rd_two hb hr hr2⟩
theorem clv_one {w : World} {p : Nat} {ty : TypeId} {t : T} {k h : Int} {A : Option Addr} {n c : Nat} (hb : Box w p ty #[.int .i64 k, .int .i64 h, .slice A n c]) (hr : Rd w t (.agg #[.int .i64 k, .int .i64 h, .slice A n c])) :
    CLV w [t] (some ⟨p, 0, none⟩) 1 1 := ⟨rfl, Nat.le_refl _, by unfold maxLen; omega, rd_one (k := 0) (h := 0) hb hr⟩
end Go.Proofs.YtbbjjdnnlnabaaaGreat
namespace Go.Proofs.YtbbjjdnnlnabaaaGreat
open Go.ChangeShapes Go.WideShapes Go.ChangeAt Go.RowKit
set_option linter.unusedVariables false
set_option linter.unusedSimpArgs false
set_option maxRecDepth 100000
set_option maxHeartbeats 4000000
def knV : Except Int T → Int
  | .error e => e
  | .ok t => if kdQ t = 0 then 0 else 3
def faV (W : WV) (h : Int) (xs cx : List T) : Int :=
  if h < W.sg.length then (if kiB (W.sg.getD h.toNat (.node 0 0 [])) = true then knV (spV W xs cx (W.sg.getD h.toNat (.node 0 0 []))) else 2) else 2
mutual
def tyV (W : WV) : T → List T → Int
  | .node k h xs, cx => if k = 1 then tyL W xs cx else if k = 2 then faV W h xs cx else 3
def tyL (W : WV) : List T → List T → Int
  | [], _ => 0
  | x :: xs, cx => if tyV W x cx = 0 then tyL W xs (cx ++ [x]) else tyV W x cx
end
theorem ty_pi (W : WV) (h : Int) (a b : T) (cx : List T) : tyV W (.node 1 h [a, b]) cx = if tyV W a cx = 0 then tyV W b (cx ++ [a]) else tyV W a cx := by
  rw [tyV, if_pos rfl, tyL, tyL, tyL]
  by_cases h2 : tyV W b (cx ++ [a]) = 0
  · rw [if_pos h2, h2]
  · rw [if_neg h2]
theorem ty_fam (W : WV) (h : Int) (xs cx : List T) : tyV W (.node 2 h xs) cx = faV W h xs cx := by rw [tyV, if_neg (by omega), if_pos rfl]
theorem ty_no (W : WV) {k h : Int} {xs cx : List T} (h1 : k ≠ 1) (h2 : k ≠ 2) : tyV W (.node k h xs) cx = 3 := by rw [tyV, if_neg h1, if_neg h2]
theorem fa_no {W : WV} {h : Int} {xs cx : List T} (hh : W.sg.length ≤ h) : faV W h xs cx = 2 := by rw [faV, if_neg (by omega)]
theorem fa_ki {W : WV} {i : Nat} {xs cx : List T} {e : T} (hi : W.sg[i]? = some e) (hk : kiB e = false) : faV W (i : Int) xs cx = 2 := by
  have hl := (List.getElem?_eq_some_iff.1 hi).1
  rw [faV, if_pos (by omega), Int.toNat_natCast, List.getD_eq_getElem?_getD, hi, Option.getD_some, if_neg (by rw [hk]; simp)]
theorem fa_go {W : WV} {i : Nat} {xs cx : List T} {e : T} (hi : W.sg[i]? = some e) (hk : kiB e = true) : faV W (i : Int) xs cx = knV (spV W xs cx e) := by
  have hl := (List.getElem?_eq_some_iff.1 hi).1
  rw [faV, if_pos (by omega), Int.toNat_natCast, List.getD_eq_getElem?_getD, hi, Option.getD_some, if_pos hk]
theorem nilR (f : FuncId) (W : World) : (binOp .eql 93 (.func (.func f) #[] #[]) .nilFunc).run Tryz.prog W = .ok (.bool false) W := by kernel_rfl
theorem nilR0 (W : World) : (binOp .eql 93 .nilFunc .nilFunc).run Tryz.prog W = .ok (.bool true) W := by kernel_rfl
def ByQ (R : Int) (w : World) (e : Ending) (w' : World) : Prop := e = .returned (.int .i64 R) ∧ Below w.heap.size w w'
theorem byPiType (f0 f2 f3 f4 f5 f6 : Value) (R : Int) (As Am Ac : Option Addr) (ns cs nm cm nc cc : Nat) (h : Int) (A : Option Addr) (n c : Nat) (w : World) (hf : ∀ W' : World, Below w.heap.size w W' → Calls Tryz.prog 61 #[.agg #[.slice As ns cs, .slice Am nm cm, .slice Ac nc cc], .agg #[.int .i64 1, .int .i64 h, .slice A n c]] W' (ByQ R W')) :
    Calls Tryz.prog 60 #[.agg #[.slice As ns cs, .slice Am nm cm, .slice Ac nc cc], .agg #[f0, .func (.func 61) #[] #[], f2, f3, f4, f5, f6], .agg #[.int .i64 1, .int .i64 h, .slice A n c]] w (ByQ R w) := by
  obtain ⟨W0, hW⟩ : ∃ W0, ((w.alloc (.cells #[.slice As ns cs, .slice Am nm cm, .slice Ac nc cc] 75)).alloc (.cells #[f0, .func (.func 61) #[] #[], f2, f3, f4, f5, f6] 94)).alloc (.cells #[.int .i64 1, .int .i64 h, .slice A n c] 39) = W0 := ⟨_, rfl⟩
  have hb : Below w.heap.size w W0 := by rw [← hW]; exact (((Below.refl _ _).alloc (Nat.le_refl _) _).alloc (by simp) _).alloc (by simp; omega) _
  have x0 : Box W0 w.heap.size 75 #[.slice As ns cs, .slice Am nm cm, .slice Ac nc cc] := by rw [← hW]; exact ((Box.new _ _ _).alloc _).alloc _
  have x1 : Box W0 (w.heap.size + 1) 94 #[f0, .func (.func 61) #[] #[], f2, f3, f4, f5, f6] := by rw [← hW]; exact ((Box.new (w.alloc _) _ _).at (by simp)).alloc _
  have x2 : Box W0 (w.heap.size + 1 + 1) 39 #[.int .i64 1, .int .i64 h, .slice A n c] := by rw [← hW]; exact (Box.new ((w.alloc _).alloc _) _ _).at (by simp)
  obtain ⟨c0, c1, c2⟩ := x0.three
  obtain ⟨d0, d1, d2⟩ := x2.three
  have e0 : W0.cell? ⟨w.heap.size + 1, 1, none⟩ = some (.func (.func 61) #[] #[]) := x1.cell 1
  have HB := Lib.hid hb
  have hnl := nilR
  have HF := Lib.hid (hf W0 hb)
  clear x0 x1 x2 hb hf
  go_enter Tryz.func60, Tryz.ntmps60
  go_wp2_with fail
  clear hW
  refine HF.out.mono ?_
  rintro e w1 ⟨rfl, hb1⟩
  have HB1 := Lib.hid (HB.out.trans (hb1.mono HB.out.size))
  clear hb1
  go_wp2_with fail
  go_ret
  exact ⟨rfl, HB1.out⟩
theorem byFam (f0 f1 f3 f4 f5 f6 : Value) (R : Int) (As Am Ac : Option Addr) (ns cs nm cm nc cc : Nat) (h : Int) (A : Option Addr) (n c : Nat) (w : World) (hf : ∀ W' : World, Below w.heap.size w W' → Calls Tryz.prog 62 #[.agg #[.slice As ns cs, .slice Am nm cm, .slice Ac nc cc], .agg #[.int .i64 2, .int .i64 h, .slice A n c]] W' (ByQ R W')) :
    Calls Tryz.prog 60 #[.agg #[.slice As ns cs, .slice Am nm cm, .slice Ac nc cc], .agg #[f0, f1, .func (.func 62) #[] #[], f3, f4, f5, f6], .agg #[.int .i64 2, .int .i64 h, .slice A n c]] w (ByQ R w) := by
  obtain ⟨W0, hW⟩ : ∃ W0, ((w.alloc (.cells #[.slice As ns cs, .slice Am nm cm, .slice Ac nc cc] 75)).alloc (.cells #[f0, f1, .func (.func 62) #[] #[], f3, f4, f5, f6] 94)).alloc (.cells #[.int .i64 2, .int .i64 h, .slice A n c] 39) = W0 := ⟨_, rfl⟩
  have hb : Below w.heap.size w W0 := by rw [← hW]; exact (((Below.refl _ _).alloc (Nat.le_refl _) _).alloc (by simp) _).alloc (by simp; omega) _
  have x0 : Box W0 w.heap.size 75 #[.slice As ns cs, .slice Am nm cm, .slice Ac nc cc] := by rw [← hW]; exact ((Box.new _ _ _).alloc _).alloc _
  have x1 : Box W0 (w.heap.size + 1) 94 #[f0, f1, .func (.func 62) #[] #[], f3, f4, f5, f6] := by rw [← hW]; exact ((Box.new (w.alloc _) _ _).at (by simp)).alloc _
  have x2 : Box W0 (w.heap.size + 1 + 1) 39 #[.int .i64 2, .int .i64 h, .slice A n c] := by rw [← hW]; exact (Box.new ((w.alloc _).alloc _) _ _).at (by simp)
  obtain ⟨c0, c1, c2⟩ := x0.three
  obtain ⟨d0, d1, d2⟩ := x2.three
  have e0 : W0.cell? ⟨w.heap.size + 1, 2, none⟩ = some (.func (.func 62) #[] #[]) := x1.cell 2
  have HB := Lib.hid hb
  have hnl := nilR
  have HF := Lib.hid (hf W0 hb)
  clear x0 x1 x2 hb hf
  go_enter Tryz.func60, Tryz.ntmps60
  go_wp2_with fail
  clear hW
  refine HF.out.mono ?_
  rintro e w1 ⟨rfl, hb1⟩
  have HB1 := Lib.hid (HB.out.trans (hb1.mono HB.out.size))
  clear hb1
  go_wp2_with fail
  go_ret
  exact ⟨rfl, HB1.out⟩
theorem byN0 (f1 f2 f3 f4 f5 f6 : Value) (As Am Ac : Option Addr) (ns cs nm cm nc cc : Nat) (h : Int) (A : Option Addr) (n c : Nat) (w : World) :
    Calls Tryz.prog 60 #[.agg #[.slice As ns cs, .slice Am nm cm, .slice Ac nc cc], .agg #[.nilFunc, f1, f2, f3, f4, f5, f6], .agg #[.int .i64 0, .int .i64 h, .slice A n c]] w (ByQ 3 w) := by
  obtain ⟨W0, hW⟩ : ∃ W0, ((w.alloc (.cells #[.slice As ns cs, .slice Am nm cm, .slice Ac nc cc] 75)).alloc (.cells #[.nilFunc, f1, f2, f3, f4, f5, f6] 94)).alloc (.cells #[.int .i64 0, .int .i64 h, .slice A n c] 39) = W0 := ⟨_, rfl⟩
  have hb : Below w.heap.size w W0 := by rw [← hW]; exact (((Below.refl _ _).alloc (Nat.le_refl _) _).alloc (by simp) _).alloc (by simp; omega) _
  have x0 : Box W0 w.heap.size 75 #[.slice As ns cs, .slice Am nm cm, .slice Ac nc cc] := by rw [← hW]; exact ((Box.new _ _ _).alloc _).alloc _
  have x1 : Box W0 (w.heap.size + 1) 94 #[.nilFunc, f1, f2, f3, f4, f5, f6] := by rw [← hW]; exact ((Box.new (w.alloc _) _ _).at (by simp)).alloc _
  have x2 : Box W0 (w.heap.size + 1 + 1) 39 #[.int .i64 0, .int .i64 h, .slice A n c] := by rw [← hW]; exact (Box.new ((w.alloc _).alloc _) _ _).at (by simp)
  obtain ⟨c0, c1, c2⟩ := x0.three
  obtain ⟨d0, d1, d2⟩ := x2.three
  have e0 : W0.cell? ⟨w.heap.size + 1, 0, none⟩ = some (.nilFunc) := x1.cell 0
  have HB := Lib.hid hb
  have hnl := nilR0
  clear x0 x1 x2 hb
  go_enter Tryz.func60, Tryz.ntmps60
  go_wp2_with fail
  clear hW
  go_ret
  exact ⟨rfl, HB.out⟩
theorem byN3 (f0 f1 f2 f4 f5 f6 : Value) (As Am Ac : Option Addr) (ns cs nm cm nc cc : Nat) (h : Int) (A : Option Addr) (n c : Nat) (w : World) :
    Calls Tryz.prog 60 #[.agg #[.slice As ns cs, .slice Am nm cm, .slice Ac nc cc], .agg #[f0, f1, f2, .nilFunc, f4, f5, f6], .agg #[.int .i64 3, .int .i64 h, .slice A n c]] w (ByQ 3 w) := by
  obtain ⟨W0, hW⟩ : ∃ W0, ((w.alloc (.cells #[.slice As ns cs, .slice Am nm cm, .slice Ac nc cc] 75)).alloc (.cells #[f0, f1, f2, .nilFunc, f4, f5, f6] 94)).alloc (.cells #[.int .i64 3, .int .i64 h, .slice A n c] 39) = W0 := ⟨_, rfl⟩
  have hb : Below w.heap.size w W0 := by rw [← hW]; exact (((Below.refl _ _).alloc (Nat.le_refl _) _).alloc (by simp) _).alloc (by simp; omega) _
  have x0 : Box W0 w.heap.size 75 #[.slice As ns cs, .slice Am nm cm, .slice Ac nc cc] := by rw [← hW]; exact ((Box.new _ _ _).alloc _).alloc _
  have x1 : Box W0 (w.heap.size + 1) 94 #[f0, f1, f2, .nilFunc, f4, f5, f6] := by rw [← hW]; exact ((Box.new (w.alloc _) _ _).at (by simp)).alloc _
  have x2 : Box W0 (w.heap.size + 1 + 1) 39 #[.int .i64 3, .int .i64 h, .slice A n c] := by rw [← hW]; exact (Box.new ((w.alloc _).alloc _) _ _).at (by simp)
  obtain ⟨c0, c1, c2⟩ := x0.three
  obtain ⟨d0, d1, d2⟩ := x2.three
  have e0 : W0.cell? ⟨w.heap.size + 1, 3, none⟩ = some (.nilFunc) := x1.cell 3
  have HB := Lib.hid hb
  have hnl := nilR0
  clear x0 x1 x2 hb
  go_enter Tryz.func60, Tryz.ntmps60
  go_wp2_with fail
  clear hW
  go_ret
  exact ⟨rfl, HB.out⟩
theorem byN4 (f0 f1 f2 f3 f5 f6 : Value) (As Am Ac : Option Addr) (ns cs nm cm nc cc : Nat) (h : Int) (A : Option Addr) (n c : Nat) (w : World) :
    Calls Tryz.prog 60 #[.agg #[.slice As ns cs, .slice Am nm cm, .slice Ac nc cc], .agg #[f0, f1, f2, f3, .nilFunc, f5, f6], .agg #[.int .i64 4, .int .i64 h, .slice A n c]] w (ByQ 3 w) := by
  obtain ⟨W0, hW⟩ : ∃ W0, ((w.alloc (.cells #[.slice As ns cs, .slice Am nm cm, .slice Ac nc cc] 75)).alloc (.cells #[f0, f1, f2, f3, .nilFunc, f5, f6] 94)).alloc (.cells #[.int .i64 4, .int .i64 h, .slice A n c] 39) = W0 := ⟨_, rfl⟩
  have hb : Below w.heap.size w W0 := by rw [← hW]; exact (((Below.refl _ _).alloc (Nat.le_refl _) _).alloc (by simp) _).alloc (by simp; omega) _
  have x0 : Box W0 w.heap.size 75 #[.slice As ns cs, .slice Am nm cm, .slice Ac nc cc] := by rw [← hW]; exact ((Box.new _ _ _).alloc _).alloc _
  have x1 : Box W0 (w.heap.size + 1) 94 #[f0, f1, f2, f3, .nilFunc, f5, f6] := by rw [← hW]; exact ((Box.new (w.alloc _) _ _).at (by simp)).alloc _
  have x2 : Box W0 (w.heap.size + 1 + 1) 39 #[.int .i64 4, .int .i64 h, .slice A n c] := by rw [← hW]; exact (Box.new ((w.alloc _).alloc _) _ _).at (by simp)
  obtain ⟨c0, c1, c2⟩ := x0.three
  obtain ⟨d0, d1, d2⟩ := x2.three
  have e0 : W0.cell? ⟨w.heap.size + 1, 4, none⟩ = some (.nilFunc) := x1.cell 4
  have HB := Lib.hid hb
  have hnl := nilR0
  clear x0 x1 x2 hb
  go_enter Tryz.func60, Tryz.ntmps60
  go_wp2_with fail
  clear hW
  go_ret
  exact ⟨rfl, HB.out⟩
theorem byN5 (f0 f1 f2 f3 f4 f6 : Value) (As Am Ac : Option Addr) (ns cs nm cm nc cc : Nat) (h : Int) (A : Option Addr) (n c : Nat) (w : World) :
    Calls Tryz.prog 60 #[.agg #[.slice As ns cs, .slice Am nm cm, .slice Ac nc cc], .agg #[f0, f1, f2, f3, f4, .nilFunc, f6], .agg #[.int .i64 5, .int .i64 h, .slice A n c]] w (ByQ 3 w) := by
  obtain ⟨W0, hW⟩ : ∃ W0, ((w.alloc (.cells #[.slice As ns cs, .slice Am nm cm, .slice Ac nc cc] 75)).alloc (.cells #[f0, f1, f2, f3, f4, .nilFunc, f6] 94)).alloc (.cells #[.int .i64 5, .int .i64 h, .slice A n c] 39) = W0 := ⟨_, rfl⟩
  have hb : Below w.heap.size w W0 := by rw [← hW]; exact (((Below.refl _ _).alloc (Nat.le_refl _) _).alloc (by simp) _).alloc (by simp; omega) _
  have x0 : Box W0 w.heap.size 75 #[.slice As ns cs, .slice Am nm cm, .slice Ac nc cc] := by rw [← hW]; exact ((Box.new _ _ _).alloc _).alloc _
  have x1 : Box W0 (w.heap.size + 1) 94 #[f0, f1, f2, f3, f4, .nilFunc, f6] := by rw [← hW]; exact ((Box.new (w.alloc _) _ _).at (by simp)).alloc _
  have x2 : Box W0 (w.heap.size + 1 + 1) 39 #[.int .i64 5, .int .i64 h, .slice A n c] := by rw [← hW]; exact (Box.new ((w.alloc _).alloc _) _ _).at (by simp)
  obtain ⟨c0, c1, c2⟩ := x0.three
  obtain ⟨d0, d1, d2⟩ := x2.three
  have e0 : W0.cell? ⟨w.heap.size + 1, 5, none⟩ = some (.nilFunc) := x1.cell 5
  have HB := Lib.hid hb
  have hnl := nilR0
  clear x0 x1 x2 hb
  go_enter Tryz.func60, Tryz.ntmps60
  go_wp2_with fail
  clear hW
  go_ret
  exact ⟨rfl, HB.out⟩
theorem byN6 (f0 f1 f2 f3 f4 f5 : Value) (As Am Ac : Option Addr) (ns cs nm cm nc cc : Nat) (h : Int) (A : Option Addr) (n c : Nat) (w : World) :
    Calls Tryz.prog 60 #[.agg #[.slice As ns cs, .slice Am nm cm, .slice Ac nc cc], .agg #[f0, f1, f2, f3, f4, f5, .nilFunc], .agg #[.int .i64 6, .int .i64 h, .slice A n c]] w (ByQ 3 w) := by
  obtain ⟨W0, hW⟩ : ∃ W0, ((w.alloc (.cells #[.slice As ns cs, .slice Am nm cm, .slice Ac nc cc] 75)).alloc (.cells #[f0, f1, f2, f3, f4, f5, .nilFunc] 94)).alloc (.cells #[.int .i64 6, .int .i64 h, .slice A n c] 39) = W0 := ⟨_, rfl⟩
  have hb : Below w.heap.size w W0 := by rw [← hW]; exact (((Below.refl _ _).alloc (Nat.le_refl _) _).alloc (by simp) _).alloc (by simp; omega) _
  have x0 : Box W0 w.heap.size 75 #[.slice As ns cs, .slice Am nm cm, .slice Ac nc cc] := by rw [← hW]; exact ((Box.new _ _ _).alloc _).alloc _
  have x1 : Box W0 (w.heap.size + 1) 94 #[f0, f1, f2, f3, f4, f5, .nilFunc] := by rw [← hW]; exact ((Box.new (w.alloc _) _ _).at (by simp)).alloc _
  have x2 : Box W0 (w.heap.size + 1 + 1) 39 #[.int .i64 6, .int .i64 h, .slice A n c] := by rw [← hW]; exact (Box.new ((w.alloc _).alloc _) _ _).at (by simp)
  obtain ⟨c0, c1, c2⟩ := x0.three
  obtain ⟨d0, d1, d2⟩ := x2.three
  have e0 : W0.cell? ⟨w.heap.size + 1, 6, none⟩ = some (.nilFunc) := x1.cell 6
  have HB := Lib.hid hb
  have hnl := nilR0
  clear x0 x1 x2 hb
  go_enter Tryz.func60, Tryz.ntmps60
  go_wp2_with fail
  clear hW
  go_ret
  exact ⟨rfl, HB.out⟩
end Go.Proofs.YtbbjjdnnlnabaaaGreat
namespace Go.Proofs.YtbbjjdnnlnabaaaGreat
open Go.ChangeShapes Go.WideShapes Go.ChangeAt Go.RowKit
set_option linter.unusedVariables false
set_option linter.unusedSimpArgs false
theorem sc_piV {x y : T} {n m : Nat} (h1 : scC x n m) (h2 : scC y (n + 1 : Nat) m) : scC (.node 1 0 [x, y]) n m := by
  rw [scC, scCL, scCL, scCL]
  refine ⟨fun e => by omega, fun e => by omega, ?_, ?_, trivial⟩
  · simpa [bd] using h1
  · simpa [bd] using h2
theorem fa_scoped {W : WV} {h : Int} {xs cx : List T} (hn : nodB (.node 2 h xs) = true) (ht : faV W h xs cx = 0) : scC (.node 2 h xs) cx.length W.ms.length := by
  rw [faV] at ht
  split at ht
  · split at ht
    · cases hs : spV W xs cx (W.sg.getD h.toNat (.node 0 0 [])) with
      | error e => rw [hs] at ht; exact absurd (show e = 0 from ht) (sp_err W _ _ _ _ hs)
      | ok t =>
        rw [scC]
        refine ⟨fun e => by omega, fun e => by omega, scL_of fun j x hx => ?_⟩
        have hm := List.mem_of_getElem? hx
        obtain ⟨b, hb⟩ := sp_all _ _ _ _ hs x hm
        rw [bd_var ⟨by omega, by omega⟩, Int.add_zero]
        exact tm_scoped x cx b ((nodV hn).2 x hm) hb
    · cases ht
  · cases ht
theorem ty_scoped {W : WV} (a : T) : ∀ (cx : List T), nodB a = true → tyV W a cx = 0 → scC a cx.length W.ms.length := by
  induction a using T.ind with
  | step k h xs ih =>
    intro cx hn ht
    by_cases h1 : k = 1
    · subst h1
      obtain ⟨rfl, x, y, rfl, hx, hy⟩ := piV hn
      rw [ty_pi] at ht
      by_cases h2 : tyV W x cx = 0
      · rw [if_pos h2] at ht
        have g2 := ih y (by simp) _ hy ht
        rw [List.length_append] at g2
        exact sc_piV (ih x (by simp) cx hx h2) g2
      · rw [if_neg h2] at ht; exact absurd ht h2
    · by_cases h2 : k = 2
      · subst h2
        rw [ty_fam] at ht
        exact fa_scoped hn ht
      · rw [ty_no W h1 h2] at ht; cases ht
theorem ty_low {W : WV} {a : T} {cx : List T} (hm : myB a = true) (hc : (cx.length : Int) ≤ 1000000) (h : tyV W a cx = 0) : okT loV a := by
  have h1 := (myB_iff a).1 hm
  exact sc_ok a _ h1.1 (ty_scoped a cx h1.1 h) (by have := h1.2.2; unfold loV; omega)
end Go.Proofs.YtbbjjdnnlnabaaaGreat
