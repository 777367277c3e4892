/- Texts of one proof, put together. No statement is proved here. -/
import Derived.Test.YtbbjjdnnlnabaaaGreatPkKr
import Derived.Test.YtbbjjdnnlnabaaaGreatPkKl
namespace Go.Proofs.YtbbjjdnnlnabaaaGreat
open Go.ChangeShapes Go.WideShapes Go.ChangeAt Go.RowKit
set_option linter.unusedVariables false
set_option linter.unusedSimpArgs false
set_option maxHeartbeats 4000000
set_option maxRecDepth 100000
def FzF (Z : Nat → Prop) (r : Except Int T) (w : World) (e : Ending) (w' : World) : Prop :=
  match r with
  | .error ec => e = .returned (.tuple #[zT, .int .i64 ec]) ∧ ec ≠ 0 ∧ Below w.heap.size w w'
  | .ok t => ∃ k h A n c, e = .returned (.tuple #[.agg #[.int .i64 k, .int .i64 h, .slice A n c], .int .i64 0]) ∧ RX Z w' t (.agg #[.int .i64 k, .int .i64 h, .slice A n c]) ∧ Below w.heap.size w w'
theorem FzF.fze {Z : Nat → Prop} {r : Except Int T} {w w' : World} {e : Ending} (h : FzF Z r w e w') : FzE Z r w e w' := by
  cases r with
  | error ec => exact ⟨0, 0, none, 0, 0, h.1, h.2.1, h.2.2⟩
  | ok t => exact h
theorem rFillC {Z : Nat → Prop} {th : List T} {t : T} {A : Option Addr} {m cL : Nat} {n : Int} {v : Value} (w : World) (hZ : ∀ b, Z b → b < w.heap.size) (hrow : RXL Z w th A m cL) (hvz : RX Z w t v) (hnt : nd t ≤ 1099511627776) (hnth : ∀ x ∈ th, nd x ≤ 1099511627776)
    (hok : ∀ x ∈ th, myB x = true → okT 2199023255552 x) (ho : myB t = true → okT 2199023255552 t) :
    Calls Tryz.prog 41 #[v, .slice A m cL, .int .i64 n] w (FzF Z (fiR th n t) w) := by
  obtain ⟨k, h, At, nt, ct, rfl⟩ := (RX.rd hvz).full
  have hlen := hrow.len
  have hle := hrow.le
  have hcap := hrow.cap
  unfold maxLen at hcap
  obtain ⟨W, hW⟩ : ∃ W, (w.alloc (.cells #[.int .i64 k, .int .i64 h, .slice At nt ct] 39)).alloc (.cells #[.int .i64 0, .int .i64 0, .slice none 0 0] 39) = W := ⟨_, rfl⟩
  have hb : Below w.heap.size w W := by rw [← hW]; exact ((Below.refl _ _).alloc (Nat.le_refl _) _).alloc (by simp) _
  have x0 : Box W w.heap.size 39 #[.int .i64 k, .int .i64 h, .slice At nt ct] := by rw [← hW]; exact (Box.new _ _ _).alloc _
  have x1 : Box W (w.heap.size + 1) 39 #[.int .i64 0, .int .i64 0, .slice none 0 0] := by rw [← hW]; exact (Box.new (w.alloc _) _ _).at (by simp)
  have hM := refMay t _ _ (Rd.keep hb _ _ (RX.rd hvz))
  rw [mayB_big hnt] at hM
  have HM := Lib.hid hM; clear hM
  have HBAD : Hid ((thB th && decide (0 ≤ n) && decide (n ≤ 1000) && myB t) = false → ∀ w', Below w.heap.size w w' → FzF Z (fiR th n t) w (.returned (.tuple #[zT, .int .i64 1])) w') := Lib.hid fun h w' hb' => by
    rw [fi_bad h]
    exact ⟨rfl, by decide, hb'⟩
  have HGO : Hid (th.all myB = true → th.length ≤ 200 → 0 ≤ n → n ≤ 1000 → myB t = true → (fiR th n t = match flT th t n with
    | .error e => .error e
    | .ok t' => if myB t' = true then .ok t' else .error 4) ∧ (∀ u, flT th t n = .ok u → nd u ≤ 1099511627776) ∧ ∀ W', Below w.heap.size w W' → Calls Tryz.prog 56 #[.agg #[.int .i64 k, .int .i64 h, .slice At nt ct], .slice A m cL, .int .i64 n] W' (FzE (Zw Z w W') (flT th t n) W')) := Lib.hid fun h0 h1 h2 h3 h4 => by
    obtain ⟨a1, a2, a3⟩ := (myB_iff t).1 h4
    refine ⟨fi_good (by unfold thB; rw [h0]; simpa using h1) h2 h3 h4, fun u hu => by have := fl_nd th t n u hu; omega, fun W' hb' => ?_⟩
    have hall := List.all_eq_true.1 h0
    have hmv : ∀ b, ¬ Z b → b < w.heap.size → ¬ Zw Z w W' b ∧ W'.heap[b]? = w.heap[b]? := fun b hb hl => ⟨fun e => by
      rcases e with e | e
      · exact hb e
      · omega, hb'.block b hl⟩
    exact rfillC th t (Zw Z w W') W' A m cL n _ (fun b e => by
      rcases e with e | e
      · have := hZ b e; have := hb'.size; omega
      · exact e.2) ⟨hall, fun x hx => hok x hx (hall x hx), ⟨hrow.len, hrow.le, hrow.cap, fun i u hu => RdFAt.moveX hmv (hrow.at_ i u hu)⟩⟩ (RdF.moveX hmv _ _ hvz) a1 h2 (by omega) (ho h4) (by omega)
  have HROW := Lib.hid hrow; clear hrow
  have HNT := Lib.hid hnth; clear hnth
  have HW := Lib.hid hW; clear hW
  clear hvz hok ho hnt hZ
  generalize fiR th n t = R at *
  generalize flT th t n = FR at *
  generalize myB t = bM at *
  go_enter Tryz.func41, Tryz.ntmps41
  go_wp2_with fail
  rw [HW.out]
  clear HW
  refine HM.out.mono ?_
  clear HM
  rintro e w1 ⟨rfl, hb1⟩
  have y0 := x0.keep hb1 x0.lt
  have y1 := x1.keep hb1 x1.lt
  have hbw := hb.trans (hb1.mono hb.size)
  have l0 := y0.lt
  have l1 := y1.lt
  clear x0 x1 hb1 hb
  obtain ⟨a0, a1, a2⟩ := y0.three
  obtain ⟨r0, r1, r2⟩ := y1.three
  have f0 := y1.frozen 0
  have f1 := y1.frozen 1
  have f2 := y1.frozen 2
  cases bM
  · have HBW := Lib.hid hbw; clear hbw
    go_wp2_with fail
    refine bodyPost_ret (v := .tuple #[zT, .int .i64 1]) (by simp [results, Tryz.results41, go_sem, r0, r1, r2]) rfl ?_
    exact HBAD.out (by simp) _ (below_set3 HBW.out (by omega) _ _ _)
  by_cases h2 : n < 0
  · have d1 : decide (n < 0) = true := by simpa using h2
    have d2 : decide (0 ≤ n) = false := by simp; omega
    rw [d2] at HBAD
    have HBW := Lib.hid hbw; clear hbw
    clear d2 h2
    go_wp2_with fail
    refine bodyPost_ret (v := .tuple #[zT, .int .i64 1]) (by simp [results, Tryz.results41, go_sem, r0, r1, r2]) rfl ?_
    exact HBAD.out (by simp) _ (below_set3 HBW.out (by omega) _ _ _)
  have d1 : decide (n < 0) = false := by simpa using h2
  by_cases h3 : 1000 < n
  · have d3 : decide (1000 < n) = true := by simpa using h3
    have d2 : decide (n ≤ 1000) = false := by simp; omega
    rw [d2] at HBAD
    have HBW := Lib.hid hbw; clear hbw
    clear d2 h2 h3
    go_wp2_with fail
    refine bodyPost_ret (v := .tuple #[zT, .int .i64 1]) (by simp [results, Tryz.results41, go_sem, r0, r1, r2]) rfl ?_
    exact HBAD.out (by simp) _ (below_set3 HBW.out (by omega) _ _ _)
  have d3 : decide (1000 < n) = false := by simpa using h3
  by_cases h4 : (200 : Int) < m
  · have d4 : decide ((200 : Int) < m) = true := by simpa using h4
    have hth : thB th = false := by unfold thB; rw [show decide (th.length ≤ 200) = false by simp; omega]; rfl
    rw [hth] at HBAD
    have HBW := Lib.hid hbw; clear hbw
    clear h2 h3 h4 hth
    go_wp2_with fail
    refine bodyPost_ret (v := .tuple #[zT, .int .i64 1]) (by simp [results, Tryz.results41, go_sem, r0, r1, r2]) rfl ?_
    exact HBAD.out (by simp) _ (below_set3 HBW.out (by omega) _ _ _)
  have d4 : decide ((200 : Int) < m) = false := by simpa using h4
  have HN := Lib.hid (And.intro (show 0 ≤ n by omega) (And.intro (show n ≤ 1000 by omega) (show th.length ≤ 200 by omega))); clear h2 h3 h4
  have HBW := Lib.hid hbw
  have Y0 := Lib.hid y0
  have Y1 := Lib.hid y1
  go_wp2_with fail
  clear a0 a1 a2 r0 r1 r2 f0 f1 f2 y0 y1 hbw
  go_loopw [9] (fun i wr => ∃ (j : Nat), j ≤ m ∧ i = .int .i64 j ∧ Hid ((th.drop j).all myB = th.all myB) ∧ Hid (Below w1.heap.size w1 wr)) (fun i _ => m - (intOf i).toNat)
  case atStart => exact ⟨0, Nat.zero_le _, rfl, Lib.hid (by simp), Lib.hid (Below.refl _ _)⟩
  case round =>
    obtain ⟨j, hj, rfl, HS, HBR⟩ := hrel
    have hbr := HBW.out.trans (HBR.out.mono HBW.out.size)
    have z0 := Y0.out.keep HBR.out Y0.out.lt
    have z1 := Y1.out.keep HBR.out Y1.out.lt
    have lz0 := z0.lt
    have lz1 := z1.lt
    obtain ⟨a0, a1, a2⟩ := z0.three
    by_cases hlt : j < m
    · obtain ⟨y, hy⟩ := at_of hlen hlt
      obtain ⟨bY, oY, k2, h2, A2, n2, c2, rfl, e0, e1, e2, hr⟩ := (RdAt.keep hbr (rdFAt_rd (HROW.out.at_ j y hy))).full
      have hM := refMay y _ _ hr
      rw [mayB_big (HNT.out y (List.mem_of_getElem? hy))] at hM
      have HM := Lib.hid hM; clear hM
      have hs := HS.out
      rw [drop_at hy, List.all_cons] at hs
      have HS2 := Lib.hid hs; clear hs
      generalize myB y = bm at *
      have hi0 : (0 : Int) ≤ j := by omega
      have hi1 : (j : Int) < m := by omega
      clear hr hy
      go_wp2_with fail
      refine HM.out.mono ?_
      clear HM
      rintro e w5 ⟨rfl, hb5⟩
      have v1 := z1.keep hb5 lz1
      have HB5 := Lib.hid (hbr.trans (hb5.mono hbr.size))
      have HBR5 := Lib.hid (HBR.out.trans (hb5.mono HBR.out.size))
      clear a0 a1 a2 e0 e1 e2 hb5
      obtain ⟨r0, r1, r2⟩ := v1.three
      have f0 := v1.frozen 0
      have f1 := v1.frozen 1
      have f2 := v1.frozen 2
      cases bm
      · go_wp2_with fail
        refine bodyPost_ret (v := .tuple #[zT, .int .i64 1]) (by simp [results, Tryz.results41, go_sem, r0, r1, r2]) rfl ?_
        have hall : th.all myB = false := by rw [← HS2.out]; rfl
        exact HBAD.out (by unfold thB; rw [hall]; simp) _ (below_set3 HB5.out (by omega) _ _ _)
      · go_wp2_with fail
        go_roundw
        case rel => exact ⟨j + 1, by omega, by go_num, Lib.hid (by simpa using HS2.out), HBR5⟩
        case measure => simp [intOf]; omega
    · have hjm : j = m := by omega
      subst hjm
      have hall : th.all myB = true := by rw [← HS.out, drop_all hlen (Nat.le_refl _)]; rfl
      obtain ⟨hR, hnu, hF⟩ := HGO.out hall HN.out.2.2 HN.out.1 HN.out.2.1 (by trivial)
      have HF := Lib.hid (hF wr hbr); clear hF HGO
      have HRR := Lib.hid hR; clear hR
      have HNU := Lib.hid hnu; clear hnu
      have HB2 := Lib.hid hbr
      go_wp2_with fail
      refine HF.out.mono ?_
      clear HF
      intro e w5 hE
      obtain ⟨kq, hq, Aq, nq, cq, ec, rfl, hout, hb5⟩ := hE.uni
      have v1 := z1.keep hb5 lz1
      have lv1 := v1.lt
      have HO := Lib.hid hout
      have hbD : Below w5.heap.size w5 (w5.alloc (.cells #[.int .i64 kq, .int .i64 hq, .slice Aq nq cq] 39)) := (Below.refl _ _).alloc (Nat.le_refl _) _
      have HB5 := Lib.hid (hbr.trans (hb5.mono hbr.size))
      have hsz := hb5.size
      clear a0 a1 a2 hout hE hb5 z0 z1 hbr
      obtain ⟨r0, r1, r2⟩ := v1.three
      have f0 := v1.frozen 0
      have f1 := v1.frozen 1
      have f2 := v1.frozen 2
      cases FR with
      | error e' =>
        obtain ⟨rfl, hne⟩ := HO.out
        have hne' : (ec != 0) = true := by simpa using hne
        have HR := Lib.hid (show R = .error ec from HRR.out)
        have HNE := Lib.hid hne
        clear HRR hne hbD
        go_wp2_with fail
        refine bodyPost_ret (v := .tuple #[zT, .int .i64 ec]) (by simp [results, Tryz.results41, go_sem, r0, r1, r2, lv1]) rfl ?_
        rw [HR.out]
        exact ⟨rfl, HNE.out, (below_set3 HB5.out (by omega) _ _ _).alloc (by have := HB5.out.size; simp [World.setCell]; omega) _⟩
      | ok u =>
        obtain ⟨rfl, hru⟩ := HO.out
        have hrD := RdF.moveX (ok' := fun b => ¬ Zw Z w wr b) (fun b hb hl => ⟨hb, hbD.block b hl⟩) _ _ hru
        have hM := refMay u _ _ (RX.rd hrD)
        rw [mayB_big (HNU.out u rfl)] at hM
        have HM := Lib.hid hM
        have hR : R = if myB u = true then .ok u else .error 4 := HRR.out
        clear HRR
        have HRD := Lib.hid hrD
        have u1 := v1.keep hbD lv1
        have xq := Box.new w5 39 #[.int .i64 kq, .int .i64 hq, .slice Aq nq cq]
        have HB6 := Lib.hid (HB5.out.trans (hbD.mono HB5.out.size))
        obtain ⟨bm, hbm⟩ : ∃ bm, myB u = bm := ⟨_, rfl⟩
        rw [hbm] at HM hR
        have HR := Lib.hid hR
        clear hM hR hrD hru hbD r0 r1 r2 f0 f1 f2 v1
        go_wp2_with fail
        refine HM.out.mono ?_
        clear HM
        rintro e w7 ⟨rfl, hb7⟩
        have t1 := u1.keep hb7 u1.lt
        have tq := xq.keep hb7 xq.lt
        have lt1 := t1.lt
        have HB7 := Lib.hid (HB6.out.trans (hb7.mono HB6.out.size))
        have HRD7 := Lib.hid (RdF.moveX (ok' := fun b => ¬ Zw Z w wr b) (fun b hb hl => ⟨hb, hb7.block b hl⟩) _ _ HRD.out)
        clear hb7 u1 xq HRD
        obtain ⟨r0, r1, r2⟩ := t1.three
        obtain ⟨q0, q1, q2⟩ := tq.three
        have f0 := t1.frozen 0
        have f1 := t1.frozen 1
        have f2 := t1.frozen 2
        cases bm
        · go_wp2_with fail
          refine bodyPost_ret (v := .tuple #[zT, .int .i64 4]) (by simp [results, Tryz.results41, go_sem, r0, r1, r2]) rfl ?_
          rw [HR.out]
          exact ⟨rfl, by decide, below_set3 HB7.out (by omega) _ _ _⟩
        · go_wp2_with fail
          refine bodyPost_ret (v := .tuple #[.agg #[.int .i64 kq, .int .i64 hq, .slice Aq nq cq], .int .i64 0]) (by simp [results, Tryz.results41, go_sem, r0, r1, r2]) rfl ?_
          rw [HR.out]
          exact ⟨kq, hq, Aq, nq, cq, rfl, RdF.moveX (fun b hb hl => ⟨fun e => hb (.inl e), heap_other3 _ _ _ _ _ _ (fun e => hb (.inr (by omega)))⟩) _ _ HRD7.out, below_set3 HB7.out (by omega) _ _ _⟩
end Go.Proofs.YtbbjjdnnlnabaaaGreat
namespace Go.Proofs.YtbbjjdnnlnabaaaGreat
open Go.ChangeShapes Go.WideShapes Go.ChangeAt Go.RowKit
set_option linter.unusedVariables false
set_option linter.unusedSimpArgs false
set_option maxHeartbeats 1000000
set_option maxRecDepth 100000
def RcE (r : Except Int (List T × Nat)) (w : World) (e : Ending) (w' : World) : Prop :=
  match r with
  | .error ec => e = .returned (.tuple #[.slice none 0 0, .int .i64 ec]) ∧ ec ≠ 0 ∧ Below w.heap.size w w'
  | .ok (ys, _) => ∃ A n cc, e = .returned (.tuple #[.slice A n cc, .int .i64 0]) ∧ RXL (fun _ => False) w' ys A n cc ∧ Below w.heap.size w w'
structure ThU (th : List T) (w : World) (A : Option Addr) (m cL : Nat) : Prop where
  inn : ThI th w A m cL
  nd : ∀ x ∈ th, Go.Proofs.YtbbjjdnnlnabaaaGreat.nd x ≤ 1099511627776
theorem rFillW {th : List T} {t : T} {A : Option Addr} {m cL : Nat} {n : Int} {v : Value} {w W : World} (hb : Below w.heap.size w W) (hth : ThU th w A m cL) (hv : Rd w t v) (hnt : nd t ≤ 1099511627776) (ho : myB t = true → okT 2199023255552 t) :
    Calls Tryz.prog 41 #[v, .slice A m cL, .int .i64 n] W (FzE (fun b => w.heap.size ≤ b ∧ b < W.heap.size) (fiR th n t) W) :=
  (rFillC W (fun b e => e.2) (rd_rxl (X := fun b => w.heap.size ≤ b ∧ b < W.heap.size) hb (fun b e => e.1) hth.inn.len hth.inn.le hth.inn.cap hth.inn.at_) (rd_rx (X := fun b => w.heap.size ≤ b ∧ b < W.heap.size) hb (fun b e => e.1) t _ hv) hnt hth.nd hth.inn.ok ho).mono fun e w' h => h.fze
theorem eaL_one {g : Nat → T → Nat → Res} {i c : Nat} {x : T} {xs : List T} : eaL g (x :: xs) i c = match g i x c with
    | .error e => .error e
    | .ok (y, c1) => contL [y] (eaL g xs (i + 1) c1) := by
  rw [eaL]
  cases g i x c with
  | error e => rfl
  | ok p =>
    obtain ⟨y, c1⟩ := p
    simp only
    cases eaL g xs (i + 1) c1 with
    | error e => rfl
    | ok q => obtain ⟨zs, c2⟩ := q; rfl
structure RcI (th : List T) (n : Int) (xs : List T) (w : World) (j : Nat) (wr : World) (v : Value) (cs : List Value) (ys : List T) : Prop where
  row : GRow (fun _ => False) wr w.heap.size v j cs ys
  below : Below w.heap.size w wr
  eq : cxL th n xs = contL ys (eaL (fun i t c => wc (fiR th (wrap64 (n + i)) t) c) (xs.drop j) j 0)
theorem rCtxC {th xs : List T} {A Al : Option Addr} {m cL nl cl : Nat} {n : Int} (w : World) (hth : ThU th w A m cL) (hl : xs.length = nl) (hlc : nl ≤ cl) (hlm : cl ≤ maxLen) (hl40 : nl ≤ 100000000) (hx : ∀ i t, xs[i]? = some t → RdAt w Al i t) (hnx : ∀ t ∈ xs, nd t ≤ 1099511627776) (ho : ∀ t ∈ xs, myB t = true → okT 2199023255552 t) :
    Calls Tryz.prog 40 #[.slice Al nl cl, .slice A m cL, .int .i64 n] w (RcE (cxL th n xs) w) := by
  unfold maxLen at hlm
  have HI : Hid (RcI th n xs w 0 w (.slice none 0 0) [] []) := Lib.hid ⟨GRow.nil _ _ _, Below.refl _ _, by rw [contL_nil, List.drop_zero]⟩
  have HTH := Lib.hid hth; clear hth
  have HX := Lib.hid hx; clear hx
  have HN := Lib.hid hl; clear hl
  have HNX := Lib.hid hnx; clear hnx
  have HO := Lib.hid ho; clear ho
  go_enter Tryz.func40, Tryz.ntmps40
  go_wp2_with fail
  go_loopw [8, 9] (fun v i wr => ∃ (j : Nat) (Av : Option Addr) (cv : Nat) (cs : List Value) (ys : List T), j ≤ nl ∧ i = .int .i64 j ∧ v = .slice Av j cv ∧ Hid (RcI th n xs w j wr (.slice Av j cv) cs ys)) (fun _ i _ => nl - (intOf i).toNat)
  case atStart => exact ⟨0, none, 0, [], [], Nat.zero_le _, rfl, rfl, HI⟩
  case round =>
    clear HI
    obtain ⟨j, Av, cv, cs, ys, hj, rfl, rfl, HI⟩ := hrel
    by_cases hlt : j < nl
    · obtain ⟨x, hx⟩ := at_of HN.out hlt
      have hmem := List.mem_of_getElem? hx
      obtain ⟨bA, oA, k2, h2, A2, n2, c2, rfl, e0, e1, e2, hr⟩ := (HX.out j x hx).full
      have hbr := HI.out.below
      replace e0 := (hbr.cell (cell_lt e0)).trans e0
      replace e1 := (hbr.cell (cell_lt e1)).trans e1
      replace e2 := (hbr.cell (cell_lt e2)).trans e2
      have hF := rFillW (n := wrap64 (n + j)) hbr HTH.out hr (HNX.out x hmem) (HO.out x hmem)
      have heq := HI.out.eq
      rw [drop_at hx, eaL_one] at heq
      have HEQ := Lib.hid heq; clear heq
      have hsum : IntKind.i64.wrap (n + (j : Int)) = wrap64 (n + j) := wrapEq _
      generalize hR : fiR th (wrap64 (n + j)) x = R at *
      have HR := Lib.hid hR; clear hR
      generalize wrap64 (n + (j : Int)) = s at *
      have HF := Lib.hid hF; clear hF hr hx
      have hi0 : (0 : Int) ≤ j := by omega
      have hi1 : (j : Int) < nl := by omega
      have hob : ∀ g, Value.ownBlock (.slice Av j cv) = some g → w.heap.size ≤ g ∧ g < wr.heap.size := fun g hg => HI.out.row.lt hg
      have HOB := Lib.hid hob; clear hob
      have HBR := Lib.hid hbr; clear hbr
      go_wp2_with fail
      refine HF.out.mono ?_
      clear HF e0 e1 e2
      intro e w5 hE
      obtain ⟨kq, hq, Aq, nq, cq, ec, rfl, hout, hb5⟩ := hE.uni
      have hbD : Below w5.heap.size w5 (w5.alloc (.cells #[.int .i64 kq, .int .i64 hq, .slice Aq nq cq] 39)) := (Below.refl _ _).alloc (Nat.le_refl _) _
      have xq := Box.new w5 39 #[.int .i64 kq, .int .i64 hq, .slice Aq nq cq]
      have hsz := hb5.size
      have hb6 := hb5.trans (hbD.mono hb5.size)
      cases R with
      | error e' =>
        obtain ⟨rfl, hne⟩ := hout
        have hne' : (ec != 0) = true := by simpa using hne
        have HNE := Lib.hid hne
        have HB6 := Lib.hid (HBR.out.trans (hb6.mono HBR.out.size))
        have hcx : cxL th n xs = .error ec := by rw [HEQ.out]; rfl
        have HCX := Lib.hid hcx
        clear hE hne hb5 hb6 hbD xq hcx
        go_wp2_with fail
        go_ret2
        rw [HCX.out]
        exact ⟨rfl, HNE.out, HB6.out⟩
      | ok y =>
        obtain ⟨rfl, hry⟩ := hout
        generalize hW6 : w5.alloc (.cells #[.int .i64 kq, .int .i64 hq, .slice Aq nq cq] 39) = W6 at *
        have HW6 := Lib.hid hW6; clear hW6
        have hg6 : GRow (fun _ => False) W6 w.heap.size (.slice Av j cv) j cs ys := HI.out.row.move (fun b hb _ => hb6.block b hb) (fun g hg e => e)
        have hrys : RdF (fun b => ¬ False ∧ some b ≠ Value.ownBlock (.slice Av j cv)) W6 y (.agg #[.int .i64 kq, .int .i64 hq, .slice Aq nq cq]) := RdF.moveX (fun b hb hl => ⟨⟨fun e => e, fun e => hb (HOB.out b e.symm)⟩, hbD.block b hl⟩) _ _ hry
        have hszD := hbD.size
        have hsz0 := HBR.out.size
        obtain ⟨g, cap, w4, hrun, hrow, hold, hb4⟩ := hg6.push hrys (by omega) (by omega)
        have hcx : cxL th n xs = contL (ys ++ [y]) (eaL (fun i t c => wc (fiR th (wrap64 (n + i)) t) c) (xs.drop (j + 1)) (j + 1) 0) := by
          rw [HEQ.out]
          simp only [wc]
          rw [contL_contL]
        have HJ : Hid (RcI th n xs w (j + 1) w4 (.slice (some ⟨g, 0, none⟩) (j + 1) cap) (cs ++ [.int .i64 kq, .int .i64 hq, .slice Aq nq cq]) (ys ++ [y])) := Lib.hid
          ⟨hrow, (HBR.out.trans (hb6.mono HBR.out.size)).trans hb4, hcx⟩
        obtain ⟨c0, c1, c2⟩ := xq.three
        have lxq := xq.lt
        clear hg6 hrys hrow hold hb4 hry hb6 hb5 hbD hE hcx
        have hszW : W6.heap.size = w5.heap.size + 1 := by rw [← HW6.out]; simp
        rw [hszW, ← HW6.out] at hrun
        clear hszW
        go_wp2_with (at_builtin; refine Lib.wpList_append_run _ rfl _ _ _ _ rfl _ _ rfl rfl _ _ hrun ?_)
        go_roundw
        case rel => exact ⟨j + 1, some ⟨g, 0, none⟩, cap, _, _, by omega, by go_num, rfl, HJ⟩
        case measure => simp [intOf]; omega
    · obtain rfl : j = nl := by omega
      have hend : cxL th n xs = .ok (ys, 0) := by
        rw [HI.out.eq, drop_all HN.out (Nat.le_refl _), eaL]
        simp [contL]
      have hrl := HI.out.row.rxl (fun b hb => hb.elim)
      have HRL := Lib.hid (And.intro hrl HI.out.below)
      have HEND := Lib.hid hend
      clear hrl hend
      go_wp2_with fail
      go_ret2
      rw [HEND.out]
      exact ⟨Av, j, cv, rfl, HRL.out.1, HRL.out.2⟩
end Go.Proofs.YtbbjjdnnlnabaaaGreat
