/- Texts of one proof, put together. No statement is proved here. -/
import Derived.Test.YtbbjjdnnlnabaaaGreatPkT
import Derived.Test.YtbbjjdnnlnabaaaGreatZt
namespace Go.Proofs.YtbbjjdnnlnabaaaGreat
open Go.ChangeShapes Go.WideShapes Go.ChangeAt Go.RowKit
set_option linter.unusedVariables false
set_option linter.unusedSimpArgs false
set_option maxRecDepth 100000
set_option maxHeartbeats 16000000
abbrev X3 (X : Nat → Prop) (w : World) (b : Nat) : Prop := X b ∨ b = w.heap.size ∨ b = w.heap.size + 1 ∨ b = w.heap.size + 2
abbrev Xr (X : Nat → Prop) (w wr : World) (b : Nat) : Prop := X b ∨ (w.heap.size ≤ b ∧ b < wr.heap.size)
def QRz (pw : Nat) (X : Nat → Prop) (w' : World) (k h : Int) (A : Option Addr) (n c : Nat) (r : Res) : Prop :=
  match r with
  | .ok (t, m) => RX X w' t (.agg #[.int .i64 k, .int .i64 h, .slice A n c]) ∧ wk2 w' pw m 0
  | .error ec => ec ≠ 0 ∧ (∃ m, wk2 w' pw m ec) ∧ Value.agg #[.int .i64 k, .int .i64 h, .slice A n c] = zT
theorem QRz.keep {pw : Nat} {X : Nat → Prop} {w w' : World} {k h : Int} {A : Option Addr} {n c : Nat} {r : Res} (q : QRz pw X w k h A n c r) (hb : Below w.heap.size w w') : QRz pw X w' k h A n c r := by
  cases r with
  | error ec =>
    obtain ⟨h1, ⟨m, h2⟩, h3⟩ := q
    exact ⟨h1, ⟨m, h2.keep hb h2.lt⟩, h3⟩
  | ok p =>
    obtain ⟨t, m⟩ := p
    exact ⟨RX.adv q.1 (Adv.below hb), q.2.keep hb q.2.lt⟩
theorem QRz.mono {pw : Nat} {X Y : Nat → Prop} {w : World} {k h : Int} {A : Option Addr} {n c : Nat} {r : Res} (q : QRz pw X w k h A n c r) (hy : ∀ i, i < w.heap.size → Y i → X i) : QRz pw Y w k h A n c r := by
  cases r with
  | error ec => exact q
  | ok p =>
    obtain ⟨t, m⟩ := p
    exact ⟨RX.mono q.1 hy, q.2⟩
theorem Fr.thenB {X : Nat → Prop} {a b c : World} {B : Nat} (h : Fr X a b) (k : Below B b c) (hB : a.heap.size ≤ B) : Fr X a c :=
  ⟨k.os.trans h.os, k.tape.trans h.tape, k.output.trans h.output, Nat.le_trans h.size k.size, fun i hi hx => (k.block i (by omega)).trans (h.block i hi hx)⟩
structure RaI (f : Nat) (L : List T) (sh : Int) (u : Nat) (k h : Int) (xs : List T) (n0 : Nat) (An : Option Addr) (nn cc : Nat) (w : World) (pw : Nat) (X : Nat → Prop) (A : Option Addr) (m c j : Nat) (wr : World) (v : Value) (cs : List Value) (ys : List T) (n1 : Nat) : Prop where
  tb : Box wr w.heap.size 39 #[.int .i64 k, .int .i64 h, .slice An nn cc]
  sb : Box wr (w.heap.size + 1) 105 #[.slice A m c, .int .i64 (sh + u)]
  res : Box wr (w.heap.size + 2) 39 #[.int .i64 0, .int .i64 0, .slice none 0 0]
  row : GRow (X3 X w) wr (w.heap.size + 3) v j cs ys
  fr : Fr (fun k => k = pw) w wr
  wk : wk2 wr pw n1 0
  lo : n0 ≤ n1
  hi : n1 ≤ 40000
  eq : apL (fun u' x m => ap f L sh u' x m) k xs.length u xs 0 n0 = contL ys (apL (fun u' x m => ap f L sh u' x m) k xs.length u (xs.drop j) j n1)
def SAp (z bA oA j nn cc p : Nat) (k2 h2 : Int) (A2 : Option Addr) (n2 c2 : Nat) (B2 : Option Addr) (m2 d2 : Nat) (s2 : Int) (w' : World) : Prop :=
  w'.cell? ⟨z, 2, none⟩ = some (.slice (some ⟨bA, oA, none⟩) nn cc) ∧ w'.cell? ⟨bA, oA + j * 3, none⟩ = some (.int .i64 k2) ∧ w'.cell? ⟨bA, oA + j * 3 + 1, none⟩ = some (.int .i64 h2) ∧ w'.cell? ⟨bA, oA + j * 3 + 2, none⟩ = some (.slice A2 n2 c2) ∧
    w'.cell? ⟨p, 0, none⟩ = some (.slice B2 m2 d2) ∧ w'.cell? ⟨p, 1, none⟩ = some (.int .i64 s2)
theorem apL_cons {A : Nat → T → Nat → Res} {k : Int} {m u i n : Nat} {x : T} {xs : List T} : apL A k m u (x :: xs) i n = match A (u + bdn k m i) x n with
    | .error e => .error e
    | .ok (y, n') => contL [y] (apL A k m u xs (i + 1) n') := by
  rw [apL]
  cases A (u + bdn k m i) x n with
  | error e => rfl
  | ok p =>
    obtain ⟨y, n'⟩ := p
    simp only
    cases apL A k m u xs (i + 1) n' with
    | error e => rfl
    | ok q => obtain ⟨ys, n''⟩ := q; rfl
theorem ap_step {f : Nat} {L : List T} {sh k h : Int} {u n : Nat} {xs : List T} (hmax : ¬ 40000 < n + 1) :
    (∀ e, apL (fun u' x m => ap f L sh u' x m) k xs.length u xs 0 (n + 1) = .error e → ap (f + 1) L sh u (.node k h xs) n = .error e) ∧
    (∀ args n1, apL (fun u' x m => ap f L sh u' x m) k xs.length u xs 0 (n + 1) = .ok (args, n1) → ap (f + 1) L sh u (.node k h xs) n = if k = 4 ∧ (u : Int) ≤ h then spL (fun a x m => ap f [a] 0 0 x m) (mpT L sh (h - u) u) args n1 else .ok (.node k h args, n1)) :=
  ⟨fun e he => by rw [ap, if_neg hmax, he], fun args n1 he => by rw [ap, if_neg hmax, he]⟩
theorem contL_contL (ys zs : List T) (r : Except Int (List T × Nat)) : contL ys (contL zs r) = contL (ys ++ zs) r := by
  cases r with
  | error e => rfl
  | ok p => obtain ⟨qs, m⟩ := p; simp [contL]
theorem rapplyC {f : Nat} (hA : QpC f) (hSP : QsC f) : QpC (f + 1) := by
  intro L sh u t n v w pw X A m c hf hu hn hL6 hs ht hnt hX hbn hwk hrl hv
  obtain ⟨k, h, xs⟩ := t
  have hv' := hv
  obtain ⟨An, nn, cc, rfl, wfk, wfh, hl, hnc, hcm, hxs⟩ := RdF_node.1 hv
  clear hv
  have hMM := hcm
  unfold maxLen at hcm
  have hnn : nn ≤ 200000000 := by rw [nd] at hnt; have := (wdL_nd xs).2; omega
  have lpw := hwk.lt
  have hsut := su_un hs hu hn
  have hsg := hs.lo
  have hsh := hs.hi
  have hheads : k = 4 → 0 ≤ h ∧ h ≤ bt n - sh := fun e => by have := ht.ok; rw [okT] at this; exact this.1 e
  have hbt : bt n = 562949953421312 + n * 1048576 := rfl
  have HBT := Lib.hid hbt; clear hbt
  have HF := Lib.hid hf; clear hf
  have HX := Lib.hid hX; clear hX
  have HBN := Lib.hid hbn; clear hbn
  have HAP := Lib.hid hA; clear hA
  have HSPC := Lib.hid hSP; clear hSP
  have HRL := Lib.hid hrl; clear hrl
  have HV := Lib.hid hv'; clear hv'
  have HXS := Lib.hid hxs; clear hxs
  have HN := Lib.hid hl; clear hl
  have HS := Lib.hid hs; clear hs
  have HT := Lib.hid ht; clear ht
  have HND := Lib.hid hnt; clear hnt
  have HL6 := Lib.hid hL6; clear hL6
  have HSU := Lib.hid hsut; clear hsut
  have HHD := Lib.hid hheads; clear hheads
  have HWF := Lib.hid (And.intro wfk wfh); clear wfk wfh
  obtain ⟨q0, q9⟩ := hwk.two
  have q1 := hwk.frozen 0
  obtain ⟨W, hW⟩ : ∃ W, (((w.setCell ⟨pw, 0, none⟩ (.int .i64 ((n : Int) + 1))).alloc (.cells #[.int .i64 k, .int .i64 h, .slice An nn cc] 39)).alloc (.cells #[.slice A m c, .int .i64 (sh + u)] 105)).alloc (.cells #[.int .i64 0, .int .i64 0, .slice none 0 0] 39) = W := ⟨_, rfl⟩
  have sz : (w.setCell ⟨pw, 0, none⟩ (.int .i64 ((n : Int) + 1))).heap.size = w.heap.size := by simp [World.setCell]
  have hb : Below w.heap.size (w.setCell ⟨pw, 0, none⟩ (.int .i64 ((n : Int) + 1))) W := by rw [← hW]; exact (((Below.refl _ _).alloc (by omega) _).alloc (by simp) _).alloc (by simp; omega) _
  have x0 : Box W w.heap.size 39 #[.int .i64 k, .int .i64 h, .slice An nn cc] := by rw [← hW]; exact (((Box.new _ _ _).at (by omega)).alloc _).alloc _
  have x1 : Box W (w.heap.size + 1) 105 #[.slice A m c, .int .i64 (sh + u)] := by rw [← hW]; exact ((Box.new _ _ _).at (by simp [sz])).alloc _
  have x2 : Box W (w.heap.size + 2) 39 #[.int .i64 0, .int .i64 0, .slice none 0 0] := by rw [← hW]; exact (Box.new _ _ _).at (by simp [sz])
  have xw : wk2 W pw (n + 1) 0 := hwk.count.keep hb (by omega)
  have hfrW : Fr (fun k => k = pw) w W := by
    refine ⟨hb.os, hb.tape, hb.output, by have := hb.size; omega, fun i hi e => (hb.block i hi).trans (Below.heap_setCell _ _ _ _ e)⟩
  have HW := Lib.hid hW; clear hW sz hb hwk
  have lpw1 : pw < w.heap.size + 1 := by omega
  have lpw2 : pw < w.heap.size + 1 + 1 := by omega
  by_cases hmax : 40000 < n + 1
  · have heq : ap (f + 1) L sh u (.node k h xs) n = .error 4 := by rw [ap, if_pos hmax]
    have HE := Lib.hid heq; clear heq
    have hd : decide ((40000 : Int) < (n : Int) + 1) = true := by simp; omega
    go_enter Tryz.func96, Tryz.ntmps96
    go_wp2_with fail
    rw [HW.out]
    clear HW
    refine (rfailC pw (n + 1) 4 W xw).mono ?_
    rintro e w2 ⟨rfl, hfr, zw2⟩
    have y1 := x2.fr hfr (by omega)
    have HFR2 := Lib.hid (hfrW.trans hfr fun i _ e => e)
    obtain ⟨r0, r1, r2⟩ := y1.three
    have f0 := y1.frozen 0
    have f1 := y1.frozen 1
    have f2 := y1.frozen 2
    clear hfr y1 q0 q1 q9 x0 x1 x2 xw hfrW
    have HZ := Lib.hid zw2; clear zw2
    go_wp2_with fail
    refine bodyPost_ret (v := zT) (by simp [results, Tryz.results96, go_sem, r0, r1, r2]) rfl ?_
    rw [HE.out]
    exact ⟨_, _, _, _, _, rfl, HFR2.out.set3 (fun h => by omega) _ _ _, by omega, ⟨n + 1, HZ.out.other3 (by omega) _ _ _⟩, rfl⟩
  · have hd : decide ((40000 : Int) < (n : Int) + 1) = false := by simp; omega
    have HI : Hid (RaI f L sh u k h xs (n + 1) An nn cc w pw X A m c 0 W (.slice none 0 0) [] [] (n + 1)) := Lib.hid ⟨x0, x1, x2, GRow.nil _ _ _, hfrW, xw, Nat.le_refl _, by omega, by rw [contL_nil, List.drop_zero]⟩
    have heq := ap_step (f := f) (L := L) (sh := sh) (u := u) (k := k) (h := h) (xs := xs) hmax
    have HE := Lib.hid heq; clear heq
    clear x0 x1 x2 xw hfrW
    go_enter Tryz.func96, Tryz.ntmps96
    go_wp2_with fail
    rw [HW.out]
    clear HW q0 q1 q9 hd
    go_loopw [7, 8] (fun v i wr => ∃ (j : Nat) (Av : Option Addr) (cv : Nat) (cs : List Value) (ys : List T) (n1 : Nat), j ≤ nn ∧ i = .int .i64 j ∧ v = .slice Av j cv ∧ Hid (RaI f L sh u k h xs (n + 1) An nn cc w pw X A m c j wr (.slice Av j cv) cs ys n1)) (fun _ i _ => nn - (intOf i).toNat)
    case atStart => exact ⟨0, none, 0, [], [], n + 1, Nat.zero_le _, rfl, rfl, HI⟩
    case round =>
      clear HI
      obtain ⟨j, Av, cv, cs, ys, n1, hj, rfl, rfl, HI⟩ := hrel
      obtain ⟨c0, c1, c2⟩ := HI.out.tb.three
      obtain ⟨d0, d1⟩ := HI.out.sb.two
      have l0 := HI.out.tb.lt
      have l1 := HI.out.sb.lt
      have l2 := HI.out.res.lt
      have lw := HI.out.wk.lt
      by_cases hlt : j < nn
      · obtain ⟨t, ht⟩ := at_of HN.out hlt
        obtain ⟨bA, oA, k2, h2, A2, n2, c2', rfl, e0, e1, e2, hr⟩ := (HXS.out j t ht).full
        have hbA : ¬ X bA := by
          obtain ⟨b', o', _, _, _, e, hb', _⟩ := HXS.out j t ht
          injection e with e; injection e with e3 e4
          rw [e3]; exact hb'
        have hbApw : bA ≠ pw := fun e => hbA (e ▸ HX.out)
        have lA := cell_lt e0
        dsimp only at lA
        have hmA : ∀ q, wr.cell? ⟨bA, q, none⟩ = w.cell? ⟨bA, q, none⟩ := fun q => World.cell?_of_block (HI.out.fr.block bA lA hbApw)
        replace e0 := (hmA _).trans e0
        replace e1 := (hmA _).trans e1
        replace e2 := (hmA _).trans e2
        clear hmA
        have lA2 : bA < wr.heap.size := Nat.lt_of_lt_of_le lA HI.out.fr.size
        have HTT := Lib.hid ht; clear ht
        have HR := Lib.hid hr; clear hr
        have hi0 : (0 : Int) ≤ j := by omega
        have hi1 : (j : Int) < nn := by omega
        have lo1 := HI.out.lo
        have hi4 := HI.out.hi
        have szr := HI.out.fr.size
        go_wp2_with fail
        obtain ⟨Wb, hWb⟩ : ∃ Wb, wr.alloc (.cells #[.slice A m c, .int .i64 (sh + u)] 105) = Wb := ⟨_, rfl⟩
        have hbb : Below wr.heap.size wr Wb := by rw [← hWb]; exact (Below.refl _ _).alloc (Nat.le_refl _) _
        have xb : Box Wb wr.heap.size 105 #[.slice A m c, .int .i64 (sh + u)] := by rw [← hWb]; exact Box.new _ _ _
        rw [hWb]
        clear hWb
        have hBI := refBinds k h (some ⟨bA, oA, none⟩) nn cc hnc hMM j (by unfold maxLen; omega) Wb
        refine hBI.mono ?_
        clear hBI
        rintro e w1 ⟨rfl, hb1⟩
        replace xb := xb.keep hb1 xb.lt
        replace hbb := hbb.trans (hb1.mono hbb.size)
        clear hb1 c0 c1 c2 d0 d1
        have hbd := bd_bdn k nn j
        have hbl := bdn_le k nn j
        have y0 := HI.out.tb.keep hbb l0
        have y1 := HI.out.sb.keep hbb l1
        obtain ⟨c0, c1, c2⟩ := y0.three
        obtain ⟨d0, d1⟩ := y1.two
        have HRLb := HRL.out.adv (Adv.fr (X := X) HI.out.fr (fun i _ e => by subst e; exact HX.out))
        have hcase : bdn k nn j = 0 ∨ bdn k nn j = 1 := by omega
        obtain ⟨u2, hu2⟩ : ∃ u2, u2 = u + bdn k nn j := ⟨_, rfl⟩
        have HU2 := Lib.hid hu2; clear hu2
        rcases hcase with hz | hz
        focus
          rw [hbd, hz]
          obtain ⟨W2, hW2⟩ : ∃ W2, W2 = w1 := ⟨_, rfl⟩
          obtain ⟨s2, hs2⟩ : ∃ s2 : Int, s2 = sh + u := ⟨_, rfl⟩
          have HS2 : Hid (s2 = sh + (u2 : Int)) := Lib.hid (by rw [hs2, HU2.out, hz, Nat.add_zero])
          obtain ⟨B2, m2, d2, hB2⟩ : ∃ B2 m2 d2, B2 = A ∧ m2 = m ∧ d2 = c := ⟨_, _, _, rfl, rfl, rfl⟩
          have HRL2 : Hid (RXL (Xr X w wr) W2 (unN u2 L) B2 m2 d2) := Lib.hid (by
            have e9 : unN u2 L = unN u L := by rw [HU2.out, hz, Nat.add_zero]
            rw [e9, hW2, hB2.1, hB2.2.1, hB2.2.2]
            refine ⟨HRL.out.len, HRL.out.le, HRL.out.cap, fun i x hx => RdFAt.moveX (w := w) (fun b hb hl => ⟨fun e => ?_, ?_⟩) (HRL.out.at_ i x hx)⟩
            · rcases e with e | e
              · exact hb e
              · omega
            · exact (hbb.block b (by omega)).trans (HI.out.fr.block b hl (fun e => hb (e ▸ HX.out))))
          rw [← hs2] at xb
          rw [← hB2.1, ← hB2.2.1, ← hB2.2.2, ← hW2] at xb
          rw [← hW2] at hbb y0 y1 c0 c1 c2 d0 d1 ⊢
          obtain ⟨b0, b1⟩ := xb.two
          have lxb := xb.lt
          clear hz hbd hbl hW2 hs2 hB2 HRLb
          simp only [Int.natCast_zero]
          go_wp2_with fail
        rotate_left 1
        focus
          rw [hbd, hz]
          obtain ⟨b0, b1⟩ := xb.two
          have g0 := xb.frozen 0
          have g1 := xb.frozen 1
          have lxb := xb.lt
          have hrx := HRLb.adv (Adv.below (X := X) hbb)
          have hU := runderC (M := unN u L) (A := A) (n := m) (c := c) (s := sh + u) (w := w1) hrx.len hrx.le hrx.cap (fun i x hx => rdFAt_rd (hrx.at_ i x hx)) (fun x hx => by have := (HSU.out.all x hx).2.2; omega) (by have h1 := hrx.len; have h2 := HL6.out; rw [unN_len] at h1; omega)
          rw [rnd_un HSU.out, unN_succ, wrap_small (by omega) (by omega)] at hU
          have HUN := Lib.hid hU; clear hU hrx HRLb
          go_wp2_with fail
          refine HUN.out.mono ?_
          clear HUN
          rintro e w2 ⟨B2, m2, d2, rfl, hrl2, hb2⟩
          obtain ⟨s2, hs2⟩ : ∃ s2 : Int, s2 = sh + u + 1 := ⟨_, rfl⟩
          rw [← hs2]
          have HS2 : Hid (s2 = sh + (u2 : Int)) := Lib.hid (by rw [hs2, HU2.out, hz]; omega)
          clear hs2
          replace xb := xb.keep hb2 lxb
          have hbs := hbb.trans (hb2.mono hbb.size)
          obtain ⟨W2, hW2⟩ : ∃ W2, W2 = (w2.setCell ⟨wr.heap.size, 0, none⟩ (.slice B2 m2 d2)).setCell ⟨wr.heap.size, 1, none⟩ (.int .i64 s2) := ⟨_, rfl⟩
          have hW2b : ∀ b, b ≠ wr.heap.size → W2.heap[b]? = w2.heap[b]? := fun b hb => by rw [hW2]; exact (Below.heap_setCell _ _ _ _ hb).trans (Below.heap_setCell _ _ _ _ hb)
          have hW2s : W2.heap.size = w2.heap.size := by rw [hW2]; simp [World.setCell]
          have HRL2 : Hid (RXL (Xr X w wr) W2 (unN u2 L) B2 m2 d2) := Lib.hid (by
            have e9 : unN u2 L = unN (u + 1) L := by rw [HU2.out, hz]
            rw [e9]
            refine ⟨hrl2.len, hrl2.le, hrl2.cap, fun i x hx => RdFAt.moveX (w := w2) (fun b hb hl => ⟨fun e => ?_, ?_⟩) (hrl2.at_ i x hx)⟩
            · have := hbb.size
              rcases e with e | e
              · have := HBN.out b e; omega
              · omega
            · exact hW2b b (fun e => hb (by omega)))
          have xb2 : Box W2 wr.heap.size 105 #[.slice B2 m2 d2, .int .i64 s2] := by rw [hW2]; exact xb.put2 _ _
          have hbb2 : Below wr.heap.size wr W2 := by rw [hW2]; exact (hbs.setCell (Nat.le_refl _) _).setCell (Nat.le_refl _) _
          clear c0 c1 c2 d0 d1 b0 b1 g0 g1 y0 y1
          have y0 := HI.out.tb.keep hbs l0
          have y1 := HI.out.sb.keep hbs l1
          obtain ⟨b0, b1⟩ := xb.two
          have g0 := xb.frozen 0
          have g1 := xb.frozen 1
          replace lxb := xb.lt
          clear hrl2 hb2 hbs hz hbd hbl
          have HW2 := Lib.hid hW2; clear hW2
          go_wp2_with fail
          rw [← HW2.out]
          clear hbb xb b0 b1 g0 g1 lxb y0 y1
          have hbb := hbb2
          have xb := xb2
          have lxb := xb.lt
          clear hbb2 xb2 HW2 hW2b hW2s
          obtain ⟨b0, b1⟩ := xb.two
          have y0 := HI.out.tb.keep hbb l0
          have y1 := HI.out.sb.keep hbb l1
          obtain ⟨c0, c1, c2⟩ := y0.three
          obtain ⟨d0, d1⟩ := y1.two
        rotate_left 1
        all_goals
          have HKS : Hid (∀ w' : World, (∀ g, g < W2.heap.size → g ≠ pw → w'.heap[g]? = W2.heap[g]?) → SAp w.heap.size bA oA j nn cc wr.heap.size k2 h2 A2 n2 c2' B2 m2 d2 s2 w') := Lib.hid fun w' hw' => by
            have szb := hbb.size
            have m1 : ∀ q, w'.cell? ⟨w.heap.size, q, none⟩ = W2.cell? ⟨w.heap.size, q, none⟩ := fun q => World.cell?_of_block (hw' w.heap.size (by omega) (by omega))
            have mB : ∀ q, w'.cell? ⟨wr.heap.size, q, none⟩ = W2.cell? ⟨wr.heap.size, q, none⟩ := fun q => World.cell?_of_block (hw' wr.heap.size lxb (by omega))
            have mA : ∀ q, w'.cell? ⟨bA, q, none⟩ = wr.cell? ⟨bA, q, none⟩ := fun q => (World.cell?_of_block (hw' bA (by omega) hbApw)).trans (World.cell?_of_block (hbb.block bA lA2))
            exact ⟨(m1 _).trans c2, (mA _).trans e0, (mA _).trans e1, (mA _).trans e2, (mB _).trans b0, (mB _).trans b1⟩
          have hS := HKS.out W2.drew fun g hg _ => rfl
          have HCALL : Hid (∀ (W' : World) (Xe : Nat → Prop), Below W2.heap.size W2 W' → (∀ b, Xe b → W2.heap.size ≤ b ∧ b < W'.heap.size) → Calls Tryz.prog 96 #[.pointer (some ⟨pw, 0, none⟩), .agg #[.int .i64 k2, .int .i64 h2, .slice A2 n2 c2'], .agg #[.slice B2 m2 d2, .int .i64 s2]] W' (fun e w' => QEnd pw (fun b => Xr X w wr b ∨ Xe b) W' (ap f L sh u2 t n1) e w' ∧ Fr (fun k => k = pw) W2 w')) := Lib.hid fun W' Xe hW' hXe => by
            have szb := hbb.size
            have szw := hW'.size
            have hbu := bdn_le k nn j
            have hu2 := HU2.out
            rw [HS2.out]
            have h9 := HAP.out L sh u2 t n1 (.agg #[.int .i64 k2, .int .i64 h2, .slice A2 n2 c2']) W' pw (fun b => Xr X w wr b ∨ Xe b) B2 m2 d2 (by have := HF.out; omega) (by omega) hi4 HL6.out (HS.out.mono (bt_mono (by omega))) ((HT.out.args (List.mem_of_getElem? HTT.out)).mono (by have := bt_mono (show n ≤ n1 by omega); omega)) (by have h1 := HND.out; rw [nd] at h1; have := nd_mem (List.mem_of_getElem? HTT.out); omega)
              (.inl (.inl HX.out)) (fun b e => by
                rcases e with (e | e) | e
                · have := HBN.out b e; omega
                · omega
                · exact (hXe b e).2) ((HI.out.wk.keep hbb lw).keep hW' (by omega)) ⟨HRL2.out.len, HRL2.out.le, HRL2.out.cap, fun i x hx => RdFAt.moveX (w := W2) (fun b hb hl => ⟨fun e => by
                  rcases e with e | e
                  · exact hb e
                  · have := (hXe b e).1; omega, hW'.block b hl⟩) (HRL2.out.at_ i x hx)⟩ (RdF.moveX (w := w) (fun b hb hl => ⟨fun e => by
                  rcases e with (e | e) | e
                  · exact hb e
                  · omega
                  · have := (hXe b e).1; omega, ((hW'.block b (by omega)).trans (hbb.block b (by omega))).trans (HI.out.fr.block b hl (fun e => hb (e ▸ HX.out)))⟩) _ _ HR.out)
            refine h9.mono fun e w' q => ⟨q, ?_⟩
            obtain ⟨_, _, _, _, _, _, hfr, _⟩ := q
            exact (Fr.below (X := fun k => k = pw) hW').trans hfr fun i _ e => e
          clear b0 b1 c0 c1 c2 d0 d1 e0 e1 e2 HRL2 HR
          refine wp_region_cut rfl (by kernel_rfl) (by kernel_rfl) ?_
          refine wpAny_of_held (S := SAp w.heap.size bA oA j nn cc wr.heap.size k2 h2 A2 n2 c2' B2 m2 d2 s2) _ _ _ _ ?_
          simp only [List.pop_toArray, List.dropLast, List.size_toArray, List.length_cons, List.length_nil, Nat.reduceAdd, Nat.reduceSub]
          refine zzT (i := 0) (v := .pointer (some ⟨pw, 0, none⟩)) rfl hS ?_
          simp only [Act.put, List.setIfInBounds_toArray]
          refine zzT (i := 1) (v := .pointer (some ⟨w.heap.size, 2, none⟩)) rfl hS ?_
          simp only [Act.put]
          refine zzT (i := 2) (v := .slice (some ⟨bA, oA, none⟩) nn cc) rfl hS ?_
          simp only [Act.put]
          refine zzT (i := 3) (v := .int .i64 j) rfl hS ?_
          simp only [Act.put]
          refine zzT (i := 4) (v := .pointer (some ⟨bA, oA + j * 3, none⟩)) rfl hS ?_
          simp only [Act.put]
          refine zzT (i := 5) (v := .agg #[.int .i64 k2, .int .i64 h2, .slice A2 n2 c2']) rfl hS ?_
          simp only [Act.put]
          refine zzT (i := 6) (v := .agg #[.slice B2 m2 d2, .int .i64 s2]) rfl hS ?_
          simp only [Act.put]
          refine wpAnyH_ready (rs := [7, 8]) (by kernel_rfl) (by simp) ?_
          refine AllReadyH.cons rfl (fun K hK => ?_) (AllReadyH.cons rfl (fun K hK => ?_) AllReadyH.nil)
          focus
            go_simp
            refine (HCALL.out W2.drew (fun _ => False) (Below.refl _ W2).drew (fun b e => e.elim)).mono ?_
            rintro e w9 ⟨⟨k3, h3, A3, n3, c3, rfl, hfr, hcs⟩, hfw⟩
            refine hK.out _ _ (HKS.out w9 fun g hg hne => hfw.block g hg hne) (fun hS => ?_)
            clear hK K
            try simp only [Act.put, zzP]
            refine wpAnyH_ready (rs := [8]) (by kernel_rfl) (by simp) ?_
            refine AllReadyH.cons rfl (fun K hK => ?_) AllReadyH.nil
            go_simp
            have hbD : Below w9.heap.size w9 (w9.alloc (.cells #[.int .i64 0, .int .i64 0, .slice none 0 0] 39)) := (Below.refl _ _).alloc (Nat.le_refl _) _
            have hfw2 := hfw.then hbD
            refine hK.out _ _ (HKS.out (w9.alloc (.cells #[.int .i64 0, .int .i64 0, .slice none 0 0] 39)) fun g hg hne => hfw2.block g hg hne) (fun hS => ?_)
            clear hK K
            try simp only [Act.put, zzP]
            refine wpAnyH_done (by kernel_rfl) ?_ _
            show wpList _ _ _ _ _ _
            obtain ⟨W9, hW9⟩ : ∃ W9, w9.alloc (.cells #[.int .i64 0, .int .i64 0, .slice none 0 0] 39) = W9 := ⟨_, rfl⟩
            obtain ⟨p9, hp9⟩ : ∃ p9, w9.heap.size = p9 := ⟨_, rfl⟩
            have z9 : Box W9 p9 39 #[.int .i64 0, .int .i64 0, .slice none 0 0] := by rw [← hW9, ← hp9]; exact Box.new _ _ _
            have hp2 : W2.heap.size ≤ p9 := by rw [← hp9]; exact hfw.size
            have q8 : QRz pw (fun b => Xr X w wr b ∨ False) w9 k3 h3 A3 n3 c3 (ap f L sh u2 t n1) := hcs
            have q9 : QRz pw (fun b => Xr X w wr b ∨ b = p9) (w9.alloc (.cells #[.int .i64 0, .int .i64 0, .slice none 0 0] 39)) k3 h3 A3 n3 c3 (ap f L sh u2 t n1) := (q8.mono (fun i hi e => by
              rcases e with e | e
              · exact .inl e
              · omega)).keep hbD
            clear q8
            rw [hW9] at q9 hfw2
            have HFW := Lib.hid hfw2
            have HQ9 := Lib.hid q9
            rw [hW9, hp9]
            clear hW9 hp9 hfw hfw2 hbD hcs hfr hS q9
          rotate_left 1
          focus
            go_simp
            have hbD : Below W2.heap.size W2 (W2.drew.alloc (.cells #[.int .i64 0, .int .i64 0, .slice none 0 0] 39)) := (Below.refl _ W2).drew.alloc (Nat.le_refl _) _
            have z8 : Box (W2.drew.alloc (.cells #[.int .i64 0, .int .i64 0, .slice none 0 0] 39)) W2.heap.size 39 #[.int .i64 0, .int .i64 0, .slice none 0 0] := Box.new W2.drew _ _
            refine hK.out _ _ (HKS.out (W2.drew.alloc (.cells #[.int .i64 0, .int .i64 0, .slice none 0 0] 39)) fun g hg _ => hbD.block g hg) (fun hS => ?_)
            clear hK K
            try simp only [Act.put, zzP]
            refine wpAnyH_ready (rs := [7]) (by kernel_rfl) (by simp) ?_
            refine AllReadyH.cons rfl (fun K hK => ?_) AllReadyH.nil
            go_simp
            refine (HCALL.out (W2.drew.alloc (.cells #[.int .i64 0, .int .i64 0, .slice none 0 0] 39)) (fun b => b = W2.heap.size) hbD (fun b e => by have := z8.lt; omega)).mono ?_
            rintro e W9 ⟨⟨k3, h3, A3, n3, c3, rfl, hfr, hcs⟩, hfw⟩
            refine hK.out _ _ (HKS.out W9 fun g hg hne => hfw.block g hg hne) (fun hS => ?_)
            clear hK K
            try simp only [Act.put, zzP]
            refine wpAnyH_done (by kernel_rfl) ?_ _
            show wpList _ _ _ _ _ _
            obtain ⟨p9, hp9⟩ : ∃ p9, W2.heap.size = p9 := ⟨_, rfl⟩
            have szb := hbb.size
            have z9 : Box W9 p9 39 #[.int .i64 0, .int .i64 0, .slice none 0 0] := by rw [← hp9]; exact z8.fr hfr (by omega)
            have hp2 : W2.heap.size ≤ p9 := by omega
            have HFW := Lib.hid hfw
            have q9 : QRz pw (fun b => Xr X w wr b ∨ b = p9) W9 k3 h3 A3 n3 c3 (ap f L sh u2 t n1) := by rw [← hp9]; exact hcs
            have HQ9 := Lib.hid q9
            have hp9' : W2.drew.heap.size = p9 := hp9
            rw [hp9]
            clear hp9 hp9' hfw hbD hcs hfr hS q9 z8 szb
          rotate_left 1
          all_goals
            have szb := hbb.size
            have hwr9 : Fr (fun k => k = pw) wr W9 := (Fr.below (X := fun k => k = pw) hbb).trans HFW.out fun i _ e => e
            have HFR9 := Lib.hid (HI.out.fr.trans hwr9 fun i _ e => e)
            have HWR := Lib.hid hwr9
            have z0 := HI.out.tb.fr hwr9 (by omega)
            have z1 := HI.out.sb.fr hwr9 (by omega)
            have z2 := HI.out.res.fr hwr9 (by omega)
            have hrl9 : ∀ g, Value.ownBlock (.slice Av j cv) = some g → w.heap.size + 3 ≤ g ∧ g < wr.heap.size := fun g hg => HI.out.row.lt hg
            have HOB := Lib.hid hrl9; clear hrl9
            have hppw : p9 ≠ pw := by omega
            have hp0 : p9 ≠ w.heap.size := by omega
            have hp1 : p9 ≠ w.heap.size + 1 := by omega
            have hp3 : p9 ≠ w.heap.size + 2 := by omega
            have lz9 := z9.lt
            have lz0 := z0.lt
            have lz2 := z2.lt
            obtain ⟨c0, c1, c2⟩ := z9.three
            have g0 := z9.frozen 0
            have g1 := z9.frozen 1
            have g2 := z9.frozen 2
            clear hwr9 xb y0 y1 lxb
            cases hres : ap f L sh u2 t n1 with
            | error ec =>
              rw [hres] at HQ9
              obtain ⟨hec, ⟨m9, hwk9⟩, hzz⟩ := HQ9.out
              have HZZ := Lib.hid hzz; clear hzz
              have heq : ap (f + 1) L sh u (.node k h xs) n = .error ec := by
                refine HE.out.1 ec ?_
                rw [HI.out.eq, drop_at HTT.out, apL_cons, HN.out, ← HU2.out, hres]
                rfl
              have HEE := Lib.hid heq; clear heq hres
              obtain ⟨k0, k1⟩ := hwk9.two
              have lk := hwk9.lt
              have HK9 := Lib.hid hwk9; clear hwk9
              have hE1 : (ec != 0) = true := by simpa using hec
              obtain ⟨r0, r1, r2⟩ := z2.three
              have f0 := z2.frozen 0
              have f1 := z2.frozen 1
              have f2 := z2.frozen 2
              go_wp2_with fail
              refine bodyPost_ret (v := .agg #[.int .i64 k3, .int .i64 h3, .slice A3 n3 c3]) (by simp [results, Tryz.results96, go_sem, r0, r1, r2]) rfl ?_
              rw [HEE.out]
              exact ⟨_, _, _, _, _, rfl, (HFR9.out.set3 (fun h => by omega) _ _ _).set3 (fun h => by omega) _ _ _, hec, ⟨m9, (HK9.out.other3 (by omega) _ _ _).other3 (by omega) _ _ _⟩, HZZ.out⟩
            | ok q =>
              obtain ⟨y, n4⟩ := q
              rw [hres] at HQ9
              obtain ⟨hry, hwk9⟩ := HQ9.out
              have hgood := ap_good (B := 562949953421312) f L sh u2 t n1 (by have h1 := HU2.out; have h2 := bdn_le k nn j; omega) hi4 (HS.out.mono (bt_mono (by omega))) ((HT.out.args (List.mem_of_getElem? HTT.out)).mono (show bt n - sh ≤ bt n1 - sh by have := bt_mono (show n ≤ n1 by omega); omega)) y n4 hres
              have heq : apL (fun u' x m => ap f L sh u' x m) k xs.length u xs 0 (n + 1) = contL (ys ++ [y]) (apL (fun u' x m => ap f L sh u' x m) k xs.length u (xs.drop (j + 1)) (j + 1) n4) := by
                rw [HI.out.eq, drop_at HTT.out, apL_cons, HN.out, ← HU2.out, hres]
                simp only
                rw [contL_contL]
              have HEE := Lib.hid heq; clear heq hres
              have HGG := Lib.hid hgood; clear hgood
              obtain ⟨k0, k1⟩ := hwk9.two
              have lk := hwk9.lt
              have szs : (((W9.setCell ⟨p9, 0, none⟩ (.int .i64 k3)).setCell ⟨p9, 1, none⟩ (.int .i64 h3)).setCell ⟨p9, 2, none⟩ (.slice A3 n3 c3)).heap.size = W9.heap.size := size_set3 _ _ _ _ _
              have hgs : GRow (X3 X w) (((W9.setCell ⟨p9, 0, none⟩ (.int .i64 k3)).setCell ⟨p9, 1, none⟩ (.int .i64 h3)).setCell ⟨p9, 2, none⟩ (.slice A3 n3 c3)) (w.heap.size + 3) (.slice Av j cv) j cs ys := HI.out.row.move (fun b hb hx => (heap_other3 _ _ _ _ _ _ (by omega)).trans (HWR.out.block b hb (fun e => hx (.inl (e ▸ HX.out))))) (fun g hg e => by
                have h1 := (HI.out.row.lt hg).1
                rcases e with e | e | e | e
                · have := HBN.out g e; omega
                · omega
                · omega
                · omega)
              have hrys : RdF (fun b => ¬ X3 X w b ∧ some b ≠ Value.ownBlock (.slice Av j cv)) (((W9.setCell ⟨p9, 0, none⟩ (.int .i64 k3)).setCell ⟨p9, 1, none⟩ (.int .i64 h3)).setCell ⟨p9, 2, none⟩ (.slice A3 n3 c3)) y (.agg #[.int .i64 k3, .int .i64 h3, .slice A3 n3 c3]) := RdF.moveX (fun b hb hl => ⟨⟨fun e => hb (.inl (by
                rcases e with e | e | e | e
                · exact .inl e
                · exact .inr (by omega)
                · exact .inr (by omega)
                · exact .inr (by omega))), fun e => hb (.inl (.inr (by have := HOB.out b e.symm; omega)))⟩, heap_other3 _ _ _ _ _ _ (fun e => hb (.inr e))⟩) _ _ hry
              obtain ⟨g, cap, w4, hrun, hrow, hold, hb4⟩ := hgs.push hrys (by rw [szs]; have := HFR9.out.size; omega) (by omega)
              rw [szs] at hrun
              have l4 : w.heap.size + 3 ≤ W9.heap.size := by omega
              have HJ : Hid (RaI f L sh u k h xs (n + 1) (some ⟨bA, oA, none⟩) nn cc w pw X A m c (j + 1) w4 (.slice (some ⟨g, 0, none⟩) (j + 1) cap) (cs ++ [.int .i64 k3, .int .i64 h3, .slice A3 n3 c3]) (ys ++ [y]) n4) := Lib.hid
                ⟨(hb4.block _ (by omega)).trans (z0.other3 hp0.symm _ _ _), (hb4.block _ (by omega)).trans (z1.other3 hp1.symm _ _ _), (hb4.block _ (by omega)).trans (z2.other3 hp3.symm _ _ _), hrow,
                  (HFR9.out.set3 (fun h => by omega) _ _ _).thenB hb4 (by omega), (hb4.block _ (by omega)).trans (hwk9.other3 hppw.symm _ _ _), by have := (HGG.out).1; omega, (HGG.out).2.1, HEE.out⟩
              clear hgs hrys hrow hold hb4 hry HEE HGG szs
              go_wp2_with (at_builtin; refine Lib.wpList_append_run _ rfl _ _ _ _ rfl _ _ rfl rfl _ _ hrun ?_)
              go_roundw
              case rel => exact ⟨j + 1, some ⟨g, 0, none⟩, cap, _, _, n4, by omega, by go_num, rfl, HJ⟩
              case measure => simp [intOf]; omega
      · obtain rfl : j = nn := by omega
        have hend : apL (fun u' x m => ap f L sh u' x m) k xs.length u xs 0 (n + 1) = .ok (ys, n1) := by
          rw [HI.out.eq, drop_all HN.out (Nat.le_refl _), apL]
          simp [contL]
        have happ := HE.out.2 ys n1 hend
        have lo1 := HI.out.lo
        have hi4 := HI.out.hi
        have szr := HI.out.fr.size
        have hLg := apL_good (B := 562949953421312) (A := fun u' x m => ap f L sh u' x m) (sh := sh) (n0 := n) (fun v x m hv hm1 hm2 hx => ap_good (B := 562949953421312) f L sh v x m hm1 hm2 (HS.out.mono (btB_mono hv)) hx) xs 0 (n + 1) (by omega) (by omega) (by omega) (fun x hx => (HT.out.args hx).mono (show bt n - sh ≤ bt (n + 1) - sh by have := bt_mono (show n ≤ n + 1 by omega); omega)) ys n1 hend
        obtain ⟨g1, g2, g3, g4, g5⟩ := hLg
        have HAPP := Lib.hid happ; clear happ hend
        have HWY := Lib.hid g4; clear g4
        have hrl := HI.out.row.rxl (fun b hb => by
          rcases hb with e | e | e | e
          · have := HBN.out b e; omega
          · omega
          · omega
          · omega)
        have HYS := Lib.hid hrl; clear hrl
        by_cases hk4 : k = 4
        · subst hk4
          obtain ⟨h0, h9⟩ := HHD.out rfl
          have hb9 := HBT.out
          have hrx := HRL.out.adv (Adv.fr (X := X) HI.out.fr (fun i _ e => by subst e; exact HX.out))
          have hM := mappedC (unN u L) A m c (sh + u) h wr hrx.len hrx.le hrx.cap (fun i x hx => rdFAt_rd (hrx.at_ i x hx)) (fun x hx => by have := (HSU.out.all x hx).2.2; omega) h0 (by omega) (by omega) (by have h1 := hrx.len; have h2 := HL6.out; rw [unN_len] at h1; omega)
          have hmid : bt n + u ≤ bt n1 := by have : bt n1 = 562949953421312 + n1 * 1048576 := rfl; omega
          have hsp : sp f (mpd (unN u L) (sh + u) h) ys n1 = ap (f + 1) L sh u (.node 4 h xs) n := by
            rw [HAPP.out, mpd_un h0]
            by_cases hu4 : (u : Int) ≤ h
            · rw [if_pos hu4, if_pos ⟨rfl, hu4⟩]
            · rw [if_neg hu4, if_neg (by omega), sp, spL_var]
          have hway : Way (bt n1) (mpd (unN u L) (sh + u) h) ∧ nd (mpd (unN u L) (sh + u) h) ≤ 4000 := by
            rw [mpd_un h0]
            by_cases hu4 : (u : Int) ≤ h
            · rw [if_pos hu4]
              obtain ⟨m1, m2⟩ := way_mp (fr := h - u) (u := u) HS.out (by omega) (by omega)
              exact ⟨m1.mono hmid, m2⟩
            · rw [if_neg hu4]
              refine ⟨⟨by simp [nodB, nodL, okN, h0], ?_⟩, by simp [nd, ndL]⟩
              rw [okT, okL]
              exact ⟨fun _ => by omega, trivial⟩
          have HMM := Lib.hid hM; clear hM hrx
          have HSP := Lib.hid hsp; clear hsp
          have HWAY := Lib.hid hway; clear hway
          have hx3 : ∀ b, X3 X w b → b < wr.heap.size := fun b hb => by
            rcases hb with e | e | e | e
            · have := HBN.out b e; omega
            · omega
            · omega
            · omega
          have HX3 := Lib.hid hx3; clear hx3 hb9 hmid h9
          go_wp2_with fail
          refine HMM.out.mono ?_
          clear HMM
          rintro e w2 ⟨v2, rfl, hrf, hb2⟩
          obtain ⟨k3, h3, A3, n3, c3, rfl⟩ := hrf.full
          have hrm : RX (X3 X w) w2 (mpd (unN u L) (sh + u) h) (.agg #[.int .i64 k3, .int .i64 h3, .slice A3 n3 c3]) := RdF.moveX (fun b hb _ => ⟨fun e => by have := HX3.out b e; omega, rfl⟩) _ _ hrf
          have hsn : ndL ys ≤ 200000000 := by omega
          have hSP := HSPC.out (mpd (unN u L) (sh + u) h) ys n1 (.agg #[.int .i64 k3, .int .i64 h3, .slice A3 n3 c3]) Av j cv w2 pw (X3 X w) (by have := HF.out; omega) hi4 HWAY.out.1 HWY.out (by have := HWAY.out.2; omega) hsn (.inl HX.out) (fun b hb => Nat.lt_of_lt_of_le (HX3.out b hb) hb2.size) (HI.out.wk.keep hb2 lw) hrm (HYS.out.adv (Adv.below hb2))
          rw [HSP.out] at hSP
          have HQ := Lib.hid hSP; clear hSP
          have HB2 := Lib.hid hb2
          have z2 := HI.out.res.keep hb2 l2
          clear hrf hrm hb2 c0 c1 c2 d0 d1
          go_wp2_with fail
          refine HQ.out.mono ?_
          clear HQ
          rintro e w5 ⟨k5, h5, A5, n5, c5, rfl, hfr, hcs⟩
          have y2 := z2.fr hfr (by omega)
          have HFR := Lib.hid ((HI.out.fr.then HB2.out).trans hfr fun i _ e => e)
          obtain ⟨r0, r1, r2⟩ := y2.three
          have f0 := y2.frozen 0
          have f1 := y2.frozen 1
          have f2 := y2.frozen 2
          have HCS := Lib.hid hcs; clear hcs hfr y2 z2
          go_wp2_with fail
          refine bodyPost_ret (v := .agg #[.int .i64 k5, .int .i64 h5, .slice A5 n5 c5]) (by simp [results, Tryz.results96, go_sem, r0, r1, r2]) rfl ?_
          refine ⟨_, _, _, _, _, rfl, HFR.out.set3 (fun h => by omega) _ _ _, ?_⟩
          have hcs := HCS.out
          cases hap : ap (f + 1) L sh u (.node 4 h xs) n with
          | error ec =>
            rw [hap] at hcs
            obtain ⟨q1, ⟨q2, q3⟩, q4⟩ := hcs
            exact ⟨q1, ⟨q2, q3.other3 (by omega) _ _ _⟩, q4⟩
          | ok p =>
            obtain ⟨t9, n9⟩ := p
            rw [hap] at hcs
            exact ⟨RX.mono (RX.adv hcs.1 (Adv.set3 (.inr (.inr (.inr rfl))) _ _ _)) (fun i _ e => .inl e), hcs.2.other3 (by omega) _ _ _⟩
        · have e4 : (k == 4) = false := by simpa using hk4
          have happ2 : ap (f + 1) L sh u (.node k h xs) n = .ok (.node k h ys, n1) := by rw [HAPP.out, if_neg (by omega)]
          have HAP2 := Lib.hid happ2; clear happ2 hk4
          obtain ⟨r0, r1, r2⟩ := HI.out.res.three
          have f0 := HI.out.res.frozen 0
          have f1 := HI.out.res.frozen 1
          have f2 := HI.out.res.frozen 2
          go_wp2_with fail
          refine bodyPost_ret (v := .agg #[.int .i64 k, .int .i64 h, .slice Av j cv]) (by simp [results, Tryz.results96, go_sem, r0, r1, r2]) rfl ?_
          rw [HAP2.out]
          refine ⟨_, _, _, _, _, rfl, HI.out.fr.set3 (fun h => by omega) _ _ _, ?_, HI.out.wk.other3 (by omega) _ _ _⟩
          exact RX.mono (RX.adv (X := X3 X w) (RdF_node.2 ⟨_, _, _, rfl, HWF.out.1, HWF.out.2, HYS.out.len, HYS.out.le, HYS.out.cap, HYS.out.at_⟩) (Adv.set3 (.inr (.inr (.inr rfl))) _ _ _)) (fun i _ e => .inl e)
end Go.Proofs.YtbbjjdnnlnabaaaGreat
