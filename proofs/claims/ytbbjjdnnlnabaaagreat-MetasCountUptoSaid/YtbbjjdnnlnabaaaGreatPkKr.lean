/- Texts of one proof, put together. No statement is proved here. -/
import Derived.Test.YtbbjjdnnlnabaaaGreatPkTn
import Derived.Test.YtbbjjdnnlnabaaaGreatPkKl
namespace Go.Proofs.YtbbjjdnnlnabaaaGreat
open Go.ChangeShapes Go.WideShapes Go.ChangeAt Go.RowKit
set_option linter.unusedVariables false
set_option linter.unusedSimpArgs false
set_option maxHeartbeats 2000000
set_option maxRecDepth 100000
def FzE (Z : Nat → Prop) (r : Except Int T) (w : World) (e : Ending) (w' : World) : Prop :=
  match r with
  | .error ec => ∃ k h A n c, e = .returned (.tuple #[.agg #[.int .i64 k, .int .i64 h, .slice A n c], .int .i64 ec]) ∧ ec ≠ 0 ∧ Below w.heap.size w w'
  | .ok t => ∃ k h A n c, e = .returned (.tuple #[.agg #[.int .i64 k, .int .i64 h, .slice A n c], .int .i64 0]) ∧ RX Z w' t (.agg #[.int .i64 k, .int .i64 h, .slice A n c]) ∧ Below w.heap.size w w'
def FzO (Z : Nat → Prop) (r : Except Int T) (w' : World) (k h : Int) (A : Option Addr) (n c : Nat) (ec : Int) : Prop :=
  match r with
  | .error e' => ec = e' ∧ e' ≠ 0
  | .ok t => ec = 0 ∧ RX Z w' t (.agg #[.int .i64 k, .int .i64 h, .slice A n c])
theorem FzE.uni {Z : Nat → Prop} {r : Except Int T} {w w' : World} {e : Ending} (h : FzE Z r w e w') : ∃ k h A n c ec, e = .returned (.tuple #[.agg #[.int .i64 k, .int .i64 h, .slice A n c], .int .i64 ec]) ∧ FzO Z r w' k h A n c ec ∧ Below w.heap.size w w' := by
  cases r with
  | error e' =>
    obtain ⟨k, h, A, n, c, rfl, hne, hb⟩ := h
    exact ⟨k, h, A, n, c, e', rfl, ⟨rfl, hne⟩, hb⟩
  | ok t =>
    obtain ⟨k, h, A, n, c, rfl, hr, hb⟩ := h
    exact ⟨k, h, A, n, c, 0, rfl, ⟨rfl, hr⟩, hb⟩
theorem FzO.move {Z Z' : Nat → Prop} {r : Except Int T} {w w' : World} {k h : Int} {A : Option Addr} {n c : Nat} {ec : Int} (o : FzO Z r w k h A n c ec) (hm : ∀ b, ¬ Z b → b < w.heap.size → ¬ Z' b ∧ w'.heap[b]? = w.heap[b]?) : FzO Z' r w' k h A n c ec := by
  cases r with
  | error e' => exact o
  | ok t => exact ⟨o.1, RdF.moveX hm _ _ o.2⟩
structure ThD (Z : Nat → Prop) (th : List T) (w : World) (A : Option Addr) (m cL : Nat) : Prop where
  my : ∀ x ∈ th, myB x = true
  ok : ∀ x ∈ th, okT 2199023255552 x
  row : RXL Z w th A m cL
def consL (ys : List T) (r : Except Int (List T)) : Except Int (List T) :=
  match r with
  | .error e => .error e
  | .ok zs => .ok (ys ++ zs)
theorem consL_nil (r : Except Int (List T)) : consL [] r = r := by cases r <;> rfl
theorem consL_consL (ys zs : List T) (r : Except Int (List T)) : consL ys (consL zs r) = consL (ys ++ zs) r := by
  cases r with
  | error e => rfl
  | ok q => simp [consL]
theorem flL_one {th : List T} {k n : Int} {m i : Nat} {x : T} {xs : List T} : flL th k m (x :: xs) i n = match flT th x (n + bd k m i) with
    | .error e => .error e
    | .ok y => consL [y] (flL th k m xs (i + 1) n) := by
  rw [flL]
  cases flT th x (n + bd k m i) with
  | error e => rfl
  | ok y =>
    simp only
    cases flL th k m xs (i + 1) n with
    | error e => rfl
    | ok q => rfl
def RiC (th : List T) (t : T) : Prop :=
  ∀ (Z : Nat → Prop) (w : World) (A : Option Addr) (m cL : Nat) (n : Int) (v : Value), (∀ b, Z b → b < w.heap.size) → ThD Z th w A m cL → RX Z w t v → nodB t = true → 0 ≤ n → n + dp t ≤ 4000 → okT 2199023255552 t → 4000 * nd t ≤ 274877906944 →
    Calls Tryz.prog 56 #[v, .slice A m cL, .int .i64 n] w (FzE Z (flT th t n) w)
abbrev Z3 (Z : Nat → Prop) (w : World) (b : Nat) : Prop := Z b ∨ b = w.heap.size ∨ b = w.heap.size + 1 ∨ b = w.heap.size + 1 + 1
abbrev Zw (Z : Nat → Prop) (w wr : World) (b : Nat) : Prop := Z b ∨ (w.heap.size ≤ b ∧ b < wr.heap.size)
structure RiI (Z : Nat → Prop) (th : List T) (k h n : Int) (xs : List T) (An : Option Addr) (nn cc : Nat) (w : World) (j : Nat) (wr : World) (v : Value) (cs : List Value) (ys : List T) : Prop where
  tb : Box wr w.heap.size 39 #[.int .i64 k, .int .i64 h, .slice An nn cc]
  res : Box wr (w.heap.size + 1) 39 #[.int .i64 0, .int .i64 0, .slice none 0 0]
  nob : Box wr (w.heap.size + 1 + 1) 39 #[.int .i64 0, .int .i64 0, .slice none 0 0]
  row : GRow (Z3 Z w) wr (w.heap.size + 3) v j cs ys
  below : Below w.heap.size w wr
  eq : flL th k nn xs 0 n = consL ys (flL th k nn (xs.drop j) j n)
theorem riC {th : List T} {k h : Int} {xs : List T} (ih : ∀ x ∈ xs, RiC th x) : RiC th (.node k h xs) := by
  intro Z w A m cL n v hZ hth hvz hno h0 hn ho hc
  have hv := RX.rd hvz
  obtain ⟨An, nn, cc, rfl, wfk, wfh, hl, hnc, hcm, hxs⟩ := RdF_node.1 hvz
  have hMM := hcm
  unfold maxLen at hcm
  obtain ⟨hok, hnos⟩ := node_parts hno
  have hos := ok_parts ho
  have hdp : dp (.node k h xs) = 1 + dpL xs := by rw [dp]
  have hnd : nd (.node k h xs) = 1 + ndL xs := by rw [nd]
  have hlen := (wdL_nd xs).2
  have hnn : nn ≤ 100000000 := by omega
  obtain ⟨W, hW⟩ : ∃ W, ((w.alloc (.cells #[.int .i64 k, .int .i64 h, .slice An nn cc] 39)).alloc (.cells #[.int .i64 0, .int .i64 0, .slice none 0 0] 39)).alloc (.cells #[.int .i64 0, .int .i64 0, .slice none 0 0] 39) = W := ⟨_, rfl⟩
  have hb : Below w.heap.size w W := by rw [← hW]; exact (((Below.refl _ _).alloc (Nat.le_refl _) _).alloc (by simp) _).alloc (by simp; omega) _
  have x0 : Box W w.heap.size 39 #[.int .i64 k, .int .i64 h, .slice An nn cc] := by rw [← hW]; exact ((Box.new _ _ _).alloc _).alloc _
  have x1 : Box W (w.heap.size + 1) 39 #[.int .i64 0, .int .i64 0, .slice none 0 0] := by rw [← hW]; exact ((Box.new (w.alloc _) _ _).at (by simp)).alloc _
  have x2 : Box W (w.heap.size + 1 + 1) 39 #[.int .i64 0, .int .i64 0, .slice none 0 0] := by rw [← hW]; exact (Box.new ((w.alloc _).alloc _) _ _).at (by simp)
  have HI : Hid (RiI Z th k h n xs An nn cc w 0 W (.slice none 0 0) [] []) := Lib.hid ⟨x0, x1, x2, GRow.nil _ _ _, hb, by rw [consL_nil, List.drop_zero]⟩
  have HW := Lib.hid hW; clear hW x0 x1 x2 hb
  have HZ := Lib.hid hZ; clear hZ
  have HTH := Lib.hid hth; clear hth
  have HV := Lib.hid hvz; clear hvz hv
  have HXS := Lib.hid hxs; clear hxs
  have HN := Lib.hid hl; clear hl
  have HIH := Lib.hid ih; clear ih
  have HNO := Lib.hid (And.intro hnos hos); clear hnos hos
  have HWF := Lib.hid (And.intro wfk wfh); clear wfk wfh
  go_enter Tryz.func56, Tryz.ntmps56
  go_wp2_with fail
  rw [HW.out]
  clear HW
  go_loopw [9, 10] (fun v i wr => ∃ (j : Nat) (Av : Option Addr) (cv : Nat) (cs : List Value) (ys : List T), j ≤ nn ∧ i = .int .i64 j ∧ v = .slice Av j cv ∧ Hid (RiI Z th k h n xs An nn cc w j wr (.slice Av j cv) cs ys)) (fun _ i _ => nn - (intOf i).toNat)
  case atStart => exact ⟨0, none, 0, [], [], Nat.zero_le _, rfl, rfl, HI⟩
  case round =>
    clear HI
    obtain ⟨j, Av, cv, cs, ys, hj, rfl, rfl, HI⟩ := hrel
    have y0 := HI.out.tb
    have y1 := HI.out.res
    have y2 := HI.out.nob
    have hbr := HI.out.below
    have l0 := y0.lt
    have l1 := y1.lt
    have l2 := y2.lt
    obtain ⟨a0, a1, a2⟩ := y0.three
    by_cases hlt : j < nn
    · obtain ⟨x, hx⟩ := at_of HN.out hlt
      obtain ⟨bA, oA, k2, h2, A2, n2, c2, rfl, e0, e1, e2, hr⟩ := (HXS.out j x hx).full
      have hmem := List.mem_of_getElem? hx
      have d1 := dpL_mem hmem
      have d2 := nd_mem hmem
      replace e0 := (hbr.cell (cell_lt e0)).trans e0
      replace e1 := (hbr.cell (cell_lt e1)).trans e1
      replace e2 := (hbr.cell (cell_lt e2)).trans e2
      have hbd : 0 ≤ bd k nn j ∧ bd k nn j ≤ 1 := by rw [bd_bdn]; have := bdn_le k nn j; omega
      obtain ⟨s, hs⟩ : ∃ s, s = n + bd k nn j := ⟨_, rfl⟩
      have hsum : IntKind.i64.wrap (n + bd k nn j) = s := by rw [hs, wrapEq, wrap_small (by omega) (by omega)]
      have HBI := Lib.hid fun (W' : World) => refBinds k h (some ⟨bA, oA, none⟩) nn cc hnc hMM j (by unfold maxLen; omega) W'
      have HCALL : Hid (∀ W', Hid (Below wr.heap.size wr W') → Calls Tryz.prog 56 #[.agg #[.int .i64 k2, .int .i64 h2, .slice A2 n2 c2], .slice A m cL, .int .i64 (n + bd k nn j)] W' (fun e w' => FzE (Zw Z w W') (flT th x (n + bd k nn j)) W' e w' ∧ Hid (Below wr.heap.size wr w'))) := Lib.hid fun W' h' => by
        have hbw := hbr.trans (h'.out.mono hbr.size)
        have hsz := h'.out.size
        have hmv : ∀ b, ¬ Z b → b < w.heap.size → ¬ Zw Z w W' b ∧ W'.heap[b]? = w.heap[b]? := fun b hb hl => ⟨fun e => by
          rcases e with e | e
          · exact hb e
          · omega, hbw.block b hl⟩
        have h9 := HIH.out x hmem (Zw Z w W') W' A m cL (n + bd k nn j) _ (fun b e => by
          rcases e with e | e
          · have := HZ.out b e; have := hbw.size; omega
          · exact e.2) ⟨HTH.out.my, HTH.out.ok, ⟨HTH.out.row.len, HTH.out.row.le, HTH.out.row.cap, fun i u hu => RdFAt.moveX hmv (HTH.out.row.at_ i u hu)⟩⟩ (RdF.moveX hmv _ _ hr) (HNO.out.1 x hmem) (by omega) (by omega) (HNO.out.2 x hmem) (by omega)
        exact h9.mono fun e w' h'' => ⟨h'', by obtain ⟨_, _, _, _, _, _, _, _, hb'⟩ := h''.uni; exact cur_trans h' hb'⟩
      have heq := HI.out.eq
      rw [drop_at hx, flL_one] at heq
      have HEQ := Lib.hid heq; clear heq
      have HX := Lib.hid hx; clear hx
      have HK : Hid (∀ w', Hid (Below wr.heap.size wr w') → (w'.cell? ⟨w.heap.size, 0, none⟩ = some (.int .i64 k) ∧ w'.cell? ⟨w.heap.size, 1, none⟩ = some (.int .i64 h) ∧ w'.cell? ⟨w.heap.size, 2, none⟩ = some (.slice (some ⟨bA, oA, none⟩) nn cc) ∧ w'.cell? ⟨bA, oA + j * 3, none⟩ = some (.int .i64 k2) ∧ w'.cell? ⟨bA, oA + j * 3 + 1, none⟩ = some (.int .i64 h2) ∧ w'.cell? ⟨bA, oA + j * 3 + 2, none⟩ = some (.slice A2 n2 c2) ∧ Hid (Below wr.heap.size wr w'))) := Lib.hid fun w' h' =>
        ⟨(h'.out.cell (cell_lt a0)).trans a0, (h'.out.cell (cell_lt a1)).trans a1, (h'.out.cell (cell_lt a2)).trans a2, (h'.out.cell (cell_lt e0)).trans e0, (h'.out.cell (cell_lt e1)).trans e1, (h'.out.cell (cell_lt e2)).trans e2, h'⟩
      have hcu0 : Hid (Below wr.heap.size wr wr.drew) := cur_drew
      have hi0 : (0 : Int) ≤ j := by omega
      have hi1 : (j : Int) < nn := by omega
      clear hr hbd d1 d2
      rw [← hs] at HCALL HEQ
      clear hs
      generalize bd k nn j = β at *
      generalize flT th x s = R at *
      go_wp2_with fail
      clear e0 e1 e2 a0 a1 a2
      go_region_held3 (fun w' => w'.cell? ⟨w.heap.size, 0, none⟩ = some (.int .i64 k) ∧ w'.cell? ⟨w.heap.size, 1, none⟩ = some (.int .i64 h) ∧ w'.cell? ⟨w.heap.size, 2, none⟩ = some (.slice (some ⟨bA, oA, none⟩) nn cc) ∧ w'.cell? ⟨bA, oA + j * 3, none⟩ = some (.int .i64 k2) ∧ w'.cell? ⟨bA, oA + j * 3 + 1, none⟩ = some (.int .i64 h2) ∧ w'.cell? ⟨bA, oA + j * 3 + 2, none⟩ = some (.slice A2 n2 c2) ∧ Hid (Below wr.heap.size wr w'))
        (first | exact HK.out _ (by assumption) | exact HK.out _ (cur_alloc (by assumption) _) | exact HK.out _ (cur_alloc (cur_alloc (by assumption) _) _) | exact HK.out _ (Lib.hid (((Below.refl _ _).alloc (Nat.le_refl _) _).drew)) | exact HK.out _ (cur_set3 (by assumption) (by omega) _ _ _))
        (first
          | (go_at_call 75
             with_reducible refine Calls.mono (HBI.out _) ?_
             rintro e w8 ⟨rfl, hb8⟩
             have hcu8 : Hid (Below wr.heap.size wr w8) := by first | exact cur_trans (by assumption) hb8 | exact cur_trans (cur_alloc (by assumption) _) hb8 | exact cur_trans (Lib.hid (((Below.refl _ _).alloc (Nat.le_refl _) _).drew)) hb8 | exact Lib.hid ((((Below.refl _ _).drew).alloc (Nat.le_refl _) _).trans (hb8.mono (by simp)))
             first | (have zP := Box.keepC (cs := #[.int .i64 0, .int .i64 0, .slice none 0 0]) (ty := 39) (by first | exact zP | exact zP.alloc _ | exact Box.new _ _ _ | exact (Box.new _ _ _).alloc _ | exact Box.drewI (Box.new _ _ _)) hb8; have lz8 := zP.lt) | skip
             have hs8 := hcu8.out.size
             clear hb8)
          | (go_at_call 56
             with_reducible refine Calls.mono (HCALL.out _ ?hh) ?_
             case hh => first | assumption | exact cur_alloc (by assumption) _
             rintro e w9 ⟨hE, hcu9⟩
             obtain ⟨kq, hq, Aq, nq, cq, ec, rfl, hout, hb9⟩ := hE.uni
             first | (have zP := Box.keepC (cs := #[.int .i64 0, .int .i64 0, .slice none 0 0]) (ty := 39) (by first | exact zP | exact zP.alloc _ | exact Box.new _ _ _ | exact (Box.new _ _ _).alloc _ | exact Box.drewI (Box.new _ _ _)) hb9; have lz9 := zP.lt) | skip
             have hs9 := hcu9.out.size
             have HOq := Lib.hid hout
             first | (obtain ⟨z0, z1, z2⟩ := zP.three; have fz0 := zP.frozen 0; have fz1 := zP.frozen 1; have fz2 := zP.frozen 2) | skip
             clear hout hb9 hE))
      all_goals first
        | (obtain ⟨W6, hWf⟩ : ∃ Wf, w9.alloc (.cells #[.int .i64 kq, .int .i64 hq, .slice Aq nq cq] 39) = Wf := ⟨_, rfl⟩
           obtain ⟨pq, hpe⟩ : ∃ p, p = w9.heap.size := ⟨_, rfl⟩
           have hlw : wr.heap.size ≤ pq := by rw [hpe]; exact hs9
           have xq : Box W6 pq 39 #[.int .i64 kq, .int .i64 hq, .slice Aq nq cq] := by rw [hpe, ← hWf]; exact Box.new _ _ _
           have hbF : Below wr.heap.size wr W6 := by rw [← hWf]; exact (cur_alloc (by assumption) _).out
           have HO6 : Hid (FzO (Zw Z w wr) R W6 kq hq Aq nq cq ec) := Lib.hid (by
             rw [← hWf]
             exact HOq.out.move fun b hb hl => ⟨fun e => hb (by
               rcases e with e | e
               · exact .inl e
               · exact .inr ⟨e.1, by first | omega | (simp; omega)⟩), Below.heap_alloc _ _ _ hl⟩)
           rw [hWf, ← hpe]
           clear hWf hpe)
        | (obtain ⟨W6, hWf⟩ : ∃ Wf, ((w9.setCell ⟨w8.heap.size, 0, none⟩ (.int .i64 kq)).setCell ⟨w8.heap.size, 1, none⟩ (.int .i64 hq)).setCell ⟨w8.heap.size, 2, none⟩ (.slice Aq nq cq) = Wf := ⟨_, rfl⟩
           obtain ⟨pq, hpe⟩ : ∃ p, p = w8.heap.size := ⟨_, rfl⟩
           have hlw : wr.heap.size ≤ pq := by rw [hpe]; exact hs8
           have xq : Box W6 pq 39 #[.int .i64 kq, .int .i64 hq, .slice Aq nq cq] := by rw [hpe, ← hWf]; exact zP.put3 _ _ _
           have hbF : Below wr.heap.size wr W6 := by rw [← hWf]; exact (cur_set3 (by assumption) (by omega) _ _ _).out
           have HO6 : Hid (FzO (Zw Z w wr) R W6 kq hq Aq nq cq ec) := Lib.hid (by
             rw [← hWf]
             exact HOq.out.move fun b hb hl => ⟨fun e => hb (by
               rcases e with e | e
               · exact .inl e
               · exact .inr ⟨e.1, by first | omega | (simp; omega)⟩), heap_other3 _ _ _ _ _ _ (fun e => hb (.inr ⟨by omega, by first | omega | (simp; omega)⟩))⟩)
           rw [hWf, ← hpe]
           clear hWf hpe)
        | (obtain ⟨W6, hWf⟩ : ∃ Wf, ((w9.setCell ⟨wr.heap.size, 0, none⟩ (.int .i64 kq)).setCell ⟨wr.heap.size, 1, none⟩ (.int .i64 hq)).setCell ⟨wr.heap.size, 2, none⟩ (.slice Aq nq cq) = Wf := ⟨_, rfl⟩
           obtain ⟨pq, hpe⟩ : ∃ p, p = wr.heap.size := ⟨_, rfl⟩
           have hlw : wr.heap.size ≤ pq := by rw [hpe]; exact Nat.le_refl _
           have xq : Box W6 pq 39 #[.int .i64 kq, .int .i64 hq, .slice Aq nq cq] := by rw [hpe, ← hWf]; exact zP.put3 _ _ _
           have hbF : Below wr.heap.size wr W6 := by rw [← hWf]; exact (cur_set3 (by assumption) (by omega) _ _ _).out
           have HO6 : Hid (FzO (Zw Z w wr) R W6 kq hq Aq nq cq ec) := Lib.hid (by
             rw [← hWf]
             exact HOq.out.move fun b hb hl => ⟨fun e => hb (by
               rcases e with e | e
               · exact .inl e
               · exact .inr ⟨e.1, by first | omega | (simp; omega)⟩), heap_other3 _ _ _ _ _ _ (fun e => hb (.inr ⟨by omega, by first | omega | (simp; omega)⟩))⟩)
           rw [hWf, ← hpe]
           clear hWf hpe)
      all_goals
        have z1 := y1.keep hbF y1.lt
        have z2 := y2.keep hbF y2.lt
        have z0 := y0.keep hbF y0.lt
        have hb6 := hbr.trans (hbF.mono hbr.size)
        have hg6 : GRow (Z3 Z w) W6 (w.heap.size + 3) (.slice Av j cv) j cs ys := HI.out.row.move (fun b hb _ => hbF.block b hb) (fun g hg e => by
          have h1 := (HI.out.row.lt hg).1
          rcases e with e | e | e | e
          · have := HZ.out g e; omega
          · omega
          · omega
          · omega)
        have hob : ∀ g, Value.ownBlock (.slice Av j cv) = some g → w.heap.size + 3 ≤ g ∧ g < wr.heap.size := fun g hg => HI.out.row.lt hg
        have hsz6 := hbF.size
        have lz0 := z0.lt
        have lz1 := z1.lt
        have lz2 := z2.lt
        have lxq := xq.lt
        have HOB := Lib.hid hob; clear hob
        clear hbF
        try clear zP
        obtain ⟨b0, b1, b2⟩ := z2.three
        obtain ⟨c0, c1, c2⟩ := xq.three
        obtain ⟨r0, r1, r2⟩ := z1.three
        have f0 := z1.frozen 0
        have f1 := z1.frozen 1
        have f2 := z1.frozen 2
        cases R with
        | error e' =>
          obtain ⟨rfl, hne⟩ := HO6.out
          have hne' : (ec != 0) = true := by simpa using hne
          have HNE := Lib.hid hne
          have HB6 := Lib.hid hb6
          clear hg6 hb6 hne
          go_wp2_with fail
          refine bodyPost_ret (v := .tuple #[zT, .int .i64 ec]) (by simp [results, Tryz.results56, go_sem, r0, r1, r2]) rfl ?_
          have hfl : flT th (.node k h xs) n = .error ec := by rw [flT, HN.out, HEQ.out]; rfl
          rw [hfl]
          exact ⟨0, 0, none, 0, 0, rfl, HNE.out, below_set3 HB6.out (by omega) _ _ _⟩
        | ok y =>
          obtain ⟨rfl, hry⟩ := HO6.out
          have hrys : RdF (fun b => ¬ Z3 Z w b ∧ some b ≠ Value.ownBlock (.slice Av j cv)) W6 y (.agg #[.int .i64 kq, .int .i64 hq, .slice Aq nq cq]) := RdF.moveX (fun b hb _ => ⟨⟨fun e => hb (by
            rcases e with e | e | e | e
            · exact .inl e
            · exact .inr (by omega)
            · exact .inr (by omega)
            · exact .inr (by omega)), fun e => hb (.inr (by have := HOB.out b e.symm; omega))⟩, rfl⟩) _ _ hry
          obtain ⟨g, cap, w4, hrun, hrow, hold, hb4⟩ := hg6.push hrys (by omega) (by omega)
          have HJ : Hid (RiI Z th k h n xs (some ⟨bA, oA, none⟩) nn cc w (j + 1) w4 (.slice (some ⟨g, 0, none⟩) (j + 1) cap) (cs ++ [.int .i64 kq, .int .i64 hq, .slice Aq nq cq]) (ys ++ [y])) := Lib.hid
            ⟨(hb4.block _ (by omega)).trans z0, (hb4.block _ (by omega)).trans z1, (hb4.block _ (by omega)).trans z2, hrow, hb6.trans (hb4.mono (by omega)), by rw [HEQ.out]; simp only; rw [consL_consL]⟩
          clear hg6 hrys hrow hold hb4 hry hb6
          go_wp2_with (at_builtin; refine Lib.wpList_append_run _ rfl _ _ _ _ rfl _ _ rfl rfl _ _ hrun ?_)
          go_roundw
          case rel => exact ⟨j + 1, some ⟨g, 0, none⟩, cap, _, _, by omega, by go_num, rfl, HJ⟩
          case measure => simp [intOf]; omega
    · obtain rfl : j = nn := by omega
      have hend : flL th k j xs 0 n = .ok ys := by
        rw [HI.out.eq, drop_all HN.out (Nat.le_refl _), flL]
        simp [consL]
      have hfl : flT th (.node k h xs) n = flN th n k h ys := by rw [flT, HN.out, hend]
      have hrl := HI.out.row.rxl (fun b hb => by
        rcases hb with e | e | e | e
        · have := HZ.out b e; omega
        · omega
        · omega
        · omega)
      have HRL := Lib.hid hrl
      have HFL := Lib.hid hfl
      have HEND := Lib.hid hend
      clear hrl hfl hend
      have hnys := fun ys' he => flL_nd th k j xs 0 n ys' he
      have hhys := fun ys' he => flL_heads (th := th) HTH.out.ok k j xs 0 n ys' h0 (by omega) (by rw [okT] at ho; exact ho.2) he
      have hnd5 : ndL ys ≤ 274877906944 := by have := hnys ys HEND.out; omega
      have hLo : ∀ y ∈ ys, LoT y := fun y hy => okT_mono (M := hB (dpL xs)) (by unfold hB; omega) _ (okL_mem (hhys ys HEND.out) hy)
      have HND := Lib.hid hnd5
      have HLO := Lib.hid hLo
      clear hnys hhys hLo hnd5
      obtain ⟨b0, b1, b2⟩ := y2.three
      obtain ⟨r0, r1, r2⟩ := y1.three
      have f0 := y1.frozen 0
      have f1 := y1.frozen 1
      have f2 := y1.frozen 2
      by_cases hk6 : k = 6
      case neg =>
        have e6 : (k != 6) = true := by simpa using hk6
        have hfl2 : flT th (.node k h xs) n = .ok (.node k h ys) := by rw [HFL.out, flN, if_neg hk6]
        have HFL2 := Lib.hid hfl2
        clear hk6 hfl2
        go_wp2_with fail
        refine bodyPost_ret (v := .tuple #[.agg #[.int .i64 k, .int .i64 h, .slice Av j cv], .int .i64 0]) (by simp [results, Tryz.results56, go_sem, r0, r1, r2]) rfl ?_
        rw [HFL2.out]
        refine ⟨k, h, Av, j, cv, rfl, RdF_node.2 ⟨Av, j, cv, rfl, HWF.out.1, HWF.out.2, HRL.out.len, HRL.out.le, HRL.out.cap, fun i t ht => RdFAt.moveX (fun b hb hl => ⟨fun e => hb (.inl e), heap_other3 _ _ _ _ _ _ (fun e => hb (.inr (.inr (.inl e))))⟩) (HRL.out.at_ i t ht)⟩, below_set3 hbr (by omega) _ _ _⟩
      subst hk6
      have hh0 : 0 ≤ h := by rcases okN_cases hok with ⟨e, _⟩ | ⟨e, _⟩ | ⟨e, _⟩ | ⟨e, he⟩ | ⟨e, he⟩ | ⟨e, he⟩ | ⟨e, he⟩ <;> first | exact he | omega
      have hml := HTH.out.row.len
      by_cases hmh : (m : Int) ≤ h
      · have d1 : decide ((m : Int) ≤ h) = true := by simpa using hmh
        have hfl2 : flT th (.node 6 h xs) n = .error 2 := by rw [HFL.out, flN, if_pos rfl, if_pos (by omega)]
        have HFL2 := Lib.hid hfl2
        clear hfl2 hmh
        go_wp2_with fail
        refine bodyPost_ret (v := .tuple #[zT, .int .i64 2]) (by simp [results, Tryz.results56, go_sem, r0, r1, r2]) rfl ?_
        rw [HFL2.out]
        exact ⟨0, 0, none, 0, 0, rfl, by decide, below_set3 hbr (by omega) _ _ _⟩
      have d1 : decide ((m : Int) ≤ h) = false := by simpa using hmh
      have hfl2 : flT th (.node 6 h xs) n = if ys.all myB = true then (if apE (th.getD h.toNat (.node 0 0 [])) ys n = 0 then .ok (apT (th.getD h.toNat (.node 0 0 [])) ys n) else .error (apE (th.getD h.toNat (.node 0 0 [])) ys n)) else .error 4 := by rw [HFL.out, flN, if_pos rfl, if_neg (by omega)]
      have HFL2 := Lib.hid hfl2
      clear hfl2
      have HMH := Lib.hid hmh; clear hmh
      have HB1 := Lib.hid hbr
      have Y0 := Lib.hid y0
      have Y1 := Lib.hid y1
      have Y2 := Lib.hid y2
      go_wp2_with fail
      clear b0 b1 b2 r0 r1 r2 f0 f1 f2 a0 a1 a2 y0 y1 y2 hbr HI
      obtain ⟨wz, rfl⟩ : ∃ wz, wz = wr := ⟨_, rfl⟩
      go_loopw [13] (fun i wr => ∃ (i' : Nat), i' ≤ j ∧ i = .int .i64 i' ∧ Hid ((ys.drop i').all myB = ys.all myB) ∧ Hid (Below wz.heap.size wz wr)) (fun i _ => j - (intOf i).toNat)
      case atStart => exact ⟨0, Nat.zero_le _, rfl, Lib.hid (by simp), Lib.hid (Below.refl _ _)⟩
      case round =>
        obtain ⟨i, hi, rfl, HS, HBR⟩ := hrel
        have z0 := Y0.out.keep HBR.out Y0.out.lt
        have z1 := Y1.out.keep HBR.out Y1.out.lt
        have z2 := Y2.out.keep HBR.out Y2.out.lt
        have hbw := HB1.out.trans (HBR.out.mono HB1.out.size)
        have lz0 := z0.lt
        have lz1 := z1.lt
        have lz2 := z2.lt
        obtain ⟨a0, a1, a2⟩ := z0.three
        obtain ⟨b0, b1, b2⟩ := z2.three
        obtain ⟨r0, r1, r2⟩ := z1.three
        have f0 := z1.frozen 0
        have f1 := z1.frozen 1
        have f2 := z1.frozen 2
        by_cases hlt : i < j
        · obtain ⟨y, hy⟩ := at_of HRL.out.len hlt
          obtain ⟨bY, oY, k2, h2, A2, n2, c2, rfl, e0, e1, e2, hr⟩ := (RdAt.keep HBR.out (rdFAt_rd (HRL.out.at_ i y hy))).full
          have hM := refMay y _ _ hr
          rw [mayB_big (by have := nd_mem (List.mem_of_getElem? hy); have := HND.out; omega)] at hM
          have HM := Lib.hid hM; clear hM
          have hs := HS.out
          rw [drop_at hy, List.all_cons] at hs
          have HS2 := Lib.hid hs; clear hs
          generalize myB y = bm at *
          have hi0 : (0 : Int) ≤ i := by omega
          have hi1 : (i : Int) < j := by omega
          clear hr hy
          go_wp2_with fail
          refine HM.out.mono ?_
          clear HM
          rintro e w5 ⟨rfl, hb5⟩
          have v1 := z1.keep hb5 lz1
          have v2 := z2.keep hb5 lz2
          have HB5 := Lib.hid (hbw.trans (hb5.mono hbw.size))
          have HBR5 := Lib.hid (HBR.out.trans (hb5.mono HBR.out.size))
          clear a0 a1 a2 b0 b1 b2 r0 r1 r2 f0 f1 f2 e0 e1 e2 hb5
          obtain ⟨b0, b1, b2⟩ := v2.three
          obtain ⟨r0, r1, r2⟩ := v1.three
          have f0 := v1.frozen 0
          have f1 := v1.frozen 1
          have f2 := v1.frozen 2
          cases bm
          · go_wp2_with fail
            refine bodyPost_ret (v := .tuple #[zT, .int .i64 4]) (by simp [results, Tryz.results56, go_sem, r0, r1, r2]) rfl ?_
            have hall : ys.all myB = false := by rw [← HS2.out]; rfl
            rw [HFL2.out, hall]
            exact ⟨0, 0, none, 0, 0, rfl, by decide, below_set3 HB5.out (by omega) _ _ _⟩
          · go_wp2_with fail
            go_roundw
            case rel => exact ⟨i + 1, by omega, by go_num, Lib.hid (by simpa using HS2.out), HBR5⟩
            case measure => simp [intOf]; omega
        · have hij : i = j := by omega
          subst hij
          have hall : ys.all myB = true := by rw [← HS.out, drop_all HRL.out.len (Nat.le_refl _)]; rfl
          have hlh : h.toNat < th.length := by have := HMH.out; omega
          obtain ⟨x, hx⟩ : ∃ x, th.getD h.toNat (.node 0 0 []) = x := ⟨_, rfl⟩
          have hxm : x ∈ th := by rw [← hx]; exact getD_mem _ hlh
          have hxe : th[h.toNat]? = some x := by rw [← hx, List.getD_eq_getElem?_getD, List.getElem?_eq_getElem hlh]; rfl
          have hfl3 := HFL2.out
          rw [hall, if_pos rfl, hx] at hfl3
          have hmv : ∀ b, ¬ Z b → b < w.heap.size → ¬ Z3 Z w b ∧ wr.heap[b]? = w.heap[b]? := fun b hb hl => ⟨fun e => by
            rcases e with e | e | e | e
            · exact hb e
            · omega
            · omega
            · omega, hbw.block b hl⟩
          obtain ⟨bX, oX, k2, h2, A2, n2, c2, hAe, e0, e1, e2, hrx⟩ := (RdFAt.moveX hmv (HTH.out.row.at_ _ _ hxe)).full
          subst hAe
          have hmy := List.all_eq_true.1 hall
          have hAP := rApplyX (Z := Z3 Z w) (w := wr) (t := x) (L := ys) (sh := n) (fun b e => by
            rcases e with e | e | e | e
            · have := HZ.out b e; have := hbw.size; omega
            · omega
            · omega
            · omega) hrx ⟨HRL.out.len, HRL.out.le, HRL.out.cap, fun i u hu => RdFAt.moveX (fun b hb hl => ⟨hb, HBR.out.block b hl⟩) (HRL.out.at_ i u hu)⟩ (by have := ((myB_iff x).1 (HTH.out.my x hxm)).2.1; omega) (fun y hy => by have := ((myB_iff y).1 (hmy y hy)).2.1; omega) (fun _ => okT_mono (by omega) _ (HTH.out.ok x hxm)) (fun y hy _ => HLO.out y hy)
          have HAP := Lib.hid hAP; clear hAP
          have HFL3 := Lib.hid hfl3; clear hfl3 hmv hrx hxe hx hlh hmy hall
          have hi0 : h < m := by have := HMH.out; omega
          generalize apT x ys n = RT at *
          generalize apE x ys n = RE at *
          go_wp2_with fail
          refine HAP.out.mono ?_
          clear HAP
          rintro e w5 ⟨kq, hq, Aq, nq, cq, rfl, hrd, hb5⟩
          have v1 := z1.keep hb5 lz1
          have lv1 := v1.lt
          have HRD := Lib.hid hrd
          have HB5 := Lib.hid (hbw.trans (hb5.mono hbw.size))
          clear a0 a1 a2 b0 b1 b2 r0 r1 r2 f0 f1 f2 e0 e1 e2 hb5 hrd
          obtain ⟨r0, r1, r2⟩ := v1.three
          have f0 := v1.frozen 0
          have f1 := v1.frozen 1
          have f2 := v1.frozen 2
          go_wp2_with fail
          refine bodyPost_ret (v := .tuple #[.agg #[.int .i64 kq, .int .i64 hq, .slice Aq nq cq], .int .i64 RE]) (by simp [results, Tryz.results56, go_sem, r0, r1, r2, lv1]) rfl ?_
          have hBF := (below_set3 HB5.out (a := w.heap.size + 1) (by omega) (.int .i64 kq) (.int .i64 hq) (.slice Aq nq cq)).alloc (by simp [World.setCell]; omega) (.cells #[.int .i64 kq, .int .i64 hq, .slice Aq nq cq] 39)
          rw [HFL3.out]
          by_cases hz : RE = 0
          · subst hz
            rw [if_pos rfl]
            exact ⟨kq, hq, Aq, nq, cq, rfl, RdF.moveX (fun b hb hl => ⟨fun e => hb (.inl e), (Below.heap_alloc _ _ _ (by simpa [World.setCell] using hl)).trans (heap_other3 _ _ _ _ _ _ (fun e => hb (.inr (.inr (.inl e)))))⟩) _ _ HRD.out, hBF⟩
          · rw [if_neg hz]
            exact ⟨kq, hq, Aq, nq, cq, rfl, hz, hBF⟩
theorem rfillC (th : List T) : ∀ t, RiC th t := T.ind fun k h xs ih => riC ih
end Go.Proofs.YtbbjjdnnlnabaaaGreat
