/-
  Contract of package sign's Constants: a range over a function that picks. No statement is proved here.
-/
import Derived.Test.YtclhllkgamnpoaaQd
namespace Go.Proofs.Ytclhllkgamnpoaa
open Go.ChangeShapes Go.WideShapes Go.ChangeAt Go.RowKit Go.Shelf
set_option linter.unusedVariables false

attribute [local go_sem] Oper.semAt_some

/-- cells below N0 are as they were, but for one block -/
structure KQ (N0 lb : Nat) (W W' : World) : Prop where
  size : W.heap.size ≤ W'.heap.size
  cells : ∀ (k : Nat) (o : Obj), k < N0 → k ≠ lb → W.heap[k]? = some o → o.isCells = true → W'.heap[k]? = some o
theorem KQ.refl (N0 lb : Nat) (W : World) : KQ N0 lb W W := ⟨Nat.le_refl _, fun _ _ _ _ h _ => h⟩
theorem KQ.trans {N0 lb : Nat} {A B C : World} (h : KQ N0 lb A B) (h' : KQ N0 lb B C) : KQ N0 lb A C :=
  ⟨Nat.le_trans h.size h'.size, fun k o hk hl ho hc => h'.cells k o hk hl (h.cells k o hk hl ho hc) hc⟩
theorem KQ.of_below {N0 lb : Nat} {A B : World} (h : Below A.heap.size A B) : KQ N0 lb A B :=
  ⟨h.size, fun k o _ _ ho _ => (h.block k (Array.getElem?_eq_some_iff.1 ho).1).trans ho⟩
theorem KQ.put {N0 lb : Nat} (W : World) (l : Nat) (o : Obj) (h : N0 ≤ l) : KQ N0 lb W (W.putObj l o) :=
  ⟨by simp [World.putObj], fun k o' hk _ ho _ => by
    simp only [World.putObj]
    rw [Array.getElem?_setIfInBounds_ne (by omega)]
    exact ho⟩
theorem KQ.box {N0 lb : Nat} {A B : World} (h : KQ N0 lb A B) {b : Nat} {ty : TypeId} {cs : Array Value} (hb : Box A b ty cs) (hn : b < N0) (hl : b ≠ lb) : Box B b ty cs :=
  h.cells b _ hn hl hb rfl
theorem KQ.ck {N0 lb : Nat} {w0 A B : World} (h : KQ N0 lb A B) (hck : CK w0.heap.size w0 A) (h0 : w0.heap.size ≤ N0) (hl : w0.heap.size ≤ lb) : CK w0.heap.size w0 B :=
  ⟨fun k o hk ho hc => h.cells k o (by omega) (by omega) (hck.cells k o hk ho hc) hc⟩

/-- a number as it is handed over -/
def encQ (x : Int) : Array Value := #[.int .i64 x]

theorem wpListIn_append_runQ {F : Fence} {nF : Nat} {P : Program} (w : World) {ops : Array Oper} {rest : List Oper} {o : Oper} {a : Act} {Q : Exit → Act → World → Prop} (hgd : o.guard = none) (s x : Operand) (t tn : TypeId)
    (ho : o.op = .call { callee := .builtin .append, args := #[s, x], argTypes := #[t, tn] }) (vs vx : Value) (hs : a.eval s = vs) (hx : a.eval x = vx)
    (v' : Value) (w' : World) (hr : (Builtin.append_ #[t, tn] o.type #[vs, vx]).run P w = .ok v' w') (h : wpListIn F nF P ops Q rest (a.put o.dst v') w') : wpListIn F nF P ops Q (o :: rest) a w := by
  refine wpListIn_plain hgd fun K hK => ?_
  unfold Oper.wpIn
  refine ⟨by simp [Oper.about, ho, resolve, Target.leads, Sem.run_pure], ?_⟩
  rw [Oper.semAt_plain F _ _ (by rw [ho]; intro c hc'; cases hc')]
  simp [execOp, ho, resolve, invoke, builtin, hs, hx, hr, Result.andThen]
  exact hK _ _ h

set_option maxRecDepth 100000 in
set_option maxHeartbeats 1000000 in
/-- the closure that Constants picks by -/
theorem pickC (t : T) (v : Value) (f : Int) (Bf : Nat) (w : World) (hv : Rd w t v) (hf : Box w Bf 3 #[.int .i64 f]) :
    Calls Try.prog 30 #[v, .pointer (some ⟨Bf, 0, none⟩)] w fun e w' => e = .returned (.bool (faI t == f)) ∧ Below w.heap.size w w' := by
  obtain ⟨k, h, A, n, c, rfl⟩ := hv.full
  obtain ⟨W, hW⟩ : ∃ W, w.alloc (.cells #[.int .i64 k, .int .i64 h, .slice A n c] 24) = W := ⟨_, rfl⟩
  have hb : Below w.heap.size w W := by rw [← hW]; exact (Below.refl _ _).alloc (Nat.le_refl _) _
  have x0 : Box W w.heap.size 24 #[.int .i64 k, .int .i64 h, .slice A n c] := by rw [← hW]; exact Box.new _ _ _
  have xf : Box W Bf 3 #[.int .i64 f] := hf.keep hb hf.lt
  obtain ⟨p0, p1, p2⟩ := x0.three
  have pf : W.cell? ⟨Bf, 0, none⟩ = some (.int .i64 f) := xf.cell 0
  have HV := Lib.hid (Rd.keep hb _ _ hv)
  have HW := Lib.hid hW
  clear hv hf hW
  go_enter Try.func30, Try.ntmps30
  go_wp2_with fail
  rw [HW.out]
  clear HW
  have q0 := Past.cell p0
  have q1 := Past.cell p1
  have q2 := Past.cell p2
  have qf := Past.cell pf
  refine wp_region_past (by kernel_rfl) (by kernel_rfl) ?_
  repeat (go_big_quiet_step ((go_at_call 19; exact calls_past (familyC t _ _ (Rd.keep (Past.h _) _ _ HV.out)))))
  refine wpQuiet_nil ?_
  rintro _ ⟨z1, rfl⟩
  obtain ⟨W4, hb4⟩ := z1
  dsimp only
  clear q0 q1 q2 qf p0 p1 p2 pf
  go_wp2_with fail
  go_ret
  exact ⟨rfl, hb.trans (hb4.mono hb.size)⟩

set_option maxRecDepth 100000 in
set_option maxHeartbeats 4000000 in
/-- what picked hands back gives the numbers that are picked -/
theorem pickedStops (m : Nat) (w0 w : World) (ds : List T) (A : Option Addr) (n c : Nat) (f : Int) (Bs Bp Bf lb : Nat) (hd : DL w0 ds A n c) (hb : Below w0.heap.size w0 w) (hBs : Box w Bs 25 #[.slice A n c])
    (hBp : Box w Bp 33 #[.func (.func 30) #[] #[.pointer (some ⟨Bf, 0, none⟩)]]) (hBf : Box w Bf 3 #[.int .i64 f]) (h0 : w0.heap.size ≤ lb) (ls : Bs ≠ lb) (lp : Bp ≠ lb) (lf : Bf ≠ lb) (hf0 : 0 ≤ f) :
    SeqStopsK Fence.wide m Try.prog 34 #[.pointer (some ⟨Bs, 0, none⟩), .pointer (some ⟨Bp, 0, none⟩)] encQ (KQ w.heap.size lb) (fun ys => ys = cnL f ds 0) (fun _ => True) n w := by
  intro l J Jx W hW hJ hJx hY h00
  refine callsIn_wide.2 ?_
  have xs := hBs.keep hW hBs.lt
  have xp := hBp.keep hW hBp.lt
  have xf := hBf.keep hW hBf.lt
  have hlt1 := hBs.lt
  have hlt2 := hBp.lt
  have hlt3 := hBf.lt
  have hck : CK w0.heap.size w0 W := CK.of_below (hb.trans (hW.mono hb.size))
  have hcap := hd.cap
  have hle := hd.le
  unfold maxLen at hcap
  have p0 : W.cell? ⟨Bs, 0, none⟩ = some (.slice A n c) := xs.cell 0
  have hs0 := hb.size
  have hsW := hW.size
  have HXS := Lib.hid (And.intro xs (And.intro xp xf))
  have HD := Lib.hid hd
  have HCK := Lib.hid hck
  have HJ := Lib.hid (fun s W W' (hs : J s W) (hb : Below W.heap.size W W') => hJ s W W' none hs (grown_of_below hb) (fun r e => by cases e))
  have HY := Lib.hid hY
  have H00 := Lib.hid h00
  clear xs xp xf hck hd hJ hJx hY h00 hb hW hBs hBp hBf
  refine (callsIn_wide (n := 1)).1 (callsIn_of_wp Try.func34 rfl trivial ?_ rfl)
  simp only [Try.ntmps34, List.size_toArray, List.length_cons, List.length_nil, Nat.reduceAdd, Nat.reduceSub, Array.replicate_succ, Array.replicate_zero, List.push_toArray, List.append_toArray, List.nil_append, List.cons_append]
  gi_wp2_with fail
  gi_loopw [8] (fun i wr => ∃ (j : Nat) (ys : List Int), j ≤ n ∧ i = .int .i64 j ∧ Hid (ys ++ cnL f (ds.drop j) j = cnL f ds 0) ∧ Hid (J ys wr) ∧ Hid (KQ w.heap.size lb W wr)) (fun i _ => n - (intOf i).toNat)
  case atStart => exact ⟨0, [], Nat.zero_le _, rfl, Lib.hid (by simp), H00, Lib.hid (KQ.refl _ _ _)⟩
  case round =>
    obtain ⟨j, ys, hj, rfl, HS, HJr, HK⟩ := hrel
    by_cases hlt : j < n
    · obtain ⟨x, hx⟩ := at_of HD.out.len hlt
      obtain ⟨b1, o1, s1, k1, h1, A1, n1, c1, rfl, e0, e1, e2, e3, hr1⟩ := HD.out.at_ j x hx
      have HC := Lib.hid (HK.out.ck HCK.out hs0 h0)
      have d0 := HC.out.cell (cell_lt e0) e0
      have d1 := HC.out.cell (cell_lt e1) e1
      have d2 := HC.out.cell (cell_lt e2) e2
      have d3 := HC.out.cell (cell_lt e3) e3
      have hrr := Rd.ck HC.out _ _ hr1
      have HS' := HS.out
      rw [drop_at hx, cnL] at HS'
      have HS := Lib.hid HS'; clear HS'
      have hlen : ys.length < n ∨ ¬ (faI x = f) := by
        by_cases hq : faI x = f
        · left
          have e := congrArg List.length HS.out
          have h6 := cnL_len f ds 0
          have h7 := HD.out.len
          rw [if_pos ⟨hf0, hq⟩] at e
          simp only [List.length_append, List.length_singleton] at e
          omega
        · exact .inr hq
      have HLN := Lib.hid hlen
      obtain ⟨Wa, hWa⟩ : ∃ Wa, wr.alloc (.cells #[.string s1, .int .i64 k1, .int .i64 h1, .slice A1 n1 c1] 39) = Wa := ⟨_, rfl⟩
      have hbA : Below wr.heap.size wr Wa := by rw [← hWa]; exact (Below.refl _ _).alloc (Nat.le_refl _) _
      have z5 : Box Wa wr.heap.size 39 #[.string s1, .int .i64 k1, .int .i64 h1, .slice A1 n1 c1] := by rw [← hWa]; exact Box.new _ _ _
      have hKa : KQ w.heap.size lb W Wa := HK.out.trans (KQ.of_below hbA)
      have zp := hKa.box HXS.out.2.1 hlt2 lp
      have zf := hKa.box HXS.out.2.2 hlt3 lf
      have a1 : Wa.cell? ⟨wr.heap.size, 1, none⟩ = some (.int .i64 k1) := z5.cell 1
      have a2 : Wa.cell? ⟨wr.heap.size, 2, none⟩ = some (.int .i64 h1) := z5.cell 2
      have a3 : Wa.cell? ⟨wr.heap.size, 3, none⟩ = some (.slice A1 n1 c1) := z5.cell 3
      have ap : Wa.cell? ⟨Bp, 0, none⟩ = some (.func (.func 30) #[] #[.pointer (some ⟨Bf, 0, none⟩)]) := zp.cell 0
      have HPC := Lib.hid (pickC x _ f Bf Wa (Rd.keep hbA _ _ hrr) zf)
      have HKA := Lib.hid hKa
      have HJA := Lib.hid (HJ.out _ _ _ HJr.out hbA)
      have hi0 : (0 : Int) ≤ j := by omega
      have hi1 : (j : Int) < n := by omega
      obtain ⟨R, hR⟩ : ∃ R, (faI x == f) = R := ⟨_, rfl⟩
      rw [hR] at HPC
      have HR := Lib.hid hR
      clear hx hr1 hrr e0 e1 e2 e3 hlen z5 zp zf hKa hR hbA
      subst hWa
      gi_wp2_with fail
      refine ⟨trivial, ?_⟩
      refine (callsIn_wide.2 HPC.out).mono ?_
      rintro e w2 ⟨rfl, hb2⟩
      have hK2 : KQ w.heap.size lb W w2 := HKA.out.trans (KQ.of_below hb2)
      have hJ2 := HJ.out _ _ _ HJA.out hb2
      have HK2 := Lib.hid hK2
      have HJ2 := Lib.hid hJ2
      clear hK2 hJ2 hb2 HPC HKA HJA a1 a2 a3 ap
      cases R
      · have hq : ¬ faI x = f := by simpa using HR.out
        have e9 := HS.out
        rw [if_neg (fun e => hq e.2), List.nil_append] at e9
        have HS9 := Lib.hid e9
        clear hq e9
        gi_wp2_with fail
        refine ⟨fun g hg => (by simp at hg), ?_⟩
        gi_wp2_with fail
        go_roundw
        case rel => exact ⟨j + 1, ys, by omega, by go_num, HS9, HJ2, HK2⟩
        case measure => simp [intOf]; omega
      · have hq : faI x = f := by simpa using HR.out
        have hln : ys.length < n := by
          rcases HLN.out with h | h
          · exact h
          · exact absurd hq h
        have e9 := HS.out
        rw [if_pos ⟨hf0, hq⟩, ← List.append_assoc] at e9
        have HS9 := Lib.hid e9
        obtain ⟨fn, tmps, assign, body, hy, hR⟩ := yieldAny 0 (HY.out ys (j : Int) w2 HJ2.out hln)
        have HRR := Lib.hid hR
        rw [encQ] at hy
        clear hq e9 hln hR
        gi_wp2_with fail
        refine HRR.out.mono ?_
        rintro e W3 (⟨rfl, hJ3, hk3⟩ | ⟨rfl, hJx3⟩)
        · have HJ3 := Lib.hid hJ3
          have HK3 := Lib.hid (HK2.out.trans hk3)
          clear hJ3 hk3 hy HRR
          gi_wp2_with fail
          go_roundw
          case rel => exact ⟨j + 1, ys ++ [(j : Int)], by omega, by go_num, HS9, HJ3, HK3⟩
          case measure => simp [intOf]; omega
        · have HJX := Lib.hid hJx3
          clear hJx3 hy HRR
          gi_wp2_with fail
          exact bodyPost_ret (v := .tuple #[]) (by simp [results, Try.results34, go_sem]) rfl ⟨⟨_, rfl⟩, .inr ⟨_, trivial, HJX.out⟩⟩
    · have HS' := HS.out
      rw [drop_all HD.out.len (by omega), cnL, List.append_nil] at HS'
      have HE := Lib.hid HS'
      clear HS'
      gi_wp2_with fail
      go_end0
      exact ⟨⟨_, rfl⟩, .inl ⟨ys, HE.out, HJr.out⟩⟩

theorem pickedC (v f : Value) (hv : ∃ A n c, v = .slice A n c) (hf : ∃ g cs, f = .func g #[] cs) (w : World) :
    Calls Try.prog 29 #[v, f] w fun e w' => e = .returned (.func (.func 34) #[] #[.pointer (some ⟨w.heap.size, 0, none⟩), .pointer (some ⟨w.heap.size + 1, 0, none⟩)]) ∧ w' = (w.alloc (.cells #[v] 25)).alloc (.cells #[f] 33) := by
  obtain ⟨A, n, c, rfl⟩ := hv
  obtain ⟨g, cs, rfl⟩ := hf
  go_enter Try.func29, Try.ntmps29
  go_wp2_with fail
  go_ret
  exact ⟨rfl, rfl⟩
theorem IRow.kept {w w' : World} {base : Nat} {v : Value} {n : Nat} {zs : List Int} (h : IRow w base v n zs) {row : Option Nat} (hg : w.grownBy w' row) {B : Nat} (hr : ∀ r, row = some r → B ≤ r ∧ ∃ o : Obj, w.heap[r]? = some o ∧ o.isCells = false) : IRow w' base v n zs :=
  h.move fun g hg' => hg.block g (h.lt hg').2 fun e => by
    obtain ⟨_, o, ho, hc⟩ := hr g e.symm
    rcases h.own.2 with ⟨e1, _⟩ | ⟨g', cap, cur, e1, _, hb, _⟩
    · rw [e1] at hg'; simp [Value.ownBlock] at hg'
    · rw [e1] at hg'
      simp [Value.ownBlock] at hg'
      subst hg'
      rw [hb] at ho
      cases ho
      cases hc

set_option maxRecDepth 100000 in
set_option maxHeartbeats 4000000 in
theorem constsC (ds : List T) (f : Int) (A : Option Addr) (n c : Nat) (w : World) (hx : DL w ds A n c) (hn : n ≤ 1000) :
    Calls Try.prog 16 #[.slice A n c, .int .i64 f] w fun e w' => ∃ Ac m cc, e = .returned (.slice Ac m cc) ∧ (cnL f ds 0).length = m ∧ m ≤ cc ∧ cc ≤ maxLen ∧ NuQ w' (cnL f ds 0) Ac ∧ Below w.heap.size w w' := by
  by_cases hf : f < 0
  · have d0 : decide (f < 0) = true := by simpa using hf
    have hb : Below w.heap.size w (w.alloc (.cells #[.int .i64 f] 3)) := (Below.refl _ _).alloc (Nat.le_refl _) _
    have HE := Lib.hid (cnL_neg hf ds 0)
    clear hx hf
    go_enter Try.func16, Try.ntmps16
    go_wp2_with fail
    go_ret
    rw [HE.out]
    exact ⟨none, 0, 0, rfl, rfl, Nat.le_refl _, Nat.zero_le _, (fun i z hz => by simp at hz), hb⟩
  · have d0 : decide (f < 0) = false := by simpa using hf
    have HX := Lib.hid hx; clear hx
    have HF := Lib.hid (show 0 ≤ f by omega); clear hf
    refine (callsIn_wide (n := 8)).1 (callsIn_of_wp_marks Try.func16 rfl trivial ?_ rfl)
    simp only [Try.ntmps16, List.size_toArray, List.length_cons, List.length_nil, Nat.reduceAdd, Nat.reduceSub, Array.replicate_succ, Array.replicate_zero, List.push_toArray, List.append_toArray, List.nil_append, List.cons_append]
    gi_wp2_with (refine ⟨trivial, ?_⟩; gi_at_call 29; refine (callsIn_wide.2 (pickedC _ _ ⟨A, n, c, rfl⟩ ⟨_, _, rfl⟩ _)).mono ?_; rintro e w' ⟨rfl, rfl⟩)
    obtain ⟨W0, hW0⟩ : ∃ W0, ((((w.alloc (.cells #[.int .i64 f] 3)).alloc (.cells #[.slice none 0 0] 34)).alloc (.cells #[.slice A n c] 25)).alloc (.cells #[.func (.func 30) #[] #[.pointer (some ⟨w.heap.size, 0, none⟩)]] 33)) = W0 := ⟨_, rfl⟩
    rw [hW0]
    have hbW : Below w.heap.size w W0 := by
      rw [← hW0]; exact ((((Below.refl _ w).alloc (Nat.le_refl _) _).alloc (by simp) _).alloc (by simp; omega) _).alloc (by simp; omega) _
    have bx0 : Box W0 w.heap.size 3 #[.int .i64 f] := by
      rw [← hW0]; exact (((Box.new w _ _).alloc _).alloc _).alloc _
    have bx1 : Box W0 (w.heap.size + 1) 34 #[.slice none 0 0] := by
      rw [← hW0]; exact (((Box.new (w.alloc _) _ _).at (b' := w.heap.size + 1) (by simp)).alloc _).alloc _
    have bx2 : Box W0 (w.heap.size + 1 + 1) 25 #[.slice A n c] := by
      rw [← hW0]; exact ((Box.new ((w.alloc _).alloc _) _ _).at (b' := w.heap.size + 1 + 1) (by simp)).alloc _
    have bx3 : Box W0 (w.heap.size + 1 + 1 + 1) 33 #[.func (.func 30) #[] #[.pointer (some ⟨w.heap.size, 0, none⟩)]] := by
      rw [← hW0]; exact (Box.new (((w.alloc _).alloc _).alloc _) _ _).at (b' := w.heap.size + 1 + 1 + 1) (by simp)
    have hl3 := bx3.lt
    have hsz : W0.heap.size = w.heap.size + 4 := by rw [← hW0]; simp
    clear hW0
    refine wpIn_rangeFunc_ownH rfl (by omega) (gf := 34) (lb := #[.pointer (some ⟨w.heap.size + 1 + 1, 0, none⟩), .pointer (some ⟨w.heap.size + 1 + 1 + 1, 0, none⟩)]) rfl trivial (enters_of Try.func34 (by kernel_rfl) rfl)
      (pickedStops 7 w W0 ds A n c f _ _ _ (w.heap.size + 1) HX.out hbW bx2 bx3 bx0 (by omega) (by omega) (by omega) (by omega) HF.out) KQ.trans (fun W l o o' h1 _ _ _ => KQ.put W l o' h1) (Below.refl _ _) (fun _ => rfl)
      (fun pre W => ∃ v, Box W (w.heap.size + 1) 34 #[v] ∧ IRow W (w.heap.size + 4) v pre.length pre ∧ Below w.heap.size w W ∧ W0.heap.size ≤ W.heap.size)
      (fun cd pre W => False)
      (fun s A B row hs hg hr => by
        obtain ⟨v, h1, h2, h3, h4⟩ := hs
        exact ⟨v, h1.kept hg hr, h2.kept hg hr, below_kept h3 hg hr (by omega) h3.size, Nat.le_trans h4 hg.size⟩)
      (fun _ s A B row hs hg hr => hs) ⟨_, bx1, IRow.nil _ _, hbW, Nat.le_refl _⟩
      (fun x a' W => a' = { tmps := #[.slice A n c, .int .i64 f, undef, .pointer (some ⟨w.heap.size, 0, none⟩), .slice none 0 0, .pointer (some ⟨w.heap.size + 1, 0, none⟩), .int .i64 x, .int .i64 f, .bool false, .slice A n c,
        .func (.func 30) #[] #[.pointer (some ⟨w.heap.size, 0, none⟩)], .func (.func 34) #[] #[.pointer (some ⟨w.heap.size + 1 + 1, 0, none⟩), .pointer (some ⟨w.heap.size + 1 + 1 + 1, 0, none⟩)],
        .int .i64 x, undef, undef, undef, undef, undef], defers := [] })
      (fun _ _ _ A B row hs hg hr => hs) ?assign ?body ?done ?stop
    case assign =>
      rintro l pre x W K hI hK
      simp only [encQ, List.zip_toArray, List.zip_cons_cons, List.zip_nil_right, List.foldl_toArray, List.foldl_cons, List.foldl_nil, List.setIfInBounds_toArray, List.set_cons_succ, List.set_cons_zero]
      gi_wp2
      exact hK _ _ (KeepsFrom.refl _ _) (KQ.refl _ _ _) hI rfl
    case body =>
      rintro l pre x a' W hl ⟨r, hr⟩ ⟨v, hb1, hrow, hB, hs0⟩ rfl hlen
      obtain ⟨Ar, cr, rfl, hcr, hcm⟩ := hrow.full
      obtain ⟨c1, f1⟩ := hb1.one
      obtain ⟨g, cap, w4, hrun, hrow4, hold, hb4, s4⟩ := hrow.push (z := x) (by omega) (by omega)
      have hne : some (w.heap.size + 1) ≠ Value.ownBlock (.slice Ar pre.length cr) := fun e => by
        have := (hrow.lt e.symm).1
        omega
      have lb1 := hb1.lt
      have y1 : Box w4 (w.heap.size + 1) 34 #[.slice Ar pre.length cr] := (hold _ lb1 hne).trans hb1
      obtain ⟨c4, f4⟩ := y1.one
      have HP := Lib.hid (show KeepsFrom W0.heap.size W (w4.setCell ⟨w.heap.size + 1, 0, none⟩ (.slice (some ⟨g, 0, none⟩) (pre.length + 1) cap)) ∧ KQ W0.heap.size (w.heap.size + 1) W (w4.setCell ⟨w.heap.size + 1, 0, none⟩ (.slice (some ⟨g, 0, none⟩) (pre.length + 1) cap)) ∧
          (∃ v, Box (w4.setCell ⟨w.heap.size + 1, 0, none⟩ (.slice (some ⟨g, 0, none⟩) (pre.length + 1) cap)) (w.heap.size + 1) 34 #[v] ∧ IRow (w4.setCell ⟨w.heap.size + 1, 0, none⟩ (.slice (some ⟨g, 0, none⟩) (pre.length + 1) cap)) (w.heap.size + 4) v (pre ++ [x]).length (pre ++ [x]) ∧ Below w.heap.size w (w4.setCell ⟨w.heap.size + 1, 0, none⟩ (.slice (some ⟨g, 0, none⟩) (pre.length + 1) cap)) ∧ W0.heap.size ≤ (w4.setCell ⟨w.heap.size + 1, 0, none⟩ (.slice (some ⟨g, 0, none⟩) (pre.length + 1) cap)).heap.size) from by
        have hother : ∀ k o, k < W.heap.size → k ≠ w.heap.size + 1 → some k ≠ Value.ownBlock (.slice Ar pre.length cr) → W.heap[k]? = some o → (w4.setCell ⟨w.heap.size + 1, 0, none⟩ (.slice (some ⟨g, 0, none⟩) (pre.length + 1) cap)).heap[k]? = some o := fun k o hk h1 h2 h3 => by
          rw [Below.heap_setCell _ _ _ _ (by dsimp only; omega), hold k hk h2]
          exact h3
        refine ⟨⟨by simp [World.setCell]; omega, fun k o hk ho hc => ?_⟩, ⟨by simp [World.setCell]; omega, fun k o hk h1 ho hc => ?_⟩, _, y1.set _, ?_, (hB.trans (hb4.mono (by omega))).setCell (by dsimp only; omega) _, by simp [World.setCell]; omega⟩
        · refine hother k o (Array.getElem?_eq_some_iff.1 ho).1 (by omega) (fun e => ?_) ho
          rcases hrow.own.2 with ⟨e1, _⟩ | ⟨g', cap, cur, e1, _, hb, _⟩
          · rw [e1] at e; simp [Value.ownBlock] at e
          · rw [e1] at e
            simp [Value.ownBlock] at e
            subst e
            rw [hb] at ho
            cases ho
            cases hc
        · refine hother k o (Array.getElem?_eq_some_iff.1 ho).1 h1 (fun e => ?_) ho
          have := (hrow.lt e.symm).1
          omega
        · rw [List.length_append, List.length_singleton]
          exact hrow4.move fun q hq => Below.heap_setCell _ _ _ _ (by have := (hrow4.lt hq).1; dsimp only; omega))
      clear hrow hrow4 hold hb4 y1 hb1
      gi_wp2_with (gi_at_builtin; refine wpListIn_append_runQ _ rfl _ _ _ _ rfl _ _ rfl rfl _ _ hrun ?_)
      exact HP.out
    case done =>
      rintro D ys W hD hS ⟨v, hb1, hrow, hB, hs0⟩ hK
      obtain ⟨Ar, cr, rfl, hcr, hcm⟩ := hrow.full
      obtain ⟨c1, f1⟩ := hb1.one
      have hnu := hrow.nu
      have HS := Lib.hid hS
      have hB' := below_putObj hB (show w.heap.size ≤ D by omega) (.deferred none)
      clear hS
      gi_wp2
      refine ⟨by simp, .inl ⟨_, _, rfl, run_takeDeferred hK, ?_⟩⟩
      refine ⟨_, results_tmp rfl _ _ _, ⟨Ar, ys.length, cr, rfl, by rw [← HS.out], hcr, hcm, ?_, hB'⟩⟩
      rw [← HS.out]
      intro i z hz
      obtain ⟨b, o, e, hc⟩ := hnu i z hz
      refine ⟨b, o, e, ?_⟩
      have hne : D ≠ b := by
        rintro rfl
        unfold World.cell? at hc
        rw [hK] at hc
        cases hc
      rw [← hc]
      exact World.cell?_of_block (by simp only [World.putObj]; rw [Array.getElem?_setIfInBounds_ne hne])
    case stop =>
      rintro D cd pre W _ _ h _
      exact h.elim
end Go.Proofs.Ytclhllkgamnpoaa
