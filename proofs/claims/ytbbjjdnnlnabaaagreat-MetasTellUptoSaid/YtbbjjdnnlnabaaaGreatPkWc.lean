/- Texts of one proof, put together. No statement is proved here. -/
import Derived.Test.YtbbjjdnnlnabaaaGreatPkG
import Derived.Test.YtbbjjdnnlnabaaaGreatPkRq
namespace Go.Proofs.YtbbjjdnnlnabaaaGreat
open Go.ChangeShapes Go.WideShapes Go.ChangeAt Go.RowKit
set_option linter.unusedVariables false
set_option linter.unusedSimpArgs false
set_option maxRecDepth 100000
set_option maxHeartbeats 4000000
def MEnd (pw ps : Nat) (X : Nat → Prop) (w : World) (L : List T) (sh : Int) (A : Option Addr) (n c : Nat) (mv : Value) (t : T) (e : Ending) (w' : World) : Prop :=
  ∃ k h A' n' c' X' mv', e = .returned (.agg #[.int .i64 k, .int .i64 h, .slice A' n' c']) ∧ RX X' w' t (.agg #[.int .i64 k, .int .i64 h, .slice A' n' c']) ∧ Sc X' w' ps L sh A n c mv' ∧ Stp pw ps X w mv X' w' mv'
theorem rx_leaf {X : Nat → Prop} {w : World} {k h : Int} (hk : (Lit.int .i64 k).wf = true) (hh : (Lit.int .i64 h).wf = true) : RX X w (.node k h []) (.agg #[.int .i64 k, .int .i64 h, .slice none 0 0]) :=
  RdF_node.2 ⟨none, 0, 0, rfl, hk, hh, rfl, Nat.le_refl _, Nat.zero_le _, fun i t ht => by simp at ht⟩
theorem wf_small {x : Int} (h : -9223372036854775808 ≤ x) (h' : x ≤ 9223372036854775807) : (Lit.int .i64 x).wf = true := by
  have := wf_wrap64 x
  rwa [wrap_small h h'] at this
theorem mapsFar (pw : Nat) {X : Nat → Prop} {w : World} {ps : Nat} {L : List T} {sh : Int} {A : Option Addr} {n c : Nat} {mv : Value} (hs : Sc X w ps L sh A n c mv) (fr : Int) (u : Nat) (h1 : n ≤ fr) (h2 : fr ≤ 1125899906842624) (h3 : 0 ≤ sh) (h4 : sh ≤ 1048576) (hu : u ≤ 40000) :
    Calls Tryz.prog 127 #[.pointer (some ⟨ps, 0, none⟩), .int .i64 fr, .int .i64 u] w (MEnd pw ps X w L sh A n c mv (.node 4 (fr - n + sh + u) [])) := by
  have lp := hs.box.lt
  obtain ⟨c0, c1, c2⟩ := hs.box.three
  have d1 : decide ((n : Int) ≤ fr) = true := by simpa using h1
  have hn := hs.list.le
  have hc := hs.list.cap
  unfold maxLen at hc
  have HS := Lib.hid hs; clear hs
  go_enter Tryz.func127, Tryz.ntmps127
  go_wp2_with fail
  obtain ⟨W, hW⟩ : ∃ W, w.alloc (.cells #[.int .i64 0, .int .i64 0, .slice none 0 0] 39) = W := ⟨_, rfl⟩
  have hb : Below w.heap.size w W := by rw [← hW]; exact (Below.refl _ _).alloc (Nat.le_refl _) _
  have xR : Box W w.heap.size 39 #[.int .i64 0, .int .i64 0, .slice none 0 0] := by rw [← hW]; exact Box.new _ _ _
  rw [hW]
  clear hW
  refine (varC _ _).mono ?_
  rintro e w1 ⟨rfl, hb1⟩
  have lR := xR.lt
  have zR := xR.keep hb1 lR
  have HB := Lib.hid (hb.trans (hb1.mono hb.size))
  clear hb1 xR c0 c1 c2
  obtain ⟨r0, r1, r2⟩ := zR.three
  have f0 := zR.frozen 0
  have f1 := zR.frozen 1
  have f2 := zR.frozen 2
  go_wp2_with fail
  refine bodyPost_ret (v := .agg #[.int .i64 4, .int .i64 (fr - n + sh + u), .slice none 0 0]) (by simp [results, Tryz.results127, go_sem, r0, r1, r2]) rfl ?_
  have hbb := below_set3 (a := w.heap.size) HB.out (Nat.le_refl _) (.int .i64 4) (.int .i64 (fr - n + sh + u)) (.slice none 0 0)
  exact ⟨_, _, _, _, _, X, mv, rfl, rx_leaf (by decide) (wf_small (by omega) (by omega)), HS.out.below hbb, Stp.below hbb⟩
theorem Sc.at_ {X : Nat → Prop} {w : World} {ps : Nat} {L : List T} {sh : Int} {A : Option Addr} {n c : Nat} {mv : Value} (hs : Sc X w ps L sh A n c mv) {j : Nat} (hj : j < n) : RdFAt (fun b => ¬ X b) w A j (L.getD j (.node 0 0 [])) := by
  have hl : j < L.length := by rw [hs.list.len]; exact hj
  refine hs.list.at_ j _ ?_
  rw [List.getD_eq_getElem?_getD, List.getElem?_eq_getElem hl, Option.getD_some]
theorem mapsZero (pw : Nat) {X : Nat → Prop} {w : World} {ps : Nat} {L : List T} {sh : Int} {A : Option Addr} {n c : Nat} {mv : Value} (hs : Sc X w ps L sh A n c mv) (m j : Nat) (h1 : m + j + 1 = n) :
    Calls Tryz.prog 127 #[.pointer (some ⟨ps, 0, none⟩), .int .i64 m, .int .i64 0] w (MEnd pw ps X w L sh A n c mv (L.getD j (.node 0 0 []))) := by
  have lp := hs.box.lt
  obtain ⟨c0, c1, c2⟩ := hs.box.three
  have d1 : decide (n ≤ m) = false := by simp; omega
  have hn := hs.list.le
  have hc := hs.list.cap
  unfold maxLen at hc
  have hij : (n : Int) - 1 - m = j := by omega
  have hlt : (j : Int) < n := by omega
  obtain ⟨b, o, k2, h2, A2, n2, c2', rfl, e0, e1, e2, hr⟩ := (hs.at_ (j := j) (by omega)).full
  have HS := Lib.hid hs; clear hs
  have HR := Lib.hid hr; clear hr
  have lb := cell_lt e0
  dsimp only at lb
  have H1 := Lib.hid h1; clear h1
  go_enter Tryz.func127, Tryz.ntmps127
  go_wp2_with fail
  refine bodyPost_ret (v := .agg #[.int .i64 k2, .int .i64 h2, .slice A2 n2 c2']) (by simp [results, Tryz.results127, go_sem]) rfl ?_
  have hbb : Below w.heap.size w ((w.alloc (.cells #[.int .i64 k2, .int .i64 h2, .slice A2 n2 c2'] 39)).alloc (.cells #[.int .i64 k2, .int .i64 h2, .slice A2 n2 c2'] 39)) := ((Below.refl _ _).alloc (Nat.le_refl _) _).alloc (by simp) _
  exact ⟨_, _, _, _, _, X, mv, rfl, RX.adv HR.out (Adv.below hbb), HS.out.below hbb, Stp.below hbb⟩
def LkR (mv : Value) (fr : Int) (u : Nat) (v : Value) (bo : Bool) (W : World) : Prop :=
  (Instr.lookup 140 mv (plK fr u) true).run Tryz.prog W = .ok (.tuple #[v, .bool bo]) W
theorem mapsFound (pw : Nat) {X : Nat → Prop} {w : World} {ps : Nat} {L : List T} {sh : Int} {A : Option Addr} {n c : Nat} {mv : Value} (hs : Sc X w ps L sh A n c mv) (m j u : Nat) (h1 : m + j + 1 = n) (hu : 0 < u) (hu2 : u ≤ 40000)
    {k h : Int} {AT : Option Addr} {nT cT : Nat} (hv : RX X w (upT u (L.getD j (.node 0 0 [])) 0) (.agg #[.int .i64 k, .int .i64 h, .slice AT nT cT]))
    (hlk : ∀ W, Below w.heap.size w W → LkR mv m u (.agg #[.int .i64 k, .int .i64 h, .slice AT nT cT]) true W) :
    Calls Tryz.prog 127 #[.pointer (some ⟨ps, 0, none⟩), .int .i64 m, .int .i64 u] w (MEnd pw ps X w L sh A n c mv (upT u (L.getD j (.node 0 0 [])) 0)) := by
  have lp := hs.box.lt
  obtain ⟨c0, c1, c2⟩ := hs.box.three
  have d1 : decide (n ≤ m) = false := by simp; omega
  have hn := hs.list.le
  have hc := hs.list.cap
  unfold maxLen at hc
  have hij : (n : Int) - 1 - m = j := by omega
  have hlt : (j : Int) < n := by omega
  have hu0 : ((u : Int) == 0) = false := by rw [beq_eq_false_iff_ne]; omega
  obtain ⟨b, o, k2, h2, A2, n2, c2', rfl, e0, e1, e2, hr⟩ := (hs.at_ (j := j) (by omega)).full
  have bxS := hs.box
  have HS := Lib.hid hs; clear hs
  have HV := Lib.hid hv; clear hv hr
  have HLK := Lib.hid hlk; clear hlk
  have lb := cell_lt e0
  dsimp only at lb
  have H1 := Lib.hid h1; clear h1
  go_enter Tryz.func127, Tryz.ntmps127
  go_wp2_with fail
  obtain ⟨W, hW⟩ : ∃ W, (((w.alloc (Obj.cells #[Value.int IntKind.i64 0, Value.int IntKind.i64 0, Value.slice none 0 0] 39)).alloc (Obj.cells #[Value.int IntKind.i64 k2, Value.int IntKind.i64 h2, Value.slice A2 n2 c2'] 39)).alloc (Obj.cells #[Value.int IntKind.i64 ↑m, Value.int IntKind.i64 ↑u] 159)) = W := ⟨_, rfl⟩
  have hb : Below w.heap.size w W := by rw [← hW]; exact (((Below.refl _ _).alloc (Nat.le_refl _) _).alloc (by simp) _).alloc (by simp; omega) _
  have xR : Box W w.heap.size 39 #[.int .i64 0, .int .i64 0, .slice none 0 0] := by rw [← hW]; exact ((Box.new _ _ _).alloc _).alloc _
  have xT : Box W (w.heap.size + 1) 39 #[.int .i64 k2, .int .i64 h2, .slice A2 n2 c2'] := by rw [← hW]; exact ((Box.new (w.alloc _) _ _).at (by simp)).alloc _
  have xP : Box W (w.heap.size + 1 + 1) 159 #[.int .i64 m, .int .i64 u] := by rw [← hW]; exact (Box.new ((w.alloc _).alloc _) _ _).at (by simp)
  have bxW := bxS.keep hb lp
  rw [hW]
  clear hW bxS c0 c1 c2 e0 e1 e2
  obtain ⟨c0, c1, c2⟩ := bxW.three
  obtain ⟨p0, p1⟩ := xP.two
  obtain ⟨r0, r1, r2⟩ := xR.three
  have f0 := xR.frozen 0
  have f1 := xR.frozen 1
  have f2 := xR.frozen 2
  have lR := xR.lt
  have lP := xP.lt
  have lS := bxW.lt
  have hk1 : (Instr.lookup 140 mv (.agg #[.int .i64 m, .int .i64 u]) true).run Tryz.prog W.drew = .ok (.tuple #[.agg #[.int .i64 k, .int .i64 h, .slice AT nT cT], .bool true]) W.drew := HLK.out _ hb.drew
  have hk2 : (Instr.lookup 140 mv (.agg #[.int .i64 m, .int .i64 u]) true).run Tryz.prog (W.alloc (.cells #[.int .i64 0, .int .i64 0, .slice none 0 0] 39)).drew = .ok (.tuple #[.agg #[.int .i64 k, .int .i64 h, .slice AT nT cT], .bool true]) (W.alloc (.cells #[.int .i64 0, .int .i64 0, .slice none 0 0] 39)).drew := HLK.out _ (hb.alloc hb.size _).drew
  have HB := Lib.hid hb; clear hb
  go_region
  all_goals
    go_wp2_with fail
    refine bodyPost_ret (v := .agg #[.int .i64 k, .int .i64 h, .slice AT nT cT]) (by simp [results, Tryz.results127, go_sem, lR, r0, r1, r2]) rfl ?_
    have hbb := ((below_set3 (a := w.heap.size) HB.out (Nat.le_refl _) (.int .i64 k) (.int .i64 h) (.slice AT nT cT)).alloc (by have := HB.out.size; simpa using this) (.cells #[.int .i64 k, .int .i64 h, .slice AT nT cT] 39)).drew
    exact ⟨_, _, _, _, _, X, mv, rfl, RX.adv HV.out (Adv.below hbb), HS.out.below hbb, Stp.below hbb⟩
theorem mapsNew (pw : Nat) {X : Nat → Prop} {w : World} {ps : Nat} {L : List T} {sh : Int} {A : Option Addr} {n c : Nat} {mv : Value} (hs : Sc X w ps L sh A n c mv) (m j u : Nat) (h1 : m + j + 1 = n) (hu : 0 < u) (hu2 : u ≤ 40000)
    {M : Int} (hM : M ≤ 1125899906842624) (ho : okT M (L.getD j (.node 0 0 []))) (hmy : myB (L.getD j (.node 0 0 [])) = true)
    (hlk : ∀ W, Below w.heap.size w W → LkR mv m u zT false W)
    (hno : ∀ pm es cl, mv = .map (some pm) → w.heap[pm]? = some (.map es cl) → ∀ x ∈ es.toList, x.key ≠ plK m u) :
    Calls Tryz.prog 127 #[.pointer (some ⟨ps, 0, none⟩), .int .i64 m, .int .i64 u] w (MEnd pw ps X w L sh A n c mv (upT u (L.getD j (.node 0 0 [])) 0)) := by
  have lp := hs.box.lt
  obtain ⟨c0, c1, c2⟩ := hs.box.three
  have d1 : decide (n ≤ m) = false := by simp; omega
  have hn := hs.list.le
  have hc := hs.list.cap
  unfold maxLen at hc
  have hij : (n : Int) - 1 - m = j := by omega
  have hlt : (j : Int) < n := by omega
  have hu0 : ((u : Int) == 0) = false := by rw [beq_eq_false_iff_ne]; omega
  obtain ⟨b, o, k2, h2, A2, n2, c2', rfl, e0, e1, e2, hr⟩ := (hs.at_ (j := j) (by omega)).full
  have bxS := hs.box
  have hbn := hs.bnd
  have HBN := Lib.hid hbn; clear hbn
  have hml : ∀ pm, mv = .map (some pm) → pm < w.heap.size := fun pm e => hs.mapLt e
  have HML := Lib.hid hml; clear hml
  have HS := Lib.hid hs; clear hs
  obtain ⟨t, ht⟩ : ∃ t, L.getD j (.node 0 0 []) = t := ⟨_, rfl⟩
  have hut : upL0 L m u = upT u t 0 := by
    rw [← ht, upL0, HS.out.list.len, show n - 1 - (m : Int).toNat = j by omega]
  rw [ht] at hr ho hmy ⊢
  have HUT := Lib.hid hut; clear hut ht
  have HR := Lib.hid hr; clear hr
  have HNO := Lib.hid hno; clear hno
  have HO := Lib.hid ho; clear ho
  have HMY := Lib.hid hmy; clear hmy
  have hwu : (Lit.int .i64 (u : Int)).wf = true := wf_small (by omega) (by omega)
  have hwm : (Lit.int .i64 (m : Int)).wf = true := wf_small (by omega) (by omega)
  have HWU := Lib.hid hwu; clear hwu
  have HWM := Lib.hid hwm; clear hwm
  have HLK := Lib.hid hlk; clear hlk
  have lb := cell_lt e0
  dsimp only at lb
  have H1 := Lib.hid h1; clear h1
  go_enter Tryz.func127, Tryz.ntmps127
  go_wp2_with fail
  obtain ⟨W, hW⟩ : ∃ W, (((w.alloc (Obj.cells #[Value.int IntKind.i64 0, Value.int IntKind.i64 0, Value.slice none 0 0] 39)).alloc (Obj.cells #[Value.int IntKind.i64 k2, Value.int IntKind.i64 h2, Value.slice A2 n2 c2'] 39)).alloc (Obj.cells #[Value.int IntKind.i64 ↑m, Value.int IntKind.i64 ↑u] 159)) = W := ⟨_, rfl⟩
  have hb : Below w.heap.size w W := by rw [← hW]; exact (((Below.refl _ _).alloc (Nat.le_refl _) _).alloc (by simp) _).alloc (by simp; omega) _
  have xR : Box W w.heap.size 39 #[.int .i64 0, .int .i64 0, .slice none 0 0] := by rw [← hW]; exact ((Box.new _ _ _).alloc _).alloc _
  have xT : Box W (w.heap.size + 1) 39 #[.int .i64 k2, .int .i64 h2, .slice A2 n2 c2'] := by rw [← hW]; exact ((Box.new (w.alloc _) _ _).at (by simp)).alloc _
  have xP : Box W (w.heap.size + 1 + 1) 159 #[.int .i64 m, .int .i64 u] := by rw [← hW]; exact (Box.new ((w.alloc _).alloc _) _ _).at (by simp)
  have bxW := bxS.keep hb lp
  rw [hW]
  clear hW bxS c0 c1 c2 e0 e1 e2
  obtain ⟨c0, c1, c2⟩ := bxW.three
  obtain ⟨p0, p1⟩ := xP.two
  obtain ⟨r0, r1, r2⟩ := xR.three
  have f0 := xR.frozen 0
  have f1 := xR.frozen 1
  have f2 := xR.frozen 2
  have lR := xR.lt
  have lP := xP.lt
  have lS := bxW.lt
  have hk1 : (Instr.lookup 140 mv (.agg #[.int .i64 m, .int .i64 u]) true).run Tryz.prog W.drew = .ok (.tuple #[.agg #[.int .i64 0, .int .i64 0, .slice none 0 0], .bool false]) W.drew := HLK.out _ hb.drew
  have hk2 : (Instr.lookup 140 mv (.agg #[.int .i64 m, .int .i64 u]) true).run Tryz.prog (W.alloc (.cells #[.int .i64 0, .int .i64 0, .slice none 0 0] 39)).drew = .ok (.tuple #[.agg #[.int .i64 0, .int .i64 0, .slice none 0 0], .bool false]) (W.alloc (.cells #[.int .i64 0, .int .i64 0, .slice none 0 0] 39)).drew := HLK.out _ (hb.alloc hb.size _).drew
  have HB := Lib.hid hb; clear hb
  have HXR := Lib.hid xR; have HXT := Lib.hid xT; have HXP := Lib.hid xP; have HBX := Lib.hid bxW
  clear xR xT xP bxW
  go_region
  all_goals
    clear hk1 hk2
    obtain ⟨W2, hW2⟩ : ∃ W2, (W.alloc (Obj.cells #[Value.int IntKind.i64 0, Value.int IntKind.i64 0, Value.slice none 0 0] 39)).drew = W2 := ⟨_, rfl⟩
    have hb2 : Below w.heap.size w W2 := by rw [← hW2]; exact (HB.out.alloc HB.out.size _).drew
    have yU : Box W2 W.heap.size 39 #[.int .i64 0, .int .i64 0, .slice none 0 0] := by rw [← hW2]; exact Box.new _ _ _
    have yR : Box W2 w.heap.size 39 #[.int .i64 0, .int .i64 0, .slice none 0 0] := by rw [← hW2]; exact HXR.out.alloc _
    have yT : Box W2 (w.heap.size + 1) 39 #[.int .i64 k2, .int .i64 h2, .slice A2 n2 c2'] := by rw [← hW2]; exact HXT.out.alloc _
    have yP : Box W2 (w.heap.size + 1 + 1) 159 #[.int .i64 m, .int .i64 u] := by rw [← hW2]; exact HXP.out.alloc _
    have lWW := yU.lt
    rw [hW2]
    clear hW2 c0 c1 c2 p0 p1 r0 r1 r2 f0 f1 f2
    obtain ⟨t0, t1, t2⟩ := yT.three
    go_wp2_with fail
    clear t0 t1 t2
    have hup : upX t u 0 = upT u t 0 := by
      have hnd := ((myB_iff _).1 HMY.out).2.1
      exact upX_eq hM HO.out (by omega) (by rw [mayB_my (by omega)]; exact HMY.out) (by omega) (by omega)
    have hUp := upC t u 0 _ W2 (Rd.keep hb2 _ _ (RX.rd HR.out)) (by have := ((myB_iff _).1 HMY.out).2.1; omega)
    rw [hup] at hUp
    refine hUp.mono ?_
    clear hUp hup
    rintro e w3 ⟨v3, rfl, how, hb3⟩
    obtain ⟨k3, h3, A3, n3, c3, rfl⟩ := how.full
    have HOW := Lib.hid how; clear how
    have hbw : Below w.heap.size w w3 := hb2.trans (hb3.mono hb2.size)
    replace yU := yU.keep hb3 yU.lt
    replace yR := yR.keep hb3 yR.lt
    replace yP := yP.keep hb3 yP.lt
    clear hb3 yT
    have HBW := Lib.hid hbw; clear hbw
    have lU := yU.lt
    have sU : W.heap.size ≠ w.heap.size ∧ W.heap.size ≠ w.heap.size + 1 + 1 := ⟨by omega, by omega⟩
    obtain ⟨u0, u1, u2⟩ := yU.three
    have g0 := yU.frozen 0
    have g1 := yU.frozen 1
    have g2 := yU.frozen 2
    obtain ⟨p0, p1⟩ := yP.two
    have e1 : ¬ (w.heap.size + 1 + 1 = W.heap.size) := by omega
    go_wp2_with fail
    have hW2 := yU.lt
    obtain ⟨W3, hW3⟩ : ∃ W3, ((w3.setCell ⟨W.heap.size, 0, none⟩ (.int .i64 k3)).setCell ⟨W.heap.size, 1, none⟩ (.int .i64 h3)).setCell ⟨W.heap.size, 2, none⟩ (.slice A3 n3 c3) = W3 := ⟨_, rfl⟩
    have hlW : w.heap.size ≤ W.heap.size := HB.out.size
    have hb3 : Below w.heap.size w W3 := by rw [← hW3]; exact below_set3 HBW.out hlW _ _ _
    have zU : Box W3 W.heap.size 39 #[.int .i64 k3, .int .i64 h3, .slice A3 n3 c3] := by rw [← hW3]; exact yU.put3 _ _ _
    have zR : Box W3 w.heap.size 39 #[.int .i64 0, .int .i64 0, .slice none 0 0] := by rw [← hW3]; exact yR.other3 (by omega) _ _ _
    have ad3 : Adv X w (fun b => X b ∨ b = w.heap.size ∨ b = W.heap.size) W3 := ⟨hb3.size, fun _ h => .inl h, fun i hi e => by
      rcases e with e | e | e
      · exact e
      · omega
      · omega, fun i hi _ => hb3.block i hi⟩
    have sc3 : Sc (fun b => X b ∨ b = w.heap.size ∨ b = W.heap.size) W3 ps L sh (some ⟨b, o, none⟩) n c mv := HS.out.more hb3 (fun _ h => .inl h) (fun i hi e => by
      rcases e with e | e | e
      · exact e
      · omega
      · omega) (fun i e => by
      rcases e with e | e | e
      · exact Nat.lt_of_lt_of_le (HBN.out i e) hb3.size
      · rw [e]; exact zR.lt
      · rw [e]; exact zU.lt)
    have rv3 : RX (fun b => X b ∨ b = w.heap.size ∨ b = W.heap.size) W3 (upL0 L m u) (.agg #[.int .i64 k3, .int .i64 h3, .slice A3 n3 c3]) := by
      rw [HUT.out, ← hW3]
      refine RdF.moveX (fun g hg hl => ⟨fun e => ?_, heap_other3 _ _ _ _ _ _ (by omega)⟩) _ _ HOW.out.rdF
      rcases e with e | e | e
      · have := HBN.out g e; have := hb2.size; omega
      · omega
      · omega
    have zlt := zR.lt
    rw [hW3]
    clear hW3 u0 u1 u2 g0 g1 g2 p0 p1 yU yR yP HOW
    refine (keepC ps HWM.out HWU.out sc3 rv3 (fun pm es cl e hm => HNO.out pm es cl e (by rw [← hb3.block pm (HML.out pm e)]; exact hm))).mono ?_
    rintro e w4 ⟨rfl, X', mv', sc4, st4⟩
    have nx : ∀ g, w.heap.size ≤ g → ¬ (g = ps ∨ g = ps ∨ mv = .map (some g)) := fun g hg e => by
      rcases e with e | e | e
      · omega
      · omega
      · have := HML.out g e; omega
    replace zU := zU.fr st4.fr (nx _ hlW)
    replace zR := zR.fr st4.fr (nx _ (Nat.le_refl _))
    have rv4 := RX.adv rv3 st4.adv
    clear nx rv3 sc3
    obtain ⟨u0, u1, u2⟩ := zU.three
    obtain ⟨r0, r1, r2⟩ := zR.three
    have f0 := zR.frozen 0
    have f1 := zR.frozen 1
    have f2 := zR.frozen 2
    have hXR := st4.adv.more w.heap.size (.inr (.inl rfl))
    have hne : ∀ pm, mv' = .map (some pm) → pm ≠ w.heap.size := fun pm e e2 => by
      subst e2
      have := HML.out _ (st4.mvs _ e zlt)
      omega
    have HNE := Lib.hid hne; clear hne
    have HXR' := Lib.hid hXR; clear hXR
    have HB3 := Lib.hid hb3; clear hb3
    have HA3 := Lib.hid ad3; clear ad3
    have HS4 := Lib.hid sc4; clear sc4
    have HT4 := Lib.hid st4; clear st4
    have HV4 := Lib.hid rv4; clear rv4
    go_wp2_with fail
    refine bodyPost_ret (v := .agg #[.int .i64 k3, .int .i64 h3, .slice A3 n3 c3]) (by simp [results, Tryz.results127, go_sem, r0, r1, r2]) rfl ?_
    refine ⟨_, _, _, _, _, X', mv', rfl, RX.adv (HUT.out ▸ HV4.out) (Adv.set3 HXR'.out _ _ _), HS4.out.adv (Adv.set3 HXR'.out _ _ _) (heap_other3 _ _ _ _ _ _ (by omega)) (fun pm e => heap_other3 _ _ _ _ _ _ (HNE.out pm e)) (fun g hg => by rw [size_set3]; exact HS4.out.bnd g hg), ?_⟩
    refine ⟨HA3.out.trans (HT4.out.adv.trans (Adv.set3 HXR'.out _ _ _)), Fr.set3 ((Fr.below HB3.out).trans HT4.out.fr fun i hi e => .inr (by rcases e with e | e | e; exact .inl e; exact .inl e; exact .inr e)) (fun h => absurd h (Nat.lt_irrefl _)) _ _ _, fun k e hl => HT4.out.mvs k e (Nat.lt_of_lt_of_le hl HB3.out.size)⟩
theorem mapsC (pw : Nat) {X : Nat → Prop} {w : World} {ps : Nat} {L : List T} {sh M : Int} {A : Option Addr} {n c : Nat} {mv : Value} (hs : Sc X w ps L sh A n c mv) (fr : Int) (u : Nat) (sb : Sub M L sh) (hM : M ≤ 1125899906842624)
    (h0 : 0 ≤ fr) (h1 : fr ≤ 1125899906842624) (hu : u ≤ 40000) :
    Calls Tryz.prog 127 #[.pointer (some ⟨ps, 0, none⟩), .int .i64 fr, .int .i64 u] w (MEnd pw ps X w L sh A n c mv (mpT L sh fr u)) := by
  have hl := hs.list.len
  by_cases hfar : (L.length : Int) ≤ fr
  · have e : mpT L sh fr u = .node 4 (fr - n + sh + u) [] := by rw [mpT, if_pos hfar, hl]
    rw [e]
    exact mapsFar pw hs fr u (by omega) h1 sb.lo sb.hi hu
  · obtain ⟨m, rfl⟩ : ∃ m : Nat, fr = m := ⟨fr.toNat, by omega⟩
    obtain ⟨j, hj⟩ : ∃ j, m + j + 1 = n := ⟨n - 1 - m, by omega⟩
    have hidx : L.length - 1 - (m : Int).toNat = j := by omega
    have e : mpT L sh m u = upT u (L.getD j (.node 0 0 [])) 0 := by rw [mpT, if_neg hfar, hidx]
    have e2 : upL0 L m u = upT u (L.getD j (.node 0 0 [])) 0 := by rw [upL0, hidx]
    rw [e]
    have hmem : L.getD j (.node 0 0 []) ∈ L := getD_mem _ (by omega)
    have hmx := hs.list.le
    have hmc := hs.list.cap
    unfold maxLen at hmc
    have wm : (Lit.int .i64 (m : Int)).wf = true := wf_small (by omega) (by omega)
    have wu : (Lit.int .i64 (u : Int)).wf = true := wf_small (by omega) (by omega)
    rcases Nat.eq_zero_or_pos u with rfl | hup
    · have := mapsZero pw hs m j hj
      rwa [← up_zero (L.getD j (.node 0 0 [])) 0] at this
    · rcases hs.found with rfl | ⟨pm, es, cl, rfl, hX, hm, hok⟩
      · exact mapsNew pw hs m j u hj hup hu hM (sb.ok _ hmem) (sb.may _ hmem) (fun W _ => look_nil _ _ wm wu W) (fun pm es cl e => by cases e)
      · have lpm := (Array.getElem?_eq_some_iff.1 hm).1
        rcases look_map wm wu hm hok.keys with ⟨_, hno⟩ | ⟨x, hx, hk, _⟩
        · refine mapsNew pw hs m j u hj hup hu hM (sb.ok _ hmem) (sb.may _ hmem) (fun W hb => ?_) (fun pm' es' cl' e hm' => ?_)
          · rcases look_map wm wu ((hb.block pm lpm).trans hm) hok.keys with ⟨h, _⟩ | ⟨x, hx, hk, _⟩
            · exact h
            · exact absurd hk (hno x hx)
          · cases e
            rw [hm] at hm'
            cases hm'
            exact hno
        · have hr := hok.ok x hx m u hk (by omega) (by omega)
          have hr' : RX X w (upT u (L.getD j (.node 0 0 [])) 0) x.val := e2 ▸ hr
          obtain ⟨k2, h2, A2, n2, c2, hxv⟩ := RdF.full hr'
          rw [hxv] at hr'
          refine mapsFound pw hs m j u hj hup hu hr' fun W hb => ?_
          rcases look_map wm wu ((hb.block pm lpm).trans hm) hok.keys with ⟨_, hno⟩ | ⟨y, hy, hk2, h⟩
          · exact absurd hk (hno x hx)
          · rw [hok.one y hy x hx (hk2.trans hk.symm), hxv] at h
            exact h
end Go.Proofs.YtbbjjdnnlnabaaaGreat
