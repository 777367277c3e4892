/-
  Texts of one proof, put together. No statement is proved here.
-/
import Derived.Test.YtmkahbbcagfbhaaGreatDoorPkVC
import Derived.Test.YtmkahbbcagfbhaaGreatDoorPkWC
import Derived.Test.YtmkahbbcagfbhaaGreatDoorPkBC
import Derived.Test.YtmkahbbcagfbhaaGreatDoorSa
/-
  What is wrong with a type, and a kind, as plain functions; contracts of package check's by, pi and fam. No statement is proved here.
-/
namespace Go.Proofs.YtmkahbbcagfbhaaGreatDoor
open Go.ChangeShapes Go.WideShapes Go.ChangeAt Go.RowKit
set_option linter.unusedVariables false
/-- what comes to a kind, against Sort -/
def knV : Except Int T → Int
  | .error e => e
  | .ok t => if kdQ t = 0 then 0 else 3
/-- what is wrong with a Fam -/
def faV (W : WV) (h : Int) (xs cx : List T) : Int :=
  if h < W.sg.length then (if kiB (W.sg.getD h.toNat (.node 0 0 [])) = true then knV (spV W xs cx (W.sg.getD h.toNat (.node 0 0 []))) else 2) else 2
mutual
/-- a type -/
def tyV (W : WV) : T → List T → Int
  | .node k h xs, cx => if k = 1 then tyL W xs cx else if k = 2 then faV W h xs cx else 3
def tyL (W : WV) : List T → List T → Int
  | [], _ => 0
  | x :: xs, cx => if tyV W x cx = 0 then tyL W xs (cx ++ [x]) else tyV W x cx
end
mutual
/-- a kind -/
def kiV (W : WV) : T → List T → Int
  | .node k h xs, cx => if k = 0 then 0 else if k = 1 then kiL W xs cx else 3
def kiL (W : WV) : List T → List T → Int
  | [], _ => 3
  | x :: xs, cx => if tyV W x cx = 0 then kiM W xs (cx ++ [x]) else tyV W x cx
def kiM (W : WV) : List T → List T → Int
  | [], _ => 3
  | y :: _, cx => kiV W y cx
end
theorem ty_pi (W : WV) (h : Int) (a b : T) (cx : List T) : tyV W (.node 1 h [a, b]) cx = if tyV W a cx = 0 then tyV W b (cx ++ [a]) else tyV W a cx := by
  rw [tyV, if_pos rfl, tyL, tyL, tyL]
  by_cases h2 : tyV W b (cx ++ [a]) = 0
  · rw [if_pos h2, h2]
  · rw [if_neg h2]
theorem ki_pi (W : WV) (h : Int) (a b : T) (cx : List T) : kiV W (.node 1 h [a, b]) cx = if tyV W a cx = 0 then kiV W b (cx ++ [a]) else tyV W a cx := by
  rw [kiV, if_neg (by omega), if_pos rfl, kiL, kiM]
theorem ty_fam (W : WV) (h : Int) (xs cx : List T) : tyV W (.node 2 h xs) cx = faV W h xs cx := by rw [tyV, if_neg (by omega), if_pos rfl]
theorem ty_no (W : WV) {k h : Int} {xs cx : List T} (h1 : k ≠ 1) (h2 : k ≠ 2) : tyV W (.node k h xs) cx = 3 := by rw [tyV, if_neg h1, if_neg h2]
theorem ki_no (W : WV) {k h : Int} {xs cx : List T} (h1 : k ≠ 0) (h2 : k ≠ 1) : kiV W (.node k h xs) cx = 3 := by rw [kiV, if_neg h1, if_neg h2]
theorem ki_sort (W : WV) (h : Int) (xs cx : List T) : kiV W (.node 0 h xs) cx = 0 := by rw [kiV, if_pos rfl]
theorem fa_no {W : WV} {h : Int} {xs cx : List T} (hh : W.sg.length ≤ h) : faV W h xs cx = 2 := by rw [faV, if_neg (by omega)]
theorem fa_ki {W : WV} {i : Nat} {xs cx : List T} {e : T} (hi : W.sg[i]? = some e) (hk : kiB e = false) : faV W (i : Int) xs cx = 2 := by
  have hl := (List.getElem?_eq_some_iff.1 hi).1
  rw [faV, if_pos (by omega), Int.toNat_natCast, List.getD_eq_getElem?_getD, hi, Option.getD_some, if_neg (by rw [hk]; simp)]
theorem fa_go {W : WV} {i : Nat} {xs cx : List T} {e : T} (hi : W.sg[i]? = some e) (hk : kiB e = true) : faV W (i : Int) xs cx = knV (spV W xs cx e) := by
  have hl := (List.getElem?_eq_some_iff.1 hi).1
  rw [faV, if_pos (by omega), Int.toNat_natCast, List.getD_eq_getElem?_getD, hi, Option.getD_some, if_pos hk]
theorem nilR (f : FuncId) (W : World) : (binOp .eql 103 (.func (.func f) #[] #[]) .nilFunc).run Tryz.prog W = .ok (.bool false) W := by kernel_rfl
theorem nilR0 (W : World) : (binOp .eql 103 .nilFunc .nilFunc).run Tryz.prog W = .ok (.bool true) W := by kernel_rfl
/-- by, where there is no rule, and where there is one -/
def ByQ (R : Int) (w : World) (e : Ending) (w' : World) : Prop := e = .returned (.int .i64 R) ∧ Below w.heap.size w w'
set_option maxRecDepth 100000 in
set_option maxHeartbeats 4000000 in
theorem byRight (f1 f2 f3 f4 f5 f6 : Value) (R : Int) (As Am Ac : Option Addr) (ns cs nm cm nc cc : Nat) (h : Int) (A : Option Addr) (n c : Nat) (w : World) (hf : ∀ W' : World, Below w.heap.size w W' → Calls Tryz.prog 64 #[.agg #[.slice As ns cs, .slice Am nm cm, .slice Ac nc cc], .agg #[.int .i64 0, .int .i64 h, .slice A n c]] W' (ByQ R W')) :
    Calls Tryz.prog 63 #[.agg #[.slice As ns cs, .slice Am nm cm, .slice Ac nc cc], .agg #[.func (.func 64) #[] #[], f1, f2, f3, f4, f5, f6], .agg #[.int .i64 0, .int .i64 h, .slice A n c]] w (ByQ R w) := by
  obtain ⟨W0, hW⟩ : ∃ W0, ((w.alloc (.cells #[.slice As ns cs, .slice Am nm cm, .slice Ac nc cc] 63)).alloc (.cells #[.func (.func 64) #[] #[], f1, f2, f3, f4, f5, f6] 104)).alloc (.cells #[.int .i64 0, .int .i64 h, .slice A n c] 36) = W0 := ⟨_, rfl⟩
  have hb : Below w.heap.size w W0 := by rw [← hW]; exact (((Below.refl _ _).alloc (Nat.le_refl _) _).alloc (by simp) _).alloc (by simp; omega) _
  have x0 : Box W0 w.heap.size 63 #[.slice As ns cs, .slice Am nm cm, .slice Ac nc cc] := by rw [← hW]; exact ((Box.new _ _ _).alloc _).alloc _
  have x1 : Box W0 (w.heap.size + 1) 104 #[.func (.func 64) #[] #[], f1, f2, f3, f4, f5, f6] := by rw [← hW]; exact ((Box.new (w.alloc _) _ _).at (by simp)).alloc _
  have x2 : Box W0 (w.heap.size + 1 + 1) 36 #[.int .i64 0, .int .i64 h, .slice A n c] := by rw [← hW]; exact (Box.new ((w.alloc _).alloc _) _ _).at (by simp)
  obtain ⟨c0, c1, c2⟩ := x0.three
  obtain ⟨d0, d1, d2⟩ := x2.three
  have e0 : W0.cell? ⟨w.heap.size + 1, 0, none⟩ = some (.func (.func 64) #[] #[]) := x1.cell 0
  have HB := Lib.hid hb
  have hnl := nilR
  have HF := Lib.hid (hf W0 hb)
  clear x0 x1 x2 hb hf
  go_enter Tryz.func63, Tryz.ntmps63
  go_wp2_with fail
  clear hW
  refine HF.out.mono ?_
  rintro e w1 ⟨rfl, hb1⟩
  have HB1 := Lib.hid (HB.out.trans (hb1.mono HB.out.size))
  clear hb1
  go_wp2_with fail
  go_ret
  exact ⟨rfl, HB1.out⟩
set_option maxRecDepth 100000 in
set_option maxHeartbeats 4000000 in
theorem byPiKind (f0 f2 f3 f4 f5 f6 : Value) (R : Int) (As Am Ac : Option Addr) (ns cs nm cm nc cc : Nat) (h : Int) (A : Option Addr) (n c : Nat) (w : World) (hf : ∀ W' : World, Below w.heap.size w W' → Calls Tryz.prog 65 #[.agg #[.slice As ns cs, .slice Am nm cm, .slice Ac nc cc], .agg #[.int .i64 1, .int .i64 h, .slice A n c]] W' (ByQ R W')) :
    Calls Tryz.prog 63 #[.agg #[.slice As ns cs, .slice Am nm cm, .slice Ac nc cc], .agg #[f0, .func (.func 65) #[] #[], f2, f3, f4, f5, f6], .agg #[.int .i64 1, .int .i64 h, .slice A n c]] w (ByQ R w) := by
  obtain ⟨W0, hW⟩ : ∃ W0, ((w.alloc (.cells #[.slice As ns cs, .slice Am nm cm, .slice Ac nc cc] 63)).alloc (.cells #[f0, .func (.func 65) #[] #[], f2, f3, f4, f5, f6] 104)).alloc (.cells #[.int .i64 1, .int .i64 h, .slice A n c] 36) = W0 := ⟨_, rfl⟩
  have hb : Below w.heap.size w W0 := by rw [← hW]; exact (((Below.refl _ _).alloc (Nat.le_refl _) _).alloc (by simp) _).alloc (by simp; omega) _
  have x0 : Box W0 w.heap.size 63 #[.slice As ns cs, .slice Am nm cm, .slice Ac nc cc] := by rw [← hW]; exact ((Box.new _ _ _).alloc _).alloc _
  have x1 : Box W0 (w.heap.size + 1) 104 #[f0, .func (.func 65) #[] #[], f2, f3, f4, f5, f6] := by rw [← hW]; exact ((Box.new (w.alloc _) _ _).at (by simp)).alloc _
  have x2 : Box W0 (w.heap.size + 1 + 1) 36 #[.int .i64 1, .int .i64 h, .slice A n c] := by rw [← hW]; exact (Box.new ((w.alloc _).alloc _) _ _).at (by simp)
  obtain ⟨c0, c1, c2⟩ := x0.three
  obtain ⟨d0, d1, d2⟩ := x2.three
  have e0 : W0.cell? ⟨w.heap.size + 1, 1, none⟩ = some (.func (.func 65) #[] #[]) := x1.cell 1
  have HB := Lib.hid hb
  have hnl := nilR
  have HF := Lib.hid (hf W0 hb)
  clear x0 x1 x2 hb hf
  go_enter Tryz.func63, Tryz.ntmps63
  go_wp2_with fail
  clear hW
  refine HF.out.mono ?_
  rintro e w1 ⟨rfl, hb1⟩
  have HB1 := Lib.hid (HB.out.trans (hb1.mono HB.out.size))
  clear hb1
  go_wp2_with fail
  go_ret
  exact ⟨rfl, HB1.out⟩
set_option maxRecDepth 100000 in
set_option maxHeartbeats 4000000 in
theorem byPiType (f0 f2 f3 f4 f5 f6 : Value) (R : Int) (As Am Ac : Option Addr) (ns cs nm cm nc cc : Nat) (h : Int) (A : Option Addr) (n c : Nat) (w : World) (hf : ∀ W' : World, Below w.heap.size w W' → Calls Tryz.prog 66 #[.agg #[.slice As ns cs, .slice Am nm cm, .slice Ac nc cc], .agg #[.int .i64 1, .int .i64 h, .slice A n c]] W' (ByQ R W')) :
    Calls Tryz.prog 63 #[.agg #[.slice As ns cs, .slice Am nm cm, .slice Ac nc cc], .agg #[f0, .func (.func 66) #[] #[], f2, f3, f4, f5, f6], .agg #[.int .i64 1, .int .i64 h, .slice A n c]] w (ByQ R w) := by
  obtain ⟨W0, hW⟩ : ∃ W0, ((w.alloc (.cells #[.slice As ns cs, .slice Am nm cm, .slice Ac nc cc] 63)).alloc (.cells #[f0, .func (.func 66) #[] #[], f2, f3, f4, f5, f6] 104)).alloc (.cells #[.int .i64 1, .int .i64 h, .slice A n c] 36) = W0 := ⟨_, rfl⟩
  have hb : Below w.heap.size w W0 := by rw [← hW]; exact (((Below.refl _ _).alloc (Nat.le_refl _) _).alloc (by simp) _).alloc (by simp; omega) _
  have x0 : Box W0 w.heap.size 63 #[.slice As ns cs, .slice Am nm cm, .slice Ac nc cc] := by rw [← hW]; exact ((Box.new _ _ _).alloc _).alloc _
  have x1 : Box W0 (w.heap.size + 1) 104 #[f0, .func (.func 66) #[] #[], f2, f3, f4, f5, f6] := by rw [← hW]; exact ((Box.new (w.alloc _) _ _).at (by simp)).alloc _
  have x2 : Box W0 (w.heap.size + 1 + 1) 36 #[.int .i64 1, .int .i64 h, .slice A n c] := by rw [← hW]; exact (Box.new ((w.alloc _).alloc _) _ _).at (by simp)
  obtain ⟨c0, c1, c2⟩ := x0.three
  obtain ⟨d0, d1, d2⟩ := x2.three
  have e0 : W0.cell? ⟨w.heap.size + 1, 1, none⟩ = some (.func (.func 66) #[] #[]) := x1.cell 1
  have HB := Lib.hid hb
  have hnl := nilR
  have HF := Lib.hid (hf W0 hb)
  clear x0 x1 x2 hb hf
  go_enter Tryz.func63, Tryz.ntmps63
  go_wp2_with fail
  clear hW
  refine HF.out.mono ?_
  rintro e w1 ⟨rfl, hb1⟩
  have HB1 := Lib.hid (HB.out.trans (hb1.mono HB.out.size))
  clear hb1
  go_wp2_with fail
  go_ret
  exact ⟨rfl, HB1.out⟩
set_option maxRecDepth 100000 in
set_option maxHeartbeats 4000000 in
theorem byFam (f0 f1 f3 f4 f5 f6 : Value) (R : Int) (As Am Ac : Option Addr) (ns cs nm cm nc cc : Nat) (h : Int) (A : Option Addr) (n c : Nat) (w : World) (hf : ∀ W' : World, Below w.heap.size w W' → Calls Tryz.prog 67 #[.agg #[.slice As ns cs, .slice Am nm cm, .slice Ac nc cc], .agg #[.int .i64 2, .int .i64 h, .slice A n c]] W' (ByQ R W')) :
    Calls Tryz.prog 63 #[.agg #[.slice As ns cs, .slice Am nm cm, .slice Ac nc cc], .agg #[f0, f1, .func (.func 67) #[] #[], f3, f4, f5, f6], .agg #[.int .i64 2, .int .i64 h, .slice A n c]] w (ByQ R w) := by
  obtain ⟨W0, hW⟩ : ∃ W0, ((w.alloc (.cells #[.slice As ns cs, .slice Am nm cm, .slice Ac nc cc] 63)).alloc (.cells #[f0, f1, .func (.func 67) #[] #[], f3, f4, f5, f6] 104)).alloc (.cells #[.int .i64 2, .int .i64 h, .slice A n c] 36) = W0 := ⟨_, rfl⟩
  have hb : Below w.heap.size w W0 := by rw [← hW]; exact (((Below.refl _ _).alloc (Nat.le_refl _) _).alloc (by simp) _).alloc (by simp; omega) _
  have x0 : Box W0 w.heap.size 63 #[.slice As ns cs, .slice Am nm cm, .slice Ac nc cc] := by rw [← hW]; exact ((Box.new _ _ _).alloc _).alloc _
  have x1 : Box W0 (w.heap.size + 1) 104 #[f0, f1, .func (.func 67) #[] #[], f3, f4, f5, f6] := by rw [← hW]; exact ((Box.new (w.alloc _) _ _).at (by simp)).alloc _
  have x2 : Box W0 (w.heap.size + 1 + 1) 36 #[.int .i64 2, .int .i64 h, .slice A n c] := by rw [← hW]; exact (Box.new ((w.alloc _).alloc _) _ _).at (by simp)
  obtain ⟨c0, c1, c2⟩ := x0.three
  obtain ⟨d0, d1, d2⟩ := x2.three
  have e0 : W0.cell? ⟨w.heap.size + 1, 2, none⟩ = some (.func (.func 67) #[] #[]) := x1.cell 2
  have HB := Lib.hid hb
  have hnl := nilR
  have HF := Lib.hid (hf W0 hb)
  clear x0 x1 x2 hb hf
  go_enter Tryz.func63, Tryz.ntmps63
  go_wp2_with fail
  clear hW
  refine HF.out.mono ?_
  rintro e w1 ⟨rfl, hb1⟩
  have HB1 := Lib.hid (HB.out.trans (hb1.mono HB.out.size))
  clear hb1
  go_wp2_with fail
  go_ret
  exact ⟨rfl, HB1.out⟩
set_option maxRecDepth 100000 in
set_option maxHeartbeats 4000000 in
theorem byN0 (f1 f2 f3 f4 f5 f6 : Value) (As Am Ac : Option Addr) (ns cs nm cm nc cc : Nat) (h : Int) (A : Option Addr) (n c : Nat) (w : World) :
    Calls Tryz.prog 63 #[.agg #[.slice As ns cs, .slice Am nm cm, .slice Ac nc cc], .agg #[.nilFunc, f1, f2, f3, f4, f5, f6], .agg #[.int .i64 0, .int .i64 h, .slice A n c]] w (ByQ 3 w) := by
  obtain ⟨W0, hW⟩ : ∃ W0, ((w.alloc (.cells #[.slice As ns cs, .slice Am nm cm, .slice Ac nc cc] 63)).alloc (.cells #[.nilFunc, f1, f2, f3, f4, f5, f6] 104)).alloc (.cells #[.int .i64 0, .int .i64 h, .slice A n c] 36) = W0 := ⟨_, rfl⟩
  have hb : Below w.heap.size w W0 := by rw [← hW]; exact (((Below.refl _ _).alloc (Nat.le_refl _) _).alloc (by simp) _).alloc (by simp; omega) _
  have x0 : Box W0 w.heap.size 63 #[.slice As ns cs, .slice Am nm cm, .slice Ac nc cc] := by rw [← hW]; exact ((Box.new _ _ _).alloc _).alloc _
  have x1 : Box W0 (w.heap.size + 1) 104 #[.nilFunc, f1, f2, f3, f4, f5, f6] := by rw [← hW]; exact ((Box.new (w.alloc _) _ _).at (by simp)).alloc _
  have x2 : Box W0 (w.heap.size + 1 + 1) 36 #[.int .i64 0, .int .i64 h, .slice A n c] := by rw [← hW]; exact (Box.new ((w.alloc _).alloc _) _ _).at (by simp)
  obtain ⟨c0, c1, c2⟩ := x0.three
  obtain ⟨d0, d1, d2⟩ := x2.three
  have e0 : W0.cell? ⟨w.heap.size + 1, 0, none⟩ = some (.nilFunc) := x1.cell 0
  have HB := Lib.hid hb
  have hnl := nilR0
  clear x0 x1 x2 hb
  go_enter Tryz.func63, Tryz.ntmps63
  go_wp2_with fail
  clear hW
  go_ret
  exact ⟨rfl, HB.out⟩
set_option maxRecDepth 100000 in
set_option maxHeartbeats 4000000 in
theorem byN2 (f0 f1 f3 f4 f5 f6 : Value) (As Am Ac : Option Addr) (ns cs nm cm nc cc : Nat) (h : Int) (A : Option Addr) (n c : Nat) (w : World) :
    Calls Tryz.prog 63 #[.agg #[.slice As ns cs, .slice Am nm cm, .slice Ac nc cc], .agg #[f0, f1, .nilFunc, f3, f4, f5, f6], .agg #[.int .i64 2, .int .i64 h, .slice A n c]] w (ByQ 3 w) := by
  obtain ⟨W0, hW⟩ : ∃ W0, ((w.alloc (.cells #[.slice As ns cs, .slice Am nm cm, .slice Ac nc cc] 63)).alloc (.cells #[f0, f1, .nilFunc, f3, f4, f5, f6] 104)).alloc (.cells #[.int .i64 2, .int .i64 h, .slice A n c] 36) = W0 := ⟨_, rfl⟩
  have hb : Below w.heap.size w W0 := by rw [← hW]; exact (((Below.refl _ _).alloc (Nat.le_refl _) _).alloc (by simp) _).alloc (by simp; omega) _
  have x0 : Box W0 w.heap.size 63 #[.slice As ns cs, .slice Am nm cm, .slice Ac nc cc] := by rw [← hW]; exact ((Box.new _ _ _).alloc _).alloc _
  have x1 : Box W0 (w.heap.size + 1) 104 #[f0, f1, .nilFunc, f3, f4, f5, f6] := by rw [← hW]; exact ((Box.new (w.alloc _) _ _).at (by simp)).alloc _
  have x2 : Box W0 (w.heap.size + 1 + 1) 36 #[.int .i64 2, .int .i64 h, .slice A n c] := by rw [← hW]; exact (Box.new ((w.alloc _).alloc _) _ _).at (by simp)
  obtain ⟨c0, c1, c2⟩ := x0.three
  obtain ⟨d0, d1, d2⟩ := x2.three
  have e0 : W0.cell? ⟨w.heap.size + 1, 2, none⟩ = some (.nilFunc) := x1.cell 2
  have HB := Lib.hid hb
  have hnl := nilR0
  clear x0 x1 x2 hb
  go_enter Tryz.func63, Tryz.ntmps63
  go_wp2_with fail
  clear hW
  go_ret
  exact ⟨rfl, HB.out⟩
set_option maxRecDepth 100000 in
set_option maxHeartbeats 4000000 in
theorem byN3 (f0 f1 f2 f4 f5 f6 : Value) (As Am Ac : Option Addr) (ns cs nm cm nc cc : Nat) (h : Int) (A : Option Addr) (n c : Nat) (w : World) :
    Calls Tryz.prog 63 #[.agg #[.slice As ns cs, .slice Am nm cm, .slice Ac nc cc], .agg #[f0, f1, f2, .nilFunc, f4, f5, f6], .agg #[.int .i64 3, .int .i64 h, .slice A n c]] w (ByQ 3 w) := by
  obtain ⟨W0, hW⟩ : ∃ W0, ((w.alloc (.cells #[.slice As ns cs, .slice Am nm cm, .slice Ac nc cc] 63)).alloc (.cells #[f0, f1, f2, .nilFunc, f4, f5, f6] 104)).alloc (.cells #[.int .i64 3, .int .i64 h, .slice A n c] 36) = W0 := ⟨_, rfl⟩
  have hb : Below w.heap.size w W0 := by rw [← hW]; exact (((Below.refl _ _).alloc (Nat.le_refl _) _).alloc (by simp) _).alloc (by simp; omega) _
  have x0 : Box W0 w.heap.size 63 #[.slice As ns cs, .slice Am nm cm, .slice Ac nc cc] := by rw [← hW]; exact ((Box.new _ _ _).alloc _).alloc _
  have x1 : Box W0 (w.heap.size + 1) 104 #[f0, f1, f2, .nilFunc, f4, f5, f6] := by rw [← hW]; exact ((Box.new (w.alloc _) _ _).at (by simp)).alloc _
  have x2 : Box W0 (w.heap.size + 1 + 1) 36 #[.int .i64 3, .int .i64 h, .slice A n c] := by rw [← hW]; exact (Box.new ((w.alloc _).alloc _) _ _).at (by simp)
  obtain ⟨c0, c1, c2⟩ := x0.three
  obtain ⟨d0, d1, d2⟩ := x2.three
  have e0 : W0.cell? ⟨w.heap.size + 1, 3, none⟩ = some (.nilFunc) := x1.cell 3
  have HB := Lib.hid hb
  have hnl := nilR0
  clear x0 x1 x2 hb
  go_enter Tryz.func63, Tryz.ntmps63
  go_wp2_with fail
  clear hW
  go_ret
  exact ⟨rfl, HB.out⟩
set_option maxRecDepth 100000 in
set_option maxHeartbeats 4000000 in
theorem byN4 (f0 f1 f2 f3 f5 f6 : Value) (As Am Ac : Option Addr) (ns cs nm cm nc cc : Nat) (h : Int) (A : Option Addr) (n c : Nat) (w : World) :
    Calls Tryz.prog 63 #[.agg #[.slice As ns cs, .slice Am nm cm, .slice Ac nc cc], .agg #[f0, f1, f2, f3, .nilFunc, f5, f6], .agg #[.int .i64 4, .int .i64 h, .slice A n c]] w (ByQ 3 w) := by
  obtain ⟨W0, hW⟩ : ∃ W0, ((w.alloc (.cells #[.slice As ns cs, .slice Am nm cm, .slice Ac nc cc] 63)).alloc (.cells #[f0, f1, f2, f3, .nilFunc, f5, f6] 104)).alloc (.cells #[.int .i64 4, .int .i64 h, .slice A n c] 36) = W0 := ⟨_, rfl⟩
  have hb : Below w.heap.size w W0 := by rw [← hW]; exact (((Below.refl _ _).alloc (Nat.le_refl _) _).alloc (by simp) _).alloc (by simp; omega) _
  have x0 : Box W0 w.heap.size 63 #[.slice As ns cs, .slice Am nm cm, .slice Ac nc cc] := by rw [← hW]; exact ((Box.new _ _ _).alloc _).alloc _
  have x1 : Box W0 (w.heap.size + 1) 104 #[f0, f1, f2, f3, .nilFunc, f5, f6] := by rw [← hW]; exact ((Box.new (w.alloc _) _ _).at (by simp)).alloc _
  have x2 : Box W0 (w.heap.size + 1 + 1) 36 #[.int .i64 4, .int .i64 h, .slice A n c] := by rw [← hW]; exact (Box.new ((w.alloc _).alloc _) _ _).at (by simp)
  obtain ⟨c0, c1, c2⟩ := x0.three
  obtain ⟨d0, d1, d2⟩ := x2.three
  have e0 : W0.cell? ⟨w.heap.size + 1, 4, none⟩ = some (.nilFunc) := x1.cell 4
  have HB := Lib.hid hb
  have hnl := nilR0
  clear x0 x1 x2 hb
  go_enter Tryz.func63, Tryz.ntmps63
  go_wp2_with fail
  clear hW
  go_ret
  exact ⟨rfl, HB.out⟩
set_option maxRecDepth 100000 in
set_option maxHeartbeats 4000000 in
theorem byN5 (f0 f1 f2 f3 f4 f6 : Value) (As Am Ac : Option Addr) (ns cs nm cm nc cc : Nat) (h : Int) (A : Option Addr) (n c : Nat) (w : World) :
    Calls Tryz.prog 63 #[.agg #[.slice As ns cs, .slice Am nm cm, .slice Ac nc cc], .agg #[f0, f1, f2, f3, f4, .nilFunc, f6], .agg #[.int .i64 5, .int .i64 h, .slice A n c]] w (ByQ 3 w) := by
  obtain ⟨W0, hW⟩ : ∃ W0, ((w.alloc (.cells #[.slice As ns cs, .slice Am nm cm, .slice Ac nc cc] 63)).alloc (.cells #[f0, f1, f2, f3, f4, .nilFunc, f6] 104)).alloc (.cells #[.int .i64 5, .int .i64 h, .slice A n c] 36) = W0 := ⟨_, rfl⟩
  have hb : Below w.heap.size w W0 := by rw [← hW]; exact (((Below.refl _ _).alloc (Nat.le_refl _) _).alloc (by simp) _).alloc (by simp; omega) _
  have x0 : Box W0 w.heap.size 63 #[.slice As ns cs, .slice Am nm cm, .slice Ac nc cc] := by rw [← hW]; exact ((Box.new _ _ _).alloc _).alloc _
  have x1 : Box W0 (w.heap.size + 1) 104 #[f0, f1, f2, f3, f4, .nilFunc, f6] := by rw [← hW]; exact ((Box.new (w.alloc _) _ _).at (by simp)).alloc _
  have x2 : Box W0 (w.heap.size + 1 + 1) 36 #[.int .i64 5, .int .i64 h, .slice A n c] := by rw [← hW]; exact (Box.new ((w.alloc _).alloc _) _ _).at (by simp)
  obtain ⟨c0, c1, c2⟩ := x0.three
  obtain ⟨d0, d1, d2⟩ := x2.three
  have e0 : W0.cell? ⟨w.heap.size + 1, 5, none⟩ = some (.nilFunc) := x1.cell 5
  have HB := Lib.hid hb
  have hnl := nilR0
  clear x0 x1 x2 hb
  go_enter Tryz.func63, Tryz.ntmps63
  go_wp2_with fail
  clear hW
  go_ret
  exact ⟨rfl, HB.out⟩
set_option maxRecDepth 100000 in
set_option maxHeartbeats 4000000 in
theorem byN6 (f0 f1 f2 f3 f4 f5 : Value) (As Am Ac : Option Addr) (ns cs nm cm nc cc : Nat) (h : Int) (A : Option Addr) (n c : Nat) (w : World) :
    Calls Tryz.prog 63 #[.agg #[.slice As ns cs, .slice Am nm cm, .slice Ac nc cc], .agg #[f0, f1, f2, f3, f4, f5, .nilFunc], .agg #[.int .i64 6, .int .i64 h, .slice A n c]] w (ByQ 3 w) := by
  obtain ⟨W0, hW⟩ : ∃ W0, ((w.alloc (.cells #[.slice As ns cs, .slice Am nm cm, .slice Ac nc cc] 63)).alloc (.cells #[f0, f1, f2, f3, f4, f5, .nilFunc] 104)).alloc (.cells #[.int .i64 6, .int .i64 h, .slice A n c] 36) = W0 := ⟨_, rfl⟩
  have hb : Below w.heap.size w W0 := by rw [← hW]; exact (((Below.refl _ _).alloc (Nat.le_refl _) _).alloc (by simp) _).alloc (by simp; omega) _
  have x0 : Box W0 w.heap.size 63 #[.slice As ns cs, .slice Am nm cm, .slice Ac nc cc] := by rw [← hW]; exact ((Box.new _ _ _).alloc _).alloc _
  have x1 : Box W0 (w.heap.size + 1) 104 #[f0, f1, f2, f3, f4, f5, .nilFunc] := by rw [← hW]; exact ((Box.new (w.alloc _) _ _).at (by simp)).alloc _
  have x2 : Box W0 (w.heap.size + 1 + 1) 36 #[.int .i64 6, .int .i64 h, .slice A n c] := by rw [← hW]; exact (Box.new ((w.alloc _).alloc _) _ _).at (by simp)
  obtain ⟨c0, c1, c2⟩ := x0.three
  obtain ⟨d0, d1, d2⟩ := x2.three
  have e0 : W0.cell? ⟨w.heap.size + 1, 6, none⟩ = some (.nilFunc) := x1.cell 6
  have HB := Lib.hid hb
  have hnl := nilR0
  clear x0 x1 x2 hb
  go_enter Tryz.func63, Tryz.ntmps63
  go_wp2_with fail
  clear hW
  go_ret
  exact ⟨rfl, HB.out⟩
end Go.Proofs.YtmkahbbcagfbhaaGreatDoor
/-
  Types and kinds that are in order are scoped, plain. No statement is proved here.
-/
namespace Go.Proofs.YtmkahbbcagfbhaaGreatDoor
open Go.ChangeShapes Go.WideShapes Go.ChangeAt Go.RowKit
set_option linter.unusedVariables false
theorem sc_piV {x y : T} {n m : Nat} (h1 : scC x n m) (h2 : scC y (n + 1 : Nat) m) : scC (.node 1 0 [x, y]) n m := by
  rw [scC, scCL, scCL, scCL]
  refine ⟨fun e => by omega, fun e => by omega, ?_, ?_, trivial⟩
  · simpa [bd] using h1
  · simpa [bd] using h2
theorem fa_scoped {W : WV} {h : Int} {xs cx : List T} (hn : nodB (.node 2 h xs) = true) (ht : faV W h xs cx = 0) : scC (.node 2 h xs) cx.length W.ms.length := by
  rw [faV] at ht
  split at ht
  · split at ht
    · cases hs : spV W xs cx (W.sg.getD h.toNat (.node 0 0 [])) with
      | error e => rw [hs] at ht; exact absurd (show e = 0 from ht) (sp_err W _ _ _ _ hs)
      | ok t =>
        rw [scC]
        refine ⟨fun e => by omega, fun e => by omega, scL_of fun j x hx => ?_⟩
        have hm := List.mem_of_getElem? hx
        obtain ⟨b, hb⟩ := sp_all _ _ _ _ hs x hm
        rw [bd_var ⟨by omega, by omega⟩, Int.add_zero]
        exact tm_scoped x cx b ((nodV hn).2 x hm) hb
    · cases ht
  · cases ht
theorem ty_scoped {W : WV} (a : T) : ∀ (cx : List T), nodB a = true → tyV W a cx = 0 → scC a cx.length W.ms.length := by
  induction a using T.ind with
  | step k h xs ih =>
    intro cx hn ht
    by_cases h1 : k = 1
    · subst h1
      obtain ⟨rfl, x, y, rfl, hx, hy⟩ := piV hn
      rw [ty_pi] at ht
      by_cases h2 : tyV W x cx = 0
      · rw [if_pos h2] at ht
        have g2 := ih y (by simp) _ hy ht
        rw [List.length_append] at g2
        exact sc_piV (ih x (by simp) cx hx h2) g2
      · rw [if_neg h2] at ht; exact absurd ht h2
    · by_cases h2 : k = 2
      · subst h2
        rw [ty_fam] at ht
        exact fa_scoped hn ht
      · rw [ty_no W h1 h2] at ht; cases ht
theorem ki_scoped {W : WV} (a : T) : ∀ (cx : List T), nodB a = true → kiV W a cx = 0 → scC a cx.length W.ms.length := by
  induction a using T.ind with
  | step k h xs ih =>
    intro cx hn ht
    by_cases h1 : k = 1
    · subst h1
      obtain ⟨rfl, x, y, rfl, hx, hy⟩ := piV hn
      rw [ki_pi] at ht
      by_cases h2 : tyV W x cx = 0
      · rw [if_pos h2] at ht
        have g2 := ih y (by simp) _ hy ht
        rw [List.length_append] at g2
        exact sc_piV (ty_scoped x cx hx h2) g2
      · rw [if_neg h2] at ht; exact absurd ht h2
    · by_cases h2 : k = 0
      · subst h2
        have hx : xs = [] := by
          rcases okN_cases (nodV hn).1 with ⟨e, e2, he⟩ | ⟨e, e2, he⟩ | ⟨e, e2, he⟩ | ⟨e, he⟩ | ⟨e, he⟩ | ⟨e, he⟩ | ⟨e, he⟩ <;> first | exact List.length_eq_zero_iff.1 (by omega) | omega
        subst hx
        rw [scC, scCL]
        exact ⟨fun e => by omega, fun e => by omega, trivial⟩
      · rw [ki_no W h2 h1] at ht; cases ht
theorem ty_low {W : WV} {a : T} {cx : List T} (hm : myB a = true) (hc : (cx.length : Int) ≤ 1000000) (h : tyV W a cx = 0) : okT loV a := by
  have h1 := (myB_iff a).1 hm
  exact sc_ok a _ h1.1 (ty_scoped a cx h1.1 h) (by have := h1.2.2; unfold loV; omega)
end Go.Proofs.YtmkahbbcagfbhaaGreatDoor
/-
  Contracts of package check's pi and fam. No statement is proved here.
-/
namespace Go.Proofs.YtmkahbbcagfbhaaGreatDoor
open Go.ChangeShapes Go.WideShapes Go.ChangeAt Go.RowKit
set_option linter.unusedVariables false
/-- the contract of typ, or of kind -/
def TpC (f : FuncId) (F : T → List T → Int) (W : WV) (a : T) : Prop := ∀ (cx : List T) (As : Option Addr) (ns cs : Nat) (Am : Option Addr) (nm cm : Nat) (Ac : Option Addr) (nc cc : Nat) (k h : Int) (A : Option Addr) (n c : Nat) (w : World),
  EnvV W cx loV → WkV W a → cx.length + nd a ≤ 1000000 → CkV w W cx As ns cs Am nm cm Ac nc cc → Rd w a (.agg #[.int .i64 k, .int .i64 h, .slice A n c]) →
    Calls Tryz.prog f #[.agg #[.slice As ns cs, .slice Am nm cm, .slice Ac nc cc], .agg #[.int .i64 k, .int .i64 h, .slice A n c]] w (ByQ (F a cx) w)
set_option maxRecDepth 100000 in
set_option maxHeartbeats 16000000 in
theorem vPiTC {W : WV} {x y : T} {h : Int} (ihx : TpC 42 (tyV W) W x) (ihy : TpC 42 (tyV W) W y) (cx : List T) (As : Option Addr) (ns cs : Nat) (Am : Option Addr) (nm cm : Nat) (Ac : Option Addr) (nc cc : Nat) (A : Option Addr) (n c : Nat) (w : World)
    (hE : EnvV W cx loV) (hba : WkV W (.node 1 h [x, y])) (hlen : cx.length + nd (.node 1 h [x, y]) ≤ 1000000) (hk : CkV w W cx As ns cs Am nm cm Ac nc cc) (ha : Rd w (.node 1 h [x, y]) (.agg #[.int .i64 1, .int .i64 h, .slice A n c])) :
    Calls Tryz.prog 87 #[.agg #[.slice As ns cs, .slice Am nm cm, .slice Ac nc cc], .agg #[.int .i64 1, .int .i64 h, .slice A n c], .func (.func 42) #[] #[]] w (ByQ (if tyV W x cx = 0 then tyV W y (cx ++ [x]) else tyV W x cx) w) := by
  obtain ⟨W0, hW⟩ : ∃ W0, (w.alloc (.cells #[.slice As ns cs, .slice Am nm cm, .slice Ac nc cc] 63)).alloc (.cells #[.int .i64 1, .int .i64 h, .slice A n c] 36) = W0 := ⟨_, rfl⟩
  have hb : Below w.heap.size w W0 := by rw [← hW]; exact ((Below.refl _ _).alloc (Nat.le_refl _) _).alloc (by simp) _
  have x0 : Box W0 w.heap.size 63 #[.slice As ns cs, .slice Am nm cm, .slice Ac nc cc] := by rw [← hW]; exact (Box.new _ _ _).alloc _
  have x1 : Box W0 (w.heap.size + 1) 36 #[.int .i64 1, .int .i64 h, .slice A n c] := by rw [← hW]; exact (Box.new (w.alloc _) _ _).at (by simp)
  obtain ⟨c0, c1, c2⟩ := x0.three
  obtain ⟨d0, d1, d2⟩ := x1.three
  obtain ⟨bb, ob, cb, ev, hc2, hcm2, ⟨kp, gp, Ap, np, cp, p0, p1, p2, hrp⟩, ⟨kq, gq, Aq, nq, cq, q0, q1, q2, hrq⟩⟩ := rd_pi ha
  have ev' : A = some ⟨bb, ob, none⟩ ∧ n = 2 ∧ c = cb := by simpa using ev
  obtain ⟨rfl, rfl, rfl⟩ := ev'
  unfold maxLen at hcm2
  replace p0 := (hb.cell (cell_lt p0)).trans p0
  replace p1 := (hb.cell (cell_lt p1)).trans p1
  replace p2 := (hb.cell (cell_lt p2)).trans p2
  replace q0 := (hb.cell (cell_lt q0)).trans q0
  replace q1 := (hb.cell (cell_lt q1)).trans q1
  replace q2 := (hb.cell (cell_lt q2)).trans q2
  have hcl := hk.cx.len
  have hbx := hba.arg (show x ∈ [x, y] by simp)
  have hby := hba.arg (show y ∈ [x, y] by simp)
  rw [nd, ndL, ndL, ndL] at hlen
  have HTX : Hid (∀ W' : World, Below W0.heap.size W0 W' → Calls Tryz.prog 42 #[.agg #[.slice As ns cs, .slice Am nm cm, .slice Ac nc cc], .agg #[.int .i64 kp, .int .i64 gp, .slice Ap np cp]] W' fun e w' => e = .returned (.int .i64 (tyV W x cx)) ∧ Below W'.heap.size W' w') := Lib.hid fun W' h' =>
    ihx cx As ns cs Am nm cm Ac nc cc _ _ _ _ _ W' hE hbx (by omega) (hk.keep (hb.trans (h'.mono hb.size))) (Rd.keep (hb.trans (h'.mono hb.size)) _ _ hrp)
  have HMO : Hid (∀ W' : World, Below W0.heap.size W0 W' → Calls Tryz.prog 71 #[.agg #[.slice As ns cs, .slice Am nm cm, .slice Ac nc cc], .agg #[.int .i64 kp, .int .i64 gp, .slice Ap np cp]] W' (MoreV As Am ns cs nm cm nc (cx ++ [x]) W')) := Lib.hid fun W' h' =>
    moreC cx x As Am Ac ns cs nm cm nc cc _ _ _ _ _ W' (hk.cx.keep (hb.trans (h'.mono hb.size))) (Rd.keep (hb.trans (h'.mono hb.size)) _ _ hrp) (by omega)
  have HTY : Hid (∀ (W' : World) (g cap : Nat), Below W0.heap.size W0 W' → CLV W' (cx ++ [x]) (some ⟨g, 0, none⟩) (nc + 1) cap → tyV W x cx = 0 → Calls Tryz.prog 42 #[.agg #[.slice As ns cs, .slice Am nm cm, .slice (some ⟨g, 0, none⟩) (nc + 1) cap], .agg #[.int .i64 kq, .int .i64 gq, .slice Aq nq cq]] W' (ByQ (tyV W y (cx ++ [x])) W')) := Lib.hid fun W' g cap h' hcl' hz0 =>
    have hb' := hb.trans (h'.mono hb.size)
    ihy (cx ++ [x]) As ns cs Am nm cm _ _ _ _ _ _ _ _ W' (hE.more ⟨hbx.my, ty_low hbx.my (by omega) hz0⟩) hby (by rw [List.length_append, List.length_singleton]; omega) ⟨hk.sg.keep hb', hk.ms.keep hb', hcl'⟩ (Rd.keep hb' _ _ hrq)
  have HB := Lib.hid hb
  have X0 := Lib.hid x0
  have X1 := Lib.hid x1
  generalize tyV W y (cx ++ [x]) = R at *
  generalize tyV W x cx = e1 at *
  obtain ⟨Z, hZ⟩ : ∃ Z, (if e1 = 0 then R else e1) = Z := ⟨_, rfl⟩
  rw [hZ]
  have HZ := Lib.hid hZ; clear hZ
  have HQ := Lib.hid (And.intro q0 (And.intro q1 q2))
  have HP := Lib.hid (And.intro p0 (And.intro p1 p2))
  have v0 := Past.cell c0
  have v1 := Past.cell c1
  have v2 := Past.cell c2
  have v3 := Past.cell d2
  have v4 := Past.cell p0
  have v5 := Past.cell p1
  have v6 := Past.cell p2
  clear hE hba hlen hk ha hbx hby hrp hrq ev hb x0 x1 ihx ihy q0 q1 q2
  go_enter Tryz.func87, Tryz.ntmps87
  go_wp2_with fail
  try rw [hW]
  clear hW c0 c1 c2 d0 d1 d2 p0 p1 p2
  refine wp_region_past (by kernel_rfl) (by kernel_rfl) ?_
  repeat (go_big_quiet_step ((exact calls_past (HTX.out _ (Past.h _)))))
  refine wpQuiet_nil ?_
  rintro _ ⟨z1, rfl⟩
  obtain ⟨W4, hb4⟩ := z1
  dsimp only
  clear v0 v1 v2 v3 v4 v5 v6 HTX
  have HB4 := Lib.hid (HB.out.trans (hb4.mono HB.out.size))
  obtain ⟨c0, c1, c2⟩ := (X0.out.keep hb4 X0.out.lt).three
  obtain ⟨d0, d1, d2⟩ := (X1.out.keep hb4 X1.out.lt).three
  have p0 := (hb4.cell (cell_lt HP.out.1)).trans HP.out.1
  have p1 := (hb4.cell (cell_lt HP.out.2.1)).trans HP.out.2.1
  have p2 := (hb4.cell (cell_lt HP.out.2.2)).trans HP.out.2.2
  have q0 := (hb4.cell (cell_lt HQ.out.1)).trans HQ.out.1
  have q1 := (hb4.cell (cell_lt HQ.out.2.1)).trans HQ.out.2.1
  have q2 := (hb4.cell (cell_lt HQ.out.2.2)).trans HQ.out.2.2
  by_cases hz : e1 = 0
  case' neg =>
    have hd : (e1 != 0) = true := by simpa using hz
    clear hb4
    go_wp2_with fail
    go_ret
    exact ⟨ret_int (by rw [← HZ.out, if_neg hz]), HB4.out⟩
  subst hz
  have HZ1 := Lib.hid (show R = Z by rw [← HZ.out, if_pos rfl])
  have HB4b := Lib.hid hb4
  clear hb4 X0 X1 HP HQ
  go_wp2_with fail
  have HKS : Hid (∀ w' : World, Below W4.heap.size W4 w' → (fun w' => w'.cell? ⟨w.heap.size, 0, none⟩ = some (.slice As ns cs) ∧ w'.cell? ⟨w.heap.size, 1, none⟩ = some (.slice Am nm cm) ∧ w'.cell? ⟨w.heap.size, 2, none⟩ = some (.slice Ac nc cc) ∧ w'.cell? ⟨w.heap.size + 1, 2, none⟩ = some (.slice (some ⟨bb, ob, none⟩) 2 c) ∧ w'.cell? ⟨bb, ob, none⟩ = some (.int .i64 kp) ∧ w'.cell? ⟨bb, ob + 1, none⟩ = some (.int .i64 gp) ∧ w'.cell? ⟨bb, ob + 2, none⟩ = some (.slice Ap np cp) ∧ w'.cell? ⟨bb, ob + 3, none⟩ = some (.int .i64 kq) ∧ w'.cell? ⟨bb, ob + 4, none⟩ = some (.int .i64 gq) ∧ w'.cell? ⟨bb, ob + 5, none⟩ = some (.slice Aq nq cq)) w') := Lib.hid fun w' h => ⟨(h.cell (cell_lt c0)).trans c0, (h.cell (cell_lt c1)).trans c1, (h.cell (cell_lt c2)).trans c2, (h.cell (cell_lt d2)).trans d2, (h.cell (cell_lt p0)).trans p0, (h.cell (cell_lt p1)).trans p1, (h.cell (cell_lt p2)).trans p2, (h.cell (cell_lt q0)).trans q0, (h.cell (cell_lt q1)).trans q1, (h.cell (cell_lt q2)).trans q2⟩
  have hbd : Below W4.heap.size W4 W4.drew := (Below.refl _ W4).drew
  refine wp_region_held_drew (S := fun w' => w'.cell? ⟨w.heap.size, 0, none⟩ = some (.slice As ns cs) ∧ w'.cell? ⟨w.heap.size, 1, none⟩ = some (.slice Am nm cm) ∧ w'.cell? ⟨w.heap.size, 2, none⟩ = some (.slice Ac nc cc) ∧ w'.cell? ⟨w.heap.size + 1, 2, none⟩ = some (.slice (some ⟨bb, ob, none⟩) 2 c) ∧ w'.cell? ⟨bb, ob, none⟩ = some (.int .i64 kp) ∧ w'.cell? ⟨bb, ob + 1, none⟩ = some (.int .i64 gp) ∧ w'.cell? ⟨bb, ob + 2, none⟩ = some (.slice Ap np cp) ∧ w'.cell? ⟨bb, ob + 3, none⟩ = some (.int .i64 kq) ∧ w'.cell? ⟨bb, ob + 4, none⟩ = some (.int .i64 gq) ∧ w'.cell? ⟨bb, ob + 5, none⟩ = some (.slice Aq nq cq)) (by kernel_rfl) (HKS.out _ hbd) (fun hS => ?_)
  simp only [List.size_toArray, List.length_cons, List.length_nil, Nat.reduceAdd]
  refine wpAnyH_take (i := 0) (v := .func (.func 42) #[] #[]) rfl (by kernel_rfl) (by kernel_rfl) (by kernel_rfl) (fun _ _ _ h => h) (Or.inl ⟨by rfl, ?_⟩) hS ?_
  · intro w' hSw
    obtain ⟨s0, s1, s2, s3, s4, s5, s6, s7, s8, s9⟩ := hSw
    go_simp
  try simp only [Act.put, List.setIfInBounds_toArray]
  refine wpAnyH_take (i := 1) (v := .agg #[.slice As ns cs, .slice Am nm cm, .slice Ac nc cc]) rfl (by kernel_rfl) (by kernel_rfl) (by kernel_rfl) (fun _ _ _ h => h) (Or.inl ⟨by rfl, ?_⟩) hS ?_
  · intro w' hSw
    obtain ⟨s0, s1, s2, s3, s4, s5, s6, s7, s8, s9⟩ := hSw
    go_simp
  try simp only [Act.put]
  refine wpAnyH_take (i := 2) (v := .pointer (some ⟨w.heap.size + 1, 2, none⟩)) rfl (by kernel_rfl) (by kernel_rfl) (by kernel_rfl) (fun _ _ _ h => h) (Or.inl ⟨by rfl, ?_⟩) hS ?_
  · intro w' hSw
    obtain ⟨s0, s1, s2, s3, s4, s5, s6, s7, s8, s9⟩ := hSw
    go_simp
  try simp only [Act.put]
  refine wpAnyH_take (i := 3) (v := .slice (some ⟨bb, ob, none⟩) 2 c) rfl (by kernel_rfl) (by kernel_rfl) (by kernel_rfl) (fun _ _ _ h => h) (Or.inl ⟨by rfl, ?_⟩) hS ?_
  · intro w' hSw
    obtain ⟨s0, s1, s2, s3, s4, s5, s6, s7, s8, s9⟩ := hSw
    go_simp
  try simp only [Act.put]
  refine wpAnyH_take (i := 4) (v := .pointer (some ⟨bb, ob, none⟩)) rfl (by kernel_rfl) (by kernel_rfl) (by kernel_rfl) (fun _ _ _ h => h) (Or.inl ⟨by rfl, ?_⟩) hS ?_
  · intro w' hSw
    obtain ⟨s0, s1, s2, s3, s4, s5, s6, s7, s8, s9⟩ := hSw
    go_simp
  try simp only [Act.put]
  refine wpAnyH_take (i := 5) (v := .agg #[.int .i64 kp, .int .i64 gp, .slice Ap np cp]) rfl (by kernel_rfl) (by kernel_rfl) (by kernel_rfl) (fun _ _ _ h => h) (Or.inl ⟨by rfl, ?_⟩) hS ?_
  · intro w' hSw
    obtain ⟨s0, s1, s2, s3, s4, s5, s6, s7, s8, s9⟩ := hSw
    go_simp
  try simp only [Act.put]
  refine wpAnyH_take (i := 7) (v := .pointer (some ⟨w.heap.size + 1, 2, none⟩)) rfl (by kernel_rfl) (by kernel_rfl) (by kernel_rfl) (fun _ _ _ h => h) (Or.inl ⟨by rfl, ?_⟩) hS ?_
  · intro w' hSw
    obtain ⟨s0, s1, s2, s3, s4, s5, s6, s7, s8, s9⟩ := hSw
    go_simp
  try simp only [Act.put]
  refine wpAnyH_take (i := 8) (v := .slice (some ⟨bb, ob, none⟩) 2 c) rfl (by kernel_rfl) (by kernel_rfl) (by kernel_rfl) (fun _ _ _ h => h) (Or.inl ⟨by rfl, ?_⟩) hS ?_
  · intro w' hSw
    obtain ⟨s0, s1, s2, s3, s4, s5, s6, s7, s8, s9⟩ := hSw
    go_simp
  try simp only [Act.put]
  refine wpAnyH_take (i := 9) (v := .pointer (some ⟨bb, ob + 3, none⟩)) rfl (by kernel_rfl) (by kernel_rfl) (by kernel_rfl) (fun _ _ _ h => h) (Or.inl ⟨by rfl, ?_⟩) hS ?_
  · intro w' hSw
    obtain ⟨s0, s1, s2, s3, s4, s5, s6, s7, s8, s9⟩ := hSw
    go_simp
  try simp only [Act.put]
  refine wpAnyH_take (i := 10) (v := .agg #[.int .i64 kq, .int .i64 gq, .slice Aq nq cq]) rfl (by kernel_rfl) (by kernel_rfl) (by kernel_rfl) (fun _ _ _ h => h) (Or.inl ⟨by rfl, ?_⟩) hS ?_
  · intro w' hSw
    obtain ⟨s0, s1, s2, s3, s4, s5, s6, s7, s8, s9⟩ := hSw
    go_simp
  try simp only [Act.put]
  refine wpAnyH_ready (rs := [6]) (by kernel_rfl) (by simp) ?_
  refine AllReadyH.cons rfl (fun KN hK => ?_) AllReadyH.nil
  go_simp
  refine (HMO.out _ (HB4b.out.trans (hbd.mono HB4b.out.size))).mono ?_
  rintro e w8 ⟨g8, cap8, rfl, hcl8, hb8⟩
  have hb8' : Below W4.heap.size W4 w8 := hbd.trans (hb8.mono hbd.size)
  refine hK.out _ _ (HKS.out _ hb8') (fun hS => ?_)
  clear hK KN
  try simp only [Act.put, List.setIfInBounds_toArray, List.set_cons_zero, List.set_cons_succ]
  clear hb8
  refine wpAnyH_ready (rs := [11]) (by kernel_rfl) (by simp) ?_
  refine AllReadyH.cons rfl (fun KN hK => ?_) AllReadyH.nil
  go_simp
  refine (HTY.out w8 g8 cap8 (HB4b.out.trans (hb8'.mono HB4b.out.size)) hcl8 (by first | trivial | rfl)).mono ?_
  rintro e w9 ⟨rfl, hb9⟩
  have hb9' : Below W4.heap.size W4 w9 := hb8'.trans (hb9.mono hb8'.size)
  refine hK.out _ _ (HKS.out _ hb9') (fun hS => ?_)
  clear hK KN
  try simp only [Act.put, List.setIfInBounds_toArray, List.set_cons_zero, List.set_cons_succ]
  refine wpAnyH_take (i := 12) (v := .int .i64 R) rfl (by kernel_rfl) (by kernel_rfl) (by kernel_rfl) (fun _ _ _ h => h) (Or.inl ⟨by rfl, ?_⟩) hS ?_
  · intro w' hSw
    obtain ⟨s0, s1, s2, s3, s4, s5, s6, s7, s8, s9⟩ := hSw
    go_simp
  try simp only [Act.put, List.setIfInBounds_toArray]
  refine wpAnyH_done (by kernel_rfl) ?_ _
  try simp only [List.setIfInBounds_toArray]
  try simp only [List.getElem_toArray, List.getElem_cons_succ, List.getElem_cons_zero, List.set_cons_zero, List.set_cons_succ]
  have HBF := Lib.hid (HB4.out.trans (hb9'.mono HB4.out.size))
  clear hS HKS hbd hb9' hb9 hb8' hcl8 c0 c1 c2 d0 d1 d2 p0 p1 p2 q0 q1 q2
  go_wp2_with fail
  refine bodyPost_ret (v := .int .i64 R) (by simp [results, Tryz.results87, go_sem]) rfl ?_
  exact ⟨ret_int HZ1.out, HBF.out⟩
set_option maxRecDepth 100000 in
set_option maxHeartbeats 16000000 in
theorem vPiKC {W : WV} {x y : T} {h : Int} (ihx : TpC 42 (tyV W) W x) (ihy : TpC 41 (kiV W) W y) (cx : List T) (As : Option Addr) (ns cs : Nat) (Am : Option Addr) (nm cm : Nat) (Ac : Option Addr) (nc cc : Nat) (A : Option Addr) (n c : Nat) (w : World)
    (hE : EnvV W cx loV) (hba : WkV W (.node 1 h [x, y])) (hlen : cx.length + nd (.node 1 h [x, y]) ≤ 1000000) (hk : CkV w W cx As ns cs Am nm cm Ac nc cc) (ha : Rd w (.node 1 h [x, y]) (.agg #[.int .i64 1, .int .i64 h, .slice A n c])) :
    Calls Tryz.prog 87 #[.agg #[.slice As ns cs, .slice Am nm cm, .slice Ac nc cc], .agg #[.int .i64 1, .int .i64 h, .slice A n c], .func (.func 41) #[] #[]] w (ByQ (if tyV W x cx = 0 then kiV W y (cx ++ [x]) else tyV W x cx) w) := by
  obtain ⟨W0, hW⟩ : ∃ W0, (w.alloc (.cells #[.slice As ns cs, .slice Am nm cm, .slice Ac nc cc] 63)).alloc (.cells #[.int .i64 1, .int .i64 h, .slice A n c] 36) = W0 := ⟨_, rfl⟩
  have hb : Below w.heap.size w W0 := by rw [← hW]; exact ((Below.refl _ _).alloc (Nat.le_refl _) _).alloc (by simp) _
  have x0 : Box W0 w.heap.size 63 #[.slice As ns cs, .slice Am nm cm, .slice Ac nc cc] := by rw [← hW]; exact (Box.new _ _ _).alloc _
  have x1 : Box W0 (w.heap.size + 1) 36 #[.int .i64 1, .int .i64 h, .slice A n c] := by rw [← hW]; exact (Box.new (w.alloc _) _ _).at (by simp)
  obtain ⟨c0, c1, c2⟩ := x0.three
  obtain ⟨d0, d1, d2⟩ := x1.three
  obtain ⟨bb, ob, cb, ev, hc2, hcm2, ⟨kp, gp, Ap, np, cp, p0, p1, p2, hrp⟩, ⟨kq, gq, Aq, nq, cq, q0, q1, q2, hrq⟩⟩ := rd_pi ha
  have ev' : A = some ⟨bb, ob, none⟩ ∧ n = 2 ∧ c = cb := by simpa using ev
  obtain ⟨rfl, rfl, rfl⟩ := ev'
  unfold maxLen at hcm2
  replace p0 := (hb.cell (cell_lt p0)).trans p0
  replace p1 := (hb.cell (cell_lt p1)).trans p1
  replace p2 := (hb.cell (cell_lt p2)).trans p2
  replace q0 := (hb.cell (cell_lt q0)).trans q0
  replace q1 := (hb.cell (cell_lt q1)).trans q1
  replace q2 := (hb.cell (cell_lt q2)).trans q2
  have hcl := hk.cx.len
  have hbx := hba.arg (show x ∈ [x, y] by simp)
  have hby := hba.arg (show y ∈ [x, y] by simp)
  rw [nd, ndL, ndL, ndL] at hlen
  have HTX : Hid (∀ W' : World, Below W0.heap.size W0 W' → Calls Tryz.prog 42 #[.agg #[.slice As ns cs, .slice Am nm cm, .slice Ac nc cc], .agg #[.int .i64 kp, .int .i64 gp, .slice Ap np cp]] W' fun e w' => e = .returned (.int .i64 (tyV W x cx)) ∧ Below W'.heap.size W' w') := Lib.hid fun W' h' =>
    ihx cx As ns cs Am nm cm Ac nc cc _ _ _ _ _ W' hE hbx (by omega) (hk.keep (hb.trans (h'.mono hb.size))) (Rd.keep (hb.trans (h'.mono hb.size)) _ _ hrp)
  have HMO : Hid (∀ W' : World, Below W0.heap.size W0 W' → Calls Tryz.prog 71 #[.agg #[.slice As ns cs, .slice Am nm cm, .slice Ac nc cc], .agg #[.int .i64 kp, .int .i64 gp, .slice Ap np cp]] W' (MoreV As Am ns cs nm cm nc (cx ++ [x]) W')) := Lib.hid fun W' h' =>
    moreC cx x As Am Ac ns cs nm cm nc cc _ _ _ _ _ W' (hk.cx.keep (hb.trans (h'.mono hb.size))) (Rd.keep (hb.trans (h'.mono hb.size)) _ _ hrp) (by omega)
  have HTY : Hid (∀ (W' : World) (g cap : Nat), Below W0.heap.size W0 W' → CLV W' (cx ++ [x]) (some ⟨g, 0, none⟩) (nc + 1) cap → tyV W x cx = 0 → Calls Tryz.prog 41 #[.agg #[.slice As ns cs, .slice Am nm cm, .slice (some ⟨g, 0, none⟩) (nc + 1) cap], .agg #[.int .i64 kq, .int .i64 gq, .slice Aq nq cq]] W' (ByQ (kiV W y (cx ++ [x])) W')) := Lib.hid fun W' g cap h' hcl' hz0 =>
    have hb' := hb.trans (h'.mono hb.size)
    ihy (cx ++ [x]) As ns cs Am nm cm _ _ _ _ _ _ _ _ W' (hE.more ⟨hbx.my, ty_low hbx.my (by omega) hz0⟩) hby (by rw [List.length_append, List.length_singleton]; omega) ⟨hk.sg.keep hb', hk.ms.keep hb', hcl'⟩ (Rd.keep hb' _ _ hrq)
  have HB := Lib.hid hb
  have X0 := Lib.hid x0
  have X1 := Lib.hid x1
  generalize kiV W y (cx ++ [x]) = R at *
  generalize tyV W x cx = e1 at *
  obtain ⟨Z, hZ⟩ : ∃ Z, (if e1 = 0 then R else e1) = Z := ⟨_, rfl⟩
  rw [hZ]
  have HZ := Lib.hid hZ; clear hZ
  have HQ := Lib.hid (And.intro q0 (And.intro q1 q2))
  have HP := Lib.hid (And.intro p0 (And.intro p1 p2))
  have v0 := Past.cell c0
  have v1 := Past.cell c1
  have v2 := Past.cell c2
  have v3 := Past.cell d2
  have v4 := Past.cell p0
  have v5 := Past.cell p1
  have v6 := Past.cell p2
  clear hE hba hlen hk ha hbx hby hrp hrq ev hb x0 x1 ihx ihy q0 q1 q2
  go_enter Tryz.func87, Tryz.ntmps87
  go_wp2_with fail
  try rw [hW]
  clear hW c0 c1 c2 d0 d1 d2 p0 p1 p2
  refine wp_region_past (by kernel_rfl) (by kernel_rfl) ?_
  repeat (go_big_quiet_step ((exact calls_past (HTX.out _ (Past.h _)))))
  refine wpQuiet_nil ?_
  rintro _ ⟨z1, rfl⟩
  obtain ⟨W4, hb4⟩ := z1
  dsimp only
  clear v0 v1 v2 v3 v4 v5 v6 HTX
  have HB4 := Lib.hid (HB.out.trans (hb4.mono HB.out.size))
  obtain ⟨c0, c1, c2⟩ := (X0.out.keep hb4 X0.out.lt).three
  obtain ⟨d0, d1, d2⟩ := (X1.out.keep hb4 X1.out.lt).three
  have p0 := (hb4.cell (cell_lt HP.out.1)).trans HP.out.1
  have p1 := (hb4.cell (cell_lt HP.out.2.1)).trans HP.out.2.1
  have p2 := (hb4.cell (cell_lt HP.out.2.2)).trans HP.out.2.2
  have q0 := (hb4.cell (cell_lt HQ.out.1)).trans HQ.out.1
  have q1 := (hb4.cell (cell_lt HQ.out.2.1)).trans HQ.out.2.1
  have q2 := (hb4.cell (cell_lt HQ.out.2.2)).trans HQ.out.2.2
  by_cases hz : e1 = 0
  case' neg =>
    have hd : (e1 != 0) = true := by simpa using hz
    clear hb4
    go_wp2_with fail
    go_ret
    exact ⟨ret_int (by rw [← HZ.out, if_neg hz]), HB4.out⟩
  subst hz
  have HZ1 := Lib.hid (show R = Z by rw [← HZ.out, if_pos rfl])
  have HB4b := Lib.hid hb4
  clear hb4 X0 X1 HP HQ
  go_wp2_with fail
  have HKS : Hid (∀ w' : World, Below W4.heap.size W4 w' → (fun w' => w'.cell? ⟨w.heap.size, 0, none⟩ = some (.slice As ns cs) ∧ w'.cell? ⟨w.heap.size, 1, none⟩ = some (.slice Am nm cm) ∧ w'.cell? ⟨w.heap.size, 2, none⟩ = some (.slice Ac nc cc) ∧ w'.cell? ⟨w.heap.size + 1, 2, none⟩ = some (.slice (some ⟨bb, ob, none⟩) 2 c) ∧ w'.cell? ⟨bb, ob, none⟩ = some (.int .i64 kp) ∧ w'.cell? ⟨bb, ob + 1, none⟩ = some (.int .i64 gp) ∧ w'.cell? ⟨bb, ob + 2, none⟩ = some (.slice Ap np cp) ∧ w'.cell? ⟨bb, ob + 3, none⟩ = some (.int .i64 kq) ∧ w'.cell? ⟨bb, ob + 4, none⟩ = some (.int .i64 gq) ∧ w'.cell? ⟨bb, ob + 5, none⟩ = some (.slice Aq nq cq)) w') := Lib.hid fun w' h => ⟨(h.cell (cell_lt c0)).trans c0, (h.cell (cell_lt c1)).trans c1, (h.cell (cell_lt c2)).trans c2, (h.cell (cell_lt d2)).trans d2, (h.cell (cell_lt p0)).trans p0, (h.cell (cell_lt p1)).trans p1, (h.cell (cell_lt p2)).trans p2, (h.cell (cell_lt q0)).trans q0, (h.cell (cell_lt q1)).trans q1, (h.cell (cell_lt q2)).trans q2⟩
  have hbd : Below W4.heap.size W4 W4.drew := (Below.refl _ W4).drew
  refine wp_region_held_drew (S := fun w' => w'.cell? ⟨w.heap.size, 0, none⟩ = some (.slice As ns cs) ∧ w'.cell? ⟨w.heap.size, 1, none⟩ = some (.slice Am nm cm) ∧ w'.cell? ⟨w.heap.size, 2, none⟩ = some (.slice Ac nc cc) ∧ w'.cell? ⟨w.heap.size + 1, 2, none⟩ = some (.slice (some ⟨bb, ob, none⟩) 2 c) ∧ w'.cell? ⟨bb, ob, none⟩ = some (.int .i64 kp) ∧ w'.cell? ⟨bb, ob + 1, none⟩ = some (.int .i64 gp) ∧ w'.cell? ⟨bb, ob + 2, none⟩ = some (.slice Ap np cp) ∧ w'.cell? ⟨bb, ob + 3, none⟩ = some (.int .i64 kq) ∧ w'.cell? ⟨bb, ob + 4, none⟩ = some (.int .i64 gq) ∧ w'.cell? ⟨bb, ob + 5, none⟩ = some (.slice Aq nq cq)) (by kernel_rfl) (HKS.out _ hbd) (fun hS => ?_)
  simp only [List.size_toArray, List.length_cons, List.length_nil, Nat.reduceAdd]
  refine wpAnyH_take (i := 0) (v := .func (.func 41) #[] #[]) rfl (by kernel_rfl) (by kernel_rfl) (by kernel_rfl) (fun _ _ _ h => h) (Or.inl ⟨by rfl, ?_⟩) hS ?_
  · intro w' hSw
    obtain ⟨s0, s1, s2, s3, s4, s5, s6, s7, s8, s9⟩ := hSw
    go_simp
  try simp only [Act.put, List.setIfInBounds_toArray]
  refine wpAnyH_take (i := 1) (v := .agg #[.slice As ns cs, .slice Am nm cm, .slice Ac nc cc]) rfl (by kernel_rfl) (by kernel_rfl) (by kernel_rfl) (fun _ _ _ h => h) (Or.inl ⟨by rfl, ?_⟩) hS ?_
  · intro w' hSw
    obtain ⟨s0, s1, s2, s3, s4, s5, s6, s7, s8, s9⟩ := hSw
    go_simp
  try simp only [Act.put]
  refine wpAnyH_take (i := 2) (v := .pointer (some ⟨w.heap.size + 1, 2, none⟩)) rfl (by kernel_rfl) (by kernel_rfl) (by kernel_rfl) (fun _ _ _ h => h) (Or.inl ⟨by rfl, ?_⟩) hS ?_
  · intro w' hSw
    obtain ⟨s0, s1, s2, s3, s4, s5, s6, s7, s8, s9⟩ := hSw
    go_simp
  try simp only [Act.put]
  refine wpAnyH_take (i := 3) (v := .slice (some ⟨bb, ob, none⟩) 2 c) rfl (by kernel_rfl) (by kernel_rfl) (by kernel_rfl) (fun _ _ _ h => h) (Or.inl ⟨by rfl, ?_⟩) hS ?_
  · intro w' hSw
    obtain ⟨s0, s1, s2, s3, s4, s5, s6, s7, s8, s9⟩ := hSw
    go_simp
  try simp only [Act.put]
  refine wpAnyH_take (i := 4) (v := .pointer (some ⟨bb, ob, none⟩)) rfl (by kernel_rfl) (by kernel_rfl) (by kernel_rfl) (fun _ _ _ h => h) (Or.inl ⟨by rfl, ?_⟩) hS ?_
  · intro w' hSw
    obtain ⟨s0, s1, s2, s3, s4, s5, s6, s7, s8, s9⟩ := hSw
    go_simp
  try simp only [Act.put]
  refine wpAnyH_take (i := 5) (v := .agg #[.int .i64 kp, .int .i64 gp, .slice Ap np cp]) rfl (by kernel_rfl) (by kernel_rfl) (by kernel_rfl) (fun _ _ _ h => h) (Or.inl ⟨by rfl, ?_⟩) hS ?_
  · intro w' hSw
    obtain ⟨s0, s1, s2, s3, s4, s5, s6, s7, s8, s9⟩ := hSw
    go_simp
  try simp only [Act.put]
  refine wpAnyH_take (i := 7) (v := .pointer (some ⟨w.heap.size + 1, 2, none⟩)) rfl (by kernel_rfl) (by kernel_rfl) (by kernel_rfl) (fun _ _ _ h => h) (Or.inl ⟨by rfl, ?_⟩) hS ?_
  · intro w' hSw
    obtain ⟨s0, s1, s2, s3, s4, s5, s6, s7, s8, s9⟩ := hSw
    go_simp
  try simp only [Act.put]
  refine wpAnyH_take (i := 8) (v := .slice (some ⟨bb, ob, none⟩) 2 c) rfl (by kernel_rfl) (by kernel_rfl) (by kernel_rfl) (fun _ _ _ h => h) (Or.inl ⟨by rfl, ?_⟩) hS ?_
  · intro w' hSw
    obtain ⟨s0, s1, s2, s3, s4, s5, s6, s7, s8, s9⟩ := hSw
    go_simp
  try simp only [Act.put]
  refine wpAnyH_take (i := 9) (v := .pointer (some ⟨bb, ob + 3, none⟩)) rfl (by kernel_rfl) (by kernel_rfl) (by kernel_rfl) (fun _ _ _ h => h) (Or.inl ⟨by rfl, ?_⟩) hS ?_
  · intro w' hSw
    obtain ⟨s0, s1, s2, s3, s4, s5, s6, s7, s8, s9⟩ := hSw
    go_simp
  try simp only [Act.put]
  refine wpAnyH_take (i := 10) (v := .agg #[.int .i64 kq, .int .i64 gq, .slice Aq nq cq]) rfl (by kernel_rfl) (by kernel_rfl) (by kernel_rfl) (fun _ _ _ h => h) (Or.inl ⟨by rfl, ?_⟩) hS ?_
  · intro w' hSw
    obtain ⟨s0, s1, s2, s3, s4, s5, s6, s7, s8, s9⟩ := hSw
    go_simp
  try simp only [Act.put]
  refine wpAnyH_ready (rs := [6]) (by kernel_rfl) (by simp) ?_
  refine AllReadyH.cons rfl (fun KN hK => ?_) AllReadyH.nil
  go_simp
  refine (HMO.out _ (HB4b.out.trans (hbd.mono HB4b.out.size))).mono ?_
  rintro e w8 ⟨g8, cap8, rfl, hcl8, hb8⟩
  have hb8' : Below W4.heap.size W4 w8 := hbd.trans (hb8.mono hbd.size)
  refine hK.out _ _ (HKS.out _ hb8') (fun hS => ?_)
  clear hK KN
  try simp only [Act.put, List.setIfInBounds_toArray, List.set_cons_zero, List.set_cons_succ]
  clear hb8
  refine wpAnyH_ready (rs := [11]) (by kernel_rfl) (by simp) ?_
  refine AllReadyH.cons rfl (fun KN hK => ?_) AllReadyH.nil
  go_simp
  refine (HTY.out w8 g8 cap8 (HB4b.out.trans (hb8'.mono HB4b.out.size)) hcl8 (by first | trivial | rfl)).mono ?_
  rintro e w9 ⟨rfl, hb9⟩
  have hb9' : Below W4.heap.size W4 w9 := hb8'.trans (hb9.mono hb8'.size)
  refine hK.out _ _ (HKS.out _ hb9') (fun hS => ?_)
  clear hK KN
  try simp only [Act.put, List.setIfInBounds_toArray, List.set_cons_zero, List.set_cons_succ]
  refine wpAnyH_take (i := 12) (v := .int .i64 R) rfl (by kernel_rfl) (by kernel_rfl) (by kernel_rfl) (fun _ _ _ h => h) (Or.inl ⟨by rfl, ?_⟩) hS ?_
  · intro w' hSw
    obtain ⟨s0, s1, s2, s3, s4, s5, s6, s7, s8, s9⟩ := hSw
    go_simp
  try simp only [Act.put, List.setIfInBounds_toArray]
  refine wpAnyH_done (by kernel_rfl) ?_ _
  try simp only [List.setIfInBounds_toArray]
  try simp only [List.getElem_toArray, List.getElem_cons_succ, List.getElem_cons_zero, List.set_cons_zero, List.set_cons_succ]
  have HBF := Lib.hid (HB4.out.trans (hb9'.mono HB4.out.size))
  clear hS HKS hbd hb9' hb9 hb8' hcl8 c0 c1 c2 d0 d1 d2 p0 p1 p2 q0 q1 q2
  go_wp2_with fail
  refine bodyPost_ret (v := .int .i64 R) (by simp [results, Tryz.results87, go_sem]) rfl ?_
  exact ⟨ret_int HZ1.out, HBF.out⟩
end Go.Proofs.YtmkahbbcagfbhaaGreatDoor
/-
  Contracts of package check's fam. No statement is proved here.
-/
namespace Go.Proofs.YtmkahbbcagfbhaaGreatDoor
open Go.ChangeShapes Go.WideShapes Go.ChangeAt Go.RowKit
set_option linter.unusedVariables false
set_option maxRecDepth 100000 in
set_option maxHeartbeats 16000000 in
theorem vFamC {W : WV} {h : Int} {xs : List T} (cx : List T) (As : Option Addr) (ns cs : Nat) (Am : Option Addr) (nm cm : Nat) (Ac : Option Addr) (nc cc : Nat) (A : Option Addr) (n c : Nat) (w : World)
    (hE : EnvV W cx loV) (hba : WkV W (.node 2 h xs)) (hlen : cx.length + nd (.node 2 h xs) ≤ 1000000) (hk : CkV w W cx As ns cs Am nm cm Ac nc cc) (hv : Rd w (.node 2 h xs) (.agg #[.int .i64 2, .int .i64 h, .slice A n c])) :
    Calls Tryz.prog 67 #[.agg #[.slice As ns cs, .slice Am nm cm, .slice Ac nc cc], .agg #[.int .i64 2, .int .i64 h, .slice A n c]] w (ByQ (faV W h xs cx) w) := by
  have hscap := hk.sg.cap
  have hsle := hk.sg.le
  have hsl := hk.sg.len
  unfold maxLen at hscap
  have h0 := headV hba.nod
  have hx : CLV w xs A n c := by
    obtain ⟨A', n', c', e, _, _, h3, h4, h5, h6⟩ := Rd_node.1 hv
    have e' : A = A' ∧ n = n' ∧ c = c' := by simpa using e
    obtain ⟨rfl, rfl, rfl⟩ := e'
    exact ⟨h3, h4, h5, h6⟩
  have hnd := ((myB_iff _).1 hba.my).2.1
  obtain ⟨W0, hW⟩ : ∃ W0, (w.alloc (.cells #[.slice As ns cs, .slice Am nm cm, .slice Ac nc cc] 63)).alloc (.cells #[.int .i64 2, .int .i64 h, .slice A n c] 36) = W0 := ⟨_, rfl⟩
  have hb : Below w.heap.size w W0 := by rw [← hW]; exact ((Below.refl _ _).alloc (Nat.le_refl _) _).alloc (by simp) _
  have x0 : Box W0 w.heap.size 63 #[.slice As ns cs, .slice Am nm cm, .slice Ac nc cc] := by rw [← hW]; exact (Box.new _ _ _).alloc _
  have x1 : Box W0 (w.heap.size + 1) 36 #[.int .i64 2, .int .i64 h, .slice A n c] := by rw [← hW]; exact (Box.new (w.alloc _) _ _).at (by simp)
  obtain ⟨c0, c1, c2⟩ := x0.three
  obtain ⟨d0, d1, d2⟩ := x1.three
  have HB := Lib.hid hb
  have X0 := Lib.hid x0
  have X1 := Lib.hid x1
  have HK := Lib.hid hk
  have HX := Lib.hid hx
  have HE := Lib.hid hE
  have HBM := Lib.hid hba
  have HND := Lib.hid hnd
  have HLEN := Lib.hid hlen
  obtain ⟨Z, hZ⟩ : ∃ Z, faV W h xs cx = Z := ⟨_, rfl⟩
  rw [hZ]
  have HZ := Lib.hid hZ
  clear hZ hE hba hlen hk hv hx hb x0 x1 hnd
  by_cases hlt : (ns : Int) ≤ h
  case' pos =>
    have hd : decide (h ≥ (ns : Int)) = true := by simpa using hlt
    have HEQ := Lib.hid (show 2 = Z by rw [← HZ.out, fa_no (by omega)])
    go_enter Tryz.func67, Tryz.ntmps67
    go_wp2_with fail
    clear hW
    go_ret
    exact ⟨ret_int HEQ.out, HB.out⟩
  have hd : decide (h ≥ (ns : Int)) = false := by simpa using hlt
  obtain ⟨i, rfl⟩ : ∃ i : Nat, h = (i : Int) := ⟨h.toNat, by omega⟩
  obtain ⟨en, hen⟩ := at_of HK.out.sg.len (show i < ns by omega)
  have HEN := Lib.hid hen
  obtain ⟨bc, oc, s1, ke, he, Ae, ne, ce, eA, e9, e0, e1, e2, hre⟩ := HK.out.sg.at_ i en hen
  subst eA
  replace e0 := (HB.out.cell (cell_lt e0)).trans e0
  replace e1 : W0.cell? ⟨bc, oc + i * 4 + 1 + 1, none⟩ = some (.int .i64 he) := (HB.out.cell (cell_lt e1)).trans e1
  replace e2 : W0.cell? ⟨bc, oc + i * 4 + 1 + 2, none⟩ = some (.slice Ae ne ce) := (HB.out.cell (cell_lt e2)).trans e2
  have hbe := HE.out.sg en (List.mem_of_getElem? hen)
  have HBE := Lib.hid hbe
  have HRE := Lib.hid hre
  clear hen hre hbe e9
  have hi0 : (0 : Int) ≤ i := by omega
  have hi1 : (i : Int) < ns := by omega
  have HKI : Hid (Calls Tryz.prog 20 #[.agg #[.int .i64 ke, .int .i64 he, .slice Ae ne ce]] W0 fun e w' => e = .returned (.bool (kiB en)) ∧ Below W0.heap.size W0 w') := Lib.hid (kindC en _ W0 (Rd.keep HB.out _ _ HRE.out))
  obtain ⟨r, hr⟩ : ∃ r, kiB en = r := ⟨_, rfl⟩
  rw [hr] at HKI
  go_enter Tryz.func67, Tryz.ntmps67
  go_wp2_with fail
  clear hW
  refine HKI.out.mono ?_
  clear HKI
  rintro e W1 ⟨rfl, hb1⟩
  replace e0 := (hb1.cell (cell_lt e0)).trans e0
  replace e1 := (hb1.cell (cell_lt e1)).trans e1
  replace e2 := (hb1.cell (cell_lt e2)).trans e2
  have HB1 := Lib.hid (HB.out.trans (hb1.mono HB.out.size))
  have lz1 := (X1.out.keep hb1 X1.out.lt).lt
  clear c0 c1 c2 d0 d1 d2
  obtain ⟨c0, c1, c2⟩ := (X0.out.keep hb1 X0.out.lt).three
  obtain ⟨d0, d1, d2⟩ := (X1.out.keep hb1 X1.out.lt).three
  clear hb1
  cases r
  case' false =>
    have HEQ := Lib.hid (show 2 = Z by rw [← HZ.out, fa_ki HEN.out hr])
    go_wp2_with fail
    go_ret
    exact ⟨ret_int HEQ.out, HB1.out⟩
  have HEQ := Lib.hid (show knV (spV W xs cx en) = Z by rw [← HZ.out, fa_go HEN.out hr])
  have HSP : Hid (∀ (W2 : World), Below W1.heap.size W1 W2 → Calls Tryz.prog 88 #[.agg #[.slice (some ⟨bc, oc, none⟩) ns cs, .slice Am nm cm, .slice Ac nc cc], .agg #[.int .i64 ke, .int .i64 he, .slice Ae ne ce], .slice A n c] W2 (SpE (fun b => b < w.heap.size) (spV W xs cx en) W2)) := Lib.hid fun W2 h2 =>
    vSpineC (fun x _ => vTermC W x) HE.out (fun x hx => HBM.out.arg hx) HBE.out (Int.le_refl _) (by have := HND.out; rw [nd] at this; unfold dlV hiV loV; omega) (by have := HLEN.out; rw [nd] at this; omega) W2 (HK.out.keep (HB1.out.trans (h2.mono HB1.out.size))) (HX.out.keep (HB1.out.trans (h2.mono HB1.out.size))) (RdF.moveX (fun b hok hl => ⟨hok, (HB1.out.trans (h2.mono HB1.out.size)).block b hl⟩) _ _ (rdF_anyQ _ _ HRE.out))
  have HNE := Lib.hid (fun e (he : spV W xs cx en = .error e) => sp_err _ _ _ _ _ he)
  generalize spV W xs cx en = R at *
  clear hr HZ
  go_wp2_with fail
  have HKS : Hid (∀ w' : World, Below W1.heap.size W1 w' → (fun w' => w'.cell? ⟨w.heap.size, 0, none⟩ = some (.slice (some ⟨bc, oc, none⟩) ns cs) ∧ w'.cell? ⟨w.heap.size, 1, none⟩ = some (.slice Am nm cm) ∧ w'.cell? ⟨w.heap.size, 2, none⟩ = some (.slice Ac nc cc) ∧ w'.cell? ⟨w.heap.size + 1, 1, none⟩ = some (.int .i64 i) ∧ w'.cell? ⟨w.heap.size + 1, 2, none⟩ = some (.slice A n c) ∧ w'.cell? ⟨bc, oc + i * 4 + 1, none⟩ = some (.int .i64 ke) ∧ w'.cell? ⟨bc, oc + i * 4 + 1 + 1, none⟩ = some (.int .i64 he) ∧ w'.cell? ⟨bc, oc + i * 4 + 1 + 2, none⟩ = some (.slice Ae ne ce)) w') := Lib.hid fun w' h => ⟨(h.cell (cell_lt c0)).trans c0, (h.cell (cell_lt c1)).trans c1, (h.cell (cell_lt c2)).trans c2, (h.cell (cell_lt d1)).trans d1, (h.cell (cell_lt d2)).trans d2, (h.cell (cell_lt e0)).trans e0, (h.cell (cell_lt e1)).trans e1, (h.cell (cell_lt e2)).trans e2⟩
  have hbd : Below W1.heap.size W1 W1.drew := (Below.refl _ W1).drew
  refine wp_region_held_drew (S := fun w' => w'.cell? ⟨w.heap.size, 0, none⟩ = some (.slice (some ⟨bc, oc, none⟩) ns cs) ∧ w'.cell? ⟨w.heap.size, 1, none⟩ = some (.slice Am nm cm) ∧ w'.cell? ⟨w.heap.size, 2, none⟩ = some (.slice Ac nc cc) ∧ w'.cell? ⟨w.heap.size + 1, 1, none⟩ = some (.int .i64 i) ∧ w'.cell? ⟨w.heap.size + 1, 2, none⟩ = some (.slice A n c) ∧ w'.cell? ⟨bc, oc + i * 4 + 1, none⟩ = some (.int .i64 ke) ∧ w'.cell? ⟨bc, oc + i * 4 + 1 + 1, none⟩ = some (.int .i64 he) ∧ w'.cell? ⟨bc, oc + i * 4 + 1 + 2, none⟩ = some (.slice Ae ne ce)) (by kernel_rfl) (HKS.out _ hbd) (fun hS => ?_)
  simp only [List.size_toArray, List.length_cons, List.length_nil, Nat.reduceAdd]
  refine wpAnyH_take (i := 0) (v := .agg #[.slice (some ⟨bc, oc, none⟩) ns cs, .slice Am nm cm, .slice Ac nc cc]) rfl (by kernel_rfl) (by kernel_rfl) (by kernel_rfl) (fun _ _ _ h => h) (Or.inl ⟨by rfl, ?_⟩) hS ?_
  · intro w' hSw
    obtain ⟨s0, s1, s2, s3, s4, s5, s6, s7⟩ := hSw
    go_simp
  try simp only [Act.put, List.setIfInBounds_toArray]
  refine wpAnyH_take (i := 1) (v := .pointer (some ⟨w.heap.size, 0, none⟩)) rfl (by kernel_rfl) (by kernel_rfl) (by kernel_rfl) (fun _ _ _ h => h) (Or.inl ⟨by rfl, ?_⟩) hS ?_
  · intro w' hSw
    obtain ⟨s0, s1, s2, s3, s4, s5, s6, s7⟩ := hSw
    go_simp
  try simp only [Act.put]
  refine wpAnyH_take (i := 2) (v := .slice (some ⟨bc, oc, none⟩) ns cs) rfl (by kernel_rfl) (by kernel_rfl) (by kernel_rfl) (fun _ _ _ h => h) (Or.inl ⟨by rfl, ?_⟩) hS ?_
  · intro w' hSw
    obtain ⟨s0, s1, s2, s3, s4, s5, s6, s7⟩ := hSw
    go_simp
  try simp only [Act.put]
  refine wpAnyH_take (i := 3) (v := .pointer (some ⟨w.heap.size + 1, 1, none⟩)) rfl (by kernel_rfl) (by kernel_rfl) (by kernel_rfl) (fun _ _ _ h => h) (Or.inl ⟨by rfl, ?_⟩) hS ?_
  · intro w' hSw
    obtain ⟨s0, s1, s2, s3, s4, s5, s6, s7⟩ := hSw
    go_simp
  try simp only [Act.put]
  refine wpAnyH_take (i := 4) (v := .int .i64 i) rfl (by kernel_rfl) (by kernel_rfl) (by kernel_rfl) (fun _ _ _ h => h) (Or.inl ⟨by rfl, ?_⟩) hS ?_
  · intro w' hSw
    obtain ⟨s0, s1, s2, s3, s4, s5, s6, s7⟩ := hSw
    go_simp
  try simp only [Act.put]
  refine wpAnyH_take (i := 5) (v := .pointer (some ⟨bc, oc + i * 4, none⟩)) rfl (by kernel_rfl) (by kernel_rfl) (by kernel_rfl) (fun _ _ _ h => h) (Or.inl ⟨by rfl, ?_⟩) hS ?_
  · intro w' hSw
    obtain ⟨s0, s1, s2, s3, s4, s5, s6, s7⟩ := hSw
    go_simp
  try simp only [Act.put]
  refine wpAnyH_take (i := 6) (v := .pointer (some ⟨bc, oc + i * 4 + 1, none⟩)) rfl (by kernel_rfl) (by kernel_rfl) (by kernel_rfl) (fun _ _ _ h => h) (Or.inl ⟨by rfl, ?_⟩) hS ?_
  · intro w' hSw
    obtain ⟨s0, s1, s2, s3, s4, s5, s6, s7⟩ := hSw
    go_simp
  try simp only [Act.put]
  refine wpAnyH_take (i := 7) (v := .agg #[.int .i64 ke, .int .i64 he, .slice Ae ne ce]) rfl (by kernel_rfl) (by kernel_rfl) (by kernel_rfl) (fun _ _ _ h => h) (Or.inl ⟨by rfl, ?_⟩) hS ?_
  · intro w' hSw
    obtain ⟨s0, s1, s2, s3, s4, s5, s6, s7⟩ := hSw
    go_simp
  try simp only [Act.put]
  refine wpAnyH_take (i := 8) (v := .pointer (some ⟨w.heap.size + 1, 2, none⟩)) rfl (by kernel_rfl) (by kernel_rfl) (by kernel_rfl) (fun _ _ _ h => h) (Or.inl ⟨by rfl, ?_⟩) hS ?_
  · intro w' hSw
    obtain ⟨s0, s1, s2, s3, s4, s5, s6, s7⟩ := hSw
    go_simp
  try simp only [Act.put]
  refine wpAnyH_take (i := 9) (v := .slice A n c) rfl (by kernel_rfl) (by kernel_rfl) (by kernel_rfl) (fun _ _ _ h => h) (Or.inl ⟨by rfl, ?_⟩) hS ?_
  · intro w' hSw
    obtain ⟨s0, s1, s2, s3, s4, s5, s6, s7⟩ := hSw
    go_simp
  try simp only [Act.put]
  refine wpAnyH_ready (rs := [10, 14]) (by kernel_rfl) (by simp) ?_
  refine AllReadyH.cons rfl (fun KN hK => ?_) (AllReadyH.cons rfl (fun KN hK => ?_) AllReadyH.nil)
  · go_simp
    refine (HSP.out _ hbd).mono ?_
    rintro e w8 ⟨k3, h3, A3, n3, c3, rfl, hrd, hb8⟩
    have hb8' : Below W1.heap.size W1 w8 := hbd.trans (hb8.mono hbd.size)
    have hrd8 := (fun t (e : R = .ok t) => (rdF_kind (RdF.rd _ _ (hrd t e))).1 : ∀ t, R = .ok t → kdQ t = k3)
    refine hK.out _ _ (HKS.out _ hb8') (fun hS => ?_)
    clear hK KN
    try simp only [Act.put, List.setIfInBounds_toArray, List.set_cons_zero, List.set_cons_succ]
    clear hb8 hrd
    refine wpAnyH_take (i := 11) (v := .tuple #[.agg #[.int .i64 k3, .int .i64 h3, .slice A3 n3 c3], .int .i64 (erV R)]) rfl (by kernel_rfl) (by kernel_rfl) (by kernel_rfl) (fun _ _ _ h => h) (Or.inl ⟨by rfl, ?_⟩) hS ?_
    · intro w' hSw
      obtain ⟨s0, s1, s2, s3, s4, s5, s6, s7⟩ := hSw
      go_simp
    try simp only [Act.put, List.setIfInBounds_toArray]
    refine wpAnyH_take (i := 12) (v := .agg #[.int .i64 k3, .int .i64 h3, .slice A3 n3 c3]) rfl (by kernel_rfl) (by kernel_rfl) (by kernel_rfl) (fun _ _ _ h => h) (Or.inl ⟨by rfl, ?_⟩) hS ?_
    · intro w' hSw
      obtain ⟨s0, s1, s2, s3, s4, s5, s6, s7⟩ := hSw
      go_simp
    try simp only [Act.put]
    refine wpAnyH_take (i := 13) (v := .int .i64 (erV R)) rfl (by kernel_rfl) (by kernel_rfl) (by kernel_rfl) (fun _ _ _ h => h) (Or.inl ⟨by rfl, ?_⟩) hS ?_
    · intro w' hSw
      obtain ⟨s0, s1, s2, s3, s4, s5, s6, s7⟩ := hSw
      go_simp
    try simp only [Act.put]
    refine wpAnyH_ready (rs := [14]) (by kernel_rfl) (by simp) ?_
    refine AllReadyH.cons rfl (fun KN hK => ?_) AllReadyH.nil
    go_simp
    have hb9 : Below W1.heap.size W1 (w8.alloc (.cells #[.int .i64 0, .int .i64 0, .slice none 0 0] 36)) := hb8'.alloc hb8'.size _
    refine hK.out _ _ (HKS.out _ hb9) (fun hS => ?_)
    clear hK KN
    try simp only [Act.put, List.setIfInBounds_toArray, List.set_cons_zero, List.set_cons_succ]
    have xz : Box (w8.alloc (.cells #[.int .i64 0, .int .i64 0, .slice none 0 0] 36)) w8.heap.size 36 #[.int .i64 0, .int .i64 0, .slice none 0 0] := Box.new _ _ _
    have hrd9 := hrd8
    have hpl : W1.heap.size ≤ w8.heap.size := hb8'.size
    clear hrd8 hb8'
    generalize w8.alloc (.cells #[.int .i64 0, .int .i64 0, .slice none 0 0] 36) = w9 at *
    generalize w8.heap.size = pB at *
    obtain ⟨z0, z1, z2⟩ := xz.three
    have u0 := xz.frozen 0
    have u1 := xz.frozen 1
    have u2 := xz.frozen 2
    refine wpAnyH_ready (rs := [15]) (by kernel_rfl) (by simp) ?_
    refine AllReadyH.cons rfl (fun KN hK => ?_) AllReadyH.nil
    go_simp
    have hbF := below_set3 hb9 (a := pB) hpl (.int .i64 k3) (.int .i64 h3) (.slice A3 n3 c3)
    refine hK.out _ _ (HKS.out _ hbF) (fun hS => ?_)
    clear hK KN
    try simp only [Act.put, List.setIfInBounds_toArray, List.set_cons_zero, List.set_cons_succ]
    have xB := xz.put3 (.int .i64 k3) (.int .i64 h3) (.slice A3 n3 c3)
    have hrdF := hrd9
    clear hrd9 xz hb9 z0 z1 z2 u0 u1 u2
    generalize ((w9.setCell ⟨pB, 0, none⟩ (.int .i64 k3)).setCell ⟨pB, 1, none⟩ (.int .i64 h3)).setCell ⟨pB, 2, none⟩ (.slice A3 n3 c3) = Wf at *
    refine wpAnyH_take (i := 16) (v := .int .i64 (erV R)) rfl (by kernel_rfl) (by kernel_rfl) (by kernel_rfl) (fun _ _ _ h => h) (Or.inl ⟨by rfl, ?_⟩) hS ?_
    · intro w' hSw
      obtain ⟨s0, s1, s2, s3, s4, s5, s6, s7⟩ := hSw
      go_simp
    try simp only [Act.put, List.setIfInBounds_toArray]
    refine wpAnyH_done (by kernel_rfl) ?_ _
    try simp only [List.setIfInBounds_toArray]
    try simp only [List.getElem_toArray, List.getElem_cons_succ, List.getElem_cons_zero, List.set_cons_zero, List.set_cons_succ]
    have HBF := Lib.hid (HB1.out.trans (hbF.mono HB1.out.size))
    obtain ⟨y0, y1, y2⟩ := xB.three
    clear hS HKS hbd hbF hpl c0 c1 c2 d0 d1 d2 e0 e1 e2 xB HSP
    cases R with
    | error er =>
      have hd2 : (er != 0) = true := by simpa using HNE.out er rfl
      have HE5 := Lib.hid (show er = Z from HEQ.out)
      clear hrdF
      simp only [erV]
      go_wp2_with fail
      go_ret
      exact ⟨ret_int HE5.out, HBF.out⟩
    | ok t =>
      have hkt := hrdF t rfl
      have HE5 := Lib.hid (show (if kdQ t = 0 then 0 else 3) = Z from HEQ.out)
      clear hrdF
      simp only [erV]
      by_cases hk0 : k3 = 0
      · subst hk0
        have HE6 := Lib.hid (show 0 = Z by rw [← HE5.out, if_pos hkt])
        clear hkt
        go_wp2_with fail
        go_ret
        exact ⟨ret_int HE6.out, HBF.out⟩
      · have hd3 : (k3 != 0) = true := by simpa using hk0
        have HE6 := Lib.hid (show 3 = Z by rw [← HE5.out, if_neg (by rw [hkt]; exact hk0)])
        clear hkt
        go_wp2_with fail
        go_ret
        exact ⟨ret_int HE6.out, HBF.out⟩
  · go_simp
    have hb7 : Below W1.heap.size W1 (W1.alloc (.cells #[.int .i64 0, .int .i64 0, .slice none 0 0] 36)).drew := ((Below.refl _ W1).alloc (Nat.le_refl _) _).drew
    refine hK.out _ _ (HKS.out _ hb7) (fun hS => ?_)
    clear hK KN
    try simp only [Act.put, List.setIfInBounds_toArray, List.set_cons_zero, List.set_cons_succ]
    have xz : Box (W1.alloc (.cells #[.int .i64 0, .int .i64 0, .slice none 0 0] 36)).drew W1.heap.size 36 #[.int .i64 0, .int .i64 0, .slice none 0 0] := Box.drewI (Box.new _ _ _)
    obtain ⟨pB, hpB0⟩ : ∃ p, W1.heap.size = p := ⟨_, rfl⟩
    have hpl : W1.heap.size ≤ pB := by omega
    have hplt : pB < (W1.alloc (.cells #[.int .i64 0, .int .i64 0, .slice none 0 0] 36)).drew.heap.size := by rw [← hpB0]; exact xz.lt
    rw [hpB0] at xz
    try rw [hpB0]
    have hpB1 := Lib.hid hpB0
    clear hpB0
    generalize (W1.alloc (.cells #[.int .i64 0, .int .i64 0, .slice none 0 0] 36)).drew = w7 at *
    refine wpAnyH_ready (rs := [10]) (by kernel_rfl) (by simp) ?_
    refine AllReadyH.cons rfl (fun KN hK => ?_) AllReadyH.nil
    go_simp
    refine (HSP.out _ hb7).mono ?_
    rintro e w8 ⟨k3, h3, A3, n3, c3, rfl, hrd, hb8⟩
    have hb8' : Below W1.heap.size W1 w8 := hb7.trans (hb8.mono hb7.size)
    have hrd8 := (fun t (e : R = .ok t) => (rdF_kind (RdF.rd _ _ (hrd t e))).1 : ∀ t, R = .ok t → kdQ t = k3)
    have xz8 := xz.keep hb8 xz.lt
    refine hK.out _ _ (HKS.out _ hb8') (fun hS => ?_)
    clear hK KN
    try simp only [Act.put, List.setIfInBounds_toArray, List.set_cons_zero, List.set_cons_succ]
    clear hb8 hrd xz hb7
    refine wpAnyH_take (i := 11) (v := .tuple #[.agg #[.int .i64 k3, .int .i64 h3, .slice A3 n3 c3], .int .i64 (erV R)]) rfl (by kernel_rfl) (by kernel_rfl) (by kernel_rfl) (fun _ _ _ h => h) (Or.inl ⟨by rfl, ?_⟩) hS ?_
    · intro w' hSw
      obtain ⟨s0, s1, s2, s3, s4, s5, s6, s7⟩ := hSw
      go_simp
    try simp only [Act.put, List.setIfInBounds_toArray]
    refine wpAnyH_take (i := 12) (v := .agg #[.int .i64 k3, .int .i64 h3, .slice A3 n3 c3]) rfl (by kernel_rfl) (by kernel_rfl) (by kernel_rfl) (fun _ _ _ h => h) (Or.inl ⟨by rfl, ?_⟩) hS ?_
    · intro w' hSw
      obtain ⟨s0, s1, s2, s3, s4, s5, s6, s7⟩ := hSw
      go_simp
    try simp only [Act.put]
    refine wpAnyH_take (i := 13) (v := .int .i64 (erV R)) rfl (by kernel_rfl) (by kernel_rfl) (by kernel_rfl) (fun _ _ _ h => h) (Or.inl ⟨by rfl, ?_⟩) hS ?_
    · intro w' hSw
      obtain ⟨s0, s1, s2, s3, s4, s5, s6, s7⟩ := hSw
      go_simp
    try simp only [Act.put]
    obtain ⟨z0, z1, z2⟩ := xz8.three
    have u0 := xz8.frozen 0
    have u1 := xz8.frozen 1
    have u2 := xz8.frozen 2
    refine wpAnyH_ready (rs := [15]) (by kernel_rfl) (by simp) ?_
    refine AllReadyH.cons rfl (fun KN hK => ?_) AllReadyH.nil
    go_simp
    have hbF := below_set3 hb8' (a := pB) hpl (.int .i64 k3) (.int .i64 h3) (.slice A3 n3 c3)
    refine hK.out _ _ (HKS.out _ hbF) (fun hS => ?_)
    clear hK KN
    try simp only [Act.put, List.setIfInBounds_toArray, List.set_cons_zero, List.set_cons_succ]
    have xB := xz8.put3 (.int .i64 k3) (.int .i64 h3) (.slice A3 n3 c3)
    have hrdF := hrd8
    clear hrd8 xz8 hb8' z0 z1 z2 u0 u1 u2 hplt hpB1
    generalize ((w8.setCell ⟨pB, 0, none⟩ (.int .i64 k3)).setCell ⟨pB, 1, none⟩ (.int .i64 h3)).setCell ⟨pB, 2, none⟩ (.slice A3 n3 c3) = Wf at *
    refine wpAnyH_take (i := 16) (v := .int .i64 (erV R)) rfl (by kernel_rfl) (by kernel_rfl) (by kernel_rfl) (fun _ _ _ h => h) (Or.inl ⟨by rfl, ?_⟩) hS ?_
    · intro w' hSw
      obtain ⟨s0, s1, s2, s3, s4, s5, s6, s7⟩ := hSw
      go_simp
    try simp only [Act.put, List.setIfInBounds_toArray]
    refine wpAnyH_done (by kernel_rfl) ?_ _
    try simp only [List.setIfInBounds_toArray]
    try simp only [List.getElem_toArray, List.getElem_cons_succ, List.getElem_cons_zero, List.set_cons_zero, List.set_cons_succ]
    have HBF := Lib.hid (HB1.out.trans (hbF.mono HB1.out.size))
    obtain ⟨y0, y1, y2⟩ := xB.three
    clear hS HKS hbd hbF hpl c0 c1 c2 d0 d1 d2 e0 e1 e2 xB HSP
    cases R with
    | error er =>
      have hd2 : (er != 0) = true := by simpa using HNE.out er rfl
      have HE5 := Lib.hid (show er = Z from HEQ.out)
      clear hrdF
      simp only [erV]
      go_wp2_with fail
      go_ret
      exact ⟨ret_int HE5.out, HBF.out⟩
    | ok t =>
      have hkt := hrdF t rfl
      have HE5 := Lib.hid (show (if kdQ t = 0 then 0 else 3) = Z from HEQ.out)
      clear hrdF
      simp only [erV]
      by_cases hk0 : k3 = 0
      · subst hk0
        have HE6 := Lib.hid (show 0 = Z by rw [← HE5.out, if_pos hkt])
        clear hkt
        go_wp2_with fail
        go_ret
        exact ⟨ret_int HE6.out, HBF.out⟩
      · have hd3 : (k3 != 0) = true := by simpa using hk0
        have HE6 := Lib.hid (show 3 = Z by rw [← HE5.out, if_neg (by rw [hkt]; exact hk0)])
        clear hkt
        go_wp2_with fail
        go_ret
        exact ⟨ret_int HE6.out, HBF.out⟩
end Go.Proofs.YtmkahbbcagfbhaaGreatDoor
/-
  Contracts of package check's typ, kind, Type and Kind. No statement is proved here.
-/
namespace Go.Proofs.YtmkahbbcagfbhaaGreatDoor
open Go.ChangeShapes Go.WideShapes Go.ChangeAt Go.RowKit
set_option linter.unusedVariables false
theorem vRightC (W : WV) (cx : List T) (v u : Value) (w : World) (k h : Int) (A : Option Addr) (n c : Nat) (As Am Ac : Option Addr) (ns cs nm cm nc cc : Nat) : Calls Tryz.prog 64 #[.agg #[.slice As ns cs, .slice Am nm cm, .slice Ac nc cc], .agg #[.int .i64 k, .int .i64 h, .slice A n c]] w (ByQ 0 w) := by
  have hb : Below w.heap.size w ((w.alloc (.cells #[.slice As ns cs, .slice Am nm cm, .slice Ac nc cc] 63)).alloc (.cells #[.int .i64 k, .int .i64 h, .slice A n c] 36)) := ((Below.refl _ _).alloc (Nat.le_refl _) _).alloc (by simp) _
  go_enter Tryz.func64, Tryz.ntmps64
  go_wp2_with fail
  go_ret
  exact ⟨rfl, hb⟩
set_option maxRecDepth 100000 in
set_option maxHeartbeats 4000000 in
theorem piTypeW {R : Int} {k h : Int} {A : Option Addr} {n c : Nat} {As Am Ac : Option Addr} {ns cs nm cm nc cc : Nat} (w : World) (hf : ∀ W' : World, Below w.heap.size w W' → Calls Tryz.prog 87 #[.agg #[.slice As ns cs, .slice Am nm cm, .slice Ac nc cc], .agg #[.int .i64 k, .int .i64 h, .slice A n c], .func (.func 42) #[] #[]] W' (ByQ R W')) :
    Calls Tryz.prog 66 #[.agg #[.slice As ns cs, .slice Am nm cm, .slice Ac nc cc], .agg #[.int .i64 k, .int .i64 h, .slice A n c]] w (ByQ R w) := by
  obtain ⟨W0, hW⟩ : ∃ W0, (w.alloc (.cells #[.slice As ns cs, .slice Am nm cm, .slice Ac nc cc] 63)).alloc (.cells #[.int .i64 k, .int .i64 h, .slice A n c] 36) = W0 := ⟨_, rfl⟩
  have hb : Below w.heap.size w W0 := by rw [← hW]; exact ((Below.refl _ _).alloc (Nat.le_refl _) _).alloc (by simp) _
  have x0 : Box W0 w.heap.size 63 #[.slice As ns cs, .slice Am nm cm, .slice Ac nc cc] := by rw [← hW]; exact (Box.new _ _ _).alloc _
  have x1 : Box W0 (w.heap.size + 1) 36 #[.int .i64 k, .int .i64 h, .slice A n c] := by rw [← hW]; exact (Box.new (w.alloc _) _ _).at (by simp)
  obtain ⟨c0, c1, c2⟩ := x0.three
  obtain ⟨d0, d1, d2⟩ := x1.three
  have HB := Lib.hid hb
  have HF := Lib.hid (hf W0 hb)
  clear hf hb x0 x1
  go_enter Tryz.func66, Tryz.ntmps66
  go_wp2_with fail
  clear hW
  refine HF.out.mono ?_
  rintro e w1 ⟨rfl, hb1⟩
  have HB1 := Lib.hid (HB.out.trans (hb1.mono HB.out.size))
  clear hb1 HF
  go_wp2_with fail
  go_ret
  exact ⟨rfl, HB1.out⟩
set_option maxRecDepth 100000 in
set_option maxHeartbeats 4000000 in
theorem piKindW {R : Int} {k h : Int} {A : Option Addr} {n c : Nat} {As Am Ac : Option Addr} {ns cs nm cm nc cc : Nat} (w : World) (hf : ∀ W' : World, Below w.heap.size w W' → Calls Tryz.prog 87 #[.agg #[.slice As ns cs, .slice Am nm cm, .slice Ac nc cc], .agg #[.int .i64 k, .int .i64 h, .slice A n c], .func (.func 41) #[] #[]] W' (ByQ R W')) :
    Calls Tryz.prog 65 #[.agg #[.slice As ns cs, .slice Am nm cm, .slice Ac nc cc], .agg #[.int .i64 k, .int .i64 h, .slice A n c]] w (ByQ R w) := by
  obtain ⟨W0, hW⟩ : ∃ W0, (w.alloc (.cells #[.slice As ns cs, .slice Am nm cm, .slice Ac nc cc] 63)).alloc (.cells #[.int .i64 k, .int .i64 h, .slice A n c] 36) = W0 := ⟨_, rfl⟩
  have hb : Below w.heap.size w W0 := by rw [← hW]; exact ((Below.refl _ _).alloc (Nat.le_refl _) _).alloc (by simp) _
  have x0 : Box W0 w.heap.size 63 #[.slice As ns cs, .slice Am nm cm, .slice Ac nc cc] := by rw [← hW]; exact (Box.new _ _ _).alloc _
  have x1 : Box W0 (w.heap.size + 1) 36 #[.int .i64 k, .int .i64 h, .slice A n c] := by rw [← hW]; exact (Box.new (w.alloc _) _ _).at (by simp)
  obtain ⟨c0, c1, c2⟩ := x0.three
  obtain ⟨d0, d1, d2⟩ := x1.three
  have HB := Lib.hid hb
  have HF := Lib.hid (hf W0 hb)
  clear hf hb x0 x1
  go_enter Tryz.func65, Tryz.ntmps65
  go_wp2_with fail
  clear hW
  refine HF.out.mono ?_
  rintro e w1 ⟨rfl, hb1⟩
  have HB1 := Lib.hid (HB.out.trans (hb1.mono HB.out.size))
  clear hb1 HF
  go_wp2_with fail
  go_ret
  exact ⟨rfl, HB1.out⟩
set_option maxRecDepth 100000 in
set_option maxHeartbeats 4000000 in
theorem typW {R : Int} {k h : Int} {A : Option Addr} {n c : Nat} {As Am Ac : Option Addr} {ns cs nm cm nc cc : Nat} (w : World) (hf : ∀ W' : World, Below w.heap.size w W' → Calls Tryz.prog 63 #[.agg #[.slice As ns cs, .slice Am nm cm, .slice Ac nc cc], .agg #[.nilFunc, .func (.func 66) #[] #[], .func (.func 67) #[] #[], .nilFunc, .nilFunc, .nilFunc, .nilFunc], .agg #[.int .i64 k, .int .i64 h, .slice A n c]] W' (ByQ R W')) :
    Calls Tryz.prog 42 #[.agg #[.slice As ns cs, .slice Am nm cm, .slice Ac nc cc], .agg #[.int .i64 k, .int .i64 h, .slice A n c]] w (ByQ R w) := by
  obtain ⟨W0, hW⟩ : ∃ W0, (w.alloc (.cells #[.slice As ns cs, .slice Am nm cm, .slice Ac nc cc] 63)).alloc (.cells #[.int .i64 k, .int .i64 h, .slice A n c] 36) = W0 := ⟨_, rfl⟩
  have hb : Below w.heap.size w W0 := by rw [← hW]; exact ((Below.refl _ _).alloc (Nat.le_refl _) _).alloc (by simp) _
  have x0 : Box W0 w.heap.size 63 #[.slice As ns cs, .slice Am nm cm, .slice Ac nc cc] := by rw [← hW]; exact (Box.new _ _ _).alloc _
  have x1 : Box W0 (w.heap.size + 1) 36 #[.int .i64 k, .int .i64 h, .slice A n c] := by rw [← hW]; exact (Box.new (w.alloc _) _ _).at (by simp)
  obtain ⟨c0, c1, c2⟩ := x0.three
  obtain ⟨d0, d1, d2⟩ := x1.three
  have HB := Lib.hid hb
  have HF := Lib.hid (hf W0 hb)
  clear hf hb x0 x1
  go_enter Tryz.func42, Tryz.ntmps42
  go_wp2_with fail
  clear hW
  refine HF.out.mono ?_
  rintro e w1 ⟨rfl, hb1⟩
  have HB1 := Lib.hid (HB.out.trans (hb1.mono HB.out.size))
  clear hb1 HF
  go_wp2_with fail
  go_ret
  exact ⟨rfl, HB1.out⟩
set_option maxRecDepth 100000 in
set_option maxHeartbeats 4000000 in
theorem kindW {R : Int} {k h : Int} {A : Option Addr} {n c : Nat} {As Am Ac : Option Addr} {ns cs nm cm nc cc : Nat} (w : World) (hf : ∀ W' : World, Below w.heap.size w W' → Calls Tryz.prog 63 #[.agg #[.slice As ns cs, .slice Am nm cm, .slice Ac nc cc], .agg #[.func (.func 64) #[] #[], .func (.func 65) #[] #[], .nilFunc, .nilFunc, .nilFunc, .nilFunc, .nilFunc], .agg #[.int .i64 k, .int .i64 h, .slice A n c]] W' (ByQ R W')) :
    Calls Tryz.prog 41 #[.agg #[.slice As ns cs, .slice Am nm cm, .slice Ac nc cc], .agg #[.int .i64 k, .int .i64 h, .slice A n c]] w (ByQ R w) := by
  obtain ⟨W0, hW⟩ : ∃ W0, (w.alloc (.cells #[.slice As ns cs, .slice Am nm cm, .slice Ac nc cc] 63)).alloc (.cells #[.int .i64 k, .int .i64 h, .slice A n c] 36) = W0 := ⟨_, rfl⟩
  have hb : Below w.heap.size w W0 := by rw [← hW]; exact ((Below.refl _ _).alloc (Nat.le_refl _) _).alloc (by simp) _
  have x0 : Box W0 w.heap.size 63 #[.slice As ns cs, .slice Am nm cm, .slice Ac nc cc] := by rw [← hW]; exact (Box.new _ _ _).alloc _
  have x1 : Box W0 (w.heap.size + 1) 36 #[.int .i64 k, .int .i64 h, .slice A n c] := by rw [← hW]; exact (Box.new (w.alloc _) _ _).at (by simp)
  obtain ⟨c0, c1, c2⟩ := x0.three
  obtain ⟨d0, d1, d2⟩ := x1.three
  have HB := Lib.hid hb
  have HF := Lib.hid (hf W0 hb)
  clear hf hb x0 x1
  go_enter Tryz.func41, Tryz.ntmps41
  go_wp2_with fail
  clear hW
  refine HF.out.mono ?_
  rintro e w1 ⟨rfl, hb1⟩
  have HB1 := Lib.hid (HB.out.trans (hb1.mono HB.out.size))
  clear hb1 HF
  go_wp2_with fail
  go_ret
  exact ⟨rfl, HB1.out⟩
theorem bd_kind {W : WV} {k h : Int} {xs : List T} (b : WkV W (.node k h xs)) : k = 0 ∨ k = 1 ∨ k = 2 ∨ k = 3 ∨ k = 4 ∨ k = 5 ∨ k = 6 := by
  have := kind_cases (nodV b.nod).1
  omega
theorem vTypC (W : WV) (a : T) : TpC 42 (tyV W) W a := by
  induction a using T.ind with
  | step k h xs ih =>
    intro cx As ns cs Am nm cm Ac nc cc k' h' A n c w hE hba hlen hk hv
    obtain ⟨rfl, rfl⟩ : k = k' ∧ h = h' := rdF_kind hv
    refine typW w fun W1 h1 => ?_
    have hk1 := hk.keep h1
    have hv1 := Rd.keep h1 _ _ hv
    rcases bd_kind hba with rfl | rfl | rfl | rfl | rfl | rfl | rfl
    · rw [ty_no W (by omega) (by omega)]; exact byN0 _ _ _ _ _ _ _ _ _ _ _ _ _ _ _ _ _ _ _ _
    · obtain ⟨rfl, x, y, rfl, _, _⟩ := piV hba.nod
      rw [ty_pi]
      refine byPiType _ _ _ _ _ _ _ _ _ _ _ _ _ _ _ _ _ _ _ _ _ fun W2 h2 => piTypeW W2 fun W3 h3 => ?_
      have h23 := h2.trans (h3.mono h2.size)
      exact vPiTC (ih x (by simp)) (ih y (by simp)) cx As ns cs Am nm cm Ac nc cc A n c W3 hE hba hlen (hk1.keep h23) (Rd.keep h23 _ _ hv1)
    · rw [ty_fam]
      refine byFam _ _ _ _ _ _ _ _ _ _ _ _ _ _ _ _ _ _ _ _ _ fun W2 h2 => ?_
      exact vFamC cx As ns cs Am nm cm Ac nc cc A n c W2 hE hba hlen (hk1.keep h2) (Rd.keep h2 _ _ hv1)
    · rw [ty_no W (by omega) (by omega)]; exact byN3 _ _ _ _ _ _ _ _ _ _ _ _ _ _ _ _ _ _ _ _
    · rw [ty_no W (by omega) (by omega)]; exact byN4 _ _ _ _ _ _ _ _ _ _ _ _ _ _ _ _ _ _ _ _
    · rw [ty_no W (by omega) (by omega)]; exact byN5 _ _ _ _ _ _ _ _ _ _ _ _ _ _ _ _ _ _ _ _
    · rw [ty_no W (by omega) (by omega)]; exact byN6 _ _ _ _ _ _ _ _ _ _ _ _ _ _ _ _ _ _ _ _
theorem vKindC (W : WV) (a : T) : TpC 41 (kiV W) W a := by
  induction a using T.ind with
  | step k h xs ih =>
    intro cx As ns cs Am nm cm Ac nc cc k' h' A n c w hE hba hlen hk hv
    obtain ⟨rfl, rfl⟩ : k = k' ∧ h = h' := rdF_kind hv
    refine kindW w fun W1 h1 => ?_
    have hk1 := hk.keep h1
    have hv1 := Rd.keep h1 _ _ hv
    rcases bd_kind hba with rfl | rfl | rfl | rfl | rfl | rfl | rfl
    · rw [ki_sort]
      refine byRight _ _ _ _ _ _ _ _ _ _ _ _ _ _ _ _ _ _ _ _ _ fun W2 h2 => ?_
      exact vRightC W cx .nilFunc .nilFunc W2 _ _ _ _ _ _ _ _ _ _ _ _ _ _
    · obtain ⟨rfl, x, y, rfl, _, _⟩ := piV hba.nod
      rw [ki_pi]
      refine byPiKind _ _ _ _ _ _ _ _ _ _ _ _ _ _ _ _ _ _ _ _ _ fun W2 h2 => piKindW W2 fun W3 h3 => ?_
      have h23 := h2.trans (h3.mono h2.size)
      exact vPiKC (vTypC W x) (ih y (by simp)) cx As ns cs Am nm cm Ac nc cc A n c W3 hE hba hlen (hk1.keep h23) (Rd.keep h23 _ _ hv1)
    · rw [ki_no W (by omega) (by omega)]; exact byN2 _ _ _ _ _ _ _ _ _ _ _ _ _ _ _ _ _ _ _ _
    · rw [ki_no W (by omega) (by omega)]; exact byN3 _ _ _ _ _ _ _ _ _ _ _ _ _ _ _ _ _ _ _ _
    · rw [ki_no W (by omega) (by omega)]; exact byN4 _ _ _ _ _ _ _ _ _ _ _ _ _ _ _ _ _ _ _ _
    · rw [ki_no W (by omega) (by omega)]; exact byN5 _ _ _ _ _ _ _ _ _ _ _ _ _ _ _ _ _ _ _ _
    · rw [ki_no W (by omega) (by omega)]; exact byN6 _ _ _ _ _ _ _ _ _ _ _ _ _ _ _ _ _ _ _ _
/-- what is wrong with a type, and a kind, that is handed in -/
def ckTy (W : WV) (cx : List T) (a : T) : Int := if mayV W cx [a] = true then tyV W a cx else 1
def ckKi (W : WV) (cx : List T) (a : T) : Int := if mayV W cx [a] = true then kiV W a cx else 1
set_option maxRecDepth 100000 in
set_option maxHeartbeats 8000000 in
theorem vCheckTypeW (W : WV) (cx : List T) (m : T) (As : Option Addr) (ns cs : Nat) (Am : Option Addr) (nm cm : Nat) (Ac : Option Addr) (nc cc : Nat) (vm : Value) (w : World) (hk : CkV w W cx As ns cs Am nm cm Ac nc cc) (hm : Rd w m vm)
    (hL : LoV W cx) (hlm : myB m = true → W.ms = [] ∨ okT loV m) :
    Calls Tryz.prog 22 #[.slice As ns cs, .slice Am nm cm, .slice Ac nc cc, vm] w fun e w' => e = .returned (.int .i64 (ckTy W cx m)) ∧ Below w.heap.size w w' := by
  obtain ⟨k, h, A, n, c, rfl⟩ := hm.full
  obtain ⟨W0, hW⟩ : ∃ W0, (w.alloc (.cells #[.int .i64 k, .int .i64 h, .slice A n c] 36)).alloc (.cells #[.slice As ns cs, .slice Am nm cm, .slice Ac nc cc] 63) = W0 := ⟨_, rfl⟩
  have hb : Below w.heap.size w W0 := by rw [← hW]; exact ((Below.refl _ _).alloc (Nat.le_refl _) _).alloc (by simp) _
  have x0 : Box W0 w.heap.size 36 #[.int .i64 k, .int .i64 h, .slice A n c] := by rw [← hW]; exact (Box.new _ _ _).alloc _
  have x2 : Box W0 (w.heap.size + 1) 63 #[.slice As ns cs, .slice Am nm cm, .slice Ac nc cc] := by rw [← hW]; exact (Box.new (w.alloc _) _ _).at (by simp)
  obtain ⟨W4, hW4⟩ : ∃ W4, W0.alloc (.cells #[.int .i64 k, .int .i64 h, .slice A n c] 36) = W4 := ⟨_, rfl⟩
  have hb4 : Below W0.heap.size W0 W4 := by rw [← hW4]; exact (Below.refl _ _).alloc (Nat.le_refl _) _
  have x4 : Box W4 W0.heap.size 36 #[.int .i64 k, .int .i64 h, .slice A n c] := by rw [← hW4]; exact Box.new _ _ _
  have hbw := hb.trans (hb4.mono hb.size)
  have HMY := Lib.hid (vMayC W cx [m] As Am Ac _ ns cs nm cm nc cc 1 1 W4 (hk.keep hbw).sg (hk.keep hbw).ms (hk.keep hbw).cx (clv_one x4 (Rd.keep hbw _ _ hm)))
  have X0 := Lib.hid (x0.keep hb4 x0.lt)
  have X2 := Lib.hid (x2.keep hb4 x2.lt)
  have HB := Lib.hid hbw
  have HTM : Hid (mayV W cx [m] = true → ∀ W' : World, Below W4.heap.size W4 W' → Calls Tryz.prog 42 #[.agg #[.slice As ns cs, .slice Am nm cm, .slice Ac nc cc], .agg #[.int .i64 k, .int .i64 h, .slice A n c]] W' (ByQ (tyV W m cx) W')) := Lib.hid fun hy W' h' => by
    obtain ⟨y1, y2, y3, y4, y5⟩ := (mayV_iff W cx [m]).1 hy
    have ym := y3 m (by simp)
    have hnd := ((myB_iff m).1 ym).2.1
    exact vTypC W m cx As ns cs Am nm cm Ac nc cc _ _ _ _ _ W' (env_of hL hy) ⟨ym, hlm ym⟩ (by omega) (hk.keep (hbw.trans (h'.mono hbw.size))) (Rd.keep (hbw.trans (h'.mono hbw.size)) _ _ hm)
  obtain ⟨c0, c1, c2⟩ := x0.three
  obtain ⟨e0, e1, e2⟩ := x2.three
  have HCT : Hid (ckTy W cx m = if mayV W cx [m] = true then tyV W m cx else 1) := Lib.hid rfl
  generalize ckTy W cx m = R at *
  generalize tyV W m cx = S at *
  clear hk hm hL hlm hb hb4 hbw x0 x2 x4
  generalize mayV W cx [m] = r at *
  go_enter Tryz.func22, Tryz.ntmps22
  go_wp2_with fail
  clear hW hW4
  refine HMY.out.mono ?_
  rintro e w1 ⟨rfl, hb1⟩
  have HB1 := Lib.hid (HB.out.trans (hb1.mono HB.out.size))
  obtain ⟨p0, p1, p2⟩ := (X0.out.keep hb1 X0.out.lt).three
  obtain ⟨s0, s1, s2⟩ := (X2.out.keep hb1 X2.out.lt).three
  cases r
  · have HC := Lib.hid (show 1 = R by rw [HCT.out]; rfl)
    clear hb1 HTM HCT
    go_wp2_with fail
    go_ret
    exact ⟨ret_int HC.out, HB1.out⟩
  · have HC := Lib.hid (show S = R by rw [HCT.out]; rfl)
    have HT := Lib.hid (HTM.out rfl w1 hb1)
    clear hb1 HTM HCT
    go_wp2_with fail
    refine HT.out.mono ?_
    rintro e w3 ⟨rfl, hb3⟩
    have HB3 := Lib.hid (HB1.out.trans (hb3.mono HB1.out.size))
    clear hb3 HT
    go_wp2_with fail
    go_ret
    exact ⟨ret_int HC.out, HB3.out⟩
set_option maxRecDepth 100000 in
set_option maxHeartbeats 8000000 in
theorem vCheckKindW (W : WV) (cx : List T) (m : T) (As : Option Addr) (ns cs : Nat) (Am : Option Addr) (nm cm : Nat) (Ac : Option Addr) (nc cc : Nat) (vm : Value) (w : World) (hk : CkV w W cx As ns cs Am nm cm Ac nc cc) (hm : Rd w m vm)
    (hL : LoV W cx) (hlm : myB m = true → W.ms = [] ∨ okT loV m) :
    Calls Tryz.prog 21 #[.slice As ns cs, .slice Am nm cm, .slice Ac nc cc, vm] w fun e w' => e = .returned (.int .i64 (ckKi W cx m)) ∧ Below w.heap.size w w' := by
  obtain ⟨k, h, A, n, c, rfl⟩ := hm.full
  obtain ⟨W0, hW⟩ : ∃ W0, (w.alloc (.cells #[.int .i64 k, .int .i64 h, .slice A n c] 36)).alloc (.cells #[.slice As ns cs, .slice Am nm cm, .slice Ac nc cc] 63) = W0 := ⟨_, rfl⟩
  have hb : Below w.heap.size w W0 := by rw [← hW]; exact ((Below.refl _ _).alloc (Nat.le_refl _) _).alloc (by simp) _
  have x0 : Box W0 w.heap.size 36 #[.int .i64 k, .int .i64 h, .slice A n c] := by rw [← hW]; exact (Box.new _ _ _).alloc _
  have x2 : Box W0 (w.heap.size + 1) 63 #[.slice As ns cs, .slice Am nm cm, .slice Ac nc cc] := by rw [← hW]; exact (Box.new (w.alloc _) _ _).at (by simp)
  obtain ⟨W4, hW4⟩ : ∃ W4, W0.alloc (.cells #[.int .i64 k, .int .i64 h, .slice A n c] 36) = W4 := ⟨_, rfl⟩
  have hb4 : Below W0.heap.size W0 W4 := by rw [← hW4]; exact (Below.refl _ _).alloc (Nat.le_refl _) _
  have x4 : Box W4 W0.heap.size 36 #[.int .i64 k, .int .i64 h, .slice A n c] := by rw [← hW4]; exact Box.new _ _ _
  have hbw := hb.trans (hb4.mono hb.size)
  have HMY := Lib.hid (vMayC W cx [m] As Am Ac _ ns cs nm cm nc cc 1 1 W4 (hk.keep hbw).sg (hk.keep hbw).ms (hk.keep hbw).cx (clv_one x4 (Rd.keep hbw _ _ hm)))
  have X0 := Lib.hid (x0.keep hb4 x0.lt)
  have X2 := Lib.hid (x2.keep hb4 x2.lt)
  have HB := Lib.hid hbw
  have HTM : Hid (mayV W cx [m] = true → ∀ W' : World, Below W4.heap.size W4 W' → Calls Tryz.prog 41 #[.agg #[.slice As ns cs, .slice Am nm cm, .slice Ac nc cc], .agg #[.int .i64 k, .int .i64 h, .slice A n c]] W' (ByQ (kiV W m cx) W')) := Lib.hid fun hy W' h' => by
    obtain ⟨y1, y2, y3, y4, y5⟩ := (mayV_iff W cx [m]).1 hy
    have ym := y3 m (by simp)
    have hnd := ((myB_iff m).1 ym).2.1
    exact vKindC W m cx As ns cs Am nm cm Ac nc cc _ _ _ _ _ W' (env_of hL hy) ⟨ym, hlm ym⟩ (by omega) (hk.keep (hbw.trans (h'.mono hbw.size))) (Rd.keep (hbw.trans (h'.mono hbw.size)) _ _ hm)
  obtain ⟨c0, c1, c2⟩ := x0.three
  obtain ⟨e0, e1, e2⟩ := x2.three
  have HCT : Hid (ckKi W cx m = if mayV W cx [m] = true then kiV W m cx else 1) := Lib.hid rfl
  generalize ckKi W cx m = R at *
  generalize kiV W m cx = S at *
  clear hk hm hL hlm hb hb4 hbw x0 x2 x4
  generalize mayV W cx [m] = r at *
  go_enter Tryz.func21, Tryz.ntmps21
  go_wp2_with fail
  clear hW hW4
  refine HMY.out.mono ?_
  rintro e w1 ⟨rfl, hb1⟩
  have HB1 := Lib.hid (HB.out.trans (hb1.mono HB.out.size))
  obtain ⟨p0, p1, p2⟩ := (X0.out.keep hb1 X0.out.lt).three
  obtain ⟨s0, s1, s2⟩ := (X2.out.keep hb1 X2.out.lt).three
  cases r
  · have HC := Lib.hid (show 1 = R by rw [HCT.out]; rfl)
    clear hb1 HTM HCT
    go_wp2_with fail
    go_ret
    exact ⟨ret_int HC.out, HB1.out⟩
  · have HC := Lib.hid (show S = R by rw [HCT.out]; rfl)
    have HT := Lib.hid (HTM.out rfl w1 hb1)
    clear hb1 HTM HCT
    go_wp2_with fail
    refine HT.out.mono ?_
    rintro e w3 ⟨rfl, hb3⟩
    have HB3 := Lib.hid (HB1.out.trans (hb3.mono HB1.out.size))
    clear hb3 HT
    go_wp2_with fail
    go_ret
    exact ⟨ret_int HC.out, HB3.out⟩
theorem vCheckTypeC (W : WV) (cx : List T) (m : T) (As : Option Addr) (ns cs : Nat) (Am : Option Addr) (nm cm : Nat) (Ac : Option Addr) (nc cc : Nat) (vm : Value) (w : World) (hk : CkV w W cx As ns cs Am nm cm Ac nc cc) (hm : Rd w m vm)
    (hL : LoV W cx) (hlm : myB m = true → okT loV m) :
    Calls Tryz.prog 22 #[.slice As ns cs, .slice Am nm cm, .slice Ac nc cc, vm] w fun e w' => e = .returned (.int .i64 (ckTy W cx m)) ∧ Below w.heap.size w w' :=
  vCheckTypeW W cx m As ns cs Am nm cm Ac nc cc vm w hk hm hL fun h => .inr (hlm h)
theorem vCheckKindC (W : WV) (cx : List T) (m : T) (As : Option Addr) (ns cs : Nat) (Am : Option Addr) (nm cm : Nat) (Ac : Option Addr) (nc cc : Nat) (vm : Value) (w : World) (hk : CkV w W cx As ns cs Am nm cm Ac nc cc) (hm : Rd w m vm)
    (hL : LoV W cx) (hlm : myB m = true → okT loV m) :
    Calls Tryz.prog 21 #[.slice As ns cs, .slice Am nm cm, .slice Ac nc cc, vm] w fun e w' => e = .returned (.int .i64 (ckKi W cx m)) ∧ Below w.heap.size w w' :=
  vCheckKindW W cx m As ns cs Am nm cm Ac nc cc vm w hk hm hL fun h => .inr (hlm h)
end Go.Proofs.YtmkahbbcagfbhaaGreatDoor
/-
  Package world, plain; contracts of first, given those of the closures that it is handed. No statement is proved here.
-/
namespace Go.Proofs.YtmkahbbcagfbhaaGreatDoor
open Go.ChangeShapes Go.WideShapes Go.ChangeAt Go.RowKit
set_option linter.unusedVariables false
/-- what goes wrong first, and where -/
def fiV (g : List T → T → Int) : List T → List T → Nat × Int
  | _, [] => (0, 0)
  | dn, x :: xs => if g dn x = 0 then fiV g (dn ++ [x]) xs else (dn.length, g dn x)
def firV (g : List T → T → Int) (l : List T) : Nat × Int := if 40 < l.length then (0, 4) else fiV g [] l
/-- what is wrong with a declaration, an entry, a type of a schema -/
def sgW (ah : List T) (d : T) : Int := if kiB d = true then ckKi ⟨ah, []⟩ [] d else ckTy ⟨ah, []⟩ [] d
theorem take_snocY {α : Type} {l : List α} {j : Nat} {x : α} (h : l[j]? = some x) : l.take (j + 1) = l.take j ++ [x] := by rw [List.take_add_one, h]; rfl
theorem fi_go {g : List T → T → Int} {l : List T} {j : Nat} {x : T} (h : l[j]? = some x) (h0 : g (l.take j) x = 0) : fiV g (l.take j) (l.drop j) = fiV g (l.take (j + 1)) (l.drop (j + 1)) := by
  rw [drop_at h, fiV, if_pos h0, take_snocY h]
theorem fi_e {g : List T → T → Int} {l : List T} {j : Nat} {x : T} {e : Int} (h : l[j]? = some x) (h0 : g (l.take j) x = e) (he : e ≠ 0) : fiV g (l.take j) (l.drop j) = (j, e) := by
  have hl := (List.getElem?_eq_some_iff.1 h).1
  rw [drop_at h, fiV, if_neg (by rw [h0]; exact he), h0, List.length_take, Nat.min_eq_left (by omega)]
theorem DL.take {w : World} {ds : List T} {A : Option Addr} {n c i : Nat} (h : DL w ds A n c) (hi : i ≤ n) : DL w (ds.take i) A i c :=
  ⟨by rw [List.length_take, h.len]; omega, by have := h.le; omega, h.cap, fun j x hx => h.at_ j x (by
    by_cases hj : j < i
    · rwa [List.getElem?_take_of_lt hj] at hx
    · rw [List.getElem?_eq_none (by rw [List.length_take]; omega)] at hx; cases hx)⟩
theorem CLV.take {w : World} {ds : List T} {A : Option Addr} {n c i : Nat} (h : CLV w ds A n c) (hi : i ≤ n) : CLV w (ds.take i) A i c :=
  ⟨by rw [List.length_take, h.len]; omega, by have := h.le; omega, h.cap, fun j x hx => h.at_ j x (by
    by_cases hj : j < i
    · rwa [List.getElem?_take_of_lt hj] at hx
    · rw [List.getElem?_eq_none (by rw [List.length_take]; omega)] at hx; cases hx)⟩
def FiE (r : Nat × Int) (w : World) (e : Ending) (w' : World) : Prop := e = .returned (.tuple #[.int .i64 (r.1 : Int), .int .i64 r.2]) ∧ Below w.heap.size w w'
theorem FiE.of {r : Nat × Int} {w w' : World} {i : Nat} {e : Int} (h : r = (i, e)) (hb : Below w.heap.size w w') : FiE r w (.returned (.tuple #[.int .i64 (i : Int), .int .i64 e])) w' := by subst h; exact ⟨rfl, hb⟩
theorem FiE.of0 {r : Nat × Int} {w w' : World} {e : Int} (h : r = (0, e)) (hb : Below w.heap.size w w') : FiE r w (.returned (.tuple #[.int .i64 0, .int .i64 e])) w' := by subst h; exact ⟨rfl, hb⟩
set_option maxRecDepth 100000 in
set_option maxHeartbeats 4000000 in
theorem yFirstD (g : List T → T → Int) (ds : List T) (A : Option Addr) (n c : Nat) (w : World) (hx : DL w ds A n c)
    (HF : ∀ (i : Nat) (x : T) (s : ByteArray) (k h : Int) (A2 : Option Addr) (n2 c2 : Nat) (W : World), ds[i]? = some x → Below w.heap.size w W → Rd W x (.agg #[.int .i64 k, .int .i64 h, .slice A2 n2 c2]) → DL W (ds.take i) A i c → Calls Tryz.prog 19 #[.slice A i c, .agg #[.string s, .int .i64 k, .int .i64 h, .slice A2 n2 c2]] W fun e w' => e = .returned (.int .i64 (g (ds.take i) x)) ∧ Below W.heap.size W w') :
    Calls Tryz.prog 18 #[.slice A n c, .func (.func 19) #[] #[]] w (FiE (firV g ds) w) := by
  have hm := hx.cap
  have hc := hx.le
  unfold maxLen at hm
  have HX := Lib.hid hx; clear hx
  replace HF := Lib.hid HF
  by_cases hbig : 40 < n
  · have d1 : decide ((40 : Int) < (n : Int)) = true := by simp; omega
    have HE := Lib.hid (show firV g ds = (0, 4) by unfold firV; rw [if_pos (by rw [HX.out.len]; omega)])
    go_enter Tryz.func18, Tryz.ntmps18
    go_wp2_with fail
    refine bodyPost_ret (v := .tuple #[.int .i64 0, .int .i64 4]) (by simp [results, Tryz.results18, go_sem]) rfl ?_
    exact FiE.of0 HE.out (Below.refl _ _)
  have d1 : decide ((40 : Int) < (n : Int)) = false := by simp; omega
  have HE := Lib.hid (show firV g ds = fiV g [] ds by unfold firV; rw [if_neg (by rw [HX.out.len]; omega)])
  go_enter Tryz.func18, Tryz.ntmps18
  go_wp2_with fail
  go_loopw [14] (fun i wr => ∃ (j : Nat), j ≤ n ∧ i = .int .i64 j ∧ Hid (fiV g (ds.take j) (ds.drop j) = fiV g [] ds) ∧ Hid (Below w.heap.size w wr)) (fun i _ => n - (Go.RowKit.intOf i).toNat)
  case atStart => exact ⟨0, Nat.zero_le _, rfl, Lib.hid (by simp), Lib.hid (Below.refl _ _)⟩
  case round =>
    obtain ⟨j, hj, rfl, HS, HB⟩ := hrel
    by_cases hlt : j < n
    · obtain ⟨x, ht⟩ := at_of HX.out.len hlt
      obtain ⟨b, o, s, k2, h2, A2, n2, c2', rfl, c0, c1, c2, c3, hr⟩ := (HX.out.at_ j x ht).keep HB.out
      have hi0 : (0 : Int) ≤ j := by omega
      have hi1 : (j : Int) < n := by omega
      have hi2 : (j : Int) ≤ c := by omega
      obtain ⟨W1, hW1⟩ : ∃ W1, wr.alloc (.cells #[.string s, .int .i64 k2, .int .i64 h2, .slice A2 n2 c2'] 46) = W1 := ⟨_, rfl⟩
      have hbA : Below wr.heap.size wr W1 := by rw [← hW1]; exact (Below.refl _ _).alloc (Nat.le_refl _) _
      have z5 : Box W1 wr.heap.size 46 #[.string s, .int .i64 k2, .int .i64 h2, .slice A2 n2 c2'] := by rw [← hW1]; exact Box.new _ _ _
      have hbw := HB.out.trans (hbA.mono HB.out.size)
      obtain ⟨e1, he1⟩ : ∃ e, g (ds.take j) x = e := ⟨_, rfl⟩
      have HC := fun (W' : World) (h' : Below W1.heap.size W1 W') => HF.out j x s k2 h2 A2 n2 c2' W' ht (hbw.trans (h'.mono hbw.size)) (Rd.keep (hbA.trans (h'.mono hbA.size)) _ _ hr) ((HX.out.take (by omega)).keep (hbw.trans (h'.mono hbw.size)))
      rw [he1] at HC
      replace HC := Lib.hid HC
      have HE1 := Lib.hid he1; clear he1
      have HT := Lib.hid ht; clear ht
      have HBW := Lib.hid hbw; clear hbw
      have a0 : W1.cell? ⟨wr.heap.size, 0, none⟩ = some (.string s) := z5.cell 0
      have a1 : W1.cell? ⟨wr.heap.size, 1, none⟩ = some (.int .i64 k2) := z5.cell 1
      have a2 : W1.cell? ⟨wr.heap.size, 2, none⟩ = some (.int .i64 h2) := z5.cell 2
      have a3 : W1.cell? ⟨wr.heap.size, 3, none⟩ = some (.slice A2 n2 c2') := z5.cell 3
      clear hr hbA z5
      have HW1 := Lib.hid hW1; clear hW1
      go_wp2_with fail
      try rw [HW1.out]
      have HKS : Hid (∀ w' : World, Below W1.heap.size W1 w' → (fun w' => w'.cell? ⟨wr.heap.size, 0, none⟩ = some (.string s) ∧ w'.cell? ⟨wr.heap.size, 1, none⟩ = some (.int .i64 k2) ∧ w'.cell? ⟨wr.heap.size, 2, none⟩ = some (.int .i64 h2) ∧ w'.cell? ⟨wr.heap.size, 3, none⟩ = some (.slice A2 n2 c2')) w') := Lib.hid fun w' h => ⟨(h.cell (cell_lt a0)).trans a0, (h.cell (cell_lt a1)).trans a1, (h.cell (cell_lt a2)).trans a2, (h.cell (cell_lt a3)).trans a3⟩
      have hbd : Below W1.heap.size W1 W1.drew := (Below.refl _ W1).drew
      refine wp_region_held_drew (S := fun w' => w'.cell? ⟨wr.heap.size, 0, none⟩ = some (.string s) ∧ w'.cell? ⟨wr.heap.size, 1, none⟩ = some (.int .i64 k2) ∧ w'.cell? ⟨wr.heap.size, 2, none⟩ = some (.int .i64 h2) ∧ w'.cell? ⟨wr.heap.size, 3, none⟩ = some (.slice A2 n2 c2')) (by kernel_rfl) (HKS.out _ hbd) (fun hS => ?_)
      simp only [List.size_toArray, List.length_cons, List.length_nil, Nat.reduceAdd]
      refine wpAnyH_take (i := 0) (v := .func (.func 19) #[] #[]) rfl (by kernel_rfl) (by kernel_rfl) (by kernel_rfl) (fun _ _ _ h => h) (Or.inl ⟨by kernel_rfl, ?_⟩) hS ?_
      · intro w' hSw
        obtain ⟨s0, s1, s2, s3⟩ := hSw
        go_simp
      try simp only [Act.put, List.setIfInBounds_toArray]
      refine wpAnyH_take (i := 1) (v := .slice (some ⟨b, o, none⟩) n c) rfl (by kernel_rfl) (by kernel_rfl) (by kernel_rfl) (fun _ _ _ h => h) (Or.inl ⟨by kernel_rfl, ?_⟩) hS ?_
      · intro w' hSw
        obtain ⟨s0, s1, s2, s3⟩ := hSw
        go_simp
      try simp only [Act.put]
      refine wpAnyH_take (i := 2) (v := .int .i64 j) rfl (by kernel_rfl) (by kernel_rfl) (by kernel_rfl) (fun _ _ _ h => h) (Or.inl ⟨by kernel_rfl, ?_⟩) hS ?_
      · intro w' hSw
        obtain ⟨s0, s1, s2, s3⟩ := hSw
        go_simp
      try simp only [Act.put]
      refine wpAnyH_take (i := 3) (v := .slice (some ⟨b, o, none⟩) j c) rfl (by kernel_rfl) (by kernel_rfl) (by kernel_rfl) (fun _ _ _ h => h) (Or.inl ⟨by kernel_rfl, ?_⟩) hS ?_
      · intro w' hSw
        obtain ⟨s0, s1, s2, s3⟩ := hSw
        go_simp
      try simp only [Act.put]
      refine wpAnyH_take (i := 4) (v := .agg #[.string s, .int .i64 k2, .int .i64 h2, .slice A2 n2 c2']) rfl (by kernel_rfl) (by kernel_rfl) (by kernel_rfl) (fun _ _ _ h => h) (Or.inl ⟨by kernel_rfl, ?_⟩) hS ?_
      · intro w' hSw
        obtain ⟨s0, s1, s2, s3⟩ := hSw
        go_simp
      try simp only [Act.put]
      refine wpAnyH_ready (rs := [5]) (by kernel_rfl) (by simp) ?_
      refine AllReadyH.cons rfl (fun KN hK => ?_) AllReadyH.nil
      go_simp
      refine (HC.out W1.drew hbd).mono ?_
      rintro e w1 ⟨rfl, hb8⟩
      have hb8' : Below W1.heap.size W1 w1 := hbd.trans (hb8.mono hbd.size)
      refine hK.out _ _ (HKS.out _ hb8') (fun hS => ?_)
      clear hK KN
      try simp only [Act.put, List.setIfInBounds_toArray, List.set_cons_zero, List.set_cons_succ]
      refine wpAnyH_take (i := 6) (v := .int .i64 e1) rfl (by kernel_rfl) (by kernel_rfl) (by kernel_rfl) (fun _ _ _ h => h) (Or.inl ⟨by kernel_rfl, ?_⟩) hS ?_
      · intro w' hSw
        obtain ⟨s0, s1, s2, s3⟩ := hSw
        go_simp
      try simp only [Act.put, List.setIfInBounds_toArray]
      refine wpAnyH_done (by kernel_rfl) ?_ _
      try simp only [List.setIfInBounds_toArray]
      try simp only [List.getElem_toArray, List.getElem_cons_succ, List.getElem_cons_zero, List.set_cons_zero, List.set_cons_succ]
      have HB1 := Lib.hid (HBW.out.trans (hb8'.mono HBW.out.size))
      clear hb8 hb8' HC HBW HKS hS hbd a0 a1 a2 a3 c0 c1 c2 c3
      by_cases hz : e1 = 0
      case' neg =>
        have d2 : (e1 != 0) = true := by simpa using hz
        have HQ := Lib.hid (HE.out.trans (HS.out.symm.trans (fi_e HT.out HE1.out hz)))
        go_wp2_with fail
        refine bodyPost_ret (v := .tuple #[.int .i64 j, .int .i64 e1]) (by simp [results, Tryz.results18, go_sem]) rfl ?_
        exact FiE.of HQ.out HB1.out
      subst hz
      have HQ := Lib.hid ((fi_go HT.out HE1.out).symm.trans HS.out)
      go_wp2_with fail
      go_roundw
      case rel => exact ⟨j + 1, by omega, by go_num, HQ, HB1⟩
      case measure => simp [Go.RowKit.intOf]; omega
    · have HQ := Lib.hid (show firV g ds = (0, 0) by rw [HE.out, ← HS.out, drop_all HX.out.len (by omega), fiV])
      go_wp2_with fail
      refine bodyPost_ret (v := .tuple #[.int .i64 0, .int .i64 0]) (by simp [results, Tryz.results18, go_sem]) rfl ?_
      exact FiE.of0 HQ.out HB.out
end Go.Proofs.YtmkahbbcagfbhaaGreatDoor
/-
  Contracts of package world. No statement is proved here.
-/
namespace Go.Proofs.YtmkahbbcagfbhaaGreatDoor
open Go.ChangeShapes Go.WideShapes Go.ChangeAt Go.RowKit
set_option linter.unusedVariables false
/-! ### Conforms -/
end Go.Proofs.YtmkahbbcagfbhaaGreatDoor
/-
  Contracts of package world's Sig, Ctx and Schema. No statement is proved here.
-/
namespace Go.Proofs.YtmkahbbcagfbhaaGreatDoor
open Go.ChangeShapes Go.WideShapes Go.ChangeAt Go.RowKit
set_option linter.unusedVariables false
theorem ml_nil (w : World) : ML w [] none 0 0 := ⟨rfl, Nat.le_refl _, Nat.zero_le _, fun i x hx => by simp at hx⟩
theorem clv_nil (w : World) (A : Option Addr) (c : Nat) (hc : c ≤ maxLen) : CLV w [] A 0 c := ⟨rfl, Nat.zero_le _, hc, fun i x hx => by simp at hx⟩
/-- all that may be has low Heads -/
def LwV (l : List T) : Prop := ∀ t ∈ l, myB t = true → okT loV t
theorem LwV.take {l : List T} (h : LwV l) (i : Nat) : LwV (l.take i) := fun t ht => h t (List.mem_of_mem_take ht)
theorem LwV.at_ {l : List T} (h : LwV l) {i : Nat} {x : T} (hx : l[i]? = some x) : myB x = true → okT loV x := h x (List.mem_of_getElem? hx)
theorem LwV.app {l m : List T} (h : LwV l) (k : LwV m) : LwV (l ++ m) := fun t ht => by
  rcases List.mem_append.1 ht with ht | ht
  · exact h t ht
  · exact k t ht
theorem LwV.nil : LwV [] := fun t ht => by cases ht
theorem lo_sg {ah : List T} (h : LwV ah) : LoV ⟨ah, []⟩ [] := ⟨h, (fun m hm => by cases hm), (fun t ht => by cases ht)⟩
set_option maxRecDepth 100000 in
set_option maxHeartbeats 2000000 in
theorem ySig1C (ah : List T) (d : T) (A : Option Addr) (i c : Nat) (s : ByteArray) (k h : Int) (A2 : Option Addr) (n2 c2 : Nat) (w : World) (hx : DL w ah A i c) (hd : Rd w d (.agg #[.int .i64 k, .int .i64 h, .slice A2 n2 c2])) (hl : LwV ah) (hld : myB d = true → okT loV d) :
    Calls Tryz.prog 19 #[.slice A i c, .agg #[.string s, .int .i64 k, .int .i64 h, .slice A2 n2 c2]] w fun e w' => e = .returned (.int .i64 (sgW ah d)) ∧ Below w.heap.size w w' := by
  obtain ⟨W, hW⟩ : ∃ W, w.alloc (.cells #[.string s, .int .i64 k, .int .i64 h, .slice A2 n2 c2] 46) = W := ⟨_, rfl⟩
  have hb : Below w.heap.size w W := by rw [← hW]; exact (Below.refl _ _).alloc (Nat.le_refl _) _
  have z5 : Box W w.heap.size 46 #[.string s, .int .i64 k, .int .i64 h, .slice A2 n2 c2] := by rw [← hW]; exact Box.new _ _ _
  have a1 : W.cell? ⟨w.heap.size, 1, none⟩ = some (.int .i64 k) := z5.cell 1
  have a2 : W.cell? ⟨w.heap.size, 2, none⟩ = some (.int .i64 h) := z5.cell 2
  have a3 : W.cell? ⟨w.heap.size, 3, none⟩ = some (.slice A2 n2 c2) := z5.cell 3
  have HK := Lib.hid (kindC d _ W (Rd.keep hb _ _ hd))
  have HC : ∀ W', Below W.heap.size W W' → CkV W' ⟨ah, []⟩ [] A i c none 0 0 none 0 0 := fun W' h' => ⟨(hx.keep hb).keep h', ml_nil _, clv_nil _ _ _ (Nat.zero_le _)⟩
  have HCK := Lib.hid (fun W' (h' : Below W.heap.size W W') => vCheckKindC ⟨ah, []⟩ [] d A i c none 0 0 none 0 0 _ W' (HC W' h') (Rd.keep h' _ _ (Rd.keep hb _ _ hd)) (lo_sg hl) hld)
  have HCT := Lib.hid (fun W' (h' : Below W.heap.size W W') => vCheckTypeC ⟨ah, []⟩ [] d A i c none 0 0 none 0 0 _ W' (HC W' h') (Rd.keep h' _ _ (Rd.keep hb _ _ hd)) (lo_sg hl) hld)
  have HB := Lib.hid hb
  have HE := Lib.hid (show sgW ah d = if kiB d = true then ckKi ⟨ah, []⟩ [] d else ckTy ⟨ah, []⟩ [] d from rfl)
  clear HC hx hd hl hld z5 hb
  generalize sgW ah d = R at *
  generalize ckKi ⟨ah, []⟩ [] d = R1 at *
  generalize ckTy ⟨ah, []⟩ [] d = R2 at *
  generalize kiB d = r at *
  go_enter Tryz.func19, Tryz.ntmps19
  go_wp2_with fail
  try rw [hW]
  go_wp2_with fail
  refine HK.out.mono ?_
  rintro e w1 ⟨rfl, hb1⟩
  replace a1 := (hb1.cell (cell_lt a1)).trans a1
  replace a2 := (hb1.cell (cell_lt a2)).trans a2
  replace a3 := (hb1.cell (cell_lt a3)).trans a3
  have HB1 := Lib.hid (HB.out.trans (hb1.mono HB.out.size))
  cases r
  · have HF := Lib.hid (HCT.out w1 hb1)
    have HQ := Lib.hid (show R2 = R by rw [HE.out]; rfl)
    clear hb1 HK HCK HCT HE
    go_wp2_with fail
    refine HF.out.mono ?_
    rintro e w2 ⟨rfl, hb2⟩
    have HB2 := Lib.hid (HB1.out.trans (hb2.mono HB1.out.size))
    clear hb2 a1 a2 a3
    go_wp2_with fail
    go_ret
    exact ⟨ret_int HQ.out, HB2.out⟩
  · have HF := Lib.hid (HCK.out w1 hb1)
    have HQ := Lib.hid (show R1 = R by rw [HE.out]; rfl)
    clear hb1 HK HCK HCT HE
    go_wp2_with fail
    refine HF.out.mono ?_
    rintro e w2 ⟨rfl, hb2⟩
    have HB2 := Lib.hid (HB1.out.trans (hb2.mono HB1.out.size))
    clear hb2 a1 a2 a3
    go_wp2_with fail
    go_ret
    exact ⟨ret_int HQ.out, HB2.out⟩
/-- what Sig tells -/
def siV (sg : List T) : Nat × Int := firV sgW sg
theorem ySigC (sg : List T) (A : Option Addr) (n c : Nat) (w : World) (hx : DL w sg A n c) (hl : LwV sg) :
    Calls Tryz.prog 8 #[.slice A n c] w (FiE (siV sg) w) := by
  have HF := Lib.hid (yFirstD sgW sg A n c w hx fun i x s k h A2 n2 c2 W hi hb hr hd => ySig1C (sg.take i) x A i c s k h A2 n2 c2 W hd hr (hl.take i) (hl.at_ hi))
  clear hx hl
  rw [siV]
  generalize firV sgW sg = R at *
  go_enter Tryz.func8, Tryz.ntmps8
  go_wp2_with fail
  refine HF.out.mono ?_
  rintro e w1 ⟨rfl, hb1⟩
  have HB1 := Lib.hid hb1; clear hb1
  go_wp2_with fail
  refine bodyPost_ret (v := .tuple #[.int .i64 (R.1 : Int), .int .i64 R.2]) (by simp [results, Tryz.results8, go_sem]) rfl ?_
  exact ⟨rfl, HB1.out⟩
end Go.Proofs.YtmkahbbcagfbhaaGreatDoor
/-
  The document's Same of declarations, at a list and one that is the same. No statement is proved here.
-/
namespace Go.Proofs.YtmkahbbcagfbhaaGreatDoor
open Go.ChangeShapes Go.WideShapes Go.ChangeAt Go.RowKit
set_option linter.unusedVariables false
set_option maxRecDepth 100000 in
set_option maxHeartbeats 4000000 in
theorem pSameC (ds : List (ByteArray × T)) (A B : Option Addr) (n c d : Nat) (w : World) (hx : DS w ds A n c) (hy : DS w ds B n d) :
    Calls Tryz.prog 11 #[.slice A n c, .slice B n d] w fun e w' => e = .returned (.bool true) ∧ Below w.heap.size w w' := by
  have hm := hx.cap
  have hc := hx.le
  have hm' := hy.cap
  have hc' := hy.le
  have hln := hx.len
  unfold maxLen at hm hm'
  have HX := Lib.hid hx
  have HY := Lib.hid hy
  clear hx hy
  go_enter Tryz.func11, Tryz.ntmps11
  go_wp2_with fail
  go_loopw [5] (fun i wr => ∃ (j : Nat), j ≤ n ∧ i = .int .i64 j ∧ Hid (Below w.heap.size w wr)) (fun i _ => n - (Go.RowKit.intOf i).toNat)
  case atStart => exact ⟨0, Nat.zero_le _, rfl, Lib.hid (Below.refl _ _)⟩
  case round =>
    obtain ⟨j, hj, rfl, HBr⟩ := hrel
    by_cases hlt : j < n
    · obtain ⟨x, hx⟩ := at_ofX hln hlt
      obtain ⟨b1, o1, k1, g1, A1, n1, c1, hA, e0, e1, e2, e3, hr1⟩ := (HX.out.keep HBr.out).at_ j x hx
      obtain ⟨b2, o2, k2, g2, A2, n2, c2, hB, f0, f1, f2, f3, hr2⟩ := (HY.out.keep HBr.out).at_ j x hx
      subst hA
      subst hB
      have hi0 : (0 : Int) ≤ (j : Int) := by omega
      have hi1 : (j : Int) < (n : Int) := by omega
      have HC := Lib.hid (fun (W : World) (hb : Below wr.heap.size wr W) => by
        have := refSame x.2 x.2 _ _ W (Rd.keep hb _ _ hr1) (Rd.keep hb _ _ hr2)
        rw [sam_refl] at this
        exact this)
      have hq : (x.1.toList == x.1.toList) = true := by simp
      clear hr1 hr2 hx
      go_wp2_with fail
      have HKS : Hid (∀ w' : World, Below wr.heap.size wr w' → (fun w' => w'.cell? ⟨b1, o1 + j * 4 + 1, none⟩ = some (.int .i64 k1) ∧ w'.cell? ⟨b1, o1 + j * 4 + 2, none⟩ = some (.int .i64 g1) ∧ w'.cell? ⟨b1, o1 + j * 4 + 3, none⟩ = some (.slice A1 n1 c1) ∧ w'.cell? ⟨b2, o2 + j * 4 + 1, none⟩ = some (.int .i64 k2) ∧ w'.cell? ⟨b2, o2 + j * 4 + 2, none⟩ = some (.int .i64 g2) ∧ w'.cell? ⟨b2, o2 + j * 4 + 3, none⟩ = some (.slice A2 n2 c2)) w') := Lib.hid fun w' h => ⟨(h.cell (cell_ltX e1)).trans e1, (h.cell (cell_ltX e2)).trans e2, (h.cell (cell_ltX e3)).trans e3, (h.cell (cell_ltX f1)).trans f1, (h.cell (cell_ltX f2)).trans f2, (h.cell (cell_ltX f3)).trans f3⟩
      have hbd : Below wr.heap.size wr wr.drew := (Below.refl _ wr).drew
      refine zzR HKS hbd (fun hS => ?_)
      simp only [List.size_toArray, List.length_cons, List.length_nil, Nat.reduceAdd]
      refine wpAnyH_take (i := 0) (v := .slice (some ⟨b1, o1, none⟩) n c) rfl (by kernel_rfl) (by kernel_rfl) (by kernel_rfl) (fun _ _ _ h => h) (Or.inl ⟨by kernel_rfl, ?_⟩) hS ?_
      · intro w' hSw
        obtain ⟨s0, s1, s2, s3, s4, s5⟩ := hSw
        go_simp
      try simp only [Act.put, List.getElem_toArray, List.getElem_cons_zero, List.setIfInBounds_toArray, List.set_cons_zero, List.set_cons_succ]
      refine wpAnyH_take (i := 1) (v := .int .i64 j) rfl (by kernel_rfl) (by kernel_rfl) (by kernel_rfl) (fun _ _ _ h => h) (Or.inl ⟨by kernel_rfl, ?_⟩) hS ?_
      · intro w' hSw
        obtain ⟨s0, s1, s2, s3, s4, s5⟩ := hSw
        go_simp
      try simp only [Act.put, List.getElem_toArray, List.getElem_cons_succ, List.getElem_cons_zero, List.setIfInBounds_toArray, List.set_cons_zero, List.set_cons_succ]
      refine wpAnyH_take (i := 2) (v := .pointer (some ⟨b1, o1 + j * 4, none⟩)) rfl (by kernel_rfl) (by kernel_rfl) (by kernel_rfl) (fun _ _ _ h => h) (Or.inl ⟨by kernel_rfl, ?_⟩) hS ?_
      · intro w' hSw
        obtain ⟨s0, s1, s2, s3, s4, s5⟩ := hSw
        go_simp
      try simp only [Act.put, List.getElem_toArray, List.getElem_cons_succ, List.getElem_cons_zero, List.setIfInBounds_toArray, List.set_cons_zero, List.set_cons_succ]
      refine wpAnyH_take (i := 3) (v := .pointer (some ⟨b1, o1 + j * 4 + 1, none⟩)) rfl (by kernel_rfl) (by kernel_rfl) (by kernel_rfl) (fun _ _ _ h => h) (Or.inl ⟨by kernel_rfl, ?_⟩) hS ?_
      · intro w' hSw
        obtain ⟨s0, s1, s2, s3, s4, s5⟩ := hSw
        go_simp
      try simp only [Act.put, List.getElem_toArray, List.getElem_cons_succ, List.getElem_cons_zero, List.setIfInBounds_toArray, List.set_cons_zero, List.set_cons_succ]
      refine wpAnyH_take (i := 4) (v := .agg #[.int .i64 k1, .int .i64 g1, .slice A1 n1 c1]) rfl (by kernel_rfl) (by kernel_rfl) (by kernel_rfl) (fun _ _ _ h => h) (Or.inl ⟨by kernel_rfl, ?_⟩) hS ?_
      · intro w' hSw
        obtain ⟨s0, s1, s2, s3, s4, s5⟩ := hSw
        go_simp
      try simp only [Act.put, List.getElem_toArray, List.getElem_cons_succ, List.getElem_cons_zero, List.setIfInBounds_toArray, List.set_cons_zero, List.set_cons_succ]
      refine wpAnyH_take (i := 5) (v := .slice (some ⟨b2, o2, none⟩) n d) rfl (by kernel_rfl) (by kernel_rfl) (by kernel_rfl) (fun _ _ _ h => h) (Or.inl ⟨by kernel_rfl, ?_⟩) hS ?_
      · intro w' hSw
        obtain ⟨s0, s1, s2, s3, s4, s5⟩ := hSw
        go_simp
      try simp only [Act.put, List.getElem_toArray, List.getElem_cons_succ, List.getElem_cons_zero, List.setIfInBounds_toArray, List.set_cons_zero, List.set_cons_succ]
      refine wpAnyH_take (i := 6) (v := .int .i64 j) rfl (by kernel_rfl) (by kernel_rfl) (by kernel_rfl) (fun _ _ _ h => h) (Or.inl ⟨by kernel_rfl, ?_⟩) hS ?_
      · intro w' hSw
        obtain ⟨s0, s1, s2, s3, s4, s5⟩ := hSw
        go_simp
      try simp only [Act.put, List.getElem_toArray, List.getElem_cons_succ, List.getElem_cons_zero, List.setIfInBounds_toArray, List.set_cons_zero, List.set_cons_succ]
      refine wpAnyH_take (i := 7) (v := .pointer (some ⟨b2, o2 + j * 4, none⟩)) rfl (by kernel_rfl) (by kernel_rfl) (by kernel_rfl) (fun _ _ _ h => h) (Or.inl ⟨by kernel_rfl, ?_⟩) hS ?_
      · intro w' hSw
        obtain ⟨s0, s1, s2, s3, s4, s5⟩ := hSw
        go_simp
      try simp only [Act.put, List.getElem_toArray, List.getElem_cons_succ, List.getElem_cons_zero, List.setIfInBounds_toArray, List.set_cons_zero, List.set_cons_succ]
      refine wpAnyH_take (i := 8) (v := .pointer (some ⟨b2, o2 + j * 4 + 1, none⟩)) rfl (by kernel_rfl) (by kernel_rfl) (by kernel_rfl) (fun _ _ _ h => h) (Or.inl ⟨by kernel_rfl, ?_⟩) hS ?_
      · intro w' hSw
        obtain ⟨s0, s1, s2, s3, s4, s5⟩ := hSw
        go_simp
      try simp only [Act.put, List.getElem_toArray, List.getElem_cons_succ, List.getElem_cons_zero, List.setIfInBounds_toArray, List.set_cons_zero, List.set_cons_succ]
      refine wpAnyH_take (i := 9) (v := .agg #[.int .i64 k2, .int .i64 g2, .slice A2 n2 c2]) rfl (by kernel_rfl) (by kernel_rfl) (by kernel_rfl) (fun _ _ _ h => h) (Or.inl ⟨by kernel_rfl, ?_⟩) hS ?_
      · intro w' hSw
        obtain ⟨s0, s1, s2, s3, s4, s5⟩ := hSw
        go_simp
      try simp only [Act.put, List.getElem_toArray, List.getElem_cons_succ, List.getElem_cons_zero, List.setIfInBounds_toArray, List.set_cons_zero, List.set_cons_succ]
      refine wpAnyH_ready (rs := [10]) (by kernel_rfl) (by simp) ?_
      refine AllReadyH.cons rfl (fun KN hK => ?_) AllReadyH.nil
      go_simp
      refine (HC.out _ hbd).mono ?_
      rintro e w3 ⟨rfl, hb3⟩
      have hb3' := hbd.trans (hb3.mono hbd.size)
      refine hK.out _ _ (HKS.out _ hb3') (fun hS => ?_)
      clear hK KN
      try simp only [Act.put, zzP]
      refine wpAnyH_take (i := 11) (v := .bool true) rfl (by kernel_rfl) (by kernel_rfl) (by kernel_rfl) (fun _ _ _ h => h) (Or.inl ⟨by kernel_rfl, ?_⟩) hS ?_
      · intro w' hSw
        obtain ⟨s0, s1, s2, s3, s4, s5⟩ := hSw
        go_simp
      try simp only [Act.put, List.getElem_toArray, List.getElem_cons_succ, List.getElem_cons_zero, List.setIfInBounds_toArray, List.set_cons_zero, List.set_cons_succ]
      refine wpAnyH_done (by kernel_rfl) ?_ _
      try simp only [zzP]
      have e0' := (hb3'.cell (cell_ltX e0)).trans e0
      have f0' := (hb3'.cell (cell_ltX f0)).trans f0
      have HB3 := Lib.hid (HBr.out.trans (hb3'.mono HBr.out.size))
      clear HKS hbd hS hb3 hb3' HC e0 e1 e2 e3 f0 f1 f2 f3
      go_wp2_with fail
      have HKS : Hid (∀ w' : World, Below w3.heap.size w3 w' → (fun w' => w'.cell? ⟨b1, o1 + j * 4, none⟩ = some (.string x.1) ∧ w'.cell? ⟨b2, o2 + j * 4, none⟩ = some (.string x.1)) w') := Lib.hid fun w' h => ⟨(h.cell (cell_ltX e0')).trans e0', (h.cell (cell_ltX f0')).trans f0'⟩
      have hbd : Below w3.heap.size w3 w3.drew := (Below.refl _ w3).drew
      refine zzR HKS hbd (fun hS => ?_)
      simp only [List.size_toArray, List.length_cons, List.length_nil, Nat.reduceAdd]
      refine wpAnyH_take (i := 0) (v := .bool true) rfl (by kernel_rfl) (by kernel_rfl) (by kernel_rfl) (fun _ _ _ h => h) (Or.inl ⟨by kernel_rfl, ?_⟩) hS ?_
      · intro w' hSw
        obtain ⟨s0, s1⟩ := hSw
        go_simp
      try simp only [Act.put, List.getElem_toArray, List.getElem_cons_zero, List.setIfInBounds_toArray, List.set_cons_zero, List.set_cons_succ]
      refine wpAnyH_take (i := 1) (v := .bool false) rfl (by kernel_rfl) (by kernel_rfl) (by kernel_rfl) (fun _ _ _ h => h) (Or.inl ⟨by kernel_rfl, ?_⟩) hS ?_
      · intro w' hSw
        obtain ⟨s0, s1⟩ := hSw
        go_simp
      try simp only [Act.put, List.getElem_toArray, List.getElem_cons_succ, List.getElem_cons_zero, List.setIfInBounds_toArray, List.set_cons_zero, List.set_cons_succ]
      refine wpAnyH_take (i := 2) (v := .bool false) rfl (by kernel_rfl) (by kernel_rfl) (by kernel_rfl) (fun _ _ _ h => h) (Or.inl ⟨by kernel_rfl, ?_⟩) hS ?_
      · intro w' hSw
        obtain ⟨s0, s1⟩ := hSw
        go_simp
      try simp only [Act.put, List.getElem_toArray, List.getElem_cons_succ, List.getElem_cons_zero, List.setIfInBounds_toArray, List.set_cons_zero, List.set_cons_succ]
      refine wpAnyH_take (i := 3) (v := .slice (some ⟨b1, o1, none⟩) n c) rfl (by kernel_rfl) (by kernel_rfl) (by kernel_rfl) (fun _ _ _ h => h) (Or.inl ⟨by kernel_rfl, ?_⟩) hS ?_
      · intro w' hSw
        obtain ⟨s0, s1⟩ := hSw
        go_simp
      try simp only [Act.put, List.getElem_toArray, List.getElem_cons_succ, List.getElem_cons_zero, List.setIfInBounds_toArray, List.set_cons_zero, List.set_cons_succ]
      refine wpAnyH_take (i := 4) (v := .int .i64 j) rfl (by kernel_rfl) (by kernel_rfl) (by kernel_rfl) (fun _ _ _ h => h) (Or.inl ⟨by kernel_rfl, ?_⟩) hS ?_
      · intro w' hSw
        obtain ⟨s0, s1⟩ := hSw
        go_simp
      try simp only [Act.put, List.getElem_toArray, List.getElem_cons_succ, List.getElem_cons_zero, List.setIfInBounds_toArray, List.set_cons_zero, List.set_cons_succ]
      refine wpAnyH_take (i := 5) (v := .pointer (some ⟨b1, o1 + j * 4, none⟩)) rfl (by kernel_rfl) (by kernel_rfl) (by kernel_rfl) (fun _ _ _ h => h) (Or.inl ⟨by kernel_rfl, ?_⟩) hS ?_
      · intro w' hSw
        obtain ⟨s0, s1⟩ := hSw
        go_simp
      try simp only [Act.put, List.getElem_toArray, List.getElem_cons_succ, List.getElem_cons_zero, List.setIfInBounds_toArray, List.set_cons_zero, List.set_cons_succ]
      refine wpAnyH_take (i := 6) (v := .pointer (some ⟨b1, o1 + j * 4, none⟩)) rfl (by kernel_rfl) (by kernel_rfl) (by kernel_rfl) (fun _ _ _ h => h) (Or.inl ⟨by kernel_rfl, ?_⟩) hS ?_
      · intro w' hSw
        obtain ⟨s0, s1⟩ := hSw
        go_simp
      try simp only [Act.put, List.getElem_toArray, List.getElem_cons_succ, List.getElem_cons_zero, List.setIfInBounds_toArray, List.set_cons_zero, List.set_cons_succ]
      refine wpAnyH_take (i := 7) (v := .string x.1) rfl (by kernel_rfl) (by kernel_rfl) (by kernel_rfl) (fun _ _ _ h => h) (Or.inl ⟨by kernel_rfl, ?_⟩) hS ?_
      · intro w' hSw
        obtain ⟨s0, s1⟩ := hSw
        go_simp
      try simp only [Act.put, List.getElem_toArray, List.getElem_cons_succ, List.getElem_cons_zero, List.setIfInBounds_toArray, List.set_cons_zero, List.set_cons_succ]
      refine wpAnyH_take (i := 8) (v := .slice (some ⟨b2, o2, none⟩) n d) rfl (by kernel_rfl) (by kernel_rfl) (by kernel_rfl) (fun _ _ _ h => h) (Or.inl ⟨by kernel_rfl, ?_⟩) hS ?_
      · intro w' hSw
        obtain ⟨s0, s1⟩ := hSw
        go_simp
      try simp only [Act.put, List.getElem_toArray, List.getElem_cons_succ, List.getElem_cons_zero, List.setIfInBounds_toArray, List.set_cons_zero, List.set_cons_succ]
      refine wpAnyH_take (i := 9) (v := .int .i64 j) rfl (by kernel_rfl) (by kernel_rfl) (by kernel_rfl) (fun _ _ _ h => h) (Or.inl ⟨by kernel_rfl, ?_⟩) hS ?_
      · intro w' hSw
        obtain ⟨s0, s1⟩ := hSw
        go_simp
      try simp only [Act.put, List.getElem_toArray, List.getElem_cons_succ, List.getElem_cons_zero, List.setIfInBounds_toArray, List.set_cons_zero, List.set_cons_succ]
      refine wpAnyH_take (i := 10) (v := .pointer (some ⟨b2, o2 + j * 4, none⟩)) rfl (by kernel_rfl) (by kernel_rfl) (by kernel_rfl) (fun _ _ _ h => h) (Or.inl ⟨by kernel_rfl, ?_⟩) hS ?_
      · intro w' hSw
        obtain ⟨s0, s1⟩ := hSw
        go_simp
      try simp only [Act.put, List.getElem_toArray, List.getElem_cons_succ, List.getElem_cons_zero, List.setIfInBounds_toArray, List.set_cons_zero, List.set_cons_succ]
      refine wpAnyH_take (i := 11) (v := .pointer (some ⟨b2, o2 + j * 4, none⟩)) rfl (by kernel_rfl) (by kernel_rfl) (by kernel_rfl) (fun _ _ _ h => h) (Or.inl ⟨by kernel_rfl, ?_⟩) hS ?_
      · intro w' hSw
        obtain ⟨s0, s1⟩ := hSw
        go_simp
      try simp only [Act.put, List.getElem_toArray, List.getElem_cons_succ, List.getElem_cons_zero, List.setIfInBounds_toArray, List.set_cons_zero, List.set_cons_succ]
      refine wpAnyH_take (i := 12) (v := .string x.1) rfl (by kernel_rfl) (by kernel_rfl) (by kernel_rfl) (fun _ _ _ h => h) (Or.inl ⟨by kernel_rfl, ?_⟩) hS ?_
      · intro w' hSw
        obtain ⟨s0, s1⟩ := hSw
        go_simp
      try simp only [Act.put, List.getElem_toArray, List.getElem_cons_succ, List.getElem_cons_zero, List.setIfInBounds_toArray, List.set_cons_zero, List.set_cons_succ]
      refine wpAnyH_take (i := 13) (v := .bool false) rfl (by kernel_rfl) (by kernel_rfl) (by kernel_rfl) (fun _ _ _ h => h) (Or.inl ⟨by kernel_rfl, ?_⟩) hS ?_
      · intro w' hSw
        obtain ⟨s0, s1⟩ := hSw
        go_simp
      try simp only [Act.put, List.getElem_toArray, List.getElem_cons_succ, List.getElem_cons_zero, List.setIfInBounds_toArray, List.set_cons_zero, List.set_cons_succ]
      refine wpAnyH_take (i := 14) (v := .bool false) rfl (by kernel_rfl) (by kernel_rfl) (by kernel_rfl) (fun _ _ _ h => h) (Or.inl ⟨by kernel_rfl, ?_⟩) hS ?_
      · intro w' hSw
        obtain ⟨s0, s1⟩ := hSw
        go_simp
      try simp only [Act.put, List.getElem_toArray, List.getElem_cons_succ, List.getElem_cons_zero, List.setIfInBounds_toArray, List.set_cons_zero, List.set_cons_succ]
      refine wpAnyH_done (by kernel_rfl) ?_ _
      try simp only [zzP]
      have HB4 := Lib.hid (HB3.out.trans (hbd.mono HB3.out.size))
      clear HKS hbd hS
      go_wp2_with fail
      go_roundw
      case rel => exact ⟨j + 1, by omega, by go_num, HB4⟩
      case measure => simp [Go.RowKit.intOf]; omega
    · go_wp2_with fail
      go_ret
      exact ⟨rfl, HBr.out⟩
end Go.Proofs.YtmkahbbcagfbhaaGreatDoor
