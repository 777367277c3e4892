/- Texts of one proof, put together. No statement is proved here. -/
import Derived.Test.YtbbjjdnnlnabaaaGreatPkKh
import Derived.Test.YtbbjjdnnlnabaaaGreatPkC
namespace Go.Proofs.YtbbjjdnnlnabaaaGreat
open Go.ChangeShapes Go.WideShapes Go.ChangeAt Go.RowKit
set_option linter.unusedVariables false
set_option linter.unusedSimpArgs false
set_option maxRecDepth 100000
end Go.Proofs.YtbbjjdnnlnabaaaGreat
namespace Go.Proofs.YtbbjjdnnlnabaaaGreat
open Go.ChangeShapes Go.WideShapes Go.ChangeAt Go.RowKit
set_option linter.unusedVariables false
set_option linter.unusedSimpArgs false
set_option maxRecDepth 100000
theorem thB_all {th : List T} (h : thB th = true) : ∀ x ∈ th, myB x = true := by
  unfold thB at h
  rw [Bool.and_eq_true] at h
  exact List.all_eq_true.1 h.2
end Go.Proofs.YtbbjjdnnlnabaaaGreat
namespace Go.Proofs.YtbbjjdnnlnabaaaGreat
open Go.ChangeShapes Go.WideShapes Go.ChangeAt Go.RowKit
set_option linter.unusedVariables false
set_option linter.unusedSimpArgs false
set_option maxHeartbeats 4000000
set_option maxRecDepth 100000
theorem st_func (w1 : World) (ty : TypeId) (fn : Fn) (a b : Array Value) : Sem.run Tryz.prog (store ⟨w1.heap.size, 0, none⟩ (.func fn a b)) (w1.alloc (.cells #[.nilFunc] ty)) = .ok () (w1.alloc (.cells #[.func fn a b] ty)) := by
  rw [run_store _ _ _ _ _ rfl]
  simp [go_sem]
theorem closCC {th : List T} {t : T} {A : Option Addr} {m cL : Nat} {n : Int} {pm pt pF pN : Nat} {v : Value} (i : Nat) (w : World) (hth : ThI th w A m cL) (hv : Rd w t v) (ho : myB t = true → okT 2199023255552 t)
    (xm : Box w pm 4 #[.bool (thB th)]) (xt : Box w pt 24 #[.slice A m cL])
    (xF : Box w pF 82 #[.func (.func 69) #[] #[.pointer (some ⟨pm, 0, none⟩), .pointer (some ⟨pt, 0, none⟩)]]) (xN : Box w pN 3 #[.int .i64 n]) :
    Calls Tryz.prog 52 #[.int .i64 i, v, .pointer (some ⟨pF, 0, none⟩), .pointer (some ⟨pN, 0, none⟩)] w (FnE (fiR th (wrap64 (n + i)) t) w) := by
  obtain ⟨k, h, At, nt, ct, rfl⟩ := hv.full
  obtain ⟨W, hW⟩ : ∃ W, (w.alloc (.cells #[.int .i64 k, .int .i64 h, .slice At nt ct] 39)).alloc (.cells #[.int .i64 0, .int .i64 0, .slice none 0 0] 39) = W := ⟨_, rfl⟩
  have hb : Below w.heap.size w W := by rw [← hW]; exact ((Below.refl _ _).alloc (Nat.le_refl _) _).alloc (by simp) _
  have x1 : Box W (w.heap.size + 1) 39 #[.int .i64 0, .int .i64 0, .slice none 0 0] := by rw [← hW]; exact (Box.new (w.alloc _) _ _).at (by simp)
  have lm := xm.lt
  have lt := xt.lt
  have lF := xF.lt
  have lN := xN.lt
  have lF1 : pF < w.heap.size + 1 := by omega
  have lN1 : pN < w.heap.size + 1 := by omega
  have HCL := Lib.hid (byFC (n := wrap64 (n + i)) (pm := pm) (pt := pt) W hth.len hth.le hth.cap (hth.keep hb).at_ (xm.keep hb lm) (xt.keep hb lt) (Rd.keep hb _ _ hv) hth.ok ho)
  have hsum : IntKind.i64.wrap (n + i) = wrap64 (n + i) := wrapEq _
  generalize fiR th (wrap64 (n + i)) t = R at *
  generalize wrap64 (n + i) = s at *
  have c0 := xF.one.1
  have d0 := xN.one.1
  have HW := Lib.hid hW; clear hW hth hv ho xm xt xF xN
  have HB := Lib.hid hb; clear hb
  go_enter Tryz.func52, Tryz.ntmps52
  go_wp2_with fail
  rw [HW.out]
  clear HW
  refine HCL.out.mono ?_
  intro e w2 hE
  have hbE := hE.below
  obtain ⟨k3, h3, A3, n3, c3, ec, rfl, hout, hfr⟩ := (hE.cen (X := fun _ => False) (c := 0)).uni
  have r2 := x1.keep hbE x1.lt
  have s5 := x1.lt
  have s2 := r2.lt
  have HO := Lib.hid hout
  have HBE := Lib.hid hbE
  clear hout hE hfr hbE x1 c0 d0
  obtain ⟨y0, y1, y2⟩ := r2.three
  have f0 := r2.frozen 0
  have f1 := r2.frozen 1
  have f2 := r2.frozen 2
  go_wp2_with fail
  refine bodyPost_ret (v := .tuple #[.agg #[.int .i64 k3, .int .i64 h3, .slice A3 n3 c3], .int .i64 ec]) (by simp [results, Tryz.results52, go_sem, y0, y1, y2]) rfl ?_
  have s3 := HB.out.size
  exact fne_of (HO.out.move (B' := w.heap.size) (by omega) (fun g hg _ => heap_other3 _ _ _ _ _ _ (by omega)) fun _ _ _ _ => trivial) (below_set3 (HB.out.trans (HBE.out.mono HB.out.size)) (by omega) _ _ _)
abbrev cxL (th : List T) (n : Int) (xs : List T) : Except Int (List T × Nat) := eaL (fun i t c => wc (fiR th (wrap64 (n + i)) t) c) xs 0 0
def LnE (r : Except Int (List T × Nat)) (w : World) (e : Ending) (w' : World) : Prop :=
  match r with
  | .error ec => e = .returned (.tuple #[.slice none 0 0, .int .i64 ec]) ∧ ec ≠ 0 ∧ Below w.heap.size w w'
  | .ok (ys, _) => ∃ A n cc, e = .returned (.tuple #[.slice A n cc, .int .i64 0]) ∧ RXL (fun b => b < w.heap.size) w' ys A n cc ∧ Below w.heap.size w w'
theorem GEn.lne {St : Nat → World → Prop} {r : Except Int (List T × Nat)} {w0 w w' : World} {e : Ending} (h : GEn (fun _ => False) St w r e w') (hb : Below w0.heap.size w0 w) : LnE r w0 e w' := by
  cases r with
  | error ec =>
    obtain ⟨h1, h2, h3⟩ := h
    exact ⟨h1, h2, hb.trans (h3.to_below (fun i e => e.elim) hb.size)⟩
  | ok p =>
    obtain ⟨ys, c⟩ := p
    obtain ⟨A, n, cc, rfl, h2, h3, _⟩ := h
    exact ⟨A, n, cc, rfl, ⟨h2.len, h2.le, h2.cap, fun i t ht => RdFAt.moveX (fun b hb' hl => ⟨by have := hb.size; omega, rfl⟩) (h2.at_ i t ht)⟩, hb.trans (h3.to_below (fun i e => e.elim) hb.size)⟩
theorem CtxC {th xs : List T} {A Al : Option Addr} {m cL nl cl : Nat} {n : Int} (w : World) (hth : ThI th w A m cL) (hl : xs.length = nl) (hlc : nl ≤ cl) (hlm : cl ≤ maxLen) (hl40 : nl ≤ 3518437208780) (hx : ∀ i t, xs[i]? = some t → RdAt w Al i t) (ho : ∀ t ∈ xs, myB t = true → okT 2199023255552 t) :
    Calls Tryz.prog 35 #[.slice Al nl cl, .slice A m cL, .int .i64 n] w (LnE (cxL th n xs) w) := by
  have hmf : ∀ (fn : Fn) (first cap : Array Value) (w : World), (Instr.makeFunc fn first cap).run Tryz.prog w = .ok (.func fn first cap) w := fun _ _ _ _ => rfl
  obtain ⟨W, hW⟩ : ∃ W, w.alloc (.cells #[.int .i64 n] 3) = W := ⟨_, rfl⟩
  have hb : Below w.heap.size w W := by rw [← hW]; exact (Below.refl _ _).alloc (Nat.le_refl _) _
  have x0 : Box W w.heap.size 3 #[.int .i64 n] := by rw [← hW]; exact Box.new _ _ _
  have HBY := Lib.hid (byC W hth.len hth.le hth.cap (hth.keep hb).at_)
  have HE : Hid (∀ W2 pm pt pF, Below w.heap.size w W2 → Box W2 pm 4 #[.bool (thB th)] → Box W2 pt 24 #[.slice A m cL] → Box W2 pF 82 #[.func (.func 69) #[] #[.pointer (some ⟨pm, 0, none⟩), .pointer (some ⟨pt, 0, none⟩)]] → Box W2 w.heap.size 3 #[.int .i64 n] →
      Calls Tryz.prog 51 #[.slice Al nl cl, .func (.func 52) #[] #[.pointer (some ⟨pF, 0, none⟩), .pointer (some ⟨w.heap.size, 0, none⟩)]] W2 (GEn (fun _ => False) (fun _ _ => True) W2 (cxL th n xs))) := Lib.hid fun W2 pm pt pF h2 xm xt xF xN =>
    eachCC (X := fun _ => False) (St := fun _ _ => True) (p1 := .pointer (some ⟨pF, 0, none⟩)) (p2 := .pointer (some ⟨w.heap.size, 0, none⟩)) (wB := w) (w := W2) (A := Al) (n := nl) (c := cl) (c0 := 0) (M := 4000 * ndL xs) xs (fun i t c => wc (fiR th (wrap64 (n + i)) t) c)
      h2 hl hlc hlm hl40 hx (fun b e => e.elim) (fun _ _ _ _ _ _ => trivial) trivial (by omega)
      (fun i t c t1 c1 _ hr => by
        unfold wc at hr
        split at hr
        · cases hr
        · cases hr; omega)
      (fun i t v W' c' ht hrd hfr hst hlo => by
        have hbw := hfr.to_below (B := W2.heap.size) (fun i e => e.elim) (Nat.le_refl _)
        have hb' := h2.trans (hbw.mono h2.size)
        exact (closCC (th := th) (n := n) i W' (hth.keep hb') (Rd.keep hb' _ _ hrd) (ho t (List.mem_of_getElem? ht)) (xm.keep hbw xm.lt) (xt.keep hbw xt.lt) (xF.keep hbw xF.lt) (xN.keep hbw xN.lt)).mono fun e w' h => h.cen)
  have HW := Lib.hid hW; clear hW hx ho hth hl hlc hlm hl40
  have HB := Lib.hid hb; clear hb
  generalize cxL th n xs = R at *
  go_enter Tryz.func35, Tryz.ntmps35
  go_wp2_with fail
  rw [HW.out]
  clear HW
  refine HBY.out.mono ?_
  clear HBY
  rintro e w1 ⟨pm, pt, rfl, xm, xt, hb1⟩
  have hbw := HB.out.trans (hb1.mono HB.out.size)
  have y0 := x0.keep hb1 x0.lt
  have hbF : Below w1.heap.size w1 (w1.alloc (.cells #[.func (.func 69) #[] #[.pointer (some ⟨pm, 0, none⟩), .pointer (some ⟨pt, 0, none⟩)]] 82)) := (Below.refl _ _).alloc (Nat.le_refl _) _
  have hbw2 := hbw.trans (hbF.mono hbw.size)
  have HC := Lib.hid (HE.out _ pm pt w1.heap.size hbw2 (xm.keep hbF xm.lt) (xt.keep hbF xt.lt) (Box.new _ _ _) (y0.keep hbF y0.lt))
  have HB2 := Lib.hid hbw2
  have hsf := st_func w1 82 (.func 69) #[] #[.pointer (some ⟨pm, 0, none⟩), .pointer (some ⟨pt, 0, none⟩)]
  clear hbw2 hbF hbw y0 hb1 xm xt x0 HE
  go_wp2_with fail
  refine HC.out.mono ?_
  clear HC
  intro e w3 hE
  have hL := hE.lne HB2.out
  cases R with
  | error ec =>
    obtain ⟨rfl, hne, hb3⟩ := hL
    have HL := Lib.hid hb3
    have HNE := Lib.hid hne
    clear hb3 hE hne
    go_wp2_with fail
    go_ret2
    exact ⟨rfl, HNE.out, HL.out⟩
  | ok p =>
    obtain ⟨ys, c⟩ := p
    obtain ⟨A9, n9, c9, rfl, hrl, hb3⟩ := hL
    have HL := Lib.hid (And.intro hrl hb3)
    clear hb3 hE hrl
    go_wp2_with fail
    go_ret2
    exact ⟨A9, n9, c9, rfl, HL.out.1, HL.out.2⟩
theorem ea_at {F : Nat → T → Except Int T} : ∀ (xs : List T) (i c : Nat) (ys : List T) (c' : Nat), eaL (fun i t c => wc (F i t) c) xs i c = .ok (ys, c') → ys.length = xs.length ∧ ∀ (j : Nat) (t : T), xs[j]? = some t → ∃ y, ys[j]? = some y ∧ F (i + j) t = .ok y
  | [], i, c, ys, c', h => by
    rw [eaL] at h
    cases h
    exact ⟨rfl, fun j t ht => by simp at ht⟩
  | x :: xs, i, c, ys, c', h => by
    rw [eaL] at h
    cases hF : F i x with
    | error e => simp [hF, wc] at h
    | ok y =>
      simp only [hF, wc] at h
      split at h
      · cases h
      · rename_i zs c2 hz
        cases h
        obtain ⟨h1, h2⟩ := ea_at xs (i + 1) c zs c' hz
        refine ⟨by simp [h1], fun j t ht => ?_⟩
        cases j with
        | zero =>
          simp only [List.getElem?_cons_zero, Option.some.injEq] at ht
          subst ht
          exact ⟨y, by simp, hF⟩
        | succ j =>
          simp only [List.getElem?_cons_succ] at ht
          obtain ⟨y', hy, hf⟩ := h2 j t ht
          exact ⟨y', by simpa using hy, by rw [← hf]; congr 1; omega⟩
end Go.Proofs.YtbbjjdnnlnabaaaGreat
