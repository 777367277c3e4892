/-
  Contract of package meta's Ctx, and the walk of the law MetaLists.
-/
import Derived.Test.YtaccaamdbfccmaaKn
namespace Go.Proofs.Ytaccaamdbfccmaa
open Go.ChangeShapes Go.WideShapes Go.ChangeAt Go.RowKit
set_option linter.unusedVariables false
set_option maxRecDepth 100000

theorem st_func (w1 : World) (ty : TypeId) (fn : Fn) (a b : Array Value) : Sem.run Try.prog (store ⟨w1.heap.size, 0, none⟩ (.func fn a b)) (w1.alloc (.cells #[.nilFunc] ty)) = .ok () (w1.alloc (.cells #[.func fn a b] ty)) := by
  rw [run_store _ _ _ _ _ rfl]
  simp [go_sem]
set_option maxHeartbeats 4000000 in
theorem closCC {th : List T} {t : T} {A : Option Addr} {m cL : Nat} {n : Int} {pm pt pF pN : Nat} {v : Value} (i : Nat) (w : World) (hth : ThI th w A m cL) (hv : Rd w t v) (ho : myB t = true → okT 2199023255552 t)
    (xm : Box w pm 4 #[.bool (thB th)]) (xt : Box w pt 22 #[.slice A m cL])
    (xF : Box w pF 49 #[.func (.func 46) #[] #[.pointer (some ⟨pm, 0, none⟩), .pointer (some ⟨pt, 0, none⟩)]]) (xN : Box w pN 3 #[.int .i64 n]) :
    Calls Try.prog 34 #[.int .i64 i, v, .pointer (some ⟨pF, 0, none⟩), .pointer (some ⟨pN, 0, none⟩)] w (FnE (fiR th (wrap64 (n + i)) t) w) := by
  obtain ⟨k, h, At, nt, ct, rfl⟩ := hv.full
  obtain ⟨W, hW⟩ : ∃ W, (w.alloc (.cells #[.int .i64 k, .int .i64 h, .slice At nt ct] 24)).alloc (.cells #[.int .i64 0, .int .i64 0, .slice none 0 0] 24) = W := ⟨_, rfl⟩
  have hb : Below w.heap.size w W := by rw [← hW]; exact ((Below.refl _ _).alloc (Nat.le_refl _) _).alloc (by simp) _
  have x1 : Box W (w.heap.size + 1) 24 #[.int .i64 0, .int .i64 0, .slice none 0 0] := by rw [← hW]; exact (Box.new (w.alloc _) _ _).at (by simp)
  have lm := xm.lt
  have lt := xt.lt
  have lF := xF.lt
  have lN := xN.lt
  have lF1 : pF < w.heap.size + 1 := by omega
  have lN1 : pN < w.heap.size + 1 := by omega
  have HCL := Lib.hid (byFC (n := wrap64 (n + i)) (pm := pm) (pt := pt) W hth.len hth.le hth.cap (hth.keep hb).at_ (xm.keep hb lm) (xt.keep hb lt) (Rd.keep hb _ _ hv) hth.ok ho)
  have hsum : IntKind.i64.wrap (n + i) = wrap64 (n + i) := wrapEq _
  generalize fiR th (wrap64 (n + i)) t = R at *
  generalize wrap64 (n + i) = s at *
  have c0 := xF.one.1
  have d0 := xN.one.1
  have HW := Lib.hid hW; clear hW hth hv ho xm xt xF xN
  have HB := Lib.hid hb; clear hb
  go_enter Try.func34, Try.ntmps34
  go_wp2_with fail
  rw [HW.out]
  clear HW
  refine HCL.out.mono ?_
  intro e w2 hE
  have hbE := hE.below
  obtain ⟨k3, h3, A3, n3, c3, ec, rfl, hout, hfr⟩ := (hE.cen (X := fun _ => False) (c := 0)).uni
  have r2 := x1.keep hbE x1.lt
  have s5 := x1.lt
  have s2 := r2.lt
  have HO := Lib.hid hout
  have HBE := Lib.hid hbE
  clear hout hE hfr hbE x1 c0 d0
  obtain ⟨y0, y1, y2⟩ := r2.three
  have f0 := r2.frozen 0
  have f1 := r2.frozen 1
  have f2 := r2.frozen 2
  go_wp2_with fail
  refine bodyPost_ret (v := .tuple #[.agg #[.int .i64 k3, .int .i64 h3, .slice A3 n3 c3], .int .i64 ec]) (by simp [results, Try.results34, go_sem, y0, y1, y2]) rfl ?_
  have s3 := HB.out.size
  exact fne_of (HO.out.move (B' := w.heap.size) (by omega) (fun g hg _ => heap_other3 _ _ _ _ _ _ (by omega)) fun _ _ _ _ => trivial) (below_set3 (HB.out.trans (HBE.out.mono HB.out.size)) (by omega) _ _ _)

/-- what becomes of the entries of a context -/
abbrev cxL (th : List T) (n : Int) (xs : List T) : Except Int (List T × Nat) := eaL (fun i t c => wc (fiR th (wrap64 (n + i)) t) c) xs 0 0
/-- how Ctx and All end -/
def LnE (r : Except Int (List T × Nat)) (w : World) (e : Ending) (w' : World) : Prop :=
  match r with
  | .error ec => e = .returned (.tuple #[.slice none 0 0, .int .i64 ec]) ∧ ec ≠ 0 ∧ Below w.heap.size w w'
  | .ok (ys, _) => ∃ A n cc, e = .returned (.tuple #[.slice A n cc, .int .i64 0]) ∧ RXL (fun b => b < w.heap.size) w' ys A n cc ∧ Below w.heap.size w w'
theorem GEn.lne {St : Nat → World → Prop} {r : Except Int (List T × Nat)} {w0 w w' : World} {e : Ending} (h : GEn (fun _ => False) St w r e w') (hb : Below w0.heap.size w0 w) : LnE r w0 e w' := by
  cases r with
  | error ec =>
    obtain ⟨h1, h2, h3⟩ := h
    exact ⟨h1, h2, hb.trans (h3.to_below (fun i e => e.elim) hb.size)⟩
  | ok p =>
    obtain ⟨ys, c⟩ := p
    obtain ⟨A, n, cc, rfl, h2, h3, _⟩ := h
    exact ⟨A, n, cc, rfl, ⟨h2.len, h2.le, h2.cap, fun i t ht => RdFAt.moveX (fun b hb' hl => ⟨by have := hb.size; omega, rfl⟩) (h2.at_ i t ht)⟩, hb.trans (h3.to_below (fun i e => e.elim) hb.size)⟩

set_option maxHeartbeats 4000000 in
theorem CtxC {th xs : List T} {A Al : Option Addr} {m cL nl cl : Nat} {n : Int} (w : World) (hth : ThI th w A m cL) (hl : xs.length = nl) (hlc : nl ≤ cl) (hlm : cl ≤ maxLen) (hl40 : nl ≤ 3518437208780) (hx : ∀ i t, xs[i]? = some t → RdAt w Al i t) (ho : ∀ t ∈ xs, myB t = true → okT 2199023255552 t) :
    Calls Try.prog 15 #[.slice Al nl cl, .slice A m cL, .int .i64 n] w (LnE (cxL th n xs) w) := by
  have hmf : ∀ (fn : Fn) (first cap : Array Value) (w : World), (Instr.makeFunc fn first cap).run Try.prog w = .ok (.func fn first cap) w := fun _ _ _ _ => rfl
  obtain ⟨W, hW⟩ : ∃ W, w.alloc (.cells #[.int .i64 n] 3) = W := ⟨_, rfl⟩
  have hb : Below w.heap.size w W := by rw [← hW]; exact (Below.refl _ _).alloc (Nat.le_refl _) _
  have x0 : Box W w.heap.size 3 #[.int .i64 n] := by rw [← hW]; exact Box.new _ _ _
  have HBY := Lib.hid (byC W hth.len hth.le hth.cap (hth.keep hb).at_)
  have HE : Hid (∀ W2 pm pt pF, Below w.heap.size w W2 → Box W2 pm 4 #[.bool (thB th)] → Box W2 pt 22 #[.slice A m cL] → Box W2 pF 49 #[.func (.func 46) #[] #[.pointer (some ⟨pm, 0, none⟩), .pointer (some ⟨pt, 0, none⟩)]] → Box W2 w.heap.size 3 #[.int .i64 n] →
      Calls Try.prog 33 #[.slice Al nl cl, .func (.func 34) #[] #[.pointer (some ⟨pF, 0, none⟩), .pointer (some ⟨w.heap.size, 0, none⟩)]] W2 (GEn (fun _ => False) (fun _ _ => True) W2 (cxL th n xs))) := Lib.hid fun W2 pm pt pF h2 xm xt xF xN =>
    eachCC (X := fun _ => False) (St := fun _ _ => True) (p1 := .pointer (some ⟨pF, 0, none⟩)) (p2 := .pointer (some ⟨w.heap.size, 0, none⟩)) (wB := w) (w := W2) (A := Al) (n := nl) (c := cl) (c0 := 0) (M := 4000 * ndL xs) xs (fun i t c => wc (fiR th (wrap64 (n + i)) t) c)
      h2 hl hlc hlm hl40 hx (fun b e => e.elim) (fun _ _ _ _ _ _ => trivial) trivial (by omega)
      (fun i t c t1 c1 _ hr => by
        unfold wc at hr
        split at hr
        · cases hr
        · cases hr; omega)
      (fun i t v W' c' ht hrd hfr hst hlo => by
        have hbw := hfr.to_below (B := W2.heap.size) (fun i e => e.elim) (Nat.le_refl _)
        have hb' := h2.trans (hbw.mono h2.size)
        exact (closCC (th := th) (n := n) i W' (hth.keep hb') (Rd.keep hb' _ _ hrd) (ho t (List.mem_of_getElem? ht)) (xm.keep hbw xm.lt) (xt.keep hbw xt.lt) (xF.keep hbw xF.lt) (xN.keep hbw xN.lt)).mono fun e w' h => h.cen)
  have HW := Lib.hid hW; clear hW hx ho hth hl hlc hlm hl40
  have HB := Lib.hid hb; clear hb
  generalize cxL th n xs = R at *
  go_enter Try.func15, Try.ntmps15
  go_wp2_with fail
  rw [HW.out]
  clear HW
  refine HBY.out.mono ?_
  clear HBY
  rintro e w1 ⟨pm, pt, rfl, xm, xt, hb1⟩
  have hbw := HB.out.trans (hb1.mono HB.out.size)
  have y0 := x0.keep hb1 x0.lt
  have hbF : Below w1.heap.size w1 (w1.alloc (.cells #[.func (.func 46) #[] #[.pointer (some ⟨pm, 0, none⟩), .pointer (some ⟨pt, 0, none⟩)]] 49)) := (Below.refl _ _).alloc (Nat.le_refl _) _
  have hbw2 := hbw.trans (hbF.mono hbw.size)
  have HC := Lib.hid (HE.out _ pm pt w1.heap.size hbw2 (xm.keep hbF xm.lt) (xt.keep hbF xt.lt) (Box.new _ _ _) (y0.keep hbF y0.lt))
  have HB2 := Lib.hid hbw2
  have hsf := st_func w1 49 (.func 46) #[] #[.pointer (some ⟨pm, 0, none⟩), .pointer (some ⟨pt, 0, none⟩)]
  clear hbw2 hbF hbw y0 hb1 xm xt x0 HE
  go_wp2_with fail
  refine HC.out.mono ?_
  clear HC
  intro e w3 hE
  have hL := hE.lne HB2.out
  cases R with
  | error ec =>
    obtain ⟨rfl, hne, hb3⟩ := hL
    have HL := Lib.hid hb3
    have HNE := Lib.hid hne
    clear hb3 hE hne
    go_wp2_with fail
    go_ret2
    exact ⟨rfl, HNE.out, HL.out⟩
  | ok p =>
    obtain ⟨ys, c⟩ := p
    obtain ⟨A9, n9, c9, rfl, hrl, hb3⟩ := hL
    have HL := Lib.hid (And.intro hrl hb3)
    clear hb3 hE hrl
    go_wp2_with fail
    go_ret2
    exact ⟨A9, n9, c9, rfl, HL.out.1, HL.out.2⟩
/-! ### The law -/
theorem take_some {xs : List T} {k i : Nat} {t : T} (h : (xs.take k)[i]? = some t) : xs[i]? = some t := by
  have hi : i < k := by have := (List.getElem?_eq_some_iff.1 h).1; simp at this; omega
  rwa [List.getElem?_take_of_lt hi] at h
theorem ea_at {F : Nat → T → Except Int T} : ∀ (xs : List T) (i c : Nat) (ys : List T) (c' : Nat), eaL (fun i t c => wc (F i t) c) xs i c = .ok (ys, c') → ys.length = xs.length ∧ ∀ (j : Nat) (t : T), xs[j]? = some t → ∃ y, ys[j]? = some y ∧ F (i + j) t = .ok y
  | [], i, c, ys, c', h => by
    rw [eaL] at h
    cases h
    exact ⟨rfl, fun j t ht => by simp at ht⟩
  | x :: xs, i, c, ys, c', h => by
    rw [eaL] at h
    cases hF : F i x with
    | error e => simp [hF, wc] at h
    | ok y =>
      simp only [hF, wc] at h
      split at h
      · cases h
      · rename_i zs c2 hz
        cases h
        obtain ⟨h1, h2⟩ := ea_at xs (i + 1) c zs c' hz
        refine ⟨by simp [h1], fun j t ht => ?_⟩
        cases j with
        | zero =>
          simp only [List.getElem?_cons_zero, Option.some.injEq] at ht
          subst ht
          exact ⟨y, by simp, hF⟩
        | succ j =>
          simp only [List.getElem?_cons_succ] at ht
          obtain ⟨y', hy, hf⟩ := h2 j t ht
          exact ⟨y', by simpa using hy, by rw [← hf]; congr 1; omega⟩
theorem ea_take {F : Nat → T → Except Int T} : ∀ (xs : List T) (k i c : Nat) (ys : List T) (c' : Nat), eaL (fun i t c => wc (F i t) c) xs i c = .ok (ys, c') → ∃ c2, eaL (fun i t c => wc (F i t) c) (xs.take k) i c = .ok (ys.take k, c2)
  | [], k, i, c, ys, c', h => by
    rw [eaL] at h
    cases h
    simp [eaL]
  | x :: xs, 0, i, c, ys, c', h => ⟨c, by simp [eaL]⟩
  | x :: xs, k + 1, i, c, ys, c', h => by
    rw [eaL] at h
    cases hF : F i x with
    | error e => simp [hF, wc] at h
    | ok y =>
      have e0 : wc (F i x) c = .ok (y, c) := by rw [hF]; rfl
      simp only [e0] at h
      split at h
      · cases h
      · rename_i zs c2 hz
        cases h
        obtain ⟨c3, h3⟩ := ea_take xs k (i + 1) c zs c' hz
        refine ⟨c3, ?_⟩
        rw [List.take_succ_cons, eaL]
        simp only [e0]
        rw [h3, List.take_succ_cons]
theorem LnE.uni {r : Except Int (List T × Nat)} {w w' : World} {e : Ending} (h : LnE r w e w') : ∃ A n cc ec, e = .returned (.tuple #[.slice A n cc, .int .i64 ec]) ∧ Below w.heap.size w w' := by
  cases r with
  | error ec =>
    obtain ⟨rfl, _, hb⟩ := h
    exact ⟨none, 0, 0, ec, rfl, hb⟩
  | ok p =>
    obtain ⟨ys, c⟩ := p
    obtain ⟨A, n, cc, rfl, _, hb⟩ := h
    exact ⟨A, n, cc, 0, rfl, hb⟩

set_option maxHeartbeats 8000000 in
theorem metaListsC (L : List T) (AL : Option Addr) (nL cL : Nat) (H : List T) (AH : Option Addr) (nH cH : Nat) (n k : Int) (w : World) (hnL : L.length = nL) (hcL : nL ≤ cL) (hmL : cL ≤ maxLen) (hxL : ∀ i t, L[i]? = some t → RdAt w AL i t) (hnH : H.length = nH) (hcH : nH ≤ cH) (hmH : cH ≤ maxLen) (hxH : ∀ i t, H[i]? = some t → RdAt w AH i t) :
    Calls Try.prog 8 #[.slice AL nL cL, .slice AH nH cH, .int .i64 n, .int .i64 k] w fun e w' => e = .returned (.bool true) ∧ Below w.heap.size w w' := by
  have hmmL := hmL
  have HXL := Lib.hid hxL; clear hxL
  have HNL := Lib.hid hnL; clear hnL
  have hmmH := hmH
  have HXH := Lib.hid hxH; clear hxH
  have HNH := Lib.hid hnH; clear hnH
  have hb := Below.refl w.heap.size w
  go_enter Try.func8, Try.ntmps8
  go_wp2_with fail
  refine (awakeM _).mono ?_
  rintro e w1 ⟨rfl, hb1⟩
  replace hb := hb.trans (hb1.mono hb.size)
  clear hb1
  go_wp2_with fail
  refine (lightsC L AL nL cL 300 60 _ HNL.out hcL hmL (fun i u hu => RdAt.keep hb (HXL.out i u hu))).mono ?_
  generalize hqL : lsB L 300 60 = RL at *
  rintro e w2L ⟨rfl, hb1⟩
  have HQL := Lib.hid hqL; clear hqL
  replace hb := hb.trans (hb1.mono hb.size)
  clear hb1
  go_wp2_with fail
  refine (lightsC H AH nH cH 300 60 _ HNH.out hcH hmH (fun i u hu => RdAt.keep hb (HXH.out i u hu))).mono ?_
  generalize hqH : lsB H 300 60 = RH at *
  rintro e w2H ⟨rfl, hb1⟩
  have HQH := Lib.hid hqH; clear hqH
  replace hb := hb.trans (hb1.mono hb.size)
  clear hb1
  cases RL
  · go_wp2_with fail
    go_ret
    exact ⟨rfl, hb⟩
  cases RH
  · go_wp2_with fail
    go_ret
    exact ⟨rfl, hb⟩
  unfold maxLen at hmL
  by_cases x1 : n < 0
  · have dx1 : decide (n < 0) = true := by simpa using x1
    go_wp2_with fail
    go_ret
    exact ⟨rfl, hb⟩
  have dx1 : decide (n < 0) = false := by simpa using x1
  by_cases x2 : 100 < n
  · have dx2 : decide (100 < n) = true := by simpa using x2
    go_wp2_with fail
    go_ret
    exact ⟨rfl, hb⟩
  have dx2 : decide (100 < n) = false := by simpa using x2
  by_cases x3 : k < 0
  · have dx3 : decide (k < 0) = true := by simpa using x3
    go_wp2_with fail
    go_ret
    exact ⟨rfl, hb⟩
  have dx3 : decide (k < 0) = false := by simpa using x3
  by_cases x4 : (nL : Int) ≤ k
  · have dx4 : decide ((nL : Int) ≤ k) = true := by simpa using x4
    go_wp2_with fail
    go_ret
    exact ⟨rfl, hb⟩
  have dx4 : decide ((nL : Int) ≤ k) = false := by simpa using x4
  obtain ⟨kk, rfl⟩ : ∃ kk : Nat, k = (kk : Int) := ⟨k.toNat, by omega⟩
  have hkn : kk < nL := by omega
  obtain ⟨s, hs⟩ := at_of HNL.out hkn
  obtain ⟨b, o, k2, h2, A2, n2, c2', rfl, c0, c1, c2, hr⟩ := (RdAt.keep hb (HXL.out kk s hs)).full
  have hl1 := HQL.out
  unfold lsB at hl1
  rw [Bool.and_eq_true] at hl1
  have h60 : nL ≤ 60 := by rw [← HNL.out]; exact of_decide_eq_true hl1.1
  have hoL : ∀ t ∈ L, myB t = true → okT 2199023255552 t := fun t ht hm => okT_mono (by omega) _ (kn_of (lights_all hl1.2 t ht) hm).ok
  have hl2 := HQH.out
  unfold lsB at hl2
  rw [Bool.and_eq_true] at hl2
  have hTH : ThI H w AH nH cH := ⟨fun x hx hm => okT_mono (by omega) _ (kn_of (lights_all hl2.2 x hx) hm).ok, HNH.out, hcH, hmmH, HXH.out⟩
  have hw1 : wrap64 (n + kk) = n + kk := wrap_small (by omega) (by omega)
  have hC1 := fun (W : World) (h : Below w.heap.size w W) => CtxC (n := n) W (hTH.keep h) HNL.out hcL hmmL (by omega) (fun i t ht => RdAt.keep h (HXL.out i t ht)) hoL
  have hC2 := fun (W : World) (h : Below w.heap.size w W) => CtxC (xs := L.take kk) (Al := some ⟨b, o, none⟩) (nl := kk) (cl := cL) (n := n) W (hTH.keep h) (by rw [List.length_take, HNL.out]; omega) (by omega) hmmL (by omega) (fun i t ht => RdAt.keep h (HXL.out i t (take_some ht))) (fun t ht => hoL t (List.mem_of_mem_take ht))
  have hF := fun (W : World) (h : Below w2H.heap.size w2H W) => FillC (n := n + kk) W (hTH.keep (hb.trans (h.mono hb.size))) (Rd.keep h _ _ hr) (hoL s (List.mem_of_getElem? hs))
  have HC1 := Lib.hid hC1; have HC2 := Lib.hid hC2; have HFL := Lib.hid hF
  have HHS := Lib.hid hs
  clear hC1 hC2 hF hTH hoL hl1 hl2 hr hs
  have hkc : kk ≤ cL := by omega
  have hki : (kk : Int) ≤ nL := by omega
  have hkl : (kk : Int) < nL := by omega
  have hk0 : (0 : Int) ≤ kk := by omega
  clear x1 x2 x3 x4
  have HAT := Lib.hid fun ys c (h : cxL H n L = .ok (ys, c)) => ea_at (F := fun i t => fiR H (wrap64 (n + i)) t) L 0 0 ys c h
  have HTK := Lib.hid fun ys c (h : cxL H n L = .ok (ys, c)) => ea_take (F := fun i t => fiR H (wrap64 (n + i)) t) L kk 0 0 ys c h
  go_wp2_with fail
  refine (HC1.out _ hb).mono ?_
  clear HC1
  cases hR : cxL H n L with
  | error ec =>
    rintro e w3 ⟨rfl, hne, hb1⟩
    have hne' : (ec != 0) = true := by simpa using hne
    have hb3 := hb.trans (hb1.mono hb.size)
    have HHB := Lib.hid hb1
    replace c0 := (hb1.cell (cell_lt c0)).trans c0
    replace c1 := (hb1.cell (cell_lt c1)).trans c1
    replace c2 := (hb1.cell (cell_lt c2)).trans c2
    clear hne hb1 hR
    go_wp2_with fail
    refine (HC2.out _ hb3).mono ?_
    clear HC2
    intro e w4 hE
    obtain ⟨A4, n4, c4, e4, rfl, hb4⟩ := hE.uni
    have hb5 := hb3.trans (hb4.mono hb3.size)
    have HH4 := Lib.hid (HHB.out.trans (hb4.mono HHB.out.size))
    replace c0 := (hb4.cell (cell_lt c0)).trans c0
    replace c1 := (hb4.cell (cell_lt c1)).trans c1
    replace c2 := (hb4.cell (cell_lt c2)).trans c2
    clear hE hb4
    go_wp2_with fail
    refine (HFL.out _ HH4.out).mono ?_
    clear HFL
    intro e w5 hE
    have hb6 := hE.below
    obtain ⟨kq, hq, Aq, nq, cq, eq, rfl, hout, hfr⟩ := (hE.cen (X := fun _ => False) (c := 0)).uni
    have HB7 := Lib.hid (hb5.trans (hb6.mono hb5.size))
    clear hE hb6 hout hfr c0 c1 c2
    go_wp2_with fail
    go_ret
    exact ⟨rfl, HB7.out.alloc HB7.out.size _⟩
  | ok p =>
    obtain ⟨ys, c⟩ := p
    obtain ⟨hyl, hya⟩ := HAT.out ys c hR
    obtain ⟨c', htk⟩ := HTK.out ys c hR
    obtain ⟨y, hye, hyf⟩ := hya kk s HHS.out
    rw [Nat.zero_add, hw1] at hyf
    have HYF := Lib.hid hyf
    have HTK2 := Lib.hid htk
    have HYE := Lib.hid hye
    have HYA := Lib.hid fun (j : Nat) (t : T) (h : L[j]? = some t) => (let ⟨y, h1, _⟩ := hya j t h; (⟨y, h1⟩ : ∃ y, ys[j]? = some y))
    clear hyf htk hye hya hR HAT HTK
    rintro e w3 ⟨A9, n9, c9, rfl, hrl, hb1⟩
    have hn9 : nL = n9 := by rw [← hrl.len, hyl, HNL.out]
    have HHB := Lib.hid hb1
    have hb3 := hb.trans (hb1.mono hb.size)
    obtain ⟨b9, o9, ky, hy, Ay, ny, cy, rfl, d0, d1, d2, hry⟩ := (hrl.at_ kk y HYE.out).full
    have HRL := Lib.hid hrl
    have HRY := Lib.hid (RdF.rd _ _ hry)
    have HN9 := Lib.hid hn9
    replace c0 := (hb1.cell (cell_lt c0)).trans c0
    replace c1 := (hb1.cell (cell_lt c1)).trans c1
    replace c2 := (hb1.cell (cell_lt c2)).trans c2
    clear hrl hry hb1 hn9 hyl
    go_wp2_with fail
    refine (HC2.out _ hb3).mono ?_
    clear HC2
    have hq2 : cxL H n (L.take kk) = .ok (ys.take kk, c') := HTK2.out
    rw [hq2]
    clear hq2
    rintro e w4 ⟨A4, n4, c4, rfl, hrl4, hb4⟩
    have hn4 : kk = n4 := by
      have h1 := hrl4.len
      have h2 := HRL.out.len
      have h3 := HN9.out
      rw [List.length_take] at h1
      omega
    have HRL4 := Lib.hid hrl4
    have HN4 := Lib.hid hn4
    have hb5 := hb3.trans (hb4.mono hb3.size)
    have HH4 := Lib.hid (HHB.out.trans (hb4.mono HHB.out.size))
    have HB34 := Lib.hid hb4
    replace c0 := (hb4.cell (cell_lt c0)).trans c0
    replace c1 := (hb4.cell (cell_lt c1)).trans c1
    replace c2 := (hb4.cell (cell_lt c2)).trans c2
    replace d0 := (hb4.cell (cell_lt d0)).trans d0
    replace d1 := (hb4.cell (cell_lt d1)).trans d1
    replace d2 := (hb4.cell (cell_lt d2)).trans d2
    clear hrl4 hb4 hn4
    have hadd : IntKind.i64.wrap (n + (kk : Int)) = n + kk := by rw [wrapEq, hw1]
    go_wp2_with fail
    refine (HFL.out _ HH4.out).mono ?_
    clear HFL
    rw [HYF.out]
    rintro e w5 ⟨kq, hq, Aq, nq, cq, rfl, hrd, hb6⟩
    have hbD : Below w5.heap.size w5 (w5.alloc (.cells #[.int .i64 kq, .int .i64 hq, .slice Aq nq cq] 24)) := (Below.refl _ _).alloc (Nat.le_refl _) _
    have hb46 := hb6.trans (hbD.mono hb6.size)
    have xq := Box.new w5 24 #[.int .i64 kq, .int .i64 hq, .slice Aq nq cq]
    have HVq := Lib.hid (Rd.keep hbD _ _ (RdF.rd _ _ hrd))
    have HRY2 := Lib.hid (Rd.keep (HB34.out.trans (hb46.mono HB34.out.size)) _ _ HRY.out)
    have HB36 := Lib.hid (HB34.out.trans (hb46.mono HB34.out.size))
    have HB46 := Lib.hid hb46
    have HB7 := Lib.hid (hb5.trans (hb46.mono hb5.size))
    replace d0 := (hb46.cell (cell_lt d0)).trans d0
    replace d1 := (hb46.cell (cell_lt d1)).trans d1
    replace d2 := (hb46.cell (cell_lt d2)).trans d2
    clear c0 c1 c2 hrd hb6 hbD hb46
    have hlen9 : ((n9 : Int) != (nL : Int)) = false := by rw [← HN9.out]; simp
    have hlen4 : ((n4 : Int) != (kk : Int)) = false := by rw [← HN4.out]; simp
    have hk9 : (kk : Int) < n9 := by rw [← HN9.out]; exact hkl
    go_wp2_with fail
    generalize w5.alloc (.cells #[.int .i64 kq, .int .i64 hq, .slice Aq nq cq] 24) = W6 at *
    have HK : Hid (∀ w', Below W6.heap.size W6 w' → (w'.cell? ⟨b9, o9 + kk * 3, none⟩ = some (.int .i64 ky) ∧ w'.cell? ⟨b9, o9 + kk * 3 + 1, none⟩ = some (.int .i64 hy) ∧ w'.cell? ⟨b9, o9 + kk * 3 + 2, none⟩ = some (.slice Ay ny cy) ∧ w'.cell? ⟨w5.heap.size, 0, none⟩ = some (.int .i64 kq) ∧ w'.cell? ⟨w5.heap.size, 1, none⟩ = some (.int .i64 hq) ∧ w'.cell? ⟨w5.heap.size, 2, none⟩ = some (.slice Aq nq cq))) := Lib.hid fun w' h => by
      have z := xq.keep h xq.lt
      exact ⟨(h.cell (cell_lt d0)).trans d0, (h.cell (cell_lt d1)).trans d1, (h.cell (cell_lt d2)).trans d2, z.three.1, z.three.2.1, z.three.2.2⟩
    have HSA := Lib.hid fun (W : World) (h : Below W6.heap.size W6 W) => termSame y y _ _ W (Rd.keep h _ _ HRY2.out) (Rd.keep h _ _ HVq.out)
    rw [sam_refl] at HSA
    have hcur : Below W6.heap.size W6 W6.drew := (Below.refl _ _).drew
    clear d0 d1 d2
    go_region_held3 (fun w' => w'.cell? ⟨b9, o9 + kk * 3, none⟩ = some (.int .i64 ky) ∧ w'.cell? ⟨b9, o9 + kk * 3 + 1, none⟩ = some (.int .i64 hy) ∧ w'.cell? ⟨b9, o9 + kk * 3 + 2, none⟩ = some (.slice Ay ny cy) ∧ w'.cell? ⟨w5.heap.size, 0, none⟩ = some (.int .i64 kq) ∧ w'.cell? ⟨w5.heap.size, 1, none⟩ = some (.int .i64 hq) ∧ w'.cell? ⟨w5.heap.size, 2, none⟩ = some (.slice Aq nq cq))
      (exact HK.out _ hcur)
      (first
        | (go_at_call 22
           refine (HSA.out _ hcur).mono ?_
           rintro e w7 ⟨rfl, hb7⟩
           replace hcur := hcur.trans (hb7.mono hcur.size)
           clear hb7))
    have HCU := Lib.hid hcur; clear hcur HK HSA
    clear hlen9 hlen4 hadd hw1
    go_wp2_with fail
    go_loopw [18] (fun i wr => ∃ (j : Nat), j ≤ kk ∧ i = .int .i64 j ∧ Hid (Below w7.heap.size w7 wr)) (fun i _ => kk - (intOf i).toNat)
    case atStart => exact ⟨0, Nat.zero_le _, rfl, Lib.hid (Below.refl _ _)⟩
    case round =>
      obtain ⟨i, hj, rfl, HBR⟩ := hrel
      have HBW := Lib.hid (HCU.out.trans (HBR.out.mono HCU.out.size))
      by_cases hlt : i < kk
      · obtain ⟨t0, ht0⟩ := at_of HNL.out (show i < nL by omega)
        obtain ⟨z, hz⟩ := HYA.out i t0 ht0
        obtain ⟨ba, oa, k2, h2, A2, n2, c2, hAe, e0, e1, e2, hr⟩ := (HRL.out.at_ i z hz).full
        have hzt : (ys.take kk)[i]? = some z := by rw [List.getElem?_take_of_lt hlt]; exact hz
        obtain ⟨bb, ob, k3, h3, A3, n3, c3, hBe, g0, g1, g2, hr'⟩ := (HRL4.out.at_ i z hzt).full
        have hb36 := HB36.out.trans (HBW.out.mono HB36.out.size)
        have hb46 := HB46.out.trans (HBW.out.mono HB46.out.size)
        replace e0 := (hb36.cell (cell_lt e0)).trans e0
        replace e1 := (hb36.cell (cell_lt e1)).trans e1
        replace e2 := (hb36.cell (cell_lt e2)).trans e2
        replace g0 := (hb46.cell (cell_lt g0)).trans g0
        replace g1 := (hb46.cell (cell_lt g1)).trans g1
        replace g2 := (hb46.cell (cell_lt g2)).trans g2
        simp only [Option.some.injEq, Addr.mk.injEq] at hAe
        obtain ⟨rfl, rfl, _⟩ := hAe
        subst hBe
        have HR1 := Lib.hid (Rd.keep hb36 _ _ (RdF.rd _ _ hr))
        have HR2 := Lib.hid (Rd.keep hb46 _ _ (RdF.rd _ _ hr'))
        clear hr hr' hb36 hb46 ht0 hz hzt
        have HK : Hid (∀ w', Below wr.heap.size wr w' → (w'.cell? ⟨b9, o9 + i * 3, none⟩ = some (.int .i64 k2) ∧ w'.cell? ⟨b9, o9 + i * 3 + 1, none⟩ = some (.int .i64 h2) ∧ w'.cell? ⟨b9, o9 + i * 3 + 2, none⟩ = some (.slice A2 n2 c2) ∧ w'.cell? ⟨bb, ob + i * 3, none⟩ = some (.int .i64 k3) ∧ w'.cell? ⟨bb, ob + i * 3 + 1, none⟩ = some (.int .i64 h3) ∧ w'.cell? ⟨bb, ob + i * 3 + 2, none⟩ = some (.slice A3 n3 c3))) := Lib.hid fun w' h =>
          ⟨(h.cell (cell_lt e0)).trans e0, (h.cell (cell_lt e1)).trans e1, (h.cell (cell_lt e2)).trans e2, (h.cell (cell_lt g0)).trans g0, (h.cell (cell_lt g1)).trans g1, (h.cell (cell_lt g2)).trans g2⟩
        have HSA := Lib.hid fun (W : World) (h : Below wr.heap.size wr W) => termSame z z _ _ W (Rd.keep h _ _ HR1.out) (Rd.keep h _ _ HR2.out)
        rw [sam_refl] at HSA
        have hcur : Below wr.heap.size wr wr.drew := (Below.refl _ _).drew
        have hi0 : (0 : Int) ≤ i := by omega
        have hi1 : (i : Int) < kk := by omega
        have hi9 : (i : Int) < n9 := by omega
        have hi4 : (i : Int) < n4 := by rw [← HN4.out]; exact hi1
        clear e0 e1 e2 g0 g1 g2
        go_wp2_with fail
        go_region_held3 (fun w' => w'.cell? ⟨b9, o9 + i * 3, none⟩ = some (.int .i64 k2) ∧ w'.cell? ⟨b9, o9 + i * 3 + 1, none⟩ = some (.int .i64 h2) ∧ w'.cell? ⟨b9, o9 + i * 3 + 2, none⟩ = some (.slice A2 n2 c2) ∧ w'.cell? ⟨bb, ob + i * 3, none⟩ = some (.int .i64 k3) ∧ w'.cell? ⟨bb, ob + i * 3 + 1, none⟩ = some (.int .i64 h3) ∧ w'.cell? ⟨bb, ob + i * 3 + 2, none⟩ = some (.slice A3 n3 c3))
          (exact HK.out _ hcur)
          (first
            | (go_at_call 22
               refine (HSA.out _ hcur).mono ?_
               rintro e w9 ⟨rfl, hb9⟩
               replace hcur := hcur.trans (hb9.mono hcur.size)
               clear hb9))
        have HCU2 := Lib.hid hcur; clear hcur HK HSA
        go_wp2_with fail
        go_roundw
        case rel => exact ⟨i + 1, by omega, by go_num, Lib.hid (HBR.out.trans (HCU2.out.mono HBR.out.size))⟩
        case measure => simp [intOf]; omega
      · have hjn : i = kk := by omega
        subst hjn
        have hcl : clN (i : Int) = i := by unfold clN; rw [if_neg (by omega), if_neg (by omega)]; omega
        have hSM := SameC (i : Int) wr
        rw [hcl] at hSM
        have HBE := Lib.hid (HB7.out.trans (HBW.out.mono HB7.out.size))
        have hfd : ∀ (A : Option Addr) (n c : Nat) (x : Int) (W : World), (Instr.field 41 (.agg #[.slice A n c, .int .i64 x]) 0).run Try.prog W = .ok (.slice A n c) W := fun A n c x W => by kernel_rfl
        have HSM := Lib.hid hSM
        clear hSM hcl
        go_wp2_with fail
        refine HSM.out.mono ?_
        clear HSM
        rintro e w9 ⟨Aw, nw, cw, rfl, hrl, hb9⟩
        have hnw : nw = i := by rw [← hrl.len, vsL_len]
        subst hnw
        have HBF := Lib.hid (HBE.out.trans (hb9.mono HBE.out.size))
        clear hrl hb9
        go_wp2_with fail
        go_ret
        exact ⟨rfl, HBF.out⟩
end Go.Proofs.Ytaccaamdbfccmaa
