/-
  Contract of package meta's All, and the walk of the law MetaTwice.
-/
import Derived.Test.YtaccaamdbfccmaaKn
namespace Go.Proofs.Ytaccaamdbfccmaa
open Go.ChangeShapes Go.WideShapes Go.ChangeAt Go.RowKit
set_option linter.unusedVariables false
set_option maxRecDepth 100000

theorem stFunc (w1 : World) (ty : TypeId) (fn : Fn) (a b : Array Value) : Sem.run Try.prog (store ⟨w1.heap.size, 0, none⟩ (.func fn a b)) (w1.alloc (.cells #[.nilFunc] ty)) = .ok () (w1.alloc (.cells #[.func fn a b] ty)) := by
  rw [run_store _ _ _ _ _ rfl]
  simp [go_sem]
set_option maxHeartbeats 4000000 in
theorem closAC {th : List T} {t : T} {A Al : Option Addr} {m cL nl cl : Nat} {n : Int} {pm pt pF pL : Nat} (i : Nat) (w : World) (hth : ThI th w A m cL) (hv : RdAt w Al i t) (hi : i < nl) (ho : myB t = true → okT 2199023255552 t)
    (xm : Box w pm 4 #[.bool (thB th)]) (xt : Box w pt 22 #[.slice A m cL])
    (xF : Box w pF 49 #[.func (.func 46) #[] #[.pointer (some ⟨pm, 0, none⟩), .pointer (some ⟨pt, 0, none⟩)]]) (xL : Box w pL 22 #[.slice Al nl cl]) :
    Calls Try.prog 36 #[.int .i64 i, .int .i64 n, .pointer (some ⟨pF, 0, none⟩), .pointer (some ⟨pL, 0, none⟩)] w (FnE (fiR th n t) w) := by
  obtain ⟨b, o, k, h, At, nt, ct, rfl, c0, c1, c2, hr⟩ := hv.full
  obtain ⟨W, hW⟩ : ∃ W, w.alloc (.cells #[.int .i64 0, .int .i64 0, .slice none 0 0] 24) = W := ⟨_, rfl⟩
  have hb : Below w.heap.size w W := by rw [← hW]; exact (Below.refl _ _).alloc (Nat.le_refl _) _
  have x1 : Box W w.heap.size 24 #[.int .i64 0, .int .i64 0, .slice none 0 0] := by rw [← hW]; exact Box.new _ _ _
  have HCL := Lib.hid fun (W' : World) (h' : Below W.heap.size W W') => (byFC (n := n) (pm := pm) (pt := pt) W' hth.len hth.le hth.cap (hth.keep (hb.trans (h'.mono hb.size))).at_ ((xm.keep hb xm.lt).keep h' (xm.keep hb xm.lt).lt) ((xt.keep hb xt.lt).keep h' (xt.keep hb xt.lt).lt) (Rd.keep (hb.trans (h'.mono hb.size)) _ _ hr) hth.ok ho)
  generalize fiR th n t = R at *
  have HK : Hid (∀ w', Below w.heap.size w w' → (w'.cell? ⟨pF, 0, none⟩ = some (.func (.func 46) #[] #[.pointer (some ⟨pm, 0, none⟩), .pointer (some ⟨pt, 0, none⟩)]) ∧ w'.cell? ⟨pL, 0, none⟩ = some (.slice (some ⟨b, o, none⟩) nl cl) ∧ w'.cell? ⟨b, o + i * 3, none⟩ = some (.int .i64 k) ∧ w'.cell? ⟨b, o + i * 3 + 1, none⟩ = some (.int .i64 h) ∧ w'.cell? ⟨b, o + i * 3 + 2, none⟩ = some (.slice At nt ct))) := Lib.hid fun w' hbb => by
    exact ⟨(xF.keep hbb xF.lt).one.1, (xL.keep hbb xL.lt).one.1, (hbb.cell (cell_lt c0)).trans c0, (hbb.cell (cell_lt c1)).trans c1, (hbb.cell (cell_lt c2)).trans c2⟩
  have HW := Lib.hid hW; clear hW hth hv ho xm xt xF xL c0 c1 c2 hr
  have HB := Lib.hid hb; clear hb
  have hi0 : (0 : Int) ≤ i := by omega
  have hi1 : (i : Int) < nl := by omega
  go_enter Try.func36, Try.ntmps36
  go_wp2_with fail
  rw [HW.out]
  clear HW
  have hcur : Below W.heap.size W W.drew := (Below.refl _ _).drew
  have szW := HB.out.size
  have s5 := x1.lt
  go_region_held3 (fun w' => w'.cell? ⟨pF, 0, none⟩ = some (.func (.func 46) #[] #[.pointer (some ⟨pm, 0, none⟩), .pointer (some ⟨pt, 0, none⟩)]) ∧ w'.cell? ⟨pL, 0, none⟩ = some (.slice (some ⟨b, o, none⟩) nl cl) ∧ w'.cell? ⟨b, o + i * 3, none⟩ = some (.int .i64 k) ∧ w'.cell? ⟨b, o + i * 3 + 1, none⟩ = some (.int .i64 h) ∧ w'.cell? ⟨b, o + i * 3 + 2, none⟩ = some (.slice At nt ct))
    (first | exact HK.out _ (HB.out.trans (hcur.mono HB.out.size)) | exact HK.out _ (below_set3 (HB.out.trans (hcur.mono HB.out.size)) (Nat.le_refl _) _ _ _))
    (first
      | (go_at_call 46
         refine (HCL.out _ hcur).mono ?_
         intro e w2 hE
         have hbE := hE.below
         obtain ⟨k3, h3, A3, n3, c3, ec, rfl, hout, hfr⟩ := (hE.cen (X := fun _ => False) (c := 0)).uni
         have HCA := Lib.hid hcur
         replace hcur := hcur.trans (hbE.mono hcur.size)
         have r2 := x1.keep hcur x1.lt
         have s2 := r2.lt
         have HO := Lib.hid hout
         have HBE := Lib.hid hbE
         clear hout hE hfr hbE
         obtain ⟨y0, y1, y2⟩ := r2.three
         have f0 := r2.frozen 0
         have f1 := r2.frozen 1
         have f2 := r2.frozen 2))
  go_wp2_with fail
  refine bodyPost_ret (v := .tuple #[.agg #[.int .i64 k3, .int .i64 h3, .slice A3 n3 c3], .int .i64 ec]) (by simp [results, Try.results36, go_sem, y0, y1, y2]) rfl ?_
  have s3 := HCA.out.size
  have s4 := HBE.out.size
  exact fne_of (HO.out.move (B' := w.heap.size) (by omega) (fun g hg _ => heap_other3 _ _ _ _ _ _ (by omega)) fun _ _ _ _ => trivial) (below_set3 (HB.out.trans (hcur.mono HB.out.size)) (Nat.le_refl _) _ _ _)

/-- what becomes of terms, each in so many entries -/
def alR (th l : List T) (ns : List Int) : Except Int (List T × Nat) :=
  if ns.length = l.length then eaI (fun i n c => wc (fiR th n (l.getD i (.node 0 0 []))) c) ns 0 0 else .error 1
/-- how All ends -/
def LmE (r : Except Int (List T × Nat)) (w : World) (e : Ending) (w' : World) : Prop :=
  match r with
  | .error ec => e = .returned (.tuple #[.slice none 0 0, .int .i64 ec]) ∧ ec ≠ 0 ∧ Below w.heap.size w w'
  | .ok (ys, _) => ∃ A n cc, e = .returned (.tuple #[.slice A n cc, .int .i64 0]) ∧ RXL (fun b => b < w.heap.size) w' ys A n cc ∧ Below w.heap.size w w'
theorem GEn.lme {St : Nat → World → Prop} {r : Except Int (List T × Nat)} {w0 w w' : World} {e : Ending} (h : GEn (fun _ => False) St w r e w') (hb : Below w0.heap.size w0 w) : LmE r w0 e w' := by
  cases r with
  | error ec =>
    obtain ⟨h1, h2, h3⟩ := h
    exact ⟨h1, h2, hb.trans (h3.to_below (fun i e => e.elim) hb.size)⟩
  | ok p =>
    obtain ⟨ys, c⟩ := p
    obtain ⟨A, n, cc, rfl, h2, h3, _⟩ := h
    exact ⟨A, n, cc, rfl, ⟨h2.len, h2.le, h2.cap, fun i t ht => RdFAt.moveX (fun b hb' hl => ⟨by have := hb.size; omega, rfl⟩) (h2.at_ i t ht)⟩, hb.trans (h3.to_below (fun i e => e.elim) hb.size)⟩

set_option maxHeartbeats 4000000 in
theorem AllC {th xs : List T} {ns : List Int} {A Al An : Option Addr} {m cL nl cl nn cn : Nat} (w : World) (hth : ThI th w A m cL) (hl : xs.length = nl) (hlc : nl ≤ cl) (hlm : cl ≤ maxLen) (hl40 : nl ≤ 3518437208780) (hx : ∀ i t, xs[i]? = some t → RdAt w Al i t) (ho : ∀ t ∈ xs, myB t = true → okT 2199023255552 t)
    (hnl : ns.length = nn) (hnc : nn ≤ cn) (hnm : cn ≤ maxLen) (hnx : ∀ i t, ns[i]? = some t → IntAt w An i t) :
    Calls Try.prog 18 #[.slice Al nl cl, .slice A m cL, .slice An nn cn] w (LmE (alR th xs ns) w) := by
  have hmf : ∀ (fn : Fn) (first cap : Array Value) (w : World), (Instr.makeFunc fn first cap).run Try.prog w = .ok (.func fn first cap) w := fun _ _ _ _ => rfl
  obtain ⟨W, hW⟩ : ∃ W, w.alloc (.cells #[.slice Al nl cl] 22) = W := ⟨_, rfl⟩
  have hb : Below w.heap.size w W := by rw [← hW]; exact (Below.refl _ _).alloc (Nat.le_refl _) _
  have x0 : Box W w.heap.size 22 #[.slice Al nl cl] := by rw [← hW]; exact Box.new _ _ _
  by_cases hne : nn = nl
  case neg =>
    have hd : ((nn : Int) != (nl : Int)) = true := by simp; omega
    have hR : alR th xs ns = .error 1 := by unfold alR; rw [if_neg (by omega)]
    rw [hR]
    have HB := Lib.hid hb
    have HW := Lib.hid hW
    clear hx hnx ho hth hb hW x0 hR hmf
    go_enter Try.func18, Try.ntmps18
    go_wp2_with fail
    go_ret2
    exact ⟨rfl, by decide, (Below.refl _ _).alloc (Nat.le_refl _) _⟩
  have hd : ((nn : Int) != (nl : Int)) = false := by simp; omega
  have hR : alR th xs ns = eaI (fun i n c => wc (fiR th n (xs.getD i (.node 0 0 []))) c) ns 0 0 := by unfold alR; rw [if_pos (by omega)]
  rw [hR]
  have HBY := Lib.hid (byC W hth.len hth.le hth.cap (hth.keep hb).at_)
  have HE : Hid (∀ W2 pm pt pF, Below w.heap.size w W2 → Box W2 pm 4 #[.bool (thB th)] → Box W2 pt 22 #[.slice A m cL] → Box W2 pF 49 #[.func (.func 46) #[] #[.pointer (some ⟨pm, 0, none⟩), .pointer (some ⟨pt, 0, none⟩)]] → Box W2 w.heap.size 22 #[.slice Al nl cl] →
      Calls Try.prog 35 #[.slice An nn cn, .func (.func 36) #[] #[.pointer (some ⟨pF, 0, none⟩), .pointer (some ⟨w.heap.size, 0, none⟩)]] W2 (GEn (fun _ => False) (fun _ _ => True) W2 (eaI (fun i n c => wc (fiR th n (xs.getD i (.node 0 0 []))) c) ns 0 0))) := Lib.hid fun W2 pm pt pF h2 xm xt xF xN =>
    eachAC (X := fun _ => False) (St := fun _ _ => True) (p1 := .pointer (some ⟨pF, 0, none⟩)) (p2 := .pointer (some ⟨w.heap.size, 0, none⟩)) (wB := w) (w := W2) (A := An) (n := nn) (c := cn) (c0 := 0) (M := 0) ns (fun i n c => wc (fiR th n (xs.getD i (.node 0 0 []))) c)
      h2 hnl hnc hnm (by omega) hnx (fun b e => e.elim) (fun _ _ _ _ _ _ => trivial) trivial
      (fun i t W' c' ht hfr hst => by
        have hbw := hfr.to_below (B := W2.heap.size) (fun i e => e.elim) (Nat.le_refl _)
        have hb' := h2.trans (hbw.mono h2.size)
        have hi : i < nl := by have := (List.getElem?_eq_some_iff.1 ht).1; omega
        have hil : i < xs.length := by omega
        have he : xs[i]? = some (xs.getD i (.node 0 0 [])) := by rw [List.getD_eq_getElem?_getD, List.getElem?_eq_getElem hil]; rfl
        exact (closAC (th := th) (n := t) (nl := nl) (cl := cl) i W' (hth.keep hb') (RdAt.keep hb' (hx i _ he)) hi (ho _ (List.mem_of_getElem? he)) (xm.keep hbw xm.lt) (xt.keep hbw xt.lt) (xF.keep hbw xF.lt) (xN.keep hbw xN.lt)).mono fun e w' h => h.cen)
  have HW := Lib.hid hW; clear hW hx hnx ho hth hl hlc hlm hl40 hR hne
  have HB := Lib.hid hb; clear hb
  generalize eaI (fun i n c => wc (fiR th n (xs.getD i (.node 0 0 []))) c) ns 0 0 = R at *
  go_enter Try.func18, Try.ntmps18
  go_wp2_with fail
  rw [HW.out]
  clear HW
  refine HBY.out.mono ?_
  clear HBY
  rintro e w1 ⟨pm, pt, rfl, xm, xt, hb1⟩
  have hbw := HB.out.trans (hb1.mono HB.out.size)
  have y0 := x0.keep hb1 x0.lt
  have hbF : Below w1.heap.size w1 (w1.alloc (.cells #[.func (.func 46) #[] #[.pointer (some ⟨pm, 0, none⟩), .pointer (some ⟨pt, 0, none⟩)]] 49)) := (Below.refl _ _).alloc (Nat.le_refl _) _
  have hbw2 := hbw.trans (hbF.mono hbw.size)
  have HC := Lib.hid (HE.out _ pm pt w1.heap.size hbw2 (xm.keep hbF xm.lt) (xt.keep hbF xt.lt) (Box.new _ _ _) (y0.keep hbF y0.lt))
  have HB2 := Lib.hid hbw2
  have hsf := stFunc w1 49 (.func 46) #[] #[.pointer (some ⟨pm, 0, none⟩), .pointer (some ⟨pt, 0, none⟩)]
  clear hbw2 hbF hbw y0 hb1 xm xt x0 HE
  go_wp2_with fail
  refine HC.out.mono ?_
  clear HC
  intro e w3 hE
  have hL := hE.lme HB2.out
  cases R with
  | error ec =>
    obtain ⟨rfl, hne, hb3⟩ := hL
    have HL := Lib.hid hb3
    have HNE := Lib.hid hne
    clear hb3 hE hne
    go_wp2_with fail
    go_ret2
    exact ⟨rfl, HNE.out, HL.out⟩
  | ok p =>
    obtain ⟨ys, c⟩ := p
    obtain ⟨A9, n9, c9, rfl, hrl, hb3⟩ := hL
    have HL := Lib.hid (And.intro hrl hb3)
    clear hb3 hE hrl
    go_wp2_with fail
    go_ret2
    exact ⟨A9, n9, c9, rfl, HL.out.1, HL.out.2⟩
/-! ### The law -/
theorem eaI_at {F : Nat → Int → Except Int T} : ∀ (xs : List Int) (i c : Nat) (ys : List T) (c' : Nat), eaI (fun i t c => wc (F i t) c) xs i c = .ok (ys, c') → ys.length = xs.length ∧ ∀ (j : Nat) (t : Int), xs[j]? = some t → ∃ y, ys[j]? = some y ∧ F (i + j) t = .ok y
  | [], i, c, ys, c', h => by
    rw [eaI] at h
    cases h
    exact ⟨rfl, fun j t ht => by simp at ht⟩
  | x :: xs, i, c, ys, c', h => by
    rw [eaI] at h
    cases hF : F i x with
    | error e => simp [hF, wc] at h
    | ok y =>
      simp only [hF, wc] at h
      split at h
      · cases h
      · rename_i zs c2 hz
        cases h
        obtain ⟨h1, h2⟩ := eaI_at xs (i + 1) c zs c' hz
        refine ⟨by simp [h1], fun j t ht => ?_⟩
        cases j with
        | zero =>
          simp only [List.getElem?_cons_zero, Option.some.injEq] at ht
          subst ht
          exact ⟨y, by simp, hF⟩
        | succ j =>
          simp only [List.getElem?_cons_succ] at ht
          obtain ⟨y', hy, hf⟩ := h2 j t ht
          exact ⟨y', by simpa using hy, by rw [← hf]; congr 1; omega⟩
theorem al_at {E H ys : List T} {c : Nat} (h : alR E H (List.replicate H.length 0) = .ok (ys, c)) : ys.length = H.length ∧ ∀ (i : Nat) (s : T), H[i]? = some s → ∃ u, ys[i]? = some u ∧ fiR E 0 s = .ok u := by
  unfold alR at h
  rw [if_pos (by simp)] at h
  obtain ⟨h1, h2⟩ := eaI_at (F := fun i n => fiR E n (H.getD i (.node 0 0 []))) _ 0 0 ys c h
  refine ⟨by simpa using h1, fun i s hs => ?_⟩
  have hi := (List.getElem?_eq_some_iff.1 hs).1
  obtain ⟨y, hy, hf⟩ := h2 i 0 (by rw [List.getElem?_replicate, if_pos hi])
  refine ⟨y, hy, ?_⟩
  rw [Nat.zero_add, List.getD_eq_getElem?_getD, hs] at hf
  exact hf
mutual
theorem ok_bare {th : List T} (hth : ∀ x ∈ th, myB x = true) (hok : ∀ x ∈ th, okT 1099511627776 x) : ∀ (t : T) (n : Int) (x : T), barB t = true → okT 1099511627776 t → 0 ≤ n → n + dp t ≤ 1000 → flT th t n = .ok x → okT 2199023255552 x
  | .node k h xs, n, x, hb, ho, h0, hn, hr => by
    have hdp : dp (.node k h xs) = 1 + dpL xs := by rw [dp]
    by_cases hk : k = 6
    · subst hk
      have := bare_meta hb
      subst this
      rw [fl_bare hth ⟨h0, by omega⟩] at hr
      split at hr
      · cases hr
      · rename_i hlt
        cases hr
        have hx : okT 1099511627776 (th.getD h.toNat (.node 0 0 [])) := by
          rcases Nat.lt_or_ge h.toNat th.length with hl | hl
          · exact hok _ (getD_mem _ hl)
          · rw [List.getD_eq_getElem?_getD, List.getElem?_eq_none hl]
            simp [okT, okL]
        exact okT_mono (by omega) _ (okT_up h0 _ 0 hx)
    · obtain ⟨ys, hy, rfl⟩ := fl_node hk hr
      rw [okT] at ho ⊢
      exact ⟨fun e => ⟨(ho.1 e).1, by have := (ho.1 e).2; omega⟩, okL_bare hth hok k xs.length xs 0 n ys (bare_args hb) ho.2 h0 (by omega) hy⟩
theorem okL_bare {th : List T} (hth : ∀ x ∈ th, myB x = true) (hok : ∀ x ∈ th, okT 1099511627776 x) (k : Int) (m : Nat) : ∀ (xs : List T) (i : Nat) (n : Int) (ys : List T), barL xs = true → okL 1099511627776 xs → 0 ≤ n → n + dpL xs + 1 ≤ 1000 → flL th k m xs i n = .ok ys → okL 2199023255552 ys
  | [], i, n, ys, _, _, _, _, hr => by
    rw [flL] at hr
    cases hr
    rw [okL]
    trivial
  | x :: xs, i, n, ys, hb, ho, h0, hn, hr => by
    obtain ⟨y, zs, hy, hz, rfl⟩ := flL_cons hr
    rw [barL, Bool.and_eq_true] at hb
    rw [dpL] at hn
    rw [okL] at ho ⊢
    have hbd := bd_le k m i
    exact ⟨ok_bare hth hok x _ y hb.1 ho.1 (by omega) (by omega) hy, okL_bare hth hok k m xs (i + 1) n zs hb.2 ho.2 h0 (by omega) hz⟩
end
def lT : Except Int (List T × Nat) → List T
  | .ok (ys, _) => ys
  | .error _ => []
def lE : Except Int (List T × Nat) → Int
  | .ok _ => 0
  | .error e => e
theorem LmE.uni {r : Except Int (List T × Nat)} {w w' : World} {e : Ending} (h : LmE r w e w') : (∃ A n cc, e = .returned (.tuple #[.slice A n cc, .int .i64 (lE r)]) ∧ RXL (fun b => b < w.heap.size) w' (lT r) A n cc) ∧ Below w.heap.size w w' := by
  cases r with
  | error ec =>
    obtain ⟨rfl, _, hb⟩ := h
    exact ⟨⟨none, 0, 0, rfl, ⟨rfl, Nat.le_refl _, Nat.zero_le _, fun i t ht => by simp [lT] at ht⟩⟩, hb⟩
  | ok p =>
    obtain ⟨ys, c⟩ := p
    obtain ⟨A, n, cc, rfl, hr, hb⟩ := h
    exact ⟨⟨A, n, cc, rfl, hr⟩, hb⟩
theorem fi_err {th : List T} {n e : Int} {t : T} (h : fiR th n t = .error e) : e ≠ 0 := by
  unfold fiR at h
  split at h
  · split at h
    · rename_i e' he
      cases h
      exact fl_err th t n e he
    · split at h
      · cases h
      · cases h; omega
  · cases h; omega
theorem fi_zero {th : List T} {n : Int} {t : T} (h : exE (fiR th n t) = 0) : fiR th n t = .ok (exT (fiR th n t)) := by
  cases hr : fiR th n t with
  | error e => rw [hr] at h; exact absurd h (fi_err hr)
  | ok u => rfl
theorem wc_err {r : Except Int T} {c : Nat} {e : Int} (h : wc r c = .error e) : r = .error e := by
  cases r with
  | error e' => cases h; rfl
  | ok t => cases h
theorem eaI_err {F : Nat → Int → Except Int T} (hF : ∀ i n e, F i n = .error e → e ≠ 0) : ∀ (xs : List Int) (i c : Nat) (e : Int), eaI (fun i t c => wc (F i t) c) xs i c = .error e → e ≠ 0
  | [], i, c, e, h => by
    rw [eaI] at h
    cases h
  | x :: xs, i, c, e, h => by
    rw [eaI] at h
    split at h
    · rename_i e' he
      cases h
      exact hF _ _ _ (wc_err he)
    · split at h
      · rename_i e' he
        cases h
        exact eaI_err hF xs _ _ _ he
      · cases h
theorem al_zero {E H : List T} {ns : List Int} (h : lE (alR E H ns) = 0) : ∃ c, alR E H ns = .ok (lT (alR E H ns), c) := by
  cases hr : alR E H ns with
  | error e =>
    rw [hr] at h
    unfold alR at hr
    split at hr
    · exact absurd h (eaI_err (F := fun i n => fiR E n (H.getD i (.node 0 0 []))) (fun i n e he => fi_err he) _ _ _ _ hr)
    · cases hr
      simp [lE] at h
  | ok p =>
    obtain ⟨ys, c⟩ := p
    exact ⟨c, rfl⟩
/-- what the law needs of the four answers -/
theorem twice_fill {t : T} {H E : List T} (kt : Kn 200 60 t) (hb : barB t = true) (hH : ∀ x ∈ H, Kn 200 60 x ∧ barB x = true) (hE : ∀ x ∈ E, Kn 200 60 x) :
    okT 2199023255552 (exT (fiR H 0 t)) ∧ (∀ u ∈ lT (alR E H (List.replicate H.length 0)), okT 2199023255552 u) ∧
    (exE (fiR H 0 t) = 0 → exE (fiR E 0 (exT (fiR H 0 t))) = 0 → lE (alR E H (List.replicate H.length 0)) = 0 → exE (fiR (lT (alR E H (List.replicate H.length 0))) 0 t) = 0 → exT (fiR E 0 (exT (fiR H 0 t))) = exT (fiR (lT (alR E H (List.replicate H.length 0))) 0 t)) := by
  have hz : okT 2199023255552 (.node 0 0 []) := by simp [okT, okL]
  have hd := kt.dp
  have hHm : ∀ x ∈ H, myB x = true := fun x hx => (hH x hx).1.my
  have hEm : ∀ x ∈ E, myB x = true := fun x hx => (hE x hx).my
  refine ⟨?_, ?_, fun h1 h2 h3 h4 => ?_⟩
  · cases hr : fiR H 0 t with
    | error e => exact hz
    | ok x =>
      obtain ⟨_, _, _, _, h5, _⟩ := fi_ok hr
      exact ok_bare hHm (fun x hx => (hH x hx).1.ok) t 0 x hb kt.ok (by omega) (by omega) h5
  · intro u hu
    cases hr : alR E H (List.replicate H.length 0) with
    | error e => rw [hr] at hu; simp [lT] at hu
    | ok p =>
      obtain ⟨ys, c⟩ := p
      rw [hr] at hu
      obtain ⟨h1, h2⟩ := al_at hr
      obtain ⟨i, hi⟩ := List.getElem?_of_mem (show u ∈ ys from hu)
      have hl : i < H.length := by have := (List.getElem?_eq_some_iff.1 hi).1; omega
      obtain ⟨u', hu', hf⟩ := h2 i _ (List.getElem?_eq_getElem hl)
      rw [hi] at hu'
      cases hu'
      have hm := hH _ (List.getElem_mem hl)
      obtain ⟨_, _, _, _, h5, _⟩ := fi_ok hf
      exact ok_bare hEm (fun x hx => (hE x hx).ok) _ 0 u hm.2 hm.1.ok (by omega) (by have := hm.1.dp; omega) h5
  · have e1 := fi_zero h1
    have e2 := fi_zero h2
    obtain ⟨c, e3⟩ := al_zero h3
    have e4 := fi_zero h4
    obtain ⟨_, _, _, _, f1, _⟩ := fi_ok e1
    obtain ⟨_, _, _, _, f2, _⟩ := fi_ok e2
    obtain ⟨g1, _, _, _, f4, _⟩ := fi_ok e4
    obtain ⟨a1, a2⟩ := al_at e3
    exact fl_twice hHm hEm (thB_all g1) a1 (fun x hx => (hH x hx).2) (fun i s hs => by
      obtain ⟨u, hu, hf⟩ := a2 i s hs
      exact ⟨u, hu, (fi_ok hf).2.2.2.2.1⟩) t 0 _ _ _ hb kt.nod (by omega) (by omega) f1 f2 f4

set_option maxHeartbeats 600000 in
theorem metaTwiceC (t : T) (H : List T) (AH : Option Addr) (nH cH : Nat) (E : List T) (AE : Option Addr) (nE cE : Nat) (v : Value) (w : World) (hvt : Rd w t v) (hnH : H.length = nH) (hcH : nH ≤ cH) (hmH : cH ≤ maxLen) (hxH : ∀ i t, H[i]? = some t → RdAt w AH i t) (hnE : E.length = nE) (hcE : nE ≤ cE) (hmE : cE ≤ maxLen) (hxE : ∀ i t, E[i]? = some t → RdAt w AE i t) :
    Calls Try.prog 6 #[v, .slice AH nH cH, .slice AE nE cE] w fun e w' => e = .returned (.bool true) ∧ Below w.heap.size w w' := by
  have hmmH := hmH
  have HXH := Lib.hid hxH; clear hxH
  have HNH := Lib.hid hnH; clear hnH
  have hmmE := hmE
  have HXE := Lib.hid hxE; clear hxE
  have HNE := Lib.hid hnE; clear hnE
  obtain ⟨kt, ht, At, nt, ct, rfl⟩ := hvt.full
  have HVt := Lib.hid hvt; clear hvt
  obtain ⟨W0, hW0⟩ : ∃ W0, (w.alloc (.cells #[.int .i64 kt, .int .i64 ht, .slice At nt ct] 24)) = W0 := ⟨_, rfl⟩
  have hb : Below w.heap.size w W0 := by rw [← hW0]; exact ((Below.refl _ _).alloc (Nat.le_refl _) _)
  have bxt : Box W0 (w.heap.size) 24 #[.int .i64 kt, .int .i64 ht, .slice At nt ct] := by rw [← hW0]; exact (Box.new w _ _)
  replace HVt := Lib.hid (Rd.keep hb _ _ HVt.out)
  have HW0 := Lib.hid hW0; clear hW0
  go_enter Try.func6, Try.ntmps6
  go_wp2_with fail
  rw [HW0.out]
  clear HW0
  refine (awakeM _).mono ?_
  rintro e w1 ⟨rfl, hb1⟩
  replace bxt := bxt.keep hb1 bxt.lt
  replace HVt := Lib.hid (Rd.keep hb1 _ _ HVt.out)
  replace hb := hb.trans (hb1.mono hb.size)
  clear hb1
  obtain ⟨bxt0, bxt1, bxt2⟩ := bxt.three
  have bxtl := bxt.lt
  go_wp2_with fail
  refine (refLight t 200 60 _ _ HVt.out).mono ?_
  have HLt : Hid (ltB t 200 60 = true → ltB t 200 60 = true) := Lib.hid fun e => e
  generalize hqt : ltB t 200 60 = Rt at *
  rintro e w2t ⟨rfl, hb1⟩
  have HQt := Lib.hid hqt; clear hqt HLt
  clear bxt0 bxt1 bxt2 bxtl
  replace bxt := bxt.keep hb1 bxt.lt
  replace HVt := Lib.hid (Rd.keep hb1 _ _ HVt.out)
  replace hb := hb.trans (hb1.mono hb.size)
  clear hb1
  obtain ⟨bxt0, bxt1, bxt2⟩ := bxt.three
  have bxtl := bxt.lt
  go_wp2_with fail
  refine (lightsC H AH nH cH 200 60 _ HNH.out hcH hmH (fun i u hu => RdAt.keep hb (HXH.out i u hu))).mono ?_
  generalize hqH : lsB H 200 60 = RH at *
  rintro e w2H ⟨rfl, hb1⟩
  have HQH := Lib.hid hqH; clear hqH
  clear bxt0 bxt1 bxt2 bxtl
  replace bxt := bxt.keep hb1 bxt.lt
  replace HVt := Lib.hid (Rd.keep hb1 _ _ HVt.out)
  replace hb := hb.trans (hb1.mono hb.size)
  clear hb1
  obtain ⟨bxt0, bxt1, bxt2⟩ := bxt.three
  have bxtl := bxt.lt
  go_wp2_with fail
  refine (lightsC E AE nE cE 200 60 _ HNE.out hcE hmE (fun i u hu => RdAt.keep hb (HXE.out i u hu))).mono ?_
  generalize hqE : lsB E 200 60 = RE at *
  rintro e w2E ⟨rfl, hb1⟩
  have HQE := Lib.hid hqE; clear hqE
  clear bxt0 bxt1 bxt2 bxtl
  replace bxt := bxt.keep hb1 bxt.lt
  replace HVt := Lib.hid (Rd.keep hb1 _ _ HVt.out)
  replace hb := hb.trans (hb1.mono hb.size)
  clear hb1
  obtain ⟨bxt0, bxt1, bxt2⟩ := bxt.three
  have bxtl := bxt.lt
  go_wp2_with fail
  refine (bareC t _ _ HVt.out).mono ?_
  generalize hqB : barB t = RB at *
  rintro e w2B ⟨rfl, hb1⟩
  have HQB := Lib.hid hqB; clear hqB
  clear bxt0 bxt1 bxt2 bxtl
  replace bxt := bxt.keep hb1 bxt.lt
  replace HVt := Lib.hid (Rd.keep hb1 _ _ HVt.out)
  replace hb := hb.trans (hb1.mono hb.size)
  clear hb1
  obtain ⟨bxt0, bxt1, bxt2⟩ := bxt.three
  have bxtl := bxt.lt
  cases Rt
  · go_wp2_with fail
    go_ret
    exact ⟨rfl, hb⟩
  cases RH
  · go_wp2_with fail
    go_ret
    exact ⟨rfl, hb⟩
  cases RE
  · go_wp2_with fail
    go_ret
    exact ⟨rfl, hb⟩
  cases RB
  · go_wp2_with fail
    go_ret
    exact ⟨rfl, hb⟩
  go_wp2_with fail
  refine (myC t _ _ HVt.out).mono ?_
  generalize hqt : myB t = Mt at *
  rintro e w3t ⟨rfl, hb1⟩
  have HMt := Lib.hid hqt; clear hqt
  clear bxt0 bxt1 bxt2 bxtl
  replace bxt := bxt.keep hb1 bxt.lt
  replace HVt := Lib.hid (Rd.keep hb1 _ _ HVt.out)
  replace hb := hb.trans (hb1.mono hb.size)
  clear hb1
  obtain ⟨bxt0, bxt1, bxt2⟩ := bxt.three
  have bxtl := bxt.lt
  cases Mt
  · go_wp2_with fail
    go_ret
    exact ⟨rfl, hb⟩
  have KNt : Hid (Kn 200 60 t) := Lib.hid (kn_of HQt.out HMt.out); clear HQt HMt
  unfold maxLen at hmH hmE
  clear bxt0 bxt1 bxt2 bxtl
  go_wp2_with fail
  go_loopw [12] (fun i wr => ∃ (j : Nat), j ≤ nH ∧ i = .int .i64 j ∧ Hid (∀ (m : Nat) (x : T), m < j → H[m]? = some x → myB x = true ∧ barB x = true) ∧ Below w3t.heap.size w3t wr) (fun i _ => nH - (intOf i).toNat)
  case atStart => exact ⟨0, Nat.zero_le _, rfl, Lib.hid (fun m x h => by omega), Below.refl _ _⟩
  case round =>
    obtain ⟨j, hj, rfl, HS, hbr⟩ := hrel
    have hbW : Below w.heap.size w wr := hb.trans (hbr.mono hb.size)
    by_cases hlt : j < nH
    · obtain ⟨x, ht⟩ := at_of HNH.out hlt
      obtain ⟨b, o, k2, h2, A2, n2, c2', rfl, c0, c1, c2, hr⟩ := (RdAt.keep hbW (HXH.out j x ht)).full
      have HT := Lib.hid ht; clear ht
      have HR := Lib.hid hr; clear hr
      have hi0 : (0 : Int) ≤ j := by omega
      have hi1 : (j : Int) < nH := by omega
      go_wp2_with fail
      refine (bareC x _ _ HR.out).mono ?_
      generalize hqm : barB x = M at *
      rintro e w6 ⟨rfl, hb1⟩
      have HBx := Lib.hid hqm; clear hqm
      replace c0 := (hb1.cell (cell_lt c0)).trans c0
      replace c1 := (hb1.cell (cell_lt c1)).trans c1
      replace c2 := (hb1.cell (cell_lt c2)).trans c2
      replace HR := Lib.hid (Rd.keep hb1 _ _ HR.out)
      replace hbr := hbr.trans (hb1.mono hbr.size)
      clear hb1 hbW
      cases M
      · go_wp2_with fail
        go_ret
        exact ⟨rfl, hb.trans (hbr.mono hb.size)⟩
      go_wp2_with fail
      refine (myC x _ _ HR.out).mono ?_
      generalize hqm : myB x = M at *
      rintro e w5 ⟨rfl, hb1⟩
      have HMx := Lib.hid hqm; clear hqm
      clear c0 c1 c2
      replace hbr := hbr.trans (hb1.mono hbr.size)
      clear hb1
      cases M
      · go_wp2_with fail
        go_ret
        exact ⟨rfl, hb.trans (hbr.mono hb.size)⟩
      · go_wp2_with fail
        go_roundw
        case rel => exact ⟨j + 1, by omega, by go_num, Lib.hid (fun m y hm hy => by
            by_cases hmj : m < j
            · exact HS.out m y hmj hy
            · have : m = j := by omega
              subst this
              have e := HT.out.symm.trans hy
              cases e
              exact ⟨HMx.out, HBx.out⟩), hbr⟩
        case measure => simp [intOf]; omega
    · have hjn : j = nH := by omega
      subst hjn
      replace hb := hbW
      clear hbW
      have hKH : ∀ x ∈ H, Kn 200 60 x ∧ barB x = true := fun x hx => by
        obtain ⟨i, hi⟩ := List.getElem?_of_mem hx
        have hlt : i < j := by have := (List.getElem?_eq_some_iff.1 hi).1; have := HNH.out; omega
        have hq := HQH.out
        unfold lsB at hq
        rw [Bool.and_eq_true] at hq
        exact ⟨kn_of (lights_all hq.2 x hx) (HS.out i x hlt hi).1, (HS.out i x hlt hi).2⟩
      have HKH := Lib.hid hKH; clear hKH HS
      obtain ⟨nH, rfl⟩ : ∃ nH, nH = j := ⟨_, rfl⟩
      replace bxt := bxt.keep hbr bxt.lt
      replace HVt := Lib.hid (Rd.keep hbr _ _ HVt.out)
      clear hbr hj hlt
      obtain ⟨wz, rfl⟩ : ∃ wz, wz = wr := ⟨_, rfl⟩
      go_wp2_with fail
      go_loopw [14] (fun i wr => ∃ (j : Nat), j ≤ nE ∧ i = .int .i64 j ∧ Hid (∀ (m : Nat) (x : T), m < j → E[m]? = some x → myB x = true) ∧ Below wz.heap.size wz wr) (fun i _ => nE - (intOf i).toNat)
      case atStart => exact ⟨0, Nat.zero_le _, rfl, Lib.hid (fun m x h => by omega), Below.refl _ _⟩
      case round =>
        obtain ⟨j, hj, rfl, HS, hbr⟩ := hrel
        have hbW : Below w.heap.size w wr := hb.trans (hbr.mono hb.size)
        by_cases hlt : j < nE
        · obtain ⟨x, ht⟩ := at_of HNE.out hlt
          obtain ⟨b, o, k2, h2, A2, n2, c2', rfl, c0, c1, c2, hr⟩ := (RdAt.keep hbW (HXE.out j x ht)).full
          have HT := Lib.hid ht; clear ht
          have HR := Lib.hid hr; clear hr
          have hi0 : (0 : Int) ≤ j := by omega
          have hi1 : (j : Int) < nE := by omega
          go_wp2_with fail

          refine (myC x _ _ HR.out).mono ?_
          generalize hqm : myB x = M at *
          rintro e w5 ⟨rfl, hb1⟩
          have HMx := Lib.hid hqm; clear hqm
          clear c0 c1 c2
          replace hbr := hbr.trans (hb1.mono hbr.size)
          clear hb1
          cases M
          · go_wp2_with fail
            go_ret
            exact ⟨rfl, hb.trans (hbr.mono hb.size)⟩
          · go_wp2_with fail
            go_roundw
            case rel => exact ⟨j + 1, by omega, by go_num, Lib.hid (fun m y hm hy => by
                by_cases hmj : m < j
                · exact HS.out m y hmj hy
                · have : m = j := by omega
                  subst this
                  have e := HT.out.symm.trans hy
                  cases e
                  exact HMx.out), hbr⟩
            case measure => simp [intOf]; omega
        · have hjn : j = nE := by omega
          subst hjn
          have hKE : ∀ x ∈ E, Kn 200 60 x := fun x hx => by
            obtain ⟨i, hi⟩ := List.getElem?_of_mem hx
            have hlt : i < j := by have := (List.getElem?_eq_some_iff.1 hi).1; have := HNE.out; omega
            have hq := HQE.out
            unfold lsB at hq
            rw [Bool.and_eq_true] at hq
            exact kn_of (lights_all hq.2 x hx) (HS.out i x hlt hi)
          obtain ⟨f1, f2, f3⟩ := twice_fill KNt.out HQB.out HKH.out hKE
          have hrl : (List.replicate H.length (0 : Int)).length = H.length := by simp
          have hH60 : H.length ≤ 60 := by
            have hq := HQH.out
            unfold lsB at hq
            rw [Bool.and_eq_true] at hq
            exact of_decide_eq_true hq.1
          have hHn := HNH.out
          have HF1 := Lib.hid fun (W : World) (h : Below wr.heap.size wr W) => FillC (th := H) (t := t) (n := 0) W ⟨fun x hx _ => okT_mono (by omega) _ (HKH.out x hx).1.ok, HNH.out, hcH, hmmH, fun i u hu => RdAt.keep (hbW.trans (h.mono hbW.size)) (HXH.out i u hu)⟩ (Rd.keep (hbr.trans (h.mono hbr.size)) _ _ HVt.out) (fun _ => okT_mono (by omega) _ KNt.out.ok)
          have HF2 := Lib.hid fun (W : World) (v : Value) (h : Below wr.heap.size wr W) (hr : Rd W (exT (fiR H 0 t)) v) => FillC (th := E) (n := 0) W ⟨fun x hx _ => okT_mono (by omega) _ (hKE x hx).ok, HNE.out, hcE, hmmE, fun i u hu => RdAt.keep (hbW.trans (h.mono hbW.size)) (HXE.out i u hu)⟩ hr (fun _ => f1)
          have HF3 := Lib.hid fun (W : World) (An : Option Addr) (nn cn : Nat) (h : Below wr.heap.size wr W) (h1 : H.length = nn) (h2 : nn ≤ cn) (h3 : cn ≤ maxLen) (h4 : ∀ i t, (List.replicate H.length (0 : Int))[i]? = some t → IntAt W An i t) => AllC (th := E) (xs := H) (ns := List.replicate H.length 0) (An := An) (nn := nn) (cn := cn) W ⟨fun x hx _ => okT_mono (by omega) _ (hKE x hx).ok, HNE.out, hcE, hmmE, fun i u hu => RdAt.keep (hbW.trans (h.mono hbW.size)) (HXE.out i u hu)⟩ HNH.out hcH hmmH (by omega) (fun i u hu => RdAt.keep (hbW.trans (h.mono hbW.size)) (HXH.out i u hu)) (fun u hu _ => okT_mono (by omega) _ (HKH.out u hu).1.ok) (by rw [hrl]; exact h1) h2 h3 h4
          have HF4 := Lib.hid fun (W : World) (A : Option Addr) (nl cl : Nat) (h : Below wr.heap.size wr W) (hr : RXL (fun b => b < 0) W (lT (alR E H (List.replicate H.length 0))) A nl cl) => FillC (th := lT (alR E H (List.replicate H.length 0))) (t := t) (n := 0) W ⟨fun x hx _ => f2 x hx, hr.len, hr.le, hr.cap, fun i u hu => rdFAt_rd (hr.at_ i u hu)⟩ (Rd.keep (hbr.trans (h.mono hbr.size)) _ _ HVt.out) (fun _ => okT_mono (by omega) _ KNt.out.ok)
          have HEQ := Lib.hid f3
          clear f1 f2 f3 hKE hrl HS
          have HREP : Hid (∀ i t, (List.replicate H.length (0 : Int))[i]? = some t → t = 0 ∧ i < nH) := Lib.hid fun i t ht => by
            rw [List.getElem?_replicate] at ht
            split at ht
            · cases ht
              exact ⟨rfl, by omega⟩
            · cases ht
          have HLH := Lib.hid hHn; clear hHn
          generalize alR E H (List.replicate H.length 0) = RA at *
          obtain ⟨NS, hNS⟩ : ∃ NS, NS = List.replicate H.length (0 : Int) := ⟨_, rfl⟩
          rw [← hNS] at HREP HF3
          clear hNS
          have hH40 : nH ≤ 60 := by rw [← HLH.out]; exact hH60
          clear hH60
          generalize fiR H 0 t = RX at *
          have y0 := bxt.keep hbr bxt.lt
          obtain ⟨t0, t1, t2⟩ := y0.three
          have ly0 := y0.lt
          obtain ⟨i0, hi, hz0, hz1, hz2⟩ := info_parts (P := Try.prog) (e := 3) (z := .int .i64 0) (size := 1) (bytes := 8) (by kernel_rfl)
          have hmk : ∀ W : World, (Instr.makeSlice 25 (.int .i64 (nH : Int)) (.int .i64 (nH : Int))).run Try.prog W = .ok (.slice (some ⟨W.heap.size, 0, none⟩) nH nH) (W.alloc (.cells (madeCells #[.int .i64 0] nH) 3)) := by
            intro W
            have := run_make W 25 3 i0 _ Try.underlying25 hi hz0 .i64 .i64 (nH : Int) (nH : Int) (by omega) (Int.le_refl _) (by rw [hz2]; omega) (by omega)
            rw [hz1] at this
            simpa [Value.cells] using this
          clear hi hz0 hz1 hz2
          go_wp2_with fail
          refine (HF1.out wr (Below.refl _ _)).mono ?_
          clear HF1
          intro e w7 hE
          obtain ⟨ka, ha, Aa, na, ca, rfl, hrd, hb3⟩ := hE.tend
          have hbD : Below w7.heap.size w7 (w7.alloc (.cells #[.int .i64 ka, .int .i64 ha, .slice Aa na ca] 24)) := (Below.refl _ _).alloc (Nat.le_refl _) _
          have yw := y0.keep hb3 ly0
          have xa := Box.new w7 24 #[.int .i64 ka, .int .i64 ha, .slice Aa na ca]
          have HVa := Lib.hid (Rd.keep hbD _ _ (RdF.rd _ _ hrd))
          have hb4 := hb3.trans (hbD.mono hb3.size)
          have HC2 := Lib.hid (HF2.out _ _ hb4 HVa.out)
          have HB4 := Lib.hid hb4
          have HY1 := Lib.hid (yw.keep hbD yw.lt)
          have HXA := Lib.hid xa
          clear t0 t1 t2 hrd hbD hb3 hb4 hE yw xa HF2 y0
          go_wp2_with fail
          refine HC2.out.mono ?_
          clear HC2
          intro e w8 hE
          obtain ⟨kb, hb_, Ab, nb, cb, rfl, hrd, hb3⟩ := hE.tend
          have hb5 := HB4.out.trans (hb3.mono HB4.out.size)
          have yw := HY1.out.keep hb3 HY1.out.lt
          have hbD : Below w8.heap.size w8 (w8.alloc (.cells #[.int .i64 kb, .int .i64 hb_, .slice Ab nb cb] 24)) := (Below.refl _ _).alloc (Nat.le_refl _) _
          have xb := Box.new w8 24 #[.int .i64 kb, .int .i64 hb_, .slice Ab nb cb]
          have HVb := Lib.hid (Rd.keep hbD _ _ (RdF.rd _ _ hrd))
          generalize hw9 : w8.alloc (.cells #[.int .i64 kb, .int .i64 hb_, .slice Ab nb cb] 24) = w9 at *
          have hsz9 : w9.heap.size = w8.heap.size + 1 := by rw [← hw9]; simp
          have HW9 := Lib.hid hw9; clear hw9
          have hb6 := hb5.trans (hbD.mono hb5.size)
          have yw9 := yw.keep hbD yw.lt
          have hbM : Below w9.heap.size w9 (w9.alloc (.cells (madeCells #[.int .i64 0] nH) 3)) := (Below.refl _ _).alloc (Nat.le_refl _) _
          have hmade : ∀ i t, NS[i]? = some t → IntAt (w9.alloc (.cells (madeCells #[.int .i64 0] nH) 3)) (some ⟨w9.heap.size, 0, none⟩) i t := fun i t ht => by
            obtain ⟨rfl, hi⟩ := HREP.out i t ht
            refine ⟨_, _, rfl, ?_⟩
            rw [Nat.zero_add, (Box.new w9 3 (madeCells #[.int .i64 0] nH)).cell]
            simp [madeCells, hi, Nat.mod_one]
          have hb7 := hb6.trans (hbM.mono hb6.size)
          have hc3 := HF3.out _ _ nH nH hb7 HLH.out (Nat.le_refl _) (by unfold maxLen; omega) hmade
          rw [hsz9] at hc3
          have HC3 := Lib.hid hc3
          clear hc3 hsz9
          have HY2 := Lib.hid (yw9.keep hbM yw9.lt)
          have HXB := Lib.hid (xb.keep hbM xb.lt)
          have HVb2 := Lib.hid (Rd.keep hbM _ _ HVb.out)
          have HB7 := Lib.hid hb7
          clear hrd hb3 hb5 hb6 hb7 hbD hbM hmade hE yw yw9 xb HF3 HVb HY1 HB4
          go_wp2_with fail
          rw [HW9.out]
          clear HW9
          refine HC3.out.mono ?_
          clear HC3
          intro e w10 hE
          obtain ⟨⟨Al, nl, cl, rfl, hrl⟩, hb3⟩ := hE.uni
          have hb8 := HB7.out.trans (hb3.mono HB7.out.size)
          have yw := HY2.out.keep hb3 HY2.out.lt
          have lyw := yw.lt
          have xb := HXB.out.keep hb3 HXB.out.lt
          have HVb3 := Lib.hid (Rd.keep hb3 _ _ HVb2.out)
          have HC4 := Lib.hid (HF4.out _ _ _ _ hb8 ⟨hrl.len, hrl.le, hrl.cap, fun i u hu => RdFAt.moveX (fun b _ hl => ⟨by omega, rfl⟩) (hrl.at_ i u hu)⟩)
          have HXB2 := Lib.hid xb
          have HB8 := Lib.hid hb8
          clear hb3 hb8 hE hrl xb HF4 HVb2 HXB HY2 HB7 hmk
          obtain ⟨t0, t1, t2⟩ := yw.three
          go_wp2_with fail
          refine HC4.out.mono ?_
          clear HC4
          intro e w11 hE
          obtain ⟨kd, hd, Ad, nd', cd, rfl, hrd, hb3⟩ := hE.tend
          have xb := HXB2.out.keep hb3 HXB2.out.lt
          have lxb := xb.lt
          have hbD : Below w11.heap.size w11 (w11.alloc (.cells #[.int .i64 kd, .int .i64 hd, .slice Ad nd' cd] 24)) := (Below.refl _ _).alloc (Nat.le_refl _) _
          have HVd := Lib.hid (Rd.keep hbD _ _ (RdF.rd _ _ hrd))
          have HVb4 := Lib.hid (Rd.keep (hb3.trans (hbD.mono hb3.size)) _ _ HVb3.out)
          have hb9 := HB8.out.trans ((hb3.trans (hbD.mono hb3.size)).mono HB8.out.size)
          have HB9 := Lib.hid (hbW.trans (hb9.mono hbW.size))
          clear t0 t1 t2 hrd hb3 hbD hb9 hE yw lyw HXB2 HB8 HVb3
          obtain ⟨b0, b1, b2⟩ := xb.three
          have hsame := termSame (exT (fiR E 0 (exT RX))) (exT (fiR (lT RA) 0 t)) _ _ _ HVb4.out HVd.out
          have HSM := Lib.hid hsame; clear hsame
          generalize exT (fiR E 0 (exT RX)) = YY at *
          generalize exT (fiR (lT RA) 0 t) = ZZ at *
          generalize exE (fiR E 0 (exT RX)) = E2 at *
          generalize exE (fiR (lT RA) 0 t) = E4 at *
          generalize exE RX = E1 at *
          generalize lE RA = E3 at *
          by_cases z1 : E1 = 0
          case neg =>
            have d1 : (E1 != 0) = true := by simpa using z1
            clear z1
            go_wp2_with fail
            go_ret
            exact ⟨rfl, HB9.out⟩
          subst z1
          by_cases z2 : E2 = 0
          case neg =>
            have d2 : (E2 != 0) = true := by simpa using z2
            clear z2
            go_wp2_with fail
            go_ret
            exact ⟨rfl, HB9.out⟩
          subst z2
          by_cases z3 : E3 = 0
          case neg =>
            have d3 : (E3 != 0) = true := by simpa using z3
            clear z3
            go_wp2_with fail
            go_ret
            exact ⟨rfl, HB9.out⟩
          subst z3
          by_cases z4 : E4 = 0
          case neg =>
            have d4 : (E4 != 0) = true := by simpa using z4
            clear z4
            go_wp2_with fail
            go_ret
            exact ⟨rfl, HB9.out⟩
          subst z4
          have hyz := HEQ.out rfl rfl rfl rfl
          subst hyz
          clear HEQ
          go_wp2_with fail
          refine HSM.out.mono ?_
          rw [sam_refl]
          rintro e w12 ⟨rfl, hb9⟩
          go_wp2_with fail
          go_ret
          exact ⟨rfl, HB9.out.trans (hb9.mono HB9.out.size)⟩
end Go.Proofs.Ytaccaamdbfccmaa
