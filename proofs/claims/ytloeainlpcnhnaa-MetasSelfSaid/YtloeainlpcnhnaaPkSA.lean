/-
  Texts of one proof, put together. No statement is proved here.
-/
import Derived.Test.YtloeainlpcnhnaaPkNA
import Derived.Test.YtloeainlpcnhnaaRq
import Derived.Test.YtloeainlpcnhnaaWd
import Derived.Test.YtloeainlpcnhnaaPkMA

/-
  Metas in order are their own terms, where no entry is of a function. No statement is proved here.
-/
namespace Go.Proofs.Ytloeainlpcnhnaa
open Go.RowKit
set_option linter.unusedVariables false

/-! ### A substitution that is up -/
def UpS (L : List T) (sh b : Int) : Prop := ∀ (h : Int) (u : Nat), (u : Int) ≤ h → mpT L sh (h - u) u = .node 4 (h + b) []
mutual
theorem ren_ups {L : List T} {sh b : Int} (hi : UpS L sh b) : ∀ (t : T) (u : Nat), RenT L sh t u (upT b t u)
  | .node k h xs, u => by
    rw [upT, RenT]
    refine ⟨rfl, ?_, by rw [upL_len], ren_upsL hi k xs.length xs 0 u⟩
    by_cases hc : k = 4 ∧ (u : Int) ≤ h
    · rw [if_pos hc, if_pos hc]; exact hi h u hc.2
    · rw [if_neg hc, if_neg hc]
theorem ren_upsL {L : List T} {sh b : Int} (hi : UpS L sh b) (k : Int) (m : Nat) : ∀ (xs : List T) (i u : Nat), RenL L sh k m xs i u (upL b k m xs i u)
  | [], i, u => by rw [upL, RenL]
  | x :: xs, i, u => by
    rw [upL, RenL]
    refine ⟨_, _, rfl, ?_, ren_upsL hi k m xs (i + 1) u⟩
    rw [bd_bdn, show (u : Int) + (bdn k m i : Int) = ((u + bdn k m i : Nat) : Int) by omega]
    exact ren_ups hi x _
end
theorem vs_get {n j : Nat} (h : j < n) : (vsL n)[j]? = some (.node 4 ((n : Int) - 1 - j) []) := by
  have he : (vsL n)[j]? = some ((vsL n)[j]'(by rw [vsL_len]; exact h)) := List.getElem?_eq_getElem _
  obtain ⟨_, e⟩ := vsL_at _ _ _ he
  rw [he, e]
theorem vs_ups {n k : Nat} (hk : k ≤ n) : UpS ((vsL n).take k) (n : Int) ((n - k : Nat) : Int) := fun h u hu => by
  unfold mpT
  rw [List.length_take, vsL_len, Nat.min_eq_left hk]
  split
  · congr 1; omega
  · rename_i hlt
    have hj : k - 1 - (h - (u : Int)).toNat < n := by omega
    have hget : ((vsL n).take k).getD (k - 1 - (h - (u : Int)).toNat) (.node 0 0 []) = .node 4 ((n : Int) - 1 - ((k - 1 - (h - (u : Int)).toNat : Nat) : Int)) [] := by
      rw [List.getD_eq_getElem?_getD, List.getElem?_take_of_lt (by omega), vs_get hj, Option.getD_some]
    rw [hget, upT, upL, if_pos ⟨rfl, by omega⟩]
    congr 1
    omega
theorem vs_mem {n : Nat} {x : T} (hx : x ∈ vsL n) : ∃ h : Int, 0 ≤ h ∧ h < n ∧ x = .node 4 h [] := by
  obtain ⟨i, hi⟩ := List.getElem?_of_mem hx
  obtain ⟨h1, rfl⟩ := vsL_at _ _ _ hi
  exact ⟨_, by omega, by omega, rfl⟩
theorem vs_my {n : Nat} {x : T} (hx : x ∈ vsL n) : myB x = true := by
  obtain ⟨h, h0, _, rfl⟩ := vs_mem hx
  exact my_var h0
theorem my_self {i : Int} {n : Nat} (h0 : 0 ≤ i) (hn : n ≤ 200) : myB (.node 6 i (vsL n)) = true := by
  obtain ⟨h1, h2⟩ := vs_nd n (vsL n) fun x hx => by
    obtain ⟨h, _, _, rfl⟩ := vs_mem hx
    exact ⟨h, rfl⟩
  have hl := vsL_len n
  refine (myB_iff _).2 ⟨?_, by rw [nd]; omega, by rw [dp]; omega⟩
  rw [nodB, nodL_of fun x hx => ((myB_iff x).1 (vs_my hx)).1]
  simp [okN, h0]
/-- all variables, in order, become what is put for them -/
theorem apL_vs {f : Nat} {L : List T} {n sh : Int} (hf : 1 ≤ f) (hn : L.length ≤ 200) : ∀ (j c i : Nat), j + i = L.length → c + j ≤ 1000 →
    apL (fun u' x m => ap f L sh u' x m) 6 L.length 0 ((vsL L.length).drop i) i c = .ok (L.drop i, c + j)
  | 0, c, i, hj, _ => by
    have h1 : (vsL L.length).drop i = [] := List.drop_eq_nil_of_le (by rw [vsL_len]; omega)
    have h2 : L.drop i = [] := List.drop_eq_nil_of_le (by omega)
    rw [h1, h2, apL, Nat.add_zero]
  | j + 1, c, i, hj, hc => by
    obtain ⟨x, hx⟩ : ∃ x, L[i]? = some x := ⟨_, List.getElem?_eq_getElem (by omega)⟩
    have h1 : (vsL L.length).drop i = .node 4 ((L.length : Int) - 1 - i) [] :: (vsL L.length).drop (i + 1) := drop_at (vs_get (by omega))
    have h2 : L.drop i = x :: L.drop (i + 1) := drop_at hx
    have hap : ap f L sh 0 (.node 4 ((L.length : Int) - 1 - i) []) c = .ok (x, c + 1) := by
      obtain ⟨g, rfl⟩ : ∃ g, f = g + 1 := ⟨f - 1, by omega⟩
      rw [ap, if_neg (by omega), apL]
      simp only
      rw [if_pos ⟨trivial, by omega⟩]
      have hm : mpT L sh ((L.length : Int) - 1 - i - ((0 : Nat) : Int)) ((0 : Nat) : Int).toNat = x := by
        unfold mpT
        rw [if_neg (by omega), show L.length - 1 - ((L.length : Int) - 1 - i - ((0 : Nat) : Int)).toNat = i by omega, List.getD_eq_getElem?_getD, hx, Option.getD_some]
        exact up_zero x 0
      have hm' : mpT L sh ((L.length : Int) - 1 - i - ((0 : Nat) : Int)) 0 = x := hm
      rw [hm', spL]
    rw [h1, h2, apL, Cr.bdn_none (by omega), Nat.add_zero, hap]
    simp only
    rw [apL_vs (n := n) hf hn j (c + 1) (i + 1) (by omega) (by omega)]
    simp only
    congr 2
    omega
theorem ap_self {h : Int} {xs : List T} {sh : Int} (h0 : 0 ≤ h) (hl : xs.length ≤ 200) (hm : myB (.node 6 h xs) = true) (hs : sbB xs sh = true) : apT (.node 6 h (vsL xs.length)) xs sh = .node 6 h xs ∧ apE (.node 6 h (vsL xs.length)) xs sh = 0 := by
  refine ap_tells (n := 1 + xs.length) (my_self h0 hl) hs ?_ hm
  have hfl : fl = (fl - 1) + 1 := by rw [fl_eq]
  rw [hfl, ap, if_neg (by omega), vsL_len]
  have := apL_vs (f := fl - 1) (L := xs) (n := 0) (sh := sh) (by rw [fl_eq]; omega) hl xs.length 1 0 (by omega) (by omega)
  rw [List.drop_zero, List.drop_zero] at this
  rw [Nat.zero_add, this]
  simp only
  rw [if_neg (by omega)]
/-- a meta as its own term -/
def slL : Nat → List (List T × T) → List T
  | _, [] => []
  | i, m :: ms => .node 6 i (vsL m.1.length) :: slL (i + 1) ms
theorem sl_len : ∀ (ms : List (List T × T)) (i : Nat), (slL i ms).length = ms.length
  | [], _ => rfl
  | m :: ms, i => by rw [slL, List.length_cons, List.length_cons, sl_len ms]
theorem sl_at : ∀ (ms : List (List T × T)) (i j : Nat) (m : List T × T), ms[j]? = some m → (slL i ms)[j]? = some (.node 6 ((i + j : Nat) : Int) (vsL m.1.length))
  | [], _, _, _, h => by simp at h
  | m :: ms, i, 0, m', h => by simp at h; subst h; rfl
  | m :: ms, i, j + 1, m', h => by
    rw [slL, List.getElem?_cons_succ, sl_at ms (i + 1) j m' (by simpa using h)]
    rw [show i + 1 + j = i + (j + 1) by omega]
/-- what is filled with the metas themselves is itself -/
structure SlH (C : Int → Int → Option S0) (th : List T) : Prop where
  six : ∀ h s, C 6 h = some s → 0 ≤ h ∧ ∃ es, s = arr es ∧ es.length ≤ 200 ∧ th[h.toNat]? = some (.node 6 h (vsL es.length))
mutual
theorem sl_St {C : Int → Int → Option S0} {th : List T} (H : SlH C th) : ∀ (t : T) (G : List S0) (a : S0) (n : Int), 0 ≤ n → n + dp t ≤ 1048576 → myB t = true → StT C G t a → flT th t n = .ok t
  | .node k h xs, G, a, n, h0, hd, hm, ht => by
    rw [dp] at hd
    rw [flT]
    cases ht with
    | @lam _ _ x a b hx =>
      rw [dpL, dpL] at hd
      rw [flL, show bd 3 [x].length 0 = 1 from rfl, sl_St H x _ _ (n + 1) (by omega) (by omega) (my_arg hm (by simp)) hx]
      simp only [flL, flN]
      rw [if_neg (by omega)]
    | var hh hg hs =>
      rw [sl_StL H (by omega) xs 0 _ _ n xs.length h0 (by omega) (fun x hx => my_arg hm hx) hs]
      simp only [flN]
      rw [if_neg (by omega)]
    | con hk hc hs =>
      rw [sl_StL H (by omega) xs 0 _ _ n xs.length h0 (by omega) (fun x hx => my_arg hm hx) hs]
      by_cases hk6 : k = 6
      · subst hk6
        obtain ⟨hh, es, rfl, hle, hth⟩ := H.six _ _ hc
        have hxl := stS_len hs
        have hlt := (List.getElem?_eq_some_iff.1 hth).1
        simp only [flN, if_true]
        rw [if_neg (by omega), if_pos (List.all_eq_true.2 fun x hx => my_arg hm hx), List.getD_eq_getElem?_getD, hth, Option.getD_some, ← hxl]
        obtain ⟨e1, e2⟩ := ap_self (sh := n) hh (by omega) hm (sb_of (by omega) (by omega) fun x hx => my_arg hm hx)
        rw [if_pos e2, e1]
      · simp only [flN]
        rw [if_neg hk6]
theorem sl_StL {C : Int → Int → Option S0} {th : List T} (H : SlH C th) {k : Int} (hk : k ≠ 1 ∧ k ≠ 3) : ∀ (xs : List T) (i : Nat) (G : List S0) (s : S0) (n : Int) (m : Nat), 0 ≤ n → n + dpL xs ≤ 1048576 → (∀ x ∈ xs, myB x = true) → StS C G xs s → flL th k m xs i n = .ok xs
  | [], i, G, s, n, m, _, _, _, _ => by rw [flL]
  | x :: xs, i, G, s, n, m, h0, hd, hm, hs => by
    rw [dpL] at hd
    cases hs with
    | cons h1 h2 =>
      rw [flL, bd_var hk, Int.add_zero, sl_St H x _ _ n h0 (by omega) (hm x (by simp)) h1]
      simp only
      rw [sl_StL H hk xs (i + 1) _ _ n m h0 (by omega) (fun y hy => hm y (by simp [hy])) h2]
end
theorem sl_Wf {C : Int → Int → Option S0} {th : List T} (H : SlH C th) {b : Bool} {G : List S0} {t : T} (h : Wf C b G t) : ∀ n : Int, 0 ≤ n → n + dp t ≤ 1048576 → myB t = true → flT th t n = .ok t := by
  induction h with
  | sort =>
    intro n _ _ _
    rw [flT, flL]
    simp only [flN]
    rw [if_neg (by omega)]
  | @pi b G h x y _ _ ih1 ih2 =>
    intro n h0 hd hm
    rw [dp, dpL, dpL, dpL] at hd
    rw [flT, flL, show bd 1 [x, y].length 0 = 0 from rfl, Int.add_zero, ih1 n h0 (by omega) (my_arg hm (by simp)), flL, show bd 1 [x, y].length (0 + 1) = 1 from rfl, ih2 (n + 1) (by omega) (by omega) (my_arg hm (by simp))]
    simp only [flL, flN]
    rw [if_neg (by omega)]
  | fam hc hs =>
    intro n h0 hd hm
    rw [dp] at hd
    rw [flT, sl_StL H (by omega) _ 0 _ _ n _ h0 (by omega) (fun x hx => my_arg hm hx) hs]
    simp only [flN]
    rw [if_neg (by omega)]
theorem slH_of {sg : List T} {ms : List (List T × T)} (hO : MsO sg ms) (n : Nat) : SlH (cM ⟨sg, ms.take n⟩) ((slL 0 ms).take n) := ⟨fun h s e => by
  obtain ⟨h0, m, hm, rfl⟩ := cM_six e
  simp only at hm
  have hl := (List.getElem?_eq_some_iff.1 hm).1
  rw [List.length_take] at hl
  rw [List.getElem?_take_of_lt (by omega)] at hm
  refine ⟨h0, m.1, rfl, ?_, ?_⟩
  · have := (hO.at_ _ m hm).2.2.2.2.2.2
    omega
  · rw [List.getElem?_take_of_lt (by omega), sl_at ms 0 _ m hm]
    rw [show ((0 + h.toNat : Nat) : Int) = h by omega]⟩
theorem sl_thB {sg : List T} {ms : List (List T × T)} (hO : MsO sg ms) (n : Nat) : thB ((slL 0 ms).take n) = true := by
  unfold thB
  rw [Bool.and_eq_true, decide_eq_true_eq, List.length_take, sl_len]
  have h40 := hO.len
  refine ⟨by omega, List.all_eq_true.2 fun x hx => ?_⟩
  obtain ⟨j, hj⟩ := List.getElem?_of_mem (List.mem_of_mem_take hx)
  have hl := (List.getElem?_eq_some_iff.1 hj).1
  rw [sl_len] at hl
  obtain ⟨m, hm⟩ : ∃ m, ms[j]? = some m := ⟨_, List.getElem?_eq_getElem (by omega)⟩
  rw [sl_at ms 0 j m hm] at hj
  cases hj
  have := (hO.at_ _ m hm).2.2.2.2.2.2
  exact my_self (by omega) (by omega)
/-- the variables of a context have its entries' types, where none is of a function -/
theorem mt_self {W : WV} {cx : List T} (hc : cx.length ≤ 200) (hm : ∀ e ∈ cx, myB e = true) (hk : ∀ e ∈ cx, kdQ e = 2) : ∀ (j i : Nat), j + i = cx.length → mtV W ((vsL cx.length).drop i) ((vsL cx.length).take i) cx (cx.drop i) = 0
  | 0, i, hj => by
    rw [List.drop_eq_nil_of_le (by rw [vsL_len]; omega), mtV]
  | j + 1, i, hj => by
    obtain ⟨e, he⟩ : ∃ e, cx[i]? = some e := ⟨_, List.getElem?_eq_getElem (by omega)⟩
    have hmem := List.mem_of_getElem? he
    have me := hm e hmem
    have h1 : (vsL cx.length).drop i = .node 4 ((cx.length : Int) - 1 - i) [] :: (vsL cx.length).drop (i + 1) := drop_at (vs_get (by omega))
    have hup := my_up (f := 0) (b := ((cx.length - i : Nat) : Int)) (by omega) me
    obtain ⟨e1, e2⟩ := ren_tells me (sb_of (L := (vsL cx.length).take i) (sh := (cx.length : Int)) (by rw [List.length_take, vsL_len]; omega) (by omega) (fun x hx => vs_my (List.mem_of_mem_take hx))) (ren_ups (vs_ups (n := cx.length) (k := i) (by omega)) e 0) hup
    have e1' : apT e ((vsL cx.length).take i) (cx.length : Int) = upT ((cx.length - i : Nat) : Int) e 0 := e1
    have htm : tmV W (.node 4 ((cx.length : Int) - 1 - i) []) cx (upT ((cx.length - i : Nat) : Int) e 0) = 0 := by
      refine tm_neu_of (t := upT ((cx.length - i : Nat) : Int) e 0) (by omega) ?_ ?_ (sam_refl _)
      · have := hk e hmem
        obtain ⟨k, g, ys⟩ := e
        rw [kdQ] at this
        rw [upT, kdQ]
        exact this
      · rw [cmV, if_pos (.inl rfl), hdV, if_pos rfl, if_pos (by omega), List.getD_eq_getElem?_getD]
        rw [show cx.length - 1 - ((cx.length : Int) - 1 - i).toNat = i by omega, he, Option.getD_some]
        simp only
        rw [spV]
        congr 2
        omega
    rw [h1, drop_at he, mtV, List.headD_cons, List.tail_cons, if_pos e2, e1', if_pos htm]
    have := mt_self (W := W) hc hm hk j (i + 1) (by omega)
    rw [take_snoc (vs_get (show i < cx.length by omega))] at this
    exact this
theorem vs_same {t : T} {n : Nat} (hm : myB t = true) (hn : n ≤ 200) : apT t (vsL n) n = t ∧ apE t (vsL n) n = 0 :=
  ren_tells hm (sb_of (by rw [vsL_len]; exact hn) (by omega) (fun x hx => vs_my hx)) (ren_id (vsL_id n) t 0) hm
/-- metas are their own terms -/
theorem self_ok {sg : List T} {ds : List MP} (hs : (siV sg).2 = 0) (hd : (dcV sg ds).2 = 0) (hf : ∀ d ∈ ds, ∀ e ∈ d.1.1, kdQ e = 2) : suV sg ds [] ds (slL 0 (msP ds)) = 0 := by
  obtain ⟨hsg, _, hsm⟩ := sg_okM hs
  obtain ⟨hO, _⟩ := dc_ok hsg hd
  have hlm : (msP ds).length = ds.length := by rw [msP, List.length_map]
  have h40 := hO.len
  unfold suV
  rw [if_neg (by omega), if_pos (by rw [sl_len, hlm]), fiG_zero]
  intro i x hx
  have hi := (List.getElem?_eq_some_iff.1 hx).1
  rw [sl_len] at hi
  obtain ⟨d, hdd⟩ : ∃ d, ds[i]? = some d := ⟨_, List.getElem?_eq_getElem (by omega)⟩
  have hm : (msP ds)[i]? = some d.1 := by rw [msP, List.getElem?_map, hdd]; rfl
  rw [sl_at _ 0 i d.1 hm, Nat.zero_add] at hx
  cases hx
  rw [Nat.zero_add, List.getD_eq_getElem?_getD, hdd, Option.getD_some]
  obtain ⟨w1, w2, w3, w4, w5, w6, w7⟩ := hO.at_ i d.1 hm
  have H := slH_of hO i
  have hthB := sl_thB hO i
  have hcx2 : ∃ c', cxL ((slL 0 (msP ds)).take i) 0 d.1.1 = .ok (d.1.1, c') := by
    have hne : ∀ (j : Nat) (e : T), d.1.1[j]? = some e → fiR ((slL 0 (msP ds)).take i) (wrap64 (0 + (j : Int))) e = .ok e := fun j e he => by
      have hj := (List.getElem?_eq_some_iff.1 he).1
      have me := w5 e (List.mem_of_getElem? he)
      obtain ⟨_, we⟩ := w1 j e he
      have hdp := ((myB_iff e).1 me).2.2
      rw [Int.zero_add, wrap_smallN (by omega) (by omega), fi_good hthB (by omega) (by omega) me, sl_Wf H we (j : Int) (by omega) (by omega) me]
      simp only
      rw [if_pos me]
    have key : ∀ (xs : List T) (k c : Nat), (∀ j e, xs[j]? = some e → fiR ((slL 0 (msP ds)).take i) (wrap64 (0 + ((k + j : Nat) : Int))) e = .ok e) → ∃ c', eaL (fun j t c => wc (fiR ((slL 0 (msP ds)).take i) (wrap64 (0 + (j : Int))) t) c) xs k c = .ok (xs, c') := by
      intro xs
      induction xs with
      | nil => intro k c _; exact ⟨c, by rw [eaL]⟩
      | cons e xs ih =>
        intro k c h
        rw [eaL]
        have h0 := h 0 e rfl
        rw [Nat.add_zero] at h0
        have hw : wc (fiR ((slL 0 (msP ds)).take i) (wrap64 (0 + (k : Int))) e) c = .ok (e, c) := by rw [h0]; rfl
        obtain ⟨c', h2⟩ := ih (k + 1) c (fun j e' he' => by
          have := h (j + 1) e' (by simpa using he')
          rwa [show k + (j + 1) = k + 1 + j by omega] at this)
        simp only [hw, h2]
        exact ⟨c', rfl⟩
    exact key d.1.1 0 0 (fun j e he => by rw [Nat.zero_add]; exact hne j e he)
  obtain ⟨c', hcx3⟩ := hcx2
  have hdp := ((myB_iff _).1 w6).2.2
  have hft : fiR ((slL 0 (msP ds)).take i) (d.1.1.length : Nat) d.1.2 = .ok d.1.2 := by
    rw [fi_good hthB (by omega) (by omega) w6, sl_Wf H w4 (d.1.1.length : Nat) (by omega) (by omega) w6]
    simp only
    rw [if_pos w6]
  have mys : myB (.node 6 (i : Int) (vsL d.1.1.length)) = true := my_self (by omega) (by omega)
  have hck : ckT ⟨sg, msP ds⟩ ([] ++ d.1.1) (.node 6 (i : Int) (vsL d.1.1.length)) d.1.2 = 0 := by
    rw [List.nil_append]
    unfold ckT
    rw [if_pos]
    · obtain ⟨s1, s2⟩ := vs_same (n := d.1.1.length) w6 (by omega)
      refine tm_neu_of (t := d.1.2) (by omega) w3 ?_ (sam_refl _)
      have e1 : mdV ⟨sg, msP ds⟩ (i : Int) = d.1 := by unfold mdV; rw [List.getD_eq_getElem?_getD, show (i : Int).toNat = i from rfl, hm]; rfl
      have hmt := mt_self (W := ⟨sg, msP ds⟩) (cx := d.1.1) (by omega) w5 (hf d (List.mem_of_getElem? hdd)) d.1.1.length 0 (by omega)
      rw [List.drop_zero, List.drop_zero, List.take_zero] at hmt
      rw [cmV, if_neg (by omega), if_pos rfl, if_pos (show (i : Int) < (msP ds).length by omega), e1, if_pos (vsL_len _), if_pos hmt, apV, if_pos s2, s1]
    · refine (mayV_iff _ _ _).2 ⟨by omega, w5, fun t ht => ?_, hsm, fun mm hmm => ?_⟩
      · simp at ht
        rcases ht with rfl | rfl
        · exact mys
        · exact w6
      · obtain ⟨j, hj⟩ := List.getElem?_of_mem hmm
        obtain ⟨_, _, _, _, v5, v6, _⟩ := hO.at_ j mm hj
        exact ⟨v5, v6⟩
  rw [plV, hcx3]
  simp only [hft]
  rw [if_pos hck, if_neg]
  rintro ⟨h1, h2⟩
  rw [vaV, List.getD_eq_getElem?_getD, show (i : Int).toNat = i from rfl, hdd, Option.getD_some, h1] at h2
  simp at h2
end Go.Proofs.Ytloeainlpcnhnaa

/-
  A row of terms that grows by append, beside blocks that are written. No statement is proved here.
-/
namespace Go.Proofs.Ytloeainlpcnhnaa
open Go.ChangeShapes Go.WideShapes Go.ChangeAt Go.RowKit
set_option linter.unusedVariables false

/-! ### A row that grows -/
structure GRow (X : Nat → Prop) (w : World) (base : Nat) (v : Value) (n : Nat) (cs : List Value) (ys : List T) : Prop where
  own : w.ownsRow base 26 3 v n cs
  len : ys.length = n
  kids : KidL w (fun b => ¬ X b ∧ some b ≠ v.ownBlock) cs ys
theorem GRow.nil (X : Nat → Prop) (w : World) (base : Nat) : GRow X w base (.slice none 0 0) 0 [] [] :=
  ⟨World.ownsRow_nil _ _ _ _, rfl, fun i t ht => by simp at ht⟩
theorem GRow.full {X : Nat → Prop} {w : World} {base : Nat} {v : Value} {n : Nat} {cs : List Value} {ys : List T} (h : GRow X w base v n cs ys) : ∃ A c, v = .slice A n c ∧ n ≤ c ∧ c ≤ maxLen := by
  rcases h.own.2 with ⟨rfl, rfl⟩ | ⟨g, cap, cur, rfl, _, _, h1, h2, _⟩
  · exact ⟨none, 0, rfl, Nat.le_refl _, Nat.zero_le _⟩
  · exact ⟨_, _, rfl, h1, h2⟩
theorem GRow.lt {X : Nat → Prop} {w : World} {base : Nat} {v : Value} {n : Nat} {cs : List Value} {ys : List T} (h : GRow X w base v n cs ys) {g : Nat} (hg : v.ownBlock = some g) : base ≤ g ∧ g < w.heap.size := h.own.lt g hg
theorem KidL.moveX {w w' : World} {ok ok' : Nat → Prop} {cs : List Value} {ys : List T} (hk : KidL w ok cs ys) (hm : ∀ b, ok b → b < w.heap.size → ok' b ∧ w'.heap[b]? = w.heap[b]?) : KidL w' ok' cs ys := fun i t ht => by
  obtain ⟨k, h, A, n, c, e0, e1, e2, hr⟩ := hk i t ht
  exact ⟨k, h, A, n, c, e0, e1, e2, RdF.moveX hm _ _ hr⟩
/-- where nothing of it is written -/
theorem GRow.move {X : Nat → Prop} {w w' : World} {base : Nat} {v : Value} {n : Nat} {cs : List Value} {ys : List T} (h : GRow X w base v n cs ys) (hm : ∀ b, b < w.heap.size → ¬ X b → w'.heap[b]? = w.heap[b]?) (hX : ∀ g, v.ownBlock = some g → ¬ X g) : GRow X w' base v n cs ys := by
  refine ⟨⟨h.own.1, ?_⟩, h.len, h.kids.moveX fun b hb hl => ⟨hb, hm b hl hb.1⟩⟩
  rcases h.own.2 with h1 | ⟨g, cap, cur, rfl, hb, hg, h1⟩
  · exact .inl h1
  · have hlt := (h.own.lt g rfl).2
    exact .inr ⟨g, cap, cur, rfl, hb, (hm g hlt (hX g rfl)).trans hg, h1⟩
theorem GRow.rxl {X : Nat → Prop} {w : World} {base n c : Nat} {A : Option Addr} {cs : List Value} {ys : List T} (h : GRow X w base (.slice A n c) n cs ys) (hX : ∀ b, X b → b < base) : RXL X w ys A n c := by
  have h := rdF_row (k := 0) (h := 0) (ok' := fun b => ¬ X b) h.own h.kids h.len (fun _ h => h.1) (fun g hg e => by have := (h.own.lt g hg).1; have := hX g e; omega) (by decide) (by decide)
  obtain ⟨A', n', c', e, _, _, h3, h4, h5, h6⟩ := RdF_node.1 h
  simp only [Value.agg.injEq] at e
  have e' : A = A' ∧ n = n' ∧ c = c' := by simpa using e
  obtain ⟨rfl, rfl, rfl⟩ := e'
  exact ⟨h3, h4, h5, h6⟩
theorem run_append_none (ty : TypeId) (c' : Nat) (A : Option Addr) (w : World) : (Builtin.append_ #[24, 24] ty #[.slice none 0 0, .slice A 0 c']).run Try.prog w = .ok (.slice none 0 0) w := by
  obtain ⟨i0, hi, hz0, hz1, hz2⟩ := info_parts infoTerm
  cases A <;> simp [Builtin.append_, run_underlying Try.underlying24, sizeOf, typeInfo, hi, Builtin.lenOf, Builtin.firstCells, loadCells, loadCellsFrom]
/-- terms are appended -/
theorem GRow.app {X : Nat → Prop} {w : World} {base : Nat} {v : Value} {n m c : Nat} {cs : List Value} {ys zs : List T} {A : Option Addr} (h : GRow X w base v n cs ys) (hz : RXL (fun b => X b ∨ some b = v.ownBlock) w zs A m c) (hX : ∀ b, X b → b < base) (hbase : base ≤ w.heap.size) (hs : n + m ≤ 3518437208780) (ty : TypeId) :
    ∃ A' c' w' news, (Builtin.append_ #[24, 24] ty #[v, .slice A m c]).run Try.prog w = .ok (.slice A' (n + m) c') w' ∧ GRow X w' base (.slice A' (n + m) c') (n + m) (cs ++ news) (ys ++ zs) ∧ Below base w w' := by
  obtain ⟨news, l1, k1, o1, e1⟩ := hz.cells
  rcases Nat.eq_zero_or_pos m with rfl | hm
  · have hn : news = [] := List.length_eq_zero_iff.1 (by simpa using l1)
    have hzz : zs = [] := List.length_eq_zero_iff.1 hz.len
    subst hn hzz
    rcases h.own.2 with ⟨rfl, rfl⟩ | ⟨g, cap, cur, rfl, _, _, h1, _⟩
    · exact ⟨none, 0, w, [], run_append_none ty c A w, by simpa using h, Below.refl _ _⟩
    · exact ⟨_, _, w, [], run_append_empty ty g cap A c n h1 w, by simpa using h, Below.refl _ _⟩
  · obtain ⟨t, ht⟩ := at_of hz.len hm
    obtain ⟨b, o, _, _, _, rfl, _⟩ := hz.at_ 0 t ht
    obtain ⟨i0, hi, hz0, hz1, hz2⟩ := info_parts infoTerm
    obtain ⟨g', cap', w', hrun, how', hgr, hg4, _⟩ := run_append_lies (P := Try.prog) w 24 ty base 26 i0 _ 3 40 Try.underlying24 hi hz0 hz1 hz2 rfl (by omega) v n cs h.own ⟨b, o, none⟩ m c news l1
      (fun j u hu => e1 _ rfl j u hu) o1 hm (by unfold maxLen; omega) (by omega) hbase _ rfl
    have hne : ∀ q, q < w.heap.size → some q ≠ v.ownBlock → q ≠ g' := fun q hq hv e => by
      rcases hg4 with h4 | h4
      · rw [h4, e] at hv; exact hv rfl
      · omega
    refine ⟨some ⟨g', 0, none⟩, cap', w', news, hrun, ⟨how', by rw [List.length_append, h.len, hz.len], ?_⟩, below_grown (Below.refl _ _) hgr (fun r hr => (h.own.lt r hr).1) hbase⟩
    refine KidL.app (h.kids.moveX fun q hq hl => ⟨⟨hq.1, fun e => hne q hl hq.2 (by simpa [Value.ownBlock] using e)⟩, hgr.block q hl hq.2⟩) (by rw [h.own.1, h.len]) (k1.moveX fun q hq hl => ?_)
    have hq1 : some q ≠ v.ownBlock := fun e => hq (.inr e)
    exact ⟨⟨fun e => hq (.inl e), fun e => hne q hl hq1 (by simpa [Value.ownBlock] using e)⟩, hgr.block q hl hq1⟩
/-- a row that has grown by one -/
theorem GRow.grow {X : Nat → Prop} {w1 w4 : World} {base : Nat} {v : Value} {n m cap g : Nat} {cs : List Value} {ys : List T} {t : T} {k h : Int} {A : Option Addr} {c : Nat} (hg : GRow X w1 base v n cs ys) (hr : RdF (fun b => ¬ X b ∧ some b ≠ v.ownBlock) w1 t (.agg #[.int .i64 k, .int .i64 h, .slice A m c]))
    (how : w4.ownsRow base 26 3 (.slice (some ⟨g, 0, none⟩) (n + 1) cap) (n + 1) (cs ++ [.int .i64 k, .int .i64 h, .slice A m c]))
    (hgr : (w1.alloc (.cells #[.int .i64 k, .int .i64 h, .slice A m c] 26)).grownBy w4 v.ownBlock) (h4 : v.ownBlock = some g ∨ g = w1.heap.size + 1) :
    GRow X w4 base (.slice (some ⟨g, 0, none⟩) (n + 1) cap) (n + 1) (cs ++ [.int .i64 k, .int .i64 h, .slice A m c]) (ys ++ [t]) := by
  have hgo : ∀ q, q < w1.heap.size → some q ≠ v.ownBlock → w4.heap[q]? = w1.heap[q]? := fun q hq hne => (hgr.block q (by simp; omega) hne).trans (Below.heap_alloc _ _ _ hq)
  have hne : ∀ q, q < w1.heap.size → some q ≠ v.ownBlock → q ≠ g := fun q hq hv e => by
    rcases h4 with h4 | h4
    · rw [h4, e] at hv; exact hv rfl
    · omega
  have hm : ∀ b, (¬ X b ∧ some b ≠ v.ownBlock) → b < w1.heap.size → (¬ X b ∧ some b ≠ Value.ownBlock (.slice (some ⟨g, 0, none⟩) (n + 1) cap)) ∧ w4.heap[b]? = w1.heap[b]? := fun b hb hl =>
    ⟨⟨hb.1, fun e => hne b hl hb.2 (by simpa [Value.ownBlock] using e)⟩, hgo b hl hb.2⟩
  exact ⟨how, by rw [List.length_append, hg.len]; rfl, KidL.snoc (hg.kids.moveX hm) (by rw [hg.own.1, hg.len]) (RdF.moveX hm _ _ hr)⟩
/-- one term is appended -/
theorem GRow.push {X : Nat → Prop} {w1 : World} {base : Nat} {v : Value} {n m : Nat} {cs : List Value} {ys : List T} {t : T} {k h : Int} {A : Option Addr} {c : Nat} (hg : GRow X w1 base v n cs ys) (hr : RdF (fun b => ¬ X b ∧ some b ≠ v.ownBlock) w1 t (.agg #[.int .i64 k, .int .i64 h, .slice A m c]))
    (hbase : base ≤ w1.heap.size) (hn : n + 1 ≤ 3518437208780) :
    ∃ g cap w4, (Builtin.append_ #[24, 24] 24 #[v, .slice (some ⟨w1.heap.size, 0, none⟩) 1 1]).run Try.prog (w1.alloc (.cells #[.int .i64 k, .int .i64 h, .slice A m c] 26)) = .ok (.slice (some ⟨g, 0, none⟩) (n + 1) cap) w4 ∧
      GRow X w4 base (.slice (some ⟨g, 0, none⟩) (n + 1) cap) (n + 1) (cs ++ [.int .i64 k, .int .i64 h, .slice A m c]) (ys ++ [t]) ∧ (∀ q, q < w1.heap.size → some q ≠ v.ownBlock → w4.heap[q]? = w1.heap[q]?) ∧ Below base w1 w4 := by
  obtain ⟨i0, hi, hz0, hz1, hz2⟩ := info_parts infoTerm
  have hbA : Below w1.heap.size w1 (w1.alloc (.cells #[.int .i64 k, .int .i64 h, .slice A m c] 26)) := (Below.refl _ _).alloc (Nat.le_refl _) _
  obtain ⟨g, cap, w4, hrun, how4, hgr, hg4, _⟩ := run_append_lies (P := Try.prog) (w1.alloc (.cells #[.int .i64 k, .int .i64 h, .slice A m c] 26)) 24 24 base 26 i0 _ 3 40 Try.underlying24 hi hz0 hz1 hz2 rfl (by omega) v n cs
    (hg.own.kept (grown_of_below hbA) (own_none _)) ⟨w1.heap.size, 0, none⟩ 1 1 [.int .i64 k, .int .i64 h, .slice A m c] rfl (World.news_of_block (heap_alloc_new w1 _)) (by intro u hu; simp at hu; rcases hu with rfl | rfl | rfl <;> rfl) (by omega) (by unfold maxLen; omega) (by omega) (by simp; omega) _ rfl
  exact ⟨g, cap, w4, hrun, hg.grow hr how4 hgr (by rcases hg4 with h | h; exact .inl h; exact .inr (by simpa using h)), fun q hq hne => (hgr.block q (by simp; omega) hne).trans (Below.heap_alloc _ _ _ hq),
    below_grown (hbA.mono hbase) hgr (fun r hr => (hg.lt hr).1) (by simp; omega)⟩

end Go.Proofs.Ytloeainlpcnhnaa

/-
  The walk of the law MetasSelf.
-/
namespace Go.Proofs.Ytloeainlpcnhnaa
open Go.ChangeShapes Go.WideShapes Go.ChangeAt Go.RowKit
set_option linter.unusedVariables false

theorem wf_six : (Lit.int .i64 6).wf = true := by decide
theorem self_low {i : Int} {n : Nat} (hn : n ≤ 200) : okT loV (.node 6 i (vsL n)) := ok_node6 fun x hx => by
  obtain ⟨h, h0, h1, rfl⟩ := vs_mem hx
  rw [okT, okL]
  exact ⟨fun _ => ⟨h0, by unfold loV; omega⟩, trivial⟩
theorem sl_lw {ms : List (List T × T)} (h : ∀ m ∈ ms, m.1.length ≤ 200) : LwV (slL 0 ms) := fun t ht _ => by
  obtain ⟨j, hj⟩ := List.getElem?_of_mem ht
  have hl := (List.getElem?_eq_some_iff.1 hj).1
  rw [sl_len] at hl
  obtain ⟨m, hm⟩ : ∃ m, ms[j]? = some m := ⟨_, List.getElem?_eq_getElem hl⟩
  rw [sl_at ms 0 j m hm] at hj
  cases hj
  exact self_low (h m (List.mem_of_getElem? hm))
theorem sl_take : ∀ (ms : List (List T × T)) (i j : Nat) (m : List T × T), ms[j]? = some m → slL i (ms.take (j + 1)) = slL i (ms.take j) ++ [.node 6 ((i + j : Nat) : Int) (vsL m.1.length)]
  | [], _, _, _, h => by simp at h
  | m :: ms, i, 0, m', h => by simp at h; subst h; rfl
  | m :: ms, i, j + 1, m', h => by
    rw [List.take_succ_cons, List.take_succ_cons, slL, slL, sl_take ms (i + 1) j m' (by simpa using h), show i + 1 + j = i + (j + 1) by omega]
    rfl
set_option maxRecDepth 100000 in
set_option maxHeartbeats 8000000 in
theorem selvesC (ds : List MP) (Am : Option Addr) (nm cm : Nat) (w : World) (hd : PL w ds Am nm cm) (hl : ∀ d ∈ ds, d.1.1.length ≤ 200) (hnm : nm ≤ 1000) :
    Calls Try.prog 22 #[.slice Am nm cm] w fun e w' => ∃ A n c, e = .returned (.slice A n c) ∧ CLV w' (slL 0 (msP ds)) A n c ∧ Below w.heap.size w w' := by
  have hle := hd.le
  have hcap := hd.cap
  unfold maxLen at hcap
  have HD := Lib.hid hd; clear hd
  have HL := Lib.hid hl; clear hl
  have hlm : (msP ds).length = ds.length := by rw [msP, List.length_map]
  have hfd : ∀ (A : Option Addr) (n c : Nat) (x : Int) (W : World), (Instr.field 87 (.agg #[.slice A n c, .int .i64 x]) 0).run Try.prog W = .ok (.slice A n c) W := fun A n c x W => by kernel_rfl
  go_enter Try.func22, Try.ntmps22
  go_wp2_with fail
  go_loopw [3, 4] (fun v i wr => ∃ (j : Nat) (cs : List Value) (Av : Option Addr) (cv : Nat), j ≤ nm ∧ i = .int .i64 j ∧ v = .slice Av j cv ∧ Hid (GRow (fun b => b < w.heap.size) wr w.heap.size (.slice Av j cv) j cs (slL 0 ((msP ds).take j))) ∧ Hid (Below w.heap.size w wr)) (fun _ i _ => nm - (Go.RowKit.intOf i).toNat)
  case atStart => exact ⟨0, [], none, 0, Nat.zero_le _, rfl, rfl, Lib.hid (by rw [List.take_zero]; exact GRow.nil _ _ _), Lib.hid (Below.refl _ _)⟩
  case round =>
    obtain ⟨j, cs, Av, cv, hj, rfl, rfl, HR, HB⟩ := hrel
    by_cases hlt : j < nm
    · obtain ⟨d, hdd⟩ := at_of HD.out.len hlt
      obtain ⟨b, o, A1, n1, c1, k, g, A2, n2, c2, rfl, e0, e1, e2, e3, e4, hcl, _⟩ := (HD.out.at_ j d hdd).keep HB.out
      have hi0 : (0 : Int) ≤ j := by omega
      have hi1 : (j : Int) < nm := by omega
      have hn1 : n1 ≤ 200 := by have := HL.out d (List.mem_of_getElem? hdd); have := hcl.len; omega
      have hcn : clN (n1 : Int) = n1 := by unfold clN; rw [if_neg (by omega), if_neg (by omega)]; omega
      have HSM := Lib.hid (SameC (n1 : Int) wr)
      rw [hcn] at HSM
      have hmd : (msP ds)[j]? = some d.1 := by rw [msP, List.getElem?_map, hdd]; rfl
      have hst := sl_take (msP ds) 0 j d.1 hmd
      rw [hcl.len, Nat.zero_add] at hst
      have HST := Lib.hid hst
      clear hst hmd hcl hdd hcn
      go_wp2_with fail
      refine HSM.out.mono ?_
      rintro e w1 ⟨As, ns, cs', rfl, hrx, hb1⟩
      have hrow := HR.out.move (w' := w1) (fun q hq _ => hb1.block q hq) (fun q hq => by have := (HR.out.lt hq).1; omega)
      have hB1 := HB.out.trans (hb1.mono HB.out.size)
      have hrd : RdF (fun q => ¬ (q < w.heap.size) ∧ some q ≠ (Value.slice Av j cv).ownBlock) w1 (.node 6 (j : Int) (vsL n1)) (.agg #[.int .i64 6, .int .i64 j, .slice As ns cs']) :=
        RdF_node.2 ⟨As, ns, cs', rfl, wf_six, wf_ofV (by omega) (by omega), hrx.len, hrx.le, hrx.cap, fun i t ht => RdFAt.moveX (fun q hq hl => ⟨⟨fun h => hq (by have := HB.out.size; omega), fun h => hq (HR.out.lt h.symm).2⟩, rfl⟩) (hrx.at_ i t ht)⟩
      obtain ⟨q, cap, w4, hrun, hrow4, hold, hb4⟩ := hrow.push hrd hB1.size (by omega)
      have HB4 := Lib.hid (hB1.trans hb4)
      have HR4 := Lib.hid (show GRow (fun b => b < w.heap.size) w4 w.heap.size (.slice (some ⟨q, 0, none⟩) (j + 1) cap) (j + 1) (cs ++ [.int .i64 6, .int .i64 j, .slice As ns cs']) (slL 0 ((msP ds).take (j + 1))) by rw [HST.out]; exact hrow4)
      clear hrow hB1 hrd hrow4 hold hb4 hrx hb1 HSM HST
      go_wp2_with (at_builtin; refine Lib.wpList_append_run _ rfl _ _ _ _ rfl _ _ rfl rfl _ _ hrun ?_)
      clear hrun
      try go_wp2_with fail
      go_roundw
      case rel => exact ⟨j + 1, _, _, _, by omega, by go_num, rfl, HR4, HB4⟩
      case measure => simp [Go.RowKit.intOf]; omega
    · have hjn : j = nm := by omega
      subst hjn
      go_wp2_with fail
      go_ret
      refine ⟨_, _, _, rfl, ?_, HB.out⟩
      have := HR.out.rxl (fun b hb => hb)
      rw [List.take_of_length_le (by have := HD.out.len; omega)] at this
      exact rxl_anyN this
set_option maxRecDepth 100000 in
set_option maxHeartbeats 16000000 in
theorem metasSelfC (sg : List T) (ds : List MP) (As : Option Addr) (ns cs : Nat) (Am : Option Addr) (nm cm : Nat) (w : World) (hs : DL w sg As ns cs) (hd : PL w ds Am nm cm) :
    Calls Try.prog 5 #[.slice As ns cs, .slice Am nm cm] w fun e w' => e = .returned (.bool true) ∧ Below w.heap.size w w' := by
  have hdl := hd.len
  have hdle := hd.le
  have hdcap := hd.cap
  unfold maxLen at hdcap
  have HS := Lib.hid hs; clear hs
  have HD := Lib.hid hd; clear hd
  have HB := Lib.hid (Below.refl w.heap.size w)
  obtain ⟨r1, hr1⟩ : ∃ r, fwV ⟨sg, msP ds⟩ [] ns nm = r := ⟨_, rfl⟩
  have HR1 := Lib.hid hr1; clear hr1
  go_enter Try.func5, Try.ntmps5
  go_wp2_with fail
  have HC := Lib.hid (nAwakeC w)
  refine HC.out.mono ?_
  rintro e w1 ⟨rfl, hb1⟩
  replace HB := Lib.hid (HB.out.trans (hb1.mono HB.out.size))
  clear hb1 HC
  go_wp2_with fail
  have HC := Lib.hid (vFewC ⟨sg, msP ds⟩ [] As Am none ns cs nm cm 0 0 w1 ⟨HS.out.keep HB.out, HD.out.ml.keep HB.out, clv_nil _ _ _ (Nat.zero_le _)⟩)
  rw [HR1.out] at HC
  refine HC.out.mono ?_
  rintro e w2 ⟨rfl, hb1⟩
  replace HB := Lib.hid (HB.out.trans (hb1.mono HB.out.size))
  clear hb1 HC
  cases r1
  · go_wp2_with fail
    go_ret
    exact ⟨rfl, HB.out⟩
  have HL := Lib.hid (loV_of HR1.out)
  have HLD := Lib.hid (lo_pN HR1.out)
  have hn30 : nm ≤ 30 := (few_len HR1.out).2.1
  have HLL := Lib.hid (show ∀ d ∈ ds, d.1.1.length ≤ 200 from fun d hd => by
    have h := HR1.out
    simp only [fwV, fmB, lsB, Bool.and_eq_true, decide_eq_true_eq, List.all_eq_true] at h
    have := (h.2.2.1 d.1 (List.mem_map_of_mem hd)).1.1
    omega)
  clear HR1
  go_wp2_with fail
  have HC := Lib.hid (ySigC sg As ns cs w2 (HS.out.keep HB.out) HL.out.sg)
  refine HC.out.mono ?_
  rintro e w3 ⟨rfl, hb1⟩
  replace HB := Lib.hid (HB.out.trans (hb1.mono HB.out.size))
  clear hb1 HC
  go_wp2_with fail
  have HC := Lib.hid (dcC sg ds As ns cs Am nm cm w3 (HS.out.keep HB.out) (HD.out.keep HB.out) HL.out.sg HLD.out)
  refine HC.out.mono ?_
  rintro e w4 ⟨rfl, hb1⟩
  replace HB := Lib.hid (HB.out.trans (hb1.mono HB.out.size))
  clear hb1 HC
  obtain ⟨e1, he1⟩ : ∃ r, (siV sg).2 = r := ⟨_, rfl⟩
  have HE1 := Lib.hid he1; clear he1
  try rw [HE1.out]
  by_cases hz : e1 = 0
  case' neg =>
    have dz : (e1 != 0) = true := by simpa using hz
    clear hz
    go_wp2_with fail
    go_ret
    exact ⟨rfl, HB.out⟩
  subst hz
  have dz : ((0 : Int) != 0) = false := by decide
  obtain ⟨e2, he2⟩ : ∃ r, (dcV sg ds).2 = r := ⟨_, rfl⟩
  have HE2 := Lib.hid he2; clear he2
  try rw [HE2.out]
  by_cases hz : e2 = 0
  case' neg =>
    have dz : (e2 != 0) = true := by simpa using hz
    clear hz
    go_wp2_with fail
    go_ret
    exact ⟨rfl, HB.out⟩
  subst hz
  have dz : ((0 : Int) != 0) = false := by decide
  go_wp2_with fail
  go_loopw [11, 12] (fun i _ wr => ∃ (j : Nat), j ≤ nm ∧ i = .int .i64 j ∧ Hid (∀ d ∈ ds.take j, ∀ e ∈ d.1.1, kdQ e = 2) ∧ wr = w4) (fun i _ _ => nm - (Go.RowKit.intOf i).toNat)
  case atStart => exact ⟨0, Nat.zero_le _, rfl, Lib.hid (by simp), rfl⟩
  case round =>
    obtain ⟨j, hj, rfl, HK, rfl⟩ := hrel
    by_cases hlt : j < nm
    · obtain ⟨d, hdd⟩ := at_of hdl hlt
      obtain ⟨b, o, A1, n1, c1, k1, g1, A2, n2, c2, rfl, f0, f1, f2, f3, f4, hcl, _⟩ := (HD.out.at_ j d hdd).keep HB.out
      have hi0 : (0 : Int) ≤ j := by omega
      have hi1 : (j : Int) < nm := by omega
      have hn1 : n1 ≤ 200 := by have := HLL.out d (List.mem_of_getElem? hdd); have := hcl.len; omega
      have HCL := Lib.hid hcl
      have HDD := Lib.hid hdd
      clear hcl hdd
      go_wp2_with fail
      go_loopw [12] (fun i wq => ∃ (q : Nat), q ≤ n1 ∧ i = .int .i64 q ∧ Hid (∀ e ∈ d.1.1.take q, kdQ e = 2) ∧ wq = wr) (fun i _ => n1 - (Go.RowKit.intOf i).toNat)
      case atStart => exact ⟨0, Nat.zero_le _, rfl, Lib.hid (by simp), rfl⟩
      case round =>
        obtain ⟨q, hq, rfl, HQ, rfl⟩ := hrel
        by_cases hql : q < n1
        · obtain ⟨e, he⟩ := at_of HCL.out.len hql
          obtain ⟨b2, o2, k2, g2, A3, n3, c3, rfl, e0, e1, e2, hre⟩ := (HCL.out.at_ q e he).full
          have hkd : kdQ e = k2 := (rdF_kind hre).1
          have hq0 : (0 : Int) ≤ q := by omega
          have hq1 : (q : Int) < n1 := by omega
          by_cases hk : k2 = 2
          · subst hk
            have HQ2 := Lib.hid (show ∀ e ∈ d.1.1.take (q + 1), kdQ e = 2 from fun e' he' => by
              rw [take_snoc he] at he'
              rcases List.mem_append.1 he' with h | h
              · exact HQ.out e' h
              · rw [List.mem_singleton.1 h]; exact hkd)
            clear he hre hkd
            go_wp2_with fail
            exact ⟨⟨q + 1, by omega, by go_num, HQ2, trivial⟩, by simp [Go.RowKit.intOf]; omega⟩
          · have dk : (k2 != 2) = true := by simpa using hk
            clear he hre hkd hk
            go_wp2_with fail
            go_ret
            exact ⟨rfl, HB.out⟩
        · have HK2 := Lib.hid (show ∀ d' ∈ ds.take (j + 1), ∀ e ∈ d'.1.1, kdQ e = 2 from fun d' hd' => by
            rw [take_snoc HDD.out] at hd'
            rcases List.mem_append.1 hd' with h | h
            · exact HK.out d' h
            · rw [List.mem_singleton.1 h]
              have := HQ.out
              rwa [List.take_of_length_le (by have := HCL.out.len; omega)] at this)
          go_wp2_with fail
          exact ⟨⟨j + 1, by omega, by go_num, HK2, trivial⟩, by simp [Go.RowKit.intOf]; omega⟩
    · have HOK := Lib.hid (self_ok HE1.out HE2.out fun d hd => HK.out d (by rw [List.take_of_length_le (by omega)]; exact hd))
      go_wp2_with fail
      refine (selvesC ds Am nm cm _ (HD.out.keep HB.out) HLL.out (by omega)).mono ?_
      rintro e wz ⟨A9, n9, c9, rfl, hcl, hb1⟩
      replace HB := Lib.hid (HB.out.trans (hb1.mono HB.out.size))
      have HC := Lib.hid (suC sg ds [] ds (slL 0 (msP ds)) As ns cs Am nm cm none 0 0 Am nm cm A9 n9 c9 wz (HS.out.keep HB.out) (HD.out.keep HB.out) (clv_nil _ _ _ (Nat.zero_le _)) (HD.out.keep HB.out) hcl HL.out HLD.out (sl_lw fun m hm => by
        obtain ⟨d, hd, rfl⟩ := List.mem_map.1 hm
        exact HLL.out d hd) (by omega))
      rw [HOK.out] at HC
      clear hb1 hcl
      go_wp2_with fail
      refine HC.out.mono ?_
      rintro e wy ⟨rfl, hb1⟩
      replace HB := Lib.hid (HB.out.trans (hb1.mono HB.out.size))
      clear hb1 HC
      go_wp2_with fail
      go_ret
      exact ⟨rfl, HB.out⟩
theorem metasSelfM (sg : List T) (ms : List (List T × T)) (As : Option Addr) (ns cs : Nat) (Am : Option Addr) (nm cm : Nat) (w : World) (hs : DL w sg As ns cs) (hd : ML w ms Am nm cm) :
    Calls Try.prog 5 #[.slice As ns cs, .slice Am nm cm] w fun e w' => e = .returned (.bool true) ∧ Below w.heap.size w w' := by
  obtain ⟨ds, hds, _⟩ := hd.pl
  exact metasSelfC sg ds As ns cs Am nm cm w hs hds
end Go.Proofs.Ytloeainlpcnhnaa
