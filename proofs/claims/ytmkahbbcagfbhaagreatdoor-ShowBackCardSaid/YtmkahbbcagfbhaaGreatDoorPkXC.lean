/-
  Texts of one proof, put together. No statement is proved here.
-/
import Derived.Test.YtmkahbbcagfbhaaGreatDoorPkGC
import Derived.Test.YtmkahbbcagfbhaaGreatDoorPkYC
/-
  What is written of a signature that is in order is read as that: plain. No statement is proved here.
-/
namespace Go.Proofs.YtmkahbbcagfbhaaGreatDoor
open Go.ChangeShapes Go.WideShapes Go.ChangeAt Go.RowKit
set_option linter.unusedVariables false
/-! ### Types and kinds have Heads that are declared -/
theorem sp_has {W : WV} (hms : W.ms = []) {xs cx : List T} {t t' : T} (hn : ∀ x ∈ xs, nodB x = true) (hs : spV W xs cx t = .ok t') : xs.all (hasB W.sg.length) = true ∧ xs.all (kdB (kdW W)) = true := by
  constructor
  · rw [List.all_eq_true]
    intro x hx
    obtain ⟨b, hb⟩ := sp_all _ _ _ _ hs x hx
    exact (tm_has hms x cx b (hn x hx) hb).1
  · rw [List.all_eq_true]
    intro x hx
    obtain ⟨b, hb⟩ := sp_all _ _ _ _ hs x hx
    exact (tm_has hms x cx b (hn x hx) hb).2
theorem fa_has {W : WV} (hms : W.ms = []) {h : Int} {xs cx : List T} (hn : nodB (.node 2 h xs) = true) (ht : faV W h xs cx = 0) : hasB W.sg.length (.node 2 h xs) = true ∧ kdB (kdW W) (.node 2 h xs) = true := by
  rw [faV] at ht
  split at ht
  · rename_i h1
    split at ht
    · rename_i h2
      cases hs : spV W xs cx (W.sg.getD h.toNat (.node 0 0 [])) with
      | error e => rw [hs] at ht; exact absurd (show e = 0 from ht) (sp_err W _ _ _ _ hs)
      | ok t =>
        obtain ⟨q1, q2⟩ := sp_has hms (nodV hn).2 hs
        have hd : decide ((W.sg.length : Int) ≤ h) = false := by simp; omega
        have hk : kdW W h = true := h2
        rw [hasB, kdB, hasL_all, kdL_all, q1, q2, hd, hk]
        exact ⟨by simp, by simp⟩
    · cases ht
  · cases ht
theorem pi_has {n : Int} {kd : Int → Bool} {x y : T} (h1 : hasB n x = true ∧ kdB kd x = true) (h2 : hasB n y = true ∧ kdB kd y = true) : hasB n (.node 1 0 [x, y]) = true ∧ kdB kd (.node 1 0 [x, y]) = true := by
  rw [hasB, kdB, hasL_all, kdL_all]
  simp [h1.1, h1.2, h2.1, h2.2]
theorem ty_has {W : WV} (hms : W.ms = []) (a : T) : ∀ (cx : List T), nodB a = true → tyV W a cx = 0 → hasB W.sg.length a = true ∧ kdB (kdW W) a = true := by
  induction a using T.ind with
  | step k h xs ih =>
    intro cx hn ht
    by_cases h1 : k = 1
    · subst h1
      obtain ⟨rfl, x, y, rfl, hx, hy⟩ := piV hn
      rw [ty_pi] at ht
      by_cases h2 : tyV W x cx = 0
      · rw [if_pos h2] at ht
        exact pi_has (ih x (by simp) cx hx h2) (ih y (by simp) _ hy ht)
      · rw [if_neg h2] at ht; exact absurd ht h2
    · by_cases h2 : k = 2
      · subst h2
        rw [ty_fam] at ht
        exact fa_has hms hn ht
      · rw [ty_no W h1 h2] at ht; cases ht
theorem ki_has {W : WV} (hms : W.ms = []) (a : T) : ∀ (cx : List T), nodB a = true → kiV W a cx = 0 → hasB W.sg.length a = true ∧ kdB (kdW W) a = true := by
  induction a using T.ind with
  | step k h xs ih =>
    intro cx hn ht
    by_cases h1 : k = 1
    · subst h1
      obtain ⟨rfl, x, y, rfl, hx, hy⟩ := piV hn
      rw [ki_pi] at ht
      by_cases h2 : tyV W x cx = 0
      · rw [if_pos h2] at ht
        exact pi_has (ty_has hms x cx hx h2) (ih y (by simp) _ hy ht)
      · rw [if_neg h2] at ht; exact absurd ht h2
    · by_cases h2 : k = 0
      · subst h2
        have hx : xs = [] := by
          rcases okN_cases (nodV hn).1 with ⟨e, e2, he⟩ | ⟨e, e2, he⟩ | ⟨e, e2, he⟩ | ⟨e, he⟩ | ⟨e, he⟩ | ⟨e, he⟩ | ⟨e, he⟩ <;> first | exact List.length_eq_zero_iff.1 (by omega) | omega
        subst hx
        exact ⟨rfl, rfl⟩
      · rw [ki_no W h2 h1] at ht; cases ht
/-! ### A signature that is in order -/
theorem fi_all {g : List T → T → Int} : ∀ (l dn : List T), (fiV g dn l).2 = 0 → ∀ i x, l[i]? = some x → g (dn ++ l.take i) x = 0
  | [], dn, _, i, x, hx => by simp at hx
  | y :: l, dn, h, i, x, hx => by
    rw [fiV] at h
    by_cases h0 : g dn y = 0
    · rw [if_pos h0] at h
      cases i with
      | zero =>
        have e : y = x := by simpa using hx
        subst e
        simpa using h0
      | succ i =>
        have := fi_all l (dn ++ [y]) h i x (by simpa using hx)
        simpa using this
    · rw [if_neg h0] at h
      exact absurd h h0
/-- what holds of each declaration -/
structure InO (ds : List (ByteArray × T)) (i : Nat) (t : T) : Prop where
  my : myB t = true
  sc : scC t 0 0
  has : hasB i t = true
  kd : kdB (kdD (ds.take i)) t = true
theorem sig_in {ds : List (ByteArray × T)} (h : (siV (ds.map (·.2))).2 = 0) {i : Nat} {d : ByteArray × T} (hd : ds[i]? = some d) : InO ds i d.2 := by
  have hl := (List.getElem?_eq_some_iff.1 hd).1
  have h2 : (fiV sgW [] (ds.map (·.2))).2 = 0 := by
    rw [siV, firV] at h
    split at h
    · cases h
    · exact h
  have h3 := fi_all _ _ h2 i d.2 (by rw [List.getElem?_map, hd]; rfl)
  rw [List.nil_append, ← List.map_take] at h3
  have hlen : ((wS (ds.take i)).sg.length : Int) = i := by simp [wS]; omega
  change sgW (wS (ds.take i)).sg d.2 = 0 at h3
  rw [sgW] at h3
  split at h3
  · rw [ckKi] at h3
    split at h3
    · rename_i hm
      have hmy := ((mayV_iff _ _ _).1 hm).2.2.1 d.2 (by simp)
      have hn := ((myB_iff d.2).1 hmy).1
      have q := ki_has (W := wS (ds.take i)) rfl d.2 [] hn h3
      rw [hlen, kdW_D] at q
      exact ⟨hmy, ki_scoped (W := wS (ds.take i)) d.2 [] hn h3, q.1, q.2⟩
    · cases h3
  · rw [ckTy] at h3
    split at h3
    · rename_i hm
      have hmy := ((mayV_iff _ _ _).1 hm).2.2.1 d.2 (by simp)
      have hn := ((myB_iff d.2).1 hmy).1
      have q := ty_has (W := wS (ds.take i)) rfl d.2 [] hn h3
      rw [hlen, kdW_D] at q
      exact ⟨hmy, ty_scoped (W := wS (ds.take i)) d.2 [] hn h3, q.1, q.2⟩
    · cases h3
theorem has_more {n m : Int} (h : n ≤ m) (t : T) : hasB n t = true → hasB m t = true := by
  refine T.ind (M := fun t => hasB n t = true → hasB m t = true) ?_ t
  intro k g xs ih hh
  rw [hasB, hasL_all, Bool.and_eq_true, List.all_eq_true] at hh ⊢
  refine ⟨?_, fun x hx => ih x hx (hh.2 x hx)⟩
  have h1 := hh.1
  simp only [Bool.not_eq_true', Bool.and_eq_false_iff, decide_eq_false_iff_not] at h1 ⊢
  rcases h1 with h1 | h1
  · exact .inl h1
  · exact .inr (by omega)
theorem InO.show {ds : List (ByteArray × T)} {i : Nat} {t : T} (h : InO ds i t) (hi : i ≤ ds.length) : showT ds t = .ok (txtL false (shT (nmD ds) t 0)) := by
  have hb := (myB_iff t).1 h.my
  have hsb : scB t 0 0 = true := (scB_iff 0 t 0 (by have := hb.2.1; have := hb.2.2; omega) (by have := hb.2.1; have := hb.2.2; omega)).2 h.sc
  rw [showT, if_pos h.my, if_pos ⟨hsb, has_more (by omega) t h.has⟩]
/-- of a signature in order nothing but a name can be wrong -/
theorem show_err {ds : List (ByteArray × T)} (hall : ∀ d ∈ ds, ∃ l, showT ds d.2 = .ok l) : ∀ (r : List (ByteArray × T)) (b : List UInt8) (e : Int), (∀ d ∈ r, d ∈ ds) → showL ds r b nmB = .error e → e = 1
  | [], b, e, _, h => by cases h
  | d :: r, b, e, hr, h => by
    rw [showL] at h
    split at h
    · obtain ⟨l, hl⟩ := hall d (hr d List.mem_cons_self)
      rw [hl] at h
      exact show_err hall r _ _ (fun x hx => hr x (List.mem_cons_of_mem _ hx)) h
    · cases h; rfl
/-! ### The text, its tokens -/
/-- one declaration's tokens -/
def lnT (nm : Int → ByteArray) (d : ByteArray × T) : List Tk := (0, d.1) :: mK :: (shT nm d.2 0 ++ [mD])
theorem txt_dot (x : List Tk) : ∀ p, txtL p (x ++ [mD]) = txtL p x ++ [46] := by
  induction x with
  | nil => intro p; cases p <;> rfl
  | cons t x ih => intro p; rw [List.cons_append, txtL, txtL, ih]; simp
theorem toks_line {s : ByteArray} (hs : NmP s) {x : List Tk} (hx : ∀ t ∈ x, GoodT t) {rest : List UInt8} {y : List Tk} (h : toksL rest = some y) : toksL (lineD s (txtL false x) ++ rest) = some (((0, s) :: mK :: (x ++ [mD])) ++ y) := by
  have e : lineD s (txtL false x) ++ rest = (s.data.toList ++ 32 :: 58 :: 32 :: txtL false (x ++ [mD])) ++ 10 :: rest := by
    rw [txt_dot]
    simp [lineD]
  have hg : ∀ t ∈ x ++ [mD], GoodT t := fun t ht => by
    rcases List.mem_append.1 ht with h1 | h1
    · exact hx t h1
    · rw [List.mem_singleton.1 h1]; exact good_mark (by decide)
  have e2 : toksL (s.data.toList ++ 32 :: 58 :: 32 :: txtL false (x ++ [mD])) = some ((0, s) :: mK :: (x ++ [mD])) := by
    rw [toksL, hs.run, runL, show stp ⟨[], s.data.toList, false⟩ 32 = some ⟨flu [] s.data.toList, [], false⟩ from rfl, Option.bind_some, run_mark (by decide), runL]
    rw [show stp ⟨flu (flu [] s.data.toList) [] ++ [(1, ⟨#[58]⟩)], [], false⟩ 32 = some ⟨flu (flu [] s.data.toList) [] ++ [(1, ⟨#[58]⟩)], [], false⟩ from rfl, Option.bind_some, toks_from, toks_txt hg, flu_nil, hs.flu]
    rfl
  rw [e, toks_join, e2, h]
  rfl
theorem toks_lines {nm : Int → ByteArray} : ∀ (r : List (ByteArray × T)), (∀ d ∈ r, NmP d.1 ∧ ∀ t ∈ shT nm d.2 0, GoodT t) → toksL (r.flatMap fun d => lineD d.1 (txtL false (shT nm d.2 0))) = some (r.flatMap (lnT nm))
  | [], _ => rfl
  | d :: r, h => by
    rw [List.flatMap_cons, List.flatMap_cons]
    exact toks_line (h d List.mem_cons_self).1 (h d List.mem_cons_self).2 (toks_lines r fun x hx => h x (List.mem_cons_of_mem _ hx))
theorem show_lines {ds : List (ByteArray × T)} : ∀ (r : List (ByteArray × T)) (b l : List UInt8), showL ds r b nmB = .ok l → l = b ++ r.flatMap fun d => lineD d.1 (txtL false (shT (nmD ds) d.2 0))
  | [], b, l, h => by cases h; simp
  | d :: r, b, l, h => by
    rw [showL] at h
    split at h
    · split at h
      · cases h
      · rename_i l' hl'
        have := show_lines r _ _ h
        rw [this, (wr_of hl').2.1, List.flatMap_cons, List.append_assoc]
    · cases h
/-! ### It is read again -/
theorem posD_not {s : ByteArray} : ∀ {l : List (ByteArray × T)}, (∀ x ∈ l, x.1 ≠ s) → posD s l = none
  | [], _ => rfl
  | x :: l, h => by
    rw [posD, if_neg (h x List.mem_cons_self), posD_not fun y hy => h y (List.mem_cons_of_mem _ hy)]
    rfl
theorem GdD.take {ds : List (ByteArray × T)} (h : GdD ds) (i : Nat) : GdD (ds.take i) :=
  ⟨fun d hd => h.nm d (List.mem_of_mem_take hd), fun d hd => Nat.le_trans ((List.take_sublist i ds).countP_le) (h.once d (List.mem_of_mem_take hd))⟩
theorem nm_take {ds : List (ByteArray × T)} {i h : Nat} (hh : h < i) : nmD (ds.take i) (h : Nat) = nmD ds (h : Nat) := by
  rw [nmD, nmD, Int.toNat_natCast, List.getD_eq_getElem?_getD, List.getD_eq_getElem?_getD, List.getElem?_take_of_lt hh]
theorem GdD.upto {ds : List (ByteArray × T)} (h : GdD ds) {i : Nat} (hi : i ≤ ds.length) : NmOk (nmD ds) (kdD (ds.take i)) (ds.take i) i := ⟨fun g hg => by
  have := (h.take i).at_.at_ g (by rw [List.length_take]; omega)
  rw [nm_take hg] at this
  exact this⟩
theorem decl_step {ds : List (ByteArray × T)} (hg : GdD ds) {i : Nat} {d : ByteArray × T} (hd : ds[i]? = some d) (ho : InO ds i d.2) (rest : List Tk) : declM mayB nmB (ds.take i) (lnT (nmD ds) d ++ rest) = .ok (d, rest) := by
  have hl := (List.getElem?_eq_some_iff.1 hd).1
  have hm := List.mem_of_getElem? hd
  have hb := (myB_iff d.2).1 ho.my
  have hw : Wr_ i 0 d.2 := ⟨hb.1, ho.sc, ho.has, by have := hb.2.2; omega⟩
  have ht := term_sh (hg.upto (by omega)) d.2 0 120 (mD :: rest) hw ho.kd (by have := hb.2.2; omega) rfl
  have hp : posD d.1 (ds.take i) = none := posD_not fun x hx e => by
    obtain ⟨k, hk⟩ := List.getElem?_of_mem hx
    have hki : k < i := by have := (List.getElem?_eq_some_iff.1 hk).1; rw [List.length_take] at this; omega
    rw [List.getElem?_take_of_lt hki] at hk
    have := cnt_two (s := d.1) hk hd hki e rfl
    have := hg.once d hm
    omega
  have hmay : mayB d.2 = true := by rw [mayB_my (by have := hb.2.1; omega)]; exact ho.my
  rw [show lnT (nmD ds) d ++ rest = (0, d.1) :: mK :: (shT (nmD ds) d.2 0 ++ mD :: rest) by simp [lnT]]
  rw [declM, nameM, if_pos rfl]
  dsimp only
  rw [if_pos ⟨hg.nm d hm, hp⟩, takeM, if_pos rfl]
  dsimp only
  rw [wholeM, show ([] : List ByteArray) = bds 0 from rfl, ht]
  dsimp only
  rw [if_pos hmay]
  dsimp only
  rw [takeM, if_pos rfl]
theorem decls_step {ds : List (ByteArray × T)} (hg : GdD ds) (ho : ∀ i d, ds[i]? = some d → InO ds i d.2) (h40 : ds.length ≤ 40) : ∀ (m i fuel : Nat), i + m = ds.length → ((ds.drop i).flatMap (lnT (nmD ds))).length ≤ fuel → declsM mayB nmB fuel (ds.take i) ((ds.drop i).flatMap (lnT (nmD ds))) = .ok ds
  | 0, i, fuel, hi, _ => by
    rw [List.drop_of_length_le (by omega), List.take_of_length_le (by omega), List.flatMap_nil, declsM]
  | m + 1, i, fuel, hi, hf => by
    obtain ⟨d, hd⟩ := at_ofX (l := ds) (k := i) rfl (by omega)
    have hdr := drop_atX hd
    rw [hdr, List.flatMap_cons] at hf ⊢
    have hst := decl_step hg hd (ho i d hd) ((ds.drop (i + 1)).flatMap (lnT (nmD ds)))
    obtain ⟨t, l, hc⟩ : ∃ t l, lnT (nmD ds) d ++ (ds.drop (i + 1)).flatMap (lnT (nmD ds)) = t :: l := ⟨_, _, rfl⟩
    have hlen : 0 < (lnT (nmD ds) d).length := by simp [lnT]
    rw [List.length_append] at hf
    obtain ⟨f, rfl⟩ : ∃ f, fuel = f + 1 := ⟨fuel - 1, by omega⟩
    rw [hc] at hst ⊢
    rw [declsM, if_neg (by rw [List.length_take]; omega), hst]
    dsimp only
    have htk : ds.take i ++ [d] = ds.take (i + 1) := by rw [List.take_add_one, hd]; rfl
    rw [htk]
    exact decls_step hg ho h40 m (i + 1) f (by omega) (by omega)
theorem sig_read {ds : List (ByteArray × T)} {l : List UInt8} (hs : (siV (ds.map (·.2))).2 = 0) (h : showD ds = .ok l) (hl : l.length ≤ 20000) (h40 : ds.length ≤ 40) : readD l = .ok ds := by
  have hg := gd_of h
  have ho : ∀ i d, ds[i]? = some d → InO ds i d.2 := fun i d hd => sig_in hs hd
  have hln := show_lines ds [] l h
  rw [List.nil_append] at hln
  have ht : toksL l = some (ds.flatMap (lnT (nmD ds))) := by
    rw [hln]
    refine toks_lines ds fun d hd => ⟨nm_of (hg.nm d hd), ?_⟩
    obtain ⟨i, hi⟩ := List.getElem?_of_mem hd
    have q := ho i d hi
    have hb := (myB_iff d.2).1 q.my
    have hi2 := (List.getElem?_eq_some_iff.1 hi).1
    exact sh_goodT (n := i) (fun g hgi => hg.good g (by omega)) d.2 0 ⟨hb.1, q.sc, q.has, by have := hb.2.2; omega⟩
  obtain ⟨e1, e2⟩ := lex_of ht hl
  rw [readD, if_neg (by rw [e1]; simp), e2]
  have := decls_step hg ho h40 ds.length 0 _ (by omega) (Nat.le_refl _)
  simpa using this
end Go.Proofs.YtmkahbbcagfbhaaGreatDoor
/-
  The walk of ShowBack. No statement is proved here.
-/
namespace Go.Proofs.YtmkahbbcagfbhaaGreatDoor
open Go.ChangeShapes Go.WideShapes Go.ChangeAt Go.RowKit
set_option linter.unusedVariables false
set_option maxRecDepth 100000 in
set_option maxHeartbeats 8000000 in
theorem showBackC (ds : List (ByteArray × T)) (SA : Option Addr) (sn sc : Nat) (w : World) (hD : DS w ds SA sn sc) :
    Calls Tryz.prog 3 #[.slice SA sn sc] w fun e w' => e = .returned (.bool true) ∧ Below w.heap.size w w' := by
  have hln := hD.len
  have hle := hD.le
  have hcp := hD.cap
  unfold maxLen at hcp
  have HD := Lib.hid hD
  have HA := Lib.hid (sAwakeC w)
  clear hD
  go_enter Tryz.func3, Tryz.ntmps3
  go_wp2_with fail
  refine HA.out.mono ?_
  rintro e w1 ⟨rfl, hb1⟩
  have HB1 := Lib.hid hb1
  clear HA hb1
  have HF := Lib.hid (fewC (ds.map (·.2)) SA sn sc w1 (HD.out.keep HB1.out).dl)
  obtain ⟨r1, hr1⟩ : ∃ r, fwQ (ds.map (·.2)) sn = r := ⟨_, rfl⟩
  rw [hr1] at HF
  have HR1 := Lib.hid hr1
  clear hr1
  go_wp2_with fail
  refine HF.out.mono ?_
  rintro e w2 ⟨rfl, hb2⟩
  have HB2 := Lib.hid (HB1.out.trans (hb2.mono HB1.out.size))
  clear HF hb2 HB1
  have HG := Lib.hid (sLightC ds SA sn sc w2 (HD.out.keep HB2.out))
  obtain ⟨r2, hr2⟩ : ∃ r, (ds.all fun d => decide (d.1.size ≤ 100)) = r := ⟨_, rfl⟩
  rw [hr2] at HG
  have HR2 := Lib.hid hr2
  clear hr2
  go_wp2_with fail
  refine HG.out.mono ?_
  rintro e w3 ⟨rfl, hb3⟩
  have HB3 := Lib.hid (HB2.out.trans (hb3.mono HB2.out.size))
  clear HG hb3 HB2
  cases r1 with
  | false =>
    go_wp2_with fail
    go_ret
    exact ⟨rfl, HB3.out⟩
  | true =>
  cases r2 with
  | false =>
    go_wp2_with fail
    go_ret
    exact ⟨rfl, HB3.out⟩
  | true =>
  obtain ⟨hlow, h30⟩ := few_low HR1.out
  have HS := Lib.hid (light_of HR2.out)
  have hlw : LwV (ds.map (·.2)) := hlow.sg
  have HK := Lib.hid (ySigC (ds.map (·.2)) SA sn sc w3 (HD.out.keep HB3.out).dl hlw)
  obtain ⟨R, hR⟩ : ∃ R, siV (ds.map (·.2)) = R := ⟨_, rfl⟩
  rw [hR] at HK
  have HRR := Lib.hid hR
  clear hR hlow hlw HR1 HR2
  go_wp2_with fail
  refine HK.out.mono ?_
  rintro e w4 ⟨rfl, hb4⟩
  have HB4 := Lib.hid (HB3.out.trans (hb4.mono HB3.out.size))
  clear HK hb4 HB3
  have HC := Lib.hid (sDeclsC ds SA sn sc w4 (HD.out.keep HB4.out) HS.out (by omega))
  obtain ⟨R1, R2⟩ := R
  dsimp only
  go_wp2_with fail
  refine HC.out.mono ?_
  rintro e w5 ⟨hb5, A5, n5, c5, e5, rfl, hres5⟩
  have HB5 := Lib.hid (HB4.out.trans (hb5.mono HB4.out.size))
  clear HC hb5 HB4
  by_cases hes : R2 = 0
  rotate_left
  · have d1 : (R2 == 0) = false := by simpa using hes
    clear hres5
    go_wp2_with fail
    go_ret
    exact ⟨rfl, HB5.out⟩
  subst hes
  have HSG := Lib.hid (show (siV (ds.map (·.2))).2 = 0 by rw [HRR.out])
  clear HRR
  rcases hres5 with ⟨l, hsh, rfl, _, hy5⟩ | ⟨hsh, he5, rfl, rfl, rfl⟩
  rotate_left
  · obtain rfl : e5 = 1 := show_err (fun d hd => by
      obtain ⟨i, hi⟩ := List.getElem?_of_mem hd
      exact ⟨_, (sig_in HSG.out hi).show (by have := (List.getElem?_eq_some_iff.1 hi).1; omega)⟩) ds [] e5 (fun d hd => hd) hsh
    clear hsh he5
    go_wp2_with fail
    go_ret
    exact ⟨rfl, HB5.out⟩
  have h5len := hy5.len
  have h5le := hy5.yl.le
  have h5cp := hy5.yl.cap
  unfold maxLen at h5cp
  have HY := Lib.hid hy5.yl
  have HSH := Lib.hid hsh
  clear hy5 hsh
  by_cases hbig : 20000 < n5
  · have d6 : decide ((20000 : Int) < (n5 : Int)) = true := by simp; omega
    go_wp2_with fail
    go_ret
    exact ⟨rfl, HB5.out⟩
  have d6 : decide ((20000 : Int) < (n5 : Int)) = false := by simp; omega
  have HRT := Lib.hid (sig_read HSG.out HSH.out (by omega) (by omega))
  have HP := Lib.hid (pDeclsC l A5 n5 c5 w5 HY.out)
  clear HSG HSH HY
  go_wp2_with fail
  refine HP.out.mono ?_
  rintro e w6 ⟨hb6, A6, n6, c6, e6, rfl, hres6⟩
  have HB6 := Lib.hid (HB5.out.trans (hb6.mono HB5.out.size))
  obtain ⟨rfl, hd6⟩ : e6 = 0 ∧ DS w6 ds A6 n6 c6 := by
    rcases hres6 with ⟨ds', h1, h2, h3, _⟩ | ⟨h1, _⟩
    · rw [HRT.out] at h1; cases h1; exact ⟨h2, h3⟩
    · rw [HRT.out] at h1; cases h1
  obtain rfl : n6 = sn := hd6.len.symm.trans hln
  have HS9 := Lib.hid (pSameC ds A6 SA n6 c6 sc w6 hd6 (HD.out.keep HB6.out))
  have h6le := hd6.le
  have h6cp := hd6.cap
  unfold maxLen at h6cp
  clear HP hb6 hres6 HRT hd6 HB5
  go_wp2_with fail
  refine HS9.out.mono ?_
  rintro e w7 ⟨rfl, hb7⟩
  have HB7 := Lib.hid (HB6.out.trans (hb7.mono HB6.out.size))
  clear HS9 hb7
  go_wp2_with fail
  go_ret
  exact ⟨rfl, HB7.out⟩
end Go.Proofs.YtmkahbbcagfbhaaGreatDoor
