/-
  What has a type is written, and is read as what it was: plain. No statement is proved here.
-/
import Derived.Test.YtmkahbbcagfbhaaGreatDoorPkAC
import Derived.Test.YtmkahbbcagfbhaaGreatDoorPkVC
namespace Go.Proofs.YtmkahbbcagfbhaaGreatDoor
open Go.ChangeShapes Go.WideShapes Go.ChangeAt Go.RowKit
set_option linter.unusedVariables false
/-- whether a declaration is a kind -/
def kdW (W : WV) (h : Int) : Bool := kiB (W.sg.getD h.toNat (.node 0 0 []))
theorem hd_has {W : WV} {k h : Int} {cx : List T} {t : T} (hh : hdV W k h cx = .ok t) : k = 4 ∨ (h < W.sg.length ∧ kdW W h = false) := by
  rw [hdV] at hh
  split at hh
  · rename_i e; exact .inl e
  · split at hh
    · rename_i h1
      split at hh
      · cases hh
      · rename_i h2; exact .inr ⟨h1, by simpa [kdW] using h2⟩
    · cases hh
theorem tm_has {W : WV} (hms : W.ms = []) (m : T) : ∀ (cx : List T) (a : T), nodB m = true → tmV W m cx a = 0 → hasB W.sg.length m = true ∧ kdB (kdW W) m = true := by
  induction m using T.ind with
  | step k h xs ih =>
    intro cx a hn ht
    rw [hasB, kdB, hasL_all, kdL_all]
    by_cases hk : k = 3
    · subst hk
      obtain ⟨rfl, x, rfl, hx⟩ := lamV hn
      rw [tm_lam] at ht
      by_cases hq : kdQ a = 1
      · rw [if_pos hq] at ht
        have g := ih x (List.mem_cons_self ..) _ _ hx ht
        simp [g.1, g.2]
      · rw [if_neg hq] at ht; cases ht
    · obtain ⟨_, t, hc, _⟩ := tm_neu_ok hk ht
      rw [cmV] at hc
      by_cases hk45 : k = 4 ∨ k = 5
      · rw [if_pos hk45] at hc
        split at hc
        · cases hc
        · rename_i t0 ht0
          have hall := sp_all _ _ _ _ hc
          have hkids : (xs.all (hasB W.sg.length)) = true ∧ (xs.all (kdB (kdW W))) = true := by
            constructor
            · rw [List.all_eq_true]
              intro x hx
              obtain ⟨b, hb⟩ := hall x hx
              exact (ih x hx cx b ((nodV hn).2 x hx) hb).1
            · rw [List.all_eq_true]
              intro x hx
              obtain ⟨b, hb⟩ := hall x hx
              exact (ih x hx cx b ((nodV hn).2 x hx) hb).2
          rw [hkids.1, hkids.2]
          rcases hk45 with rfl | rfl
          · exact ⟨by simp, by simp⟩
          · rcases hd_has ht0 with e | ⟨h1, h2⟩
            · cases e
            · have hd : decide ((W.sg.length : Int) ≤ h) = false := by simp; omega
              rw [hd, h2]
              exact ⟨by simp, by simp⟩
      · rw [if_neg hk45] at hc
        by_cases hk6 : k = 6
        · rw [if_pos hk6, hms] at hc
          have h0 := headV hn
          rw [if_neg (by simp; omega)] at hc
          cases hc
        · rw [if_neg hk6] at hc; cases hc
/-- declarations without their names -/
def wS (ds : List (ByteArray × T)) : WV := ⟨ds.map (·.2), []⟩
theorem kdW_D (ds : List (ByteArray × T)) : kdW (wS ds) = kdD ds := by
  funext h
  rw [kdW, kdD, wS]
  dsimp only
  rw [List.getD_eq_getElem?_getD, List.getD_eq_getElem?_getD, List.getElem?_map]
  cases ds[h.toNat]? <;> rfl
theorem DS.dl {w : World} {ds : List (ByteArray × T)} {A : Option Addr} {n c : Nat} (h : DS w ds A n c) : DL w (ds.map (·.2)) A n c :=
  ⟨by rw [List.length_map, h.len], h.le, h.cap, fun i x hx => by
    rw [List.getElem?_map] at hx
    cases hd : ds[i]? with
    | none => rw [hd] at hx; cases hx
    | some d =>
      rw [hd] at hx
      cases hx
      obtain ⟨b, o, k, g, A', n', c', e, q⟩ := h.at_ i d hd
      exact ⟨b, o, d.1, k, g, A', n', c', e, q⟩⟩
theorem DS.ck {w : World} {ds : List (ByteArray × T)} {A : Option Addr} {n c : Nat} (h : DS w ds A n c) : CkV w (wS ds) [] A n c none 0 0 none 0 0 :=
  ⟨h.dl, ⟨rfl, Nat.le_refl _, Nat.zero_le _, fun i x hx => by simp [wS] at hx⟩, ⟨rfl, Nat.le_refl _, Nat.zero_le _, fun i x hx => by simp at hx⟩⟩
theorem lo_ltA {t : T} {s d : Int} (h : ltB t s d = true) (hm : myB t = true) : okT loV t := by
  have h4 := ((myB_iff t).1 hm).2.1
  rw [ltB, szW_small (by omega), dpW_eq t (by omega)] at h
  simp only [Bool.and_eq_true, decide_eq_true_eq] at h
  exact okT_of t ((myB_iff t).1 hm).1 h.1.1
theorem few_low {ds : List (ByteArray × T)} {n : Nat} (h : fwQ (ds.map (·.2)) n = true) : LoV (wS ds) [] ∧ n ≤ 30 := by
  simp only [fwQ, Bool.and_eq_true, decide_eq_true_eq, List.all_eq_true] at h
  exact ⟨⟨fun t ht => lo_ltA (h.2 t ht), fun m hm => (by cases hm), fun t ht => (by cases ht)⟩, h.1⟩
theorem gd_of {ds : List (ByteArray × T)} {l : List UInt8} (h : showD ds = .ok l) : GdD ds :=
  ⟨fun d hd => (showL_ok ds [] l h d hd).1, fun d hd => (showL_ok ds [] l h d hd).2.1⟩
/-- what has a type is written -/
theorem ck_show {ds : List (ByteArray × T)} {m a : T} (h : ckT (wS ds) [] m a = 0) : ∃ l, showT ds m = .ok l ∧ kdB (kdD ds) m = true := by
  rw [ckT] at h
  split at h
  · rename_i hm
    have hmy := ((mayV_iff _ _ _).1 hm).2.2.1 m (by simp)
    have hn := ((myB_iff m).1 hmy).1
    have hsc := tm_scoped m _ _ hn h
    have hh := tm_has (W := wS ds) rfl m _ _ hn h
    rw [kdW_D] at hh
    have hlen : ((wS ds).sg.length : Int) = ds.length := by simp [wS]
    have hsb : scB m 0 0 = true := (scB_iff 0 m 0 (by have := ((myB_iff m).1 hmy).2.1; have := ((myB_iff m).1 hmy).2.2; omega) (by have := ((myB_iff m).1 hmy).2.1; have := ((myB_iff m).1 hmy).2.2; omega)).2 hsc
    rw [hlen] at hh
    exact ⟨_, by rw [showT, if_pos hmy, if_pos ⟨hsb, hh.1⟩], hh.2⟩
  · cases h
end Go.Proofs.YtmkahbbcagfbhaaGreatDoor
