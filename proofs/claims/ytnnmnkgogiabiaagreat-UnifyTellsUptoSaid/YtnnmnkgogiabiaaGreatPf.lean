/-
  What the law SubstUnder needs of substitutions, as plain facts. No statement is proved here.
-/
import Derived.Test.YtnnmnkgogiabiaaGreatPe
namespace Go.Proofs.YtnnmnkgogiabiaaGreat
open Go.ChangeShapes Go.WideShapes Go.ChangeAt Go.RowKit
set_option linter.unusedVariables false

/-- what a variable comes to -/
theorem var_tells {L : List T} {sh h : Int} (hs : sbB L sh = true) (h0 : 0 ≤ h) (hm : myB (mpT L sh h 0) = true) : apT (.node 4 h []) L sh = mpT L sh h 0 ∧ apE (.node 4 h []) L sh = 0 := by
  refine ap_tells (n := 1) (my_var h0) hs ?_ hm
  rw [show fl = 40000 + 1 from rfl, ap]
  rw [if_neg (by omega)]
  simp only [apL]
  rw [if_pos ⟨trivial, by omega⟩]
  simp [spL]
theorem lo_of {M : Int} (hM : M ≤ 1099511627776) (t : T) (h : nodB t = true) : lowB t = true → lowB t = true := fun e => e
theorem kn_var {h : Int} (h0 : 0 ≤ h ∧ h ≤ 1099511627776) : Kn 300 60 (.node 4 h []) :=
  ⟨my_var h0.1, by simp [lowB, lowL, h0.2], by simp [nd, ndL], by simp [dp, dpL]⟩
theorem Kn.upO {t : T} (k : Kn 300 60 t) : Go.Proofs.YtnnmnkgogiabiaaGreat.upO t = upT 1 t 0 := k.upX (by omega) (by omega)
theorem wf_of {x : Int} (h0 : 0 ≤ x) (h1 : x ≤ 1099511627776) : (Lit.int .i64 x).wf = true := by
  have := wf_wrap64 x
  rwa [wrap_small (by omega) (by omega)] at this
theorem lo_var {h : Int} (h0 : 0 ≤ h ∧ h ≤ 281474976710656) : LoT (.node 4 h []) := by
  rw [LoT, okT, okL]
  exact ⟨fun _ => h0, trivial⟩
theorem undX_up {L : List T} (hL : ∀ x ∈ L, Kn 300 60 x) : undX L = L.map (fun t => upT 1 t 0) ++ [.node 4 0 []] := by
  rw [undX]
  congr 1
  exact List.map_congr_left fun x hx => (hL x hx).upO
theorem undX_len (L : List T) : (undX L).length = L.length + 1 := by rw [undX, List.length_append, List.length_map]; rfl
theorem undX_all {L : List T} (hL : ∀ x ∈ L, Kn 300 60 x) : ∀ x ∈ undX L, myB x = true ∧ LoT x := fun x hx => by
  rw [undX_up hL] at hx
  rcases List.mem_append.1 hx with hx | hx
  · obtain ⟨y, hy, rfl⟩ := List.mem_map.1 hx
    exact ⟨my_up (by omega) (hL y hy).my, okT_mono (by omega) _ (okT_up (b := 1) (by omega) _ _ (hL y hy).ok)⟩
  · rw [List.mem_singleton.1 hx]
    exact ⟨my_var (by omega), lo_var (by omega)⟩
theorem getD_app_l {l1 l2 : List T} {i : Nat} (d : T) (h : i < l1.length) : (l1 ++ l2).getD i d = l1.getD i d := by
  rw [List.getD_eq_getElem?_getD, List.getD_eq_getElem?_getD, List.getElem?_append_left h]
theorem getD_map {l : List T} {i : Nat} (g : T → T) (d : T) (h : i < l.length) : (l.map g).getD i d = g (l.getD i d) := by
  rw [List.getD_eq_getElem?_getD, List.getD_eq_getElem?_getD, List.getElem?_map, List.getElem?_eq_getElem h]
  rfl
theorem mp_zero {L : List T} {sh : Int} (hL : ∀ x ∈ L, Kn 300 60 x) : mpT (undX L) (sh + 1) 0 0 = .node 4 0 [] := by
  rw [mpT, if_neg (by rw [undX_len]; omega), undX_len]
  simp only [Int.natCast_zero, up_zero]
  rw [List.getD_eq_getElem?_getD, undX, List.getElem?_append_right (by rw [List.length_map]; simp)]
  simp
theorem mp_succ {L : List T} {sh i : Int} (hL : ∀ x ∈ L, Kn 300 60 x) (hs : 0 ≤ sh) (hi : 0 ≤ i) : mpT (undX L) (sh + 1) (i + 1) 0 = upT 1 (mpT L sh i 0) 0 := by
  unfold mpT
  rw [undX_len]
  by_cases hl : (L.length : Int) ≤ i
  · rw [if_pos (by omega), if_pos hl, upT, upL, if_pos ⟨rfl, by omega⟩]
    congr 1
    omega
  · rw [if_neg (by omega), if_neg hl]
    simp only [Int.natCast_zero, up_zero]
    rw [undX_up hL, getD_app_l _ (by rw [List.length_map]; omega), getD_map _ _ (by omega)]
    rw [show L.length + 1 - 1 - (i + 1).toNat = L.length - 1 - i.toNat by omega]
theorem mp_kn {L : List T} {sh i : Int} (hL : ∀ x ∈ L, Kn 300 60 x) (hs : 0 ≤ sh ∧ sh ≤ 1000) (hi : 0 ≤ i ∧ i ≤ 100) : Kn 300 60 (mpT L sh i 0) := by
  unfold mpT
  split
  · exact kn_var (by omega)
  · rename_i hl
    simp only [Int.natCast_zero, up_zero]
    exact hL _ (getD_mem _ (by omega))
theorem under_tells {L : List T} {sh i : Int} (hL : ∀ x ∈ L, Kn 300 60 x) (h60 : L.length ≤ 60) (hs : 0 ≤ sh ∧ sh ≤ 1000) (hi : 0 ≤ i ∧ i ≤ 100) :
    (apT (.node 4 0 []) (undX L) (sh + 1) = .node 4 0 [] ∧ apE (.node 4 0 []) (undX L) (sh + 1) = 0) ∧
    (apT (.node 4 (i + 1) []) (undX L) (sh + 1) = upT 1 (mpT L sh i 0) 0 ∧ apE (.node 4 (i + 1) []) (undX L) (sh + 1) = 0) ∧
    (apT (.node 4 i []) L sh = mpT L sh i 0 ∧ apE (.node 4 i []) L sh = 0) := by
  have hu : sbB (undX L) (sh + 1) = true := sb_of (by rw [undX_len]; omega) (by omega) fun x hx => (undX_all hL x hx).1
  have hk := mp_kn hL hs hi
  refine ⟨?_, ?_, ?_⟩
  · have := var_tells (h := 0) hu (by omega) (by rw [mp_zero hL]; exact my_var (by omega))
    rwa [mp_zero hL] at this
  · have := var_tells (h := i + 1) hu (by omega) (by rw [mp_succ hL (by omega) (by omega)]; exact my_up (by omega) hk.my)
    rwa [mp_succ hL (by omega) (by omega)] at this
  · exact var_tells (sb_of (by omega) (by omega) fun x hx => (hL x hx).my) hi.1 hk.my
end Go.Proofs.YtnnmnkgogiabiaaGreat
