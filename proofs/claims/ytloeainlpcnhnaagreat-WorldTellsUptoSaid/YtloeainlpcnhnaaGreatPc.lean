/-
  What the laws of layer 3 need of substitutions, as plain facts. No statement is proved here.
-/
import Derived.Test.YtloeainlpcnhnaaGreatWl
namespace Go.Proofs.YtloeainlpcnhnaaGreat
open Go.ChangeShapes Go.WideShapes Go.ChangeAt Go.RowKit
set_option linter.unusedVariables false

/-- what is known of a term that is light and may be -/
structure Kn (s d : Nat) (t : T) : Prop where
  my : myB t = true
  lo : lowB t = true
  nd : nd t ≤ s
  dp : dp t ≤ d
theorem kn_of {t : T} {s d : Nat} (h : ltB t s d = true) (hm : myB t = true) : Kn s d t := by
  have h4 := ((myB_iff t).1 hm).2.1
  rw [ltB, szW_small (by omega), dpW_eq t (by omega)] at h
  simp only [Bool.and_eq_true, decide_eq_true_eq] at h
  exact ⟨hm, h.1.1, by omega, by omega⟩
theorem Kn.nod {s d : Nat} {t : T} (k : Kn s d t) : nodB t = true := ((myB_iff t).1 k.my).1
theorem Kn.ok {s d : Nat} {t : T} (k : Kn s d t) : okT 1099511627776 t := okT_of t k.nod k.lo
theorem Kn.low {s d : Nat} {t : T} (k : Kn s d t) : LoT t := okT_mono (by omega) _ k.ok
theorem Kn.n4 {s d : Nat} {t : T} (k : Kn s d t) : Go.Proofs.YtloeainlpcnhnaaGreat.nd t ≤ 4000 := ((myB_iff t).1 k.my).2.1
theorem Kn.upX {s d : Nat} {t : T} (k : Kn s d t) {b f : Int} (hb : 0 ≤ b ∧ b ≤ 1048576) (hf : 0 ≤ f ∧ f ≤ 1048576) : upX t b f = upT b t f :=
  upX_eq (by omega) k.ok (by have := k.n4; omega) (by rw [mayB_my (by have := k.n4; omega)]; exact k.my) hb hf
theorem my_up {t : T} {b f : Int} (hb : 0 ≤ b) (h : myB t = true) : myB (upT b t f) = true := by
  obtain ⟨h1, h2, h3⟩ := (myB_iff t).1 h
  exact (myB_iff _).2 ⟨nodB_up hb t f h1, by rw [nd_up]; exact h2, by rw [dp_up]; exact h3⟩
/-- what an answer is where the run tells a term that may be -/
theorem ap_tells {t t' : T} {L : List T} {sh : Int} {n : Nat} (h1 : myB t = true) (h2 : sbB L sh = true) (h3 : ap fl L sh 0 t 0 = .ok (t', n)) (h4 : myB t' = true) : apT t L sh = t' ∧ apE t L sh = 0 := by
  unfold apT apE apR
  rw [h1, h2, h3]
  simp [anT, anE, h4]
theorem ren_tells {t t' : T} {L : List T} {sh : Int} (h1 : myB t = true) (h2 : sbB L sh = true) (h3 : RenT L sh t 0 t') (h4 : myB t' = true) : apT t L sh = t' ∧ apE t L sh = 0 :=
  ap_tells h1 h2 (ap_ren fl t 0 0 t' (by rw [fl_eq]; omega) (by have := ((myB_iff t).1 h1).2.1; omega) h3) h4
theorem sb_of {L : List T} {sh : Int} (h1 : L.length ≤ 200) (h2 : 0 ≤ sh ∧ sh ≤ 1048576) (h3 : ∀ x ∈ L, myB x = true) : sbB L sh = true := by
  unfold sbB
  simp only [Bool.and_eq_true, decide_eq_true_eq, List.all_eq_true]
  exact ⟨⟨⟨h1, h2.1⟩, h2.2⟩, h3⟩
theorem sb_parts {L : List T} {sh : Int} (h : sbB L sh = true) : L.length ≤ 200 ∧ (0 ≤ sh ∧ sh ≤ 1048576) ∧ ∀ x ∈ L, myB x = true := by
  unfold sbB at h
  simp only [Bool.and_eq_true, decide_eq_true_eq, List.all_eq_true] at h
  exact ⟨h.1.1.1, ⟨h.1.1.2, h.1.2⟩, h.2⟩
theorem my_var {h : Int} (h0 : 0 ≤ h) : myB (.node 4 h []) = true := by simp [myB, nodB, nodL, okN, nd, ndL, dp, dpL, h0]
theorem up_tells {s d : Nat} {t : T} (k : Kn s d t) {b : Int} (hb : 0 ≤ b ∧ b ≤ 1000) : apT t [] b = upT b t 0 ∧ apE t [] b = 0 :=
  ren_tells k.my (sb_of (by simp) (by omega) (fun x hx => by cases hx)) (ren_up b t 0) (my_up hb.1 k.my)
theorem up1_tells {s d : Nat} {t : T} (k : Kn s d t) {b : Int} (hb : 0 ≤ b ∧ b ≤ 1000) : apT t [.node 4 0 []] (b + 1) = upT b t 1 ∧ apE t [.node 4 0 []] (b + 1) = 0 :=
  ren_tells k.my (sb_of (by simp) (by omega) (fun x hx => by rw [List.mem_singleton.1 hx]; exact my_var (by omega))) (ren_up1 b t 0) (my_up hb.1 k.my)
theorem weak_tells {s d : Nat} {t x : T} (k : Kn s d t) (hx : myB x = true) : apT (upT 1 t 0) [x] 0 = t ∧ apE (upT 1 t 0) [x] 0 = 0 :=
  ren_tells (my_up (by omega) k.my) (sb_of (by simp) (by omega) (fun y hy => by rw [List.mem_singleton.1 hy]; exact hx)) (ren_weak x t 0) k.my
theorem vsL_id (n : Nat) : IdS (vsL n) n := fun h u hu => by
  unfold mpT
  rw [vsL_len]
  split
  · congr 1; omega
  · rename_i hlt
    have hget : (vsL n).getD (n - 1 - (h - (u : Int)).toNat) (.node 0 0 []) = .node 4 (h - u) [] := by
      rw [List.getD_eq_getElem?_getD]
      have hl : n - 1 - (h - (u : Int)).toNat < (vsL n).length := by rw [vsL_len]; omega
      have he := List.getElem?_eq_getElem hl
      obtain ⟨_, e⟩ := vsL_at _ _ _ he
      rw [he, e, Option.getD_some]
      congr 1
      omega
    rw [hget, upT, upL, if_pos ⟨rfl, by omega⟩]
    congr 1
    omega
theorem same_tells {s d : Nat} {t : T} (k : Kn s d t) {n : Nat} (hn : n ≤ 200) : apT t (vsL n) n = t ∧ apE t (vsL n) n = 0 :=
  ren_tells k.my (sb_of (by rw [vsL_len]; exact hn) (by omega) (fun x hx => by
    obtain ⟨i, hi⟩ := List.getElem?_of_mem hx
    obtain ⟨h1, rfl⟩ := vsL_at _ _ _ hi
    exact my_var (by omega))) (ren_id (vsL_id n) t 0) k.my
/-! ### The world at hand in a region that draws its order -/
theorem cur_trans {W W' w' : World} (h : Hid (Below W.heap.size W W')) (k : Below W'.heap.size W' w') : Hid (Below W.heap.size W w') := Lib.hid (h.out.trans (k.mono h.out.size))
theorem cur_alloc {W W' : World} (h : Hid (Below W.heap.size W W')) (o : Obj) : Hid (Below W.heap.size W (W'.alloc o)) := Lib.hid (h.out.alloc h.out.size o)
theorem cur_set3 {W W' : World} (h : Hid (Below W.heap.size W W')) {p : Nat} (hp : W.heap.size ≤ p) (u0 u1 u2 : Value) : Hid (Below W.heap.size W (((W'.setCell ⟨p, 0, none⟩ u0).setCell ⟨p, 1, none⟩ u1).setCell ⟨p, 2, none⟩ u2)) := Lib.hid (below_set3 h.out hp u0 u1 u2)
theorem cur_drew {W : World} : Hid (Below W.heap.size W W.drew) := Lib.hid (Below.refl _ _).drew
theorem Box.at1 {w w' : World} {o : Obj} {ty : TypeId} {cs : Array Value} (h : Box w' (w.alloc o).heap.size ty cs) : Box w' (w.heap.size + 1) ty cs := h.at (by simp)

theorem Box.keepC {w w' : World} {b : Nat} {ty : TypeId} {cs : Array Value} (h : Box w b ty cs) (hk : Below w.heap.size w w') : Box w' b ty cs := h.keep hk h.lt
/-- a term of an answer, behind its being stored -/
theorem rd_set3 {w w' : World} {p : Nat} {t : T} {v u0 u1 u2 : Value} (h : RdF (fun b => w.heap.size ≤ b) w' t v) (hp : p < w.heap.size) : Rd (((w'.setCell ⟨p, 0, none⟩ u0).setCell ⟨p, 1, none⟩ u1).setCell ⟨p, 2, none⟩ u2) t v :=
  RdF.rd _ _ (RdF.moveX (ok' := fun _ => True) (fun b hb _ => ⟨trivial, heap_other3 _ _ _ _ _ _ (by omega)⟩) _ _ h)
theorem rd_alloc {w : World} {ok : Nat → Prop} {t : T} {v : Value} (h : RdF ok w t v) (o : Obj) : Rd (w.alloc o) t v := RdF.rd _ _ (RdF.moveX (ok' := fun _ => True) (fun b _ hl => ⟨trivial, Below.heap_alloc _ _ _ hl⟩) _ _ h)
theorem Box.drewI {w : World} {b : Nat} {ty : TypeId} {cs : Array Value} (h : Box w b ty cs) : Box w.drew b ty cs := h
end Go.Proofs.YtloeainlpcnhnaaGreat
