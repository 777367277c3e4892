/-
  Texts of one proof, put together. No statement is proved here.
-/
import Derived.Test.YtpigmefjcklpkaaPkV
import Derived.Test.YtpigmefjcklpkaaPkY
import Derived.Test.YtpigmefjcklpkaaCn

/-
  Contract of the laws' own good, with no bound on Heads: what is in order has low ones. No statement is proved here.
-/
namespace Go.Proofs.Ytpigmefjcklpkaa
open Go.ChangeShapes Go.WideShapes Go.ChangeAt Go.RowKit
set_option linter.unusedVariables false

/-- are declarations, and entries, in order, behind those ahead -/
def gdS : List T → List T → Bool
  | _, [] => true
  | dn, x :: xs => (decide (ckTy ⟨dn, []⟩ [] x = 0) || decide (ckKi ⟨dn, []⟩ [] x = 0)) && gdS (dn ++ [x]) xs
def gdC (W : WV) : List T → List T → Bool
  | _, [] => true
  | dn, x :: xs => decide (ckTy W dn x = 0) && gdC W (dn ++ [x]) xs
def gdV (sg cx : List T) : Bool := gdS [] sg && gdC ⟨sg, []⟩ [] cx
theorem take_snocZ {α : Type} {l : List α} {j : Nat} {x : α} (h : l[j]? = some x) : l.take (j + 1) = l.take j ++ [x] := by rw [List.take_add_one, h]; rfl
theorem gdS_at {l : List T} {j : Nat} {x : T} (h : l[j]? = some x) : gdS (l.take j) (l.drop j) = ((decide (ckTy ⟨l.take j, []⟩ [] x = 0) || decide (ckKi ⟨l.take j, []⟩ [] x = 0)) && gdS (l.take (j + 1)) (l.drop (j + 1))) := by
  rw [drop_at h, gdS, take_snocZ h]
theorem gdC_at {W : WV} {l : List T} {j : Nat} {x : T} (h : l[j]? = some x) : gdC W (l.take j) (l.drop j) = (decide (ckTy W (l.take j) x = 0) && gdC W (l.take (j + 1)) (l.drop (j + 1))) := by
  rw [drop_at h, gdC, take_snocZ h]
theorem ckTy_okZ {W : WV} {cx : List T} {a : T} (h : ckTy W cx a = 0) : mayV W cx [a] = true ∧ tyV W a cx = 0 := by
  unfold ckTy at h
  split at h
  · rename_i h1; exact ⟨h1, h⟩
  · cases h
theorem ckKi_okZ {W : WV} {cx : List T} {a : T} (h : ckKi W cx a = 0) : mayV W cx [a] = true ∧ kiV W a cx = 0 := by
  unfold ckKi at h
  split at h
  · rename_i h1; exact ⟨h1, h⟩
  · cases h
theorem ckTy_low {W : WV} {cx : List T} {a : T} (h : ckTy W cx a = 0) : okT loV a := by
  obtain ⟨h1, h2⟩ := ckTy_okZ h
  obtain ⟨y1, y2, y3, y4, y5⟩ := (mayV_iff W cx [a]).1 h1
  exact ty_low (y3 a (by simp)) (by omega) h2
theorem ckKi_low {W : WV} {cx : List T} {a : T} (h : ckKi W cx a = 0) : okT loV a := by
  obtain ⟨h1, h2⟩ := ckKi_okZ h
  obtain ⟨y1, y2, y3, y4, y5⟩ := (mayV_iff W cx [a]).1 h1
  exact ki_low (y3 a (by simp)) (by omega) h2
def AllLo (l : List T) : Prop := ∀ t ∈ l, okT loV t
theorem AllLo.snoc {l : List T} {x : T} (h : AllLo l) (hx : okT loV x) : AllLo (l ++ [x]) := fun t ht => by
  rcases List.mem_append.1 ht with ht | ht
  · exact h t ht
  · rw [List.mem_singleton.1 ht]; exact hx
theorem gdS_ok : ∀ (l dn : List T), gdS dn l = true → ∀ i x, l[i]? = some x → ckTy ⟨dn ++ l.take i, []⟩ [] x = 0 ∨ ckKi ⟨dn ++ l.take i, []⟩ [] x = 0
  | [], _, _, i, x, hx => by simp at hx
  | y :: l, dn, h, i, x, hx => by
    rw [gdS, Bool.and_eq_true, Bool.or_eq_true, decide_eq_true_eq, decide_eq_true_eq] at h
    cases i with
    | zero => simp at hx; subst hx; simpa using h.1
    | succ i => simpa [List.append_assoc] using gdS_ok l _ h.2 i x (by simpa using hx)
theorem gdC_ok {W : WV} : ∀ (l dn : List T), gdC W dn l = true → ∀ i x, l[i]? = some x → ckTy W (dn ++ l.take i) x = 0
  | [], _, _, i, x, hx => by simp at hx
  | y :: l, dn, h, i, x, hx => by
    rw [gdC, Bool.and_eq_true, decide_eq_true_eq] at h
    cases i with
    | zero => simp at hx; subst hx; simpa using h.1
    | succ i => simpa [List.append_assoc] using gdC_ok l _ h.2 i x (by simpa using hx)
theorem gdS_low {l : List T} (h : gdS [] l = true) : AllLo l := fun t ht => by
  obtain ⟨i, hi, rfl⟩ := List.mem_iff_getElem.1 ht
  rcases gdS_ok l [] h i _ (List.getElem?_eq_getElem hi) with h | h
  · exact ckTy_low h
  · exact ckKi_low h
theorem ml_nilZ (w : World) : ML w [] none 0 0 := ⟨rfl, Nat.le_refl _, Nat.zero_le _, fun i x hx => by simp at hx⟩
theorem clv_nilZ (w : World) : CLV w [] none 0 0 := ⟨rfl, Nat.le_refl _, Nat.zero_le _, fun i x hx => by simp at hx⟩
theorem DL.takeZ {w : World} {ds : List T} {A : Option Addr} {n c i : Nat} (h : DL w ds A n c) (hi : i ≤ n) : DL w (ds.take i) A i c :=
  ⟨by rw [List.length_take, h.len]; omega, by have := h.le; omega, h.cap, fun j x hx => h.at_ j x (by
    by_cases hj : j < i
    · rwa [List.getElem?_take_of_lt hj] at hx
    · rw [List.getElem?_eq_none (by rw [List.length_take]; omega)] at hx; cases hx)⟩
theorem CLV.takeZ {w : World} {ds : List T} {A : Option Addr} {n c i : Nat} (h : CLV w ds A n c) (hi : i ≤ n) : CLV w (ds.take i) A i c :=
  ⟨by rw [List.length_take, h.len]; omega, by have := h.le; omega, h.cap, fun j x hx => h.at_ j x (by
    by_cases hj : j < i
    · rwa [List.getElem?_take_of_lt hj] at hx
    · rw [List.getElem?_eq_none (by rw [List.length_take]; omega)] at hx; cases hx)⟩
theorem ite_ofZ {c : Prop} [Decidable c] {p q : Prop} (h : c) (hp : p) : if c then p else q := by rw [if_pos h]; exact hp
theorem lo_all {sg cx : List T} (h : AllLo sg) (k : AllLo cx) : LoV ⟨sg, []⟩ cx := ⟨(fun t ht _ => h t ht), (fun m hm => by cases hm), (fun t ht _ => k t ht)⟩
set_option maxRecDepth 100000 in
set_option maxHeartbeats 16000000 in
theorem goodC (sg cx : List T) (As : Option Addr) (ns cs : Nat) (Ac : Option Addr) (nc cc : Nat) (w : World) (hs : DL w sg As ns cs) (hx : CLV w cx Ac nc cc) :
    Calls Try.prog 27 #[.slice As ns cs, .slice Ac nc cc] w fun e w' => e = .returned (.bool (gdV sg cx)) ∧ Below w.heap.size w w' := by
  have hsle := hs.le
  have hcle := hx.le
  have hccap := hx.cap
  have hscap := hs.cap
  unfold maxLen at hccap hscap
  have HS := Lib.hid hs; clear hs
  have HX := Lib.hid hx; clear hx
  obtain ⟨R, hR⟩ : ∃ R, gdV sg cx = R := ⟨_, rfl⟩
  have HR := Lib.hid (show (gdS [] sg && gdC ⟨sg, []⟩ [] cx) = R from hR)
  rw [hR]
  clear hR
  go_enter Try.func27, Try.ntmps27
  go_wp2_with fail
  go_loopw [5] (fun i wr => ∃ (j : Nat), j ≤ ns ∧ i = .int .i64 j ∧ Hid (gdS (sg.take j) (sg.drop j) = gdS [] sg) ∧ Hid (AllLo (sg.take j)) ∧ Hid (Below w.heap.size w wr)) (fun i _ => ns - (Go.RowKit.intOf i).toNat)
  case atStart => exact ⟨0, Nat.zero_le _, rfl, Lib.hid (by simp), Lib.hid (fun t ht => by simp at ht), Lib.hid (Below.refl _ _)⟩
  case round =>
    obtain ⟨j, hj, rfl, HG, HL, HB⟩ := hrel
    by_cases hlt : j < ns
    · obtain ⟨x, ht⟩ := at_of HS.out.len hlt
      obtain ⟨b, o, s, k, h, A2, n2, c2, rfl, c0, c1, c3, c4, hr⟩ := (HS.out.at_ j x ht).keep HB.out
      have hi0 : (0 : Int) ≤ j := by omega
      have hi1 : (j : Int) < ns := by omega
      have hi2 : (j : Int) ≤ cs := by omega
      have dj : decide ((j : Int) < (ns : Int)) = true := by simp; omega
      have hsj : IntKind.i64.wrap ((j : Int) + 1) = ((j + 1 : Nat) : Int) := by rw [wrapEq, wrap_small (by omega) (by omega)]; omega
      have HG1 := Lib.hid ((gdS_at ht).symm.trans HG.out)
      have HSN := Lib.hid (take_snocZ ht)
      clear ht
      obtain ⟨e1, he1⟩ : ∃ e, ckTy ⟨sg.take j, []⟩ [] x = e := ⟨_, rfl⟩
      obtain ⟨e2, he2⟩ : ∃ e, ckKi ⟨sg.take j, []⟩ [] x = e := ⟨_, rfl⟩
      rw [he1, he2] at HG1
      have HCT := Lib.hid (fun (W' : World) (h' : Below wr.heap.size wr W') => vCheckTypeW ⟨sg.take j, []⟩ [] x (some ⟨b, o, none⟩) j cs none 0 0 none 0 0 _ W' ⟨(HS.out.takeZ hj).keep (HB.out.trans (h'.mono HB.out.size)), ml_nilZ _, clv_nilZ _⟩ (Rd.keep h' _ _ hr) (lo_all HL.out (fun t ht => by cases ht)) (fun _ => .inl rfl))
      have HCK := Lib.hid (fun (W' : World) (h' : Below wr.heap.size wr W') => vCheckKindW ⟨sg.take j, []⟩ [] x (some ⟨b, o, none⟩) j cs none 0 0 none 0 0 _ W' ⟨(HS.out.takeZ hj).keep (HB.out.trans (h'.mono HB.out.size)), ml_nilZ _, clv_nilZ _⟩ (Rd.keep h' _ _ hr) (lo_all HL.out (fun t ht => by cases ht)) (fun _ => .inl rfl))
      rw [he1] at HCT
      rw [he2] at HCK
      have HLO : Hid (e1 = 0 ∨ e2 = 0 → AllLo (sg.take (j + 1))) := Lib.hid fun h => by
        rw [HSN.out]
        rcases h with h | h
        · exact HL.out.snoc (ckTy_low (he1.trans h))
        · exact HL.out.snoc (ckKi_low (he2.trans h))
      clear hr he1 he2
      go_wp2_with fail
      have HKS : Hid (∀ w' : World, Below wr.heap.size wr w' → (fun w' => w'.cell? ⟨b, o + j * 4 + 1, none⟩ = some (.int .i64 k) ∧ w'.cell? ⟨b, o + j * 4 + 2, none⟩ = some (.int .i64 h) ∧ w'.cell? ⟨b, o + j * 4 + 3, none⟩ = some (.slice A2 n2 c2)) w') := Lib.hid fun w' h => ⟨(h.cell (cell_lt c1)).trans c1, (h.cell (cell_lt c3)).trans c3, (h.cell (cell_lt c4)).trans c4⟩
      have hbd : Below wr.heap.size wr wr.drew := (Below.refl _ wr).drew
      refine wp_region_held_drew (S := fun w' => w'.cell? ⟨b, o + j * 4 + 1, none⟩ = some (.int .i64 k) ∧ w'.cell? ⟨b, o + j * 4 + 2, none⟩ = some (.int .i64 h) ∧ w'.cell? ⟨b, o + j * 4 + 3, none⟩ = some (.slice A2 n2 c2)) (by kernel_rfl) (HKS.out _ hbd) (fun hS => ?_)
      simp only [List.size_toArray, List.length_cons, List.length_nil, Nat.reduceAdd]
      refine wpAnyH_take (i := 0) (v := .slice (some ⟨b, o, none⟩) ns cs) rfl (by kernel_rfl) (by kernel_rfl) (by kernel_rfl) (fun _ _ _ h => h) (Or.inl ⟨by kernel_rfl, ?_⟩) hS ?_
      · intro w' hSw
        obtain ⟨s0, s1, s2⟩ := hSw
        go_simp
      try simp only [Act.put, List.getElem_toArray, List.getElem_cons_zero, List.setIfInBounds_toArray, List.set_cons_zero, List.set_cons_succ]
      refine wpAnyH_take (i := 1) (v := .int .i64 j) rfl (by kernel_rfl) (by kernel_rfl) (by kernel_rfl) (fun _ _ _ h => h) (Or.inl ⟨by kernel_rfl, ?_⟩) hS ?_
      · intro w' hSw
        obtain ⟨s0, s1, s2⟩ := hSw
        go_simp
      try simp only [Act.put, List.getElem_toArray, List.getElem_cons_succ, List.getElem_cons_zero, List.setIfInBounds_toArray, List.set_cons_zero, List.set_cons_succ]
      refine wpAnyH_take (i := 2) (v := .slice (some ⟨b, o, none⟩) j cs) rfl (by kernel_rfl) (by kernel_rfl) (by kernel_rfl) (fun _ _ _ h => h) (Or.inl ⟨by kernel_rfl, ?_⟩) hS ?_
      · intro w' hSw
        obtain ⟨s0, s1, s2⟩ := hSw
        go_simp
      try simp only [Act.put, List.getElem_toArray, List.getElem_cons_succ, List.getElem_cons_zero, List.setIfInBounds_toArray, List.set_cons_zero, List.set_cons_succ]
      refine wpAnyH_take (i := 3) (v := .slice (some ⟨b, o, none⟩) ns cs) rfl (by kernel_rfl) (by kernel_rfl) (by kernel_rfl) (fun _ _ _ h => h) (Or.inl ⟨by kernel_rfl, ?_⟩) hS ?_
      · intro w' hSw
        obtain ⟨s0, s1, s2⟩ := hSw
        go_simp
      try simp only [Act.put, List.getElem_toArray, List.getElem_cons_succ, List.getElem_cons_zero, List.setIfInBounds_toArray, List.set_cons_zero, List.set_cons_succ]
      refine wpAnyH_take (i := 4) (v := .int .i64 j) rfl (by kernel_rfl) (by kernel_rfl) (by kernel_rfl) (fun _ _ _ h => h) (Or.inl ⟨by kernel_rfl, ?_⟩) hS ?_
      · intro w' hSw
        obtain ⟨s0, s1, s2⟩ := hSw
        go_simp
      try simp only [Act.put, List.getElem_toArray, List.getElem_cons_succ, List.getElem_cons_zero, List.setIfInBounds_toArray, List.set_cons_zero, List.set_cons_succ]
      refine wpAnyH_take (i := 5) (v := .pointer (some ⟨b, o + j * 4, none⟩)) rfl (by kernel_rfl) (by kernel_rfl) (by kernel_rfl) (fun _ _ _ h => h) (Or.inl ⟨by kernel_rfl, ?_⟩) hS ?_
      · intro w' hSw
        obtain ⟨s0, s1, s2⟩ := hSw
        go_simp
      try simp only [Act.put, List.getElem_toArray, List.getElem_cons_succ, List.getElem_cons_zero, List.setIfInBounds_toArray, List.set_cons_zero, List.set_cons_succ]
      refine wpAnyH_take (i := 6) (v := .pointer (some ⟨b, o + j * 4 + 1, none⟩)) rfl (by kernel_rfl) (by kernel_rfl) (by kernel_rfl) (fun _ _ _ h => h) (Or.inl ⟨by kernel_rfl, ?_⟩) hS ?_
      · intro w' hSw
        obtain ⟨s0, s1, s2⟩ := hSw
        go_simp
      try simp only [Act.put, List.getElem_toArray, List.getElem_cons_succ, List.getElem_cons_zero, List.setIfInBounds_toArray, List.set_cons_zero, List.set_cons_succ]
      refine wpAnyH_take (i := 7) (v := .agg #[.int .i64 k, .int .i64 h, .slice A2 n2 c2]) rfl (by kernel_rfl) (by kernel_rfl) (by kernel_rfl) (fun _ _ _ h => h) (Or.inl ⟨by kernel_rfl, ?_⟩) hS ?_
      · intro w' hSw
        obtain ⟨s0, s1, s2⟩ := hSw
        go_simp
      try simp only [Act.put, List.getElem_toArray, List.getElem_cons_succ, List.getElem_cons_zero, List.setIfInBounds_toArray, List.set_cons_zero, List.set_cons_succ]
      refine wpAnyH_ready (rs := [8]) (by kernel_rfl) (by simp) ?_
      refine AllReadyH.cons rfl (fun KN hK => ?_) AllReadyH.nil
      go_simp
      refine (HCT.out _ hbd).mono ?_
      rintro e w6 ⟨rfl, hb6⟩
      replace hbd : Below wr.heap.size wr w6 := hbd.trans (hb6.mono hbd.size)
      clear hb6
      refine hK.out _ _ (HKS.out _ hbd) (fun hS => ?_)
      clear hK KN
      try simp only [Act.put, List.getElem_toArray, List.getElem_cons_succ, List.getElem_cons_zero, List.setIfInBounds_toArray, List.set_cons_zero, List.set_cons_succ]
      by_cases hz : e1 ≠ 0
      · have dz : (e1 != 0) = true := by simpa using hz
        refine wpAnyH_take (i := 9) (v := .bool true) rfl (by kernel_rfl) (by kernel_rfl) (by kernel_rfl) (fun _ _ _ h => h) (Or.inl ⟨by kernel_rfl, ?_⟩) hS ?_
        · intro w' hSw
          obtain ⟨s0, s1, s2⟩ := hSw
          go_simp
        try simp only [Act.put, List.getElem_toArray, List.getElem_cons_succ, List.getElem_cons_zero, List.setIfInBounds_toArray, List.set_cons_zero, List.set_cons_succ]
        refine wpAnyH_take (i := 10) (v := .bool true) rfl (by kernel_rfl) (by kernel_rfl) (by kernel_rfl) (fun _ _ _ h => h) (Or.inl ⟨by kernel_rfl, ?_⟩) hS ?_
        · intro w' hSw
          obtain ⟨s0, s1, s2⟩ := hSw
          go_simp
        try simp only [Act.put, List.getElem_toArray, List.getElem_cons_succ, List.getElem_cons_zero, List.setIfInBounds_toArray, List.set_cons_zero, List.set_cons_succ]
        clear dz
        refine wpAnyH_take (i := 11) (v := .slice (some ⟨b, o, none⟩) ns cs) rfl (by kernel_rfl) (by kernel_rfl) (by kernel_rfl) (fun _ _ _ h => h) (Or.inl ⟨by kernel_rfl, ?_⟩) hS ?_
        · intro w' hSw
          obtain ⟨s0, s1, s2⟩ := hSw
          go_simp
        try simp only [Act.put, List.getElem_toArray, List.getElem_cons_succ, List.getElem_cons_zero, List.setIfInBounds_toArray, List.set_cons_zero, List.set_cons_succ]
        refine wpAnyH_take (i := 12) (v := .int .i64 j) rfl (by kernel_rfl) (by kernel_rfl) (by kernel_rfl) (fun _ _ _ h => h) (Or.inl ⟨by kernel_rfl, ?_⟩) hS ?_
        · intro w' hSw
          obtain ⟨s0, s1, s2⟩ := hSw
          go_simp
        try simp only [Act.put, List.getElem_toArray, List.getElem_cons_succ, List.getElem_cons_zero, List.setIfInBounds_toArray, List.set_cons_zero, List.set_cons_succ]
        refine wpAnyH_take (i := 13) (v := .slice (some ⟨b, o, none⟩) j cs) rfl (by kernel_rfl) (by kernel_rfl) (by kernel_rfl) (fun _ _ _ h => h) (Or.inl ⟨by kernel_rfl, ?_⟩) hS ?_
        · intro w' hSw
          obtain ⟨s0, s1, s2⟩ := hSw
          go_simp
        try simp only [Act.put, List.getElem_toArray, List.getElem_cons_succ, List.getElem_cons_zero, List.setIfInBounds_toArray, List.set_cons_zero, List.set_cons_succ]
        refine wpAnyH_take (i := 14) (v := .slice (some ⟨b, o, none⟩) ns cs) rfl (by kernel_rfl) (by kernel_rfl) (by kernel_rfl) (fun _ _ _ h => h) (Or.inl ⟨by kernel_rfl, ?_⟩) hS ?_
        · intro w' hSw
          obtain ⟨s0, s1, s2⟩ := hSw
          go_simp
        try simp only [Act.put, List.getElem_toArray, List.getElem_cons_succ, List.getElem_cons_zero, List.setIfInBounds_toArray, List.set_cons_zero, List.set_cons_succ]
        refine wpAnyH_take (i := 15) (v := .int .i64 j) rfl (by kernel_rfl) (by kernel_rfl) (by kernel_rfl) (fun _ _ _ h => h) (Or.inl ⟨by kernel_rfl, ?_⟩) hS ?_
        · intro w' hSw
          obtain ⟨s0, s1, s2⟩ := hSw
          go_simp
        try simp only [Act.put, List.getElem_toArray, List.getElem_cons_succ, List.getElem_cons_zero, List.setIfInBounds_toArray, List.set_cons_zero, List.set_cons_succ]
        refine wpAnyH_take (i := 16) (v := .pointer (some ⟨b, o + j * 4, none⟩)) rfl (by kernel_rfl) (by kernel_rfl) (by kernel_rfl) (fun _ _ _ h => h) (Or.inl ⟨by kernel_rfl, ?_⟩) hS ?_
        · intro w' hSw
          obtain ⟨s0, s1, s2⟩ := hSw
          go_simp
        try simp only [Act.put, List.getElem_toArray, List.getElem_cons_succ, List.getElem_cons_zero, List.setIfInBounds_toArray, List.set_cons_zero, List.set_cons_succ]
        refine wpAnyH_take (i := 17) (v := .pointer (some ⟨b, o + j * 4 + 1, none⟩)) rfl (by kernel_rfl) (by kernel_rfl) (by kernel_rfl) (fun _ _ _ h => h) (Or.inl ⟨by kernel_rfl, ?_⟩) hS ?_
        · intro w' hSw
          obtain ⟨s0, s1, s2⟩ := hSw
          go_simp
        try simp only [Act.put, List.getElem_toArray, List.getElem_cons_succ, List.getElem_cons_zero, List.setIfInBounds_toArray, List.set_cons_zero, List.set_cons_succ]
        refine wpAnyH_take (i := 18) (v := .agg #[.int .i64 k, .int .i64 h, .slice A2 n2 c2]) rfl (by kernel_rfl) (by kernel_rfl) (by kernel_rfl) (fun _ _ _ h => h) (Or.inl ⟨by kernel_rfl, ?_⟩) hS ?_
        · intro w' hSw
          obtain ⟨s0, s1, s2⟩ := hSw
          go_simp
        try simp only [Act.put, List.getElem_toArray, List.getElem_cons_succ, List.getElem_cons_zero, List.setIfInBounds_toArray, List.set_cons_zero, List.set_cons_succ]
        refine wpAnyH_ready (rs := [19]) (by kernel_rfl) (by simp) ?_
        refine AllReadyH.cons rfl (fun KN hK => ?_) AllReadyH.nil
        refine ite_ofZ (by kernel_rfl) ?_
        go_simp
        refine (HCK.out _ hbd).mono ?_
        rintro e w7 ⟨rfl, hb6⟩
        replace hbd : Below wr.heap.size wr w7 := hbd.trans (hb6.mono hbd.size)
        clear hb6
        refine hK.out _ _ (HKS.out _ hbd) (fun hS => ?_)
        clear hK KN
        try simp only [Act.put, List.getElem_toArray, List.getElem_cons_succ, List.getElem_cons_zero, List.setIfInBounds_toArray, List.set_cons_zero, List.set_cons_succ]
        by_cases hz2 : e2 ≠ 0
        · have dz : (e2 != 0) = true := by simpa using hz2
          refine wpAnyH_take (i := 20) (v := .bool true) rfl (by kernel_rfl) (by kernel_rfl) (by kernel_rfl) (fun _ _ _ h => h) (Or.inl ⟨by kernel_rfl, ?_⟩) hS ?_
          · intro w' hSw
            obtain ⟨s0, s1, s2⟩ := hSw
            go_simp
          try simp only [Act.put, List.getElem_toArray, List.getElem_cons_succ, List.getElem_cons_zero, List.setIfInBounds_toArray, List.set_cons_zero, List.set_cons_succ]
          refine wpAnyH_take (i := 21) (v := .bool true) rfl (by kernel_rfl) (by kernel_rfl) (by kernel_rfl) (fun _ _ _ h => h) (Or.inl ⟨by kernel_rfl, ?_⟩) hS ?_
          · intro w' hSw
            obtain ⟨s0, s1, s2⟩ := hSw
            go_simp
          try simp only [Act.put, List.getElem_toArray, List.getElem_cons_succ, List.getElem_cons_zero, List.setIfInBounds_toArray, List.set_cons_zero, List.set_cons_succ]
          refine wpAnyH_done (by kernel_rfl) ?_ _
          try simp only [List.setIfInBounds_toArray]
          try simp only [List.getElem_toArray, List.getElem_cons_succ, List.getElem_cons_zero, List.setIfInBounds_toArray, List.set_cons_zero, List.set_cons_succ]
          have HE := Lib.hid (show false = R by rw [← HR.out, ← HG1.out, decide_eq_false hz, decide_eq_false hz2]; rfl)
          have HBF := Lib.hid (HB.out.trans (hbd.mono HB.out.size))
          clear hS HKS hbd
          go_wp2_with fail
          go_ret
          exact ⟨ret_bool HE.out, HBF.out⟩
        · replace hz2 : e2 = 0 := Decidable.not_not.1 hz2
          subst hz2
          have dz : ((0 : Int) != 0) = false := by decide
          refine wpAnyH_take (i := 20) (v := .bool false) rfl (by kernel_rfl) (by kernel_rfl) (by kernel_rfl) (fun _ _ _ h => h) (Or.inl ⟨by kernel_rfl, ?_⟩) hS ?_
          · intro w' hSw
            obtain ⟨s0, s1, s2⟩ := hSw
            go_simp
          try simp only [Act.put, List.getElem_toArray, List.getElem_cons_succ, List.getElem_cons_zero, List.setIfInBounds_toArray, List.set_cons_zero, List.set_cons_succ]
          refine wpAnyH_take (i := 21) (v := .bool false) rfl (by kernel_rfl) (by kernel_rfl) (by kernel_rfl) (fun _ _ _ h => h) (Or.inl ⟨by kernel_rfl, ?_⟩) hS ?_
          · intro w' hSw
            obtain ⟨s0, s1, s2⟩ := hSw
            go_simp
          try simp only [Act.put, List.getElem_toArray, List.getElem_cons_succ, List.getElem_cons_zero, List.setIfInBounds_toArray, List.set_cons_zero, List.set_cons_succ]
          refine wpAnyH_done (by kernel_rfl) ?_ _
          try simp only [List.setIfInBounds_toArray]
          try simp only [List.getElem_toArray, List.getElem_cons_succ, List.getElem_cons_zero, List.setIfInBounds_toArray, List.set_cons_zero, List.set_cons_succ]
          have HE := Lib.hid (show gdS (sg.take (j + 1)) (sg.drop (j + 1)) = gdS [] sg by rw [← HG1.out]; simp)
          have HLN := Lib.hid (HLO.out (.inr rfl))
          clear dz
          have HBF := Lib.hid (HB.out.trans (hbd.mono HB.out.size))
          clear hS HKS hbd
          go_wp2_with fail
          go_roundw
          case rel => exact ⟨j + 1, by omega, by go_num, HE, HLN, HBF⟩
          case measure => simp [Go.RowKit.intOf]; omega
      · replace hz : e1 = 0 := Decidable.not_not.1 hz
        subst hz
        have dz : ((0 : Int) != 0) = false := by decide
        refine wpAnyH_take (i := 9) (v := .bool false) rfl (by kernel_rfl) (by kernel_rfl) (by kernel_rfl) (fun _ _ _ h => h) (Or.inl ⟨by kernel_rfl, ?_⟩) hS ?_
        · intro w' hSw
          obtain ⟨s0, s1, s2⟩ := hSw
          go_simp
        try simp only [Act.put, List.getElem_toArray, List.getElem_cons_succ, List.getElem_cons_zero, List.setIfInBounds_toArray, List.set_cons_zero, List.set_cons_succ]
        refine wpAnyH_take (i := 10) (v := .bool false) rfl (by kernel_rfl) (by kernel_rfl) (by kernel_rfl) (fun _ _ _ h => h) (Or.inl ⟨by kernel_rfl, ?_⟩) hS ?_
        · intro w' hSw
          obtain ⟨s0, s1, s2⟩ := hSw
          go_simp
        try simp only [Act.put, List.getElem_toArray, List.getElem_cons_succ, List.getElem_cons_zero, List.setIfInBounds_toArray, List.set_cons_zero, List.set_cons_succ]
        refine wpAnyH_take (i := 11) (v := undef) rfl (by kernel_rfl) (by kernel_rfl) (by kernel_rfl) (fun _ _ _ h => h) (Or.inr ⟨by kernel_rfl, rfl⟩) hS ?_
        try simp only [Act.put, List.getElem_toArray, List.getElem_cons_succ, List.getElem_cons_zero, List.setIfInBounds_toArray, List.set_cons_zero, List.set_cons_succ]
        refine wpAnyH_take (i := 12) (v := undef) rfl (by kernel_rfl) (by kernel_rfl) (by kernel_rfl) (fun _ _ _ h => h) (Or.inr ⟨by kernel_rfl, rfl⟩) hS ?_
        try simp only [Act.put, List.getElem_toArray, List.getElem_cons_succ, List.getElem_cons_zero, List.setIfInBounds_toArray, List.set_cons_zero, List.set_cons_succ]
        refine wpAnyH_take (i := 13) (v := undef) rfl (by kernel_rfl) (by kernel_rfl) (by kernel_rfl) (fun _ _ _ h => h) (Or.inr ⟨by kernel_rfl, rfl⟩) hS ?_
        try simp only [Act.put, List.getElem_toArray, List.getElem_cons_succ, List.getElem_cons_zero, List.setIfInBounds_toArray, List.set_cons_zero, List.set_cons_succ]
        refine wpAnyH_take (i := 14) (v := undef) rfl (by kernel_rfl) (by kernel_rfl) (by kernel_rfl) (fun _ _ _ h => h) (Or.inr ⟨by kernel_rfl, rfl⟩) hS ?_
        try simp only [Act.put, List.getElem_toArray, List.getElem_cons_succ, List.getElem_cons_zero, List.setIfInBounds_toArray, List.set_cons_zero, List.set_cons_succ]
        refine wpAnyH_take (i := 15) (v := undef) rfl (by kernel_rfl) (by kernel_rfl) (by kernel_rfl) (fun _ _ _ h => h) (Or.inr ⟨by kernel_rfl, rfl⟩) hS ?_
        try simp only [Act.put, List.getElem_toArray, List.getElem_cons_succ, List.getElem_cons_zero, List.setIfInBounds_toArray, List.set_cons_zero, List.set_cons_succ]
        refine wpAnyH_take (i := 16) (v := undef) rfl (by kernel_rfl) (by kernel_rfl) (by kernel_rfl) (fun _ _ _ h => h) (Or.inr ⟨by kernel_rfl, rfl⟩) hS ?_
        try simp only [Act.put, List.getElem_toArray, List.getElem_cons_succ, List.getElem_cons_zero, List.setIfInBounds_toArray, List.set_cons_zero, List.set_cons_succ]
        refine wpAnyH_take (i := 17) (v := undef) rfl (by kernel_rfl) (by kernel_rfl) (by kernel_rfl) (fun _ _ _ h => h) (Or.inr ⟨by kernel_rfl, rfl⟩) hS ?_
        try simp only [Act.put, List.getElem_toArray, List.getElem_cons_succ, List.getElem_cons_zero, List.setIfInBounds_toArray, List.set_cons_zero, List.set_cons_succ]
        refine wpAnyH_take (i := 18) (v := undef) rfl (by kernel_rfl) (by kernel_rfl) (by kernel_rfl) (fun _ _ _ h => h) (Or.inr ⟨by kernel_rfl, rfl⟩) hS ?_
        try simp only [Act.put, List.getElem_toArray, List.getElem_cons_succ, List.getElem_cons_zero, List.setIfInBounds_toArray, List.set_cons_zero, List.set_cons_succ]
        refine wpAnyH_take (i := 19) (v := undef) rfl (by kernel_rfl) (by kernel_rfl) (by kernel_rfl) (fun _ _ _ h => h) (Or.inr ⟨by kernel_rfl, rfl⟩) hS ?_
        try simp only [Act.put, List.getElem_toArray, List.getElem_cons_succ, List.getElem_cons_zero, List.setIfInBounds_toArray, List.set_cons_zero, List.set_cons_succ]
        refine wpAnyH_take (i := 20) (v := undef) rfl (by kernel_rfl) (by kernel_rfl) (by kernel_rfl) (fun _ _ _ h => h) (Or.inr ⟨by kernel_rfl, rfl⟩) hS ?_
        try simp only [Act.put, List.getElem_toArray, List.getElem_cons_succ, List.getElem_cons_zero, List.setIfInBounds_toArray, List.set_cons_zero, List.set_cons_succ]
        refine wpAnyH_take (i := 21) (v := .bool false) rfl (by kernel_rfl) (by kernel_rfl) (by kernel_rfl) (fun _ _ _ h => h) (Or.inl ⟨by kernel_rfl, ?_⟩) hS ?_
        · intro w' hSw
          obtain ⟨s0, s1, s2⟩ := hSw
          go_simp
        try simp only [Act.put, List.getElem_toArray, List.getElem_cons_succ, List.getElem_cons_zero, List.setIfInBounds_toArray, List.set_cons_zero, List.set_cons_succ]
        refine wpAnyH_done (by kernel_rfl) ?_ _
        try simp only [List.setIfInBounds_toArray]
        try simp only [List.getElem_toArray, List.getElem_cons_succ, List.getElem_cons_zero, List.setIfInBounds_toArray, List.set_cons_zero, List.set_cons_succ]
        have HE := Lib.hid (show gdS (sg.take (j + 1)) (sg.drop (j + 1)) = gdS [] sg by rw [← HG1.out]; simp)
        have HLN := Lib.hid (HLO.out (.inl rfl))
        clear dz
        have HBF := Lib.hid (HB.out.trans (hbd.mono HB.out.size))
        clear hS HKS hbd
        go_wp2_with fail
        go_roundw
        case rel => exact ⟨j + 1, by omega, by go_num, HE, HLN, HBF⟩
        case measure => simp [Go.RowKit.intOf]; omega
    · obtain rfl : j = ns := by omega
      have dj : decide ((j : Int) < (j : Int)) = false := by simp
      have hg1 : gdS [] sg = true := by
        rw [← HG.out, drop_all HS.out.len (Nat.le_refl _)]; rfl
      have HR2 := Lib.hid (show gdC ⟨sg, []⟩ [] cx = R by rw [← HR.out, hg1, Bool.true_and])
      have HLS := Lib.hid (gdS_low hg1)
      clear HR HG HL hg1
      go_wp2_with fail
      go_loopw [6] (fun i wr => ∃ (q : Nat), q ≤ nc ∧ i = .int .i64 q ∧ Hid (gdC ⟨sg, []⟩ (cx.take q) (cx.drop q) = R) ∧ Hid (AllLo (cx.take q)) ∧ Hid (Below w.heap.size w wr)) (fun i _ => nc - (Go.RowKit.intOf i).toNat)
      case atStart => exact ⟨0, Nat.zero_le _, rfl, Lib.hid (by simpa using HR2.out), Lib.hid (fun t ht => by simp at ht), HB⟩
      case round =>
        clear HB
        obtain ⟨q, hq, rfl, HG, HL, HB⟩ := hrel
        by_cases hlt : q < nc
        · obtain ⟨x, ht⟩ := at_of HX.out.len hlt
          obtain ⟨b, o, k, h, A2, n2, c2, rfl, c0, c1, c3, hr⟩ := (RdAt.keep HB.out (HX.out.at_ q x ht)).full
          have hi0 : (0 : Int) ≤ q := by omega
          have hi1 : (q : Int) < nc := by omega
          have hi2 : (q : Int) ≤ cc := by omega
          have dq : decide ((q : Int) < (nc : Int)) = true := by simp; omega
          have hsq : IntKind.i64.wrap ((q : Int) + 1) = ((q + 1 : Nat) : Int) := by rw [wrapEq, wrap_small (by omega) (by omega)]; omega
          have HG1 := Lib.hid ((gdC_at ht).symm.trans HG.out)
          have HSN := Lib.hid (take_snocZ ht)
          clear ht
          obtain ⟨e1, he1⟩ : ∃ e, ckTy ⟨sg, []⟩ (cx.take q) x = e := ⟨_, rfl⟩
          rw [he1] at HG1
          have HCT := Lib.hid (fun (W' : World) (h' : Below wr.heap.size wr W') => vCheckTypeW ⟨sg, []⟩ (cx.take q) x As j cs none 0 0 (some ⟨b, o, none⟩) q cc _ W' ⟨HS.out.keep (HB.out.trans (h'.mono HB.out.size)), ml_nilZ _, (HX.out.takeZ hq).keep (HB.out.trans (h'.mono HB.out.size))⟩ (Rd.keep h' _ _ hr) (lo_all HLS.out HL.out) (fun _ => .inl rfl))
          rw [he1] at HCT
          have HLO : Hid (e1 = 0 → AllLo (cx.take (q + 1))) := Lib.hid fun h => by
            rw [HSN.out]
            exact HL.out.snoc (ckTy_low (he1.trans h))
          clear hr he1 dj
          go_wp2_with fail
          have HKS : Hid (∀ w' : World, Below wr.heap.size wr w' → (fun w' => w'.cell? ⟨b, o + q * 3, none⟩ = some (.int .i64 k) ∧ w'.cell? ⟨b, o + q * 3 + 1, none⟩ = some (.int .i64 h) ∧ w'.cell? ⟨b, o + q * 3 + 2, none⟩ = some (.slice A2 n2 c2)) w') := Lib.hid fun w' h => ⟨(h.cell (cell_lt c0)).trans c0, (h.cell (cell_lt c1)).trans c1, (h.cell (cell_lt c3)).trans c3⟩
          have hbd : Below wr.heap.size wr wr.drew := (Below.refl _ wr).drew
          refine wp_region_held_drew (S := fun w' => w'.cell? ⟨b, o + q * 3, none⟩ = some (.int .i64 k) ∧ w'.cell? ⟨b, o + q * 3 + 1, none⟩ = some (.int .i64 h) ∧ w'.cell? ⟨b, o + q * 3 + 2, none⟩ = some (.slice A2 n2 c2)) (by kernel_rfl) (HKS.out _ hbd) (fun hS => ?_)
          simp only [List.size_toArray, List.length_cons, List.length_nil, Nat.reduceAdd]
          refine wpAnyH_take (i := 0) (v := .slice As j cs) rfl (by kernel_rfl) (by kernel_rfl) (by kernel_rfl) (fun _ _ _ h => h) (Or.inl ⟨by kernel_rfl, ?_⟩) hS ?_
          · intro w' hSw
            obtain ⟨s0, s1, s2⟩ := hSw
            go_simp
          try simp only [Act.put, List.getElem_toArray, List.getElem_cons_zero, List.setIfInBounds_toArray, List.set_cons_zero, List.set_cons_succ]
          refine wpAnyH_take (i := 1) (v := .slice (some ⟨b, o, none⟩) nc cc) rfl (by kernel_rfl) (by kernel_rfl) (by kernel_rfl) (fun _ _ _ h => h) (Or.inl ⟨by kernel_rfl, ?_⟩) hS ?_
          · intro w' hSw
            obtain ⟨s0, s1, s2⟩ := hSw
            go_simp
          try simp only [Act.put, List.getElem_toArray, List.getElem_cons_succ, List.getElem_cons_zero, List.setIfInBounds_toArray, List.set_cons_zero, List.set_cons_succ]
          refine wpAnyH_take (i := 2) (v := .int .i64 q) rfl (by kernel_rfl) (by kernel_rfl) (by kernel_rfl) (fun _ _ _ h => h) (Or.inl ⟨by kernel_rfl, ?_⟩) hS ?_
          · intro w' hSw
            obtain ⟨s0, s1, s2⟩ := hSw
            go_simp
          try simp only [Act.put, List.getElem_toArray, List.getElem_cons_succ, List.getElem_cons_zero, List.setIfInBounds_toArray, List.set_cons_zero, List.set_cons_succ]
          refine wpAnyH_take (i := 3) (v := .slice (some ⟨b, o, none⟩) q cc) rfl (by kernel_rfl) (by kernel_rfl) (by kernel_rfl) (fun _ _ _ h => h) (Or.inl ⟨by kernel_rfl, ?_⟩) hS ?_
          · intro w' hSw
            obtain ⟨s0, s1, s2⟩ := hSw
            go_simp
          try simp only [Act.put, List.getElem_toArray, List.getElem_cons_succ, List.getElem_cons_zero, List.setIfInBounds_toArray, List.set_cons_zero, List.set_cons_succ]
          refine wpAnyH_take (i := 4) (v := .slice (some ⟨b, o, none⟩) nc cc) rfl (by kernel_rfl) (by kernel_rfl) (by kernel_rfl) (fun _ _ _ h => h) (Or.inl ⟨by kernel_rfl, ?_⟩) hS ?_
          · intro w' hSw
            obtain ⟨s0, s1, s2⟩ := hSw
            go_simp
          try simp only [Act.put, List.getElem_toArray, List.getElem_cons_succ, List.getElem_cons_zero, List.setIfInBounds_toArray, List.set_cons_zero, List.set_cons_succ]
          refine wpAnyH_take (i := 5) (v := .int .i64 q) rfl (by kernel_rfl) (by kernel_rfl) (by kernel_rfl) (fun _ _ _ h => h) (Or.inl ⟨by kernel_rfl, ?_⟩) hS ?_
          · intro w' hSw
            obtain ⟨s0, s1, s2⟩ := hSw
            go_simp
          try simp only [Act.put, List.getElem_toArray, List.getElem_cons_succ, List.getElem_cons_zero, List.setIfInBounds_toArray, List.set_cons_zero, List.set_cons_succ]
          refine wpAnyH_take (i := 6) (v := .pointer (some ⟨b, o + q * 3, none⟩)) rfl (by kernel_rfl) (by kernel_rfl) (by kernel_rfl) (fun _ _ _ h => h) (Or.inl ⟨by kernel_rfl, ?_⟩) hS ?_
          · intro w' hSw
            obtain ⟨s0, s1, s2⟩ := hSw
            go_simp
          try simp only [Act.put, List.getElem_toArray, List.getElem_cons_succ, List.getElem_cons_zero, List.setIfInBounds_toArray, List.set_cons_zero, List.set_cons_succ]
          refine wpAnyH_take (i := 7) (v := .agg #[.int .i64 k, .int .i64 h, .slice A2 n2 c2]) rfl (by kernel_rfl) (by kernel_rfl) (by kernel_rfl) (fun _ _ _ h => h) (Or.inl ⟨by kernel_rfl, ?_⟩) hS ?_
          · intro w' hSw
            obtain ⟨s0, s1, s2⟩ := hSw
            go_simp
          try simp only [Act.put, List.getElem_toArray, List.getElem_cons_succ, List.getElem_cons_zero, List.setIfInBounds_toArray, List.set_cons_zero, List.set_cons_succ]
          refine wpAnyH_ready (rs := [8]) (by kernel_rfl) (by simp) ?_
          refine AllReadyH.cons rfl (fun KN hK => ?_) AllReadyH.nil
          go_simp
          refine (HCT.out _ hbd).mono ?_
          rintro e w6 ⟨rfl, hb6⟩
          replace hbd : Below wr.heap.size wr w6 := hbd.trans (hb6.mono hbd.size)
          clear hb6
          refine hK.out _ _ (HKS.out _ hbd) (fun hS => ?_)
          clear hK KN
          try simp only [Act.put, List.getElem_toArray, List.getElem_cons_succ, List.getElem_cons_zero, List.setIfInBounds_toArray, List.set_cons_zero, List.set_cons_succ]
          by_cases hz : e1 ≠ 0
          · have dz : (e1 != 0) = true := by simpa using hz
            refine wpAnyH_take (i := 9) (v := .bool true) rfl (by kernel_rfl) (by kernel_rfl) (by kernel_rfl) (fun _ _ _ h => h) (Or.inl ⟨by kernel_rfl, ?_⟩) hS ?_
            · intro w' hSw
              obtain ⟨s0, s1, s2⟩ := hSw
              go_simp
            try simp only [Act.put, List.getElem_toArray, List.getElem_cons_succ, List.getElem_cons_zero, List.setIfInBounds_toArray, List.set_cons_zero, List.set_cons_succ]
            refine wpAnyH_done (by kernel_rfl) ?_ _
            try simp only [List.setIfInBounds_toArray]
            try simp only [List.getElem_toArray, List.getElem_cons_succ, List.getElem_cons_zero, List.setIfInBounds_toArray, List.set_cons_zero, List.set_cons_succ]
            have HE := Lib.hid (show false = R by rw [← HG1.out, decide_eq_false hz]; rfl)
            have HBF := Lib.hid (HB.out.trans (hbd.mono HB.out.size))
            clear hS HKS hbd
            go_wp2_with fail
            go_ret
            exact ⟨ret_bool HE.out, HBF.out⟩
          · replace hz : e1 = 0 := Decidable.not_not.1 hz
            subst hz
            have dz : ((0 : Int) != 0) = false := by decide
            refine wpAnyH_take (i := 9) (v := .bool false) rfl (by kernel_rfl) (by kernel_rfl) (by kernel_rfl) (fun _ _ _ h => h) (Or.inl ⟨by kernel_rfl, ?_⟩) hS ?_
            · intro w' hSw
              obtain ⟨s0, s1, s2⟩ := hSw
              go_simp
            try simp only [Act.put, List.getElem_toArray, List.getElem_cons_succ, List.getElem_cons_zero, List.setIfInBounds_toArray, List.set_cons_zero, List.set_cons_succ]
            refine wpAnyH_done (by kernel_rfl) ?_ _
            try simp only [List.setIfInBounds_toArray]
            try simp only [List.getElem_toArray, List.getElem_cons_succ, List.getElem_cons_zero, List.setIfInBounds_toArray, List.set_cons_zero, List.set_cons_succ]
            have HE := Lib.hid (show gdC ⟨sg, []⟩ (cx.take (q + 1)) (cx.drop (q + 1)) = R by rw [← HG1.out]; simp)
            have HLN := Lib.hid (HLO.out rfl)
            have HBF := Lib.hid (HB.out.trans (hbd.mono HB.out.size))
            clear hS HKS hbd dz
            go_wp2_with fail
            go_roundw
            case rel => exact ⟨q + 1, by omega, by go_num, HE, HLN, HBF⟩
            case measure => simp [Go.RowKit.intOf]; omega
        · obtain rfl : q = nc := by omega
          have dq : decide ((q : Int) < (q : Int)) = false := by simp
          have HE := Lib.hid (show true = R by rw [← HG.out, drop_all HX.out.len (Nat.le_refl _)]; rfl)
          go_wp2_with fail
          go_ret
          exact ⟨ret_bool HE.out, HB.out⟩
end Go.Proofs.Ytpigmefjcklpkaa

/-
  Contract of check.Term where there are no metas: terms of any Heads. No statement is proved here.
-/
namespace Go.Proofs.Ytpigmefjcklpkaa
open Go.ChangeShapes Go.WideShapes Go.ChangeAt Go.RowKit
set_option linter.unusedVariables false

set_option maxRecDepth 100000 in
set_option maxHeartbeats 8000000 in
theorem vCheckTermW (W : WV) (cx : List T) (m a : T) (As : Option Addr) (ns cs : Nat) (Am : Option Addr) (nm cm : Nat) (Ac : Option Addr) (nc cc : Nat) (vm va : Value) (w : World) (hk : CkV w W cx As ns cs Am nm cm Ac nc cc) (hm : Rd w m vm) (ha : Rd w a va)
    (hL : LoV W cx) (hlm : W.ms = [] ∨ okT loV m) (hla : okT (2 * loV) a) :
    Calls Try.prog 21 #[.slice As ns cs, .slice Am nm cm, .slice Ac nc cc, vm, va] w fun e w' => e = .returned (.int .i64 (ckT W cx m a)) ∧ Below w.heap.size w w' := by
  obtain ⟨k, h, A, n, c, rfl⟩ := hm.full
  obtain ⟨k2, h2, A2, n2, c2, rfl⟩ := ha.full
  obtain ⟨W0, hW⟩ : ∃ W0, ((w.alloc (.cells #[.int .i64 k, .int .i64 h, .slice A n c] 32)).alloc (.cells #[.int .i64 k2, .int .i64 h2, .slice A2 n2 c2] 32)).alloc (.cells #[.slice As ns cs, .slice Am nm cm, .slice Ac nc cc] 70) = W0 := ⟨_, rfl⟩
  have hb : Below w.heap.size w W0 := by rw [← hW]; exact (((Below.refl _ _).alloc (Nat.le_refl _) _).alloc (by simp) _).alloc (by simp; omega) _
  have x0 : Box W0 w.heap.size 32 #[.int .i64 k, .int .i64 h, .slice A n c] := by rw [← hW]; exact ((Box.new _ _ _).alloc _).alloc _
  have x1 : Box W0 (w.heap.size + 1) 32 #[.int .i64 k2, .int .i64 h2, .slice A2 n2 c2] := by rw [← hW]; exact ((Box.new (w.alloc _) _ _).at (by simp)).alloc _
  have x2 : Box W0 (w.heap.size + 1 + 1) 70 #[.slice As ns cs, .slice Am nm cm, .slice Ac nc cc] := by rw [← hW]; exact (Box.new ((w.alloc _).alloc _) _ _).at (by simp)
  obtain ⟨W4, hW4⟩ : ∃ W4, W0.alloc (.cells #[.int .i64 k, .int .i64 h, .slice A n c, .int .i64 k2, .int .i64 h2, .slice A2 n2 c2] 32) = W4 := ⟨_, rfl⟩
  have hb4 : Below W0.heap.size W0 W4 := by rw [← hW4]; exact (Below.refl _ _).alloc (Nat.le_refl _) _
  have x4 : Box W4 W0.heap.size 32 #[.int .i64 k, .int .i64 h, .slice A n c, .int .i64 k2, .int .i64 h2, .slice A2 n2 c2] := by rw [← hW4]; exact Box.new _ _ _
  have hbw := hb.trans (hb4.mono hb.size)
  have HMY := Lib.hid (vMayC W cx [m, a] As Am Ac _ ns cs nm cm nc cc 2 2 W4 (hk.keep hbw).sg (hk.keep hbw).ms (hk.keep hbw).cx (clv_two x4 (Rd.keep hbw _ _ hm) (Rd.keep hbw _ _ ha)))
  have X0 := Lib.hid (x0.keep hb4 x0.lt)
  have X1 := Lib.hid (x1.keep hb4 x1.lt)
  have X2 := Lib.hid (x2.keep hb4 x2.lt)
  have HB := Lib.hid hbw
  have HTM : Hid (mayV W cx [m, a] = true → ∀ W' : World, Below W4.heap.size W4 W' → Calls Try.prog 47 #[.agg #[.slice As ns cs, .slice Am nm cm, .slice Ac nc cc], .agg #[.int .i64 k, .int .i64 h, .slice A n c], .agg #[.int .i64 k2, .int .i64 h2, .slice A2 n2 c2]] W' fun e w' => e = .returned (.int .i64 (tmV W m cx a)) ∧ Below W'.heap.size W' w') := Lib.hid fun hy W' h' => by
    obtain ⟨y1, y2, y3, y4, y5⟩ := (mayV_iff W cx [m, a]).1 hy
    have ym := y3 m (by simp)
    have ya := y3 a (by simp)
    have hnd := ((myB_iff m).1 ym).2.1
    exact vTermC W m cx a (2 * loV) As ns cs Am nm cm Ac nc cc _ _ W' ((env_of hL hy).mono (by unfold loV; omega)) ⟨ym, hlm⟩ ⟨ya, hla⟩ (by unfold loV dlV hiV; omega) (by omega) (hk.keep (hbw.trans (h'.mono hbw.size))) (Rd.keep (hbw.trans (h'.mono hbw.size)) _ _ hm) (Rd.keep (hbw.trans (h'.mono hbw.size)) _ _ ha)
  obtain ⟨c0, c1, c2⟩ := x0.three
  obtain ⟨d0, d1, d2⟩ := x1.three
  obtain ⟨e0, e1, e2⟩ := x2.three
  have HCT : Hid (ckT W cx m a = if mayV W cx [m, a] = true then tmV W m cx a else 1) := Lib.hid rfl
  generalize ckT W cx m a = R at *
  generalize tmV W m cx a = S at *
  clear hk hm ha hL hlm hla hb hb4 hbw x0 x1 x2 x4
  generalize mayV W cx [m, a] = r at *
  go_enter Try.func21, Try.ntmps21
  go_wp2_with fail
  clear hW hW4
  refine HMY.out.mono ?_
  rintro e w1 ⟨rfl, hb1⟩
  have HB1 := Lib.hid (HB.out.trans (hb1.mono HB.out.size))
  obtain ⟨p0, p1, p2⟩ := (X0.out.keep hb1 X0.out.lt).three
  obtain ⟨q0, q1, q2⟩ := (X1.out.keep hb1 X1.out.lt).three
  obtain ⟨s0, s1, s2⟩ := (X2.out.keep hb1 X2.out.lt).three
  cases r
  · have HC := Lib.hid (show 1 = R by rw [HCT.out]; rfl)
    clear hb1 HTM HCT
    go_wp2_with fail
    go_ret
    exact ⟨ret_int HC.out, HB1.out⟩
  · have HC := Lib.hid (show S = R by rw [HCT.out]; rfl)
    have HT := Lib.hid (HTM.out rfl w1 hb1)
    clear hb1 HTM HCT
    go_wp2_with fail
    refine HT.out.mono ?_
    rintro e w3 ⟨rfl, hb3⟩
    have HB3 := Lib.hid (HB1.out.trans (hb3.mono HB1.out.size))
    clear hb3 HT
    go_wp2_with fail
    go_ret
    exact ⟨ret_int HC.out, HB3.out⟩

end Go.Proofs.Ytpigmefjcklpkaa

/-
  With one entry more behind, and all up by one, a term has its type still. No statement is proved here.
-/
namespace Go.Proofs.Ytpigmefjcklpkaa
open Go.RowKit
set_option linter.unusedVariables false

mutual
theorem up_comm {a b : Int} (ha : 0 ≤ a) (hb : 0 ≤ b) : ∀ (t : T) (f c : Int), f ≤ c → upT a (upT b t c) f = upT b (upT a t f) (c + a)
  | .node k h xs, f, c, hf => by
    rw [upT, upT, upT, upT, upL_len, upL_len]
    congr 1
    · by_cases hk : k = 4
      · simp only [hk, true_and]
        repeat' split
        all_goals omega
      · simp [hk]
    · exact upL_comm ha hb k xs.length xs 0 f c hf
theorem upL_comm {a b : Int} (ha : 0 ≤ a) (hb : 0 ≤ b) (k : Int) (n : Nat) : ∀ (xs : List T) (i : Nat) (f c : Int), f ≤ c → upL a k n (upL b k n xs i c) i f = upL b k n (upL a k n xs i f) i (c + a)
  | [], _, _, _, _ => by simp [upL]
  | x :: xs, i, f, c, hf => by
    rw [upL, upL, upL, upL, upL_comm ha hb k n xs (i + 1) f c hf, up_comm ha hb x _ _ (by omega), show c + bd k n i + a = c + a + bd k n i by omega]
end
mutual
theorem up_mid {a b : Int} (ha : 0 ≤ a) : ∀ (t : T) (f c : Int), f ≤ c → c ≤ f + a → upT b (upT a t f) c = upT (a + b) t f
  | .node k h xs, f, c, h1, h2 => by
    rw [upT, upT, upT, upL_len]
    congr 1
    · by_cases hk : k = 4
      · simp only [hk, true_and]
        repeat' split
        all_goals omega
      · simp [hk]
    · exact upL_mid ha k xs.length xs 0 f c h1 h2
theorem upL_mid {a b : Int} (ha : 0 ≤ a) (k : Int) (n : Nat) : ∀ (xs : List T) (i : Nat) (f c : Int), f ≤ c → c ≤ f + a → upL b k n (upL a k n xs i f) i c = upL (a + b) k n xs i f
  | [], _, _, _, _, _ => by simp [upL]
  | x :: xs, i, f, c, h1, h2 => by rw [upL, upL, upL, upL_mid ha k n xs (i + 1) f c h1 h2, up_mid ha x _ _ (by omega) (by omega)]
end
/-- an answer, up -/
def upR (c : Int) : Res → Res
  | .ok (t, n) => .ok (upT 1 t c, n)
  | .error e => .error e
theorem my_upV {t : T} {c : Int} (hn : nodB t = true) : myB (upT 1 t c) = myB t := by
  rw [Bool.eq_iff_iff, myB_iff, myB_iff, nd_up, dp_up]
  exact ⟨fun h => ⟨hn, h.2⟩, fun h => ⟨nodB_up (by omega) _ _ hn, h.2⟩⟩
theorem upL_append (b k : Int) (n : Nat) : ∀ (xs ys : List T) (i : Nat) (f : Int), upL b k n (xs ++ ys) i f = upL b k n xs i f ++ upL b k n ys (i + xs.length) f
  | [], ys, i, f => by simp [upL]
  | x :: xs, ys, i, f => by rw [List.cons_append, upL, upL, upL_append b k n xs ys (i + 1) f, List.cons_append, List.length_cons, show i + 1 + xs.length = i + (xs.length + 1) by omega]
theorem upL_flat {b k : Int} (hk : k ≠ 1 ∧ k ≠ 3) (n : Nat) : ∀ (xs : List T) (i : Nat) (f : Int), upL b k n xs i f = xs.map fun x => upT b x f
  | [], _, _ => by simp [upL]
  | x :: xs, i, f => by rw [upL, upL_flat hk n xs (i + 1) f, bd_var hk, Int.add_zero, List.map_cons]
theorem up_flat {b k h c : Int} {xs : List T} (hk : k ≠ 1 ∧ k ≠ 3) : upT b (.node k h xs) c = .node k (if k = 4 ∧ c ≤ h then h + b else h) (xs.map fun x => upT b x c) := by
  rw [upT, upL_flat hk]
theorem up_lam {h : Int} {x : T} {c : Int} : upT 1 (.node 3 h [x]) c = .node 3 h [upT 1 x (c + 1)] := by
  rw [upT, upL, upL, if_neg (by omega), bd, if_pos ⟨.inr rfl, rfl⟩]
theorem up_pi {h : Int} {x y : T} {c : Int} : upT 1 (.node 1 h [x, y]) c = .node 1 h [upT 1 x c, upT 1 y (c + 1)] := by
  rw [upT, upL, upL, upL, if_neg (by omega), bd, if_neg (by simp), bd, if_pos ⟨.inl rfl, rfl⟩, Int.add_zero]
theorem mp_up {x : T} {c u : Nat} {h : Int} (h0 : (u : Int) ≤ h) : mpT [upT 1 x c] 0 ((if (c : Int) + 1 + u ≤ h then h + 1 else h) - u) u = upT 1 (mpT [x] 0 (h - u) u) (c + u) := by
  by_cases h1 : h = u
  · subst h1
    rw [if_neg (by omega), Int.sub_self]
    unfold mpT
    rw [if_neg (by simp), if_neg (by simp)]
    simp only [List.length_cons, List.length_nil, Int.toNat_zero, Nat.zero_add, Nat.sub_self, List.getD_cons_zero]
    exact up_comm (by omega) (by omega) x 0 c (by omega)
  · by_cases h2 : (c : Int) + 1 + u ≤ h
    · rw [if_pos h2]
      unfold mpT
      rw [if_pos (by simp only [List.length_cons, List.length_nil]; omega), if_pos (by simp only [List.length_cons, List.length_nil]; omega), upT, upL, if_pos ⟨rfl, by simp only [List.length_cons, List.length_nil]; omega⟩]
      congr 1
      simp only [List.length_cons, List.length_nil]
      omega
    · rw [if_neg h2]
      unfold mpT
      rw [if_pos (by simp only [List.length_cons, List.length_nil]; omega), if_pos (by simp only [List.length_cons, List.length_nil]; omega), upT, upL, if_neg (fun e => by have := e.2; simp only [List.length_cons, List.length_nil] at this; omega)]
      congr 1
theorem apL_upV {A A' : Nat → T → Nat → Res} {k : Int} {m : Nat} {d : Nat → Int} (hd : ∀ v w : Nat, d (v + w) = d v + w) {u : Nat} {e : Int} (he : ∀ j : Nat, j ≤ 1 → True) : ∀ (xs : List T) (i n : Nat), (∀ x ∈ xs, ∀ v n, A' v (upT 1 x (e + v)) n = upR (d v) (A v x n)) →
    apL A' k m u (upL 1 k m xs i (e + u)) i n = match apL A k m u xs i n with | .ok (ys, n') => .ok (upL 1 k m ys i (d u), n') | .error er => .error er := by
  intro xs
  induction xs with
  | nil => intro i n _; simp [apL, upL]
  | cons x xs ih =>
    intro i n hA
    rw [upL, apL, apL]
    have hx := hA x (List.mem_cons_self ..) (u + bdn k m i) n
    rw [show e + ((u + bdn k m i : Nat) : Int) = e + u + bd k m i by rw [bd_bdn]; omega] at hx
    rw [hx]
    cases hr : A (u + bdn k m i) x n with
    | error er => rfl
    | ok p =>
      obtain ⟨y, n'⟩ := p
      simp only [upR]
      rw [ih (i + 1) n' fun z hz => hA z (List.mem_cons_of_mem _ hz)]
      cases apL A k m u xs (i + 1) n' with
      | error er => rfl
      | ok q =>
        obtain ⟨ys, n''⟩ := q
        simp only
        rw [upL, hd, bd_bdn]
theorem spL_upV {A A' : T → T → Nat → Res} {c : Int} (hA : ∀ a x n, nodB a = true → nodB x = true → A' (upT 1 a c) (upT 1 x (c + 1)) n = upR c (A a x n)) (hn : ∀ a x n t' n', nodB a = true → nodB x = true → A a x n = .ok (t', n') → nodB t' = true) :
    ∀ (bs : List T) (t : T) (n : Nat), nodB t = true → (∀ b ∈ bs, nodB b = true) → spL A' (upT 1 t c) (bs.map fun b => upT 1 b c) n = upR c (spL A t bs n) := by
  intro bs
  induction bs with
  | nil => intro t n _ _; rw [List.map_nil, spL, spL]; rfl
  | cons a bs ih =>
    rintro ⟨k, h, xs⟩ n ht hb
    have hna := hb a (List.mem_cons_self ..)
    by_cases hk : k = 3
    · subst hk
      obtain ⟨rfl, x, rfl, hx⟩ := lamV ht
      rw [up_lam, List.map_cons, spL, spL, if_pos rfl, if_pos rfl, my_upV hna]
      by_cases hm : myB a = true
      · rw [if_pos hm, if_pos hm]
        simp only [List.headD_cons]
        rw [hA a x n hna hx]
        cases hr : A a x n with
        | error er => rfl
        | ok p =>
          obtain ⟨t1, n1⟩ := p
          simp only [upR]
          exact ih t1 n1 (hn _ _ _ _ _ hna hx hr) fun b hb' => hb b (List.mem_cons_of_mem _ hb')
      · rw [if_neg hm, if_neg hm]; rfl
    · by_cases hk2 : k = 4 ∨ k = 5 ∨ k = 2
      · rw [up_flat (by omega), List.map_cons, spL, spL, if_neg hk, if_neg hk, if_pos hk2, if_pos hk2]
        simp only [upR]
        rw [up_flat (by omega), List.map_append, List.map_cons]
      · rw [upT, List.map_cons, spL, spL, if_neg hk, if_neg hk, if_neg hk2, if_neg hk2]; rfl
theorem ap_nod {f : Nat} {x t t' : T} {u n n' : Nat} (hx : nodB x = true) (ht : nodB t = true) (h : ap f [x] 0 u t n = .ok (t', n')) : nodB t' = true :=
  (Cr.ap_red f [x] 0 u t n t' n' (fun y hy => by rw [List.mem_singleton.1 hy]; exact hx) (by omega) ht h).1
theorem ap_upV : ∀ (f : Nat) (x t : T) (c u n : Nat), nodB x = true → nodB t = true → ap f [upT 1 x c] 0 u (upT 1 t (c + 1 + u)) n = upR (c + u) (ap f [x] 0 u t n) := by
  intro f
  induction f with
  | zero => intro x t c u n _ _; rw [ap, ap]; rfl
  | succ f ih =>
    rintro x ⟨k, h, xs⟩ c u n hx ht
    have h0 := headV ht
    rw [upT, ap, ap, upL_len]
    by_cases hw : 40000 < n + 1
    · rw [if_pos hw, if_pos hw]; rfl
    · rw [if_neg hw, if_neg hw]
      have hL := apL_upV (A := fun u' x' m => ap f [x] 0 u' x' m) (A' := fun u' x' m => ap f [upT 1 x c] 0 u' x' m) (k := k) (m := xs.length) (d := fun v => (c : Int) + v) (by intro v w; show (c : Int) + ((v + w : Nat) : Int) = (c : Int) + (v : Int) + (w : Int); omega) (u := u) (e := (c : Int) + 1) (fun _ _ => trivial) xs 0 (n + 1) (fun y hy v n' => ih x y c v n' hx ((nodV ht).2 y hy))
      have hL2 : apL (fun u' x' m => ap f [upT 1 x c] 0 u' x' m) k xs.length u (upL 1 k xs.length xs 0 ((c : Int) + 1 + u)) 0 (n + 1) = match apL (fun u' x' m => ap f [x] 0 u' x' m) k xs.length u xs 0 (n + 1) with | .ok (ys, n') => .ok (upL 1 k xs.length ys 0 ((c : Int) + u), n') | .error er => .error er := hL
      rw [hL2]
      cases hr : apL (fun u' x' m => ap f [x] 0 u' x' m) k xs.length u xs 0 (n + 1) with
      | error er => rfl
      | ok p =>
        obtain ⟨args, n1⟩ := p
        obtain ⟨e0, e1, _⟩ := Cr.apL_red (A := fun u' x' m => ap f [x] 0 u' x' m) (s := Cr.sg [x] 0) (fun v y m t1 m1 hy he => Cr.ap_red f [x] 0 v y m t1 m1 (fun z hz => by rw [List.mem_singleton.1 hz]; exact hx) (by omega) hy he) xs 0 (n + 1) args n1 (by have := ht; rw [nodB, Bool.and_eq_true] at this; exact this.2) hr
        simp only
        by_cases hk : k = 4
        · subst hk
          by_cases hu : (u : Int) ≤ h
          · have e2 : (if (4 : Int) = 4 ∧ (c : Int) + 1 + u ≤ h then h + 1 else h) = if (c : Int) + 1 + u ≤ h then h + 1 else h := by simp
            rw [e2, if_pos (show (4 : Int) = 4 ∧ (u : Int) ≤ (if (c : Int) + 1 + u ≤ h then h + 1 else h) from ⟨rfl, by split <;> omega⟩), if_pos (show (4 : Int) = 4 ∧ (u : Int) ≤ h from ⟨rfl, hu⟩), mp_up hu, upL_flat (by omega)]
            refine spL_upV (c := c + u) (fun a y m ha hy => ?_) (fun a y m t1 m1 ha hy he => ap_nod ha hy he) args _ n1 ?_ (fun b hb => nodL_mem e0 hb)
            · have := ih a y (c + u) 0 m ha hy
              rw [show (((c + u : Nat) : Int) + 1 + ((0 : Nat) : Int)) = (c : Int) + u + 1 by omega, show (((c + u : Nat) : Int) + ((0 : Nat) : Int)) = (c : Int) + u by omega, show ((c + u : Nat) : Int) = (c : Int) + u by omega] at this
              exact this
            · obtain ⟨_, m2⟩ := Cr.tr_mp (L := [x]) (sh := 0) (fun z hz => by rw [List.mem_singleton.1 hz]; exact hx) (by omega) (h.toNat - u) u
              rw [show ((h.toNat - u : Nat) : Int) = h - u by omega] at m2
              exact m2
          · have e2 : (if (4 : Int) = 4 ∧ (c : Int) + 1 + u ≤ h then h + 1 else h) = h := if_neg (fun e => by omega)
            rw [e2, if_neg (show ¬ ((4 : Int) = 4 ∧ (u : Int) ≤ h) from fun e => hu e.2), if_neg (show ¬ ((4 : Int) = 4 ∧ (u : Int) ≤ h) from fun e => hu e.2)]
            simp only [upR]
            rw [upT, e1, if_neg (fun e => by omega)]
        · rw [if_neg (show ¬ (k = 4 ∧ (c : Int) + 1 + u ≤ h) from fun e => hk e.1), if_neg (show ¬ (k = 4 ∧ (u : Int) ≤ h) from fun e => hk e.1), if_neg (show ¬ (k = 4 ∧ (u : Int) ≤ h) from fun e => hk e.1)]
          simp only [upR]
          rw [upT, e1, if_neg (show ¬ (k = 4 ∧ (c : Int) + u ≤ h) from fun e => hk e.1)]
/-- Apply of what is up -/
theorem apE_upV {x t : T} {c : Nat} (hx : nodB x = true) (ht : nodB t = true) (h : apE t [x] 0 = 0) : apE (upT 1 t (c + 1)) [upT 1 x c] 0 = 0 ∧ apT (upT 1 t (c + 1)) [upT 1 x c] 0 = upT 1 (apT t [x] 0) c := by
  have hR : apR (upT 1 t (c + 1)) [upT 1 x c] 0 = upR c (apR t [x] 0) := by
    have := ap_upV fl x t c 0 0 hx ht
    rw [show ((c : Int) + 1 + ((0 : Nat) : Int)) = (c : Int) + 1 by omega, show ((c : Int) + ((0 : Nat) : Int)) = (c : Int) by omega] at this
    exact this
  have hS : sbB [upT 1 x c] 0 = sbB [x] 0 := by simp [sbB, my_upV hx]
  unfold apE apT at *
  rw [my_upV ht, hS, hR]
  by_cases hc : (myB t && sbB [x] 0) = true
  · rw [if_pos hc] at h ⊢
    rw [if_pos hc, if_pos hc]
    cases hr : apR t [x] 0 with
    | error e => rw [hr] at h; exact absurd h (by rw [anE]; exact ap_err _ _ _ _ _ _ _ hr)
    | ok p =>
      obtain ⟨t', n'⟩ := p
      have hn' : nodB t' = true := ap_nod hx ht hr
      rw [hr, anE] at h
      by_cases hm : myB t' = true
      · simp only [upR, anE, anT, my_upV hn', if_pos hm]
        exact ⟨trivial, trivial⟩
      · rw [if_neg hm] at h; cases h
  · rw [if_neg hc] at h; cases h
end Go.Proofs.Ytpigmefjcklpkaa

/-
  With one entry more behind, and all up by one, a term has its type still: what is told of types. No statement is proved here.
-/
namespace Go.Proofs.Ytpigmefjcklpkaa
open Go.RowKit
set_option linter.unusedVariables false

mutual
theorem sam_eqW0 : ∀ (t u : T), samB t u = true → t = u
  | .node k h xs, .node k' h' ys, e => by
    rw [samB] at e
    simp only [Bool.and_eq_true, beq_iff_eq] at e
    obtain ⟨⟨⟨rfl, rfl⟩, hl⟩, hs⟩ := e
    rw [sam_eqLW xs ys hl hs]
theorem sam_eqLW : ∀ (xs ys : List T), xs.length = ys.length → samL xs ys = true → xs = ys
  | [], [], _, _ => rfl
  | x :: xs, y :: ys, hl, e => by
    rw [samL, Bool.and_eq_true] at e
    rw [sam_eqW0 x y e.1, sam_eqLW xs ys (by simpa using hl) e.2]
end
theorem sam_eqW {t u : T} (h : samB t u = true) : t = u := sam_eqW0 t u h
/-- entries that are up, each from its own place on -/
def upE : List T → Nat → List T
  | [], _ => []
  | e :: es, i => upT 1 e i :: upE es (i + 1)
theorem upE_len : ∀ (es : List T) (i : Nat), (upE es i).length = es.length
  | [], _ => rfl
  | e :: es, i => by rw [upE, List.length_cons, List.length_cons, upE_len es]
theorem upE_get : ∀ (es : List T) (i j : Nat), (upE es i)[j]? = (es[j]?).map fun e => upT 1 e ((i + j : Nat) : Int)
  | [], i, j => by simp [upE]
  | e :: es, i, 0 => by simp [upE]
  | e :: es, i, j + 1 => by rw [upE, List.getElem?_cons_succ, List.getElem?_cons_succ, upE_get es (i + 1) j, show i + 1 + j = i + (j + 1) by omega]
theorem upE_snoc : ∀ (es : List T) (p : T) (i : Nat), upE (es ++ [p]) i = upE es i ++ [upT 1 p ((i + es.length : Nat) : Int)]
  | [], p, i => by simp [upE]
  | e :: es, p, i => by rw [List.cons_append, upE, upE, upE_snoc es p (i + 1), List.cons_append, List.length_cons, show i + 1 + es.length = i + (es.length + 1) by omega]
theorem kd_up {a : T} {c : Int} : kdQ (upT 1 a c) = kdQ a := by
  obtain ⟨k, h, xs⟩ := a
  rw [upT]; rfl
theorem apT_nod {x t : T} (hx : nodB x = true) (ht : nodB t = true) (h : apE t [x] 0 = 0) : nodB (apT t [x] 0) = true := by
  unfold apE at h
  unfold apT
  by_cases hc : (myB t && sbB [x] 0) = true
  · rw [if_pos hc] at h ⊢
    cases hr : apR t [x] 0 with
    | error e => simp [anT, nodB, nodL, okN]
    | ok p =>
      obtain ⟨t', n'⟩ := p
      rw [anT]
      split
      · exact ap_nod hx ht hr
      · simp [nodB, nodL, okN]
  · rw [if_neg hc] at h; cases h
theorem pi_of_kd {t : T} (hn : nodB t = true) (hk : kdQ t = 1) : ∃ p q, t = .node 1 0 [p, q] ∧ nodB p = true ∧ nodB q = true := by
  obtain ⟨k, h, xs⟩ := t
  rw [kdQ] at hk
  subst hk
  obtain ⟨rfl, p, q, rfl, h1, h2⟩ := piV hn
  exact ⟨p, q, rfl, h1, h2⟩
theorem sp_weak {W : WV} {co cn : List T} {c : Nat} : ∀ (xs : List T) (t t' : T), nodB t = true → (∀ x ∈ xs, nodB x = true) → (∀ x ∈ xs, ∀ a, nodB a = true → tmV W x co a = 0 → tmV W (upT 1 x c) cn (upT 1 a c) = 0) → spV W xs co t = .ok t' →
    spV W (xs.map fun x => upT 1 x c) cn (upT 1 t c) = .ok (upT 1 t' c)
  | [], t, t', _, _, _, h => by rw [spV] at h; cases h; rw [List.map_nil, spV]
  | x :: xs, t, t', ht, hx, ih, h => by
    by_cases hk : kdQ t = 1
    · obtain ⟨p, q, rfl, hp, hq⟩ := pi_of_kd ht hk
      rw [sp_pi] at h
      rw [List.map_cons, up_pi, sp_pi]
      have hnx := hx x (List.mem_cons_self ..)
      by_cases h1 : tmV W x co p = 0
      · rw [if_pos h1] at h
        rw [if_pos (ih x (List.mem_cons_self ..) p hp h1)]
        by_cases h2 : apE q [x] 0 = 0
        · rw [if_pos h2] at h
          obtain ⟨h3, h4⟩ := apE_upV (c := c) hnx hq h2
          rw [if_pos h3, h4]
          exact sp_weak xs _ t' (apT_nod hnx hq h2) (fun y hy => hx y (List.mem_cons_of_mem _ hy)) (fun y hy => ih y (List.mem_cons_of_mem _ hy)) h
        · rw [if_neg h2] at h; cases h
      · rw [if_neg h1] at h; cases h
    · rw [sp_no hk] at h; cases h
theorem tm_weak {W : WV} (hs : ∀ t ∈ W.sg, nodB t = true ∧ ∀ c : Nat, upT 1 t c = t) (hm : W.ms = []) (f : T) (m : T) : ∀ (cx ex : List T) (a : T), nodB m = true → nodB a = true → (∀ e ∈ cx ++ ex, nodB e = true) → tmV W m (cx ++ ex) a = 0 →
    tmV W (upT 1 m ex.length) (cx ++ [f] ++ upE ex 0) (upT 1 a ex.length) = 0 := by
  induction m using T.ind with
  | step k h xs ih =>
    intro cx ex a hn ha he ht
    have h0 := headV hn
    by_cases hk : k = 3
    · subst hk
      obtain ⟨rfl, x, rfl, hx⟩ := lamV hn
      rw [tm_lam] at ht
      rw [up_lam, tm_lam, kd_up]
      by_cases hq : kdQ a = 1
      · rw [if_pos hq] at ht ⊢
        obtain ⟨p, q, rfl, hp, hqn⟩ := pi_of_kd ha hq
        rw [up_pi]
        have ht' : tmV W x (cx ++ (ex ++ [p])) q = 0 := by rw [← List.append_assoc]; exact ht
        have g := ih x (List.mem_cons_self ..) cx (ex ++ [p]) q hx hqn (fun e hm' => by
          rw [← List.append_assoc] at hm'
          rcases List.mem_append.1 hm' with h1 | h1
          · exact he e h1
          · rw [List.mem_singleton.1 h1]; exact hp) ht'
        rw [upE_snoc, List.length_append, List.length_singleton, ← List.append_assoc, Nat.zero_add] at g
        exact g
      · rw [if_neg hq] at ht; cases ht
    · obtain ⟨hq, t, hc, hsm⟩ := tm_neu_ok hk ht
      have hta := sam_eqW hsm
      subst hta
      have hcase : k = 4 ∨ k = 5 := by
        rw [cmV] at hc
        by_cases h45 : k = 4 ∨ k = 5
        · exact h45
        · rw [if_neg h45] at hc
          by_cases h6 : k = 6
          · rw [if_pos h6, if_neg (by rw [hm]; simp; omega)] at hc; cases hc
          · rw [if_neg h6] at hc; cases hc
      rw [up_flat (by omega)]
      rw [cmV, if_pos hcase] at hc
      have hxs := (nodV hn).2
      have ih' : ∀ x ∈ xs, ∀ b, nodB b = true → tmV W x (cx ++ ex) b = 0 → tmV W (upT 1 x ex.length) (cx ++ [f] ++ upE ex 0) (upT 1 b ex.length) = 0 := fun x hx b hb hb0 => ih x hx cx ex b (hxs x hx) hb he hb0
      refine tm_neu_of (t := upT 1 t ex.length) hk (by rw [kd_up]; exact hq) ?_ (sam_refl _)
      rw [cmV, if_pos hcase]
      rcases hcase with rfl | rfl
      · rw [hdV, if_pos rfl] at hc
        by_cases hl : h < (cx ++ ex).length
        · rw [if_pos hl] at hc
          simp only at hc
          rw [List.length_append] at hl
          by_cases hx : h < ex.length
          · -- the entry is among those that are up
            obtain ⟨e, hee⟩ : ∃ e, ex[ex.length - 1 - h.toNat]? = some e := ⟨_, List.getElem?_eq_getElem (by omega)⟩
            have hg : (cx ++ ex).getD ((cx ++ ex).length - 1 - h.toNat) (.node 0 0 []) = e := by
              rw [List.getD_eq_getElem?_getD, List.length_append, List.getElem?_append_right (by omega), show cx.length + ex.length - 1 - h.toNat - cx.length = ex.length - 1 - h.toNat by omega, hee]; rfl
            rw [hg] at hc
            have hen := he e (List.mem_append_right _ (List.mem_of_getElem? hee))
            have hd : hdV W 4 h (cx ++ [f] ++ upE ex 0) = .ok (upT 1 (upT (h + 1) e 0) ex.length) := by
              rw [hdV, if_pos rfl, if_pos (by simp only [List.length_append, List.length_singleton, upE_len]; omega), List.getD_eq_getElem?_getD]
              rw [List.getElem?_append_right (by simp only [List.length_append, List.length_singleton, upE_len]; omega)]
              rw [show (cx ++ [f] ++ upE ex 0).length - 1 - h.toNat - (cx ++ [f]).length = ex.length - 1 - h.toNat by simp only [List.length_append, List.length_singleton, upE_len]; omega]
              rw [upE_get, hee, Option.map_some, Option.getD_some]
              rw [up_comm (by omega) (by omega) e 0 _ (by omega)]
              congr 2
              omega
            rw [if_neg (show ¬ ((4 : Int) = 4 ∧ ((ex.length : Nat) : Int) ≤ h) from fun e => by omega), hd]
            simp only
            exact sp_weak xs _ t (nodB_up (by omega) _ _ hen) hxs ih' hc
          · obtain ⟨e, hee⟩ : ∃ e, cx[cx.length + ex.length - 1 - h.toNat]? = some e := ⟨_, List.getElem?_eq_getElem (by omega)⟩
            have hg : (cx ++ ex).getD ((cx ++ ex).length - 1 - h.toNat) (.node 0 0 []) = e := by
              rw [List.getD_eq_getElem?_getD, List.length_append, List.getElem?_append_left (by omega), hee]; rfl
            rw [hg] at hc
            have hen := he e (List.mem_append_left _ (List.mem_of_getElem? hee))
            have hd : hdV W 4 (h + 1) (cx ++ [f] ++ upE ex 0) = .ok (upT 1 (upT (h + 1) e 0) ex.length) := by
              rw [hdV, if_pos rfl, if_pos (by simp only [List.length_append, List.length_singleton, upE_len]; omega), List.getD_eq_getElem?_getD]
              rw [show (cx ++ [f] ++ upE ex 0).length - 1 - (h + 1).toNat = cx.length + ex.length - 1 - h.toNat by simp only [List.length_append, List.length_singleton, upE_len]; omega]
              rw [List.append_assoc, List.getElem?_append_left (by omega), hee, Option.getD_some, up_mid (by omega) e 0 _ (by omega) (by omega)]
            rw [if_pos (show (4 : Int) = 4 ∧ ((ex.length : Nat) : Int) ≤ h from ⟨rfl, by omega⟩), hd]
            simp only
            exact sp_weak xs _ t (nodB_up (by omega) _ _ hen) hxs ih' hc
        · rw [if_neg hl] at hc; cases hc
      · rw [if_neg (show ¬ ((5 : Int) = 4 ∧ ((ex.length : Nat) : Int) ≤ h) from fun e => by omega)]
        rw [hdV, if_neg (by omega)] at hc ⊢
        by_cases hl : h < W.sg.length
        · rw [if_pos hl] at hc ⊢
          by_cases hki : kiB (W.sg.getD h.toNat (.node 0 0 [])) = true
          · rw [if_pos hki] at hc; cases hc
          · rw [if_neg hki] at hc ⊢
            simp only at hc ⊢
            obtain ⟨hsn, hsu⟩ := hs _ (getD_memV (.node 0 0 []) (show h.toNat < W.sg.length by omega))
            have g := sp_weak xs _ t hsn hxs ih' hc
            rw [hsu] at g
            exact g
        · rw [if_neg hl] at hc; cases hc
end Go.Proofs.Ytpigmefjcklpkaa

/-
  The walk of the law CheckFront.
-/
namespace Go.Proofs.Ytpigmefjcklpkaa
open Go.ChangeShapes Go.WideShapes Go.ChangeAt Go.RowKit
set_option linter.unusedVariables false

mutual
theorem sc_monoZ {M V V' : Int} (h : V ≤ V') : ∀ t : T, scC t V M → scC t V' M
  | .node k g xs, hs => by
    rw [scC] at hs ⊢
    exact ⟨fun e => by have := hs.1 e; omega, hs.2.1, sc_monoZL h k _ xs 0 hs.2.2⟩
theorem sc_monoZL {M V V' : Int} (h : V ≤ V') (k : Int) (n : Nat) : ∀ (xs : List T) (i : Nat), scCL k n xs i V M → scCL k n xs i V' M
  | [], _, _ => by rw [scCL]; trivial
  | x :: xs, i, hs => by
    rw [scCL] at hs ⊢
    exact ⟨sc_monoZ (by omega) x hs.1, sc_monoZL h k n xs (i + 1) hs.2⟩
end
/-- what is in order in a signature is closed -/
theorem gd_closed {sg : List T} (h : gdS [] sg = true) : ∀ t ∈ sg, myB t = true ∧ scC t 0 0 := fun t ht => by
  obtain ⟨i, hi, rfl⟩ := List.mem_iff_getElem.1 ht
  rcases gdS_ok sg [] h i _ (List.getElem?_eq_getElem hi) with h | h
  · obtain ⟨h1, h2⟩ := ckTy_okZ h
    have hm := ((mayV_iff _ _ _).1 h1).2.2.1 sg[i] (by simp)
    exact ⟨hm, ty_scoped _ [] ((myB_iff _).1 hm).1 h2⟩
  · obtain ⟨h1, h2⟩ := ckKi_okZ h
    have hm := ((mayV_iff _ _ _).1 h1).2.2.1 sg[i] (by simp)
    exact ⟨hm, ki_scoped _ [] ((myB_iff _).1 hm).1 h2⟩
theorem ckT_okZ {W : WV} {cx : List T} {m a : T} (h : ckT W cx m a = 0) : mayV W cx [m, a] = true ∧ tmV W m cx a = 0 := by
  unfold ckT at h
  split at h
  · rename_i h1; exact ⟨h1, h⟩
  · cases h
theorem ckT_ofZ {W : WV} {cx : List T} {m a : T} (h : mayV W cx [m, a] = true) (k : tmV W m cx a = 0) : ckT W cx m a = 0 := by
  unfold ckT
  rw [if_pos h, k]
theorem front_ok {sg cx fr : List T} {m a : T} (h : ckT ⟨sg, []⟩ cx m a = 0) (hf : ∀ t ∈ fr, myB t = true) (l1 : cx.length ≤ 60) (l2 : fr.length ≤ 60) : ckT ⟨sg, []⟩ (fr ++ cx) m a = 0 := by
  obtain ⟨h1, h2⟩ := ckT_okZ h
  obtain ⟨y1, y2, y3, y4, y5⟩ := (mayV_iff _ _ _).1 h1
  refine ckT_ofZ ((mayV_iff _ _ _).2 ⟨by rw [List.length_append]; omega, fun t ht => ?_, y3, y4, y5⟩) ?_
  · rcases List.mem_append.1 ht with ht | ht
    · exact hf t ht
    · exact y2 t ht
  · exact tm_more (W := ⟨sg, []⟩) (W' := ⟨sg, []⟩) (fr := fr) ⟨⟨[], by simp⟩, ⟨[], rfl⟩, .inr rfl⟩ m cx a ((myB_iff m).1 (y3 m (by simp))).1 h2
theorem behind_ok {sg cx : List T} {m a f : T} (hg : gdS [] sg = true) (h : ckT ⟨sg, []⟩ cx m a = 0) (hf : myB f = true) (l1 : cx.length ≤ 60) : ckT ⟨sg, []⟩ (cx ++ [f]) (upT 1 m 0) (upT 1 a 0) = 0 := by
  obtain ⟨h1, h2⟩ := ckT_okZ h
  obtain ⟨y1, y2, y3, y4, y5⟩ := (mayV_iff _ _ _).1 h1
  have hm := y3 m (by simp)
  have ha := y3 a (by simp)
  refine ckT_ofZ ((mayV_iff _ _ _).2 ⟨by rw [List.length_append, List.length_singleton]; omega, fun t ht => ?_, fun t ht => ?_, y4, y5⟩) ?_
  · rcases List.mem_append.1 ht with ht | ht
    · exact y2 t ht
    · rw [List.mem_singleton.1 ht]; exact hf
  · simp only [List.mem_cons, List.not_mem_nil, or_false] at ht
    rcases ht with rfl | rfl
    · exact my_up (by omega) hm
    · exact my_up (by omega) ha
  · have := tm_weak (W := ⟨sg, []⟩) (fun t ht => ⟨((myB_iff t).1 (gd_closed hg t ht).1).1, fun c => up_far t c (sc_monoZ (by omega) t (gd_closed hg t ht).2)⟩) rfl f m cx [] a ((myB_iff m).1 hm).1 ((myB_iff a).1 ha).1 (fun e he => by
      rw [List.append_nil] at he
      exact ((myB_iff e).1 (y2 e he)).1) (by rw [List.append_nil]; exact h2)
    simpa [upE] using this
set_option maxRecDepth 100000 in
set_option maxHeartbeats 16000000 in
theorem checkFrontC (sg cx fr : List T) (m a : T) (As : Option Addr) (ns cs : Nat) (Ac : Option Addr) (nc cc : Nat) (Af : Option Addr) (nf cf : Nat) (vm va : Value) (w : World) (hs : DL w sg As ns cs) (hx : CLV w cx Ac nc cc) (hy : CLV w fr Af nf cf) (hvp : Rd w m vm) (hvq : Rd w a va) :
    Calls Try.prog 10 #[.slice As ns cs, .slice Ac nc cc, .slice Af nf cf, vm, va] w fun e w' => e = .returned (.bool true) ∧ Below w.heap.size w w' := by
  obtain ⟨kp, hp, Ap, np, cp, rfl⟩ := hvp.full
  obtain ⟨kq, hq, Aq, nq, cq, rfl⟩ := hvq.full
  have hcl := hx.len
  have hfl := hy.len
  have hfle := hy.le
  have hfcap := hy.cap
  unfold maxLen at hfcap
  have HS := Lib.hid hs; clear hs
  have HX := Lib.hid hx; clear hx
  have HY := Lib.hid hy; clear hy
  have HVP := Lib.hid hvp; clear hvp
  have HVQ := Lib.hid hvq; clear hvq
  obtain ⟨w0, hW⟩ : ∃ w0, (w.alloc (.cells #[.int .i64 kp, .int .i64 hp, .slice Ap np cp] 32)).alloc (.cells #[.int .i64 kq, .int .i64 hq, .slice Aq nq cq] 32) = w0 := ⟨_, rfl⟩
  have hb0 : Below w.heap.size w w0 := by rw [← hW]; exact ((Below.refl _ _).alloc (Nat.le_refl _) _).alloc (by simp) _
  have XP := Lib.hid (show Box w0 w.heap.size 32 #[.int .i64 kp, .int .i64 hp, .slice Ap np cp] by rw [← hW]; exact (Box.new w _ _).alloc _)
  have XQ := Lib.hid (show Box w0 (w.heap.size + 1) 32 #[.int .i64 kq, .int .i64 hq, .slice Aq nq cq] by rw [← hW]; exact (Box.new (w.alloc _) _ _).at (by simp))
  have HB := Lib.hid hb0; clear hb0
  obtain ⟨rf, hrf⟩ : ∃ r, fwV ⟨sg, []⟩ cx ns 0 = r := ⟨_, rfl⟩
  have HRF := Lib.hid hrf; clear hrf
  obtain ⟨rg, hrg⟩ : ∃ r, fwV ⟨[], []⟩ fr 0 0 = r := ⟨_, rfl⟩
  have HRG := Lib.hid hrg; clear hrg
  obtain ⟨rm, hrm⟩ : ∃ r, ltB m 500 80 = r := ⟨_, rfl⟩
  have HRM := Lib.hid hrm; clear hrm
  obtain ⟨ra, hra⟩ : ∃ r, ltB a 500 80 = r := ⟨_, rfl⟩
  have HRA := Lib.hid hra; clear hra
  obtain ⟨ri, hri⟩ : ∃ r, gdV sg [] = r := ⟨_, rfl⟩
  have HRI := Lib.hid hri; clear hri
  go_enter Try.func10, Try.ntmps10
  go_wp2_with fail
  clear hW
  have HC := Lib.hid (vAwakeC w0)
  refine HC.out.mono ?_
  rintro e w1 ⟨rfl, hb1⟩
  replace XP := Lib.hid (XP.out.keep hb1 XP.out.lt)
  replace XQ := Lib.hid (XQ.out.keep hb1 XQ.out.lt)
  replace HB := Lib.hid (HB.out.trans (hb1.mono HB.out.size))
  clear hb1 HC
  have b0 : w1.cell? ⟨w.heap.size, 0, none⟩ = some (.int .i64 kp) := XP.out.cell 0
  have b1 : w1.cell? ⟨w.heap.size, 1, none⟩ = some (.int .i64 hp) := XP.out.cell 1
  have b2 : w1.cell? ⟨w.heap.size, 2, none⟩ = some (.slice Ap np cp) := XP.out.cell 2
  have e0 : w1.cell? ⟨w.heap.size + 1, 0, none⟩ = some (.int .i64 kq) := XQ.out.cell 0
  have e1 : w1.cell? ⟨w.heap.size + 1, 1, none⟩ = some (.int .i64 hq) := XQ.out.cell 1
  have e2 : w1.cell? ⟨w.heap.size + 1, 2, none⟩ = some (.slice Aq nq cq) := XQ.out.cell 2
  go_wp2_with fail
  clear b0 b1 b2
  clear e0 e1 e2
  have HC := Lib.hid (vFewC ⟨sg, []⟩ cx As none Ac ns cs 0 0 nc cc w1 ⟨HS.out.keep HB.out, ml_nilZ _, HX.out.keep HB.out⟩)
  rw [HRF.out] at HC
  refine HC.out.mono ?_
  rintro e w2 ⟨rfl, hb1⟩
  replace XP := Lib.hid (XP.out.keep hb1 XP.out.lt)
  replace XQ := Lib.hid (XQ.out.keep hb1 XQ.out.lt)
  replace HB := Lib.hid (HB.out.trans (hb1.mono HB.out.size))
  clear hb1 HC
  have b0 : w2.cell? ⟨w.heap.size, 0, none⟩ = some (.int .i64 kp) := XP.out.cell 0
  have b1 : w2.cell? ⟨w.heap.size, 1, none⟩ = some (.int .i64 hp) := XP.out.cell 1
  have b2 : w2.cell? ⟨w.heap.size, 2, none⟩ = some (.slice Ap np cp) := XP.out.cell 2
  have e0 : w2.cell? ⟨w.heap.size + 1, 0, none⟩ = some (.int .i64 kq) := XQ.out.cell 0
  have e1 : w2.cell? ⟨w.heap.size + 1, 1, none⟩ = some (.int .i64 hq) := XQ.out.cell 1
  have e2 : w2.cell? ⟨w.heap.size + 1, 2, none⟩ = some (.slice Aq nq cq) := XQ.out.cell 2
  go_wp2_with fail
  clear b0 b1 b2
  clear e0 e1 e2
  have HC := Lib.hid (vFewC ⟨[], []⟩ fr none none Af 0 0 0 0 nf cf w2 ⟨⟨rfl, Nat.le_refl _, Nat.zero_le _, fun i x hx => by simp at hx⟩, ml_nilZ _, HY.out.keep HB.out⟩)
  rw [HRG.out] at HC
  refine HC.out.mono ?_
  rintro e w3 ⟨rfl, hb1⟩
  replace XP := Lib.hid (XP.out.keep hb1 XP.out.lt)
  replace XQ := Lib.hid (XQ.out.keep hb1 XQ.out.lt)
  replace HB := Lib.hid (HB.out.trans (hb1.mono HB.out.size))
  clear hb1 HC
  have b0 : w3.cell? ⟨w.heap.size, 0, none⟩ = some (.int .i64 kp) := XP.out.cell 0
  have b1 : w3.cell? ⟨w.heap.size, 1, none⟩ = some (.int .i64 hp) := XP.out.cell 1
  have b2 : w3.cell? ⟨w.heap.size, 2, none⟩ = some (.slice Ap np cp) := XP.out.cell 2
  have e0 : w3.cell? ⟨w.heap.size + 1, 0, none⟩ = some (.int .i64 kq) := XQ.out.cell 0
  have e1 : w3.cell? ⟨w.heap.size + 1, 1, none⟩ = some (.int .i64 hq) := XQ.out.cell 1
  have e2 : w3.cell? ⟨w.heap.size + 1, 2, none⟩ = some (.slice Aq nq cq) := XQ.out.cell 2
  go_wp2_with fail
  clear b0 b1 b2
  clear e0 e1 e2
  have HC := Lib.hid (refLight m 500 80 _ _ (Rd.keep HB.out _ _ HVP.out))
  rw [HRM.out] at HC
  refine HC.out.mono ?_
  rintro e w4 ⟨rfl, hb1⟩
  replace XP := Lib.hid (XP.out.keep hb1 XP.out.lt)
  replace XQ := Lib.hid (XQ.out.keep hb1 XQ.out.lt)
  replace HB := Lib.hid (HB.out.trans (hb1.mono HB.out.size))
  clear hb1 HC
  have b0 : w4.cell? ⟨w.heap.size, 0, none⟩ = some (.int .i64 kp) := XP.out.cell 0
  have b1 : w4.cell? ⟨w.heap.size, 1, none⟩ = some (.int .i64 hp) := XP.out.cell 1
  have b2 : w4.cell? ⟨w.heap.size, 2, none⟩ = some (.slice Ap np cp) := XP.out.cell 2
  have e0 : w4.cell? ⟨w.heap.size + 1, 0, none⟩ = some (.int .i64 kq) := XQ.out.cell 0
  have e1 : w4.cell? ⟨w.heap.size + 1, 1, none⟩ = some (.int .i64 hq) := XQ.out.cell 1
  have e2 : w4.cell? ⟨w.heap.size + 1, 2, none⟩ = some (.slice Aq nq cq) := XQ.out.cell 2
  go_wp2_with fail
  clear b0 b1 b2
  clear e0 e1 e2
  have HC := Lib.hid (refLight a 500 80 _ _ (Rd.keep HB.out _ _ HVQ.out))
  rw [HRA.out] at HC
  refine HC.out.mono ?_
  rintro e w5 ⟨rfl, hb1⟩
  replace XP := Lib.hid (XP.out.keep hb1 XP.out.lt)
  replace XQ := Lib.hid (XQ.out.keep hb1 XQ.out.lt)
  replace HB := Lib.hid (HB.out.trans (hb1.mono HB.out.size))
  clear hb1 HC
  have b0 : w5.cell? ⟨w.heap.size, 0, none⟩ = some (.int .i64 kp) := XP.out.cell 0
  have b1 : w5.cell? ⟨w.heap.size, 1, none⟩ = some (.int .i64 hp) := XP.out.cell 1
  have b2 : w5.cell? ⟨w.heap.size, 2, none⟩ = some (.slice Ap np cp) := XP.out.cell 2
  have e0 : w5.cell? ⟨w.heap.size + 1, 0, none⟩ = some (.int .i64 kq) := XQ.out.cell 0
  have e1 : w5.cell? ⟨w.heap.size + 1, 1, none⟩ = some (.int .i64 hq) := XQ.out.cell 1
  have e2 : w5.cell? ⟨w.heap.size + 1, 2, none⟩ = some (.slice Aq nq cq) := XQ.out.cell 2
  go_wp2_with fail
  clear b0 b1 b2
  clear e0 e1 e2
  have HC := Lib.hid (goodC sg [] As ns cs none 0 0 w5 (HS.out.keep HB.out) (clv_nilZ _))
  rw [HRI.out] at HC
  refine HC.out.mono ?_
  rintro e w6 ⟨rfl, hb1⟩
  replace XP := Lib.hid (XP.out.keep hb1 XP.out.lt)
  replace XQ := Lib.hid (XQ.out.keep hb1 XQ.out.lt)
  replace HB := Lib.hid (HB.out.trans (hb1.mono HB.out.size))
  clear hb1 HC
  have b0 : w6.cell? ⟨w.heap.size, 0, none⟩ = some (.int .i64 kp) := XP.out.cell 0
  have b1 : w6.cell? ⟨w.heap.size, 1, none⟩ = some (.int .i64 hp) := XP.out.cell 1
  have b2 : w6.cell? ⟨w.heap.size, 2, none⟩ = some (.slice Ap np cp) := XP.out.cell 2
  have e0 : w6.cell? ⟨w.heap.size + 1, 0, none⟩ = some (.int .i64 kq) := XQ.out.cell 0
  have e1 : w6.cell? ⟨w.heap.size + 1, 1, none⟩ = some (.int .i64 hq) := XQ.out.cell 1
  have e2 : w6.cell? ⟨w.heap.size + 1, 2, none⟩ = some (.slice Aq nq cq) := XQ.out.cell 2
  cases rf
  · go_wp2_with fail
    go_ret
    exact ⟨rfl, HB.out⟩
  clear b0 b1 b2
  clear e0 e1 e2
  have b0 : w6.cell? ⟨w.heap.size, 0, none⟩ = some (.int .i64 kp) := XP.out.cell 0
  have b1 : w6.cell? ⟨w.heap.size, 1, none⟩ = some (.int .i64 hp) := XP.out.cell 1
  have b2 : w6.cell? ⟨w.heap.size, 2, none⟩ = some (.slice Ap np cp) := XP.out.cell 2
  have e0 : w6.cell? ⟨w.heap.size + 1, 0, none⟩ = some (.int .i64 kq) := XQ.out.cell 0
  have e1 : w6.cell? ⟨w.heap.size + 1, 1, none⟩ = some (.int .i64 hq) := XQ.out.cell 1
  have e2 : w6.cell? ⟨w.heap.size + 1, 2, none⟩ = some (.slice Aq nq cq) := XQ.out.cell 2
  cases rg
  · go_wp2_with fail
    go_ret
    exact ⟨rfl, HB.out⟩
  clear b0 b1 b2
  clear e0 e1 e2
  have b0 : w6.cell? ⟨w.heap.size, 0, none⟩ = some (.int .i64 kp) := XP.out.cell 0
  have b1 : w6.cell? ⟨w.heap.size, 1, none⟩ = some (.int .i64 hp) := XP.out.cell 1
  have b2 : w6.cell? ⟨w.heap.size, 2, none⟩ = some (.slice Ap np cp) := XP.out.cell 2
  have e0 : w6.cell? ⟨w.heap.size + 1, 0, none⟩ = some (.int .i64 kq) := XQ.out.cell 0
  have e1 : w6.cell? ⟨w.heap.size + 1, 1, none⟩ = some (.int .i64 hq) := XQ.out.cell 1
  have e2 : w6.cell? ⟨w.heap.size + 1, 2, none⟩ = some (.slice Aq nq cq) := XQ.out.cell 2
  cases rm
  · go_wp2_with fail
    go_ret
    exact ⟨rfl, HB.out⟩
  clear b0 b1 b2
  clear e0 e1 e2
  have b0 : w6.cell? ⟨w.heap.size, 0, none⟩ = some (.int .i64 kp) := XP.out.cell 0
  have b1 : w6.cell? ⟨w.heap.size, 1, none⟩ = some (.int .i64 hp) := XP.out.cell 1
  have b2 : w6.cell? ⟨w.heap.size, 2, none⟩ = some (.slice Ap np cp) := XP.out.cell 2
  have e0 : w6.cell? ⟨w.heap.size + 1, 0, none⟩ = some (.int .i64 kq) := XQ.out.cell 0
  have e1 : w6.cell? ⟨w.heap.size + 1, 1, none⟩ = some (.int .i64 hq) := XQ.out.cell 1
  have e2 : w6.cell? ⟨w.heap.size + 1, 2, none⟩ = some (.slice Aq nq cq) := XQ.out.cell 2
  cases ra
  · go_wp2_with fail
    go_ret
    exact ⟨rfl, HB.out⟩
  clear b0 b1 b2
  clear e0 e1 e2
  have b0 : w6.cell? ⟨w.heap.size, 0, none⟩ = some (.int .i64 kp) := XP.out.cell 0
  have b1 : w6.cell? ⟨w.heap.size, 1, none⟩ = some (.int .i64 hp) := XP.out.cell 1
  have b2 : w6.cell? ⟨w.heap.size, 2, none⟩ = some (.slice Ap np cp) := XP.out.cell 2
  have e0 : w6.cell? ⟨w.heap.size + 1, 0, none⟩ = some (.int .i64 kq) := XQ.out.cell 0
  have e1 : w6.cell? ⟨w.heap.size + 1, 1, none⟩ = some (.int .i64 hq) := XQ.out.cell 1
  have e2 : w6.cell? ⟨w.heap.size + 1, 2, none⟩ = some (.slice Aq nq cq) := XQ.out.cell 2
  cases ri
  · go_wp2_with fail
    go_ret
    exact ⟨rfl, HB.out⟩
  clear b0 b1 b2
  clear e0 e1 e2
  have HLO := Lib.hid (loV_of HRF.out)
  have HLF := Lib.hid (loV_of HRG.out)
  have hcn := (few_len HRF.out).2.2
  have hfn := (few_len HRG.out).2.2
  have HGS := Lib.hid (show gdS [] sg = true by have := HRI.out; rw [gdV, Bool.and_eq_true] at this; exact this.1)
  obtain ⟨ec, hec⟩ : ∃ e, ckT ⟨sg, []⟩ cx m a = e := ⟨_, rfl⟩
  have HEC := Lib.hid hec; clear hec
  have b0 : w6.cell? ⟨w.heap.size, 0, none⟩ = some (.int .i64 kp) := XP.out.cell 0
  have b1 : w6.cell? ⟨w.heap.size, 1, none⟩ = some (.int .i64 hp) := XP.out.cell 1
  have b2 : w6.cell? ⟨w.heap.size, 2, none⟩ = some (.slice Ap np cp) := XP.out.cell 2
  have e0 : w6.cell? ⟨w.heap.size + 1, 0, none⟩ = some (.int .i64 kq) := XQ.out.cell 0
  have e1 : w6.cell? ⟨w.heap.size + 1, 1, none⟩ = some (.int .i64 hq) := XQ.out.cell 1
  have e2 : w6.cell? ⟨w.heap.size + 1, 2, none⟩ = some (.slice Aq nq cq) := XQ.out.cell 2
  go_wp2_with fail
  clear b0 b1 b2
  clear e0 e1 e2
  have HC := Lib.hid (vCheckTermC ⟨sg, []⟩ cx m a As ns cs none 0 0 Ac nc cc _ _ w6 ⟨HS.out.keep HB.out, ml_nilZ _, HX.out.keep HB.out⟩ (Rd.keep HB.out _ _ HVP.out) (Rd.keep HB.out _ _ HVQ.out) HLO.out (lo_lt HRM.out) (lo_lt HRA.out))
  rw [HEC.out] at HC
  refine HC.out.mono ?_
  rintro e w7 ⟨rfl, hb1⟩
  replace XP := Lib.hid (XP.out.keep hb1 XP.out.lt)
  replace XQ := Lib.hid (XQ.out.keep hb1 XQ.out.lt)
  replace HB := Lib.hid (HB.out.trans (hb1.mono HB.out.size))
  clear hb1 HC
  have b0 : w7.cell? ⟨w.heap.size, 0, none⟩ = some (.int .i64 kp) := XP.out.cell 0
  have b1 : w7.cell? ⟨w.heap.size, 1, none⟩ = some (.int .i64 hp) := XP.out.cell 1
  have b2 : w7.cell? ⟨w.heap.size, 2, none⟩ = some (.slice Ap np cp) := XP.out.cell 2
  have e0 : w7.cell? ⟨w.heap.size + 1, 0, none⟩ = some (.int .i64 kq) := XQ.out.cell 0
  have e1 : w7.cell? ⟨w.heap.size + 1, 1, none⟩ = some (.int .i64 hq) := XQ.out.cell 1
  have e2 : w7.cell? ⟨w.heap.size + 1, 2, none⟩ = some (.slice Aq nq cq) := XQ.out.cell 2
  by_cases hq : ec ≠ 0
  · have d1 : (ec != 0) = true := by simpa using hq
    go_wp2_with fail
    go_ret
    exact ⟨rfl, HB.out⟩
  clear b0 b1 b2
  clear e0 e1 e2
  obtain rfl : ec = 0 := Decidable.not_not.1 hq
  clear hq
  have b0 : w7.cell? ⟨w.heap.size, 0, none⟩ = some (.int .i64 kp) := XP.out.cell 0
  have b1 : w7.cell? ⟨w.heap.size, 1, none⟩ = some (.int .i64 hp) := XP.out.cell 1
  have b2 : w7.cell? ⟨w.heap.size, 2, none⟩ = some (.slice Ap np cp) := XP.out.cell 2
  have e0 : w7.cell? ⟨w.heap.size + 1, 0, none⟩ = some (.int .i64 kq) := XQ.out.cell 0
  have e1 : w7.cell? ⟨w.heap.size + 1, 1, none⟩ = some (.int .i64 hq) := XQ.out.cell 1
  have e2 : w7.cell? ⟨w.heap.size + 1, 2, none⟩ = some (.slice Aq nq cq) := XQ.out.cell 2
  go_wp2_with fail
  clear b0 b1 b2
  clear e0 e1 e2
  go_loopw [17] (fun i wr => ∃ (j : Nat), j ≤ nf ∧ i = .int .i64 j ∧ Hid (∀ t ∈ fr.take j, myB t = true) ∧ Hid (Below w7.heap.size w7 wr)) (fun i _ => nf - (Go.RowKit.intOf i).toNat)
  case atStart => exact ⟨0, Nat.zero_le _, rfl, Lib.hid (fun t ht => by simp at ht), Lib.hid (Below.refl _ _)⟩
  case round =>
    obtain ⟨j, hj, rfl, HM, HW⟩ := hrel
    replace XP := Lib.hid (XP.out.keep HW.out XP.out.lt)
    replace XQ := Lib.hid (XQ.out.keep HW.out XQ.out.lt)
    have HB0 := HB
    replace HB := Lib.hid (HB.out.trans (HW.out.mono HB.out.size))
    by_cases hlt : j < nf
    · obtain ⟨x, ht⟩ := at_of HY.out.len hlt
      obtain ⟨b, o, k, h, A2, n2, c2, rfl, c0, c1, c3, hr⟩ := (RdAt.keep HB.out (HY.out.at_ j x ht)).full
      have hi0 : (0 : Int) ≤ j := by omega
      have hi1 : (j : Int) < nf := by omega
      have dj : decide ((j : Int) < (nf : Int)) = true := by simp; omega
      have hsj : IntKind.i64.wrap ((j : Int) + 1) = ((j + 1 : Nat) : Int) := by rw [wrapEq, wrap_small (by omega) (by omega)]; omega
      have HSN := Lib.hid (take_snocZ ht)
      have HMY := Lib.hid (myC x _ wr hr)
      obtain ⟨rx, hrx⟩ : ∃ r, myB x = r := ⟨_, rfl⟩
      rw [hrx] at HMY
      have HRX := Lib.hid hrx
      clear ht hr hrx
      go_wp2_with fail
      clear c0 c1 c3
      refine HMY.out.mono ?_
      rintro e w9 ⟨rfl, hb9⟩
      have HW9 := Lib.hid (HW.out.trans (hb9.mono HW.out.size))
      have HB9 := Lib.hid (HB.out.trans (hb9.mono HB.out.size))
      clear hb9
      cases rx
      · go_wp2_with fail
        go_ret
        exact ⟨rfl, HB9.out⟩
      · have HM9 := Lib.hid (show ∀ t ∈ fr.take (j + 1), myB t = true from fun t ht => by
          rw [HSN.out] at ht
          rcases List.mem_append.1 ht with ht | ht
          · exact HM.out t ht
          · rw [List.mem_singleton.1 ht]; exact HRX.out)
        go_wp2_with fail
        go_roundw
        case rel => exact ⟨j + 1, by omega, by go_num, HM9, HW9⟩
        case measure => simp [Go.RowKit.intOf]; omega
    · obtain rfl : j = nf := by omega
      have dj : decide ((j : Int) < (j : Int)) = false := by simp
      have HMF := Lib.hid (show ∀ t ∈ fr, myB t = true by have := HM.out; rwa [List.take_of_length_le (by omega)] at this)
      clear HM HW HB0
      have HFO := Lib.hid (front_ok HEC.out HMF.out (by omega) (by omega))
      obtain ⟨A5, c5, w55, cs55, hrun5, hrow5, hb55⟩ := rowT_new (HY.out.keep HB.out) (by omega) (Below.refl wr.heap.size wr)
      obtain ⟨A6, c6, w66, cs66, hrun6, hrow6, hb66⟩ := rowT_app hrow5 (HX.out.keep HB.out) (by omega) hb55
      have HL6 := Lib.hid (hrow6.lst hb66)
      have hlo6 : LoV ⟨sg, []⟩ (fr ++ cx) := ⟨HLO.out.sg, (fun m hm => by cases hm), fun t ht => by
        rcases List.mem_append.1 ht with ht | ht
        · exact HLF.out.cx t ht
        · exact HLO.out.cx t ht⟩
      have HLO6 := Lib.hid hlo6
      replace XP := Lib.hid (XP.out.keep hb66 XP.out.lt)
      replace XQ := Lib.hid (XQ.out.keep hb66 XQ.out.lt)
      replace HB := Lib.hid (HB.out.trans (hb66.mono HB.out.size))
      clear hrow5 hrow6 hb55 hb66 hlo6
      have b0 : w66.cell? ⟨w.heap.size, 0, none⟩ = some (.int .i64 kp) := XP.out.cell 0
      have b1 : w66.cell? ⟨w.heap.size, 1, none⟩ = some (.int .i64 hp) := XP.out.cell 1
      have b2 : w66.cell? ⟨w.heap.size, 2, none⟩ = some (.slice Ap np cp) := XP.out.cell 2
      have e0 : w66.cell? ⟨w.heap.size + 1, 0, none⟩ = some (.int .i64 kq) := XQ.out.cell 0
      have e1 : w66.cell? ⟨w.heap.size + 1, 1, none⟩ = some (.int .i64 hq) := XQ.out.cell 1
      have e2 : w66.cell? ⟨w.heap.size + 1, 2, none⟩ = some (.slice Aq nq cq) := XQ.out.cell 2
      go_wp2_with (at_builtin; first | (refine Lib.wpList_append_run _ rfl _ _ _ _ rfl _ _ rfl rfl _ _ hrun5 ?_; clear hrun5) | (refine Lib.wpList_append_run _ rfl _ _ _ _ rfl _ _ rfl rfl _ _ hrun6 ?_; clear hrun6))
      clear b0 b1 b2 e0 e1 e2
      have HC := Lib.hid (vCheckTermC ⟨sg, []⟩ (fr ++ cx) m a As ns cs none 0 0 A6 (j + nc) c6 _ _ w66 ⟨HS.out.keep HB.out, ml_nilZ _, HL6.out⟩ (Rd.keep HB.out _ _ HVP.out) (Rd.keep HB.out _ _ HVQ.out) HLO6.out (lo_lt HRM.out) (lo_lt HRA.out))
      rw [HFO.out] at HC
      refine HC.out.mono ?_
      rintro e w11 ⟨rfl, hb1⟩
      replace XP := Lib.hid (XP.out.keep hb1 XP.out.lt)
      replace XQ := Lib.hid (XQ.out.keep hb1 XQ.out.lt)
      replace HB := Lib.hid (HB.out.trans (hb1.mono HB.out.size))
      clear hb1 HC
      have b0 : w11.cell? ⟨w.heap.size, 0, none⟩ = some (.int .i64 kp) := XP.out.cell 0
      have b1 : w11.cell? ⟨w.heap.size, 1, none⟩ = some (.int .i64 hp) := XP.out.cell 1
      have b2 : w11.cell? ⟨w.heap.size, 2, none⟩ = some (.slice Ap np cp) := XP.out.cell 2
      have e0 : w11.cell? ⟨w.heap.size + 1, 0, none⟩ = some (.int .i64 kq) := XQ.out.cell 0
      have e1 : w11.cell? ⟨w.heap.size + 1, 1, none⟩ = some (.int .i64 hq) := XQ.out.cell 1
      have e2 : w11.cell? ⟨w.heap.size + 1, 2, none⟩ = some (.slice Aq nq cq) := XQ.out.cell 2
      by_cases hz : j = 0
      · have dz : ((j : Int) == 0) = true := by simpa using hz
        clear hz
        go_wp2_with fail
        go_ret
        exact ⟨rfl, HB.out⟩
      clear b0 b1 b2
      clear e0 e1 e2
      have dz : ((j : Int) == 0) = false := by simpa using hz
      obtain ⟨f, hf⟩ := at_of HY.out.len (show 0 < j by omega)
      obtain ⟨bf, o, kf, hhf, A2, n2, c2, rfl, c0, c1, c3, hr⟩ := (RdAt.keep HB.out (HY.out.at_ 0 f hf)).full
      have hmf := HMF.out f (List.mem_of_getElem? hf)
      have HBO := Lib.hid (behind_ok HGS.out HEC.out hmf (by omega))
      have HLF0 := Lib.hid (HLF.out.cx f (List.mem_of_getElem? hf))
      have HRF0 := Lib.hid hr
      have HXW := Lib.hid (HX.out.keep HB.out)
      rw [Nat.zero_mul, Nat.add_zero] at c0 c1 c3
      have hj1 : (0 : Int) < (j : Int) := by omega
      clear hf hr hz hmf
      have b0 : w11.cell? ⟨w.heap.size, 0, none⟩ = some (.int .i64 kp) := XP.out.cell 0
      have b1 : w11.cell? ⟨w.heap.size, 1, none⟩ = some (.int .i64 hp) := XP.out.cell 1
      have b2 : w11.cell? ⟨w.heap.size, 2, none⟩ = some (.slice Ap np cp) := XP.out.cell 2
      have e0 : w11.cell? ⟨w.heap.size + 1, 0, none⟩ = some (.int .i64 kq) := XQ.out.cell 0
      have e1 : w11.cell? ⟨w.heap.size + 1, 1, none⟩ = some (.int .i64 hq) := XQ.out.cell 1
      have e2 : w11.cell? ⟨w.heap.size + 1, 2, none⟩ = some (.slice Aq nq cq) := XQ.out.cell 2
      go_wp2_with fail
      clear b0 b1 b2
      clear e0 e1 e2
      have b0 : w11.cell? ⟨w.heap.size, 0, none⟩ = some (.int .i64 kp) := XP.out.cell 0
      have b1 : w11.cell? ⟨w.heap.size, 1, none⟩ = some (.int .i64 hp) := XP.out.cell 1
      have b2 : w11.cell? ⟨w.heap.size, 2, none⟩ = some (.slice Ap np cp) := XP.out.cell 2
      have e0 : w11.cell? ⟨w.heap.size + 1, 0, none⟩ = some (.int .i64 kq) := XQ.out.cell 0
      have e1 : w11.cell? ⟨w.heap.size + 1, 1, none⟩ = some (.int .i64 hq) := XQ.out.cell 1
      have e2 : w11.cell? ⟨w.heap.size + 1, 2, none⟩ = some (.slice Aq nq cq) := XQ.out.cell 2
      clear dz
      have HKS : Hid (∀ w' : World, Below w11.heap.size w11 w' → (fun w' => w'.cell? ⟨bf, o, none⟩ = some (.int .i64 kf) ∧ w'.cell? ⟨bf, o + 1, none⟩ = some (.int .i64 hhf) ∧ w'.cell? ⟨bf, o + 2, none⟩ = some (.slice A2 n2 c2)) w') := Lib.hid fun w' h => ⟨(h.cell (cell_lt c0)).trans c0, (h.cell (cell_lt c1)).trans c1, (h.cell (cell_lt c3)).trans c3⟩
      have hbd : Below w11.heap.size w11 w11.drew := (Below.refl _ w11).drew
      refine wp_region_held_drew (S := fun w' => w'.cell? ⟨bf, o, none⟩ = some (.int .i64 kf) ∧ w'.cell? ⟨bf, o + 1, none⟩ = some (.int .i64 hhf) ∧ w'.cell? ⟨bf, o + 2, none⟩ = some (.slice A2 n2 c2)) (by kernel_rfl) (HKS.out _ hbd) (fun hS => ?_)
      simp only [List.size_toArray, List.length_cons, List.length_nil, Nat.reduceAdd]
      refine wpAnyH_take (i := 0) (v := .slice Ac nc cc) rfl (by kernel_rfl) (by kernel_rfl) (by kernel_rfl) (fun _ _ _ h => h) (Or.inl ⟨by kernel_rfl, ?_⟩) hS ?_
      · intro w' hSw
        obtain ⟨s0, s1, s2⟩ := hSw
        go_simp
      try simp only [Act.put, List.getElem_toArray, List.getElem_cons_zero, List.setIfInBounds_toArray, List.set_cons_zero, List.set_cons_succ]
      refine wpAnyH_take (i := 2) (v := .slice (some ⟨bf, o, none⟩) j cf) rfl (by kernel_rfl) (by kernel_rfl) (by kernel_rfl) (fun _ _ _ h => h) (Or.inl ⟨by kernel_rfl, ?_⟩) hS ?_
      · intro w' hSw
        obtain ⟨s0, s1, s2⟩ := hSw
        go_simp
      try simp only [Act.put, List.getElem_toArray, List.getElem_cons_succ, List.getElem_cons_zero, List.setIfInBounds_toArray, List.set_cons_zero, List.set_cons_succ]
      refine wpAnyH_take (i := 3) (v := .pointer (some ⟨bf, o, none⟩)) rfl (by kernel_rfl) (by kernel_rfl) (by kernel_rfl) (fun _ _ _ h => h) (Or.inl ⟨by kernel_rfl, ?_⟩) hS ?_
      · intro w' hSw
        obtain ⟨s0, s1, s2⟩ := hSw
        have hjz : ¬ j = 0 := by omega
        go_simp
      try simp only [Act.put, List.getElem_toArray, List.getElem_cons_succ, List.getElem_cons_zero, List.setIfInBounds_toArray, List.set_cons_zero, List.set_cons_succ]
      refine wpAnyH_take (i := 4) (v := .agg #[.int .i64 kf, .int .i64 hhf, .slice A2 n2 c2]) rfl (by kernel_rfl) (by kernel_rfl) (by kernel_rfl) (fun _ _ _ h => h) (Or.inl ⟨by kernel_rfl, ?_⟩) hS ?_
      · intro w' hSw
        obtain ⟨s0, s1, s2⟩ := hSw
        go_simp
      try simp only [Act.put, List.getElem_toArray, List.getElem_cons_succ, List.getElem_cons_zero, List.setIfInBounds_toArray, List.set_cons_zero, List.set_cons_succ]
      refine wpAnyH_ready (rs := [1, 5]) (by kernel_rfl) (by simp) ?_
      refine AllReadyH.cons rfl (fun KN hK => ?_) (AllReadyH.cons rfl (fun KN hK => ?_) AllReadyH.nil)
      · obtain ⟨A5, c5, w55, cs55, hrun5, hrow5, hb55⟩ := rowT_new HXW.out (by omega) hbd
        have hb5 := hbd.trans (hb55.mono hbd.size)
        clear hb55
        refine Lib.wp_append_run _ (.const (.slice none 0 0)) (.tmp 87) 23 23 rfl _ _ rfl rfl _ _ hrun5 ?_
        refine hK.out _ _ (HKS.out _ hb5) (fun hS => ?_)
        clear hK KN
        try simp only [Act.put, List.getElem_toArray, List.getElem_cons_succ, List.getElem_cons_zero, List.setIfInBounds_toArray, List.set_cons_zero, List.set_cons_succ]
        refine wpAnyH_ready (rs := [5]) (by kernel_rfl) (by simp) ?_
        refine AllReadyH.cons rfl (fun KN hK => ?_) AllReadyH.nil
        go_simp
        have hbB : Below w11.heap.size w11 (w55.alloc (.cells #[.int .i64 kf, .int .i64 hhf, .slice A2 n2 c2] 32)) := hb5.alloc hb5.size _
        refine hK.out _ _ (HKS.out _ hbB) (fun hS => ?_)
        clear hK KN
        try simp only [Act.put, List.getElem_toArray, List.getElem_cons_succ, List.getElem_cons_zero, List.setIfInBounds_toArray, List.set_cons_zero, List.set_cons_succ]
        have hrowB := hrow5.kept (show Below w55.heap.size w55 (w55.alloc (.cells #[.int .i64 kf, .int .i64 hhf, .slice A2 n2 c2] 32)) from (Below.refl _ _).alloc (Nat.le_refl _) _)
        have zB : Box (w55.alloc (.cells #[.int .i64 kf, .int .i64 hhf, .slice A2 n2 c2] 32)) w55.heap.size 32 #[.int .i64 kf, .int .i64 hhf, .slice A2 n2 c2] := Box.new _ _ _
        clear hrow5 hb5 hrun5
        generalize w55.alloc (.cells #[.int .i64 kf, .int .i64 hhf, .slice A2 n2 c2] 32) = w66 at *
        generalize w55.heap.size = P6 at *
        refine wpAnyH_ready (rs := [6]) (by kernel_rfl) (by simp) ?_
        refine AllReadyH.cons rfl (fun KN hK => ?_) AllReadyH.nil
        obtain ⟨g7, cap7, w77, cs77, hrun7, hr7, hb7, _, _⟩ := rowT_one hrowB zB HRF0.out (by omega) hbB
        have hcl7 := hr7.lst hb7
        refine Lib.wp_append_run _ (.tmp 88) (.tmp 92) 23 23 rfl _ _ rfl rfl _ _ hrun7 ?_
        refine hK.out _ _ (HKS.out _ hb7) (fun hS => ?_)
        clear hK KN
        try simp only [Act.put, List.getElem_toArray, List.getElem_cons_succ, List.getElem_cons_zero, List.setIfInBounds_toArray, List.set_cons_zero, List.set_cons_succ]
        clear hr7 hbB hrowB zB hrun7
        refine wpAnyH_take (i := 7) (v := .slice (some ⟨g7, 0, none⟩) (nc + 1) cap7) rfl (by kernel_rfl) (by kernel_rfl) (by kernel_rfl) (fun _ _ _ h => h) (Or.inl ⟨by kernel_rfl, ?_⟩) hS ?_
        · intro w' hSw
          obtain ⟨s0, s1, s2⟩ := hSw
          go_simp
        try simp only [Act.put, List.getElem_toArray, List.getElem_cons_succ, List.getElem_cons_zero, List.setIfInBounds_toArray, List.set_cons_zero, List.set_cons_succ]
        refine wpAnyH_done (by kernel_rfl) ?_ _
        try simp only [List.setIfInBounds_toArray]
        try simp only [List.getElem_toArray, List.getElem_cons_succ, List.getElem_cons_zero, List.setIfInBounds_toArray, List.set_cons_zero, List.set_cons_succ]
        replace XP := Lib.hid (XP.out.keep hb7 XP.out.lt)
        replace XQ := Lib.hid (XQ.out.keep hb7 XQ.out.lt)
        replace HB := Lib.hid (HB.out.trans (hb7.mono HB.out.size))
        have HL7 := Lib.hid hcl7
        have HLO7 := Lib.hid (show LoV ⟨sg, []⟩ (cx ++ [f]) from ⟨HLO.out.sg, (fun m hm => by cases hm), fun t ht hm => by
          rcases List.mem_append.1 ht with ht | ht
          · exact HLO.out.cx t ht hm
          · rw [List.mem_singleton.1 ht] at hm ⊢; exact HLF0.out hm⟩)
        obtain ⟨hmm, hma, hlm, hla⟩ : myB m = true ∧ myB a = true ∧ okT loV m ∧ okT loV a := by
          have := ((mayV_iff _ _ _).1 (ckT_okZ HEC.out).1).2.2.1
          exact ⟨this m (by simp), this a (by simp), lo_lt HRM.out (this m (by simp)), lo_lt HRA.out (this a (by simp))⟩
        have hum := upV_eq (by unfold loV; omega) (⟨hmm, hlm⟩ : BdV loV m) (b := 1) (by omega)
        have hua := upV_eq (by unfold loV; omega) (⟨hma, hla⟩ : BdV loV a) (b := 1) (by omega)
        have HUM := Lib.hid (fun (W' : World) (h' : Below w77.heap.size w77 W') => upC m 1 0 _ W' (Rd.keep (HB.out.trans (h'.mono HB.out.size)) _ _ HVP.out) (by have := ((myB_iff m).1 hmm).2.1; omega))
        have HUA := Lib.hid (fun (W' : World) (h' : Below w77.heap.size w77 W') => upC a 1 0 _ W' (Rd.keep (HB.out.trans (h'.mono HB.out.size)) _ _ HVQ.out) (by have := ((myB_iff a).1 hma).2.1; omega))
        rw [hum] at HUM
        rw [hua] at HUA
        have HL2 := Lib.hid (okT_mono (by unfold loV; omega : loV + 1 ≤ 2 * loV) _ (okT_up (b := 1) (f := 0) (by omega) a hla))
        clear hum hua hmm hma hlm hla hb7 hcl7 hS HKS hbd c0 c1 c3
        have b0 : w77.cell? ⟨w.heap.size, 0, none⟩ = some (.int .i64 kp) := XP.out.cell 0
        have b1 : w77.cell? ⟨w.heap.size, 1, none⟩ = some (.int .i64 hp) := XP.out.cell 1
        have b2 : w77.cell? ⟨w.heap.size, 2, none⟩ = some (.slice Ap np cp) := XP.out.cell 2
        have e0 : w77.cell? ⟨w.heap.size + 1, 0, none⟩ = some (.int .i64 kq) := XQ.out.cell 0
        have e1 : w77.cell? ⟨w.heap.size + 1, 1, none⟩ = some (.int .i64 hq) := XQ.out.cell 1
        have e2 : w77.cell? ⟨w.heap.size + 1, 2, none⟩ = some (.slice Aq nq cq) := XQ.out.cell 2
        go_wp2_with fail
        clear b0 b1 b2
        clear e0 e1 e2
        have b0 : w77.cell? ⟨w.heap.size, 0, none⟩ = some (.int .i64 kp) := XP.out.cell 0
        have b1 : w77.cell? ⟨w.heap.size, 1, none⟩ = some (.int .i64 hp) := XP.out.cell 1
        have b2 : w77.cell? ⟨w.heap.size, 2, none⟩ = some (.slice Ap np cp) := XP.out.cell 2
        have e0 : w77.cell? ⟨w.heap.size + 1, 0, none⟩ = some (.int .i64 kq) := XQ.out.cell 0
        have e1 : w77.cell? ⟨w.heap.size + 1, 1, none⟩ = some (.int .i64 hq) := XQ.out.cell 1
        have e2 : w77.cell? ⟨w.heap.size + 1, 2, none⟩ = some (.slice Aq nq cq) := XQ.out.cell 2
        have HKS : Hid (∀ w' : World, Below w77.heap.size w77 w' → (fun w' => w'.cell? ⟨w.heap.size, 0, none⟩ = some (.int .i64 kp) ∧ w'.cell? ⟨w.heap.size, 1, none⟩ = some (.int .i64 hp) ∧ w'.cell? ⟨w.heap.size, 2, none⟩ = some (.slice Ap np cp) ∧ w'.cell? ⟨w.heap.size + 1, 0, none⟩ = some (.int .i64 kq) ∧ w'.cell? ⟨w.heap.size + 1, 1, none⟩ = some (.int .i64 hq) ∧ w'.cell? ⟨w.heap.size + 1, 2, none⟩ = some (.slice Aq nq cq)) w') := Lib.hid fun w' h => ⟨(h.cell (cell_lt b0)).trans b0, (h.cell (cell_lt b1)).trans b1, (h.cell (cell_lt b2)).trans b2, (h.cell (cell_lt e0)).trans e0, (h.cell (cell_lt e1)).trans e1, (h.cell (cell_lt e2)).trans e2⟩
        have hbd : Below w77.heap.size w77 w77.drew := (Below.refl _ w77).drew
        refine wp_region_held_drew (S := fun w' => w'.cell? ⟨w.heap.size, 0, none⟩ = some (.int .i64 kp) ∧ w'.cell? ⟨w.heap.size, 1, none⟩ = some (.int .i64 hp) ∧ w'.cell? ⟨w.heap.size, 2, none⟩ = some (.slice Ap np cp) ∧ w'.cell? ⟨w.heap.size + 1, 0, none⟩ = some (.int .i64 kq) ∧ w'.cell? ⟨w.heap.size + 1, 1, none⟩ = some (.int .i64 hq) ∧ w'.cell? ⟨w.heap.size + 1, 2, none⟩ = some (.slice Aq nq cq)) (by kernel_rfl) (HKS.out _ hbd) (fun hS => ?_)
        simp only [List.size_toArray, List.length_cons, List.length_nil, Nat.reduceAdd]
        refine wpAnyH_take (i := 0) (v := .slice As ns cs) rfl (by kernel_rfl) (by kernel_rfl) (by kernel_rfl) (fun _ _ _ h => h) (Or.inl ⟨by kernel_rfl, ?_⟩) hS ?_
        · intro w' hSw
          obtain ⟨s0, s1, s2, s3, s4, s5⟩ := hSw
          go_simp
        try simp only [Act.put, List.getElem_toArray, List.getElem_cons_zero, List.setIfInBounds_toArray, List.set_cons_zero, List.set_cons_succ]
        refine wpAnyH_take (i := 1) (v := .slice (some ⟨g7, 0, none⟩) (nc + 1) cap7) rfl (by kernel_rfl) (by kernel_rfl) (by kernel_rfl) (fun _ _ _ h => h) (Or.inl ⟨by kernel_rfl, ?_⟩) hS ?_
        · intro w' hSw
          obtain ⟨s0, s1, s2, s3, s4, s5⟩ := hSw
          go_simp
        try simp only [Act.put, List.getElem_toArray, List.getElem_cons_succ, List.getElem_cons_zero, List.setIfInBounds_toArray, List.set_cons_zero, List.set_cons_succ]
        refine wpAnyH_take (i := 2) (v := .agg #[.int .i64 kp, .int .i64 hp, .slice Ap np cp]) rfl (by kernel_rfl) (by kernel_rfl) (by kernel_rfl) (fun _ _ _ h => h) (Or.inl ⟨by kernel_rfl, ?_⟩) hS ?_
        · intro w' hSw
          obtain ⟨s0, s1, s2, s3, s4, s5⟩ := hSw
          go_simp
        try simp only [Act.put, List.getElem_toArray, List.getElem_cons_succ, List.getElem_cons_zero, List.setIfInBounds_toArray, List.set_cons_zero, List.set_cons_succ]
        refine wpAnyH_take (i := 4) (v := .agg #[.int .i64 kq, .int .i64 hq, .slice Aq nq cq]) rfl (by kernel_rfl) (by kernel_rfl) (by kernel_rfl) (fun _ _ _ h => h) (Or.inl ⟨by kernel_rfl, ?_⟩) hS ?_
        · intro w' hSw
          obtain ⟨s0, s1, s2, s3, s4, s5⟩ := hSw
          go_simp
        try simp only [Act.put, List.getElem_toArray, List.getElem_cons_succ, List.getElem_cons_zero, List.setIfInBounds_toArray, List.set_cons_zero, List.set_cons_succ]
        refine wpAnyH_ready (rs := [3]) (by kernel_rfl) (by simp) ?_
        refine AllReadyH.cons rfl (fun KN hK => ?_) AllReadyH.nil
        go_simp
        refine (HUM.out _ hbd).mono ?_
        rintro e v1 ⟨v, rfl, ho, hb6⟩
        obtain ⟨ku, hu, Au, nu, cu, rfl⟩ := ho.full
        replace hbd : Below w77.heap.size w77 v1 := hbd.trans (hb6.mono hbd.size)
        have hru := RdF.rd _ _ ho.rdF
        clear ho hb6
        refine hK.out _ _ (HKS.out _ hbd) (fun hS => ?_)
        clear hK KN
        try simp only [Act.put, List.getElem_toArray, List.getElem_cons_succ, List.getElem_cons_zero, List.setIfInBounds_toArray, List.set_cons_zero, List.set_cons_succ]
        refine wpAnyH_ready (rs := [5]) (by kernel_rfl) (by simp) ?_
        refine AllReadyH.cons rfl (fun KN hK => ?_) AllReadyH.nil
        go_simp
        refine (HUA.out _ hbd).mono ?_
        rintro e v2 ⟨v, rfl, ho, hb6⟩
        obtain ⟨kz, hz, Az, nz, cz, rfl⟩ := ho.full
        replace hbd : Below w77.heap.size w77 v2 := hbd.trans (hb6.mono hbd.size)
        replace hru := Rd.keep hb6 _ _ hru
        have hrx := RdF.rd _ _ ho.rdF
        clear ho hb6
        refine hK.out _ _ (HKS.out _ hbd) (fun hS => ?_)
        clear hK KN
        try simp only [Act.put, List.getElem_toArray, List.getElem_cons_succ, List.getElem_cons_zero, List.setIfInBounds_toArray, List.set_cons_zero, List.set_cons_succ]
        refine wpAnyH_ready (rs := [6]) (by kernel_rfl) (by simp) ?_
        refine AllReadyH.cons rfl (fun KN hK => ?_) AllReadyH.nil
        go_simp
        have HC := Lib.hid (vCheckTermW ⟨sg, []⟩ (cx ++ [f]) (upT 1 m 0) (upT 1 a 0) As ns cs none 0 0 _ (nc + 1) cap7 _ _ v2 ⟨HS.out.keep (HB.out.trans (hbd.mono HB.out.size)), ml_nilZ _, HL7.out.keep hbd⟩ hru hrx HLO7.out (.inl rfl) HL2.out)
        rw [HBO.out] at HC
        refine HC.out.mono ?_
        rintro e v3 ⟨rfl, hb6⟩
        replace hbd : Below w77.heap.size w77 v3 := hbd.trans (hb6.mono hbd.size)
        clear hb6 HC
        refine hK.out _ _ (HKS.out _ hbd) (fun hS => ?_)
        clear hK KN
        try simp only [Act.put, List.getElem_toArray, List.getElem_cons_succ, List.getElem_cons_zero, List.setIfInBounds_toArray, List.set_cons_zero, List.set_cons_succ]
        refine wpAnyH_take (i := 7) (v := .bool true) rfl (by kernel_rfl) (by kernel_rfl) (by kernel_rfl) (fun _ _ _ h => h) (Or.inl ⟨by kernel_rfl, ?_⟩) hS ?_
        · intro w' hSw
          obtain ⟨s0, s1, s2, s3, s4, s5⟩ := hSw
          go_simp
        try simp only [Act.put, List.getElem_toArray, List.getElem_cons_succ, List.getElem_cons_zero, List.setIfInBounds_toArray, List.set_cons_zero, List.set_cons_succ]
        refine wpAnyH_take (i := 8) (v := .bool true) rfl (by kernel_rfl) (by kernel_rfl) (by kernel_rfl) (fun _ _ _ h => h) (Or.inl ⟨by kernel_rfl, ?_⟩) hS ?_
        · intro w' hSw
          obtain ⟨s0, s1, s2, s3, s4, s5⟩ := hSw
          go_simp
        try simp only [Act.put, List.getElem_toArray, List.getElem_cons_succ, List.getElem_cons_zero, List.setIfInBounds_toArray, List.set_cons_zero, List.set_cons_succ]
        refine wpAnyH_done (by kernel_rfl) ?_ _
        try simp only [List.setIfInBounds_toArray]
        try simp only [List.getElem_toArray, List.getElem_cons_succ, List.getElem_cons_zero, List.setIfInBounds_toArray, List.set_cons_zero, List.set_cons_succ]
        have HBF := Lib.hid (HB.out.trans (hbd.mono HB.out.size))
        clear hS HKS hbd hru hrx
        go_wp2_with fail
        go_ret
        exact ⟨rfl, HBF.out⟩

      · go_simp
        have hb5 : Below w11.heap.size w11 ((w11.alloc (.cells #[.int .i64 kf, .int .i64 hhf, .slice A2 n2 c2] 32)).drew) := ((Below.refl _ w11).alloc (Nat.le_refl _) _).drew
        refine hK.out _ _ (HKS.out _ hb5) (fun hS => ?_)
        clear hK KN
        try simp only [Act.put, List.getElem_toArray, List.getElem_cons_succ, List.getElem_cons_zero, List.setIfInBounds_toArray, List.set_cons_zero, List.set_cons_succ]
        have z5 : Box ((w11.alloc (.cells #[.int .i64 kf, .int .i64 hhf, .slice A2 n2 c2] 32)).drew) w11.heap.size 32 #[.int .i64 kf, .int .i64 hhf, .slice A2 n2 c2] := Box.drewI (Box.new _ _ _)
        obtain ⟨P6, hP6⟩ : ∃ p, w11.heap.size = p := ⟨_, rfl⟩
        rw [hP6] at z5
        try rw [hP6]
        clear hP6
        generalize (w11.alloc (.cells #[.int .i64 kf, .int .i64 hhf, .slice A2 n2 c2] 32)).drew = w55 at *
        refine wpAnyH_ready (rs := [1]) (by kernel_rfl) (by simp) ?_
        refine AllReadyH.cons rfl (fun KN hK => ?_) AllReadyH.nil
        obtain ⟨A5, c5, w66, cs55, hrun5, hrowB, hb66⟩ := rowT_new HXW.out (by omega) hb5
        have hbB := hb5.trans (hb66.mono hb5.size)
        have zB : Box w66 P6 32 #[.int .i64 kf, .int .i64 hhf, .slice A2 n2 c2] := z5.keep hb66 z5.lt
        clear hb66
        refine Lib.wp_append_run _ (.const (.slice none 0 0)) (.tmp 87) 23 23 rfl _ _ rfl rfl _ _ hrun5 ?_
        refine hK.out _ _ (HKS.out _ hbB) (fun hS => ?_)
        clear hK KN
        try simp only [Act.put, List.getElem_toArray, List.getElem_cons_succ, List.getElem_cons_zero, List.setIfInBounds_toArray, List.set_cons_zero, List.set_cons_succ]
        clear hb5 z5 hrun5
        refine wpAnyH_ready (rs := [6]) (by kernel_rfl) (by simp) ?_
        refine AllReadyH.cons rfl (fun KN hK => ?_) AllReadyH.nil
        obtain ⟨g7, cap7, w77, cs77, hrun7, hr7, hb7, _, _⟩ := rowT_one hrowB zB HRF0.out (by omega) hbB
        have hcl7 := hr7.lst hb7
        refine Lib.wp_append_run _ (.tmp 88) (.tmp 92) 23 23 rfl _ _ rfl rfl _ _ hrun7 ?_
        refine hK.out _ _ (HKS.out _ hb7) (fun hS => ?_)
        clear hK KN
        try simp only [Act.put, List.getElem_toArray, List.getElem_cons_succ, List.getElem_cons_zero, List.setIfInBounds_toArray, List.set_cons_zero, List.set_cons_succ]
        clear hr7 hbB hrowB zB hrun7
        refine wpAnyH_take (i := 7) (v := .slice (some ⟨g7, 0, none⟩) (nc + 1) cap7) rfl (by kernel_rfl) (by kernel_rfl) (by kernel_rfl) (fun _ _ _ h => h) (Or.inl ⟨by kernel_rfl, ?_⟩) hS ?_
        · intro w' hSw
          obtain ⟨s0, s1, s2⟩ := hSw
          go_simp
        try simp only [Act.put, List.getElem_toArray, List.getElem_cons_succ, List.getElem_cons_zero, List.setIfInBounds_toArray, List.set_cons_zero, List.set_cons_succ]
        refine wpAnyH_done (by kernel_rfl) ?_ _
        try simp only [List.setIfInBounds_toArray]
        try simp only [List.getElem_toArray, List.getElem_cons_succ, List.getElem_cons_zero, List.setIfInBounds_toArray, List.set_cons_zero, List.set_cons_succ]
        replace XP := Lib.hid (XP.out.keep hb7 XP.out.lt)
        replace XQ := Lib.hid (XQ.out.keep hb7 XQ.out.lt)
        replace HB := Lib.hid (HB.out.trans (hb7.mono HB.out.size))
        have HL7 := Lib.hid hcl7
        have HLO7 := Lib.hid (show LoV ⟨sg, []⟩ (cx ++ [f]) from ⟨HLO.out.sg, (fun m hm => by cases hm), fun t ht hm => by
          rcases List.mem_append.1 ht with ht | ht
          · exact HLO.out.cx t ht hm
          · rw [List.mem_singleton.1 ht] at hm ⊢; exact HLF0.out hm⟩)
        obtain ⟨hmm, hma, hlm, hla⟩ : myB m = true ∧ myB a = true ∧ okT loV m ∧ okT loV a := by
          have := ((mayV_iff _ _ _).1 (ckT_okZ HEC.out).1).2.2.1
          exact ⟨this m (by simp), this a (by simp), lo_lt HRM.out (this m (by simp)), lo_lt HRA.out (this a (by simp))⟩
        have hum := upV_eq (by unfold loV; omega) (⟨hmm, hlm⟩ : BdV loV m) (b := 1) (by omega)
        have hua := upV_eq (by unfold loV; omega) (⟨hma, hla⟩ : BdV loV a) (b := 1) (by omega)
        have HUM := Lib.hid (fun (W' : World) (h' : Below w77.heap.size w77 W') => upC m 1 0 _ W' (Rd.keep (HB.out.trans (h'.mono HB.out.size)) _ _ HVP.out) (by have := ((myB_iff m).1 hmm).2.1; omega))
        have HUA := Lib.hid (fun (W' : World) (h' : Below w77.heap.size w77 W') => upC a 1 0 _ W' (Rd.keep (HB.out.trans (h'.mono HB.out.size)) _ _ HVQ.out) (by have := ((myB_iff a).1 hma).2.1; omega))
        rw [hum] at HUM
        rw [hua] at HUA
        have HL2 := Lib.hid (okT_mono (by unfold loV; omega : loV + 1 ≤ 2 * loV) _ (okT_up (b := 1) (f := 0) (by omega) a hla))
        clear hum hua hmm hma hlm hla hb7 hcl7 hS HKS hbd c0 c1 c3
        have b0 : w77.cell? ⟨w.heap.size, 0, none⟩ = some (.int .i64 kp) := XP.out.cell 0
        have b1 : w77.cell? ⟨w.heap.size, 1, none⟩ = some (.int .i64 hp) := XP.out.cell 1
        have b2 : w77.cell? ⟨w.heap.size, 2, none⟩ = some (.slice Ap np cp) := XP.out.cell 2
        have e0 : w77.cell? ⟨w.heap.size + 1, 0, none⟩ = some (.int .i64 kq) := XQ.out.cell 0
        have e1 : w77.cell? ⟨w.heap.size + 1, 1, none⟩ = some (.int .i64 hq) := XQ.out.cell 1
        have e2 : w77.cell? ⟨w.heap.size + 1, 2, none⟩ = some (.slice Aq nq cq) := XQ.out.cell 2
        go_wp2_with fail
        clear b0 b1 b2
        clear e0 e1 e2
        have b0 : w77.cell? ⟨w.heap.size, 0, none⟩ = some (.int .i64 kp) := XP.out.cell 0
        have b1 : w77.cell? ⟨w.heap.size, 1, none⟩ = some (.int .i64 hp) := XP.out.cell 1
        have b2 : w77.cell? ⟨w.heap.size, 2, none⟩ = some (.slice Ap np cp) := XP.out.cell 2
        have e0 : w77.cell? ⟨w.heap.size + 1, 0, none⟩ = some (.int .i64 kq) := XQ.out.cell 0
        have e1 : w77.cell? ⟨w.heap.size + 1, 1, none⟩ = some (.int .i64 hq) := XQ.out.cell 1
        have e2 : w77.cell? ⟨w.heap.size + 1, 2, none⟩ = some (.slice Aq nq cq) := XQ.out.cell 2
        have HKS : Hid (∀ w' : World, Below w77.heap.size w77 w' → (fun w' => w'.cell? ⟨w.heap.size, 0, none⟩ = some (.int .i64 kp) ∧ w'.cell? ⟨w.heap.size, 1, none⟩ = some (.int .i64 hp) ∧ w'.cell? ⟨w.heap.size, 2, none⟩ = some (.slice Ap np cp) ∧ w'.cell? ⟨w.heap.size + 1, 0, none⟩ = some (.int .i64 kq) ∧ w'.cell? ⟨w.heap.size + 1, 1, none⟩ = some (.int .i64 hq) ∧ w'.cell? ⟨w.heap.size + 1, 2, none⟩ = some (.slice Aq nq cq)) w') := Lib.hid fun w' h => ⟨(h.cell (cell_lt b0)).trans b0, (h.cell (cell_lt b1)).trans b1, (h.cell (cell_lt b2)).trans b2, (h.cell (cell_lt e0)).trans e0, (h.cell (cell_lt e1)).trans e1, (h.cell (cell_lt e2)).trans e2⟩
        have hbd : Below w77.heap.size w77 w77.drew := (Below.refl _ w77).drew
        refine wp_region_held_drew (S := fun w' => w'.cell? ⟨w.heap.size, 0, none⟩ = some (.int .i64 kp) ∧ w'.cell? ⟨w.heap.size, 1, none⟩ = some (.int .i64 hp) ∧ w'.cell? ⟨w.heap.size, 2, none⟩ = some (.slice Ap np cp) ∧ w'.cell? ⟨w.heap.size + 1, 0, none⟩ = some (.int .i64 kq) ∧ w'.cell? ⟨w.heap.size + 1, 1, none⟩ = some (.int .i64 hq) ∧ w'.cell? ⟨w.heap.size + 1, 2, none⟩ = some (.slice Aq nq cq)) (by kernel_rfl) (HKS.out _ hbd) (fun hS => ?_)
        simp only [List.size_toArray, List.length_cons, List.length_nil, Nat.reduceAdd]
        refine wpAnyH_take (i := 0) (v := .slice As ns cs) rfl (by kernel_rfl) (by kernel_rfl) (by kernel_rfl) (fun _ _ _ h => h) (Or.inl ⟨by kernel_rfl, ?_⟩) hS ?_
        · intro w' hSw
          obtain ⟨s0, s1, s2, s3, s4, s5⟩ := hSw
          go_simp
        try simp only [Act.put, List.getElem_toArray, List.getElem_cons_zero, List.setIfInBounds_toArray, List.set_cons_zero, List.set_cons_succ]
        refine wpAnyH_take (i := 1) (v := .slice (some ⟨g7, 0, none⟩) (nc + 1) cap7) rfl (by kernel_rfl) (by kernel_rfl) (by kernel_rfl) (fun _ _ _ h => h) (Or.inl ⟨by kernel_rfl, ?_⟩) hS ?_
        · intro w' hSw
          obtain ⟨s0, s1, s2, s3, s4, s5⟩ := hSw
          go_simp
        try simp only [Act.put, List.getElem_toArray, List.getElem_cons_succ, List.getElem_cons_zero, List.setIfInBounds_toArray, List.set_cons_zero, List.set_cons_succ]
        refine wpAnyH_take (i := 2) (v := .agg #[.int .i64 kp, .int .i64 hp, .slice Ap np cp]) rfl (by kernel_rfl) (by kernel_rfl) (by kernel_rfl) (fun _ _ _ h => h) (Or.inl ⟨by kernel_rfl, ?_⟩) hS ?_
        · intro w' hSw
          obtain ⟨s0, s1, s2, s3, s4, s5⟩ := hSw
          go_simp
        try simp only [Act.put, List.getElem_toArray, List.getElem_cons_succ, List.getElem_cons_zero, List.setIfInBounds_toArray, List.set_cons_zero, List.set_cons_succ]
        refine wpAnyH_take (i := 4) (v := .agg #[.int .i64 kq, .int .i64 hq, .slice Aq nq cq]) rfl (by kernel_rfl) (by kernel_rfl) (by kernel_rfl) (fun _ _ _ h => h) (Or.inl ⟨by kernel_rfl, ?_⟩) hS ?_
        · intro w' hSw
          obtain ⟨s0, s1, s2, s3, s4, s5⟩ := hSw
          go_simp
        try simp only [Act.put, List.getElem_toArray, List.getElem_cons_succ, List.getElem_cons_zero, List.setIfInBounds_toArray, List.set_cons_zero, List.set_cons_succ]
        refine wpAnyH_ready (rs := [3]) (by kernel_rfl) (by simp) ?_
        refine AllReadyH.cons rfl (fun KN hK => ?_) AllReadyH.nil
        go_simp
        refine (HUM.out _ hbd).mono ?_
        rintro e v1 ⟨v, rfl, ho, hb6⟩
        obtain ⟨ku, hu, Au, nu, cu, rfl⟩ := ho.full
        replace hbd : Below w77.heap.size w77 v1 := hbd.trans (hb6.mono hbd.size)
        have hru := RdF.rd _ _ ho.rdF
        clear ho hb6
        refine hK.out _ _ (HKS.out _ hbd) (fun hS => ?_)
        clear hK KN
        try simp only [Act.put, List.getElem_toArray, List.getElem_cons_succ, List.getElem_cons_zero, List.setIfInBounds_toArray, List.set_cons_zero, List.set_cons_succ]
        refine wpAnyH_ready (rs := [5]) (by kernel_rfl) (by simp) ?_
        refine AllReadyH.cons rfl (fun KN hK => ?_) AllReadyH.nil
        go_simp
        refine (HUA.out _ hbd).mono ?_
        rintro e v2 ⟨v, rfl, ho, hb6⟩
        obtain ⟨kz, hz, Az, nz, cz, rfl⟩ := ho.full
        replace hbd : Below w77.heap.size w77 v2 := hbd.trans (hb6.mono hbd.size)
        replace hru := Rd.keep hb6 _ _ hru
        have hrx := RdF.rd _ _ ho.rdF
        clear ho hb6
        refine hK.out _ _ (HKS.out _ hbd) (fun hS => ?_)
        clear hK KN
        try simp only [Act.put, List.getElem_toArray, List.getElem_cons_succ, List.getElem_cons_zero, List.setIfInBounds_toArray, List.set_cons_zero, List.set_cons_succ]
        refine wpAnyH_ready (rs := [6]) (by kernel_rfl) (by simp) ?_
        refine AllReadyH.cons rfl (fun KN hK => ?_) AllReadyH.nil
        go_simp
        have HC := Lib.hid (vCheckTermW ⟨sg, []⟩ (cx ++ [f]) (upT 1 m 0) (upT 1 a 0) As ns cs none 0 0 _ (nc + 1) cap7 _ _ v2 ⟨HS.out.keep (HB.out.trans (hbd.mono HB.out.size)), ml_nilZ _, HL7.out.keep hbd⟩ hru hrx HLO7.out (.inl rfl) HL2.out)
        rw [HBO.out] at HC
        refine HC.out.mono ?_
        rintro e v3 ⟨rfl, hb6⟩
        replace hbd : Below w77.heap.size w77 v3 := hbd.trans (hb6.mono hbd.size)
        clear hb6 HC
        refine hK.out _ _ (HKS.out _ hbd) (fun hS => ?_)
        clear hK KN
        try simp only [Act.put, List.getElem_toArray, List.getElem_cons_succ, List.getElem_cons_zero, List.setIfInBounds_toArray, List.set_cons_zero, List.set_cons_succ]
        refine wpAnyH_take (i := 7) (v := .bool true) rfl (by kernel_rfl) (by kernel_rfl) (by kernel_rfl) (fun _ _ _ h => h) (Or.inl ⟨by kernel_rfl, ?_⟩) hS ?_
        · intro w' hSw
          obtain ⟨s0, s1, s2, s3, s4, s5⟩ := hSw
          go_simp
        try simp only [Act.put, List.getElem_toArray, List.getElem_cons_succ, List.getElem_cons_zero, List.setIfInBounds_toArray, List.set_cons_zero, List.set_cons_succ]
        refine wpAnyH_take (i := 8) (v := .bool true) rfl (by kernel_rfl) (by kernel_rfl) (by kernel_rfl) (fun _ _ _ h => h) (Or.inl ⟨by kernel_rfl, ?_⟩) hS ?_
        · intro w' hSw
          obtain ⟨s0, s1, s2, s3, s4, s5⟩ := hSw
          go_simp
        try simp only [Act.put, List.getElem_toArray, List.getElem_cons_succ, List.getElem_cons_zero, List.setIfInBounds_toArray, List.set_cons_zero, List.set_cons_succ]
        refine wpAnyH_done (by kernel_rfl) ?_ _
        try simp only [List.setIfInBounds_toArray]
        try simp only [List.getElem_toArray, List.getElem_cons_succ, List.getElem_cons_zero, List.setIfInBounds_toArray, List.set_cons_zero, List.set_cons_succ]
        have HBF := Lib.hid (HB.out.trans (hbd.mono HB.out.size))
        clear hS HKS hbd hru hrx
        go_wp2_with fail
        go_ret
        exact ⟨rfl, HBF.out⟩

end Go.Proofs.Ytpigmefjcklpkaa
