/-
  Texts of one proof, put together. No statement is proved here.
-/
import Derived.Test.YtdbdeppchlkacaaBr
import Derived.Test.YtdbdeppchlkacaaBq
import Derived.Test.YtdbdeppchlkacaaXv
import Derived.Test.YtdbdeppchlkacaaBp
import Derived.Test.YtdbdeppchlkacaaBx
import Derived.Test.YtdbdeppchlkacaaOp
import Derived.Test.YtdbdeppchlkacaaXn
import Derived.Test.YtdbdeppchlkacaaSa

/-
  A row of declarations that grows; contract of package parse's decl. No statement is proved here.
-/
namespace Go.Proofs.Ytdbdeppchlkacaa
open Go.ChangeShapes Go.WideShapes Go.ChangeAt Go.RowKit
set_option linter.unusedVariables false


theorem infoDecl : (Try.prog.info? 33).map (fun i => (i.zero, i.size, i.bytes)) = some (some (.agg #[.string ⟨#[]⟩, .int .i64 0, .int .i64 0, .slice none 0 0]), 4, 56) := by kernel_rfl
theorem info_decl : ∃ i, Try.prog.info? 33 = some i ∧ i.zero = some (.agg #[.string ⟨#[]⟩, .int .i64 0, .int .i64 0, .slice none 0 0]) ∧ i.size = 4 ∧ i.bytes = 56 := by
  have hh := infoDecl
  cases hi : Try.prog.info? 33 with
  | none => rw [hi] at hh; cases hh
  | some i =>
    rw [hi] at hh
    simp at hh
    exact ⟨i, rfl, hh.1, hh.2.1, hh.2.2⟩
/-- a row of declarations of a call's own -/
structure DRow (R lo : Nat) (w : World) (A : Option Addr) (n c : Nat) (ds : List (ByteArray × T)) (cs : List Value) : Prop where
  own : w.ownsRow lo 33 4 (.slice A n c) n cs
  len : ds.length = n
  kids : ∀ i d, ds[i]? = some d → ∃ k h A' n' c', cs[i * 4]? = some (.string d.1) ∧ cs[i * 4 + 1]? = some (.int .i64 k) ∧ cs[i * 4 + 2]? = some (.int .i64 h) ∧ cs[i * 4 + 3]? = some (.slice A' n' c') ∧
    RdF (fun q => R < q ∧ some q ≠ (Value.slice A n c).ownBlock) w d.2 (.agg #[.int .i64 k, .int .i64 h, .slice A' n' c'])
theorem DRow.nil (R lo : Nat) (w : World) : DRow R lo w none 0 0 [] [] := ⟨World.ownsRow_nil _ _ _ _, rfl, fun i d hd => by simp at hd⟩
theorem DRow.cap {R lo : Nat} {w : World} {A : Option Addr} {n c : Nat} {ds : List (ByteArray × T)} {cs : List Value} (h : DRow R lo w A n c ds cs) : n ≤ c ∧ c ≤ maxLen := by
  rcases h.own.2 with ⟨e, _⟩ | ⟨g, cap, cur, e, _, _, h1, h2, _⟩
  · cases e; exact ⟨Nat.le_refl _, Nat.zero_le _⟩
  · cases e; exact ⟨h1, h2⟩
theorem DRow.mv {R lo : Nat} {w w' : World} {A : Option Addr} {n c : Nat} {ds : List (ByteArray × T)} {cs : List Value} (h : DRow R lo w A n c ds cs) (f : ∀ q, R < q → q < w.heap.size → w'.heap[q]? = w.heap[q]?) (hR : R < lo) : DRow R lo w' A n c ds cs := by
  refine ⟨⟨h.own.1, ?_⟩, h.len, fun i d hd => ?_⟩
  · rcases h.own.2 with h1 | ⟨g, cap, cur, e, hb, hg, h1⟩
    · exact .inl h1
    · have hlt := (h.own.lt g (by rw [e]; rfl)).2
      exact .inr ⟨g, cap, cur, e, hb, (f g (by omega) hlt).trans hg, h1⟩
  · obtain ⟨k, g, A', n', c', e0, e1, e2, e3, hr⟩ := h.kids i d hd
    exact ⟨k, g, A', n', c', e0, e1, e2, e3, RdF.moveQ (fun q hq hl => ⟨hq, f q hq.1 hl⟩) _ _ hr⟩
theorem DRow.dln {R lo : Nat} {w : World} {A : Option Addr} {n c : Nat} {ds : List (ByteArray × T)} {cs : List Value} (h : DRow R lo w A n c ds cs) (hR : R < lo) : DLn w.heap.size R w ds A n c := by
  refine ⟨h.len, h.cap.1, h.cap.2, fun i d hd => ?_⟩
  obtain ⟨k, g, A', n', c', e0, e1, e2, e3, hr⟩ := h.kids i d hd
  have hi := (List.getElem?_eq_some_iff.1 hd).1
  rcases h.own.2 with ⟨e, h0⟩ | ⟨gg, cap, cur, e, hb, hg, h1, h2, _⟩
  · have := h.len; omega
  · have hlt := (h.own.lt gg (by rw [e]; rfl)).2
    injection e with ea en ec
    subst ea
    have hc := fun j u (hu : cs[j]? = some u) => h.own.cells (g := gg) rfl j u hu
    have c0 := hc _ _ e0
    have c1 := hc _ _ e1
    have c2 := hc _ _ e2
    have c3 := hc _ _ e3
    rw [addr_addX] at c0 c1 c2 c3
    exact ⟨gg, 0, k, g, A', n', c', rfl, ⟨by omega, hlt⟩, c0, by rw [Nat.add_assoc]; exact c1, by rw [Nat.add_assoc]; exact c2, by rw [Nat.add_assoc]; exact c3, RdF.moveQ (fun q hq hl => ⟨⟨by have := hq.1; omega, hl⟩, rfl⟩) _ _ hr⟩
/-- one declaration is appended -/
theorem DRow.push {R lo : Nat} {w1 : World} {A : Option Addr} {n c : Nat} {ds : List (ByteArray × T)} {cs : List Value} (h : DRow R lo w1 A n c ds cs) {s : ByteArray} {t : T} {k g : Int} {A2 : Option Addr} {n2 c2 : Nat} (hr : RdF (fun q => R < q ∧ some q ≠ (Value.slice A n c).ownBlock) w1 t (.agg #[.int .i64 k, .int .i64 g, .slice A2 n2 c2]))
    (hlo : lo ≤ w1.heap.size) (hn : n ≤ 1000) {P : Nat} {w2 : World} (hb : Below w1.heap.size w1 w2) (hP : w2.heap[P]? = some (.cells #[.string s, .int .i64 k, .int .i64 g, .slice A2 n2 c2] 33 (0, 0))) (hRlo : R < lo) :
    ∃ gg cap w4, (Builtin.append_ #[24, 24] 24 #[.slice A n c, .slice (some ⟨P, 0, none⟩) 1 1]).run Try.prog w2 = .ok (.slice (some ⟨gg, 0, none⟩) (n + 1) cap) w4 ∧
      DRow R lo w4 (some ⟨gg, 0, none⟩) (n + 1) cap (ds ++ [(s, t)]) (cs ++ [.string s, .int .i64 k, .int .i64 g, .slice A2 n2 c2]) ∧ Below lo w2 w4 ∧ (∀ q, q < w1.heap.size → some q ≠ (Value.slice A n c).ownBlock → w4.heap[q]? = w1.heap[q]?) := by
  obtain ⟨i0, hi, hz0, hz1, hz2⟩ := info_decl
  have hown2 : w2.ownsRow lo 33 4 (.slice A n c) n cs := by
    refine ⟨h.own.1, ?_⟩
    rcases h.own.2 with h1 | ⟨g, cap, cur, e, hb', hg, h1⟩
    · exact .inl h1
    · have hlt := (h.own.lt g (by rw [e]; rfl)).2
      exact .inr ⟨g, cap, cur, e, hb', (hb.block g hlt).trans hg, h1⟩
  have hsz := hb.size
  obtain ⟨gg, cap, w4, hrun, how4, hgr, hg4, _⟩ := run_append_lies (P := Try.prog) w2 24 24 lo 33 i0 _ 4 56 Try.underlying24 hi hz0 hz1 hz2 rfl (by omega) (.slice A n c) n cs
    hown2 ⟨P, 0, none⟩ 1 1 [.string s, .int .i64 k, .int .i64 g, .slice A2 n2 c2] rfl (World.news_of_block hP) (by intro u hu; simp at hu; rcases hu with rfl | rfl | rfl | rfl <;> rfl) (by omega) (by unfold maxLen; omega) (by omega) (by omega) _ rfl
  have hgo : ∀ q, q < w1.heap.size → some q ≠ (Value.slice A n c).ownBlock → w4.heap[q]? = w1.heap[q]? := fun q hq hne => (hgr.block q (by omega) hne).trans (hb.block q hq)
  have hne : ∀ q, q < w1.heap.size → some q ≠ (Value.slice A n c).ownBlock → q ≠ gg := fun q hq hv e => by
    rcases hg4 with h4 | h4
    · rw [h4, e] at hv; exact hv rfl
    · omega
  have hm : ∀ b, (R < b ∧ some b ≠ (Value.slice A n c).ownBlock) → b < w1.heap.size → (R < b ∧ some b ≠ Value.ownBlock (.slice (some ⟨gg, 0, none⟩) (n + 1) cap)) ∧ w4.heap[b]? = w1.heap[b]? := fun b hb' hl =>
    ⟨⟨hb'.1, fun e => hne b hl hb'.2 (by simpa [Value.ownBlock] using e)⟩, hgo b hl hb'.2⟩
  have hcl : cs.length = n * 4 := h.own.1
  refine ⟨gg, cap, w4, hrun, ⟨how4, by rw [List.length_append, h.len]; rfl, fun i d hd => ?_⟩, below_grownQ ((Below.refl _ _).mono (show lo ≤ w2.heap.size by omega)) hgr (fun r hr => (hown2.lt r hr).1) (by omega), hgo⟩
  by_cases hin : i < n
  · rw [List.getElem?_append_left (by rw [h.len]; exact hin)] at hd
    obtain ⟨k', h', A', n', c', e0, e1, e2, e3, hr'⟩ := h.kids i d hd
    refine ⟨k', h', A', n', c', ?_, ?_, ?_, ?_, RdF.moveQ hm _ _ hr'⟩
    all_goals (rw [List.getElem?_append_left (by omega)]; assumption)
  · have hi' : i = n := by have := (List.getElem?_eq_some_iff.1 hd).1; rw [List.length_append, h.len] at this; simp at this; omega
    subst hi'
    rw [List.getElem?_append_right (by rw [h.len]; omega), h.len, Nat.sub_self] at hd
    obtain rfl : (s, t) = d := by simpa using hd
    refine ⟨k, g, A2, n2, c2, ?_, ?_, ?_, ?_, RdF.moveQ hm _ _ hr⟩
    · rw [List.getElem?_append_right (by omega), hcl, Nat.sub_self]; rfl
    · rw [List.getElem?_append_right (by omega), hcl, show i * 4 + 1 - i * 4 = 1 by omega]; rfl
    · rw [List.getElem?_append_right (by omega), hcl, show i * 4 + 2 - i * 4 = 2 by omega]; rfl
    · rw [List.getElem?_append_right (by omega), hcl, show i * 4 + 3 - i * 4 = 3 by omega]; rfl

theorem decl_bad {sg : List (ByteArray × T)} {x : List Tk} (h : namedM mK x = .error 8) : declM mayB nmB sg x = .error 8 := by
  unfold namedM at h
  unfold declM
  cases hn : nameM x with
  | error e => rw [hn] at h; dsimp only at h ⊢; cases h; rfl
  | ok p =>
    obtain ⟨s, r1⟩ := p
    rw [hn] at h
    dsimp only at h ⊢
    split
    · cases ht : takeM mK r1 with
      | error e => rw [ht] at h; dsimp only at h ⊢; cases h; rfl
      | ok r2 => rw [ht] at h; cases h
    · rfl
theorem decl_good {sg : List (ByteArray × T)} {x y : List Tk} {s : ByteArray} (h : namedM mK x = .ok (s, y)) : declM mayB nmB sg x = if nmB s = true ∧ posD s sg = none then (match wholeE sg ⟨#[46]⟩ y with
    | .error e => .error e
    | .ok (t, z) => .ok ((s, t), z)) else .error 8 := by
  unfold namedM at h
  unfold declM
  cases hn : nameM x with
  | error e => rw [hn] at h; cases h
  | ok p =>
    obtain ⟨s', r1⟩ := p
    rw [hn] at h
    dsimp only at h ⊢
    cases ht : takeM mK r1 with
    | error e => rw [ht] at h; cases h
    | ok r2 =>
      rw [ht] at h
      cases h
      split
      · dsimp only
        unfold wholeE
        cases wholeM mayB sg y with
        | error e => rfl
        | ok q =>
          obtain ⟨t, r3⟩ := q
          dsimp only
          rcases hd_take (m := mD) (x := r3) (by decide) with ⟨h1, h2⟩ | ⟨h1, h2⟩
          · rw [h2, if_pos (show hdT r3 = ((1, ⟨#[46]⟩) : Tk) from h1)]
          · rw [h2, if_neg (show ¬ hdT r3 = ((1, ⟨#[46]⟩) : Tk) from h1)]
      · rfl
/-- what decl tells -/
def DcE (R K lo : Nat) (SA : Option Addr) (sn sc : Nat) (sg : List (ByteArray × T)) (x : List Tk) (w : World) (e : Ending) (w' : World) : Prop :=
  Below K w w' ∧ w.heap.size ≤ w'.heap.size ∧ ∃ ec, e = .returned (.int .i64 ec) ∧ ((ec ≠ 0 ∧ (if 40 ≤ sg.length then (.error 4 : Except Int ((ByteArray × T) × List Tk)) else declM mayB nmB sg x) = .error ec) ∨
    (ec = 0 ∧ ∃ d y SA' sc' cs', (if 40 ≤ sg.length then (.error 4 : Except Int ((ByteArray × T) × List Tk)) else declM mayB nmB sg x) = .ok (d, y) ∧ PS w'.heap.size R K SA' (sn + 1) sc' (sg ++ [d]) y w' ∧ DRow R lo w' SA' (sn + 1) sc' (sg ++ [d]) cs' ∧ d.1.size ≤ maxLen))
set_option maxRecDepth 100000 in
set_option maxHeartbeats 2000000 in
theorem pDeclC {R K lo : Nat} {SA : Option Addr} {sn sc : Nat} {sg : List (ByteArray × T)} {cs : List Value} {x : List Tk} {w : World} (h : PS w.heap.size R K SA sn sc sg x w) (hrow : DRow R lo w SA sn sc sg cs) (hRlo : R < lo) (hlo : lo ≤ w.heap.size) (hsg : sg.length ≤ 40) :
    Calls Try.prog 20 #[.pointer (some ⟨R, 0, none⟩)] w (DcE R K lo SA sn sc sg x w) := by
  have hlt := h.lt
  have hKR := h.klt
  have hsn := h.dl.len
  obtain ⟨As, ns, cs0, hbx, _, _⟩ := h.box
  have cR1 : w.cell? ⟨R, 1, none⟩ = some (.slice SA sn sc) := hbx.cell 1
  have HP := Lib.hid h
  have HD := Lib.hid hrow
  have hNm := pNamedC h ⟨#[58]⟩ (by decide)
  have HN := Lib.hid hNm
  clear h hrow hbx hNm
  go_enter Try.func20, Try.ntmps20
  by_cases h40 : sn = 40
  · subst h40
    go_wp2_with fail
    go_ret
    exact ⟨Below.refl _ _, Nat.le_refl _, 4, rfl, .inl ⟨by decide, if_pos (by omega)⟩⟩
  have d40 : ((sn : Int) == 40) = false := by simp; omega
  have HIF : ∀ (z : Except Int ((ByteArray × T) × List Tk)), (if 40 ≤ sg.length then (.error 4 : Except Int ((ByteArray × T) × List Tk)) else z) = z := fun z => if_neg (by omega)
  have HIFF := Lib.hid HIF
  clear HIF
  go_wp2_with fail
  refine HN.out.mono ?_
  rintro e w1 ⟨hf1, s, q, rfl, hssz, hres⟩
  have hs1 := hf1.size
  have HF1 := Lib.hid hf1
  have HS := Lib.hid hssz
  obtain ⟨y1, hp1⟩ : ∃ y1, PS w.heap.size R K SA sn sc sg y1 w1 := by
    rcases hres with ⟨y, _, _, hp⟩ | ⟨_, _, y, hp⟩
    · exact ⟨y, hp⟩
    · exact ⟨y, hp⟩
  obtain ⟨es, cl, hm, hnum⟩ := hp1.mp
  obtain ⟨Ar, nr, cr, hbx1, _, _⟩ := hp1.box
  have hLK := look_num hssz hm hnum
  have cR2 : w1.cell? ⟨R, 2, none⟩ = some (.map (some K)) := hbx1.cell 2
  have HRS := Lib.hid hres
  clear HN hf1 hssz hp1 hm hnum hbx1 hres cR1
  obtain ⟨ag, hag⟩ : ∃ ag, (posD s sg).isSome = ag := ⟨_, rfl⟩
  rw [hag] at hLK
  have HAG := Lib.hid hag
  clear hag
  have hB1 : Below K w w1 := FrB.toBelow ((Below.refl w.heap.size w).mono (by omega)) HF1.out (by omega) (by omega)
  have HB1 := Lib.hid hB1
  clear hB1
  cases q with
  | false =>
    have hbad : namedM mK x = .error 8 := by
      rcases HRS.out with ⟨_, e, _⟩ | ⟨_, e, _⟩
      · cases e
      · exact e
    have HE := Lib.hid (decl_bad (sg := sg) hbad)
    clear hbad
    go_wp2_with fail
    go_ret
    exact ⟨HB1.out, hs1, 8, rfl, .inl ⟨by decide, by rw [HIFF.out, HE.out]⟩⟩
  | true =>
    obtain ⟨y, hgood, hps1⟩ : ∃ y, namedM mK x = .ok (s, y) ∧ PS w.heap.size R K SA sn sc sg y w1 := by
      rcases HRS.out with ⟨y, _, e, hp⟩ | ⟨e, _⟩
      · exact ⟨y, e, hp⟩
      · cases e
    have HE := Lib.hid (decl_good (sg := sg) hgood)
    have HP1 := Lib.hid hps1
    clear hgood hps1 HRS
    cases ag with
    | true =>
      have HE2 := Lib.hid (show declM mayB nmB sg x = .error 8 by rw [HE.out, if_neg (fun h => by have := HAG.out; rw [h.2] at this; cases this)])
      go_wp2_with fail
      go_ret
      exact ⟨HB1.out, hs1, 8, rfl, .inl ⟨by decide, by rw [HIFF.out, HE2.out]⟩⟩
    | false =>
      have hpd : posD s sg = none := by
        have := HAG.out
        cases hq : posD s sg with
        | none => rfl
        | some p => rw [hq] at this; cases this
      have HPD := Lib.hid hpd
      have HNC := Lib.hid (pNameC s HS.out w1)
      clear hpd
      go_wp2_with fail
      refine HNC.out.mono ?_
      rintro e w2 ⟨rfl, hb2⟩
      have hs2 := hb2.size
      have HB2 := Lib.hid hb2
      clear HNC hb2 hLK cR2
      cases hnm : nmB s with
      | false =>
        have HE2 := Lib.hid (show declM mayB nmB sg x = .error 8 by rw [HE.out, if_neg (fun h => by rw [hnm] at h; cases h.1)])
        clear hnm
        go_wp2_with fail
        go_ret
        exact ⟨HB1.out.trans (HB2.out.mono (by omega)), by omega, 8, rfl, .inl ⟨by decide, by rw [HIFF.out, HE2.out]⟩⟩
      | true =>
        have HE2 := Lib.hid (show declM mayB nmB sg x = (match wholeE sg ⟨#[46]⟩ y with | .error e => .error e | .ok (t, z) => .ok ((s, t), z)) by rw [HE.out, if_pos ⟨hnm, HPD.out⟩])
        have HW := Lib.hid (pWholeC (HP1.out.keep HB2.out) ⟨#[46]⟩)
        clear hnm HE
        go_wp2_with fail
        refine HW.out.mono ?_
        rintro e w3 ⟨hf3, k1, g1, A1, n1, c1, ec, rfl, hres3⟩
        have hs3 := hf3.size
        have HF3 := Lib.hid (((HF1.out).then HB2.out).trans hf3)
        have hB3 : Below K w w3 := FrB.toBelow ((Below.refl w.heap.size w).mono (by omega)) HF3.out (by omega) (by omega)
        have HB3 := Lib.hid hB3
        clear HW hf3 hB3
        rcases hres3 with ⟨t, y2, hr3, rfl, hrd3, hps3⟩ | ⟨hr3, he3, rfl, rfl, rfl, rfl, rfl⟩
        rotate_left
        · have d9 : (ec == 0) = false := by simpa using he3
          have HR3 := Lib.hid (And.intro hr3 he3)
          clear hr3 he3
          go_wp2_with fail
          go_ret
          exact ⟨HB3.out.trans ((Below.refl w3.heap.size w3).alloc (Nat.le_refl _) _ |>.mono (by omega)), by simp; omega, ec, rfl, .inl ⟨HR3.out.2, by rw [HIFF.out, HE2.out, HR3.out.1]⟩⟩
        obtain ⟨W3, hW3⟩ : ∃ W3, (w3.alloc (.cells #[.int .i64 k1, .int .i64 g1, (.slice A1 n1 c1)] 31)) = W3 := ⟨_, rfl⟩
        have hb3 : Below w3.heap.size w3 W3 := by rw [← hW3]; exact (Below.refl _ _).alloc (Nat.le_refl _) _
        have xt : BoxX W3 w3.heap.size 31 #[.int .i64 k1, .int .i64 g1, .slice A1 n1 c1] := by rw [← hW3]; exact BoxX.new _ _ _
        have hl3 : W3.heap.size = w3.heap.size + 1 := by rw [← hW3]; simp
        have hp3 := hps3.keep hb3
        obtain ⟨es, cl, hm3, hnum3⟩ := hp3.mp
        obtain ⟨Ar, nr, cr, hbx3, htl3, hA3⟩ := hp3.box
        have cR1 : W3.cell? ⟨R, 1, none⟩ = some (.slice SA sn sc) := hbx3.cell 1
        have cR2 : W3.cell? ⟨R, 2, none⟩ = some (.map (some K)) := hbx3.cell 2
        obtain ⟨W5, hW5⟩ : ∃ W5, W3.drew = W5 := ⟨_, rfl⟩
        have hb5 : Below W3.heap.size W3 W5 := by rw [← hW5]; exact (Below.refl _ _).drew
        have hm5 : W5.heap[K]? = some (.map es cl) := (hb5.block K (by omega)).trans hm3
        have hput := put_num HS.out hm5 hnum3 HPD.out (.int .i64 (sn : Nat))
        obtain ⟨W6, hW6⟩ : ∃ W6, ({ W5 with heap := W5.heap.setIfInBounds K (.map (es.push ⟨.string s, .int .i64 (sn : Nat), cl⟩) (cl + 1)) } : World) = W6 := ⟨_, rfl⟩
        rw [hW6] at hput
        have h6 : ∀ q, q ≠ K → W6.heap[q]? = W5.heap[q]? := fun q hq => by
          rw [← hW6]
          show (W5.heap.setIfInBounds K _)[q]? = _
          rw [Array.getElem?_setIfInBounds_ne (by omega)]
        have h6K : W6.heap[K]? = some (.map (es.push ⟨.string s, .int .i64 (sn : Nat), cl⟩) (cl + 1)) := by
          rw [← hW6]
          show (W5.heap.setIfInBounds K _)[K]? = _
          rw [Array.getElem?_setIfInBounds_self_of_lt (Array.getElem?_eq_some_iff.1 hm5).1]
        have hs6 : W6.heap.size = W5.heap.size := by rw [← hW6]; simp
        have hos6 : W6.os = W5.os ∧ W6.tape = W5.tape ∧ W6.output = W5.output := by rw [← hW6]; exact ⟨rfl, rfl, rfl⟩
        have hs5 := hb5.size
        have hnum6 := hnum3.push (cl := cl) (d := (s, t)) HPD.out HS.out
        rw [show (((sg.length : Nat)) : Int) = ((sn : Nat) : Int) by omega] at hnum6
        have h36 : ∀ q, q ≠ K → q < W3.heap.size → W6.heap[q]? = W3.heap[q]? := fun q hq hl => (h6 q hq).trans (hb5.block q hl)
        have hbx6 : BoxX W6 R 53 #[.slice Ar nr cr, .slice SA sn sc, .map (some K)] := (h36 R (by omega) hbx3.lt).trans hbx3
        have xt6 : BoxX W6 w3.heap.size 31 #[.int .i64 k1, .int .i64 g1, .slice A1 n1 c1] := (h36 _ (by omega) (by omega)).trans xt
        have hD6 : DRow R lo W6 SA sn sc sg cs := HD.out.mv (fun q hq hl => (h36 q (by omega) (by omega)).trans ((hb3.block q (by omega)).trans (HF3.out.block q hl (by omega)))) hRlo
        have hown : ∀ q, w.heap.size ≤ q → some q ≠ (Value.slice SA sn sc).ownBlock := fun q hq e => by have := (HD.out.own.lt q e.symm).2; omega
        have hT6 : RdF (fun q => R < q ∧ some q ≠ (Value.slice SA sn sc).ownBlock) W6 t (.agg #[.int .i64 k1, .int .i64 g1, .slice A1 n1 c1]) :=
          RdF.moveQ (fun q hq hl => ⟨⟨by omega, hown q (by omega)⟩, (h36 q (by omega) (by omega)).trans (hb3.block q hl)⟩) _ _ hrd3
        have HD6 := Lib.hid hD6
        have HT6 := Lib.hid hT6
        have HS6 := Lib.hid (show W6.heap.size = W5.heap.size ∧ W3.heap.size ≤ W5.heap.size from ⟨hs6, hs5⟩)
        have HOWN := Lib.hid (hown w3.heap.size (by omega))
        have HFIN := Lib.hid (And.intro h6K (And.intro hnum6 (And.intro hbx6 (And.intro htl3 (And.intro hA3 (And.intro hp3 (And.intro h36 (And.intro hos6 (And.intro hb3 (And.intro hb5 hm3))))))))))
        have HR3 := Lib.hid (And.intro hr3 hnum3)
        have cR1' := hbx6.cell 1
        simp only [List.getElem?_toArray, List.getElem?_cons_zero, List.getElem?_cons_succ] at cR1'
        have t0 := xt6.cell 0
        have t1 := xt6.cell 1
        have t2 := xt6.cell 2
        simp only [List.getElem?_toArray, List.getElem?_cons_zero, List.getElem?_cons_succ] at t0 t1 t2
        clear hr3 hrd3 hps3 hp3 hm3 hnum3 hbx3 htl3 hA3 hb3 xt hb5 hm5 h6 h6K hos6 hnum6 h36 hbx6 xt6 hD6 hown hT6 hs6
        subst hW3
        go_wp2_with fail
        rw [show (w3.alloc (.cells #[.int .i64 k1, .int .i64 g1, (.slice A1 n1 c1)] 31)) = (w3.alloc (.cells #[.int .i64 k1, .int .i64 g1, (.slice A1 n1 c1)] 31)) from rfl]
        have HKS : Hid (∀ w' : World, Below (w3.alloc (.cells #[.int .i64 k1, .int .i64 g1, (.slice A1 n1 c1)] 31)).heap.size (w3.alloc (.cells #[.int .i64 k1, .int .i64 g1, (.slice A1 n1 c1)] 31)) w' → (fun w' => w'.cell? ⟨R, 2, none⟩ = some (.map (some K)) ∧ w'.cell? ⟨R, 1, none⟩ = some (.slice SA sn sc)) w') := Lib.hid fun w' h => ⟨(h.cell (cell_ltX cR2)).trans cR2, (h.cell (cell_ltX cR1)).trans cR1⟩
        have hbd : Below (w3.alloc (.cells #[.int .i64 k1, .int .i64 g1, (.slice A1 n1 c1)] 31)).heap.size (w3.alloc (.cells #[.int .i64 k1, .int .i64 g1, (.slice A1 n1 c1)] 31)) (w3.alloc (.cells #[.int .i64 k1, .int .i64 g1, (.slice A1 n1 c1)] 31)).drew := (Below.refl _ (w3.alloc (.cells #[.int .i64 k1, .int .i64 g1, (.slice A1 n1 c1)] 31))).drew
        have hS := HKS.out _ hbd
        refine wp_region_cutX rfl (by kernel_rfl) (by kernel_rfl) ?_
        refine wpAny_of_held (S := fun w' => w'.cell? ⟨R, 2, none⟩ = some (.map (some K)) ∧ w'.cell? ⟨R, 1, none⟩ = some (.slice SA sn sc)) _ _ _ _ ?_
        simp only [List.pop_toArray, List.dropLast, List.size_toArray, List.length_cons, List.length_nil, Nat.reduceAdd, Nat.reduceSub]
        refine wpAnyH_take (i := 0) (v := .pointer (some ⟨R, 0, none⟩)) rfl (by kernel_rfl) (by kernel_rfl) (by kernel_rfl) (fun _ _ _ h => h) (Or.inl ⟨by kernel_rfl, ?_⟩) hS ?_
        · intro w' hSw
          obtain ⟨s0, s1⟩ := hSw
          go_simp
        try simp only [Act.put, List.getElem_toArray, List.getElem_cons_succ, List.getElem_cons_zero, List.setIfInBounds_toArray, List.set_cons_zero, List.set_cons_succ]
        refine wpAnyH_take (i := 1) (v := .pointer (some ⟨R, 0, none⟩)) rfl (by kernel_rfl) (by kernel_rfl) (by kernel_rfl) (fun _ _ _ h => h) (Or.inl ⟨by kernel_rfl, ?_⟩) hS ?_
        · intro w' hSw
          obtain ⟨s0, s1⟩ := hSw
          go_simp
        try simp only [Act.put, List.getElem_toArray, List.getElem_cons_succ, List.getElem_cons_zero, List.setIfInBounds_toArray, List.set_cons_zero, List.set_cons_succ]
        refine wpAnyH_take (i := 2) (v := .pointer (some ⟨R, 2, none⟩)) rfl (by kernel_rfl) (by kernel_rfl) (by kernel_rfl) (fun _ _ _ h => h) (Or.inl ⟨by kernel_rfl, ?_⟩) hS ?_
        · intro w' hSw
          obtain ⟨s0, s1⟩ := hSw
          go_simp
        try simp only [Act.put, List.getElem_toArray, List.getElem_cons_succ, List.getElem_cons_zero, List.setIfInBounds_toArray, List.set_cons_zero, List.set_cons_succ]
        refine wpAnyH_take (i := 3) (v := .map (some K)) rfl (by kernel_rfl) (by kernel_rfl) (by kernel_rfl) (fun _ _ _ h => h) (Or.inl ⟨by kernel_rfl, ?_⟩) hS ?_
        · intro w' hSw
          obtain ⟨s0, s1⟩ := hSw
          go_simp
        try simp only [Act.put, List.getElem_toArray, List.getElem_cons_succ, List.getElem_cons_zero, List.setIfInBounds_toArray, List.set_cons_zero, List.set_cons_succ]
        refine wpAnyH_take (i := 4) (v := .string s) rfl (by kernel_rfl) (by kernel_rfl) (by kernel_rfl) (fun _ _ _ h => h) (Or.inl ⟨by kernel_rfl, ?_⟩) hS ?_
        · intro w' hSw
          obtain ⟨s0, s1⟩ := hSw
          go_simp
        try simp only [Act.put, List.getElem_toArray, List.getElem_cons_succ, List.getElem_cons_zero, List.setIfInBounds_toArray, List.set_cons_zero, List.set_cons_succ]
        refine wpAnyH_take (i := 5) (v := .pointer (some ⟨R, 0, none⟩)) rfl (by kernel_rfl) (by kernel_rfl) (by kernel_rfl) (fun _ _ _ h => h) (Or.inl ⟨by kernel_rfl, ?_⟩) hS ?_
        · intro w' hSw
          obtain ⟨s0, s1⟩ := hSw
          go_simp
        try simp only [Act.put, List.getElem_toArray, List.getElem_cons_succ, List.getElem_cons_zero, List.setIfInBounds_toArray, List.set_cons_zero, List.set_cons_succ]
        refine wpAnyH_take (i := 6) (v := .pointer (some ⟨R, 0, none⟩)) rfl (by kernel_rfl) (by kernel_rfl) (by kernel_rfl) (fun _ _ _ h => h) (Or.inl ⟨by kernel_rfl, ?_⟩) hS ?_
        · intro w' hSw
          obtain ⟨s0, s1⟩ := hSw
          go_simp
        try simp only [Act.put, List.getElem_toArray, List.getElem_cons_succ, List.getElem_cons_zero, List.setIfInBounds_toArray, List.set_cons_zero, List.set_cons_succ]
        refine wpAnyH_take (i := 7) (v := .pointer (some ⟨R, 1, none⟩)) rfl (by kernel_rfl) (by kernel_rfl) (by kernel_rfl) (fun _ _ _ h => h) (Or.inl ⟨by kernel_rfl, ?_⟩) hS ?_
        · intro w' hSw
          obtain ⟨s0, s1⟩ := hSw
          go_simp
        try simp only [Act.put, List.getElem_toArray, List.getElem_cons_succ, List.getElem_cons_zero, List.setIfInBounds_toArray, List.set_cons_zero, List.set_cons_succ]
        refine wpAnyH_take (i := 8) (v := .slice SA sn sc) rfl (by kernel_rfl) (by kernel_rfl) (by kernel_rfl) (fun _ _ _ h => h) (Or.inl ⟨by kernel_rfl, ?_⟩) hS ?_
        · intro w' hSw
          obtain ⟨s0, s1⟩ := hSw
          go_simp
        try simp only [Act.put, List.getElem_toArray, List.getElem_cons_succ, List.getElem_cons_zero, List.setIfInBounds_toArray, List.set_cons_zero, List.set_cons_succ]
        refine wpAnyH_take (i := 9) (v := .int .i64 sn) rfl (by kernel_rfl) (by kernel_rfl) (by kernel_rfl) (fun _ _ _ h => h) (Or.inl ⟨by kernel_rfl, ?_⟩) hS ?_
        · intro w' hSw
          obtain ⟨s0, s1⟩ := hSw
          go_simp
        try simp only [Act.put, List.getElem_toArray, List.getElem_cons_succ, List.getElem_cons_zero, List.setIfInBounds_toArray, List.set_cons_zero, List.set_cons_succ]
        refine wpAnyH_done (by kernel_rfl) ?_ _
        show wpList _ _ _ _ _ _
        rw [hW5]
        clear hS HKS hbd cR1 cR2 hW5
        go_wp2_with fail
        clear hput
        have hsW6 : w3.heap.size < W6.heap.size := by rw [HS6.out.1]; have := HS6.out.2; simp at this; omega
        have cR1 := cR1'
        clear cR1'
        go_wp2_with fail
        have HKS : Hid (∀ w' : World, Below W6.heap.size W6 w' → (fun w' => w'.cell? ⟨R, 1, none⟩ = some (.slice SA sn sc) ∧ w'.cell? ⟨w3.heap.size, 0, none⟩ = some (.int .i64 k1) ∧ w'.cell? ⟨w3.heap.size, 1, none⟩ = some (.int .i64 g1) ∧ w'.cell? ⟨w3.heap.size, 2, none⟩ = some (.slice A1 n1 c1)) w') := Lib.hid fun w' h => ⟨(h.cell (cell_ltX cR1)).trans cR1, (h.cell (cell_ltX t0)).trans t0, (h.cell (cell_ltX t1)).trans t1, (h.cell (cell_ltX t2)).trans t2⟩
        have hbd : Below W6.heap.size W6 W6.drew := (Below.refl _ W6).drew
        have hS := HKS.out _ hbd
        refine wp_region_cutX rfl (by kernel_rfl) (by kernel_rfl) ?_
        refine wpAny_of_held (S := fun w' => w'.cell? ⟨R, 1, none⟩ = some (.slice SA sn sc) ∧ w'.cell? ⟨w3.heap.size, 0, none⟩ = some (.int .i64 k1) ∧ w'.cell? ⟨w3.heap.size, 1, none⟩ = some (.int .i64 g1) ∧ w'.cell? ⟨w3.heap.size, 2, none⟩ = some (.slice A1 n1 c1)) _ _ _ _ ?_
        simp only [List.pop_toArray, List.dropLast, List.size_toArray, List.length_cons, List.length_nil, Nat.reduceAdd, Nat.reduceSub]
        refine wpAnyH_take (i := 0) (v := .pointer (some ⟨R, 0, none⟩)) rfl (by kernel_rfl) (by kernel_rfl) (by kernel_rfl) (fun _ _ _ h => h) (Or.inl ⟨by kernel_rfl, ?_⟩) hS ?_
        · intro w' hSw
          obtain ⟨s0, s1, s2, s3⟩ := hSw
          go_simp
        try simp only [Act.put, List.getElem_toArray, List.getElem_cons_succ, List.getElem_cons_zero, List.setIfInBounds_toArray, List.set_cons_zero, List.set_cons_succ]
        refine wpAnyH_take (i := 1) (v := .pointer (some ⟨R, 0, none⟩)) rfl (by kernel_rfl) (by kernel_rfl) (by kernel_rfl) (fun _ _ _ h => h) (Or.inl ⟨by kernel_rfl, ?_⟩) hS ?_
        · intro w' hSw
          obtain ⟨s0, s1, s2, s3⟩ := hSw
          go_simp
        try simp only [Act.put, List.getElem_toArray, List.getElem_cons_succ, List.getElem_cons_zero, List.setIfInBounds_toArray, List.set_cons_zero, List.set_cons_succ]
        refine wpAnyH_take (i := 2) (v := .pointer (some ⟨R, 0, none⟩)) rfl (by kernel_rfl) (by kernel_rfl) (by kernel_rfl) (fun _ _ _ h => h) (Or.inl ⟨by kernel_rfl, ?_⟩) hS ?_
        · intro w' hSw
          obtain ⟨s0, s1, s2, s3⟩ := hSw
          go_simp
        try simp only [Act.put, List.getElem_toArray, List.getElem_cons_succ, List.getElem_cons_zero, List.setIfInBounds_toArray, List.set_cons_zero, List.set_cons_succ]
        refine wpAnyH_take (i := 3) (v := .pointer (some ⟨R, 1, none⟩)) rfl (by kernel_rfl) (by kernel_rfl) (by kernel_rfl) (fun _ _ _ h => h) (Or.inl ⟨by kernel_rfl, ?_⟩) hS ?_
        · intro w' hSw
          obtain ⟨s0, s1, s2, s3⟩ := hSw
          go_simp
        try simp only [Act.put, List.getElem_toArray, List.getElem_cons_succ, List.getElem_cons_zero, List.setIfInBounds_toArray, List.set_cons_zero, List.set_cons_succ]
        refine wpAnyH_take (i := 4) (v := .slice SA sn sc) rfl (by kernel_rfl) (by kernel_rfl) (by kernel_rfl) (fun _ _ _ h => h) (Or.inl ⟨by kernel_rfl, ?_⟩) hS ?_
        · intro w' hSw
          obtain ⟨s0, s1, s2, s3⟩ := hSw
          go_simp
        try simp only [Act.put, List.getElem_toArray, List.getElem_cons_succ, List.getElem_cons_zero, List.setIfInBounds_toArray, List.set_cons_zero, List.set_cons_succ]
        refine wpAnyH_take (i := 5) (v := .string s) rfl (by kernel_rfl) (by kernel_rfl) (by kernel_rfl) (fun _ _ _ h => h) (Or.inl ⟨by kernel_rfl, ?_⟩) hS ?_
        · intro w' hSw
          obtain ⟨s0, s1, s2, s3⟩ := hSw
          go_simp
        try simp only [Act.put, List.getElem_toArray, List.getElem_cons_succ, List.getElem_cons_zero, List.setIfInBounds_toArray, List.set_cons_zero, List.set_cons_succ]
        refine wpAnyH_take (i := 6) (v := .agg #[.int .i64 k1, .int .i64 g1, .slice A1 n1 c1]) rfl (by kernel_rfl) (by kernel_rfl) (by kernel_rfl) (fun _ _ _ h => h) (Or.inl ⟨by kernel_rfl, ?_⟩) hS ?_
        · intro w' hSw
          obtain ⟨s0, s1, s2, s3⟩ := hSw
          go_simp
        try simp only [Act.put, List.getElem_toArray, List.getElem_cons_succ, List.getElem_cons_zero, List.setIfInBounds_toArray, List.set_cons_zero, List.set_cons_succ]
        refine wpAnyH_take (i := 7) (v := .agg #[.string s, .int .i64 k1, .int .i64 g1, .slice A1 n1 c1]) rfl (by kernel_rfl) (by kernel_rfl) (by kernel_rfl) (fun _ _ _ h => h) (Or.inl ⟨by kernel_rfl, ?_⟩) hS ?_
        · intro w' hSw
          obtain ⟨s0, s1, s2, s3⟩ := hSw
          go_simp
        try simp only [Act.put, List.getElem_toArray, List.getElem_cons_succ, List.getElem_cons_zero, List.setIfInBounds_toArray, List.set_cons_zero, List.set_cons_succ]
        refine wpAnyH_ready (rs := [8]) (by kernel_rfl) (by simp) ?_
        refine AllReadyH.cons rfl (fun KN hK => ?_) AllReadyH.nil
        go_simp
        obtain ⟨W7, hW7⟩ : ∃ W7, (W6.alloc (.cells #[.string s, .int .i64 k1, .int .i64 g1, .slice A1 n1 c1] 33)).drew = W7 := ⟨_, rfl⟩
        have hb7 : Below W6.heap.size W6 W7 := by rw [← hW7]; exact ((Below.refl _ _).alloc (Nat.le_refl _) _).drew
        have hP7 : W7.heap[W6.heap.size]? = some (.cells #[.string s, .int .i64 k1, .int .i64 g1, .slice A1 n1 c1] 33 (0, 0)) := by
          rw [← hW7]
          exact heap_alloc_new W6 (.cells #[.string s, .int .i64 k1, .int .i64 g1, .slice A1 n1 c1] 33)
        try rw [hW7]
        clear hW7
        refine hK.out _ _ (HKS.out _ hb7) (fun hS => ?_)
        clear hK KN
        try simp only [Act.put, zzP]
        refine wpAnyH_ready (rs := [9]) (by kernel_rfl) (by simp) ?_
        refine AllReadyH.cons rfl (fun KN hK => ?_) AllReadyH.nil
        obtain ⟨gg, cap, w8, hrun, hrow8, hb8, hold8⟩ := HD6.out.push HT6.out (by have := HS6.out; omega) (by omega) hb7 hP7 hRlo
        refine Lib.wp_append_run _ (.tmp 61) (.tmp 65) 24 24 rfl _ _ rfl rfl _ _ hrun ?_
        have hS8 : (fun w' => w'.cell? ⟨R, 1, none⟩ = some (.slice SA sn sc) ∧ w'.cell? ⟨w3.heap.size, 0, none⟩ = some (.int .i64 k1) ∧ w'.cell? ⟨w3.heap.size, 1, none⟩ = some (.int .i64 g1) ∧ w'.cell? ⟨w3.heap.size, 2, none⟩ = some (.slice A1 n1 c1)) w8 := ⟨(World.cell?_of_block (hold8 R (by omega) (by have := HS6.out; intro e; have := (HD6.out.own.lt R e.symm).1; omega))).trans cR1, (World.cell?_of_block (hold8 _ (by have := HS6.out; omega) HOWN.out)).trans t0, (World.cell?_of_block (hold8 _ (by have := HS6.out; omega) HOWN.out)).trans t1, (World.cell?_of_block (hold8 _ (by have := HS6.out; omega) HOWN.out)).trans t2⟩
        refine hK.out _ _ hS8 (fun hS => ?_)
        clear hK KN hS8 hrun
        try simp only [Act.put, List.getElem_toArray, List.getElem_cons_succ, List.getElem_cons_zero, List.setIfInBounds_toArray, List.set_cons_zero, List.set_cons_succ]
        refine wpAnyH_take (i := 10) (v := .pointer (some ⟨R, 0, none⟩)) rfl (by kernel_rfl) (by kernel_rfl) (by kernel_rfl) (fun _ _ _ h => h) (Or.inl ⟨by kernel_rfl, ?_⟩) hS ?_
        · intro w' hSw
          obtain ⟨s0, s1, s2, s3⟩ := hSw
          go_simp
        try simp only [Act.put, List.getElem_toArray, List.getElem_cons_succ, List.getElem_cons_zero, List.setIfInBounds_toArray, List.set_cons_zero, List.set_cons_succ]
        refine wpAnyH_take (i := 11) (v := .pointer (some ⟨R, 1, none⟩)) rfl (by kernel_rfl) (by kernel_rfl) (by kernel_rfl) (fun _ _ _ h => h) (Or.inl ⟨by kernel_rfl, ?_⟩) hS ?_
        · intro w' hSw
          obtain ⟨s0, s1, s2, s3⟩ := hSw
          go_simp
        try simp only [Act.put, List.getElem_toArray, List.getElem_cons_succ, List.getElem_cons_zero, List.setIfInBounds_toArray, List.set_cons_zero, List.set_cons_succ]
        refine wpAnyH_done (by kernel_rfl) ?_ _
        show wpList _ _ _ _ _ _
        obtain ⟨h6K, hnum6, hbx6, htl3, hA3, hp3, h36, hos6, hb3, hb5, hm5⟩ := HFIN.out
        have hs8 := hb8.size
        have hs7 := hb7.size
        have hbx8 : BoxX w8 R 53 #[.slice Ar nr cr, .slice SA sn sc, .map (some K)] := (hb8.block R hRlo).trans ((hb7.block R (by omega)).trans hbx6)
        have hbx9 := hbx8.put 1 (.slice (some ⟨gg, 0, none⟩) (sn + 1) cap)
        have h38 : ∀ q, q < R → q ≠ K → w8.heap[q]? = (w3.alloc (.cells #[.int .i64 k1, .int .i64 g1, (.slice A1 n1 c1)] 31)).heap[q]? := fun q hq hne => (hb8.block q (by omega)).trans ((hb7.block q (by omega)).trans (h36 q hne (by simp; omega)))
        have h39 : ∀ q, q < R → q ≠ K → (w8.setCell ⟨R, 1, none⟩ (.slice (some ⟨gg, 0, none⟩) (sn + 1) cap)).heap[q]? = (w3.alloc (.cells #[.int .i64 k1, .int .i64 g1, (.slice A1 n1 c1)] 31)).heap[q]? := fun q hq hne => (Below.heap_setCell _ _ _ _ (by dsimp only; omega)).trans (h38 q hq hne)
        have hK9 : (w8.setCell ⟨R, 1, none⟩ (.slice (some ⟨gg, 0, none⟩) (sn + 1) cap)).heap[K]? = some (.map (es.push ⟨.string s, .int .i64 (sn : Nat), cl⟩) (cl + 1)) := (Below.heap_setCell _ _ _ _ (by dsimp only; omega)).trans ((hb8.block K (by omega)).trans ((hb7.block K (by omega)).trans h6K))
        have hrow9 : DRow R lo (w8.setCell ⟨R, 1, none⟩ (.slice (some ⟨gg, 0, none⟩) (sn + 1) cap)) (some ⟨gg, 0, none⟩) (sn + 1) cap (sg ++ [(s, t)]) (cs ++ [.string s, .int .i64 k1, .int .i64 g1, .slice A1 n1 c1]) := hrow8.mv (fun q hq hl => Below.heap_setCell _ _ _ _ (by dsimp only; omega)) hRlo
        have hdl9 := hrow9.dln hRlo
        have hB9 : Below K w (w8.setCell ⟨R, 1, none⟩ (.slice (some ⟨gg, 0, none⟩) (sn + 1) cap)) := by
          have h1 := HB3.out.trans (hb3.mono (show K ≤ w3.heap.size by omega))
          have h2 : Below K w W6 := h1.trans ⟨hos6.1.trans hb5.os, hos6.2.1.trans hb5.tape, hos6.2.2.trans hb5.output, by rw [HS6.out.1]; exact HS6.out.2, fun q hq => h36 q (by omega) (by simp; omega)⟩
          exact ((h2.trans (hb7.mono (by omega))).trans (hb8.mono (by omega))).setCell (by dsimp only; omega) _
        have hps9 : PS (w8.setCell ⟨R, 1, none⟩ (.slice (some ⟨gg, 0, none⟩) (sn + 1) cap)).heap.size R K (some ⟨gg, 0, none⟩) (sn + 1) cap (sg ++ [(s, t)]) y2 (w8.setCell ⟨R, 1, none⟩ (.slice (some ⟨gg, 0, none⟩) (sn + 1) cap)) := by
          refine ⟨⟨Ar, nr, cr, hbx9, ⟨htl3.len, htl3.le, htl3.cap, fun i u hu => ?_⟩, hA3⟩, hdl9, ⟨_, _, hK9, hnum6⟩, hp3.ne, hp3.klt, ?_, Nat.le_refl _, hp3.few, hp3.good, by rw [List.length_append, List.length_singleton]; omega⟩
          · obtain ⟨b, o, e, q0, q1⟩ := htl3.at_ i u hu
            have hbR : b < R := by
              rcases hA3 b o e with h1 | h1
              · exact h1
              · rw [h1] at hu; simp at hu
            have hbK : b ≠ K := by
              rintro rfl
              unfold World.cell? at q0
              rw [show (w3.alloc (.cells #[.int .i64 k1, .int .i64 g1, (.slice A1 n1 c1)] 31)).heap[b]? = some (.map es cl) from hm5] at q0
              cases q0
            have e' : ∀ j, (w8.setCell ⟨R, 1, none⟩ (.slice (some ⟨gg, 0, none⟩) (sn + 1) cap)).cell? ⟨b, j, none⟩ = (w3.alloc (.cells #[.int .i64 k1, .int .i64 g1, (.slice A1 n1 c1)] 31)).cell? ⟨b, j, none⟩ := fun j => World.cell?_of_block (h39 b hbR hbK)
            exact ⟨b, o, e, (e' _).trans q0, (e' _).trans q1⟩
          · have := hbx9.lt; omega
        have HFN := Lib.hid (And.intro hB9 (And.intro hps9 hrow9))
        have u1 := hbx8.cell 1
        have fz1 := hbx8.frozen 1
        have lR := hbx8.lt
        simp only [List.getElem?_toArray, List.getElem?_cons_zero, List.getElem?_cons_succ] at u1
        clear hbx8 hbx9 h38 h39 hK9 hrow9 hdl9 hB9 hps9 h6K hnum6 hbx6 htl3 hA3 hp3 h36 hos6 hb3 hb5 hm5 HFIN hrow8 hb8 hold8 hb7 hP7 hS
        go_wp2_with fail
        go_ret
        refine ⟨HFN.out.1, by simp [World.setCell]; omega, 0, rfl, .inr ⟨rfl, (s, t), y2, _, _, _, ?_, HFN.out.2.1, HFN.out.2.2, HS.out⟩⟩
        rw [HIFF.out, HE2.out, HR3.out.1]
end Go.Proofs.Ytdbdeppchlkacaa

/-
  Contracts of package parse's Term and Decls. No statement is proved here.
-/
namespace Go.Proofs.Ytdbdeppchlkacaa
open Go.ChangeShapes Go.WideShapes Go.ChangeAt Go.RowKit
set_option linter.unusedVariables false


/-- what a text is, read as a term -/
def readT (ds : List (ByteArray × T)) (l : List UInt8) : Except Int T := if lexE l ≠ 0 then .error (lexE l) else match wholeE ds ⟨#[]⟩ (lexT l) with
  | .error e => .error e
  | .ok (t, _) => .ok t
/-- what a text is, read as declarations -/
def readD (l : List UInt8) : Except Int (List (ByteArray × T)) := if lexE l ≠ 0 then .error (lexE l) else declsM mayB nmB (lexT l).length [] (lexT l)
set_option maxRecDepth 100000 in
set_option maxHeartbeats 2000000 in
theorem pTermTopC (l : List UInt8) (A : Option Addr) (n c : Nat) (ds : List (ByteArray × T)) (SA : Option Addr) (sn sc : Nat) (w : World) (hY : YL w l A n c) (hD : DS w ds SA sn sc) (hds : ds.length ≤ 1000) :
    Calls Try.prog 15 #[.slice A n c, .slice SA sn sc] w fun e w' => Below w.heap.size w w' ∧ ∃ k g A' n' c' ec, e = .returned (.tuple #[.agg #[.int .i64 k, .int .i64 g, .slice A' n' c'], .int .i64 ec]) ∧
      ((∃ t, readT ds l = .ok t ∧ ec = 0 ∧ Rd w' t (.agg #[.int .i64 k, .int .i64 g, .slice A' n' c'])) ∨ (readT ds l = .error ec ∧ ec ≠ 0 ∧ k = 0 ∧ g = 0 ∧ A' = none ∧ n' = 0 ∧ c' = 0)) := by
  obtain ⟨W, hW⟩ : ∃ W, w.alloc (.cells #[.int .i64 0, .int .i64 0, .slice none 0 0] 31) = W := ⟨_, rfl⟩
  have hb : Below w.heap.size w W := by rw [← hW]; exact (Below.refl _ _).alloc (Nat.le_refl _) _
  have x1 : BoxX W w.heap.size 31 #[.int .i64 0, .int .i64 0, .slice none 0 0] := by rw [← hW]; exact BoxX.new _ _ _
  have hsz : W.heap.size = w.heap.size + 1 := by rw [← hW]; simp
  have HC := Lib.hid (pBeginC l A n c ds SA sn sc W (hY.keep hb) (hD.keep hb) hds)
  have HB := Lib.hid hb
  have HX1 := Lib.hid x1
  have HSZ := Lib.hid hsz
  clear hb x1 hY hD hsz
  subst hW
  go_enter Try.func15, Try.ntmps15
  go_wp2_with fail
  refine HC.out.mono ?_
  rintro e w2 ⟨hb2, hres⟩
  have hs2 := hb2.size
  rw [HSZ.out] at hs2
  have x2 := HX1.out.keep hb2 HX1.out.lt
  have HB2 := Lib.hid (HB.out.trans (hb2.mono HB.out.size))
  clear HC HX1 hb2
  rcases hres with ⟨he, rfl⟩ | ⟨he, R, K, hK, hKR, rfl, hps⟩
  · have d9 : (lexE l == 0) = false := by simpa using he
    have HE := Lib.hid he
    clear he HB HSZ
    have z9 := ((x2.put 0 (.int .i64 0)).put 1 (.int .i64 0)).put 2 ((.slice none 0 0))
    have e0 := z9.cell 0
    have e1 := z9.cell 1
    have e2 := z9.cell 2
    have r0 := x2.cell 0
    have r1 := x2.cell 1
    have r2 := x2.cell 2
    have fz0 := x2.frozen 0
    have fz1 := x2.frozen 1
    have fz2 := x2.frozen 2
    have lz := x2.lt
    simp only [List.setIfInBounds_toArray, List.set_cons_zero, List.set_cons_succ, List.getElem?_toArray, List.getElem?_cons_zero, List.getElem?_cons_succ] at e0 e1 e2 r0 r1 r2
    clear z9 x2
    go_wp2_with fail
    refine bodyPost_ret (v := .tuple #[.agg #[.int .i64 0, .int .i64 0, (.slice none 0 0)], .int .i64 (lexE l)]) (by simp [results, Try.results15, go_sem, e0, e1, e2]) rfl ?_
    have hff := ((HB2.out.setCell (p := ⟨w.heap.size, 0, none⟩) (by dsimp only; omega) (.int .i64 0)).setCell (p := ⟨w.heap.size, 1, none⟩) (by dsimp only; omega) (.int .i64 0)).setCell (p := ⟨w.heap.size, 2, none⟩) (by dsimp only; omega) (.slice none 0 0)
    exact ⟨hff, 0, 0, none, 0, 0, (lexE l), rfl, .inr ⟨by rw [readT, if_pos HE.out], HE.out, rfl, rfl, rfl, rfl, rfl⟩⟩
  · have HW := Lib.hid (pWholeC hps ⟨#[]⟩)
    have HRT := Lib.hid (show readT ds l = match wholeE ds ⟨#[]⟩ (lexT l) with | .error e => .error e | .ok (t, _) => .ok t by rw [readT, if_neg (by rw [he]; simp)])
    rw [HSZ.out] at hK
    clear hps he HB HSZ
    go_wp2_with fail
    refine HW.out.mono ?_
    rintro e w3 ⟨hf3, k, g, A', n', c', ec, rfl, hres⟩
    have hs3 := hf3.size
    have x3 := x2.fr hf3 (by omega)
    have HB3 := Lib.hid (FrB.toBelow HB2.out hf3 (by omega) (by omega))
    have HR := Lib.hid hres
    clear HW x2 hf3 hres HB2
    have z9 := ((x3.put 0 (.int .i64 k)).put 1 (.int .i64 g)).put 2 ((.slice A' n' c'))
    have e0 := z9.cell 0
    have e1 := z9.cell 1
    have e2 := z9.cell 2
    have r0 := x3.cell 0
    have r1 := x3.cell 1
    have r2 := x3.cell 2
    have fz0 := x3.frozen 0
    have fz1 := x3.frozen 1
    have fz2 := x3.frozen 2
    have lz := x3.lt
    simp only [List.setIfInBounds_toArray, List.set_cons_zero, List.set_cons_succ, List.getElem?_toArray, List.getElem?_cons_zero, List.getElem?_cons_succ] at e0 e1 e2 r0 r1 r2
    clear z9 x3
    go_wp2_with fail
    refine bodyPost_ret (v := .tuple #[.agg #[.int .i64 k, .int .i64 g, (.slice A' n' c')], .int .i64 ec]) (by simp [results, Try.results15, go_sem, e0, e1, e2]) rfl ?_
    have hff := ((HB3.out.setCell (p := ⟨w.heap.size, 0, none⟩) (by dsimp only; omega) (.int .i64 k)).setCell (p := ⟨w.heap.size, 1, none⟩) (by dsimp only; omega) (.int .i64 g)).setCell (p := ⟨w.heap.size, 2, none⟩) (by dsimp only; omega) (.slice A' n' c')
    refine ⟨hff, k, g, A', n', c', ec, rfl, ?_⟩
    rw [HRT.out]
    rcases HR.out with ⟨t, y, hr, h0, hrd, _⟩ | ⟨hr, h3⟩
    · exact .inl ⟨t, by rw [hr], h0, (hrd.to fun b' h1 h2 => heap_other3Q _ _ _ _ _ _ (by omega)).rd⟩
    · exact .inr ⟨by rw [hr], h3⟩
theorem PS.up {b0 b1 R K : Nat} {SA : Option Addr} {sn sc : Nat} {sg : List (ByteArray × T)} {x : List Tk} {w : World} (h : PS b0 R K SA sn sc sg x w) (h1 : b0 ≤ b1) (h2 : b1 ≤ w.heap.size) : PS b1 R K SA sn sc sg x w :=
  ⟨h.box, ⟨h.dl.len, h.dl.le, h.dl.cap, fun i d hd => by
    obtain ⟨b, o, k, g, A', n, c, e, hb, c0, c1, c2, c3, hr⟩ := h.dl.at_ i d hd
    exact ⟨b, o, k, g, A', n, c, e, ⟨hb.1, by omega⟩, c0, c1, c2, c3, RdF.moveQ (fun q hq hl => ⟨⟨hq.1, by omega⟩, rfl⟩) _ _ hr⟩⟩, h.mp, h.ne, h.klt, Nat.le_trans h.rle h1, h2, h.few, h.good, h.sgf⟩
/-- what holds at the head of Decls' loop -/
structure DsI (l : List UInt8) (w : World) (R K lo gf : Nat) (SA : Option Addr) (sn sc : Nat) (sg : List (ByteArray × T)) (cs : List Value) (y : List Tk) (wr : World) : Prop where
  ps : PS wr.heap.size R K SA sn sc sg y wr
  row : DRow R lo wr SA sn sc sg cs
  below : Below w.heap.size w wr
  big : lo ≤ wr.heap.size
  few : sg.length ≤ 40
  sz : ∀ d ∈ sg, d.1.size ≤ maxLen
  fuel : y.length ≤ gf
  eq : declsM mayB nmB y.length sg y = readD l
set_option maxRecDepth 100000 in
set_option maxHeartbeats 2000000 in
theorem pDeclsC (l : List UInt8) (A : Option Addr) (n c : Nat) (w : World) (hY : YL w l A n c) :
    Calls Try.prog 9 #[.slice A n c] w fun e w' => Below w.heap.size w w' ∧ ∃ SA sn sc ec, e = .returned (.tuple #[.slice SA sn sc, .int .i64 ec]) ∧
      ((∃ ds, readD l = .ok ds ∧ ec = 0 ∧ DS w' ds SA sn sc ∧ ds.length ≤ 40) ∨ (readD l = .error ec ∧ ec ≠ 0 ∧ SA = none ∧ sn = 0 ∧ sc = 0)) := by
  have HC := Lib.hid (pBeginC l A n c [] none 0 0 w hY (DS.nil _) (by simp))
  clear hY
  go_enter Try.func9, Try.ntmps9
  go_wp2_with fail
  refine HC.out.mono ?_
  rintro e w2 ⟨hb2, hres⟩
  have hs2 := hb2.size
  have HB2 := Lib.hid hb2
  clear HC hb2
  rcases hres with ⟨he, rfl⟩ | ⟨he, R, K, hK, hKR, rfl, hps⟩
  · have d9 : (lexE l == 0) = false := by simpa using he
    have HE := Lib.hid he
    clear he
    go_wp2_with fail
    go_loopg [5] 0 (fun _ u5 wr => u5 = .int .i64 (lexE l) ∧ Hid (Below w.heap.size w wr))
    case atStart => exact ⟨rfl, HB2⟩
    case round =>
      obtain ⟨rfl, HB⟩ := hrel
      go_wp2_with fail
      go_ret2
      exact ⟨HB.out, none, 0, 0, lexE l, rfl, .inr ⟨by rw [readD, if_pos HE.out], HE.out, rfl, rfl, rfl⟩⟩
  · have HRD := Lib.hid (show readD l = declsM mayB nmB (lexT l).length [] (lexT l) by rw [readD, if_neg (by rw [he]; simp)])
    have HI0 := Lib.hid (show DsI l w R K w2.heap.size (lexT l).length none 0 0 [] [] (lexT l) w2 from
      ⟨hps.up hps.le (Nat.le_refl _), DRow.nil _ _ _, HB2.out, Nat.le_refl _, by simp, (fun d hd => by cases hd), Nat.le_refl _, HRD.out.symm⟩)
    have hRlo := hps.lt
    clear hps he
    go_wp2_with fail
    go_loopg [5] (lexT l).length (fun gf u5 wr => (∃ ec, u5 = .int .i64 ec ∧ Hid (ec ≠ 0 ∧ readD l = .error ec ∧ Below w.heap.size w wr)) ∨ (u5 = .int .i64 0 ∧ ∃ SA sn sc sg cs y, Hid (DsI l w R K w2.heap.size gf SA sn sc sg cs y wr)))
    case atStart => exact .inr ⟨rfl, _, _, _, _, _, _, HI0⟩
    case round =>
      clear HI0
      rcases hrel with ⟨ec, rfl, HE⟩ | ⟨rfl, SA, sn, sc, sg, cs, y, HI⟩
      · have d9 : (ec == 0) = false := by simpa using HE.out.1
        go_wp2_with fail
        go_ret2
        exact ⟨HE.out.2.2, none, 0, 0, ec, rfl, .inr ⟨HE.out.2.1, HE.out.1, rfl, rfl, rfl⟩⟩
      · have hT := pTakeC HI.out.ps ⟨#[]⟩
        have hbig := HI.out.big
        cases y with
        | nil =>
          rw [show decide (hdT [] = ((1, ⟨#[]⟩) : Tk)) = true from rfl] at hT
          have HT := Lib.hid hT
          have HEQ := Lib.hid (show readD l = .ok sg by rw [← HI.out.eq]; rfl)
          clear hT
          go_wp2_with fail
          refine HT.out.mono ?_
          rintro e w3 ⟨rfl, hps3, hf3⟩
          obtain ⟨Ar, nr, cr, hbx, _, _⟩ := hps3.box
          have cR1 : w3.cell? ⟨R, 1, none⟩ = some (.slice SA sn sc) := hbx.cell 1
          have HF := Lib.hid (And.intro (FrB.toBelow HI.out.below hf3 (by omega) (by omega)) (hps3.dl.ds HI.out.sz))
          clear HT hf3 hps3 hbx
          go_wp2_with fail
          go_ret2
          exact ⟨HF.out.1, SA, sn, sc, 0, rfl, .inl ⟨sg, HEQ.out, rfl, HF.out.2, HI.out.few⟩⟩
        | cons t r =>
          have hne : hdT (t :: r) ≠ ((1, ⟨#[]⟩) : Tk) := (HI.out.ps.good t List.mem_cons_self).one
          rw [show decide (hdT (t :: r) = ((1, ⟨#[]⟩) : Tk)) = false from decide_eq_false hne] at hT
          have HT := Lib.hid hT
          have HNE := Lib.hid hne
          obtain ⟨g', rfl⟩ : ∃ g', gk = g' + 1 := ⟨gk - 1, by have := HI.out.fuel; simp at this; omega⟩
          clear hT hne
          go_wp2_with fail
          refine HT.out.mono ?_
          rintro e w3 ⟨rfl, hps3, hf3⟩
          rw [if_neg HNE.out] at hps3
          have hs3 := hf3.size
          have hD := pDeclC (hps3.up hf3.size (Nat.le_refl _)) (HI.out.row.mv (fun q hq hl => hf3.block q hl (by omega)) hRlo) hRlo (by omega) HI.out.few
          have HD := Lib.hid hD
          have HB3 := Lib.hid (FrB.toBelow HI.out.below hf3 (by omega) (by omega))
          clear HT hf3 hps3 hD
          go_wp2_with fail
          refine HD.out.mono ?_
          rintro e w4 ⟨hb4, hs4, ec, rfl, hres⟩
          have HB4 := Lib.hid (HB3.out.trans (hb4.mono (by omega)))
          have hEQ := HI.out.eq
          rw [List.length_cons, declsM] at hEQ
          clear HD hb4
          rcases hres with ⟨hec, hd⟩ | ⟨rfl, d, y2, SA', sc', cs', hd, hps4, hrow4, hdz⟩
          · have HE2 := Lib.hid (show ec ≠ 0 ∧ readD l = .error ec ∧ Below w.heap.size w w4 from ⟨hec, by
              rw [← hEQ]
              split at hd
              · rename_i h40; rw [if_pos h40]; cases hd; rfl
              · rename_i h40; rw [if_neg h40, hd], HB4.out⟩)
            clear hEQ hec hd
            go_wp2_with fail
            go_roundg g'
            case measure => omega
            case rel => exact .inl ⟨ec, rfl, HE2⟩
          · have h40 : ¬ 40 ≤ sg.length := fun h => by rw [if_pos h] at hd; cases hd
            rw [if_neg h40] at hd hEQ
            rw [hd] at hEQ
            have hlen := decl_len hd
            simp only [List.length_cons] at hlen
            have HI2 := Lib.hid (show DsI l w R K w2.heap.size g' SA' (sn + 1) sc' (sg ++ [d]) cs' y2 w4 from
              ⟨hps4, hrow4, HB4.out, by omega, by rw [List.length_append, List.length_singleton]; omega, fun d' hd' => by
                rcases List.mem_append.1 hd' with h | h
                · exact HI.out.sz d' h
                · rw [List.mem_singleton.1 h]; exact hdz, by have := HI.out.fuel; simp at this; omega, by rw [← hEQ]; exact decls_fuel _ _ _ _ (Nat.le_refl _) (by omega)⟩)
            clear hEQ hps4 hrow4 hd hdz hlen
            go_wp2_with fail
            go_roundg g'
            case measure => omega
            case rel => exact .inr ⟨rfl, _, _, _, _, _, _, HI2⟩
end Go.Proofs.Ytdbdeppchlkacaa

/-
  Contract of the laws' awake: package parse at the chapter's example. No statement is proved here.
-/
namespace Go.Proofs.Ytdbdeppchlkacaa
open Go.ChangeShapes Go.WideShapes Go.ChangeAt Go.RowKit
set_option linter.unusedVariables false

def pxA : List UInt8 := [110, 97, 116, 58, 32, 116, 121, 112, 101, 46, 32, 122, 58, 32, 110, 97, 116, 46, 32, 115, 58, 32, 123, 110, 58, 32, 110, 97, 116, 125, 32, 110, 97, 116, 46]
def pxB : List UInt8 := [91, 120, 93, 32, 115, 32, 40, 115, 32, 120, 41]
def pxC : List UInt8 := [122, 58, 32, 110, 97, 116, 46]
def pxD : List (ByteArray × T) := [(⟨#[110, 97, 116]⟩, .node 0 0 []), (⟨#[122]⟩, .node 2 0 []), (⟨#[115]⟩, .node 1 0 [.node 2 0 [], .node 2 0 []])]
def pxT : T := .node 3 0 [.node 5 2 [.node 5 2 [.node 4 0 []]]]
set_option maxRecDepth 100000 in
theorem px_a : readD pxA = .ok pxD := by kernel_rfl
set_option maxRecDepth 100000 in
theorem px_b : readT pxD pxB = .ok pxT := by kernel_rfl
set_option maxRecDepth 100000 in
theorem px_c : readD pxC = .error 2 := by kernel_rfl
set_option maxRecDepth 100000 in
theorem px_d : nmB ⟨#[122, 39]⟩ = true := by decide
set_option maxRecDepth 100000 in
theorem px_e : nmB ⟨#[95, 122]⟩ = false := by decide
theorem px_s : szW pxT = 4 := by kernel_rfl
theorem ex_conv (w : World) (C : Array Value) (l : List UInt8) (n : Nat) (hn : l.length = n) (hC : C.toList = l.map bV) (hl : l.length ≤ 1000000) : ∃ W, (convert 22 22 (.slice (some ⟨w.heap.size, 0, none⟩) n n)).run Try.prog (w.alloc (.cells C 5)) = .ok (.slice (some ⟨w.heap.size, 0, none⟩) n n) W ∧ Below w.heap.size w W ∧ YL W l (some ⟨w.heap.size, 0, none⟩) n n := by
  subst hn
  exact ⟨_, run_convSame w C _ _, (Below.refl _ _).alloc (Nat.le_refl _) _, YL.block (heap_alloc_new w _) hC hl⟩
set_option maxRecDepth 100000 in
set_option maxHeartbeats 4000000 in
theorem pAwakeC (w : World) : Calls Try.prog 8 #[] w fun e w' => e = .returned (.bool true) ∧ Below w.heap.size w w' := by
  obtain ⟨CA, hCA⟩ : ∃ C : Array Value, #[.int .u8 110, .int .u8 97, .int .u8 116, .int .u8 58, .int .u8 32, .int .u8 116, .int .u8 121, .int .u8 112, .int .u8 101, .int .u8 46, .int .u8 32, .int .u8 122, .int .u8 58, .int .u8 32, .int .u8 110, .int .u8 97, .int .u8 116, .int .u8 46, .int .u8 32, .int .u8 115, .int .u8 58, .int .u8 32, .int .u8 123, .int .u8 110, .int .u8 58, .int .u8 32, .int .u8 110, .int .u8 97, .int .u8 116, .int .u8 125, .int .u8 32, .int .u8 110, .int .u8 97, .int .u8 116, .int .u8 46] = C := ⟨_, rfl⟩
  obtain ⟨CB, hCB⟩ : ∃ C : Array Value, #[.int .u8 91, .int .u8 120, .int .u8 93, .int .u8 32, .int .u8 115, .int .u8 32, .int .u8 40, .int .u8 115, .int .u8 32, .int .u8 120, .int .u8 41] = C := ⟨_, rfl⟩
  obtain ⟨CC, hCC⟩ : ∃ C : Array Value, #[.int .u8 122, .int .u8 58, .int .u8 32, .int .u8 110, .int .u8 97, .int .u8 116, .int .u8 46] = C := ⟨_, rfl⟩
  have HA := Lib.hid (show CA.toList = pxA.map bV by rw [← hCA]; rfl)
  have HB := Lib.hid (show CB.toList = pxB.map bV by rw [← hCB]; rfl)
  have HC := Lib.hid (show CC.toList = pxC.map bV by rw [← hCC]; rfl)
  obtain ⟨W1, hcv1, hb1, hy1⟩ := ex_conv w CA pxA 35 rfl HA.out (by decide)
  have HD1 := Lib.hid (pDeclsC pxA _ _ _ W1 hy1)
  have HB1 := Lib.hid hb1
  clear hb1 hy1
  go_enter Try.func8, Try.ntmps8
  go_wp2_with fail
  refine HD1.out.mono ?_
  rintro e w2 ⟨hb2, SA, sn, sc, ec, rfl, hres⟩
  obtain ⟨ds, hr, rfl, hds, _⟩ : ∃ ds, readD pxA = .ok ds ∧ ec = 0 ∧ DS w2 ds SA sn sc ∧ ds.length ≤ 40 := by
    rcases hres with h | ⟨h, _⟩
    · exact h
    · rw [px_a] at h; cases h
  rw [px_a] at hr
  cases hr
  obtain rfl : 3 = sn := hds.len
  have hsc := hds.le
  have HB2 := Lib.hid (HB1.out.trans (hb2.mono HB1.out.size))
  have HDS := Lib.hid hds
  clear hcv1 hres HD1 hb2 hds
  obtain ⟨W3, hcv3, hb3, hy3⟩ := ex_conv w2 CB pxB 11 rfl HB.out (by decide)
  have HT := Lib.hid (pTermTopC pxB _ _ _ pxD SA 3 sc W3 hy3 (HDS.out.keep hb3) (by decide))
  have HB3 := Lib.hid (HB2.out.trans (hb3.mono HB2.out.size))
  have HDS3 := Lib.hid (HDS.out.keep hb3)
  clear hb3 hy3 HDS
  go_wp2_with fail
  refine HT.out.mono ?_
  rintro e w4 ⟨hb4, k4, g4, A4, n4, c4, ec, rfl, hres⟩
  obtain ⟨t, hr, rfl, hrd⟩ : ∃ t, readT pxD pxB = .ok t ∧ ec = 0 ∧ Rd w4 t (.agg #[.int .i64 k4, .int .i64 g4, .slice A4 n4 c4]) := by
    rcases hres with h | ⟨h, _⟩
    · exact h
    · rw [px_b] at h; cases h
  rw [px_b] at hr
  cases hr
  have hk4 : k4 = 3 := by
    obtain ⟨A', n', c', e, _⟩ := Rd_node.1 hrd
    simp at e
    exact e.1
  subst hk4
  obtain ⟨W5, hW5⟩ : ∃ W5, w4.alloc (.cells #[.int .i64 3, .int .i64 g4, .slice A4 n4 c4] 31) = W5 := ⟨_, rfl⟩
  have hb5 : Below w4.heap.size w4 W5 := by rw [← hW5]; exact (Below.refl _ _).alloc (Nat.le_refl _) _
  have x5 : BoxX W5 w4.heap.size 31 #[.int .i64 3, .int .i64 g4, .slice A4 n4 c4] := by rw [← hW5]; exact BoxX.new _ _ _
  have HB5 := Lib.hid (HB3.out.trans ((hb4.trans (hb5.mono hb4.size)).mono HB3.out.size))
  have HDS5 := Lib.hid (HDS3.out.keep (hb4.trans (hb5.mono hb4.size)))
  have HRD5 := Lib.hid (Rd.keep hb5 _ _ hrd)
  have HX5 := Lib.hid x5
  clear hcv3 hres HT hb4 hrd hb5 x5 HDS3
  obtain ⟨W6, hcv6, hb6, hy6⟩ := ex_conv W5 CC pxC 7 rfl HC.out (by decide)
  have hl5 : W5.heap.size = w4.heap.size + 1 := by rw [← hW5]; simp
  rw [hl5] at hcv6
  have HD7 := Lib.hid (pDeclsC pxC _ _ _ W6 hy6)
  rw [hl5] at HD7
  have HB6 := Lib.hid hb6
  clear hb6 hy6
  subst hW5
  go_wp2_with fail
  refine HD7.out.mono ?_
  rintro e w8 ⟨hb8, SB, sm, sd, ec, rfl, hres⟩
  obtain ⟨rfl, rfl, rfl, rfl⟩ : ec = 2 ∧ SB = none ∧ sm = 0 ∧ sd = 0 := by
    rcases hres with ⟨ds, h, _⟩ | ⟨h, _, h2, h3, h4⟩
    · rw [px_c] at h; cases h
    · rw [px_c] at h; cases h; exact ⟨rfl, h2, h3, h4⟩
  have hb68 := HB6.out.trans (hb8.mono HB6.out.size)
  have x8 := HX5.out.keep hb68 HX5.out.lt
  obtain ⟨b, o, k, g, A', n', c', rfl, _, e1, _, _, hrd2⟩ := (HDS5.out.keep hb68).at_ 2 _ rfl
  have hk1 : k = 1 := by
    obtain ⟨A9, n9, c9, e, _⟩ := Rd_node.1 hrd2
    simp at e
    exact e.1
  subst hk1
  have q0 := x8.cell 0
  have q1 := x8.cell 1
  have q2 := x8.cell 2
  simp only [List.getElem?_toArray, List.getElem?_cons_zero, List.getElem?_cons_succ] at q0 q1 q2
  have HS := Lib.hid (sizeC pxT _ w8 (Rd.keep hb68 _ _ HRD5.out))
  rw [px_s] at HS
  have HB8 := Lib.hid (HB5.out.trans (hb68.mono HB5.out.size))
  have e1' : w8.cell? ⟨b, o + 9, none⟩ = some (.int .i64 1) := e1
  clear hcv6 hres HD7 hb8 hb68 x8 hrd2 e1
  go_wp2_with fail
  refine HS.out.mono ?_
  rintro e w9 ⟨rfl, hb9⟩
  have HB9 := Lib.hid (HB8.out.trans (hb9.mono HB8.out.size))
  have HN := Lib.hid (pNameC ⟨#[122, 39]⟩ (by unfold maxLen; decide) w9)
  rw [px_d] at HN
  clear hb9 HS
  go_wp2_with fail
  refine HN.out.mono ?_
  rintro e w10 ⟨rfl, hb10⟩
  have HB10 := Lib.hid (HB9.out.trans (hb10.mono HB9.out.size))
  have HN2 := Lib.hid (pNameC ⟨#[95, 122]⟩ (by unfold maxLen; decide) w10)
  rw [px_e] at HN2
  clear hb10 HN
  go_wp2_with fail
  refine HN2.out.mono ?_
  rintro e w11 ⟨rfl, hb11⟩
  have HB11 := Lib.hid (HB10.out.trans (hb11.mono HB10.out.size))
  clear hb11 HN2
  go_wp2_with fail
  go_ret
  exact ⟨rfl, HB11.out⟩
end Go.Proofs.Ytdbdeppchlkacaa

/-
  Names that may be declared, in texts: what is read of them. No statement is proved here.
-/
namespace Go.Proofs.Ytdbdeppchlkacaa
open Go.ChangeShapes Go.WideShapes Go.ChangeAt Go.RowKit
set_option linter.unusedVariables false

/-- a name that may be declared -/
structure NmP (s : ByteArray) : Prop where
  ne : s.data.toList ≠ []
  nm : ∀ c ∈ s.data.toList, nmI (bI c) = true
  ty : s ≠ tyN
  sz : s.data.toList.length ≤ 40
theorem nm_of {s : ByteArray} (h : nmB s = true) : NmP s := by
  unfold nmB at h
  simp only [Bool.and_eq_true, decide_eq_true_eq] at h
  obtain ⟨h1, h2, h3, h4, _⟩ := h
  have hl : s.data.toList.length ≤ 40 := by rw [Array.length_toList]; exact h1
  rcases lexE_cases s.data.toList (by omega) with ⟨_, hx⟩ | ⟨h8, _, _⟩
  · rw [h4] at hx
    rcases toks_good hx (0, s) (List.mem_singleton.2 rfl) with ⟨e, _⟩ | ⟨_, e1, e2⟩
    · cases e
    · exact ⟨e1, e2, h2, hl⟩
  · rw [h3] at h8; cases h8
theorem run_mark {o : List Tk} {cur : List UInt8} {c : UInt8} {r : List UInt8} (h : mkI (bI c) = true) : runL ⟨o, cur, false⟩ (c :: r) = runL ⟨flu o cur ++ [(1, ⟨#[c]⟩)], [], false⟩ r := by
  obtain ⟨h1, h2, h3, h4⟩ := mk_notnm h
  rw [runL, show stp ⟨o, cur, false⟩ c = some ⟨flu o cur ++ [(1, ⟨#[c]⟩)], [], false⟩ by unfold stp; simp [h1, h2, h]]
  rfl
theorem NmP.flu {s : ByteArray} (h : NmP s) (o : List Tk) : flu o s.data.toList = o ++ [(0, s)] := by
  rw [flu_cons o h.ne]
theorem NmP.run {s : ByteArray} (h : NmP s) (o : List Tk) (r : List UInt8) : runL ⟨o, [], false⟩ (s.data.toList ++ r) = runL ⟨o, s.data.toList, false⟩ r := by
  rw [runL_append, runL_name o _ h.nm []]
  rfl
theorem toks_decl {s : ByteArray} (h : NmP s) : toksL (s.data.toList ++ [58, 32, 116, 121, 112, 101, 46]) = some [(0, s), mK, (0, tyN), mD] := by
  rw [toksL, h.run, run_mark (by decide), h.flu]
  rfl
theorem toks_one {s : ByteArray} (h : NmP s) : toksL (91 :: (s.data.toList ++ 93 :: s.data.toList)) = some [mL, (0, s), mR, (0, s)] := by
  rw [toksL, run_mark (by decide), h.run, run_mark (by decide), h.flu]
  have := h.run (flu [] [] ++ [(1, ⟨#[91]⟩)] ++ [(0, s)] ++ [(1, ⟨#[93]⟩)]) []
  rw [List.append_nil] at this
  rw [this]
  show some (fin _) = _
  rw [fin, h.flu]
  rfl
theorem toks_two {s t : ByteArray} (h : NmP s) (g : NmP t) : toksL (91 :: (s.data.toList ++ 93 :: 91 :: (t.data.toList ++ 93 :: t.data.toList))) = some [mL, (0, s), mR, mL, (0, t), mR, (0, t)] := by
  rw [toksL, run_mark (by decide), h.run, run_mark (by decide), h.flu, run_mark (by decide), g.run, run_mark (by decide), g.flu]
  have := g.run (flu (flu [] [] ++ [(1, ⟨#[91]⟩)] ++ [(0, s)] ++ [(1, ⟨#[93]⟩)]) [] ++ [(1, ⟨#[91]⟩)] ++ [(0, t)] ++ [(1, ⟨#[93]⟩)]) []
  rw [List.append_nil] at this
  rw [this]
  show some (fin _) = _
  rw [fin, g.flu]
  rfl
theorem lex_of {l : List UInt8} {x : List Tk} (h : toksL l = some x) (hl : l.length ≤ 20000) : lexE l = 0 ∧ lexT l = x := by
  have hn : ¬ 20000 < l.length := by omega
  unfold lexE lexT
  rw [if_neg hn, if_neg hn, h]
  exact ⟨rfl, rfl⟩
theorem term_var (k : Nat) {s : ByteArray} (hs : s ≠ tyN) (bd : List ByteArray) : termM [] (k + 1) (s :: bd) [(0, s)] = .ok (.node 4 0 [], []) := by
  have hh : headM [] (s :: bd) s = .ok (.node 4 0 []) := by
    unfold headM
    rw [posB, if_pos rfl]
    rfl
  rw [term_N [] k (s :: bd) s [] hs hh, others_stop rfl]
theorem term_lam (k : Nat) {s : ByteArray} {bd : List ByteArray} {r y : List Tk} {t : T} (h : termM [] k (s :: bd) r = .ok (t, y)) : termM [] (k + 1) bd (mL :: (0, s) :: mR :: r) = .ok (.node 3 0 [t], y) := by
  rw [term_L, lamM, show namedM mR ((0, s) :: mR :: r) = .ok (s, r) by rw [namedM, name_at]; dsimp only; rw [take_at]]
  dsimp only
  rw [h]
def lamV : T := .node 3 0 [.node 4 0 []]
theorem may_none : mayB (.node 0 0 []) = true := by kernel_rfl
theorem may_one : mayB lamV = true := by kernel_rfl
theorem may_two : mayB (.node 3 0 [lamV]) = true := by kernel_rfl
theorem read_one {s : ByteArray} (h : NmP s) : readT [] (91 :: (s.data.toList ++ 93 :: s.data.toList)) = .ok lamV := by
  have hl : (91 :: (s.data.toList ++ 93 :: s.data.toList) : List UInt8).length ≤ 20000 := by
    have := h.sz
    rw [List.length_cons, List.length_append, List.length_cons]; omega
  obtain ⟨e1, e2⟩ := lex_of (toks_one h) hl
  rw [readT, if_neg (by rw [e1]; simp), e2, wholeE, wholeM, term_lam 119 (term_var 118 h.ty [])]
  dsimp only
  rw [if_pos (show mayB (.node 3 0 [.node 4 0 []]) = true from may_one)]
  rfl
theorem read_two {s t : ByteArray} (h : NmP s) (g : NmP t) : readT [] (91 :: (s.data.toList ++ 93 :: 91 :: (t.data.toList ++ 93 :: t.data.toList))) = .ok (.node 3 0 [lamV]) := by
  have hl : (91 :: (s.data.toList ++ 93 :: 91 :: (t.data.toList ++ 93 :: t.data.toList)) : List UInt8).length ≤ 20000 := by
    have h1 := h.sz
    have h2 := g.sz
    rw [List.length_cons, List.length_append, List.length_cons, List.length_cons, List.length_append, List.length_cons]; omega
  obtain ⟨e1, e2⟩ := lex_of (toks_two h g) hl
  rw [readT, if_neg (by rw [e1]; simp), e2, wholeE, wholeM, term_lam 119 (term_lam 118 (term_var 117 g.ty [s]))]
  dsimp only
  rw [if_pos (show mayB (.node 3 0 [.node 3 0 [.node 4 0 []]]) = true from may_two)]
  rfl
theorem read_decl {s : ByteArray} (hn : nmB s = true) : readD (s.data.toList ++ [58, 32, 116, 121, 112, 101, 46]) = .ok [(s, .node 0 0 [])] := by
  have h := nm_of hn
  have hl : (s.data.toList ++ [58, 32, 116, 121, 112, 101, 46] : List UInt8).length ≤ 20000 := by
    have h1 := h.sz
    rw [List.length_append, show ([58, 32, 116, 121, 112, 101, 46] : List UInt8).length = 7 from rfl]
    omega
  obtain ⟨e1, e2⟩ := lex_of (toks_decl h) hl
  have hd : declM mayB nmB [] [(0, s), mK, (0, tyN), mD] = .ok ((s, .node 0 0 []), []) := by
    rw [declM, name_at]
    dsimp only
    rw [if_pos ⟨hn, rfl⟩, take_at]
    dsimp only
    rw [wholeM, term_T, show aloneM (.ok (.node 0 0 [], [mD])) = .ok (.node 0 0 [], [mD]) from rfl]
    dsimp only
    rw [if_pos may_none]
    dsimp only
    rw [take_at]
  rw [readD, if_neg (by rw [e1]; simp), e2]
  show declsM mayB nmB (3 + 1) [] ((0, s) :: _) = _
  rw [declsM, if_neg (by decide), hd]
  rfl
end Go.Proofs.Ytdbdeppchlkacaa

/-
  What a text in ( ) is read as, and one below a name that binds. No statement is proved here.
-/
namespace Go.Proofs.Ytdbdeppchlkacaa
open Go.ChangeShapes Go.WideShapes Go.ChangeAt Go.RowKit
set_option linter.unusedVariables false

/-- a mark ) behind changes nothing -/
def End (f : List Tk → Except Int (T × List Tk)) : Prop := ∀ l a r, f l = .ok (a, r) → f (l ++ [mC]) = .ok (a, r ++ [mC])
theorem beg_end (l : List Tk) : begM (l ++ [mC]) = begM l := by
  cases l with
  | nil => exact (by decide : begM [mC] = false)
  | cons t l => rfl
theorem args_end {sg bd f} (hi : End f) (hs : Sho f) : ∀ (n m : Nat) (l : List Tk) (us : List T) (r : List Tk), l.length ≤ n → (l ++ [mC]).length ≤ m → argsM sg bd f n l = .ok (us, r) → argsM sg bd f m (l ++ [mC]) = .ok (us, r ++ [mC])
  | 0, 0, [], us, r, hn, hm, h => by simp at hm
  | n + 1, 0, [], us, r, hn, hm, h => by simp at hm
  | 0, m + 1, [], us, r, hn, hm, h => by rw [argsM] at h; cases h; rfl
  | n + 1, m + 1, [], us, r, hn, hm, h => by rw [argsM] at h; cases h; rfl
  | n + 1, 0, t :: l, us, r, hn, hm, h => by simp at hm
  | n + 1, m + 1, t :: l, us, r, hn, hm, h => by
    rw [argsM] at h
    rw [List.cons_append, argsM]
    simp only [List.cons_append, List.length_cons] at hn hm
    split at h
    · rename_i e
      rw [if_pos e]
      split at h
      · cases h
      · rename_i u r1 h1
        split at h
        · cases h
        · rename_i r2 h2
          have a1 := hs _ _ _ h1
          have a2 := take_ok h2
          rw [hi _ _ _ h1]
          dsimp only
          rw [take_ext h2 [mC]]
          dsimp only
          split at h
          · cases h
          · rename_i us' r3 h3
            cases h
            have a3 := congrArg List.length a2
            simp only [List.length_cons, List.length_append] at a3 hm
            rw [args_end hi hs n m r2 us' r (by omega) (by rw [List.length_append]; simp only [List.length_cons, List.length_nil]; omega) h3]
    · rename_i e
      rw [if_neg e]
      split at h
      · rename_i e2
        rw [if_pos e2]
        split at h
        · cases h
        · rename_i e3
          rw [if_neg e3]
          split at h
          · cases h
          · rename_i u hu
            split at h
            · cases h
            · rename_i us' r3 h3
              cases h
              rw [args_end hi hs n m l us' r (by omega) (by omega) h3]
      · rename_i e2
        rw [if_neg e2]
        cases h
        rfl
theorem app_end {sg bd f} (hi : End f) (hs : Sho f) : End (appM sg bd f) := by
  intro l a r h
  cases l with
  | nil => cases h
  | cons t l =>
    rw [appM] at h
    rw [List.cons_append, appM]
    split at h
    · rename_i e
      rw [if_pos e]
      split at h
      · cases h
      · rename_i u r1 h1
        split at h
        · cases h
        · rename_i r2 h2
          rw [hi _ _ _ h1]
          dsimp only
          rw [take_ext h2 [mC]]
          dsimp only
          split at h
          · cases h
          · rename_i hb
            cases h
            rw [beg_end r, if_neg hb]
    · rename_i e
      rw [if_neg e]
      split at h
      · rename_i e2
        rw [if_pos e2]
        split at h
        · rename_i e3
          rw [if_pos e3]
          split at h
          · cases h
          · rename_i hb
            cases h
            rw [beg_end r, if_neg hb]
        · rename_i e3
          rw [if_neg e3]
          split at h
          · cases h
          · rename_i u hu
            split at h
            · cases h
            · rename_i us r3 h3
              cases h
              rw [args_end hi hs l.length (l ++ [mC]).length l us r (Nat.le_refl _) (Nat.le_refl _) h3]
      · cases h
theorem term_end (sg : List (ByteArray × T)) : ∀ (k : Nat) (bd : List ByteArray), End (termM sg k bd)
  | 0, _ => fun l a r h => by rw [termM] at h; cases h
  | k + 1, bd => by
    intro l a r h
    cases l with
    | nil => rw [termM] at h; cases h
    | cons t l =>
      rw [termM] at h
      rw [List.cons_append, termM]
      split at h
      · rename_i e
        rw [if_pos e]
        split at h
        · cases h
        · rename_i s r1 h1
          rw [name_ext h1 [mC]]
          dsimp only
          split at h
          · cases h
          · rename_i r2 h2
            rw [take_ext h2 [mC]]
            dsimp only
            split at h
            · cases h
            · rename_i a' r3 h3
              split at h
              · cases h
              · rename_i r4 h4
                rw [term_end sg k bd _ _ _ h3]
                dsimp only
                rw [take_ext h4 [mC]]
                dsimp only
                split at h
                · cases h
                · rename_i b r5 h5
                  cases h
                  rw [term_end sg k (s :: bd) _ _ _ h5]
      · rename_i e
        rw [if_neg e]
        split at h
        · rename_i e2
          rw [if_pos e2]
          split at h
          · cases h
          · rename_i s r1 h1
            rw [name_ext h1 [mC]]
            dsimp only
            split at h
            · cases h
            · rename_i r2 h2
              rw [take_ext h2 [mC]]
              dsimp only
              split at h
              · cases h
              · rename_i b r3 h3
                cases h
                rw [term_end sg k (s :: bd) _ _ _ h3]
        · rename_i e2
          rw [if_neg e2]
          exact app_end (term_end sg k bd) (term_sho sg k bd) _ _ _ h

/-- a text that is read as a term: its tokens, all of them -/
theorem readT_ok {ds : List (ByteArray × T)} {l : List UInt8} {t : T} (h : readT ds l = .ok t) (hl : l.length ≤ 20000) : toksL l = some (lexT l) ∧ termM ds 120 [] (lexT l) = .ok (t, []) ∧ mayB t = true := by
  unfold readT at h
  split at h
  · cases h
  rename_i h0
  rcases lexE_cases l hl with ⟨_, hx⟩ | ⟨h8, _, _⟩
  rotate_left
  · rw [h8] at h0; exact absurd (by decide) h0
  split at h
  · cases h
  rename_i t' y hw
  cases h
  unfold wholeE at hw
  split at hw
  · cases hw
  rename_i t2 y2 hw2
  split at hw
  rotate_left
  · cases hw
  rename_i hy
  cases hw
  obtain ⟨h1, h2⟩ := whole_ok hw2
  refine ⟨hx, ?_, h2⟩
  cases y2 with
  | nil => exact h1
  | cons z y =>
    have hz : z = (1, ⟨#[]⟩) := hy
    have hg := toks_good hx z (term_sub ds 120 [] _ _ _ h1 z List.mem_cons_self)
    subst hz
    rcases hg with ⟨_, c, e, _⟩ | ⟨e, _⟩
    · cases e
    · cases e
theorem readT_of {ds : List (ByteArray × T)} {l : List UInt8} {x : List Tk} {t : T} (hl : l.length ≤ 20000) (hx : toksL l = some x) (h : termM ds 120 [] x = .ok (t, [])) : readT ds l = .ok t ∨ readT ds l = .error 4 := by
  obtain ⟨e1, e2⟩ := lex_of hx hl
  unfold readT
  rw [if_neg (by rw [e1]; simp), e2, wholeE, wholeM, h]
  dsimp only
  by_cases hm : mayB t = true
  · rw [if_pos hm]; exact .inl rfl
  · rw [if_neg hm]; exact .inr rfl
theorem readT_four {ds : List (ByteArray × T)} {l : List UInt8} {x : List Tk} (hl : l.length ≤ 20000) (hx : toksL l = some x) (h : termM ds 120 [] x = .error 4) : readT ds l = .error 4 := by
  obtain ⟨e1, e2⟩ := lex_of hx hl
  unfold readT
  rw [if_neg (by rw [e1]; simp), e2, wholeE, wholeM, h]
theorem toks_round {l : List UInt8} {x : List Tk} (h : toksL l = some x) : toksL (40 :: (l ++ [10, 41])) = some (mO :: (x ++ [mC])) := by
  rw [toksL, run_mark (by decide), toks_from, toks_join, h]
  rfl
/-- in ( ) -/
theorem read_round {ds : List (ByteArray × T)} {l : List UInt8} {t : T} (h : readT ds l = .ok t) (hl : l.length ≤ 2000) : readT ds (40 :: (l ++ [10, 41])) = .ok t ∨ readT ds (40 :: (l ++ [10, 41])) = .error 4 := by
  obtain ⟨hx, ht, hm⟩ := readT_ok h (by omega)
  have hl2 : (40 :: (l ++ [10, 41])).length ≤ 20000 := by simp; omega
  have h3 := term_end ds 120 [] _ _ _ ht
  have hto : termM ds 120 [] (mO :: (lexT l ++ [mC])) = appM ds [] (termM ds 119 []) (mO :: (lexT l ++ [mC])) := by
    rw [termM, if_neg (by decide), if_neg (by decide)]
  rw [appM, if_pos rfl] at hto
  rcases term_low ds 119 [] (lexT l ++ [mC]) with h4 | h4
  · rw [h4, h3] at hto
    refine readT_of hl2 (toks_round hx) ?_
    rw [hto]
    dsimp only
    rw [List.nil_append, take_at]
    rfl
  · rw [h4] at hto
    exact .inr (readT_four hl2 (toks_round hx) hto)
/-- the name that is not there -/
def ntN : ByteArray := ⟨#[95, 110, 111, 116, 95, 116, 104, 101, 114, 101]⟩
def ntP : List UInt8 := [91, 95, 110, 111, 116, 95, 116, 104, 101, 114, 101, 93, 32]
theorem toks_below {l : List UInt8} {x : List Tk} (h : toksL l = some x) : toksL (ntP ++ l) = some (mL :: (0, ntN) :: mR :: x) := by
  have h1 : runL ⟨[], [], false⟩ ntP = some ⟨[mL, (0, ntN), mR], [], false⟩ := rfl
  rw [toksL, runL_append, h1]
  show (runL ⟨[mL, (0, ntN), mR], [], false⟩ l).map fin = _
  rw [toks_from, h]
  rfl
/-- below that name -/
theorem read_below {ds : List (ByteArray × T)} {l : List UInt8} {t : T} (h : readT ds l = .ok t) (hl : l.length ≤ 2000) (hn : ((0, ntN) : Tk) ∉ lexT l) : readT ds (ntP ++ l) = .ok (.node 3 0 [t]) ∨ readT ds (ntP ++ l) = .error 4 := by
  obtain ⟨hx, ht, hm⟩ := readT_ok h (by omega)
  have hl2 : (ntP ++ l).length ≤ 20000 := by rw [List.length_append]; show 13 + _ ≤ _; omega
  have hto : termM ds 120 [] (mL :: (0, ntN) :: mR :: lexT l) = lamM ds 119 [] ((0, ntN) :: mR :: lexT l) := term_L ds 119 [] _
  rw [lamM, show namedM mR ((0, ntN) :: mR :: lexT l) = .ok (ntN, lexT l) by rw [namedM, name_at]; dsimp only; rw [take_at]] at hto
  dsimp only at hto
  rw [show termM ds 119 [ntN] (lexT l) = termM ds 119 [] (lexT l) from term_out ds ntN 119 [] _ hn] at hto
  rcases term_low ds 119 [] (lexT l) with h4 | h4
  · rw [h4, ht] at hto
    exact readT_of hl2 (toks_below hx) hto
  · rw [h4] at hto
    exact .inr (readT_four hl2 (toks_below hx) hto)

/-- names stand in the text -/
structure InS (a : List UInt8) (s : LSt) : Prop where
  out : ∀ t ∈ s.out, t.1 = 0 → t.2.data.toList <:+: a
  cur : s.cur <:+ a
  ok : LOk s
theorem InS.flu {a : List UInt8} {s : LSt} (h : InS a s) : ∀ t ∈ flu s.out s.cur, t.1 = 0 → t.2.data.toList <:+: a := by
  intro t ht h0
  unfold Go.Proofs.Ytdbdeppchlkacaa.flu at ht
  split at ht
  · exact h.out t ht h0
  · rcases List.mem_append.1 ht with h1 | h1
    · exact h.out t h1 h0
    · rw [List.mem_singleton.1 h1]
      exact h.cur.isInfix
theorem inf_app {x a : List UInt8} (h : x <:+: a) (c : UInt8) : x <:+: a ++ [c] := h.trans (List.prefix_append a [c]).isInfix
theorem InS.step {a : List UInt8} {s s2 : LSt} {c : UInt8} (h : InS a s) (hs : stp s c = some s2) : InS (a ++ [c]) s2 := by
  have hok := stp_ok h.ok hs
  have hf : ∀ t ∈ Go.Proofs.Ytdbdeppchlkacaa.flu s.out s.cur, t.1 = 0 → t.2.data.toList <:+: a ++ [c] := fun t ht h0 => inf_app (h.flu t ht h0) c
  unfold stp at hs
  split at hs
  · rename_i hn
    cases hs
    refine ⟨fun t ht h0 => inf_app (h.out t ht h0) c, ?_, hok⟩
    show s.cur <:+ _
    rw [h.ok hn]; exact List.nil_suffix
  · split at hs
    · cases hs
      refine ⟨fun t ht h0 => inf_app (h.out t ht h0) c, ?_, hok⟩
      obtain ⟨p, hp⟩ := h.cur
      exact ⟨p, by rw [← hp, List.append_assoc]⟩
    · split at hs
      · cases hs; exact ⟨hf, List.nil_suffix, hok⟩
      · split at hs
        · cases hs
          refine ⟨fun t ht h0 => ?_, List.nil_suffix, hok⟩
          rcases List.mem_append.1 ht with h1 | h1
          · exact hf t h1 h0
          · rw [List.mem_singleton.1 h1] at h0; cases h0
        · split at hs
          · cases hs; exact ⟨hf, List.nil_suffix, hok⟩
          · cases hs
theorem InS.run : ∀ (l a : List UInt8) (s s2 : LSt), InS a s → runL s l = some s2 → InS (a ++ l) s2
  | [], a, s, s2, h, hr => by rw [runL] at hr; cases hr; rw [List.append_nil]; exact h
  | c :: l, a, s, s2, h, hr => by
    rw [runL] at hr
    cases hs : stp s c with
    | none => rw [hs] at hr; cases hr
    | some s1 =>
      rw [hs] at hr
      have := InS.run l (a ++ [c]) s1 s2 (h.step hs) hr
      rw [List.append_assoc] at this
      exact this
theorem toks_infix {l : List UInt8} {x : List Tk} (h : toksL l = some x) {t : Tk} (ht : t ∈ x) (h0 : t.1 = 0) : t.2.data.toList <:+: l := by
  unfold toksL at h
  cases hr : runL ⟨[], [], false⟩ l with
  | none => rw [hr] at h; cases h
  | some s =>
    rw [hr] at h
    have hs : fin s = x := by simpa using h
    have hi := InS.run l [] ⟨[], [], false⟩ s ⟨(fun t ht => by cases ht), List.nil_suffix, lok0 []⟩ hr
    rw [List.nil_append] at hi
    rw [← hs] at ht
    exact hi.flu t ht h0
/-- a text that has the name within has it at a place -/
theorem inf_at {x l : List UInt8} (h : x <:+: l) : ∃ i, i + x.length ≤ l.length ∧ (l.drop i).take x.length = x := by
  obtain ⟨p, q, e⟩ := h
  refine ⟨p.length, ?_, ?_⟩
  · rw [← e, List.length_append, List.length_append]; omega
  · rw [← e, List.append_assoc, List.drop_left, List.take_left]
/-- a name that is not at any place is no token -/
theorem nt_none {l : List UInt8} (hl : l.length ≤ 20000) (h : ∀ i, i + 10 ≤ l.length → (l.drop i).take 10 ≠ ntN.data.toList) : ((0, ntN) : Tk) ∉ lexT l := by
  intro hm
  rcases lexE_cases l hl with ⟨_, hx⟩ | ⟨_, _, hx⟩
  · obtain ⟨i, h1, h2⟩ := inf_at (toks_infix hx hm rfl)
    exact h i h1 h2
  · rw [hx] at hm; cases hm
end Go.Proofs.Ytdbdeppchlkacaa

/-
  Arguments' readings that are lists of declarations with their names, and whether they are few. No statement is proved here.
-/
namespace Go.Proofs.Ytdbdeppchlkacaa
open Go.ChangeShapes Go.WideShapes Go.ChangeAt Go.RowKit Go.Deep
set_option linter.unusedVariables false
set_option maxRecDepth 100000
section
variable {H : Type} {enc : TypeId × Value → H} {w : World} {base : Nat} {spare : Nat → Bool} {held : Bool}

theorem cellsDecN : Try.prog.cellsOf 33 = 4 := by kernel_rfl
theorem trod_declN {fuel : Nat} {cs : List Value} {x : DataW H × List MemPlace} (hx : DataW.trod enc Try.prog w base spare held fuel 33 cs = some x) :
    ∃ (y : T) (s : ByteArray) (v1 v2 v3 : Value), cs = [.string s, v1, v2, v3] ∧ Rd w y (.agg #[v1, v2, v3]) ∧ s.size ≤ maxLen := by
  obtain ⟨ys, n, rfl, hxe, hl, hyl, hf⟩ := DataW.trod_struct Try.underlying33 hx
  rw [cellsDecN] at hl
  match cs, hl with
  | [v0, v1, v2, v3], _ =>
    match ys, hyl with
    | [y0, y1], _ =>
      have h0 : DataW.trod enc Try.prog w base spare held n 9 (([v0, v1, v2, v3].drop 0).take (Try.prog.cellsOf 9)) = some y0 := hf 0 _ rfl
      have h1 : DataW.trod enc Try.prog w base spare held n 31 (([v0, v1, v2, v3].drop 1).take (Try.prog.cellsOf 31)) = some y1 := hf 1 _ rfl
      simp only [cellsStr, Try.cellsTerm, List.drop_zero, List.drop_succ_cons, List.take_succ_cons, List.take_zero] at h0 h1
      obtain ⟨s, e0, _, hs⟩ := DataW.trod_string Try.underlying9 h0
      simp only [List.cons.injEq, and_true] at e0
      subst e0
      obtain ⟨t, u0, u1, u2, e, hr, hle, _⟩ := trod_term n _ _ h1
      simp only [List.cons.injEq, and_true] at e
      obtain ⟨rfl, rfl, rfl⟩ := e
      exact ⟨t, s, _, _, _, rfl, hr, hs⟩
/-- one declaration, in memory -/
def DNt (w : World) (A : Option Addr) (i : Nat) (d : ByteArray × T) : Prop := ∃ b o k h A' n' c', A = some ⟨b, o, none⟩ ∧ w.cell? ⟨b, o + i * 4, none⟩ = some (.string d.1) ∧ w.cell? ⟨b, o + i * 4 + 1, none⟩ = some (.int .i64 k) ∧ w.cell? ⟨b, o + i * 4 + 2, none⟩ = some (.int .i64 h) ∧
    w.cell? ⟨b, o + i * 4 + 3, none⟩ = some (.slice A' n' c') ∧ Rd w d.2 (.agg #[.int .i64 k, .int .i64 h, .slice A' n' c'])
theorem list_ofN {α : Type} {P : Nat → α → Prop} : ∀ (n : Nat), (∀ i, i < n → ∃ y, P i y) → ∃ xs : List α, xs.length = n ∧ ∀ i y, xs[i]? = some y → P i y
  | 0, _ => ⟨[], rfl, fun i y h => by simp at h⟩
  | n + 1, h => by
    obtain ⟨xs, hl, hx⟩ := list_ofN n fun i hi => h i (by omega)
    obtain ⟨y, hy⟩ := h n (by omega)
    refine ⟨xs ++ [y], by simp [hl], fun i z hz => ?_⟩
    by_cases hi : i < n
    · rw [List.getElem?_append_left (by omega)] at hz
      exact hx i z hz
    · have h2 := (List.getElem?_eq_some_iff.1 hz).1
      simp only [List.length_append, List.length_cons, List.length_nil] at h2
      obtain rfl : n = i := by omega
      rw [List.getElem?_append_right (by omega), hl, Nat.sub_self, List.getElem?_cons_zero, Option.some.injEq] at hz
      rw [← hz]; exact hy
theorem open_declsN {r : Reach} {b0 : Nat} {v : Value} {d : DataW H} {p : List MemPlace} (hv : Value.okWide Try.prog w r b0 24 v) (h : DataW.Trod enc Try.prog w base spare held 24 v d p) :
    ∃ (ds : List (ByteArray × T)) (A : Option Addr) (n c : Nat), v = .slice A n c ∧ DS w ds A n c := by
  obtain ⟨fuel, hf⟩ := h
  obtain ⟨a0, l0, c0, rfl⟩ := okWide_slice Try.underlying24 hv
  rcases DataW.trod_slice Try.underlying24 hf with ⟨e2, hy2⟩ | ⟨a, len, cap, elems, rest, m, rfl, e2, hy2, hb, hlc, hm, hel, hat, _, _⟩
  · simp only [Value.cells, List.cons.injEq, and_true] at e2
    exact ⟨[], none, 0, 0, e2, DS.nil w⟩
  · simp only [Value.cells, List.cons.injEq, and_true] at e2
    rw [e2]
    have first : ∀ i, i < len → ∃ y : T, ∃ s v1 v2 v3, w.cell? (a.add (i * 4 + 0)) = some (.string s) ∧ w.cell? (a.add (i * 4 + 1)) = some v1 ∧ w.cell? (a.add (i * 4 + 2)) = some v2 ∧ w.cell? (a.add (i * 4 + 3)) = some v3 ∧ Rd w y (.agg #[v1, v2, v3]) ∧ s.size ≤ maxLen := by
      intro i hi
      have hi' := hat i hi
      rw [List.getElem?_eq_getElem (by omega), Option.bind_eq_some_iff] at hi'
      obtain ⟨cs', hcs, htr⟩ := hi'
      obtain ⟨y, s, u1, u2, u3, rfl, hr, hle⟩ := trod_declN htr
      rw [cellsDecN] at hcs
      obtain ⟨_, _, hcell⟩ := World.cells?_some hcs
      have c0 := hcell 0 (by omega)
      have c1 := hcell 1 (by omega)
      have c2 := hcell 2 (by omega)
      have c3 := hcell 3 (by omega)
      simp only [List.getElem?_cons_zero, List.getElem?_cons_succ, add_add] at c0 c1 c2 c3
      exact ⟨y, s, u1, u2, u3, c0, c1, c2, c3, hr, hle⟩
    have each : ∀ i, i < len → ∃ y : ByteArray × T, DNt w (some a) i y ∧ y.1.size ≤ maxLen := by
      intro i hi
      obtain ⟨y, s, v1, v2, v3, c0, c1, c2, c3, hr, hs⟩ := first i hi
      obtain ⟨y', _, _, _, _, c00, _⟩ := first 0 (by omega)
      have hs0 := cell_spotX c00
      obtain ⟨b, o, sp⟩ := a
      have hsp : sp = none := by simpa [Addr.add] using hs0
      subst hsp
      rw [addr_addX] at c0 c1 c2 c3
      obtain ⟨k, h, A, n, c, e⟩ := hr.full
      simp only [Value.agg.injEq, Array.mk.injEq, List.cons.injEq, and_true] at e
      obtain ⟨rfl, rfl, rfl⟩ := e
      exact ⟨(s, y), ⟨b, o, k, h, A, n, c, rfl, c0, by rw [Nat.add_assoc]; exact c1, by rw [Nat.add_assoc]; exact c2, by rw [Nat.add_assoc]; exact c3, hr⟩, hs⟩
    obtain ⟨xs, hxl, hxs⟩ := list_ofN len each
    exact ⟨xs, some a, len, cap, rfl, hxl, hlc, hm, fun x hx => by
      obtain ⟨i, hi⟩ := List.getElem?_of_mem hx
      exact (hxs i x hi).2, fun i y hy => (hxs i y hy).1⟩
end
set_option maxRecDepth 100000 in
set_option maxHeartbeats 800000 in
theorem fewN (ds : List (ByteArray × T)) (A : Option Addr) (n c : Nat) (w : World) (hx : DS w ds A n c) :
    Calls Try.prog 14 #[.slice A n c] w fun e w' => ∃ r : Bool, e = .returned (.bool r) ∧ (r = true → n ≤ 30) ∧ Below w.heap.size w w' := by
  have hm := hx.cap
  have hc := hx.le
  have hln := hx.len
  unfold maxLen at hm
  have HX := Lib.hid hx; clear hx
  by_cases hgt : 30 < n
  · have d1 : decide ((30 : Int) < (n : Int)) = true := by simp; omega
    clear hgt
    go_enter Try.func14, Try.ntmps14
    go_wp2_with fail
    go_ret
    exact ⟨_, rfl, (fun h => by cases h), Below.refl _ _⟩
  · have d1 : decide ((30 : Int) < (n : Int)) = false := by simp; omega
    go_enter Try.func14, Try.ntmps14
    go_wp2_with fail
    go_loopw [3] (fun i wr => ∃ (j : Nat), j ≤ n ∧ i = .int .i64 j ∧ Below w.heap.size w wr) (fun i _ => n - (Go.RowKit.intOf i).toNat)
    case atStart => exact ⟨0, Nat.zero_le _, rfl, Below.refl _ _⟩
    case round =>
      obtain ⟨j, hj, rfl, hb⟩ := hrel
      by_cases hlt : j < n
      · obtain ⟨x, hx⟩ := at_ofX hln hlt
        obtain ⟨b1, o1, k1, h1, A1, n1, c1, hA, c0, c1', c2, c3, hr1⟩ := (HX.out.keep hb).at_ j x hx
        subst hA
        have hi0 : (0 : Int) ≤ j := by omega
        have hi1 : (j : Int) < n := by omega
        have HC := Lib.hid (refLight x.2 1000 80 _ wr hr1)
        clear hr1 hx
        generalize ltB x.2 1000 80 = r at *
        go_wp2_with fail
        refine HC.out.mono ?_
        rintro e w1 ⟨rfl, hb1⟩
        replace hb := hb.trans (hb1.mono hb.size)
        clear hb1 c0 c1' c2 c3 HC
        cases r
        · go_wp2_with fail
          go_ret
          exact ⟨_, rfl, (fun h => by cases h), hb⟩
        · go_wp2_with fail
          go_roundw
          case rel => exact ⟨j + 1, by omega, by go_num, hb⟩
          case measure => simp [Go.RowKit.intOf]; omega
      · go_wp2_with fail
        go_ret
        exact ⟨_, rfl, (fun _ => by omega), hb⟩
end Go.Proofs.Ytdbdeppchlkacaa

/-
  Bytes appended to a text that was laid whole. No statement is proved here.
-/
namespace Go.Proofs.Ytdbdeppchlkacaa
open Go.ChangeShapes Go.WideShapes Go.ChangeAt Go.RowKit
set_option linter.unusedVariables false

theorem strCells_eq (s : ByteArray) : Lib.strCells s = s.data.toList.map bV := rfl
/-- a string is appended -/
theorem YRow.appS {w : World} {base : Nat} {v : Value} {n : Nat} {l : List UInt8} (h : YRow w base v n l) (s : ByteArray) (hb : base ≤ w.heap.size) (hn : n + s.size ≤ 140737488355328) :
    ∃ A c w', (Builtin.append_ #[22, 9] 22 #[v, .string s]).run Try.prog w = .ok (.slice A (n + s.size) c) w' ∧ YRow w' base (.slice A (n + s.size) c) (n + s.size) (l ++ s.data.toList) ∧ w.grownBy w' v.ownBlock := by
  obtain ⟨i0, hi, hz0, hz1, hz2⟩ := info_u8
  have hsz : s.size = s.data.toList.length := by rw [Array.length_toList]; rfl
  obtain ⟨v', w', hr, h2, h3, _⟩ := Lib.run_append_own_string (P := Try.prog) w base 22 9 22 5 i0 Try.underlying22 Try.underlying9 hi hz0 hz1 hz2 v n _ h.own s (by unfold maxLen; omega) (by omega) hb
  rw [strCells_eq, ← List.map_append] at h2
  have hrow : YRow w' base v' (n + s.size) (l ++ s.data.toList) := ⟨h2, by rw [List.length_append, h.len, hsz]⟩
  obtain ⟨A, c, rfl, _, _⟩ := hrow.full
  exact ⟨A, c, w', hr, hrow, h3⟩
/-- a text laid whole, turned to bytes, and bytes appended to it -/
theorem app_laid (w : World) (z : Nat) (hz : w.heap.size = z) (C : Array Value) (l1 : List UInt8) (p : Nat) (hp : l1.length = p) (hC : C.toList = l1.map bV) (hl : p ≤ 1000000) {l2 : List UInt8} {A : Option Addr} {m c : Nat} (h2 : YL w l2 A m c) (hm : 0 < m) (hm2 : m ≤ 1000000) :
    ∃ W1 A' c' W2, (convert 22 22 (.slice (some ⟨z, 0, none⟩) p p)).run Try.prog (w.alloc (.cells C 5)) = .ok (.slice (some ⟨z, 0, none⟩) p p) W1 ∧
      (Builtin.append_ #[22, 22] 22 #[.slice (some ⟨z, 0, none⟩) p p, .slice A m c]).run Try.prog W1 = .ok (.slice A' (p + m) c') W2 ∧
      YRow W2 w.heap.size (.slice A' (p + m) c') (p + m) (l1 ++ l2) ∧ Below w.heap.size w W2 := by
  subst hz
  subst hp
  obtain ⟨i0, hi, hz0, hz1, hz2⟩ := info_u8
  obtain ⟨W, hW⟩ : ∃ W, w.alloc (.cells C 5 (C.size, C.size + 1)) = W := ⟨_, rfl⟩
  have hb1 : Below w.heap.size w W := by rw [← hW]; exact (Below.refl _ _).alloc (Nat.le_refl _) _
  have hblk : W.heap[w.heap.size]? = some (.cells C 5 (C.size, C.size + 1)) := by rw [← hW]; exact heap_alloc_new w _
  have h2' := h2.keep hb1
  obtain ⟨x, hx⟩ := at_ofX h2'.len hm
  obtain ⟨b, o, e, _⟩ := h2'.at_ 0 x hx
  subst e
  have hr := run_append_grow (P := Try.prog) W 22 22 5 i0 _ Try.underlying22 hi hz0 ⟨w.heap.size, 0, none⟩ l1.length l1.length (l1.map bV) (by rw [List.length_map, hz1]; omega)
    (fun j v hv => by
      rw [addr_addX]
      have hs : (⟨w.heap.size, 0 + j, none⟩ : Addr) = ⟨w.heap.size, j, none⟩ := by rw [Nat.zero_add]
      rw [hs]
      simp only [World.cell?, hblk]
      rw [← hC] at hv
      simpa using hv) ⟨b, o, none⟩ m c (l2.map bV) (by rw [List.length_map, h2.len, hz1]; omega) (fun j u hu => by
      rw [List.getElem?_map] at hu
      cases hj : l2[j]? with
      | none => rw [hj] at hu; cases hu
      | some v =>
        rw [hj] at hu
        cases hu
        obtain ⟨b', o', e, c0⟩ := h2'.at_ j v hj
        cases e
        rw [addr_addX]
        exact c0) (by omega) (by omega) (growslice_fits (by omega) (by rw [hz2]; omega))
  have hge := grownCap_ge W (l1.length + m) l1.length 5
  have hcm := grownCap_le_maxLen W (l1.length + m) l1.length 5 (by unfold maxLen; omega)
  have hzc : (Value.int .u8 0).cells.size = 1 := rfl
  have hsz := hb1.size
  have hWs : W.heap.size = w.heap.size + 1 := by rw [← hW]; simp
  refine ⟨W, _, _, _, by rw [← hW]; exact run_convSame w C _ _, hr, ⟨⟨?_, .inr ⟨W.heap.size, _, _, rfl, hsz, heap_alloc_new W.drew _, hge, hcm, ?_, ?_⟩⟩, ?_⟩, ?_⟩
  · rw [List.length_map, List.length_append, h2.len]; omega
  · simp only [Array.size_append, List.size_toArray, size_zeroCells, hzc, List.length_map, h2.len]
    omega
  · simp only [Array.toList_append, List.append_assoc]
    rw [← List.append_assoc, ← List.map_append]
    have : ((l1 ++ l2).map bV).length = (l1.length + m) * 1 := by rw [List.length_map, List.length_append, h2.len]; omega
    rw [← this]
    exact List.take_left
  · rw [List.length_append, h2.len]
  · exact hb1.trans (((Below.refl _ W).drew.alloc (Nat.le_refl _) _).mono hsz)
theorem YL.sub {w : World} {l : List UInt8} {b o n c : Nat} (h : YL w l (some ⟨b, o, none⟩) n c) (j k : Nat) (hjk : j ≤ k) (hk : k ≤ n) : YL w ((l.drop j).take (k - j)) (some ⟨b, o + j, none⟩) (k - j) (c - j) := by
  have hl := h.len
  have hc := h.le
  have hm := h.cap
  refine ⟨by simp; omega, by omega, by omega, fun i u hu => ?_⟩
  rw [List.getElem?_take] at hu
  split at hu
  · rw [List.getElem?_drop] at hu
    obtain ⟨b', o', e, c0⟩ := h.at_ (j + i) u hu
    cases e
    exact ⟨b, o + j, rfl, by rw [Nat.add_assoc]; exact c0⟩
  · cases hu
end Go.Proofs.Ytdbdeppchlkacaa

/-
  The walk of ParseWraps. No statement is proved here.
-/
namespace Go.Proofs.Ytdbdeppchlkacaa
open Go.ChangeShapes Go.WideShapes Go.ChangeAt Go.RowKit
set_option linter.unusedVariables false

theorem readT_nil (ds : List (ByteArray × T)) (t : T) : readT ds [] ≠ .ok t := by
  intro h
  obtain ⟨_, h2, _⟩ := readT_ok h (by simp)
  rw [show lexT [] = [] from rfl, termM] at h2
  cases h2
set_option maxRecDepth 100000 in
set_option maxHeartbeats 2000000 in
theorem parseWrapsC (l : List UInt8) (A : Option Addr) (n c : Nat) (ds : List (ByteArray × T)) (SA : Option Addr) (sn sc : Nat) (w : World) (h : YL w l A n c) (hd : DS w ds SA sn sc) :
    Calls Try.prog 5 #[.slice A n c, .slice SA sn sc] w fun e w' => e = .returned (.bool true) ∧ Below w.heap.size w w' := by
  have hlen := h.len
  have hcap := h.cap
  have hle := h.le
  have slen := hd.len
  have scap := hd.cap
  have sle := hd.le
  unfold maxLen at hcap scap
  have HA := Lib.hid (pAwakeC w)
  have HY := Lib.hid h
  have HS := Lib.hid hd
  clear h hd
  obtain ⟨CB, hCB⟩ : ∃ C : Array Value, #[.int .u8 91, .int .u8 95, .int .u8 110, .int .u8 111, .int .u8 116, .int .u8 95, .int .u8 116, .int .u8 104, .int .u8 101, .int .u8 114, .int .u8 101, .int .u8 93, .int .u8 32] = C := ⟨_, rfl⟩
  have HCB := Lib.hid (show CB.toList = ntP.map bV by rw [← hCB]; rfl)
  go_enter Try.func5, Try.ntmps5
  go_wp2_with fail
  refine HA.out.mono ?_
  rintro e w1 ⟨rfl, hb1⟩
  have HB1 := Lib.hid hb1
  have HF := Lib.hid (fewN ds SA sn sc w1 (HS.out.keep hb1))
  clear HA hb1
  go_wp2_with fail
  refine HF.out.mono ?_
  rintro e w2 ⟨r, rfl, hfew, hb2⟩
  have HB2 := Lib.hid (HB1.out.trans (hb2.mono HB1.out.size))
  clear HF hb2
  cases r with
  | false =>
    go_wp2_with fail
    go_ret
    exact ⟨rfl, HB2.out⟩
  | true =>
  have hs30 := hfew rfl
  clear hfew
  by_cases hgt : 2000 < n
  · have d1 : decide ((2000 : Int) < (n : Int)) = true := by simp; omega
    go_wp2_with fail
    go_ret
    exact ⟨rfl, HB2.out⟩
  have d1 : decide ((2000 : Int) < (n : Int)) = false := by simp; omega
  have HT := Lib.hid (pTermTopC l A n c ds SA sn sc w2 (HY.out.keep HB2.out) (HS.out.keep HB2.out) (by omega))
  go_wp2_with fail
  refine HT.out.mono ?_
  rintro e w3 ⟨hb3, k1, g1, A1, n1, c1, ec, rfl, hres⟩
  have HB3 := Lib.hid (HB2.out.trans (hb3.mono HB2.out.size))
  clear HT hb3
  rcases hres with ⟨t, hr1, rfl, hrd1⟩ | ⟨_, hne, rfl, rfl, rfl, rfl, rfl⟩
  rotate_left
  · have d9 : (ec == 0) = false := by simpa using hne
    have d8 : (ec != 0) = true := by simpa using hne
    go_wp2_with fail
    go_ret
    exact ⟨rfl, (HB3.out.alloc HB3.out.size _)⟩
  have hn0 : 0 < n := by
    rcases Nat.eq_zero_or_pos n with rfl | h
    · have : l = [] := List.length_eq_zero_iff.1 hlen
      subst this
      exact absurd hr1 (readT_nil ds t)
    · exact h
  have hn2 : n ≤ 2000 := by omega
  have HR1 := Lib.hid hr1
  have hB3 : Below w3.heap.size w3 (w3.alloc (.cells #[.int .i64 k1, .int .i64 g1, .slice A1 n1 c1] 31)) := (Below.refl _ _).alloc (Nat.le_refl _) _
  have hb03 := HB3.out.trans (hB3.mono HB3.out.size)
  have x3 := BoxX.new w3 31 #[.int .i64 k1, .int .i64 g1, .slice A1 n1 c1]
  have hrd3 := Rd.keep hB3 _ _ hrd1
  obtain ⟨W4, A4, c4, w4, hcv4, hrun4, hy4, hb4⟩ := app_laid (w3.alloc (.cells #[.int .i64 k1, .int .i64 g1, .slice A1 n1 c1] 31)) (w3.heap.size + 1) (by simp) #[.int .u8 40] [40] 1 rfl rfl (by omega) (HY.out.keep hb03) hn0 (by omega)
  obtain ⟨A5, c5, w5, hrun5, hy5, hg5⟩ := hy4.appS ⟨#[10, 41]⟩ hb4.size (by show 1 + n + 2 ≤ _; omega)
  rw [show (⟨#[10, 41]⟩ : ByteArray).size = 2 from rfl] at hrun5 hy5
  have hb5 := below_grownQ hb4 hg5 (fun r hr => (hy4.lt hr).1) hb4.size
  have hs5 := hb5.size
  have hb35 := hB3.trans (hb5.mono hB3.size)
  have HX5 := Lib.hid (x3.keep hb5 x3.lt)
  have HD5 := Lib.hid (Rd.keep hb5 _ _ hrd3)
  have hb05 := HB3.out.trans (hb35.mono HB3.out.size)
  have HB5 := Lib.hid hb05
  have HT2 := Lib.hid (pTermTopC _ _ _ _ ds SA sn sc w5 hy5.yl (HS.out.keep hb05) (by omega))
  clear hB3 hb03 x3 hrd3 hrd1 hy4 hb4 hy5 hg5 hb5 hb35 hb05 hr1
  go_wp2_with (at_builtin; first | (refine Lib.wpList_append_run _ rfl _ _ _ _ rfl _ _ rfl rfl _ _ hrun4 ?_; clear hrun4) | (refine Lib.wpList_append_run _ rfl _ _ _ _ rfl _ _ rfl rfl _ _ hrun5 ?_; clear hrun5))
  refine HT2.out.mono ?_
  rintro e w6 ⟨hb6, k2, g2, A2, n2, c2, ec2, rfl, hres2⟩
  have HX6 := Lib.hid (HX5.out.keep hb6 HX5.out.lt)
  have HD6 := Lib.hid (Rd.keep hb6 _ _ HD5.out)
  have HB6 := Lib.hid (HB5.out.trans (hb6.mono HB5.out.size))
  rw [List.append_assoc, List.singleton_append] at hres2
  have HE2 : Hid (ec2 = 0 ∧ Rd w6 t (.agg #[.int .i64 k2, .int .i64 g2, .slice A2 n2 c2]) ∨ ec2 = 4) := Lib.hid (by
    rcases read_round HR1.out (by omega) with hq | hq
    · rcases hres2 with ⟨t', q1, q2, q3⟩ | ⟨q1, _⟩
      · rw [hq] at q1; cases q1; exact .inl ⟨q2, q3⟩
      · rw [hq] at q1; cases q1
    · rcases hres2 with ⟨t', q1, _⟩ | ⟨q1, _⟩
      · rw [hq] at q1; cases q1
      · rw [hq] at q1; cases q1; exact .inr rfl)
  clear HT2 hb6 hres2 HX5 HD5 HB5 hcv4
  have hB6 : Below w6.heap.size w6 (w6.alloc (.cells #[.int .i64 k2, .int .i64 g2, .slice A2 n2 c2] 31)) := (Below.refl _ _).alloc (Nat.le_refl _) _
  have hb06 := HB6.out.trans (hB6.mono HB6.out.size)
  have x6 := HX6.out.keep hB6 HX6.out.lt
  have z6 := BoxX.new w6 31 #[.int .i64 k2, .int .i64 g2, .slice A2 n2 c2]
  obtain ⟨W7, A7, c7, w7, hcv7, hrun7, hy7, hb7⟩ := app_laid (w6.alloc (.cells #[.int .i64 k2, .int .i64 g2, .slice A2 n2 c2] 31)) (w6.heap.size + 1) (by simp) CB ntP 13 rfl HCB.out (by omega) (HY.out.keep hb06) hn0 (by omega)
  have hb67 := hB6.trans (hb7.mono hB6.size)
  have HX7 := Lib.hid (x6.keep hb7 x6.lt)
  have HZ7 := Lib.hid (z6.keep hb7 z6.lt)
  have HD7 := Lib.hid (Rd.keep hb67 _ _ HD6.out)
  have hb07 := HB6.out.trans (hb67.mono HB6.out.size)
  have HB7 := Lib.hid hb07
  have HE7 : Hid (ec2 = 0 ∧ Rd w7 t (.agg #[.int .i64 k2, .int .i64 g2, .slice A2 n2 c2]) ∨ ec2 = 4) := Lib.hid (by
    rcases HE2.out with ⟨q1, q2⟩ | q
    · exact .inl ⟨q1, Rd.keep hb67 _ _ q2⟩
    · exact .inr q)
  have HT3 := Lib.hid (pTermTopC _ _ _ _ ds SA sn sc w7 hy7.yl (HS.out.keep hb07) (by omega))
  clear hB6 hb06 x6 z6 hy7 hb7 hb67 hb07 HX6 HD6 HE2
  go_wp2_with (at_builtin; first | (refine Lib.wpList_append_run _ rfl _ _ _ _ rfl _ _ rfl rfl _ _ hrun7 ?_; clear hrun7))
  refine HT3.out.mono ?_
  rintro e w8 ⟨hb8, k3, g3, A3, n3, c3, ec3, rfl, hres3⟩
  have hB8 : Below w8.heap.size w8 (w8.alloc (.cells #[.int .i64 k3, .int .i64 g3, .slice A3 n3 c3] 31)) := (Below.refl _ _).alloc (Nat.le_refl _) _
  have hb78 := hb8.trans (hB8.mono hb8.size)
  obtain ⟨X, hX⟩ : ∃ X, w8.alloc (.cells #[.int .i64 k3, .int .i64 g3, .slice A3 n3 c3] 31) = X := ⟨_, rfl⟩
  have z8 := BoxX.new w8 31 #[.int .i64 k3, .int .i64 g3, .slice A3 n3 c3]
  rw [hX] at hB8 hb78 z8
  have y3 := HX7.out.keep hb78 HX7.out.lt
  have y6 := HZ7.out.keep hb78 HZ7.out.lt
  have HDX := Lib.hid (Rd.keep hb78 _ _ HD7.out)
  have HBX := Lib.hid (HB7.out.trans (hb78.mono HB7.out.size))
  have HYX := Lib.hid (HY.out.keep HBX.out)
  have HSX := Lib.hid (HS.out.keep HBX.out)
  have HEX : Hid (ec2 = 0 ∧ Rd X t (.agg #[.int .i64 k2, .int .i64 g2, .slice A2 n2 c2]) ∨ ec2 = 4) := Lib.hid (by
    rcases HE7.out with ⟨q1, q2⟩ | q
    · exact .inl ⟨q1, Rd.keep hb78 _ _ q2⟩
    · exact .inr q)
  have HE3 : Hid ((ec3 = 0 ∧ ∃ tv, Rd X tv (.agg #[.int .i64 k3, .int .i64 g3, .slice A3 n3 c3]) ∧ (((0, ntN) : Tk) ∉ lexT l → tv = .node 3 0 [t])) ∨ (ec3 ≠ 0 ∧ (((0, ntN) : Tk) ∉ lexT l → ec3 = 4))) := Lib.hid (by
    rcases hres3 with ⟨t', q1, q2, q3⟩ | ⟨q1, q2, _⟩
    · refine .inl ⟨q2, t', Rd.keep hB8 _ _ q3, fun hn => ?_⟩
      rcases read_below HR1.out (by omega) hn with hq | hq
      · rw [hq] at q1; cases q1; rfl
      · rw [hq] at q1; cases q1
    · refine .inr ⟨q2, fun hn => ?_⟩
      rcases read_below HR1.out (by omega) hn with hq | hq
      · rw [hq] at q1; cases q1
      · rw [hq] at q1; cases q1; rfl)
  have HV3 := Lib.hid y3
  have HV6 := Lib.hid y6
  have HV8 := Lib.hid z8
  clear HT3 hb8 hres3 HX7 HZ7 HD7 HB7 HE7 hcv7 hB8 hb78 z8 y3 y6
  obtain ⟨x0, hx0⟩ := at_ofX hlen hn0
  obtain ⟨bA, oA, eA, _⟩ := HY.out.at_ 0 x0 hx0
  subst eA
  clear hx0
  go_wp2_with fail
  clear hX
  go_loopw [15, 16] (fun m i wr => ∃ (j : Nat) (M : Bool), j ≤ n ∧ i = .int .i64 j ∧ m = .bool M ∧ Hid (M = false → ∀ q, q < j → q + 10 ≤ n → (l.drop q).take 10 ≠ ntN.data.toList) ∧ Hid (Below X.heap.size X wr)) (fun _ i _ => n - (Go.RowKit.intOf i).toNat)
  case atStart => exact ⟨0, false, Nat.zero_le _, rfl, rfl, Lib.hid (fun _ q hq => by omega), Lib.hid (Below.refl _ _)⟩
  case round =>
    obtain ⟨j, M, hj, rfl, rfl, HM, HBr⟩ := hrel
    by_cases hlt : j + 10 ≤ n
    · have d2 : decide ((j : Int) + 10 ≤ (n : Int)) = true := by simp; omega
      cases M with
      | true =>
        go_wp2_with fail
        go_roundw
        case rel => exact ⟨j + 1, true, by omega, by go_num, rfl, Lib.hid (fun h => by cases h), HBr⟩
        case measure => simp [Go.RowKit.intOf]; omega
      | false =>
        have hcv := run_string ((HYX.out.keep HBr.out).sub j (j + 10) (by omega) hlt)
        rw [show j + 10 - j = 10 by omega] at hcv
        obtain ⟨su, hsu⟩ : ∃ su, (ByteArray.mk ((l.drop j).take 10).toArray) = su := ⟨_, rfl⟩
        rw [hsu] at hcv
        have hi0 : (0 : Int) ≤ (j : Int) := by omega
        have hi1 : (0 : Int) ≤ (j : Int) + 10 := by omega
        have hi2 : (j : Int) + 10 ≤ (n : Int) := by omega
        have hi3 : (j : Int) ≤ (j : Int) + 10 := by omega
        have HSU := Lib.hid hsu
        obtain ⟨B, hB⟩ : ∃ B, (su.toList == (⟨#[95, 110, 111, 116, 95, 116, 104, 101, 114, 101]⟩ : ByteArray).toList) = B := ⟨_, rfl⟩
        clear hsu
        go_wp2_with fail
        go_roundw
        case rel => exact ⟨j + 1, su.toList == [95, 110, 111, 116, 95, 116, 104, 101, 114, 101], by omega, by go_num, rfl, Lib.hid (fun hf q hq hqn => by
          by_cases hqj : q < j
          · exact HM.out rfl q hqj hqn
          · obtain rfl : q = j := by omega
            intro he
            have hsu := HSU.out
            rw [he] at hsu
            rw [← hsu, show ((ByteArray.mk ntN.data.toList.toArray).toList == [95, 110, 111, 116, 95, 116, 104, 101, 114, 101]) = true by kernel_rfl] at hf
            cases hf), HBr⟩
        case measure => simp [Go.RowKit.intOf]; omega
    · have d2 : decide ((j : Int) + 10 ≤ (n : Int)) = false := by simp; omega
      have HN : Hid (M = false → ((0, ntN) : Tk) ∉ lexT l) := Lib.hid (fun hf => nt_none (by omega) fun i hi => HM.out hf i (by omega) (by omega))
      clear HM HYX
      go_wp2_with fail
      go_loopw [15, 17] (fun m i wr => ∃ (j2 : Nat) (M2 : Bool), j2 ≤ sn ∧ i = .int .i64 j2 ∧ m = .bool M2 ∧ Hid (M2 = false → M = false) ∧ Hid (Below X.heap.size X wr)) (fun _ i _ => sn - (Go.RowKit.intOf i).toNat)
      case atStart => exact ⟨0, M, Nat.zero_le _, rfl, rfl, Lib.hid (fun h => h), HBr⟩
      case round =>
        clear HBr
        obtain ⟨j2, M2, hj2, rfl, rfl, HM2, HBr⟩ := hrel
        by_cases hlt2 : j2 < sn
        · cases M2 with
          | true =>
            go_wp2_with fail
            go_roundw
            case rel => exact ⟨j2 + 1, true, by omega, by go_num, rfl, Lib.hid (fun h => by cases h), HBr⟩
            case measure => simp [Go.RowKit.intOf]; omega
          | false =>
            obtain ⟨d, hd⟩ := at_ofX slen hlt2
            obtain ⟨b1, o1, k9, g9, A9, n9, c9, hA, e0, e1, e2, e3, hr9⟩ := (HSX.out.keep HBr.out).at_ j2 d hd
            subst hA
            have hi0 : (0 : Int) ≤ (j2 : Int) := by omega
            have hi1 : (j2 : Int) < (sn : Int) := by omega
            clear hr9 hd e1 e2 e3
            go_wp2_with fail
            go_roundw
            case rel => exact ⟨j2 + 1, d.1.toList == [95, 110, 111, 116, 95, 116, 104, 101, 114, 101], by omega, by go_num, rfl, Lib.hid (fun _ => HM2.out rfl), HBr⟩
            case measure => simp [Go.RowKit.intOf]; omega
        · have HNN : Hid (M2 = false → ((0, ntN) : Tk) ∉ lexT l) := Lib.hid (fun hf => HN.out (HM2.out hf))
          have y3 := HV3.out.keep HBr.out HV3.out.lt
          have y6 := HV6.out.keep HBr.out HV6.out.lt
          have y8 := HV8.out.keep HBr.out HV8.out.lt
          have hrt := Rd.keep HBr.out _ _ HDX.out
          have HBV := Lib.hid (HBX.out.trans (HBr.out.mono HBX.out.size))
          have HG3 : Hid ((ec3 = 0 ∧ ∃ tv, Rd wr tv (.agg #[.int .i64 k3, .int .i64 g3, .slice A3 n3 c3]) ∧ (((0, ntN) : Tk) ∉ lexT l → tv = .node 3 0 [t])) ∨ (ec3 ≠ 0 ∧ (((0, ntN) : Tk) ∉ lexT l → ec3 = 4))) := Lib.hid (by
            rcases HE3.out with ⟨q1, tv, q2, q3⟩ | q
            · exact .inl ⟨q1, tv, Rd.keep HBr.out _ _ q2, q3⟩
            · exact .inr q)
          have hG2 : ec2 = 0 ∧ Rd wr t (.agg #[.int .i64 k2, .int .i64 g2, .slice A2 n2 c2]) ∨ ec2 = 4 := by
            rcases HEX.out with ⟨q1, q2⟩ | q
            · exact .inl ⟨q1, Rd.keep HBr.out _ _ q2⟩
            · exact .inr q
          have p0 := y3.cell 0
          have p1 := y3.cell 1
          have p2 := y3.cell 2
          have r0 := y6.cell 0
          have r1 := y6.cell 1
          have r2 := y6.cell 2
          have v2 := y8.cell 2
          simp only [List.getElem?_toArray, List.getElem?_cons_zero, List.getElem?_cons_succ] at p0 p1 p2 r0 r1 r2 v2
          have HRT := Lib.hid hrt
          clear y3 y6 y8 HV3 HV6 HV8 HDX HBX HE3 HEX HM2 HN HSX HY HS HR1 HBr hrt
          rcases hG2 with ⟨rfl, hrt2⟩ | rfl
          · have HC2 := Lib.hid (termSame t t _ _ wr HRT.out hrt2)
            clear hrt2
            rw [sam_refl] at HC2
            have HP := Lib.hid (And.intro p0 (And.intro p1 (And.intro p2 v2)))
            clear v2
            go_wp2_with fail
            refine HC2.out.mono ?_
            rintro e w9 ⟨rfl, hb9⟩
            have HBW := Lib.hid (HBV.out.trans (hb9.mono HBV.out.size))
            have HRT9 := Lib.hid (Rd.keep hb9 _ _ HRT.out)
            have HG9 : Hid ((ec3 = 0 ∧ ∃ tv, Rd w9 tv (.agg #[.int .i64 k3, .int .i64 g3, .slice A3 n3 c3]) ∧ (((0, ntN) : Tk) ∉ lexT l → tv = .node 3 0 [t])) ∨ (ec3 ≠ 0 ∧ (((0, ntN) : Tk) ∉ lexT l → ec3 = 4))) := Lib.hid (by
              rcases HG3.out with ⟨q1, tv, q2, q3⟩ | q
              · exact .inl ⟨q1, tv, Rd.keep hb9 _ _ q2, q3⟩
              · exact .inr q)
            clear p0 p1 p2 r0 r1 r2
            have p0 := (hb9.cell (cell_ltX HP.out.1)).trans HP.out.1
            have p1 := (hb9.cell (cell_ltX HP.out.2.1)).trans HP.out.2.1
            have p2 := (hb9.cell (cell_ltX HP.out.2.2.1)).trans HP.out.2.2.1
            have v2 := (hb9.cell (cell_ltX HP.out.2.2.2)).trans HP.out.2.2.2
            clear hb9 HC2 HP HG3 HRT HBV
            rcases HG9.out with ⟨rfl, tv, hrv, htv⟩ | ⟨hne, h4⟩
            · obtain ⟨kv, hv, xs⟩ := tv
              obtain ⟨A8, n8, c8, e8, _, _, hl8, hc8, hm8, ha8⟩ := Rd_node.1 hrv
              simp only [Value.agg.injEq, Array.mk.injEq, List.cons.injEq, Value.int.injEq, Value.slice.injEq, true_and, and_true] at e8
              obtain ⟨rfl, rfl, rfl, rfl, rfl⟩ := e8
              unfold maxLen at hm8
              by_cases h1n : n3 = 1
              · subst h1n
                obtain ⟨x, hx⟩ := at_ofX hl8 (show 0 < 1 by omega)
                obtain ⟨b, o, k4, g4, A4', n4, c4', hA3, q0, q1, q2, rd4⟩ := (ha8 0 x hx).full
                subst hA3
                simp only [Nat.zero_mul, Nat.add_zero] at q0 q1 q2
                obtain ⟨q, hq⟩ : ∃ q, samB x t = q := ⟨_, rfl⟩
                have HQ : Hid (M2 = false → q = true) := Lib.hid (fun hf => by
                  have := htv (HNN.out hf)
                  simp only [T.node.injEq] at this
                  rw [this.2.2] at hx
                  simp only [List.getElem?_cons_zero, Option.some.injEq] at hx
                  rw [← hq, ← hx, sam_refl])
                have HC4 := Lib.hid (fun (W : World) (hb : Below w9.heap.size w9 W) => by
                  have := termSame x t _ _ W (Rd.keep hb _ _ rd4) (Rd.keep hb _ _ HRT9.out)
                  rw [hq] at this
                  exact this)
                clear rd4 hx ha8 hl8 htv hrv hq
                go_wp2_with fail
                have HKS : Hid (∀ w' : World, Below w9.heap.size w9 w' → (fun w' => w'.cell? ⟨w3.heap.size, 0, none⟩ = some (.int .i64 k1) ∧ w'.cell? ⟨w3.heap.size, 1, none⟩ = some (.int .i64 g1) ∧ w'.cell? ⟨w3.heap.size, 2, none⟩ = some (.slice A1 n1 c1) ∧ w'.cell? ⟨w8.heap.size, 2, none⟩ = some (.slice (some ⟨b, o, none⟩) 1 c3) ∧ w'.cell? ⟨b, o, none⟩ = some (.int .i64 k4) ∧ w'.cell? ⟨b, o + 1, none⟩ = some (.int .i64 g4) ∧ w'.cell? ⟨b, o + 2, none⟩ = some (.slice A4' n4 c4')) w') := Lib.hid fun w' h => ⟨(h.cell (cell_ltX p0)).trans p0, (h.cell (cell_ltX p1)).trans p1, (h.cell (cell_ltX p2)).trans p2, (h.cell (cell_ltX v2)).trans v2, (h.cell (cell_ltX q0)).trans q0, (h.cell (cell_ltX q1)).trans q1, (h.cell (cell_ltX q2)).trans q2⟩
                have hbd : Below w9.heap.size w9 w9.drew := (Below.refl _ w9).drew
                refine zzR HKS hbd (fun hS => ?_)
                simp only [List.size_toArray, List.length_cons, List.length_nil, Nat.reduceAdd]
                refine wpAnyH_take (i := 0) (v := .int .i64 0) rfl (by kernel_rfl) (by kernel_rfl) (by kernel_rfl) (fun _ _ _ h => h) (Or.inl ⟨by kernel_rfl, ?_⟩) hS ?_
                · intro w' hSw
                  obtain ⟨s0, s1, s2, s3, s4, s5, s6⟩ := hSw
                  go_simp
                try simp only [Act.put, List.getElem_toArray, List.getElem_cons_zero, List.setIfInBounds_toArray, List.set_cons_zero, List.set_cons_succ]
                refine wpAnyH_take (i := 1) (v := .bool true) rfl (by kernel_rfl) (by kernel_rfl) (by kernel_rfl) (fun _ _ _ h => h) (Or.inl ⟨by kernel_rfl, ?_⟩) hS ?_
                · intro w' hSw
                  obtain ⟨s0, s1, s2, s3, s4, s5, s6⟩ := hSw
                  go_simp
                try simp only [Act.put, List.getElem_toArray, List.getElem_cons_succ, List.getElem_cons_zero, List.setIfInBounds_toArray, List.set_cons_zero, List.set_cons_succ]
                refine wpAnyH_take (i := 2) (v := .bool true) rfl (by kernel_rfl) (by kernel_rfl) (by kernel_rfl) (fun _ _ _ h => h) (Or.inl ⟨by kernel_rfl, ?_⟩) hS ?_
                · intro w' hSw
                  obtain ⟨s0, s1, s2, s3, s4, s5, s6⟩ := hSw
                  go_simp
                try simp only [Act.put, List.getElem_toArray, List.getElem_cons_succ, List.getElem_cons_zero, List.setIfInBounds_toArray, List.set_cons_zero, List.set_cons_succ]
                refine wpAnyH_take (i := 3) (v := .pointer (some ⟨w8.heap.size, 2, none⟩)) rfl (by kernel_rfl) (by kernel_rfl) (by kernel_rfl) (fun _ _ _ h => h) (Or.inl ⟨by kernel_rfl, ?_⟩) hS ?_
                · intro w' hSw
                  obtain ⟨s0, s1, s2, s3, s4, s5, s6⟩ := hSw
                  go_simp
                try simp only [Act.put, List.getElem_toArray, List.getElem_cons_succ, List.getElem_cons_zero, List.setIfInBounds_toArray, List.set_cons_zero, List.set_cons_succ]
                refine wpAnyH_take (i := 4) (v := .slice (some ⟨b, o, none⟩) 1 c3) rfl (by kernel_rfl) (by kernel_rfl) (by kernel_rfl) (fun _ _ _ h => h) (Or.inl ⟨by kernel_rfl, ?_⟩) hS ?_
                · intro w' hSw
                  obtain ⟨s0, s1, s2, s3, s4, s5, s6⟩ := hSw
                  go_simp
                try simp only [Act.put, List.getElem_toArray, List.getElem_cons_succ, List.getElem_cons_zero, List.setIfInBounds_toArray, List.set_cons_zero, List.set_cons_succ]
                refine wpAnyH_take (i := 5) (v := .int .i64 1) rfl (by kernel_rfl) (by kernel_rfl) (by kernel_rfl) (fun _ _ _ h => h) (Or.inl ⟨by kernel_rfl, ?_⟩) hS ?_
                · intro w' hSw
                  obtain ⟨s0, s1, s2, s3, s4, s5, s6⟩ := hSw
                  go_simp
                try simp only [Act.put, List.getElem_toArray, List.getElem_cons_succ, List.getElem_cons_zero, List.setIfInBounds_toArray, List.set_cons_zero, List.set_cons_succ]
                refine wpAnyH_take (i := 6) (v := .bool true) rfl (by kernel_rfl) (by kernel_rfl) (by kernel_rfl) (fun _ _ _ h => h) (Or.inl ⟨by kernel_rfl, ?_⟩) hS ?_
                · intro w' hSw
                  obtain ⟨s0, s1, s2, s3, s4, s5, s6⟩ := hSw
                  go_simp
                try simp only [Act.put, List.getElem_toArray, List.getElem_cons_succ, List.getElem_cons_zero, List.setIfInBounds_toArray, List.set_cons_zero, List.set_cons_succ]
                refine wpAnyH_take (i := 7) (v := .bool true) rfl (by kernel_rfl) (by kernel_rfl) (by kernel_rfl) (fun _ _ _ h => h) (Or.inl ⟨by kernel_rfl, ?_⟩) hS ?_
                · intro w' hSw
                  obtain ⟨s0, s1, s2, s3, s4, s5, s6⟩ := hSw
                  go_simp
                try simp only [Act.put, List.getElem_toArray, List.getElem_cons_succ, List.getElem_cons_zero, List.setIfInBounds_toArray, List.set_cons_zero, List.set_cons_succ]
                refine wpAnyH_take (i := 8) (v := .bool true) rfl (by kernel_rfl) (by kernel_rfl) (by kernel_rfl) (fun _ _ _ h => h) (Or.inl ⟨by kernel_rfl, ?_⟩) hS ?_
                · intro w' hSw
                  obtain ⟨s0, s1, s2, s3, s4, s5, s6⟩ := hSw
                  go_simp
                try simp only [Act.put, List.getElem_toArray, List.getElem_cons_succ, List.getElem_cons_zero, List.setIfInBounds_toArray, List.set_cons_zero, List.set_cons_succ]
                refine wpAnyH_take (i := 9) (v := .pointer (some ⟨w8.heap.size, 2, none⟩)) rfl (by kernel_rfl) (by kernel_rfl) (by kernel_rfl) (fun _ _ _ h => h) (Or.inl ⟨by kernel_rfl, ?_⟩) hS ?_
                · intro w' hSw
                  obtain ⟨s0, s1, s2, s3, s4, s5, s6⟩ := hSw
                  go_simp
                try simp only [Act.put, List.getElem_toArray, List.getElem_cons_succ, List.getElem_cons_zero, List.setIfInBounds_toArray, List.set_cons_zero, List.set_cons_succ]
                refine wpAnyH_take (i := 10) (v := .slice (some ⟨b, o, none⟩) 1 c3) rfl (by kernel_rfl) (by kernel_rfl) (by kernel_rfl) (fun _ _ _ h => h) (Or.inl ⟨by kernel_rfl, ?_⟩) hS ?_
                · intro w' hSw
                  obtain ⟨s0, s1, s2, s3, s4, s5, s6⟩ := hSw
                  go_simp
                try simp only [Act.put, List.getElem_toArray, List.getElem_cons_succ, List.getElem_cons_zero, List.setIfInBounds_toArray, List.set_cons_zero, List.set_cons_succ]
                refine wpAnyH_take (i := 11) (v := .pointer (some ⟨b, o, none⟩)) rfl (by kernel_rfl) (by kernel_rfl) (by kernel_rfl) (fun _ _ _ h => h) (Or.inl ⟨by kernel_rfl, ?_⟩) hS ?_
                · intro w' hSw
                  obtain ⟨s0, s1, s2, s3, s4, s5, s6⟩ := hSw
                  go_simp
                try simp only [Act.put, List.getElem_toArray, List.getElem_cons_succ, List.getElem_cons_zero, List.setIfInBounds_toArray, List.set_cons_zero, List.set_cons_succ]
                refine wpAnyH_take (i := 12) (v := .agg #[.int .i64 k4, .int .i64 g4, .slice A4' n4 c4']) rfl (by kernel_rfl) (by kernel_rfl) (by kernel_rfl) (fun _ _ _ h => h) (Or.inl ⟨by kernel_rfl, ?_⟩) hS ?_
                · intro w' hSw
                  obtain ⟨s0, s1, s2, s3, s4, s5, s6⟩ := hSw
                  go_simp
                try simp only [Act.put, List.getElem_toArray, List.getElem_cons_succ, List.getElem_cons_zero, List.setIfInBounds_toArray, List.set_cons_zero, List.set_cons_succ]
                refine wpAnyH_take (i := 13) (v := .agg #[.int .i64 k1, .int .i64 g1, .slice A1 n1 c1]) rfl (by kernel_rfl) (by kernel_rfl) (by kernel_rfl) (fun _ _ _ h => h) (Or.inl ⟨by kernel_rfl, ?_⟩) hS ?_
                · intro w' hSw
                  obtain ⟨s0, s1, s2, s3, s4, s5, s6⟩ := hSw
                  go_simp
                try simp only [Act.put, List.getElem_toArray, List.getElem_cons_succ, List.getElem_cons_zero, List.setIfInBounds_toArray, List.set_cons_zero, List.set_cons_succ]
                refine wpAnyH_ready (rs := [14]) (by kernel_rfl) (by simp) ?_
                refine AllReadyH.cons rfl (fun KN hK => ?_) AllReadyH.nil
                go_simp
                refine (HC4.out _ hbd).mono ?_
                rintro e w7' ⟨rfl, hb7⟩
                refine hK.out _ _ (HKS.out _ (hbd.trans (hb7.mono hbd.size))) (fun hS => ?_)
                clear hK KN
                try simp only [Act.put, zzP]
                have HBF := Lib.hid (HBW.out.trans ((hbd.trans (hb7.mono hbd.size)).mono HBW.out.size))
                cases q with
                | true =>
                  refine wpAnyH_take (i := 15) (v := .bool true) rfl (by kernel_rfl) (by kernel_rfl) (by kernel_rfl) (fun _ _ _ h => h) (Or.inl ⟨by kernel_rfl, ?_⟩) hS ?_
                  · intro w' hSw
                    obtain ⟨s0, s1, s2, s3, s4, s5, s6⟩ := hSw
                    go_simp
                  try simp only [Act.put, List.getElem_toArray, List.getElem_cons_succ, List.getElem_cons_zero, List.setIfInBounds_toArray, List.set_cons_zero, List.set_cons_succ]
                  refine wpAnyH_take (i := 16) (v := .bool true) rfl (by kernel_rfl) (by kernel_rfl) (by kernel_rfl) (fun _ _ _ h => h) (Or.inl ⟨by kernel_rfl, ?_⟩) hS ?_
                  · intro w' hSw
                    obtain ⟨s0, s1, s2, s3, s4, s5, s6⟩ := hSw
                    go_simp
                  try simp only [Act.put, List.getElem_toArray, List.getElem_cons_succ, List.getElem_cons_zero, List.setIfInBounds_toArray, List.set_cons_zero, List.set_cons_succ]
                  refine wpAnyH_take (i := 17) (v := undef) rfl (by kernel_rfl) (by kernel_rfl) (by kernel_rfl) (fun _ _ _ h => h) (Or.inr ⟨by kernel_rfl, rfl⟩) hS ?_
                  try simp only [Act.put, zzP]
                  refine wpAnyH_take (i := 18) (v := undef) rfl (by kernel_rfl) (by kernel_rfl) (by kernel_rfl) (fun _ _ _ h => h) (Or.inr ⟨by kernel_rfl, rfl⟩) hS ?_
                  try simp only [Act.put, zzP]
                  refine wpAnyH_take (i := 19) (v := .bool true) rfl (by kernel_rfl) (by kernel_rfl) (by kernel_rfl) (fun _ _ _ h => h) (Or.inl ⟨by kernel_rfl, ?_⟩) hS ?_
                  · intro w' hSw
                    obtain ⟨s0, s1, s2, s3, s4, s5, s6⟩ := hSw
                    go_simp
                  try simp only [Act.put, List.getElem_toArray, List.getElem_cons_succ, List.getElem_cons_zero, List.setIfInBounds_toArray, List.set_cons_zero, List.set_cons_succ]
                  refine wpAnyH_take (i := 20) (v := .bool true) rfl (by kernel_rfl) (by kernel_rfl) (by kernel_rfl) (fun _ _ _ h => h) (Or.inl ⟨by kernel_rfl, ?_⟩) hS ?_
                  · intro w' hSw
                    obtain ⟨s0, s1, s2, s3, s4, s5, s6⟩ := hSw
                    go_simp
                  try simp only [Act.put, List.getElem_toArray, List.getElem_cons_succ, List.getElem_cons_zero, List.setIfInBounds_toArray, List.set_cons_zero, List.set_cons_succ]
                  refine wpAnyH_done (by kernel_rfl) ?_ _
                  try simp only [zzP]
                  clear HKS hbd hS hb7 HC4
                  cases M2 <;> (go_wp2_with fail; go_ret; exact ⟨rfl, HBF.out⟩)
                | false =>
                  have hM : M2 = true := by
                    cases hM2 : M2 with
                    | true => rfl
                    | false => exact absurd (HQ.out hM2) (by simp)
                  refine wpAnyH_take (i := 15) (v := .bool false) rfl (by kernel_rfl) (by kernel_rfl) (by kernel_rfl) (fun _ _ _ h => h) (Or.inl ⟨by kernel_rfl, ?_⟩) hS ?_
                  · intro w' hSw
                    obtain ⟨s0, s1, s2, s3, s4, s5, s6⟩ := hSw
                    go_simp
                  try simp only [Act.put, List.getElem_toArray, List.getElem_cons_succ, List.getElem_cons_zero, List.setIfInBounds_toArray, List.set_cons_zero, List.set_cons_succ]
                  refine wpAnyH_take (i := 16) (v := .bool false) rfl (by kernel_rfl) (by kernel_rfl) (by kernel_rfl) (fun _ _ _ h => h) (Or.inl ⟨by kernel_rfl, ?_⟩) hS ?_
                  · intro w' hSw
                    obtain ⟨s0, s1, s2, s3, s4, s5, s6⟩ := hSw
                    go_simp
                  try simp only [Act.put, List.getElem_toArray, List.getElem_cons_succ, List.getElem_cons_zero, List.setIfInBounds_toArray, List.set_cons_zero, List.set_cons_succ]
                  refine wpAnyH_take (i := 17) (v := .int .i64 0) rfl (by kernel_rfl) (by kernel_rfl) (by kernel_rfl) (fun _ _ _ h => h) (Or.inl ⟨by kernel_rfl, ?_⟩) hS ?_
                  · intro w' hSw
                    obtain ⟨s0, s1, s2, s3, s4, s5, s6⟩ := hSw
                    go_simp
                  try simp only [Act.put, List.getElem_toArray, List.getElem_cons_succ, List.getElem_cons_zero, List.setIfInBounds_toArray, List.set_cons_zero, List.set_cons_succ]
                  refine wpAnyH_take (i := 18) (v := .bool false) rfl (by kernel_rfl) (by kernel_rfl) (by kernel_rfl) (fun _ _ _ h => h) (Or.inl ⟨by kernel_rfl, ?_⟩) hS ?_
                  · intro w' hSw
                    obtain ⟨s0, s1, s2, s3, s4, s5, s6⟩ := hSw
                    go_simp
                  try simp only [Act.put, List.getElem_toArray, List.getElem_cons_succ, List.getElem_cons_zero, List.setIfInBounds_toArray, List.set_cons_zero, List.set_cons_succ]
                  refine wpAnyH_take (i := 19) (v := .bool false) rfl (by kernel_rfl) (by kernel_rfl) (by kernel_rfl) (fun _ _ _ h => h) (Or.inl ⟨by kernel_rfl, ?_⟩) hS ?_
                  · intro w' hSw
                    obtain ⟨s0, s1, s2, s3, s4, s5, s6⟩ := hSw
                    go_simp
                  try simp only [Act.put, List.getElem_toArray, List.getElem_cons_succ, List.getElem_cons_zero, List.setIfInBounds_toArray, List.set_cons_zero, List.set_cons_succ]
                  refine wpAnyH_take (i := 20) (v := .bool false) rfl (by kernel_rfl) (by kernel_rfl) (by kernel_rfl) (fun _ _ _ h => h) (Or.inl ⟨by kernel_rfl, ?_⟩) hS ?_
                  · intro w' hSw
                    obtain ⟨s0, s1, s2, s3, s4, s5, s6⟩ := hSw
                    go_simp
                  try simp only [Act.put, List.getElem_toArray, List.getElem_cons_succ, List.getElem_cons_zero, List.setIfInBounds_toArray, List.set_cons_zero, List.set_cons_succ]
                  refine wpAnyH_done (by kernel_rfl) ?_ _
                  try simp only [zzP]
                  clear HKS hbd hS hb7 HC4
                  subst hM
                  go_wp2_with fail
                  go_ret
                  exact ⟨rfl, HBF.out⟩
              · have hM : M2 = true := by
                  cases hM2 : M2 with
                  | true => rfl
                  | false =>
                    have := htv (HNN.out hM2)
                    simp only [T.node.injEq] at this
                    rw [this.2.2] at hl8
                    exact absurd hl8.symm h1n
                have d6 : ((n3 : Int) == 1) = false := by simp; omega
                clear htv hrv ha8 hl8
                go_wp2_with fail
                have HKS : Hid (∀ w' : World, Below w9.heap.size w9 w' → (fun w' => w'.cell? ⟨w3.heap.size, 0, none⟩ = some (.int .i64 k1) ∧ w'.cell? ⟨w3.heap.size, 1, none⟩ = some (.int .i64 g1) ∧ w'.cell? ⟨w3.heap.size, 2, none⟩ = some (.slice A1 n1 c1) ∧ w'.cell? ⟨w8.heap.size, 2, none⟩ = some (.slice A3 n3 c3)) w') := Lib.hid fun w' h => ⟨(h.cell (cell_ltX p0)).trans p0, (h.cell (cell_ltX p1)).trans p1, (h.cell (cell_ltX p2)).trans p2, (h.cell (cell_ltX v2)).trans v2⟩
                have hbd : Below w9.heap.size w9 w9.drew := (Below.refl _ w9).drew
                refine zzR HKS hbd (fun hS => ?_)
                simp only [List.size_toArray, List.length_cons, List.length_nil, Nat.reduceAdd]
                refine wpAnyH_take (i := 0) (v := .int .i64 0) rfl (by kernel_rfl) (by kernel_rfl) (by kernel_rfl) (fun _ _ _ h => h) (Or.inl ⟨by kernel_rfl, ?_⟩) hS ?_
                · intro w' hSw
                  obtain ⟨s0, s1, s2, s3⟩ := hSw
                  go_simp
                try simp only [Act.put, List.getElem_toArray, List.getElem_cons_zero, List.setIfInBounds_toArray, List.set_cons_zero, List.set_cons_succ]
                refine wpAnyH_take (i := 1) (v := .bool true) rfl (by kernel_rfl) (by kernel_rfl) (by kernel_rfl) (fun _ _ _ h => h) (Or.inl ⟨by kernel_rfl, ?_⟩) hS ?_
                · intro w' hSw
                  obtain ⟨s0, s1, s2, s3⟩ := hSw
                  go_simp
                try simp only [Act.put, List.getElem_toArray, List.getElem_cons_succ, List.getElem_cons_zero, List.setIfInBounds_toArray, List.set_cons_zero, List.set_cons_succ]
                refine wpAnyH_take (i := 2) (v := .bool true) rfl (by kernel_rfl) (by kernel_rfl) (by kernel_rfl) (fun _ _ _ h => h) (Or.inl ⟨by kernel_rfl, ?_⟩) hS ?_
                · intro w' hSw
                  obtain ⟨s0, s1, s2, s3⟩ := hSw
                  go_simp
                try simp only [Act.put, List.getElem_toArray, List.getElem_cons_succ, List.getElem_cons_zero, List.setIfInBounds_toArray, List.set_cons_zero, List.set_cons_succ]
                refine wpAnyH_take (i := 3) (v := .pointer (some ⟨w8.heap.size, 2, none⟩)) rfl (by kernel_rfl) (by kernel_rfl) (by kernel_rfl) (fun _ _ _ h => h) (Or.inl ⟨by kernel_rfl, ?_⟩) hS ?_
                · intro w' hSw
                  obtain ⟨s0, s1, s2, s3⟩ := hSw
                  go_simp
                try simp only [Act.put, List.getElem_toArray, List.getElem_cons_succ, List.getElem_cons_zero, List.setIfInBounds_toArray, List.set_cons_zero, List.set_cons_succ]
                refine wpAnyH_take (i := 4) (v := .slice A3 n3 c3) rfl (by kernel_rfl) (by kernel_rfl) (by kernel_rfl) (fun _ _ _ h => h) (Or.inl ⟨by kernel_rfl, ?_⟩) hS ?_
                · intro w' hSw
                  obtain ⟨s0, s1, s2, s3⟩ := hSw
                  go_simp
                try simp only [Act.put, List.getElem_toArray, List.getElem_cons_succ, List.getElem_cons_zero, List.setIfInBounds_toArray, List.set_cons_zero, List.set_cons_succ]
                refine wpAnyH_take (i := 5) (v := .int .i64 n3) rfl (by kernel_rfl) (by kernel_rfl) (by kernel_rfl) (fun _ _ _ h => h) (Or.inl ⟨by kernel_rfl, ?_⟩) hS ?_
                · intro w' hSw
                  obtain ⟨s0, s1, s2, s3⟩ := hSw
                  go_simp
                try simp only [Act.put, List.getElem_toArray, List.getElem_cons_succ, List.getElem_cons_zero, List.setIfInBounds_toArray, List.set_cons_zero, List.set_cons_succ]
                refine wpAnyH_take (i := 6) (v := .bool false) rfl (by kernel_rfl) (by kernel_rfl) (by kernel_rfl) (fun _ _ _ h => h) (Or.inl ⟨by kernel_rfl, ?_⟩) hS ?_
                · intro w' hSw
                  obtain ⟨s0, s1, s2, s3⟩ := hSw
                  go_simp
                try simp only [Act.put, List.getElem_toArray, List.getElem_cons_succ, List.getElem_cons_zero, List.setIfInBounds_toArray, List.set_cons_zero, List.set_cons_succ]
                refine wpAnyH_take (i := 7) (v := .bool false) rfl (by kernel_rfl) (by kernel_rfl) (by kernel_rfl) (fun _ _ _ h => h) (Or.inl ⟨by kernel_rfl, ?_⟩) hS ?_
                · intro w' hSw
                  obtain ⟨s0, s1, s2, s3⟩ := hSw
                  go_simp
                try simp only [Act.put, List.getElem_toArray, List.getElem_cons_succ, List.getElem_cons_zero, List.setIfInBounds_toArray, List.set_cons_zero, List.set_cons_succ]
                refine wpAnyH_take (i := 8) (v := .bool false) rfl (by kernel_rfl) (by kernel_rfl) (by kernel_rfl) (fun _ _ _ h => h) (Or.inl ⟨by kernel_rfl, ?_⟩) hS ?_
                · intro w' hSw
                  obtain ⟨s0, s1, s2, s3⟩ := hSw
                  go_simp
                try simp only [Act.put, List.getElem_toArray, List.getElem_cons_succ, List.getElem_cons_zero, List.setIfInBounds_toArray, List.set_cons_zero, List.set_cons_succ]
                refine wpAnyH_take (i := 9) (v := undef) rfl (by kernel_rfl) (by kernel_rfl) (by kernel_rfl) (fun _ _ _ h => h) (Or.inr ⟨by kernel_rfl, rfl⟩) hS ?_
                try simp only [Act.put, zzP]
                refine wpAnyH_take (i := 10) (v := undef) rfl (by kernel_rfl) (by kernel_rfl) (by kernel_rfl) (fun _ _ _ h => h) (Or.inr ⟨by kernel_rfl, rfl⟩) hS ?_
                try simp only [Act.put, zzP]
                refine wpAnyH_take (i := 11) (v := undef) rfl (by kernel_rfl) (by kernel_rfl) (by kernel_rfl) (fun _ _ _ h => h) (Or.inr ⟨by kernel_rfl, rfl⟩) hS ?_
                try simp only [Act.put, zzP]
                refine wpAnyH_take (i := 12) (v := undef) rfl (by kernel_rfl) (by kernel_rfl) (by kernel_rfl) (fun _ _ _ h => h) (Or.inr ⟨by kernel_rfl, rfl⟩) hS ?_
                try simp only [Act.put, zzP]
                refine wpAnyH_take (i := 13) (v := undef) rfl (by kernel_rfl) (by kernel_rfl) (by kernel_rfl) (fun _ _ _ h => h) (Or.inr ⟨by kernel_rfl, rfl⟩) hS ?_
                try simp only [Act.put, zzP]
                refine wpAnyH_take (i := 14) (v := undef) rfl (by kernel_rfl) (by kernel_rfl) (by kernel_rfl) (fun _ _ _ h => h) (Or.inr ⟨by kernel_rfl, rfl⟩) hS ?_
                try simp only [Act.put, zzP]
                refine wpAnyH_take (i := 15) (v := .bool false) rfl (by kernel_rfl) (by kernel_rfl) (by kernel_rfl) (fun _ _ _ h => h) (Or.inl ⟨by kernel_rfl, ?_⟩) hS ?_
                · intro w' hSw
                  obtain ⟨s0, s1, s2, s3⟩ := hSw
                  go_simp
                try simp only [Act.put, List.getElem_toArray, List.getElem_cons_succ, List.getElem_cons_zero, List.setIfInBounds_toArray, List.set_cons_zero, List.set_cons_succ]
                refine wpAnyH_take (i := 16) (v := .bool false) rfl (by kernel_rfl) (by kernel_rfl) (by kernel_rfl) (fun _ _ _ h => h) (Or.inl ⟨by kernel_rfl, ?_⟩) hS ?_
                · intro w' hSw
                  obtain ⟨s0, s1, s2, s3⟩ := hSw
                  go_simp
                try simp only [Act.put, List.getElem_toArray, List.getElem_cons_succ, List.getElem_cons_zero, List.setIfInBounds_toArray, List.set_cons_zero, List.set_cons_succ]
                refine wpAnyH_take (i := 17) (v := .int .i64 0) rfl (by kernel_rfl) (by kernel_rfl) (by kernel_rfl) (fun _ _ _ h => h) (Or.inl ⟨by kernel_rfl, ?_⟩) hS ?_
                · intro w' hSw
                  obtain ⟨s0, s1, s2, s3⟩ := hSw
                  go_simp
                try simp only [Act.put, List.getElem_toArray, List.getElem_cons_succ, List.getElem_cons_zero, List.setIfInBounds_toArray, List.set_cons_zero, List.set_cons_succ]
                refine wpAnyH_take (i := 18) (v := .bool false) rfl (by kernel_rfl) (by kernel_rfl) (by kernel_rfl) (fun _ _ _ h => h) (Or.inl ⟨by kernel_rfl, ?_⟩) hS ?_
                · intro w' hSw
                  obtain ⟨s0, s1, s2, s3⟩ := hSw
                  go_simp
                try simp only [Act.put, List.getElem_toArray, List.getElem_cons_succ, List.getElem_cons_zero, List.setIfInBounds_toArray, List.set_cons_zero, List.set_cons_succ]
                refine wpAnyH_take (i := 19) (v := .bool false) rfl (by kernel_rfl) (by kernel_rfl) (by kernel_rfl) (fun _ _ _ h => h) (Or.inl ⟨by kernel_rfl, ?_⟩) hS ?_
                · intro w' hSw
                  obtain ⟨s0, s1, s2, s3⟩ := hSw
                  go_simp
                try simp only [Act.put, List.getElem_toArray, List.getElem_cons_succ, List.getElem_cons_zero, List.setIfInBounds_toArray, List.set_cons_zero, List.set_cons_succ]
                refine wpAnyH_take (i := 20) (v := .bool false) rfl (by kernel_rfl) (by kernel_rfl) (by kernel_rfl) (fun _ _ _ h => h) (Or.inl ⟨by kernel_rfl, ?_⟩) hS ?_
                · intro w' hSw
                  obtain ⟨s0, s1, s2, s3⟩ := hSw
                  go_simp
                try simp only [Act.put, List.getElem_toArray, List.getElem_cons_succ, List.getElem_cons_zero, List.setIfInBounds_toArray, List.set_cons_zero, List.set_cons_succ]
                refine wpAnyH_done (by kernel_rfl) ?_ _
                try simp only [zzP]
                have HBF := Lib.hid (HBW.out.trans (hbd.mono HBW.out.size))
                clear HKS hbd hS
                subst hM
                go_wp2_with fail
                go_ret
                exact ⟨rfl, HBF.out⟩
            · have d6 : (ec3 == 0) = false := by simpa using hne
              by_cases h44 : ec3 = 4
              · subst h44
                clear h4
                go_wp2_with fail
                have HKS : Hid (∀ w' : World, Below w9.heap.size w9 w' → (fun w' => w'.cell? ⟨w3.heap.size, 0, none⟩ = some (.int .i64 k1) ∧ w'.cell? ⟨w3.heap.size, 1, none⟩ = some (.int .i64 g1) ∧ w'.cell? ⟨w3.heap.size, 2, none⟩ = some (.slice A1 n1 c1) ∧ w'.cell? ⟨w8.heap.size, 2, none⟩ = some (.slice A3 n3 c3)) w') := Lib.hid fun w' h => ⟨(h.cell (cell_ltX p0)).trans p0, (h.cell (cell_ltX p1)).trans p1, (h.cell (cell_ltX p2)).trans p2, (h.cell (cell_ltX v2)).trans v2⟩
                have hbd : Below w9.heap.size w9 w9.drew := (Below.refl _ w9).drew
                refine zzR HKS hbd (fun hS => ?_)
                simp only [List.size_toArray, List.length_cons, List.length_nil, Nat.reduceAdd]
                refine wpAnyH_take (i := 0) (v := .int .i64 4) rfl (by kernel_rfl) (by kernel_rfl) (by kernel_rfl) (fun _ _ _ h => h) (Or.inl ⟨by kernel_rfl, ?_⟩) hS ?_
                · intro w' hSw
                  obtain ⟨s0, s1, s2, s3⟩ := hSw
                  go_simp
                try simp only [Act.put, List.getElem_toArray, List.getElem_cons_zero, List.setIfInBounds_toArray, List.set_cons_zero, List.set_cons_succ]
                refine wpAnyH_take (i := 1) (v := .bool false) rfl (by kernel_rfl) (by kernel_rfl) (by kernel_rfl) (fun _ _ _ h => h) (Or.inl ⟨by kernel_rfl, ?_⟩) hS ?_
                · intro w' hSw
                  obtain ⟨s0, s1, s2, s3⟩ := hSw
                  go_simp
                try simp only [Act.put, List.getElem_toArray, List.getElem_cons_succ, List.getElem_cons_zero, List.setIfInBounds_toArray, List.set_cons_zero, List.set_cons_succ]
                refine wpAnyH_take (i := 2) (v := .bool false) rfl (by kernel_rfl) (by kernel_rfl) (by kernel_rfl) (fun _ _ _ h => h) (Or.inl ⟨by kernel_rfl, ?_⟩) hS ?_
                · intro w' hSw
                  obtain ⟨s0, s1, s2, s3⟩ := hSw
                  go_simp
                try simp only [Act.put, List.getElem_toArray, List.getElem_cons_succ, List.getElem_cons_zero, List.setIfInBounds_toArray, List.set_cons_zero, List.set_cons_succ]
                refine wpAnyH_take (i := 3) (v := undef) rfl (by kernel_rfl) (by kernel_rfl) (by kernel_rfl) (fun _ _ _ h => h) (Or.inr ⟨by kernel_rfl, rfl⟩) hS ?_
                try simp only [Act.put, zzP]
                refine wpAnyH_take (i := 4) (v := undef) rfl (by kernel_rfl) (by kernel_rfl) (by kernel_rfl) (fun _ _ _ h => h) (Or.inr ⟨by kernel_rfl, rfl⟩) hS ?_
                try simp only [Act.put, zzP]
                refine wpAnyH_take (i := 5) (v := undef) rfl (by kernel_rfl) (by kernel_rfl) (by kernel_rfl) (fun _ _ _ h => h) (Or.inr ⟨by kernel_rfl, rfl⟩) hS ?_
                try simp only [Act.put, zzP]
                refine wpAnyH_take (i := 6) (v := undef) rfl (by kernel_rfl) (by kernel_rfl) (by kernel_rfl) (fun _ _ _ h => h) (Or.inr ⟨by kernel_rfl, rfl⟩) hS ?_
                try simp only [Act.put, zzP]
                refine wpAnyH_take (i := 7) (v := .bool false) rfl (by kernel_rfl) (by kernel_rfl) (by kernel_rfl) (fun _ _ _ h => h) (Or.inl ⟨by kernel_rfl, ?_⟩) hS ?_
                · intro w' hSw
                  obtain ⟨s0, s1, s2, s3⟩ := hSw
                  go_simp
                try simp only [Act.put, List.getElem_toArray, List.getElem_cons_succ, List.getElem_cons_zero, List.setIfInBounds_toArray, List.set_cons_zero, List.set_cons_succ]
                refine wpAnyH_take (i := 8) (v := .bool false) rfl (by kernel_rfl) (by kernel_rfl) (by kernel_rfl) (fun _ _ _ h => h) (Or.inl ⟨by kernel_rfl, ?_⟩) hS ?_
                · intro w' hSw
                  obtain ⟨s0, s1, s2, s3⟩ := hSw
                  go_simp
                try simp only [Act.put, List.getElem_toArray, List.getElem_cons_succ, List.getElem_cons_zero, List.setIfInBounds_toArray, List.set_cons_zero, List.set_cons_succ]
                refine wpAnyH_take (i := 9) (v := undef) rfl (by kernel_rfl) (by kernel_rfl) (by kernel_rfl) (fun _ _ _ h => h) (Or.inr ⟨by kernel_rfl, rfl⟩) hS ?_
                try simp only [Act.put, zzP]
                refine wpAnyH_take (i := 10) (v := undef) rfl (by kernel_rfl) (by kernel_rfl) (by kernel_rfl) (fun _ _ _ h => h) (Or.inr ⟨by kernel_rfl, rfl⟩) hS ?_
                try simp only [Act.put, zzP]
                refine wpAnyH_take (i := 11) (v := undef) rfl (by kernel_rfl) (by kernel_rfl) (by kernel_rfl) (fun _ _ _ h => h) (Or.inr ⟨by kernel_rfl, rfl⟩) hS ?_
                try simp only [Act.put, zzP]
                refine wpAnyH_take (i := 12) (v := undef) rfl (by kernel_rfl) (by kernel_rfl) (by kernel_rfl) (fun _ _ _ h => h) (Or.inr ⟨by kernel_rfl, rfl⟩) hS ?_
                try simp only [Act.put, zzP]
                refine wpAnyH_take (i := 13) (v := undef) rfl (by kernel_rfl) (by kernel_rfl) (by kernel_rfl) (fun _ _ _ h => h) (Or.inr ⟨by kernel_rfl, rfl⟩) hS ?_
                try simp only [Act.put, zzP]
                refine wpAnyH_take (i := 14) (v := undef) rfl (by kernel_rfl) (by kernel_rfl) (by kernel_rfl) (fun _ _ _ h => h) (Or.inr ⟨by kernel_rfl, rfl⟩) hS ?_
                try simp only [Act.put, zzP]
                refine wpAnyH_take (i := 15) (v := .bool false) rfl (by kernel_rfl) (by kernel_rfl) (by kernel_rfl) (fun _ _ _ h => h) (Or.inl ⟨by kernel_rfl, ?_⟩) hS ?_
                · intro w' hSw
                  obtain ⟨s0, s1, s2, s3⟩ := hSw
                  go_simp
                try simp only [Act.put, List.getElem_toArray, List.getElem_cons_succ, List.getElem_cons_zero, List.setIfInBounds_toArray, List.set_cons_zero, List.set_cons_succ]
                refine wpAnyH_take (i := 16) (v := .bool false) rfl (by kernel_rfl) (by kernel_rfl) (by kernel_rfl) (fun _ _ _ h => h) (Or.inl ⟨by kernel_rfl, ?_⟩) hS ?_
                · intro w' hSw
                  obtain ⟨s0, s1, s2, s3⟩ := hSw
                  go_simp
                try simp only [Act.put, List.getElem_toArray, List.getElem_cons_succ, List.getElem_cons_zero, List.setIfInBounds_toArray, List.set_cons_zero, List.set_cons_succ]
                refine wpAnyH_take (i := 17) (v := .int .i64 4) rfl (by kernel_rfl) (by kernel_rfl) (by kernel_rfl) (fun _ _ _ h => h) (Or.inl ⟨by kernel_rfl, ?_⟩) hS ?_
                · intro w' hSw
                  obtain ⟨s0, s1, s2, s3⟩ := hSw
                  go_simp
                try simp only [Act.put, List.getElem_toArray, List.getElem_cons_succ, List.getElem_cons_zero, List.setIfInBounds_toArray, List.set_cons_zero, List.set_cons_succ]
                refine wpAnyH_take (i := 18) (v := .bool true) rfl (by kernel_rfl) (by kernel_rfl) (by kernel_rfl) (fun _ _ _ h => h) (Or.inl ⟨by kernel_rfl, ?_⟩) hS ?_
                · intro w' hSw
                  obtain ⟨s0, s1, s2, s3⟩ := hSw
                  go_simp
                try simp only [Act.put, List.getElem_toArray, List.getElem_cons_succ, List.getElem_cons_zero, List.setIfInBounds_toArray, List.set_cons_zero, List.set_cons_succ]
                refine wpAnyH_take (i := 19) (v := .bool true) rfl (by kernel_rfl) (by kernel_rfl) (by kernel_rfl) (fun _ _ _ h => h) (Or.inl ⟨by kernel_rfl, ?_⟩) hS ?_
                · intro w' hSw
                  obtain ⟨s0, s1, s2, s3⟩ := hSw
                  go_simp
                try simp only [Act.put, List.getElem_toArray, List.getElem_cons_succ, List.getElem_cons_zero, List.setIfInBounds_toArray, List.set_cons_zero, List.set_cons_succ]
                refine wpAnyH_take (i := 20) (v := .bool true) rfl (by kernel_rfl) (by kernel_rfl) (by kernel_rfl) (fun _ _ _ h => h) (Or.inl ⟨by kernel_rfl, ?_⟩) hS ?_
                · intro w' hSw
                  obtain ⟨s0, s1, s2, s3⟩ := hSw
                  go_simp
                try simp only [Act.put, List.getElem_toArray, List.getElem_cons_succ, List.getElem_cons_zero, List.setIfInBounds_toArray, List.set_cons_zero, List.set_cons_succ]
                refine wpAnyH_done (by kernel_rfl) ?_ _
                try simp only [zzP]
                have HBF := Lib.hid (HBW.out.trans (hbd.mono HBW.out.size))
                clear HKS hbd hS
                cases M2 <;> (go_wp2_with fail; go_ret; exact ⟨rfl, HBF.out⟩)
              · have hM : M2 = true := by
                  cases hM2 : M2 with
                  | true => rfl
                  | false => exact absurd (h4 (HNN.out hM2)) h44
                have d7 : (ec3 == 4) = false := by simpa using h44
                clear h4
                go_wp2_with fail
                have HKS : Hid (∀ w' : World, Below w9.heap.size w9 w' → (fun w' => w'.cell? ⟨w3.heap.size, 0, none⟩ = some (.int .i64 k1) ∧ w'.cell? ⟨w3.heap.size, 1, none⟩ = some (.int .i64 g1) ∧ w'.cell? ⟨w3.heap.size, 2, none⟩ = some (.slice A1 n1 c1) ∧ w'.cell? ⟨w8.heap.size, 2, none⟩ = some (.slice A3 n3 c3)) w') := Lib.hid fun w' h => ⟨(h.cell (cell_ltX p0)).trans p0, (h.cell (cell_ltX p1)).trans p1, (h.cell (cell_ltX p2)).trans p2, (h.cell (cell_ltX v2)).trans v2⟩
                have hbd : Below w9.heap.size w9 w9.drew := (Below.refl _ w9).drew
                refine zzR HKS hbd (fun hS => ?_)
                simp only [List.size_toArray, List.length_cons, List.length_nil, Nat.reduceAdd]
                refine wpAnyH_take (i := 0) (v := .int .i64 ec3) rfl (by kernel_rfl) (by kernel_rfl) (by kernel_rfl) (fun _ _ _ h => h) (Or.inl ⟨by kernel_rfl, ?_⟩) hS ?_
                · intro w' hSw
                  obtain ⟨s0, s1, s2, s3⟩ := hSw
                  go_simp
                try simp only [Act.put, List.getElem_toArray, List.getElem_cons_zero, List.setIfInBounds_toArray, List.set_cons_zero, List.set_cons_succ]
                refine wpAnyH_take (i := 1) (v := .bool false) rfl (by kernel_rfl) (by kernel_rfl) (by kernel_rfl) (fun _ _ _ h => h) (Or.inl ⟨by kernel_rfl, ?_⟩) hS ?_
                · intro w' hSw
                  obtain ⟨s0, s1, s2, s3⟩ := hSw
                  go_simp
                try simp only [Act.put, List.getElem_toArray, List.getElem_cons_succ, List.getElem_cons_zero, List.setIfInBounds_toArray, List.set_cons_zero, List.set_cons_succ]
                refine wpAnyH_take (i := 2) (v := .bool false) rfl (by kernel_rfl) (by kernel_rfl) (by kernel_rfl) (fun _ _ _ h => h) (Or.inl ⟨by kernel_rfl, ?_⟩) hS ?_
                · intro w' hSw
                  obtain ⟨s0, s1, s2, s3⟩ := hSw
                  go_simp
                try simp only [Act.put, List.getElem_toArray, List.getElem_cons_succ, List.getElem_cons_zero, List.setIfInBounds_toArray, List.set_cons_zero, List.set_cons_succ]
                refine wpAnyH_take (i := 3) (v := undef) rfl (by kernel_rfl) (by kernel_rfl) (by kernel_rfl) (fun _ _ _ h => h) (Or.inr ⟨by kernel_rfl, rfl⟩) hS ?_
                try simp only [Act.put, zzP]
                refine wpAnyH_take (i := 4) (v := undef) rfl (by kernel_rfl) (by kernel_rfl) (by kernel_rfl) (fun _ _ _ h => h) (Or.inr ⟨by kernel_rfl, rfl⟩) hS ?_
                try simp only [Act.put, zzP]
                refine wpAnyH_take (i := 5) (v := undef) rfl (by kernel_rfl) (by kernel_rfl) (by kernel_rfl) (fun _ _ _ h => h) (Or.inr ⟨by kernel_rfl, rfl⟩) hS ?_
                try simp only [Act.put, zzP]
                refine wpAnyH_take (i := 6) (v := undef) rfl (by kernel_rfl) (by kernel_rfl) (by kernel_rfl) (fun _ _ _ h => h) (Or.inr ⟨by kernel_rfl, rfl⟩) hS ?_
                try simp only [Act.put, zzP]
                refine wpAnyH_take (i := 7) (v := .bool false) rfl (by kernel_rfl) (by kernel_rfl) (by kernel_rfl) (fun _ _ _ h => h) (Or.inl ⟨by kernel_rfl, ?_⟩) hS ?_
                · intro w' hSw
                  obtain ⟨s0, s1, s2, s3⟩ := hSw
                  go_simp
                try simp only [Act.put, List.getElem_toArray, List.getElem_cons_succ, List.getElem_cons_zero, List.setIfInBounds_toArray, List.set_cons_zero, List.set_cons_succ]
                refine wpAnyH_take (i := 8) (v := .bool false) rfl (by kernel_rfl) (by kernel_rfl) (by kernel_rfl) (fun _ _ _ h => h) (Or.inl ⟨by kernel_rfl, ?_⟩) hS ?_
                · intro w' hSw
                  obtain ⟨s0, s1, s2, s3⟩ := hSw
                  go_simp
                try simp only [Act.put, List.getElem_toArray, List.getElem_cons_succ, List.getElem_cons_zero, List.setIfInBounds_toArray, List.set_cons_zero, List.set_cons_succ]
                refine wpAnyH_take (i := 9) (v := undef) rfl (by kernel_rfl) (by kernel_rfl) (by kernel_rfl) (fun _ _ _ h => h) (Or.inr ⟨by kernel_rfl, rfl⟩) hS ?_
                try simp only [Act.put, zzP]
                refine wpAnyH_take (i := 10) (v := undef) rfl (by kernel_rfl) (by kernel_rfl) (by kernel_rfl) (fun _ _ _ h => h) (Or.inr ⟨by kernel_rfl, rfl⟩) hS ?_
                try simp only [Act.put, zzP]
                refine wpAnyH_take (i := 11) (v := undef) rfl (by kernel_rfl) (by kernel_rfl) (by kernel_rfl) (fun _ _ _ h => h) (Or.inr ⟨by kernel_rfl, rfl⟩) hS ?_
                try simp only [Act.put, zzP]
                refine wpAnyH_take (i := 12) (v := undef) rfl (by kernel_rfl) (by kernel_rfl) (by kernel_rfl) (fun _ _ _ h => h) (Or.inr ⟨by kernel_rfl, rfl⟩) hS ?_
                try simp only [Act.put, zzP]
                refine wpAnyH_take (i := 13) (v := undef) rfl (by kernel_rfl) (by kernel_rfl) (by kernel_rfl) (fun _ _ _ h => h) (Or.inr ⟨by kernel_rfl, rfl⟩) hS ?_
                try simp only [Act.put, zzP]
                refine wpAnyH_take (i := 14) (v := undef) rfl (by kernel_rfl) (by kernel_rfl) (by kernel_rfl) (fun _ _ _ h => h) (Or.inr ⟨by kernel_rfl, rfl⟩) hS ?_
                try simp only [Act.put, zzP]
                refine wpAnyH_take (i := 15) (v := .bool false) rfl (by kernel_rfl) (by kernel_rfl) (by kernel_rfl) (fun _ _ _ h => h) (Or.inl ⟨by kernel_rfl, ?_⟩) hS ?_
                · intro w' hSw
                  obtain ⟨s0, s1, s2, s3⟩ := hSw
                  go_simp
                try simp only [Act.put, List.getElem_toArray, List.getElem_cons_succ, List.getElem_cons_zero, List.setIfInBounds_toArray, List.set_cons_zero, List.set_cons_succ]
                refine wpAnyH_take (i := 16) (v := .bool false) rfl (by kernel_rfl) (by kernel_rfl) (by kernel_rfl) (fun _ _ _ h => h) (Or.inl ⟨by kernel_rfl, ?_⟩) hS ?_
                · intro w' hSw
                  obtain ⟨s0, s1, s2, s3⟩ := hSw
                  go_simp
                try simp only [Act.put, List.getElem_toArray, List.getElem_cons_succ, List.getElem_cons_zero, List.setIfInBounds_toArray, List.set_cons_zero, List.set_cons_succ]
                refine wpAnyH_take (i := 17) (v := .int .i64 ec3) rfl (by kernel_rfl) (by kernel_rfl) (by kernel_rfl) (fun _ _ _ h => h) (Or.inl ⟨by kernel_rfl, ?_⟩) hS ?_
                · intro w' hSw
                  obtain ⟨s0, s1, s2, s3⟩ := hSw
                  go_simp
                try simp only [Act.put, List.getElem_toArray, List.getElem_cons_succ, List.getElem_cons_zero, List.setIfInBounds_toArray, List.set_cons_zero, List.set_cons_succ]
                refine wpAnyH_take (i := 18) (v := .bool false) rfl (by kernel_rfl) (by kernel_rfl) (by kernel_rfl) (fun _ _ _ h => h) (Or.inl ⟨by kernel_rfl, ?_⟩) hS ?_
                · intro w' hSw
                  obtain ⟨s0, s1, s2, s3⟩ := hSw
                  go_simp
                try simp only [Act.put, List.getElem_toArray, List.getElem_cons_succ, List.getElem_cons_zero, List.setIfInBounds_toArray, List.set_cons_zero, List.set_cons_succ]
                refine wpAnyH_take (i := 19) (v := .bool false) rfl (by kernel_rfl) (by kernel_rfl) (by kernel_rfl) (fun _ _ _ h => h) (Or.inl ⟨by kernel_rfl, ?_⟩) hS ?_
                · intro w' hSw
                  obtain ⟨s0, s1, s2, s3⟩ := hSw
                  go_simp
                try simp only [Act.put, List.getElem_toArray, List.getElem_cons_succ, List.getElem_cons_zero, List.setIfInBounds_toArray, List.set_cons_zero, List.set_cons_succ]
                refine wpAnyH_take (i := 20) (v := .bool false) rfl (by kernel_rfl) (by kernel_rfl) (by kernel_rfl) (fun _ _ _ h => h) (Or.inl ⟨by kernel_rfl, ?_⟩) hS ?_
                · intro w' hSw
                  obtain ⟨s0, s1, s2, s3⟩ := hSw
                  go_simp
                try simp only [Act.put, List.getElem_toArray, List.getElem_cons_succ, List.getElem_cons_zero, List.setIfInBounds_toArray, List.set_cons_zero, List.set_cons_succ]
                refine wpAnyH_done (by kernel_rfl) ?_ _
                try simp only [zzP]
                have HBF := Lib.hid (HBW.out.trans (hbd.mono HBW.out.size))
                clear HKS hbd hS
                subst hM
                go_wp2_with fail
                go_ret
                exact ⟨rfl, HBF.out⟩
          · clear r0 r1 r2
            rcases HG3.out with ⟨rfl, tv, hrv, htv⟩ | ⟨hne, h4⟩
            · obtain ⟨kv, hv, xs⟩ := tv
              obtain ⟨A8, n8, c8, e8, _, _, hl8, hc8, hm8, ha8⟩ := Rd_node.1 hrv
              simp only [Value.agg.injEq, Array.mk.injEq, List.cons.injEq, Value.int.injEq, Value.slice.injEq, true_and, and_true] at e8
              obtain ⟨rfl, rfl, rfl, rfl, rfl⟩ := e8
              unfold maxLen at hm8
              by_cases h1n : n3 = 1
              · subst h1n
                obtain ⟨x, hx⟩ := at_ofX hl8 (show 0 < 1 by omega)
                obtain ⟨b, o, k4, g4, A4', n4, c4', hA3, q0, q1, q2, rd4⟩ := (ha8 0 x hx).full
                subst hA3
                simp only [Nat.zero_mul, Nat.add_zero] at q0 q1 q2
                obtain ⟨q, hq⟩ : ∃ q, samB x t = q := ⟨_, rfl⟩
                have HQ : Hid (M2 = false → q = true) := Lib.hid (fun hf => by
                  have := htv (HNN.out hf)
                  simp only [T.node.injEq] at this
                  rw [this.2.2] at hx
                  simp only [List.getElem?_cons_zero, Option.some.injEq] at hx
                  rw [← hq, ← hx, sam_refl])
                have HC4 := Lib.hid (fun (W : World) (hb : Below wr.heap.size wr W) => by
                  have := termSame x t _ _ W (Rd.keep hb _ _ rd4) (Rd.keep hb _ _ HRT.out)
                  rw [hq] at this
                  exact this)
                clear rd4 hx ha8 hl8 htv hrv hq
                go_wp2_with fail
                have HKS : Hid (∀ w' : World, Below wr.heap.size wr w' → (fun w' => w'.cell? ⟨w3.heap.size, 0, none⟩ = some (.int .i64 k1) ∧ w'.cell? ⟨w3.heap.size, 1, none⟩ = some (.int .i64 g1) ∧ w'.cell? ⟨w3.heap.size, 2, none⟩ = some (.slice A1 n1 c1) ∧ w'.cell? ⟨w8.heap.size, 2, none⟩ = some (.slice (some ⟨b, o, none⟩) 1 c3) ∧ w'.cell? ⟨b, o, none⟩ = some (.int .i64 k4) ∧ w'.cell? ⟨b, o + 1, none⟩ = some (.int .i64 g4) ∧ w'.cell? ⟨b, o + 2, none⟩ = some (.slice A4' n4 c4')) w') := Lib.hid fun w' h => ⟨(h.cell (cell_ltX p0)).trans p0, (h.cell (cell_ltX p1)).trans p1, (h.cell (cell_ltX p2)).trans p2, (h.cell (cell_ltX v2)).trans v2, (h.cell (cell_ltX q0)).trans q0, (h.cell (cell_ltX q1)).trans q1, (h.cell (cell_ltX q2)).trans q2⟩
                have hbd : Below wr.heap.size wr wr.drew := (Below.refl _ wr).drew
                refine zzR HKS hbd (fun hS => ?_)
                simp only [List.size_toArray, List.length_cons, List.length_nil, Nat.reduceAdd]
                refine wpAnyH_take (i := 0) (v := .int .i64 0) rfl (by kernel_rfl) (by kernel_rfl) (by kernel_rfl) (fun _ _ _ h => h) (Or.inl ⟨by kernel_rfl, ?_⟩) hS ?_
                · intro w' hSw
                  obtain ⟨s0, s1, s2, s3, s4, s5, s6⟩ := hSw
                  go_simp
                try simp only [Act.put, List.getElem_toArray, List.getElem_cons_zero, List.setIfInBounds_toArray, List.set_cons_zero, List.set_cons_succ]
                refine wpAnyH_take (i := 1) (v := .bool true) rfl (by kernel_rfl) (by kernel_rfl) (by kernel_rfl) (fun _ _ _ h => h) (Or.inl ⟨by kernel_rfl, ?_⟩) hS ?_
                · intro w' hSw
                  obtain ⟨s0, s1, s2, s3, s4, s5, s6⟩ := hSw
                  go_simp
                try simp only [Act.put, List.getElem_toArray, List.getElem_cons_succ, List.getElem_cons_zero, List.setIfInBounds_toArray, List.set_cons_zero, List.set_cons_succ]
                refine wpAnyH_take (i := 2) (v := .bool true) rfl (by kernel_rfl) (by kernel_rfl) (by kernel_rfl) (fun _ _ _ h => h) (Or.inl ⟨by kernel_rfl, ?_⟩) hS ?_
                · intro w' hSw
                  obtain ⟨s0, s1, s2, s3, s4, s5, s6⟩ := hSw
                  go_simp
                try simp only [Act.put, List.getElem_toArray, List.getElem_cons_succ, List.getElem_cons_zero, List.setIfInBounds_toArray, List.set_cons_zero, List.set_cons_succ]
                refine wpAnyH_take (i := 3) (v := .pointer (some ⟨w8.heap.size, 2, none⟩)) rfl (by kernel_rfl) (by kernel_rfl) (by kernel_rfl) (fun _ _ _ h => h) (Or.inl ⟨by kernel_rfl, ?_⟩) hS ?_
                · intro w' hSw
                  obtain ⟨s0, s1, s2, s3, s4, s5, s6⟩ := hSw
                  go_simp
                try simp only [Act.put, List.getElem_toArray, List.getElem_cons_succ, List.getElem_cons_zero, List.setIfInBounds_toArray, List.set_cons_zero, List.set_cons_succ]
                refine wpAnyH_take (i := 4) (v := .slice (some ⟨b, o, none⟩) 1 c3) rfl (by kernel_rfl) (by kernel_rfl) (by kernel_rfl) (fun _ _ _ h => h) (Or.inl ⟨by kernel_rfl, ?_⟩) hS ?_
                · intro w' hSw
                  obtain ⟨s0, s1, s2, s3, s4, s5, s6⟩ := hSw
                  go_simp
                try simp only [Act.put, List.getElem_toArray, List.getElem_cons_succ, List.getElem_cons_zero, List.setIfInBounds_toArray, List.set_cons_zero, List.set_cons_succ]
                refine wpAnyH_take (i := 5) (v := .int .i64 1) rfl (by kernel_rfl) (by kernel_rfl) (by kernel_rfl) (fun _ _ _ h => h) (Or.inl ⟨by kernel_rfl, ?_⟩) hS ?_
                · intro w' hSw
                  obtain ⟨s0, s1, s2, s3, s4, s5, s6⟩ := hSw
                  go_simp
                try simp only [Act.put, List.getElem_toArray, List.getElem_cons_succ, List.getElem_cons_zero, List.setIfInBounds_toArray, List.set_cons_zero, List.set_cons_succ]
                refine wpAnyH_take (i := 6) (v := .bool true) rfl (by kernel_rfl) (by kernel_rfl) (by kernel_rfl) (fun _ _ _ h => h) (Or.inl ⟨by kernel_rfl, ?_⟩) hS ?_
                · intro w' hSw
                  obtain ⟨s0, s1, s2, s3, s4, s5, s6⟩ := hSw
                  go_simp
                try simp only [Act.put, List.getElem_toArray, List.getElem_cons_succ, List.getElem_cons_zero, List.setIfInBounds_toArray, List.set_cons_zero, List.set_cons_succ]
                refine wpAnyH_take (i := 7) (v := .bool true) rfl (by kernel_rfl) (by kernel_rfl) (by kernel_rfl) (fun _ _ _ h => h) (Or.inl ⟨by kernel_rfl, ?_⟩) hS ?_
                · intro w' hSw
                  obtain ⟨s0, s1, s2, s3, s4, s5, s6⟩ := hSw
                  go_simp
                try simp only [Act.put, List.getElem_toArray, List.getElem_cons_succ, List.getElem_cons_zero, List.setIfInBounds_toArray, List.set_cons_zero, List.set_cons_succ]
                refine wpAnyH_take (i := 8) (v := .bool true) rfl (by kernel_rfl) (by kernel_rfl) (by kernel_rfl) (fun _ _ _ h => h) (Or.inl ⟨by kernel_rfl, ?_⟩) hS ?_
                · intro w' hSw
                  obtain ⟨s0, s1, s2, s3, s4, s5, s6⟩ := hSw
                  go_simp
                try simp only [Act.put, List.getElem_toArray, List.getElem_cons_succ, List.getElem_cons_zero, List.setIfInBounds_toArray, List.set_cons_zero, List.set_cons_succ]
                refine wpAnyH_take (i := 9) (v := .pointer (some ⟨w8.heap.size, 2, none⟩)) rfl (by kernel_rfl) (by kernel_rfl) (by kernel_rfl) (fun _ _ _ h => h) (Or.inl ⟨by kernel_rfl, ?_⟩) hS ?_
                · intro w' hSw
                  obtain ⟨s0, s1, s2, s3, s4, s5, s6⟩ := hSw
                  go_simp
                try simp only [Act.put, List.getElem_toArray, List.getElem_cons_succ, List.getElem_cons_zero, List.setIfInBounds_toArray, List.set_cons_zero, List.set_cons_succ]
                refine wpAnyH_take (i := 10) (v := .slice (some ⟨b, o, none⟩) 1 c3) rfl (by kernel_rfl) (by kernel_rfl) (by kernel_rfl) (fun _ _ _ h => h) (Or.inl ⟨by kernel_rfl, ?_⟩) hS ?_
                · intro w' hSw
                  obtain ⟨s0, s1, s2, s3, s4, s5, s6⟩ := hSw
                  go_simp
                try simp only [Act.put, List.getElem_toArray, List.getElem_cons_succ, List.getElem_cons_zero, List.setIfInBounds_toArray, List.set_cons_zero, List.set_cons_succ]
                refine wpAnyH_take (i := 11) (v := .pointer (some ⟨b, o, none⟩)) rfl (by kernel_rfl) (by kernel_rfl) (by kernel_rfl) (fun _ _ _ h => h) (Or.inl ⟨by kernel_rfl, ?_⟩) hS ?_
                · intro w' hSw
                  obtain ⟨s0, s1, s2, s3, s4, s5, s6⟩ := hSw
                  go_simp
                try simp only [Act.put, List.getElem_toArray, List.getElem_cons_succ, List.getElem_cons_zero, List.setIfInBounds_toArray, List.set_cons_zero, List.set_cons_succ]
                refine wpAnyH_take (i := 12) (v := .agg #[.int .i64 k4, .int .i64 g4, .slice A4' n4 c4']) rfl (by kernel_rfl) (by kernel_rfl) (by kernel_rfl) (fun _ _ _ h => h) (Or.inl ⟨by kernel_rfl, ?_⟩) hS ?_
                · intro w' hSw
                  obtain ⟨s0, s1, s2, s3, s4, s5, s6⟩ := hSw
                  go_simp
                try simp only [Act.put, List.getElem_toArray, List.getElem_cons_succ, List.getElem_cons_zero, List.setIfInBounds_toArray, List.set_cons_zero, List.set_cons_succ]
                refine wpAnyH_take (i := 13) (v := .agg #[.int .i64 k1, .int .i64 g1, .slice A1 n1 c1]) rfl (by kernel_rfl) (by kernel_rfl) (by kernel_rfl) (fun _ _ _ h => h) (Or.inl ⟨by kernel_rfl, ?_⟩) hS ?_
                · intro w' hSw
                  obtain ⟨s0, s1, s2, s3, s4, s5, s6⟩ := hSw
                  go_simp
                try simp only [Act.put, List.getElem_toArray, List.getElem_cons_succ, List.getElem_cons_zero, List.setIfInBounds_toArray, List.set_cons_zero, List.set_cons_succ]
                refine wpAnyH_ready (rs := [14]) (by kernel_rfl) (by simp) ?_
                refine AllReadyH.cons rfl (fun KN hK => ?_) AllReadyH.nil
                go_simp
                refine (HC4.out _ hbd).mono ?_
                rintro e w7' ⟨rfl, hb7⟩
                refine hK.out _ _ (HKS.out _ (hbd.trans (hb7.mono hbd.size))) (fun hS => ?_)
                clear hK KN
                try simp only [Act.put, zzP]
                have HBF := Lib.hid (HBV.out.trans ((hbd.trans (hb7.mono hbd.size)).mono HBV.out.size))
                cases q with
                | true =>
                  refine wpAnyH_take (i := 15) (v := .bool true) rfl (by kernel_rfl) (by kernel_rfl) (by kernel_rfl) (fun _ _ _ h => h) (Or.inl ⟨by kernel_rfl, ?_⟩) hS ?_
                  · intro w' hSw
                    obtain ⟨s0, s1, s2, s3, s4, s5, s6⟩ := hSw
                    go_simp
                  try simp only [Act.put, List.getElem_toArray, List.getElem_cons_succ, List.getElem_cons_zero, List.setIfInBounds_toArray, List.set_cons_zero, List.set_cons_succ]
                  refine wpAnyH_take (i := 16) (v := .bool true) rfl (by kernel_rfl) (by kernel_rfl) (by kernel_rfl) (fun _ _ _ h => h) (Or.inl ⟨by kernel_rfl, ?_⟩) hS ?_
                  · intro w' hSw
                    obtain ⟨s0, s1, s2, s3, s4, s5, s6⟩ := hSw
                    go_simp
                  try simp only [Act.put, List.getElem_toArray, List.getElem_cons_succ, List.getElem_cons_zero, List.setIfInBounds_toArray, List.set_cons_zero, List.set_cons_succ]
                  refine wpAnyH_take (i := 17) (v := undef) rfl (by kernel_rfl) (by kernel_rfl) (by kernel_rfl) (fun _ _ _ h => h) (Or.inr ⟨by kernel_rfl, rfl⟩) hS ?_
                  try simp only [Act.put, zzP]
                  refine wpAnyH_take (i := 18) (v := undef) rfl (by kernel_rfl) (by kernel_rfl) (by kernel_rfl) (fun _ _ _ h => h) (Or.inr ⟨by kernel_rfl, rfl⟩) hS ?_
                  try simp only [Act.put, zzP]
                  refine wpAnyH_take (i := 19) (v := .bool true) rfl (by kernel_rfl) (by kernel_rfl) (by kernel_rfl) (fun _ _ _ h => h) (Or.inl ⟨by kernel_rfl, ?_⟩) hS ?_
                  · intro w' hSw
                    obtain ⟨s0, s1, s2, s3, s4, s5, s6⟩ := hSw
                    go_simp
                  try simp only [Act.put, List.getElem_toArray, List.getElem_cons_succ, List.getElem_cons_zero, List.setIfInBounds_toArray, List.set_cons_zero, List.set_cons_succ]
                  refine wpAnyH_take (i := 20) (v := .bool true) rfl (by kernel_rfl) (by kernel_rfl) (by kernel_rfl) (fun _ _ _ h => h) (Or.inl ⟨by kernel_rfl, ?_⟩) hS ?_
                  · intro w' hSw
                    obtain ⟨s0, s1, s2, s3, s4, s5, s6⟩ := hSw
                    go_simp
                  try simp only [Act.put, List.getElem_toArray, List.getElem_cons_succ, List.getElem_cons_zero, List.setIfInBounds_toArray, List.set_cons_zero, List.set_cons_succ]
                  refine wpAnyH_done (by kernel_rfl) ?_ _
                  try simp only [zzP]
                  clear HKS hbd hS hb7 HC4
                  cases M2 <;> (go_wp2_with fail; go_ret; exact ⟨rfl, HBF.out⟩)
                | false =>
                  have hM : M2 = true := by
                    cases hM2 : M2 with
                    | true => rfl
                    | false => exact absurd (HQ.out hM2) (by simp)
                  refine wpAnyH_take (i := 15) (v := .bool false) rfl (by kernel_rfl) (by kernel_rfl) (by kernel_rfl) (fun _ _ _ h => h) (Or.inl ⟨by kernel_rfl, ?_⟩) hS ?_
                  · intro w' hSw
                    obtain ⟨s0, s1, s2, s3, s4, s5, s6⟩ := hSw
                    go_simp
                  try simp only [Act.put, List.getElem_toArray, List.getElem_cons_succ, List.getElem_cons_zero, List.setIfInBounds_toArray, List.set_cons_zero, List.set_cons_succ]
                  refine wpAnyH_take (i := 16) (v := .bool false) rfl (by kernel_rfl) (by kernel_rfl) (by kernel_rfl) (fun _ _ _ h => h) (Or.inl ⟨by kernel_rfl, ?_⟩) hS ?_
                  · intro w' hSw
                    obtain ⟨s0, s1, s2, s3, s4, s5, s6⟩ := hSw
                    go_simp
                  try simp only [Act.put, List.getElem_toArray, List.getElem_cons_succ, List.getElem_cons_zero, List.setIfInBounds_toArray, List.set_cons_zero, List.set_cons_succ]
                  refine wpAnyH_take (i := 17) (v := .int .i64 0) rfl (by kernel_rfl) (by kernel_rfl) (by kernel_rfl) (fun _ _ _ h => h) (Or.inl ⟨by kernel_rfl, ?_⟩) hS ?_
                  · intro w' hSw
                    obtain ⟨s0, s1, s2, s3, s4, s5, s6⟩ := hSw
                    go_simp
                  try simp only [Act.put, List.getElem_toArray, List.getElem_cons_succ, List.getElem_cons_zero, List.setIfInBounds_toArray, List.set_cons_zero, List.set_cons_succ]
                  refine wpAnyH_take (i := 18) (v := .bool false) rfl (by kernel_rfl) (by kernel_rfl) (by kernel_rfl) (fun _ _ _ h => h) (Or.inl ⟨by kernel_rfl, ?_⟩) hS ?_
                  · intro w' hSw
                    obtain ⟨s0, s1, s2, s3, s4, s5, s6⟩ := hSw
                    go_simp
                  try simp only [Act.put, List.getElem_toArray, List.getElem_cons_succ, List.getElem_cons_zero, List.setIfInBounds_toArray, List.set_cons_zero, List.set_cons_succ]
                  refine wpAnyH_take (i := 19) (v := .bool false) rfl (by kernel_rfl) (by kernel_rfl) (by kernel_rfl) (fun _ _ _ h => h) (Or.inl ⟨by kernel_rfl, ?_⟩) hS ?_
                  · intro w' hSw
                    obtain ⟨s0, s1, s2, s3, s4, s5, s6⟩ := hSw
                    go_simp
                  try simp only [Act.put, List.getElem_toArray, List.getElem_cons_succ, List.getElem_cons_zero, List.setIfInBounds_toArray, List.set_cons_zero, List.set_cons_succ]
                  refine wpAnyH_take (i := 20) (v := .bool false) rfl (by kernel_rfl) (by kernel_rfl) (by kernel_rfl) (fun _ _ _ h => h) (Or.inl ⟨by kernel_rfl, ?_⟩) hS ?_
                  · intro w' hSw
                    obtain ⟨s0, s1, s2, s3, s4, s5, s6⟩ := hSw
                    go_simp
                  try simp only [Act.put, List.getElem_toArray, List.getElem_cons_succ, List.getElem_cons_zero, List.setIfInBounds_toArray, List.set_cons_zero, List.set_cons_succ]
                  refine wpAnyH_done (by kernel_rfl) ?_ _
                  try simp only [zzP]
                  clear HKS hbd hS hb7 HC4
                  subst hM
                  go_wp2_with fail
                  go_ret
                  exact ⟨rfl, HBF.out⟩
              · have hM : M2 = true := by
                  cases hM2 : M2 with
                  | true => rfl
                  | false =>
                    have := htv (HNN.out hM2)
                    simp only [T.node.injEq] at this
                    rw [this.2.2] at hl8
                    exact absurd hl8.symm h1n
                have d6 : ((n3 : Int) == 1) = false := by simp; omega
                clear htv hrv ha8 hl8
                go_wp2_with fail
                have HKS : Hid (∀ w' : World, Below wr.heap.size wr w' → (fun w' => w'.cell? ⟨w3.heap.size, 0, none⟩ = some (.int .i64 k1) ∧ w'.cell? ⟨w3.heap.size, 1, none⟩ = some (.int .i64 g1) ∧ w'.cell? ⟨w3.heap.size, 2, none⟩ = some (.slice A1 n1 c1) ∧ w'.cell? ⟨w8.heap.size, 2, none⟩ = some (.slice A3 n3 c3)) w') := Lib.hid fun w' h => ⟨(h.cell (cell_ltX p0)).trans p0, (h.cell (cell_ltX p1)).trans p1, (h.cell (cell_ltX p2)).trans p2, (h.cell (cell_ltX v2)).trans v2⟩
                have hbd : Below wr.heap.size wr wr.drew := (Below.refl _ wr).drew
                refine zzR HKS hbd (fun hS => ?_)
                simp only [List.size_toArray, List.length_cons, List.length_nil, Nat.reduceAdd]
                refine wpAnyH_take (i := 0) (v := .int .i64 0) rfl (by kernel_rfl) (by kernel_rfl) (by kernel_rfl) (fun _ _ _ h => h) (Or.inl ⟨by kernel_rfl, ?_⟩) hS ?_
                · intro w' hSw
                  obtain ⟨s0, s1, s2, s3⟩ := hSw
                  go_simp
                try simp only [Act.put, List.getElem_toArray, List.getElem_cons_zero, List.setIfInBounds_toArray, List.set_cons_zero, List.set_cons_succ]
                refine wpAnyH_take (i := 1) (v := .bool true) rfl (by kernel_rfl) (by kernel_rfl) (by kernel_rfl) (fun _ _ _ h => h) (Or.inl ⟨by kernel_rfl, ?_⟩) hS ?_
                · intro w' hSw
                  obtain ⟨s0, s1, s2, s3⟩ := hSw
                  go_simp
                try simp only [Act.put, List.getElem_toArray, List.getElem_cons_succ, List.getElem_cons_zero, List.setIfInBounds_toArray, List.set_cons_zero, List.set_cons_succ]
                refine wpAnyH_take (i := 2) (v := .bool true) rfl (by kernel_rfl) (by kernel_rfl) (by kernel_rfl) (fun _ _ _ h => h) (Or.inl ⟨by kernel_rfl, ?_⟩) hS ?_
                · intro w' hSw
                  obtain ⟨s0, s1, s2, s3⟩ := hSw
                  go_simp
                try simp only [Act.put, List.getElem_toArray, List.getElem_cons_succ, List.getElem_cons_zero, List.setIfInBounds_toArray, List.set_cons_zero, List.set_cons_succ]
                refine wpAnyH_take (i := 3) (v := .pointer (some ⟨w8.heap.size, 2, none⟩)) rfl (by kernel_rfl) (by kernel_rfl) (by kernel_rfl) (fun _ _ _ h => h) (Or.inl ⟨by kernel_rfl, ?_⟩) hS ?_
                · intro w' hSw
                  obtain ⟨s0, s1, s2, s3⟩ := hSw
                  go_simp
                try simp only [Act.put, List.getElem_toArray, List.getElem_cons_succ, List.getElem_cons_zero, List.setIfInBounds_toArray, List.set_cons_zero, List.set_cons_succ]
                refine wpAnyH_take (i := 4) (v := .slice A3 n3 c3) rfl (by kernel_rfl) (by kernel_rfl) (by kernel_rfl) (fun _ _ _ h => h) (Or.inl ⟨by kernel_rfl, ?_⟩) hS ?_
                · intro w' hSw
                  obtain ⟨s0, s1, s2, s3⟩ := hSw
                  go_simp
                try simp only [Act.put, List.getElem_toArray, List.getElem_cons_succ, List.getElem_cons_zero, List.setIfInBounds_toArray, List.set_cons_zero, List.set_cons_succ]
                refine wpAnyH_take (i := 5) (v := .int .i64 n3) rfl (by kernel_rfl) (by kernel_rfl) (by kernel_rfl) (fun _ _ _ h => h) (Or.inl ⟨by kernel_rfl, ?_⟩) hS ?_
                · intro w' hSw
                  obtain ⟨s0, s1, s2, s3⟩ := hSw
                  go_simp
                try simp only [Act.put, List.getElem_toArray, List.getElem_cons_succ, List.getElem_cons_zero, List.setIfInBounds_toArray, List.set_cons_zero, List.set_cons_succ]
                refine wpAnyH_take (i := 6) (v := .bool false) rfl (by kernel_rfl) (by kernel_rfl) (by kernel_rfl) (fun _ _ _ h => h) (Or.inl ⟨by kernel_rfl, ?_⟩) hS ?_
                · intro w' hSw
                  obtain ⟨s0, s1, s2, s3⟩ := hSw
                  go_simp
                try simp only [Act.put, List.getElem_toArray, List.getElem_cons_succ, List.getElem_cons_zero, List.setIfInBounds_toArray, List.set_cons_zero, List.set_cons_succ]
                refine wpAnyH_take (i := 7) (v := .bool false) rfl (by kernel_rfl) (by kernel_rfl) (by kernel_rfl) (fun _ _ _ h => h) (Or.inl ⟨by kernel_rfl, ?_⟩) hS ?_
                · intro w' hSw
                  obtain ⟨s0, s1, s2, s3⟩ := hSw
                  go_simp
                try simp only [Act.put, List.getElem_toArray, List.getElem_cons_succ, List.getElem_cons_zero, List.setIfInBounds_toArray, List.set_cons_zero, List.set_cons_succ]
                refine wpAnyH_take (i := 8) (v := .bool false) rfl (by kernel_rfl) (by kernel_rfl) (by kernel_rfl) (fun _ _ _ h => h) (Or.inl ⟨by kernel_rfl, ?_⟩) hS ?_
                · intro w' hSw
                  obtain ⟨s0, s1, s2, s3⟩ := hSw
                  go_simp
                try simp only [Act.put, List.getElem_toArray, List.getElem_cons_succ, List.getElem_cons_zero, List.setIfInBounds_toArray, List.set_cons_zero, List.set_cons_succ]
                refine wpAnyH_take (i := 9) (v := undef) rfl (by kernel_rfl) (by kernel_rfl) (by kernel_rfl) (fun _ _ _ h => h) (Or.inr ⟨by kernel_rfl, rfl⟩) hS ?_
                try simp only [Act.put, zzP]
                refine wpAnyH_take (i := 10) (v := undef) rfl (by kernel_rfl) (by kernel_rfl) (by kernel_rfl) (fun _ _ _ h => h) (Or.inr ⟨by kernel_rfl, rfl⟩) hS ?_
                try simp only [Act.put, zzP]
                refine wpAnyH_take (i := 11) (v := undef) rfl (by kernel_rfl) (by kernel_rfl) (by kernel_rfl) (fun _ _ _ h => h) (Or.inr ⟨by kernel_rfl, rfl⟩) hS ?_
                try simp only [Act.put, zzP]
                refine wpAnyH_take (i := 12) (v := undef) rfl (by kernel_rfl) (by kernel_rfl) (by kernel_rfl) (fun _ _ _ h => h) (Or.inr ⟨by kernel_rfl, rfl⟩) hS ?_
                try simp only [Act.put, zzP]
                refine wpAnyH_take (i := 13) (v := undef) rfl (by kernel_rfl) (by kernel_rfl) (by kernel_rfl) (fun _ _ _ h => h) (Or.inr ⟨by kernel_rfl, rfl⟩) hS ?_
                try simp only [Act.put, zzP]
                refine wpAnyH_take (i := 14) (v := undef) rfl (by kernel_rfl) (by kernel_rfl) (by kernel_rfl) (fun _ _ _ h => h) (Or.inr ⟨by kernel_rfl, rfl⟩) hS ?_
                try simp only [Act.put, zzP]
                refine wpAnyH_take (i := 15) (v := .bool false) rfl (by kernel_rfl) (by kernel_rfl) (by kernel_rfl) (fun _ _ _ h => h) (Or.inl ⟨by kernel_rfl, ?_⟩) hS ?_
                · intro w' hSw
                  obtain ⟨s0, s1, s2, s3⟩ := hSw
                  go_simp
                try simp only [Act.put, List.getElem_toArray, List.getElem_cons_succ, List.getElem_cons_zero, List.setIfInBounds_toArray, List.set_cons_zero, List.set_cons_succ]
                refine wpAnyH_take (i := 16) (v := .bool false) rfl (by kernel_rfl) (by kernel_rfl) (by kernel_rfl) (fun _ _ _ h => h) (Or.inl ⟨by kernel_rfl, ?_⟩) hS ?_
                · intro w' hSw
                  obtain ⟨s0, s1, s2, s3⟩ := hSw
                  go_simp
                try simp only [Act.put, List.getElem_toArray, List.getElem_cons_succ, List.getElem_cons_zero, List.setIfInBounds_toArray, List.set_cons_zero, List.set_cons_succ]
                refine wpAnyH_take (i := 17) (v := .int .i64 0) rfl (by kernel_rfl) (by kernel_rfl) (by kernel_rfl) (fun _ _ _ h => h) (Or.inl ⟨by kernel_rfl, ?_⟩) hS ?_
                · intro w' hSw
                  obtain ⟨s0, s1, s2, s3⟩ := hSw
                  go_simp
                try simp only [Act.put, List.getElem_toArray, List.getElem_cons_succ, List.getElem_cons_zero, List.setIfInBounds_toArray, List.set_cons_zero, List.set_cons_succ]
                refine wpAnyH_take (i := 18) (v := .bool false) rfl (by kernel_rfl) (by kernel_rfl) (by kernel_rfl) (fun _ _ _ h => h) (Or.inl ⟨by kernel_rfl, ?_⟩) hS ?_
                · intro w' hSw
                  obtain ⟨s0, s1, s2, s3⟩ := hSw
                  go_simp
                try simp only [Act.put, List.getElem_toArray, List.getElem_cons_succ, List.getElem_cons_zero, List.setIfInBounds_toArray, List.set_cons_zero, List.set_cons_succ]
                refine wpAnyH_take (i := 19) (v := .bool false) rfl (by kernel_rfl) (by kernel_rfl) (by kernel_rfl) (fun _ _ _ h => h) (Or.inl ⟨by kernel_rfl, ?_⟩) hS ?_
                · intro w' hSw
                  obtain ⟨s0, s1, s2, s3⟩ := hSw
                  go_simp
                try simp only [Act.put, List.getElem_toArray, List.getElem_cons_succ, List.getElem_cons_zero, List.setIfInBounds_toArray, List.set_cons_zero, List.set_cons_succ]
                refine wpAnyH_take (i := 20) (v := .bool false) rfl (by kernel_rfl) (by kernel_rfl) (by kernel_rfl) (fun _ _ _ h => h) (Or.inl ⟨by kernel_rfl, ?_⟩) hS ?_
                · intro w' hSw
                  obtain ⟨s0, s1, s2, s3⟩ := hSw
                  go_simp
                try simp only [Act.put, List.getElem_toArray, List.getElem_cons_succ, List.getElem_cons_zero, List.setIfInBounds_toArray, List.set_cons_zero, List.set_cons_succ]
                refine wpAnyH_done (by kernel_rfl) ?_ _
                try simp only [zzP]
                have HBF := Lib.hid (HBV.out.trans (hbd.mono HBV.out.size))
                clear HKS hbd hS
                subst hM
                go_wp2_with fail
                go_ret
                exact ⟨rfl, HBF.out⟩
            · have d6 : (ec3 == 0) = false := by simpa using hne
              by_cases h44 : ec3 = 4
              · subst h44
                clear h4
                go_wp2_with fail
                have HKS : Hid (∀ w' : World, Below wr.heap.size wr w' → (fun w' => w'.cell? ⟨w3.heap.size, 0, none⟩ = some (.int .i64 k1) ∧ w'.cell? ⟨w3.heap.size, 1, none⟩ = some (.int .i64 g1) ∧ w'.cell? ⟨w3.heap.size, 2, none⟩ = some (.slice A1 n1 c1) ∧ w'.cell? ⟨w8.heap.size, 2, none⟩ = some (.slice A3 n3 c3)) w') := Lib.hid fun w' h => ⟨(h.cell (cell_ltX p0)).trans p0, (h.cell (cell_ltX p1)).trans p1, (h.cell (cell_ltX p2)).trans p2, (h.cell (cell_ltX v2)).trans v2⟩
                have hbd : Below wr.heap.size wr wr.drew := (Below.refl _ wr).drew
                refine zzR HKS hbd (fun hS => ?_)
                simp only [List.size_toArray, List.length_cons, List.length_nil, Nat.reduceAdd]
                refine wpAnyH_take (i := 0) (v := .int .i64 4) rfl (by kernel_rfl) (by kernel_rfl) (by kernel_rfl) (fun _ _ _ h => h) (Or.inl ⟨by kernel_rfl, ?_⟩) hS ?_
                · intro w' hSw
                  obtain ⟨s0, s1, s2, s3⟩ := hSw
                  go_simp
                try simp only [Act.put, List.getElem_toArray, List.getElem_cons_zero, List.setIfInBounds_toArray, List.set_cons_zero, List.set_cons_succ]
                refine wpAnyH_take (i := 1) (v := .bool false) rfl (by kernel_rfl) (by kernel_rfl) (by kernel_rfl) (fun _ _ _ h => h) (Or.inl ⟨by kernel_rfl, ?_⟩) hS ?_
                · intro w' hSw
                  obtain ⟨s0, s1, s2, s3⟩ := hSw
                  go_simp
                try simp only [Act.put, List.getElem_toArray, List.getElem_cons_succ, List.getElem_cons_zero, List.setIfInBounds_toArray, List.set_cons_zero, List.set_cons_succ]
                refine wpAnyH_take (i := 2) (v := .bool false) rfl (by kernel_rfl) (by kernel_rfl) (by kernel_rfl) (fun _ _ _ h => h) (Or.inl ⟨by kernel_rfl, ?_⟩) hS ?_
                · intro w' hSw
                  obtain ⟨s0, s1, s2, s3⟩ := hSw
                  go_simp
                try simp only [Act.put, List.getElem_toArray, List.getElem_cons_succ, List.getElem_cons_zero, List.setIfInBounds_toArray, List.set_cons_zero, List.set_cons_succ]
                refine wpAnyH_take (i := 3) (v := undef) rfl (by kernel_rfl) (by kernel_rfl) (by kernel_rfl) (fun _ _ _ h => h) (Or.inr ⟨by kernel_rfl, rfl⟩) hS ?_
                try simp only [Act.put, zzP]
                refine wpAnyH_take (i := 4) (v := undef) rfl (by kernel_rfl) (by kernel_rfl) (by kernel_rfl) (fun _ _ _ h => h) (Or.inr ⟨by kernel_rfl, rfl⟩) hS ?_
                try simp only [Act.put, zzP]
                refine wpAnyH_take (i := 5) (v := undef) rfl (by kernel_rfl) (by kernel_rfl) (by kernel_rfl) (fun _ _ _ h => h) (Or.inr ⟨by kernel_rfl, rfl⟩) hS ?_
                try simp only [Act.put, zzP]
                refine wpAnyH_take (i := 6) (v := undef) rfl (by kernel_rfl) (by kernel_rfl) (by kernel_rfl) (fun _ _ _ h => h) (Or.inr ⟨by kernel_rfl, rfl⟩) hS ?_
                try simp only [Act.put, zzP]
                refine wpAnyH_take (i := 7) (v := .bool false) rfl (by kernel_rfl) (by kernel_rfl) (by kernel_rfl) (fun _ _ _ h => h) (Or.inl ⟨by kernel_rfl, ?_⟩) hS ?_
                · intro w' hSw
                  obtain ⟨s0, s1, s2, s3⟩ := hSw
                  go_simp
                try simp only [Act.put, List.getElem_toArray, List.getElem_cons_succ, List.getElem_cons_zero, List.setIfInBounds_toArray, List.set_cons_zero, List.set_cons_succ]
                refine wpAnyH_take (i := 8) (v := .bool false) rfl (by kernel_rfl) (by kernel_rfl) (by kernel_rfl) (fun _ _ _ h => h) (Or.inl ⟨by kernel_rfl, ?_⟩) hS ?_
                · intro w' hSw
                  obtain ⟨s0, s1, s2, s3⟩ := hSw
                  go_simp
                try simp only [Act.put, List.getElem_toArray, List.getElem_cons_succ, List.getElem_cons_zero, List.setIfInBounds_toArray, List.set_cons_zero, List.set_cons_succ]
                refine wpAnyH_take (i := 9) (v := undef) rfl (by kernel_rfl) (by kernel_rfl) (by kernel_rfl) (fun _ _ _ h => h) (Or.inr ⟨by kernel_rfl, rfl⟩) hS ?_
                try simp only [Act.put, zzP]
                refine wpAnyH_take (i := 10) (v := undef) rfl (by kernel_rfl) (by kernel_rfl) (by kernel_rfl) (fun _ _ _ h => h) (Or.inr ⟨by kernel_rfl, rfl⟩) hS ?_
                try simp only [Act.put, zzP]
                refine wpAnyH_take (i := 11) (v := undef) rfl (by kernel_rfl) (by kernel_rfl) (by kernel_rfl) (fun _ _ _ h => h) (Or.inr ⟨by kernel_rfl, rfl⟩) hS ?_
                try simp only [Act.put, zzP]
                refine wpAnyH_take (i := 12) (v := undef) rfl (by kernel_rfl) (by kernel_rfl) (by kernel_rfl) (fun _ _ _ h => h) (Or.inr ⟨by kernel_rfl, rfl⟩) hS ?_
                try simp only [Act.put, zzP]
                refine wpAnyH_take (i := 13) (v := undef) rfl (by kernel_rfl) (by kernel_rfl) (by kernel_rfl) (fun _ _ _ h => h) (Or.inr ⟨by kernel_rfl, rfl⟩) hS ?_
                try simp only [Act.put, zzP]
                refine wpAnyH_take (i := 14) (v := undef) rfl (by kernel_rfl) (by kernel_rfl) (by kernel_rfl) (fun _ _ _ h => h) (Or.inr ⟨by kernel_rfl, rfl⟩) hS ?_
                try simp only [Act.put, zzP]
                refine wpAnyH_take (i := 15) (v := .bool false) rfl (by kernel_rfl) (by kernel_rfl) (by kernel_rfl) (fun _ _ _ h => h) (Or.inl ⟨by kernel_rfl, ?_⟩) hS ?_
                · intro w' hSw
                  obtain ⟨s0, s1, s2, s3⟩ := hSw
                  go_simp
                try simp only [Act.put, List.getElem_toArray, List.getElem_cons_succ, List.getElem_cons_zero, List.setIfInBounds_toArray, List.set_cons_zero, List.set_cons_succ]
                refine wpAnyH_take (i := 16) (v := .bool false) rfl (by kernel_rfl) (by kernel_rfl) (by kernel_rfl) (fun _ _ _ h => h) (Or.inl ⟨by kernel_rfl, ?_⟩) hS ?_
                · intro w' hSw
                  obtain ⟨s0, s1, s2, s3⟩ := hSw
                  go_simp
                try simp only [Act.put, List.getElem_toArray, List.getElem_cons_succ, List.getElem_cons_zero, List.setIfInBounds_toArray, List.set_cons_zero, List.set_cons_succ]
                refine wpAnyH_take (i := 17) (v := .int .i64 4) rfl (by kernel_rfl) (by kernel_rfl) (by kernel_rfl) (fun _ _ _ h => h) (Or.inl ⟨by kernel_rfl, ?_⟩) hS ?_
                · intro w' hSw
                  obtain ⟨s0, s1, s2, s3⟩ := hSw
                  go_simp
                try simp only [Act.put, List.getElem_toArray, List.getElem_cons_succ, List.getElem_cons_zero, List.setIfInBounds_toArray, List.set_cons_zero, List.set_cons_succ]
                refine wpAnyH_take (i := 18) (v := .bool true) rfl (by kernel_rfl) (by kernel_rfl) (by kernel_rfl) (fun _ _ _ h => h) (Or.inl ⟨by kernel_rfl, ?_⟩) hS ?_
                · intro w' hSw
                  obtain ⟨s0, s1, s2, s3⟩ := hSw
                  go_simp
                try simp only [Act.put, List.getElem_toArray, List.getElem_cons_succ, List.getElem_cons_zero, List.setIfInBounds_toArray, List.set_cons_zero, List.set_cons_succ]
                refine wpAnyH_take (i := 19) (v := .bool true) rfl (by kernel_rfl) (by kernel_rfl) (by kernel_rfl) (fun _ _ _ h => h) (Or.inl ⟨by kernel_rfl, ?_⟩) hS ?_
                · intro w' hSw
                  obtain ⟨s0, s1, s2, s3⟩ := hSw
                  go_simp
                try simp only [Act.put, List.getElem_toArray, List.getElem_cons_succ, List.getElem_cons_zero, List.setIfInBounds_toArray, List.set_cons_zero, List.set_cons_succ]
                refine wpAnyH_take (i := 20) (v := .bool true) rfl (by kernel_rfl) (by kernel_rfl) (by kernel_rfl) (fun _ _ _ h => h) (Or.inl ⟨by kernel_rfl, ?_⟩) hS ?_
                · intro w' hSw
                  obtain ⟨s0, s1, s2, s3⟩ := hSw
                  go_simp
                try simp only [Act.put, List.getElem_toArray, List.getElem_cons_succ, List.getElem_cons_zero, List.setIfInBounds_toArray, List.set_cons_zero, List.set_cons_succ]
                refine wpAnyH_done (by kernel_rfl) ?_ _
                try simp only [zzP]
                have HBF := Lib.hid (HBV.out.trans (hbd.mono HBV.out.size))
                clear HKS hbd hS
                cases M2 <;> (go_wp2_with fail; go_ret; exact ⟨rfl, HBF.out⟩)
              · have hM : M2 = true := by
                  cases hM2 : M2 with
                  | true => rfl
                  | false => exact absurd (h4 (HNN.out hM2)) h44
                have d7 : (ec3 == 4) = false := by simpa using h44
                clear h4
                go_wp2_with fail
                have HKS : Hid (∀ w' : World, Below wr.heap.size wr w' → (fun w' => w'.cell? ⟨w3.heap.size, 0, none⟩ = some (.int .i64 k1) ∧ w'.cell? ⟨w3.heap.size, 1, none⟩ = some (.int .i64 g1) ∧ w'.cell? ⟨w3.heap.size, 2, none⟩ = some (.slice A1 n1 c1) ∧ w'.cell? ⟨w8.heap.size, 2, none⟩ = some (.slice A3 n3 c3)) w') := Lib.hid fun w' h => ⟨(h.cell (cell_ltX p0)).trans p0, (h.cell (cell_ltX p1)).trans p1, (h.cell (cell_ltX p2)).trans p2, (h.cell (cell_ltX v2)).trans v2⟩
                have hbd : Below wr.heap.size wr wr.drew := (Below.refl _ wr).drew
                refine zzR HKS hbd (fun hS => ?_)
                simp only [List.size_toArray, List.length_cons, List.length_nil, Nat.reduceAdd]
                refine wpAnyH_take (i := 0) (v := .int .i64 ec3) rfl (by kernel_rfl) (by kernel_rfl) (by kernel_rfl) (fun _ _ _ h => h) (Or.inl ⟨by kernel_rfl, ?_⟩) hS ?_
                · intro w' hSw
                  obtain ⟨s0, s1, s2, s3⟩ := hSw
                  go_simp
                try simp only [Act.put, List.getElem_toArray, List.getElem_cons_zero, List.setIfInBounds_toArray, List.set_cons_zero, List.set_cons_succ]
                refine wpAnyH_take (i := 1) (v := .bool false) rfl (by kernel_rfl) (by kernel_rfl) (by kernel_rfl) (fun _ _ _ h => h) (Or.inl ⟨by kernel_rfl, ?_⟩) hS ?_
                · intro w' hSw
                  obtain ⟨s0, s1, s2, s3⟩ := hSw
                  go_simp
                try simp only [Act.put, List.getElem_toArray, List.getElem_cons_succ, List.getElem_cons_zero, List.setIfInBounds_toArray, List.set_cons_zero, List.set_cons_succ]
                refine wpAnyH_take (i := 2) (v := .bool false) rfl (by kernel_rfl) (by kernel_rfl) (by kernel_rfl) (fun _ _ _ h => h) (Or.inl ⟨by kernel_rfl, ?_⟩) hS ?_
                · intro w' hSw
                  obtain ⟨s0, s1, s2, s3⟩ := hSw
                  go_simp
                try simp only [Act.put, List.getElem_toArray, List.getElem_cons_succ, List.getElem_cons_zero, List.setIfInBounds_toArray, List.set_cons_zero, List.set_cons_succ]
                refine wpAnyH_take (i := 3) (v := undef) rfl (by kernel_rfl) (by kernel_rfl) (by kernel_rfl) (fun _ _ _ h => h) (Or.inr ⟨by kernel_rfl, rfl⟩) hS ?_
                try simp only [Act.put, zzP]
                refine wpAnyH_take (i := 4) (v := undef) rfl (by kernel_rfl) (by kernel_rfl) (by kernel_rfl) (fun _ _ _ h => h) (Or.inr ⟨by kernel_rfl, rfl⟩) hS ?_
                try simp only [Act.put, zzP]
                refine wpAnyH_take (i := 5) (v := undef) rfl (by kernel_rfl) (by kernel_rfl) (by kernel_rfl) (fun _ _ _ h => h) (Or.inr ⟨by kernel_rfl, rfl⟩) hS ?_
                try simp only [Act.put, zzP]
                refine wpAnyH_take (i := 6) (v := undef) rfl (by kernel_rfl) (by kernel_rfl) (by kernel_rfl) (fun _ _ _ h => h) (Or.inr ⟨by kernel_rfl, rfl⟩) hS ?_
                try simp only [Act.put, zzP]
                refine wpAnyH_take (i := 7) (v := .bool false) rfl (by kernel_rfl) (by kernel_rfl) (by kernel_rfl) (fun _ _ _ h => h) (Or.inl ⟨by kernel_rfl, ?_⟩) hS ?_
                · intro w' hSw
                  obtain ⟨s0, s1, s2, s3⟩ := hSw
                  go_simp
                try simp only [Act.put, List.getElem_toArray, List.getElem_cons_succ, List.getElem_cons_zero, List.setIfInBounds_toArray, List.set_cons_zero, List.set_cons_succ]
                refine wpAnyH_take (i := 8) (v := .bool false) rfl (by kernel_rfl) (by kernel_rfl) (by kernel_rfl) (fun _ _ _ h => h) (Or.inl ⟨by kernel_rfl, ?_⟩) hS ?_
                · intro w' hSw
                  obtain ⟨s0, s1, s2, s3⟩ := hSw
                  go_simp
                try simp only [Act.put, List.getElem_toArray, List.getElem_cons_succ, List.getElem_cons_zero, List.setIfInBounds_toArray, List.set_cons_zero, List.set_cons_succ]
                refine wpAnyH_take (i := 9) (v := undef) rfl (by kernel_rfl) (by kernel_rfl) (by kernel_rfl) (fun _ _ _ h => h) (Or.inr ⟨by kernel_rfl, rfl⟩) hS ?_
                try simp only [Act.put, zzP]
                refine wpAnyH_take (i := 10) (v := undef) rfl (by kernel_rfl) (by kernel_rfl) (by kernel_rfl) (fun _ _ _ h => h) (Or.inr ⟨by kernel_rfl, rfl⟩) hS ?_
                try simp only [Act.put, zzP]
                refine wpAnyH_take (i := 11) (v := undef) rfl (by kernel_rfl) (by kernel_rfl) (by kernel_rfl) (fun _ _ _ h => h) (Or.inr ⟨by kernel_rfl, rfl⟩) hS ?_
                try simp only [Act.put, zzP]
                refine wpAnyH_take (i := 12) (v := undef) rfl (by kernel_rfl) (by kernel_rfl) (by kernel_rfl) (fun _ _ _ h => h) (Or.inr ⟨by kernel_rfl, rfl⟩) hS ?_
                try simp only [Act.put, zzP]
                refine wpAnyH_take (i := 13) (v := undef) rfl (by kernel_rfl) (by kernel_rfl) (by kernel_rfl) (fun _ _ _ h => h) (Or.inr ⟨by kernel_rfl, rfl⟩) hS ?_
                try simp only [Act.put, zzP]
                refine wpAnyH_take (i := 14) (v := undef) rfl (by kernel_rfl) (by kernel_rfl) (by kernel_rfl) (fun _ _ _ h => h) (Or.inr ⟨by kernel_rfl, rfl⟩) hS ?_
                try simp only [Act.put, zzP]
                refine wpAnyH_take (i := 15) (v := .bool false) rfl (by kernel_rfl) (by kernel_rfl) (by kernel_rfl) (fun _ _ _ h => h) (Or.inl ⟨by kernel_rfl, ?_⟩) hS ?_
                · intro w' hSw
                  obtain ⟨s0, s1, s2, s3⟩ := hSw
                  go_simp
                try simp only [Act.put, List.getElem_toArray, List.getElem_cons_succ, List.getElem_cons_zero, List.setIfInBounds_toArray, List.set_cons_zero, List.set_cons_succ]
                refine wpAnyH_take (i := 16) (v := .bool false) rfl (by kernel_rfl) (by kernel_rfl) (by kernel_rfl) (fun _ _ _ h => h) (Or.inl ⟨by kernel_rfl, ?_⟩) hS ?_
                · intro w' hSw
                  obtain ⟨s0, s1, s2, s3⟩ := hSw
                  go_simp
                try simp only [Act.put, List.getElem_toArray, List.getElem_cons_succ, List.getElem_cons_zero, List.setIfInBounds_toArray, List.set_cons_zero, List.set_cons_succ]
                refine wpAnyH_take (i := 17) (v := .int .i64 ec3) rfl (by kernel_rfl) (by kernel_rfl) (by kernel_rfl) (fun _ _ _ h => h) (Or.inl ⟨by kernel_rfl, ?_⟩) hS ?_
                · intro w' hSw
                  obtain ⟨s0, s1, s2, s3⟩ := hSw
                  go_simp
                try simp only [Act.put, List.getElem_toArray, List.getElem_cons_succ, List.getElem_cons_zero, List.setIfInBounds_toArray, List.set_cons_zero, List.set_cons_succ]
                refine wpAnyH_take (i := 18) (v := .bool false) rfl (by kernel_rfl) (by kernel_rfl) (by kernel_rfl) (fun _ _ _ h => h) (Or.inl ⟨by kernel_rfl, ?_⟩) hS ?_
                · intro w' hSw
                  obtain ⟨s0, s1, s2, s3⟩ := hSw
                  go_simp
                try simp only [Act.put, List.getElem_toArray, List.getElem_cons_succ, List.getElem_cons_zero, List.setIfInBounds_toArray, List.set_cons_zero, List.set_cons_succ]
                refine wpAnyH_take (i := 19) (v := .bool false) rfl (by kernel_rfl) (by kernel_rfl) (by kernel_rfl) (fun _ _ _ h => h) (Or.inl ⟨by kernel_rfl, ?_⟩) hS ?_
                · intro w' hSw
                  obtain ⟨s0, s1, s2, s3⟩ := hSw
                  go_simp
                try simp only [Act.put, List.getElem_toArray, List.getElem_cons_succ, List.getElem_cons_zero, List.setIfInBounds_toArray, List.set_cons_zero, List.set_cons_succ]
                refine wpAnyH_take (i := 20) (v := .bool false) rfl (by kernel_rfl) (by kernel_rfl) (by kernel_rfl) (fun _ _ _ h => h) (Or.inl ⟨by kernel_rfl, ?_⟩) hS ?_
                · intro w' hSw
                  obtain ⟨s0, s1, s2, s3⟩ := hSw
                  go_simp
                try simp only [Act.put, List.getElem_toArray, List.getElem_cons_succ, List.getElem_cons_zero, List.setIfInBounds_toArray, List.set_cons_zero, List.set_cons_succ]
                refine wpAnyH_done (by kernel_rfl) ?_ _
                try simp only [zzP]
                have HBF := Lib.hid (HBV.out.trans (hbd.mono HBV.out.size))
                clear HKS hbd hS
                subst hM
                go_wp2_with fail
                go_ret
                exact ⟨rfl, HBF.out⟩
end Go.Proofs.Ytdbdeppchlkacaa
