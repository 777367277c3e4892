/-
  A row of declarations that grows; contract of package parse's decl. No statement is proved here.
-/
import Derived.Test.YtdbdeppchlkacaaBr
import Derived.Test.YtdbdeppchlkacaaBq
namespace Go.Proofs.Ytdbdeppchlkacaa
open Go.ChangeShapes Go.WideShapes Go.ChangeAt Go.RowKit
set_option linter.unusedVariables false


theorem infoDecl : (Try.prog.info? 33).map (fun i => (i.zero, i.size, i.bytes)) = some (some (.agg #[.string ⟨#[]⟩, .int .i64 0, .int .i64 0, .slice none 0 0]), 4, 56) := by kernel_rfl
theorem info_decl : ∃ i, Try.prog.info? 33 = some i ∧ i.zero = some (.agg #[.string ⟨#[]⟩, .int .i64 0, .int .i64 0, .slice none 0 0]) ∧ i.size = 4 ∧ i.bytes = 56 := by
  have hh := infoDecl
  cases hi : Try.prog.info? 33 with
  | none => rw [hi] at hh; cases hh
  | some i =>
    rw [hi] at hh
    simp at hh
    exact ⟨i, rfl, hh.1, hh.2.1, hh.2.2⟩
/-- a row of declarations of a call's own -/
structure DRow (R lo : Nat) (w : World) (A : Option Addr) (n c : Nat) (ds : List (ByteArray × T)) (cs : List Value) : Prop where
  own : w.ownsRow lo 33 4 (.slice A n c) n cs
  len : ds.length = n
  kids : ∀ i d, ds[i]? = some d → ∃ k h A' n' c', cs[i * 4]? = some (.string d.1) ∧ cs[i * 4 + 1]? = some (.int .i64 k) ∧ cs[i * 4 + 2]? = some (.int .i64 h) ∧ cs[i * 4 + 3]? = some (.slice A' n' c') ∧
    RdF (fun q => R < q ∧ some q ≠ (Value.slice A n c).ownBlock) w d.2 (.agg #[.int .i64 k, .int .i64 h, .slice A' n' c'])
theorem DRow.nil (R lo : Nat) (w : World) : DRow R lo w none 0 0 [] [] := ⟨World.ownsRow_nil _ _ _ _, rfl, fun i d hd => by simp at hd⟩
theorem DRow.cap {R lo : Nat} {w : World} {A : Option Addr} {n c : Nat} {ds : List (ByteArray × T)} {cs : List Value} (h : DRow R lo w A n c ds cs) : n ≤ c ∧ c ≤ maxLen := by
  rcases h.own.2 with ⟨e, _⟩ | ⟨g, cap, cur, e, _, _, h1, h2, _⟩
  · cases e; exact ⟨Nat.le_refl _, Nat.zero_le _⟩
  · cases e; exact ⟨h1, h2⟩
theorem DRow.mv {R lo : Nat} {w w' : World} {A : Option Addr} {n c : Nat} {ds : List (ByteArray × T)} {cs : List Value} (h : DRow R lo w A n c ds cs) (f : ∀ q, R < q → q < w.heap.size → w'.heap[q]? = w.heap[q]?) (hR : R < lo) : DRow R lo w' A n c ds cs := by
  refine ⟨⟨h.own.1, ?_⟩, h.len, fun i d hd => ?_⟩
  · rcases h.own.2 with h1 | ⟨g, cap, cur, e, hb, hg, h1⟩
    · exact .inl h1
    · have hlt := (h.own.lt g (by rw [e]; rfl)).2
      exact .inr ⟨g, cap, cur, e, hb, (f g (by omega) hlt).trans hg, h1⟩
  · obtain ⟨k, g, A', n', c', e0, e1, e2, e3, hr⟩ := h.kids i d hd
    exact ⟨k, g, A', n', c', e0, e1, e2, e3, RdF.moveQ (fun q hq hl => ⟨hq, f q hq.1 hl⟩) _ _ hr⟩
theorem DRow.dln {R lo : Nat} {w : World} {A : Option Addr} {n c : Nat} {ds : List (ByteArray × T)} {cs : List Value} (h : DRow R lo w A n c ds cs) (hR : R < lo) : DLn w.heap.size R w ds A n c := by
  refine ⟨h.len, h.cap.1, h.cap.2, fun i d hd => ?_⟩
  obtain ⟨k, g, A', n', c', e0, e1, e2, e3, hr⟩ := h.kids i d hd
  have hi := (List.getElem?_eq_some_iff.1 hd).1
  rcases h.own.2 with ⟨e, h0⟩ | ⟨gg, cap, cur, e, hb, hg, h1, h2, _⟩
  · have := h.len; omega
  · have hlt := (h.own.lt gg (by rw [e]; rfl)).2
    injection e with ea en ec
    subst ea
    have hc := fun j u (hu : cs[j]? = some u) => h.own.cells (g := gg) rfl j u hu
    have c0 := hc _ _ e0
    have c1 := hc _ _ e1
    have c2 := hc _ _ e2
    have c3 := hc _ _ e3
    rw [addr_addX] at c0 c1 c2 c3
    exact ⟨gg, 0, k, g, A', n', c', rfl, ⟨by omega, hlt⟩, c0, by rw [Nat.add_assoc]; exact c1, by rw [Nat.add_assoc]; exact c2, by rw [Nat.add_assoc]; exact c3, RdF.moveQ (fun q hq hl => ⟨⟨by have := hq.1; omega, hl⟩, rfl⟩) _ _ hr⟩
/-- one declaration is appended -/
theorem DRow.push {R lo : Nat} {w1 : World} {A : Option Addr} {n c : Nat} {ds : List (ByteArray × T)} {cs : List Value} (h : DRow R lo w1 A n c ds cs) {s : ByteArray} {t : T} {k g : Int} {A2 : Option Addr} {n2 c2 : Nat} (hr : RdF (fun q => R < q ∧ some q ≠ (Value.slice A n c).ownBlock) w1 t (.agg #[.int .i64 k, .int .i64 g, .slice A2 n2 c2]))
    (hlo : lo ≤ w1.heap.size) (hn : n ≤ 1000) {P : Nat} {w2 : World} (hb : Below w1.heap.size w1 w2) (hP : w2.heap[P]? = some (.cells #[.string s, .int .i64 k, .int .i64 g, .slice A2 n2 c2] 33 (0, 0))) (hRlo : R < lo) :
    ∃ gg cap w4, (Builtin.append_ #[24, 24] 24 #[.slice A n c, .slice (some ⟨P, 0, none⟩) 1 1]).run Try.prog w2 = .ok (.slice (some ⟨gg, 0, none⟩) (n + 1) cap) w4 ∧
      DRow R lo w4 (some ⟨gg, 0, none⟩) (n + 1) cap (ds ++ [(s, t)]) (cs ++ [.string s, .int .i64 k, .int .i64 g, .slice A2 n2 c2]) ∧ Below lo w2 w4 ∧ (∀ q, q < w1.heap.size → some q ≠ (Value.slice A n c).ownBlock → w4.heap[q]? = w1.heap[q]?) := by
  obtain ⟨i0, hi, hz0, hz1, hz2⟩ := info_decl
  have hown2 : w2.ownsRow lo 33 4 (.slice A n c) n cs := by
    refine ⟨h.own.1, ?_⟩
    rcases h.own.2 with h1 | ⟨g, cap, cur, e, hb', hg, h1⟩
    · exact .inl h1
    · have hlt := (h.own.lt g (by rw [e]; rfl)).2
      exact .inr ⟨g, cap, cur, e, hb', (hb.block g hlt).trans hg, h1⟩
  have hsz := hb.size
  obtain ⟨gg, cap, w4, hrun, how4, hgr, hg4, _⟩ := run_append_lies (P := Try.prog) w2 24 24 lo 33 i0 _ 4 56 Try.underlying24 hi hz0 hz1 hz2 rfl (by omega) (.slice A n c) n cs
    hown2 ⟨P, 0, none⟩ 1 1 [.string s, .int .i64 k, .int .i64 g, .slice A2 n2 c2] rfl (World.news_of_block hP) (by intro u hu; simp at hu; rcases hu with rfl | rfl | rfl | rfl <;> rfl) (by omega) (by unfold maxLen; omega) (by omega) (by omega) _ rfl
  have hgo : ∀ q, q < w1.heap.size → some q ≠ (Value.slice A n c).ownBlock → w4.heap[q]? = w1.heap[q]? := fun q hq hne => (hgr.block q (by omega) hne).trans (hb.block q hq)
  have hne : ∀ q, q < w1.heap.size → some q ≠ (Value.slice A n c).ownBlock → q ≠ gg := fun q hq hv e => by
    rcases hg4 with h4 | h4
    · rw [h4, e] at hv; exact hv rfl
    · omega
  have hm : ∀ b, (R < b ∧ some b ≠ (Value.slice A n c).ownBlock) → b < w1.heap.size → (R < b ∧ some b ≠ Value.ownBlock (.slice (some ⟨gg, 0, none⟩) (n + 1) cap)) ∧ w4.heap[b]? = w1.heap[b]? := fun b hb' hl =>
    ⟨⟨hb'.1, fun e => hne b hl hb'.2 (by simpa [Value.ownBlock] using e)⟩, hgo b hl hb'.2⟩
  have hcl : cs.length = n * 4 := h.own.1
  refine ⟨gg, cap, w4, hrun, ⟨how4, by rw [List.length_append, h.len]; rfl, fun i d hd => ?_⟩, below_grownQ ((Below.refl _ _).mono (show lo ≤ w2.heap.size by omega)) hgr (fun r hr => (hown2.lt r hr).1) (by omega), hgo⟩
  by_cases hin : i < n
  · rw [List.getElem?_append_left (by rw [h.len]; exact hin)] at hd
    obtain ⟨k', h', A', n', c', e0, e1, e2, e3, hr'⟩ := h.kids i d hd
    refine ⟨k', h', A', n', c', ?_, ?_, ?_, ?_, RdF.moveQ hm _ _ hr'⟩
    all_goals (rw [List.getElem?_append_left (by omega)]; assumption)
  · have hi' : i = n := by have := (List.getElem?_eq_some_iff.1 hd).1; rw [List.length_append, h.len] at this; simp at this; omega
    subst hi'
    rw [List.getElem?_append_right (by rw [h.len]; omega), h.len, Nat.sub_self] at hd
    obtain rfl : (s, t) = d := by simpa using hd
    refine ⟨k, g, A2, n2, c2, ?_, ?_, ?_, ?_, RdF.moveQ hm _ _ hr⟩
    · rw [List.getElem?_append_right (by omega), hcl, Nat.sub_self]; rfl
    · rw [List.getElem?_append_right (by omega), hcl, show i * 4 + 1 - i * 4 = 1 by omega]; rfl
    · rw [List.getElem?_append_right (by omega), hcl, show i * 4 + 2 - i * 4 = 2 by omega]; rfl
    · rw [List.getElem?_append_right (by omega), hcl, show i * 4 + 3 - i * 4 = 3 by omega]; rfl

theorem decl_bad {sg : List (ByteArray × T)} {x : List Tk} (h : namedM mK x = .error 8) : declM mayB nmB sg x = .error 8 := by
  unfold namedM at h
  unfold declM
  cases hn : nameM x with
  | error e => rw [hn] at h; dsimp only at h ⊢; cases h; rfl
  | ok p =>
    obtain ⟨s, r1⟩ := p
    rw [hn] at h
    dsimp only at h ⊢
    split
    · cases ht : takeM mK r1 with
      | error e => rw [ht] at h; dsimp only at h ⊢; cases h; rfl
      | ok r2 => rw [ht] at h; cases h
    · rfl
theorem decl_good {sg : List (ByteArray × T)} {x y : List Tk} {s : ByteArray} (h : namedM mK x = .ok (s, y)) : declM mayB nmB sg x = if nmB s = true ∧ posD s sg = none then (match wholeE sg ⟨#[46]⟩ y with
    | .error e => .error e
    | .ok (t, z) => .ok ((s, t), z)) else .error 8 := by
  unfold namedM at h
  unfold declM
  cases hn : nameM x with
  | error e => rw [hn] at h; cases h
  | ok p =>
    obtain ⟨s', r1⟩ := p
    rw [hn] at h
    dsimp only at h ⊢
    cases ht : takeM mK r1 with
    | error e => rw [ht] at h; cases h
    | ok r2 =>
      rw [ht] at h
      cases h
      split
      · dsimp only
        unfold wholeE
        cases wholeM mayB sg y with
        | error e => rfl
        | ok q =>
          obtain ⟨t, r3⟩ := q
          dsimp only
          rcases hd_take (m := mD) (x := r3) (by decide) with ⟨h1, h2⟩ | ⟨h1, h2⟩
          · rw [h2, if_pos (show hdT r3 = ((1, ⟨#[46]⟩) : Tk) from h1)]
          · rw [h2, if_neg (show ¬ hdT r3 = ((1, ⟨#[46]⟩) : Tk) from h1)]
      · rfl
/-- what decl tells -/
def DcE (R K lo : Nat) (SA : Option Addr) (sn sc : Nat) (sg : List (ByteArray × T)) (x : List Tk) (w : World) (e : Ending) (w' : World) : Prop :=
  Below K w w' ∧ w.heap.size ≤ w'.heap.size ∧ ∃ ec, e = .returned (.int .i64 ec) ∧ ((ec ≠ 0 ∧ (if 40 ≤ sg.length then (.error 4 : Except Int ((ByteArray × T) × List Tk)) else declM mayB nmB sg x) = .error ec) ∨
    (ec = 0 ∧ ∃ d y SA' sc' cs', (if 40 ≤ sg.length then (.error 4 : Except Int ((ByteArray × T) × List Tk)) else declM mayB nmB sg x) = .ok (d, y) ∧ PS w'.heap.size R K SA' (sn + 1) sc' (sg ++ [d]) y w' ∧ DRow R lo w' SA' (sn + 1) sc' (sg ++ [d]) cs' ∧ d.1.size ≤ maxLen))
set_option maxRecDepth 100000 in
set_option maxHeartbeats 2000000 in
theorem pDeclC {R K lo : Nat} {SA : Option Addr} {sn sc : Nat} {sg : List (ByteArray × T)} {cs : List Value} {x : List Tk} {w : World} (h : PS w.heap.size R K SA sn sc sg x w) (hrow : DRow R lo w SA sn sc sg cs) (hRlo : R < lo) (hlo : lo ≤ w.heap.size) (hsg : sg.length ≤ 40) :
    Calls Try.prog 20 #[.pointer (some ⟨R, 0, none⟩)] w (DcE R K lo SA sn sc sg x w) := by
  have hlt := h.lt
  have hKR := h.klt
  have hsn := h.dl.len
  obtain ⟨As, ns, cs0, hbx, _, _⟩ := h.box
  have cR1 : w.cell? ⟨R, 1, none⟩ = some (.slice SA sn sc) := hbx.cell 1
  have HP := Lib.hid h
  have HD := Lib.hid hrow
  have hNm := pNamedC h ⟨#[58]⟩ (by decide)
  have HN := Lib.hid hNm
  clear h hrow hbx hNm
  go_enter Try.func20, Try.ntmps20
  by_cases h40 : sn = 40
  · subst h40
    go_wp2_with fail
    go_ret
    exact ⟨Below.refl _ _, Nat.le_refl _, 4, rfl, .inl ⟨by decide, if_pos (by omega)⟩⟩
  have d40 : ((sn : Int) == 40) = false := by simp; omega
  have HIF : ∀ (z : Except Int ((ByteArray × T) × List Tk)), (if 40 ≤ sg.length then (.error 4 : Except Int ((ByteArray × T) × List Tk)) else z) = z := fun z => if_neg (by omega)
  have HIFF := Lib.hid HIF
  clear HIF
  go_wp2_with fail
  refine HN.out.mono ?_
  rintro e w1 ⟨hf1, s, q, rfl, hssz, hres⟩
  have hs1 := hf1.size
  have HF1 := Lib.hid hf1
  have HS := Lib.hid hssz
  obtain ⟨y1, hp1⟩ : ∃ y1, PS w.heap.size R K SA sn sc sg y1 w1 := by
    rcases hres with ⟨y, _, _, hp⟩ | ⟨_, _, y, hp⟩
    · exact ⟨y, hp⟩
    · exact ⟨y, hp⟩
  obtain ⟨es, cl, hm, hnum⟩ := hp1.mp
  obtain ⟨Ar, nr, cr, hbx1, _, _⟩ := hp1.box
  have hLK := look_num hssz hm hnum
  have cR2 : w1.cell? ⟨R, 2, none⟩ = some (.map (some K)) := hbx1.cell 2
  have HRS := Lib.hid hres
  clear HN hf1 hssz hp1 hm hnum hbx1 hres cR1
  obtain ⟨ag, hag⟩ : ∃ ag, (posD s sg).isSome = ag := ⟨_, rfl⟩
  rw [hag] at hLK
  have HAG := Lib.hid hag
  clear hag
  have hB1 : Below K w w1 := FrB.toBelow ((Below.refl w.heap.size w).mono (by omega)) HF1.out (by omega) (by omega)
  have HB1 := Lib.hid hB1
  clear hB1
  cases q with
  | false =>
    have hbad : namedM mK x = .error 8 := by
      rcases HRS.out with ⟨_, e, _⟩ | ⟨_, e, _⟩
      · cases e
      · exact e
    have HE := Lib.hid (decl_bad (sg := sg) hbad)
    clear hbad
    go_wp2_with fail
    go_ret
    exact ⟨HB1.out, hs1, 8, rfl, .inl ⟨by decide, by rw [HIFF.out, HE.out]⟩⟩
  | true =>
    obtain ⟨y, hgood, hps1⟩ : ∃ y, namedM mK x = .ok (s, y) ∧ PS w.heap.size R K SA sn sc sg y w1 := by
      rcases HRS.out with ⟨y, _, e, hp⟩ | ⟨e, _⟩
      · exact ⟨y, e, hp⟩
      · cases e
    have HE := Lib.hid (decl_good (sg := sg) hgood)
    have HP1 := Lib.hid hps1
    clear hgood hps1 HRS
    cases ag with
    | true =>
      have HE2 := Lib.hid (show declM mayB nmB sg x = .error 8 by rw [HE.out, if_neg (fun h => by have := HAG.out; rw [h.2] at this; cases this)])
      go_wp2_with fail
      go_ret
      exact ⟨HB1.out, hs1, 8, rfl, .inl ⟨by decide, by rw [HIFF.out, HE2.out]⟩⟩
    | false =>
      have hpd : posD s sg = none := by
        have := HAG.out
        cases hq : posD s sg with
        | none => rfl
        | some p => rw [hq] at this; cases this
      have HPD := Lib.hid hpd
      have HNC := Lib.hid (pNameC s HS.out w1)
      clear hpd
      go_wp2_with fail
      refine HNC.out.mono ?_
      rintro e w2 ⟨rfl, hb2⟩
      have hs2 := hb2.size
      have HB2 := Lib.hid hb2
      clear HNC hb2 hLK cR2
      cases hnm : nmB s with
      | false =>
        have HE2 := Lib.hid (show declM mayB nmB sg x = .error 8 by rw [HE.out, if_neg (fun h => by rw [hnm] at h; cases h.1)])
        clear hnm
        go_wp2_with fail
        go_ret
        exact ⟨HB1.out.trans (HB2.out.mono (by omega)), by omega, 8, rfl, .inl ⟨by decide, by rw [HIFF.out, HE2.out]⟩⟩
      | true =>
        have HE2 := Lib.hid (show declM mayB nmB sg x = (match wholeE sg ⟨#[46]⟩ y with | .error e => .error e | .ok (t, z) => .ok ((s, t), z)) by rw [HE.out, if_pos ⟨hnm, HPD.out⟩])
        have HW := Lib.hid (pWholeC (HP1.out.keep HB2.out) ⟨#[46]⟩)
        clear hnm HE
        go_wp2_with fail
        refine HW.out.mono ?_
        rintro e w3 ⟨hf3, k1, g1, A1, n1, c1, ec, rfl, hres3⟩
        have hs3 := hf3.size
        have HF3 := Lib.hid (((HF1.out).then HB2.out).trans hf3)
        have hB3 : Below K w w3 := FrB.toBelow ((Below.refl w.heap.size w).mono (by omega)) HF3.out (by omega) (by omega)
        have HB3 := Lib.hid hB3
        clear HW hf3 hB3
        rcases hres3 with ⟨t, y2, hr3, rfl, hrd3, hps3⟩ | ⟨hr3, he3, rfl, rfl, rfl, rfl, rfl⟩
        rotate_left
        · have d9 : (ec == 0) = false := by simpa using he3
          have HR3 := Lib.hid (And.intro hr3 he3)
          clear hr3 he3
          go_wp2_with fail
          go_ret
          exact ⟨HB3.out.trans ((Below.refl w3.heap.size w3).alloc (Nat.le_refl _) _ |>.mono (by omega)), by simp; omega, ec, rfl, .inl ⟨HR3.out.2, by rw [HIFF.out, HE2.out, HR3.out.1]⟩⟩
        obtain ⟨W3, hW3⟩ : ∃ W3, (w3.alloc (.cells #[.int .i64 k1, .int .i64 g1, (.slice A1 n1 c1)] 31)) = W3 := ⟨_, rfl⟩
        have hb3 : Below w3.heap.size w3 W3 := by rw [← hW3]; exact (Below.refl _ _).alloc (Nat.le_refl _) _
        have xt : BoxX W3 w3.heap.size 31 #[.int .i64 k1, .int .i64 g1, .slice A1 n1 c1] := by rw [← hW3]; exact BoxX.new _ _ _
        have hl3 : W3.heap.size = w3.heap.size + 1 := by rw [← hW3]; simp
        have hp3 := hps3.keep hb3
        obtain ⟨es, cl, hm3, hnum3⟩ := hp3.mp
        obtain ⟨Ar, nr, cr, hbx3, htl3, hA3⟩ := hp3.box
        have cR1 : W3.cell? ⟨R, 1, none⟩ = some (.slice SA sn sc) := hbx3.cell 1
        have cR2 : W3.cell? ⟨R, 2, none⟩ = some (.map (some K)) := hbx3.cell 2
        obtain ⟨W5, hW5⟩ : ∃ W5, W3.drew = W5 := ⟨_, rfl⟩
        have hb5 : Below W3.heap.size W3 W5 := by rw [← hW5]; exact (Below.refl _ _).drew
        have hm5 : W5.heap[K]? = some (.map es cl) := (hb5.block K (by omega)).trans hm3
        have hput := put_num HS.out hm5 hnum3 HPD.out (.int .i64 (sn : Nat))
        obtain ⟨W6, hW6⟩ : ∃ W6, ({ W5 with heap := W5.heap.setIfInBounds K (.map (es.push ⟨.string s, .int .i64 (sn : Nat), cl⟩) (cl + 1)) } : World) = W6 := ⟨_, rfl⟩
        rw [hW6] at hput
        have h6 : ∀ q, q ≠ K → W6.heap[q]? = W5.heap[q]? := fun q hq => by
          rw [← hW6]
          show (W5.heap.setIfInBounds K _)[q]? = _
          rw [Array.getElem?_setIfInBounds_ne (by omega)]
        have h6K : W6.heap[K]? = some (.map (es.push ⟨.string s, .int .i64 (sn : Nat), cl⟩) (cl + 1)) := by
          rw [← hW6]
          show (W5.heap.setIfInBounds K _)[K]? = _
          rw [Array.getElem?_setIfInBounds_self_of_lt (Array.getElem?_eq_some_iff.1 hm5).1]
        have hs6 : W6.heap.size = W5.heap.size := by rw [← hW6]; simp
        have hos6 : W6.os = W5.os ∧ W6.tape = W5.tape ∧ W6.output = W5.output := by rw [← hW6]; exact ⟨rfl, rfl, rfl⟩
        have hs5 := hb5.size
        have hnum6 := hnum3.push (cl := cl) (d := (s, t)) HPD.out HS.out
        rw [show (((sg.length : Nat)) : Int) = ((sn : Nat) : Int) by omega] at hnum6
        have h36 : ∀ q, q ≠ K → q < W3.heap.size → W6.heap[q]? = W3.heap[q]? := fun q hq hl => (h6 q hq).trans (hb5.block q hl)
        have hbx6 : BoxX W6 R 53 #[.slice Ar nr cr, .slice SA sn sc, .map (some K)] := (h36 R (by omega) hbx3.lt).trans hbx3
        have xt6 : BoxX W6 w3.heap.size 31 #[.int .i64 k1, .int .i64 g1, .slice A1 n1 c1] := (h36 _ (by omega) (by omega)).trans xt
        have hD6 : DRow R lo W6 SA sn sc sg cs := HD.out.mv (fun q hq hl => (h36 q (by omega) (by omega)).trans ((hb3.block q (by omega)).trans (HF3.out.block q hl (by omega)))) hRlo
        have hown : ∀ q, w.heap.size ≤ q → some q ≠ (Value.slice SA sn sc).ownBlock := fun q hq e => by have := (HD.out.own.lt q e.symm).2; omega
        have hT6 : RdF (fun q => R < q ∧ some q ≠ (Value.slice SA sn sc).ownBlock) W6 t (.agg #[.int .i64 k1, .int .i64 g1, .slice A1 n1 c1]) :=
          RdF.moveQ (fun q hq hl => ⟨⟨by omega, hown q (by omega)⟩, (h36 q (by omega) (by omega)).trans (hb3.block q hl)⟩) _ _ hrd3
        have HD6 := Lib.hid hD6
        have HT6 := Lib.hid hT6
        have HS6 := Lib.hid (show W6.heap.size = W5.heap.size ∧ W3.heap.size ≤ W5.heap.size from ⟨hs6, hs5⟩)
        have HOWN := Lib.hid (hown w3.heap.size (by omega))
        have HFIN := Lib.hid (And.intro h6K (And.intro hnum6 (And.intro hbx6 (And.intro htl3 (And.intro hA3 (And.intro hp3 (And.intro h36 (And.intro hos6 (And.intro hb3 (And.intro hb5 hm3))))))))))
        have HR3 := Lib.hid (And.intro hr3 hnum3)
        have cR1' := hbx6.cell 1
        simp only [List.getElem?_toArray, List.getElem?_cons_zero, List.getElem?_cons_succ] at cR1'
        have t0 := xt6.cell 0
        have t1 := xt6.cell 1
        have t2 := xt6.cell 2
        simp only [List.getElem?_toArray, List.getElem?_cons_zero, List.getElem?_cons_succ] at t0 t1 t2
        clear hr3 hrd3 hps3 hp3 hm3 hnum3 hbx3 htl3 hA3 hb3 xt hb5 hm5 h6 h6K hos6 hnum6 h36 hbx6 xt6 hD6 hown hT6 hs6
        subst hW3
        go_wp2_with fail
        rw [show (w3.alloc (.cells #[.int .i64 k1, .int .i64 g1, (.slice A1 n1 c1)] 31)) = (w3.alloc (.cells #[.int .i64 k1, .int .i64 g1, (.slice A1 n1 c1)] 31)) from rfl]
        have HKS : Hid (∀ w' : World, Below (w3.alloc (.cells #[.int .i64 k1, .int .i64 g1, (.slice A1 n1 c1)] 31)).heap.size (w3.alloc (.cells #[.int .i64 k1, .int .i64 g1, (.slice A1 n1 c1)] 31)) w' → (fun w' => w'.cell? ⟨R, 2, none⟩ = some (.map (some K)) ∧ w'.cell? ⟨R, 1, none⟩ = some (.slice SA sn sc)) w') := Lib.hid fun w' h => ⟨(h.cell (cell_ltX cR2)).trans cR2, (h.cell (cell_ltX cR1)).trans cR1⟩
        have hbd : Below (w3.alloc (.cells #[.int .i64 k1, .int .i64 g1, (.slice A1 n1 c1)] 31)).heap.size (w3.alloc (.cells #[.int .i64 k1, .int .i64 g1, (.slice A1 n1 c1)] 31)) (w3.alloc (.cells #[.int .i64 k1, .int .i64 g1, (.slice A1 n1 c1)] 31)).drew := (Below.refl _ (w3.alloc (.cells #[.int .i64 k1, .int .i64 g1, (.slice A1 n1 c1)] 31))).drew
        have hS := HKS.out _ hbd
        refine wp_region_cutX rfl (by kernel_rfl) (by kernel_rfl) ?_
        refine wpAny_of_held (S := fun w' => w'.cell? ⟨R, 2, none⟩ = some (.map (some K)) ∧ w'.cell? ⟨R, 1, none⟩ = some (.slice SA sn sc)) _ _ _ _ ?_
        simp only [List.pop_toArray, List.dropLast, List.size_toArray, List.length_cons, List.length_nil, Nat.reduceAdd, Nat.reduceSub]
        refine wpAnyH_take (i := 0) (v := .pointer (some ⟨R, 0, none⟩)) rfl (by kernel_rfl) (by kernel_rfl) (by kernel_rfl) (fun _ _ _ h => h) (Or.inl ⟨by kernel_rfl, ?_⟩) hS ?_
        · intro w' hSw
          obtain ⟨s0, s1⟩ := hSw
          go_simp
        try simp only [Act.put, List.getElem_toArray, List.getElem_cons_succ, List.getElem_cons_zero, List.setIfInBounds_toArray, List.set_cons_zero, List.set_cons_succ]
        refine wpAnyH_take (i := 1) (v := .pointer (some ⟨R, 0, none⟩)) rfl (by kernel_rfl) (by kernel_rfl) (by kernel_rfl) (fun _ _ _ h => h) (Or.inl ⟨by kernel_rfl, ?_⟩) hS ?_
        · intro w' hSw
          obtain ⟨s0, s1⟩ := hSw
          go_simp
        try simp only [Act.put, List.getElem_toArray, List.getElem_cons_succ, List.getElem_cons_zero, List.setIfInBounds_toArray, List.set_cons_zero, List.set_cons_succ]
        refine wpAnyH_take (i := 2) (v := .pointer (some ⟨R, 2, none⟩)) rfl (by kernel_rfl) (by kernel_rfl) (by kernel_rfl) (fun _ _ _ h => h) (Or.inl ⟨by kernel_rfl, ?_⟩) hS ?_
        · intro w' hSw
          obtain ⟨s0, s1⟩ := hSw
          go_simp
        try simp only [Act.put, List.getElem_toArray, List.getElem_cons_succ, List.getElem_cons_zero, List.setIfInBounds_toArray, List.set_cons_zero, List.set_cons_succ]
        refine wpAnyH_take (i := 3) (v := .map (some K)) rfl (by kernel_rfl) (by kernel_rfl) (by kernel_rfl) (fun _ _ _ h => h) (Or.inl ⟨by kernel_rfl, ?_⟩) hS ?_
        · intro w' hSw
          obtain ⟨s0, s1⟩ := hSw
          go_simp
        try simp only [Act.put, List.getElem_toArray, List.getElem_cons_succ, List.getElem_cons_zero, List.setIfInBounds_toArray, List.set_cons_zero, List.set_cons_succ]
        refine wpAnyH_take (i := 4) (v := .string s) rfl (by kernel_rfl) (by kernel_rfl) (by kernel_rfl) (fun _ _ _ h => h) (Or.inl ⟨by kernel_rfl, ?_⟩) hS ?_
        · intro w' hSw
          obtain ⟨s0, s1⟩ := hSw
          go_simp
        try simp only [Act.put, List.getElem_toArray, List.getElem_cons_succ, List.getElem_cons_zero, List.setIfInBounds_toArray, List.set_cons_zero, List.set_cons_succ]
        refine wpAnyH_take (i := 5) (v := .pointer (some ⟨R, 0, none⟩)) rfl (by kernel_rfl) (by kernel_rfl) (by kernel_rfl) (fun _ _ _ h => h) (Or.inl ⟨by kernel_rfl, ?_⟩) hS ?_
        · intro w' hSw
          obtain ⟨s0, s1⟩ := hSw
          go_simp
        try simp only [Act.put, List.getElem_toArray, List.getElem_cons_succ, List.getElem_cons_zero, List.setIfInBounds_toArray, List.set_cons_zero, List.set_cons_succ]
        refine wpAnyH_take (i := 6) (v := .pointer (some ⟨R, 0, none⟩)) rfl (by kernel_rfl) (by kernel_rfl) (by kernel_rfl) (fun _ _ _ h => h) (Or.inl ⟨by kernel_rfl, ?_⟩) hS ?_
        · intro w' hSw
          obtain ⟨s0, s1⟩ := hSw
          go_simp
        try simp only [Act.put, List.getElem_toArray, List.getElem_cons_succ, List.getElem_cons_zero, List.setIfInBounds_toArray, List.set_cons_zero, List.set_cons_succ]
        refine wpAnyH_take (i := 7) (v := .pointer (some ⟨R, 1, none⟩)) rfl (by kernel_rfl) (by kernel_rfl) (by kernel_rfl) (fun _ _ _ h => h) (Or.inl ⟨by kernel_rfl, ?_⟩) hS ?_
        · intro w' hSw
          obtain ⟨s0, s1⟩ := hSw
          go_simp
        try simp only [Act.put, List.getElem_toArray, List.getElem_cons_succ, List.getElem_cons_zero, List.setIfInBounds_toArray, List.set_cons_zero, List.set_cons_succ]
        refine wpAnyH_take (i := 8) (v := .slice SA sn sc) rfl (by kernel_rfl) (by kernel_rfl) (by kernel_rfl) (fun _ _ _ h => h) (Or.inl ⟨by kernel_rfl, ?_⟩) hS ?_
        · intro w' hSw
          obtain ⟨s0, s1⟩ := hSw
          go_simp
        try simp only [Act.put, List.getElem_toArray, List.getElem_cons_succ, List.getElem_cons_zero, List.setIfInBounds_toArray, List.set_cons_zero, List.set_cons_succ]
        refine wpAnyH_take (i := 9) (v := .int .i64 sn) rfl (by kernel_rfl) (by kernel_rfl) (by kernel_rfl) (fun _ _ _ h => h) (Or.inl ⟨by kernel_rfl, ?_⟩) hS ?_
        · intro w' hSw
          obtain ⟨s0, s1⟩ := hSw
          go_simp
        try simp only [Act.put, List.getElem_toArray, List.getElem_cons_succ, List.getElem_cons_zero, List.setIfInBounds_toArray, List.set_cons_zero, List.set_cons_succ]
        refine wpAnyH_done (by kernel_rfl) ?_ _
        show wpList _ _ _ _ _ _
        rw [hW5]
        clear hS HKS hbd cR1 cR2 hW5
        go_wp2_with fail
        clear hput
        have hsW6 : w3.heap.size < W6.heap.size := by rw [HS6.out.1]; have := HS6.out.2; simp at this; omega
        have cR1 := cR1'
        clear cR1'
        go_wp2_with fail
        have HKS : Hid (∀ w' : World, Below W6.heap.size W6 w' → (fun w' => w'.cell? ⟨R, 1, none⟩ = some (.slice SA sn sc) ∧ w'.cell? ⟨w3.heap.size, 0, none⟩ = some (.int .i64 k1) ∧ w'.cell? ⟨w3.heap.size, 1, none⟩ = some (.int .i64 g1) ∧ w'.cell? ⟨w3.heap.size, 2, none⟩ = some (.slice A1 n1 c1)) w') := Lib.hid fun w' h => ⟨(h.cell (cell_ltX cR1)).trans cR1, (h.cell (cell_ltX t0)).trans t0, (h.cell (cell_ltX t1)).trans t1, (h.cell (cell_ltX t2)).trans t2⟩
        have hbd : Below W6.heap.size W6 W6.drew := (Below.refl _ W6).drew
        have hS := HKS.out _ hbd
        refine wp_region_cutX rfl (by kernel_rfl) (by kernel_rfl) ?_
        refine wpAny_of_held (S := fun w' => w'.cell? ⟨R, 1, none⟩ = some (.slice SA sn sc) ∧ w'.cell? ⟨w3.heap.size, 0, none⟩ = some (.int .i64 k1) ∧ w'.cell? ⟨w3.heap.size, 1, none⟩ = some (.int .i64 g1) ∧ w'.cell? ⟨w3.heap.size, 2, none⟩ = some (.slice A1 n1 c1)) _ _ _ _ ?_
        simp only [List.pop_toArray, List.dropLast, List.size_toArray, List.length_cons, List.length_nil, Nat.reduceAdd, Nat.reduceSub]
        refine wpAnyH_take (i := 0) (v := .pointer (some ⟨R, 0, none⟩)) rfl (by kernel_rfl) (by kernel_rfl) (by kernel_rfl) (fun _ _ _ h => h) (Or.inl ⟨by kernel_rfl, ?_⟩) hS ?_
        · intro w' hSw
          obtain ⟨s0, s1, s2, s3⟩ := hSw
          go_simp
        try simp only [Act.put, List.getElem_toArray, List.getElem_cons_succ, List.getElem_cons_zero, List.setIfInBounds_toArray, List.set_cons_zero, List.set_cons_succ]
        refine wpAnyH_take (i := 1) (v := .pointer (some ⟨R, 0, none⟩)) rfl (by kernel_rfl) (by kernel_rfl) (by kernel_rfl) (fun _ _ _ h => h) (Or.inl ⟨by kernel_rfl, ?_⟩) hS ?_
        · intro w' hSw
          obtain ⟨s0, s1, s2, s3⟩ := hSw
          go_simp
        try simp only [Act.put, List.getElem_toArray, List.getElem_cons_succ, List.getElem_cons_zero, List.setIfInBounds_toArray, List.set_cons_zero, List.set_cons_succ]
        refine wpAnyH_take (i := 2) (v := .pointer (some ⟨R, 0, none⟩)) rfl (by kernel_rfl) (by kernel_rfl) (by kernel_rfl) (fun _ _ _ h => h) (Or.inl ⟨by kernel_rfl, ?_⟩) hS ?_
        · intro w' hSw
          obtain ⟨s0, s1, s2, s3⟩ := hSw
          go_simp
        try simp only [Act.put, List.getElem_toArray, List.getElem_cons_succ, List.getElem_cons_zero, List.setIfInBounds_toArray, List.set_cons_zero, List.set_cons_succ]
        refine wpAnyH_take (i := 3) (v := .pointer (some ⟨R, 1, none⟩)) rfl (by kernel_rfl) (by kernel_rfl) (by kernel_rfl) (fun _ _ _ h => h) (Or.inl ⟨by kernel_rfl, ?_⟩) hS ?_
        · intro w' hSw
          obtain ⟨s0, s1, s2, s3⟩ := hSw
          go_simp
        try simp only [Act.put, List.getElem_toArray, List.getElem_cons_succ, List.getElem_cons_zero, List.setIfInBounds_toArray, List.set_cons_zero, List.set_cons_succ]
        refine wpAnyH_take (i := 4) (v := .slice SA sn sc) rfl (by kernel_rfl) (by kernel_rfl) (by kernel_rfl) (fun _ _ _ h => h) (Or.inl ⟨by kernel_rfl, ?_⟩) hS ?_
        · intro w' hSw
          obtain ⟨s0, s1, s2, s3⟩ := hSw
          go_simp
        try simp only [Act.put, List.getElem_toArray, List.getElem_cons_succ, List.getElem_cons_zero, List.setIfInBounds_toArray, List.set_cons_zero, List.set_cons_succ]
        refine wpAnyH_take (i := 5) (v := .string s) rfl (by kernel_rfl) (by kernel_rfl) (by kernel_rfl) (fun _ _ _ h => h) (Or.inl ⟨by kernel_rfl, ?_⟩) hS ?_
        · intro w' hSw
          obtain ⟨s0, s1, s2, s3⟩ := hSw
          go_simp
        try simp only [Act.put, List.getElem_toArray, List.getElem_cons_succ, List.getElem_cons_zero, List.setIfInBounds_toArray, List.set_cons_zero, List.set_cons_succ]
        refine wpAnyH_take (i := 6) (v := .agg #[.int .i64 k1, .int .i64 g1, .slice A1 n1 c1]) rfl (by kernel_rfl) (by kernel_rfl) (by kernel_rfl) (fun _ _ _ h => h) (Or.inl ⟨by kernel_rfl, ?_⟩) hS ?_
        · intro w' hSw
          obtain ⟨s0, s1, s2, s3⟩ := hSw
          go_simp
        try simp only [Act.put, List.getElem_toArray, List.getElem_cons_succ, List.getElem_cons_zero, List.setIfInBounds_toArray, List.set_cons_zero, List.set_cons_succ]
        refine wpAnyH_take (i := 7) (v := .agg #[.string s, .int .i64 k1, .int .i64 g1, .slice A1 n1 c1]) rfl (by kernel_rfl) (by kernel_rfl) (by kernel_rfl) (fun _ _ _ h => h) (Or.inl ⟨by kernel_rfl, ?_⟩) hS ?_
        · intro w' hSw
          obtain ⟨s0, s1, s2, s3⟩ := hSw
          go_simp
        try simp only [Act.put, List.getElem_toArray, List.getElem_cons_succ, List.getElem_cons_zero, List.setIfInBounds_toArray, List.set_cons_zero, List.set_cons_succ]
        refine wpAnyH_ready (rs := [8]) (by kernel_rfl) (by simp) ?_
        refine AllReadyH.cons rfl (fun KN hK => ?_) AllReadyH.nil
        go_simp
        obtain ⟨W7, hW7⟩ : ∃ W7, (W6.alloc (.cells #[.string s, .int .i64 k1, .int .i64 g1, .slice A1 n1 c1] 33)).drew = W7 := ⟨_, rfl⟩
        have hb7 : Below W6.heap.size W6 W7 := by rw [← hW7]; exact ((Below.refl _ _).alloc (Nat.le_refl _) _).drew
        have hP7 : W7.heap[W6.heap.size]? = some (.cells #[.string s, .int .i64 k1, .int .i64 g1, .slice A1 n1 c1] 33 (0, 0)) := by
          rw [← hW7]
          exact heap_alloc_new W6 (.cells #[.string s, .int .i64 k1, .int .i64 g1, .slice A1 n1 c1] 33)
        try rw [hW7]
        clear hW7
        refine hK.out _ _ (HKS.out _ hb7) (fun hS => ?_)
        clear hK KN
        try simp only [Act.put, zzP]
        refine wpAnyH_ready (rs := [9]) (by kernel_rfl) (by simp) ?_
        refine AllReadyH.cons rfl (fun KN hK => ?_) AllReadyH.nil
        obtain ⟨gg, cap, w8, hrun, hrow8, hb8, hold8⟩ := HD6.out.push HT6.out (by have := HS6.out; omega) (by omega) hb7 hP7 hRlo
        refine Lib.wp_append_run _ (.tmp 61) (.tmp 65) 24 24 rfl _ _ rfl rfl _ _ hrun ?_
        have hS8 : (fun w' => w'.cell? ⟨R, 1, none⟩ = some (.slice SA sn sc) ∧ w'.cell? ⟨w3.heap.size, 0, none⟩ = some (.int .i64 k1) ∧ w'.cell? ⟨w3.heap.size, 1, none⟩ = some (.int .i64 g1) ∧ w'.cell? ⟨w3.heap.size, 2, none⟩ = some (.slice A1 n1 c1)) w8 := ⟨(World.cell?_of_block (hold8 R (by omega) (by have := HS6.out; intro e; have := (HD6.out.own.lt R e.symm).1; omega))).trans cR1, (World.cell?_of_block (hold8 _ (by have := HS6.out; omega) HOWN.out)).trans t0, (World.cell?_of_block (hold8 _ (by have := HS6.out; omega) HOWN.out)).trans t1, (World.cell?_of_block (hold8 _ (by have := HS6.out; omega) HOWN.out)).trans t2⟩
        refine hK.out _ _ hS8 (fun hS => ?_)
        clear hK KN hS8 hrun
        try simp only [Act.put, List.getElem_toArray, List.getElem_cons_succ, List.getElem_cons_zero, List.setIfInBounds_toArray, List.set_cons_zero, List.set_cons_succ]
        refine wpAnyH_take (i := 10) (v := .pointer (some ⟨R, 0, none⟩)) rfl (by kernel_rfl) (by kernel_rfl) (by kernel_rfl) (fun _ _ _ h => h) (Or.inl ⟨by kernel_rfl, ?_⟩) hS ?_
        · intro w' hSw
          obtain ⟨s0, s1, s2, s3⟩ := hSw
          go_simp
        try simp only [Act.put, List.getElem_toArray, List.getElem_cons_succ, List.getElem_cons_zero, List.setIfInBounds_toArray, List.set_cons_zero, List.set_cons_succ]
        refine wpAnyH_take (i := 11) (v := .pointer (some ⟨R, 1, none⟩)) rfl (by kernel_rfl) (by kernel_rfl) (by kernel_rfl) (fun _ _ _ h => h) (Or.inl ⟨by kernel_rfl, ?_⟩) hS ?_
        · intro w' hSw
          obtain ⟨s0, s1, s2, s3⟩ := hSw
          go_simp
        try simp only [Act.put, List.getElem_toArray, List.getElem_cons_succ, List.getElem_cons_zero, List.setIfInBounds_toArray, List.set_cons_zero, List.set_cons_succ]
        refine wpAnyH_done (by kernel_rfl) ?_ _
        show wpList _ _ _ _ _ _
        obtain ⟨h6K, hnum6, hbx6, htl3, hA3, hp3, h36, hos6, hb3, hb5, hm5⟩ := HFIN.out
        have hs8 := hb8.size
        have hs7 := hb7.size
        have hbx8 : BoxX w8 R 53 #[.slice Ar nr cr, .slice SA sn sc, .map (some K)] := (hb8.block R hRlo).trans ((hb7.block R (by omega)).trans hbx6)
        have hbx9 := hbx8.put 1 (.slice (some ⟨gg, 0, none⟩) (sn + 1) cap)
        have h38 : ∀ q, q < R → q ≠ K → w8.heap[q]? = (w3.alloc (.cells #[.int .i64 k1, .int .i64 g1, (.slice A1 n1 c1)] 31)).heap[q]? := fun q hq hne => (hb8.block q (by omega)).trans ((hb7.block q (by omega)).trans (h36 q hne (by simp; omega)))
        have h39 : ∀ q, q < R → q ≠ K → (w8.setCell ⟨R, 1, none⟩ (.slice (some ⟨gg, 0, none⟩) (sn + 1) cap)).heap[q]? = (w3.alloc (.cells #[.int .i64 k1, .int .i64 g1, (.slice A1 n1 c1)] 31)).heap[q]? := fun q hq hne => (Below.heap_setCell _ _ _ _ (by dsimp only; omega)).trans (h38 q hq hne)
        have hK9 : (w8.setCell ⟨R, 1, none⟩ (.slice (some ⟨gg, 0, none⟩) (sn + 1) cap)).heap[K]? = some (.map (es.push ⟨.string s, .int .i64 (sn : Nat), cl⟩) (cl + 1)) := (Below.heap_setCell _ _ _ _ (by dsimp only; omega)).trans ((hb8.block K (by omega)).trans ((hb7.block K (by omega)).trans h6K))
        have hrow9 : DRow R lo (w8.setCell ⟨R, 1, none⟩ (.slice (some ⟨gg, 0, none⟩) (sn + 1) cap)) (some ⟨gg, 0, none⟩) (sn + 1) cap (sg ++ [(s, t)]) (cs ++ [.string s, .int .i64 k1, .int .i64 g1, .slice A1 n1 c1]) := hrow8.mv (fun q hq hl => Below.heap_setCell _ _ _ _ (by dsimp only; omega)) hRlo
        have hdl9 := hrow9.dln hRlo
        have hB9 : Below K w (w8.setCell ⟨R, 1, none⟩ (.slice (some ⟨gg, 0, none⟩) (sn + 1) cap)) := by
          have h1 := HB3.out.trans (hb3.mono (show K ≤ w3.heap.size by omega))
          have h2 : Below K w W6 := h1.trans ⟨hos6.1.trans hb5.os, hos6.2.1.trans hb5.tape, hos6.2.2.trans hb5.output, by rw [HS6.out.1]; exact HS6.out.2, fun q hq => h36 q (by omega) (by simp; omega)⟩
          exact ((h2.trans (hb7.mono (by omega))).trans (hb8.mono (by omega))).setCell (by dsimp only; omega) _
        have hps9 : PS (w8.setCell ⟨R, 1, none⟩ (.slice (some ⟨gg, 0, none⟩) (sn + 1) cap)).heap.size R K (some ⟨gg, 0, none⟩) (sn + 1) cap (sg ++ [(s, t)]) y2 (w8.setCell ⟨R, 1, none⟩ (.slice (some ⟨gg, 0, none⟩) (sn + 1) cap)) := by
          refine ⟨⟨Ar, nr, cr, hbx9, ⟨htl3.len, htl3.le, htl3.cap, fun i u hu => ?_⟩, hA3⟩, hdl9, ⟨_, _, hK9, hnum6⟩, hp3.ne, hp3.klt, ?_, Nat.le_refl _, hp3.few, hp3.good, by rw [List.length_append, List.length_singleton]; omega⟩
          · obtain ⟨b, o, e, q0, q1⟩ := htl3.at_ i u hu
            have hbR : b < R := by
              rcases hA3 b o e with h1 | h1
              · exact h1
              · rw [h1] at hu; simp at hu
            have hbK : b ≠ K := by
              rintro rfl
              unfold World.cell? at q0
              rw [show (w3.alloc (.cells #[.int .i64 k1, .int .i64 g1, (.slice A1 n1 c1)] 31)).heap[b]? = some (.map es cl) from hm5] at q0
              cases q0
            have e' : ∀ j, (w8.setCell ⟨R, 1, none⟩ (.slice (some ⟨gg, 0, none⟩) (sn + 1) cap)).cell? ⟨b, j, none⟩ = (w3.alloc (.cells #[.int .i64 k1, .int .i64 g1, (.slice A1 n1 c1)] 31)).cell? ⟨b, j, none⟩ := fun j => World.cell?_of_block (h39 b hbR hbK)
            exact ⟨b, o, e, (e' _).trans q0, (e' _).trans q1⟩
          · have := hbx9.lt; omega
        have HFN := Lib.hid (And.intro hB9 (And.intro hps9 hrow9))
        have u1 := hbx8.cell 1
        have fz1 := hbx8.frozen 1
        have lR := hbx8.lt
        simp only [List.getElem?_toArray, List.getElem?_cons_zero, List.getElem?_cons_succ] at u1
        clear hbx8 hbx9 h38 h39 hK9 hrow9 hdl9 hB9 hps9 h6K hnum6 hbx6 htl3 hA3 hp3 h36 hos6 hb3 hb5 hm5 HFIN hrow8 hb8 hold8 hb7 hP7 hS
        go_wp2_with fail
        go_ret
        refine ⟨HFN.out.1, by simp [World.setCell]; omega, 0, rfl, .inr ⟨rfl, (s, t), y2, _, _, _, ?_, HFN.out.2.1, HFN.out.2.2, HS.out⟩⟩
        rw [HIFF.out, HE2.out, HR3.out.1]
end Go.Proofs.Ytdbdeppchlkacaa
