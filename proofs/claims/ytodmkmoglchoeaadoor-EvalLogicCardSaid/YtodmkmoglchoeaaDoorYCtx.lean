/- Layer 7, pure: parentheses around a sentence change nothing. -/
import Derived.Test.YtodmkmoglchoeaaDoorJYLaw
namespace Go.Proofs.YtodmkmoglchoeaaDoor
open Go.RowKit

theorem pR_mono1 (l : List Tok) : ∀ (n : Nat) (R : Ru) (p : PS) (r : Nat × PS), pR l n R p = some r → pR l (n + 1) R p = some r := by
  intro n
  induction n with
  | zero => intro R p r h; cases h
  | succ n ih =>
    intro R p r h
    cases R with
    | imp =>
      rw [pR] at h ⊢
      obtain ⟨x, hx, h2⟩ := Option.bind_eq_some_iff.1 h
      rw [ih _ _ _ hx, Option.bind_some]
      by_cases ho : opAt l x.2 [16] = 0
      · rw [if_pos ho] at h2 ⊢; exact h2
      · rw [if_neg ho] at h2 ⊢
        obtain ⟨y, hy, h3⟩ := Option.bind_eq_some_iff.1 h2
        rw [ih _ _ _ hy, Option.bind_some]; exact h3
    | grp k =>
      rw [pR] at h ⊢
      obtain ⟨x, hx, h2⟩ := Option.bind_eq_some_iff.1 h
      rw [ih _ _ _ hx, Option.bind_some]
      exact ih _ _ _ h2
    | grpL k a =>
      rw [pR] at h ⊢
      by_cases ho : opAt l p (gops k) = 0
      · rw [if_pos ho] at h ⊢; exact h
      · rw [if_neg ho] at h ⊢
        obtain ⟨y, hy, h3⟩ := Option.bind_eq_some_iff.1 h
        rw [ih _ _ _ hy, Option.bind_some]; exact ih _ _ _ h3
    | not =>
      rw [pR] at h ⊢
      by_cases ho : opAt l p [5] = 0
      · rw [if_pos ho] at h ⊢; exact ih _ _ _ h
      · rw [if_neg ho] at h ⊢
        obtain ⟨y, hy, h3⟩ := Option.bind_eq_some_iff.1 h
        rw [ih _ _ _ hy, Option.bind_some]; exact h3
    | cmp =>
      rw [pR] at h ⊢
      obtain ⟨x, hx, h2⟩ := Option.bind_eq_some_iff.1 h
      rw [ih _ _ _ hx, Option.bind_some]
      by_cases ho : opAt l x.2 [8, 9, 10, 11, 12, 13] = 0
      · rw [if_pos ho] at h2 ⊢; exact h2
      · rw [if_neg ho] at h2 ⊢
        obtain ⟨y, hy, h3⟩ := Option.bind_eq_some_iff.1 h2
        rw [ih _ _ _ hy, Option.bind_some]; exact h3
    | una =>
      rw [pR] at h ⊢
      by_cases ho : opAt l p [4] = 0
      · rw [if_pos ho] at h ⊢; exact ih _ _ _ h
      · rw [if_neg ho] at h ⊢
        obtain ⟨y, hy, h3⟩ := Option.bind_eq_some_iff.1 h
        rw [ih _ _ _ hy, Option.bind_some]; exact h3
    | atm =>
      rw [pR] at h ⊢
      by_cases hb : p.bad = true
      · rw [if_pos hb] at h ⊢; exact h
      · rw [if_neg hb] at h ⊢
        cases ht : l[p.at_]? with
        | none => rw [ht] at h; exact h
        | some t =>
          rw [ht] at h
          simp only at h ⊢
          by_cases k1 : t.kind = 1
          · rw [if_pos k1] at h ⊢; exact h
          · rw [if_neg k1] at h ⊢
            by_cases k2 : t.kind = 2
            · rw [if_pos k2] at h ⊢; exact h
            · rw [if_neg k2] at h ⊢
              by_cases hs : see l p syOpen = true
              · rw [if_pos hs] at h ⊢
                obtain ⟨y, hy, h3⟩ := Option.bind_eq_some_iff.1 h
                rw [ih _ _ _ hy, Option.bind_some]; exact h3
              · rw [if_neg hs] at h ⊢; exact h
theorem pR_mono (l : List Tok) (R : Ru) (p : PS) (r : Nat × PS) (n k : Nat) (h : pR l n R p = some r) : pR l (n + k) R p = some r := by
  induction k with
  | zero => exact h
  | succ k ih => exact pR_mono1 l _ R p r ih
/-- l stands in l' from place d on; what follows there, if anything does, is a parenthesis that closes -/
structure Ctx (l l' : List Tok) (d : Nat) : Prop where
  inn : ∀ i, i < l.length → (l'[d + i]?).map kt = (l[i]?).map kt
  stop : ∀ t, l'[d + l.length]? = some t → t.kind = 3 ∧ t.text = syClose
def PS.sh (d : Nat) (p : PS) : PS := ⟨d + p.at_, p.bad, p.out⟩
theorem ctx_tok {l l' : List Tok} {d : Nat} (h : Ctx l l' d) {i : Nat} {t : Tok} (ht : l[i]? = some t) : ∃ u, l'[d + i]? = some u ∧ u.kind = t.kind ∧ u.text = t.text := by
  have hi := (List.getElem?_eq_some_iff.1 ht).1
  have e := h.inn i hi
  rw [ht] at e
  cases hu : l'[d + i]? with
  | none => rw [hu] at e; cases e
  | some u =>
    rw [hu] at e
    simp only [Option.map_some, Option.some.injEq, kt, Prod.mk.injEq] at e
    exact ⟨u, rfl, e.1, e.2⟩
theorem see_ctx {l l' : List Tok} {d : Nat} (h : Ctx l l' d) {p : PS} (hp : p.at_ ≤ l.length) {x : ByteArray} (hx : x ≠ syClose) : see l' (p.sh d) x = see l p x := by
  unfold see
  show (!p.bad && (match l'[d + p.at_]? with | some t => decide (t.kind = 3) && decide (t.text = x) | none => false)) = _
  congr 1
  cases ht : l[p.at_]? with
  | some t =>
    obtain ⟨u, hu, e1, e2⟩ := ctx_tok h ht
    rw [hu]
    simp only [e1, e2]
  | none =>
    have hge : l.length ≤ p.at_ := List.getElem?_eq_none_iff.1 ht
    have he : p.at_ = l.length := by omega
    cases hu : l'[d + p.at_]? with
    | none => rfl
    | some u =>
      rw [he] at hu
      have h2 := h.stop u hu
      simp only [h2.2]
      rw [decide_eq_false (fun e : syClose = x => hx e.symm), Bool.and_false]
theorem see_ctxC {l l' : List Tok} {d : Nat} (h : Ctx l l' d) {p : PS} {x : ByteArray} (hs : see l p x = true) : see l' (p.sh d) x = true := by
  have hl := see_lt hs
  unfold see at hs ⊢
  show (!p.bad && (match l'[d + p.at_]? with | some t => decide (t.kind = 3) && decide (t.text = x) | none => false)) = true
  cases ht : l[p.at_]? with
  | some t =>
    obtain ⟨u, hu, e1, e2⟩ := ctx_tok h ht
    rw [ht] at hs
    rw [hu]
    simp only [e1, e2]
    exact hs
  | none => rw [ht] at hs; simp at hs
theorem opAt_ctx {l l' : List Tok} {d : Nat} (h : Ctx l l' d) {p : PS} (hp : p.at_ ≤ l.length) (os : List Nat) (ho : (os.all fun o => decide (sy o ≠ syClose)) = true) : opAt l' (p.sh d) os = opAt l p os := by
  induction os with
  | nil => rfl
  | cons o r ih =>
    rw [List.all_cons, Bool.and_eq_true, decide_eq_true_iff] at ho
    rw [opAt, opAt, see_ctx h hp ho.1, ih ho.2]
theorem gops_ne (k : Nat) : ((gops k).all fun o => decide (sy o ≠ syClose)) = true := by
  rcases k with _ | _ | k
  · decide
  · decide
  · show ([6, 7].all fun o => decide (sy o ≠ syClose)) = true
    decide
theorem bad_back {l : List Tok} {p q : PS} (w : Went l p q) (h : q.bad = false) : p.bad = false := by
  cases hh : p.bad
  · rfl
  · have := (w.bad hh).1; rw [h] at this; cases this
theorem pR_ctx {l l' : List Tok} {d : Nat} (hc : Ctx l l' d) : ∀ (n : Nat) (R : Ru) (p : PS) (r : Nat × PS), pR l n R p = some r → r.2.bad = false → p.at_ ≤ l.length → pR l' n R (p.sh d) = some (r.1, r.2.sh d) := by
  intro n
  induction n with
  | zero => intro R p r h; cases h
  | succ n ih =>
    intro R p r h hb hp
    cases R with
    | imp =>
      rw [pR] at h ⊢
      obtain ⟨x, hx, h2⟩ := Option.bind_eq_some_iff.1 h
      have wx := (pR_went l _ _ _ _ hx).len hp
      by_cases ho : opAt l x.2 [16] = 0
      · rw [if_pos ho] at h2; injection h2 with h2; subst h2
        rw [ih _ _ _ hx hb hp, Option.bind_some]
        simp only
        rw [opAt_ctx hc wx _ (by decide), if_pos ho]
      · rw [if_neg ho] at h2
        obtain ⟨y, hy, h3⟩ := Option.bind_eq_some_iff.1 h2
        injection h3 with h3; subst h3
        have hl := see_lt (opAt_see ho)
        rw [ih _ _ _ hx hl.2 hp, Option.bind_some]
        simp only
        rw [opAt_ctx hc wx _ (by decide), if_neg ho]
        have e := ih _ _ _ hy hb hl.1
        show (pR l' n .imp (x.2.adv.sh d)).bind _ = _
        rw [e]; rfl
    | grp k =>
      rw [pR] at h ⊢
      obtain ⟨x, hx, h2⟩ := Option.bind_eq_some_iff.1 h
      have wx := pR_went l _ _ _ _ hx
      rw [ih _ _ _ hx (bad_back (pR_went l _ _ _ _ h2) hb) hp, Option.bind_some]
      exact ih _ _ _ h2 hb (wx.len hp)
    | grpL k a =>
      rw [pR] at h ⊢
      rw [opAt_ctx hc hp _ (gops_ne k)]
      by_cases ho : opAt l p (gops k) = 0
      · rw [if_pos ho] at h ⊢; injection h with h; subst h; rfl
      · rw [if_neg ho] at h ⊢
        obtain ⟨y, hy, h3⟩ := Option.bind_eq_some_iff.1 h
        have hl := see_lt (opAt_see ho)
        have wy := pR_went l _ _ _ _ hy
        have wr := pR_went l _ _ _ _ h3
        have e := ih _ _ _ hy (show (y.2.nod (nd (opAt l p (gops k)) a y.1)).2.bad = false from bad_back wr hb) hl.1
        show (pR l' n (prt k) (p.adv.sh d)).bind _ = _
        rw [e, Option.bind_some]
        exact ih _ _ _ h3 hb (wy.len hl.1)
    | not =>
      rw [pR] at h ⊢
      rw [opAt_ctx hc hp _ (by decide)]
      by_cases ho : opAt l p [5] = 0
      · rw [if_pos ho] at h ⊢; exact ih _ _ _ h hb hp
      · rw [if_neg ho] at h ⊢
        obtain ⟨y, hy, h3⟩ := Option.bind_eq_some_iff.1 h
        injection h3 with h3; subst h3
        have hl := see_lt (opAt_see ho)
        have e := ih _ _ _ hy hb hl.1
        show (pR l' n .not (p.adv.sh d)).bind _ = _
        rw [e]; rfl
    | cmp =>
      rw [pR] at h ⊢
      obtain ⟨x, hx, h2⟩ := Option.bind_eq_some_iff.1 h
      have wx := (pR_went l _ _ _ _ hx).len hp
      by_cases ho : opAt l x.2 [8, 9, 10, 11, 12, 13] = 0
      · rw [if_pos ho] at h2; injection h2 with h2; subst h2
        rw [ih _ _ _ hx hb hp, Option.bind_some]
        simp only
        rw [opAt_ctx hc wx _ (by decide), if_pos ho]
      · rw [if_neg ho] at h2
        obtain ⟨y, hy, h3⟩ := Option.bind_eq_some_iff.1 h2
        injection h3 with h3; subst h3
        have hl := see_lt (opAt_see ho)
        rw [ih _ _ _ hx hl.2 hp, Option.bind_some]
        simp only
        rw [opAt_ctx hc wx _ (by decide), if_neg ho]
        have e := ih _ _ _ hy hb hl.1
        show (pR l' n (.grp 2) (x.2.adv.sh d)).bind _ = _
        rw [e]; rfl
    | una =>
      rw [pR] at h ⊢
      rw [opAt_ctx hc hp _ (by decide)]
      by_cases ho : opAt l p [4] = 0
      · rw [if_pos ho] at h ⊢; exact ih _ _ _ h hb hp
      · rw [if_neg ho] at h ⊢
        obtain ⟨y, hy, h3⟩ := Option.bind_eq_some_iff.1 h
        injection h3 with h3; subst h3
        have hl := see_lt (opAt_see ho)
        have e := ih _ _ _ hy hb hl.1
        show (pR l' n .una (p.adv.sh d)).bind _ = _
        rw [e]; rfl
    | atm =>
      rw [pR] at h ⊢
      by_cases hbb : p.bad = true
      · rw [if_pos hbb] at h; injection h with h; subst h; cases hb
      · rw [if_neg hbb] at h
        rw [if_neg (show ¬ (p.sh d).bad = true from hbb)]
        cases ht : l[p.at_]? with
        | none => rw [ht] at h; injection h with h; subst h; cases hb
        | some t =>
          obtain ⟨u, hu, e1, e2⟩ := ctx_tok hc ht
          have hlt := (List.getElem?_eq_some_iff.1 ht).1
          have hu2 : l'[(p.sh d).at_]? = some u := hu
          rw [ht] at h
          rw [hu2]
          simp only [e1, e2] at h ⊢
          by_cases k1 : t.kind = 1
          · rw [if_pos k1] at h ⊢; injection h with h; subst h; rfl
          · rw [if_neg k1] at h ⊢
            by_cases k2 : t.kind = 2
            · rw [if_pos k2] at h ⊢
              by_cases t1 : t.text = syTrue
              · rw [if_pos t1] at h ⊢; injection h with h; subst h; rfl
              · rw [if_neg t1] at h ⊢
                by_cases t2 : t.text = syFalse
                · rw [if_pos t2] at h ⊢; injection h with h; subst h; rfl
                · rw [if_neg t2] at h ⊢; injection h with h; subst h
                  unfold pVar at hb ⊢
                  have hs := see_ctx (x := syOf) hc (p := p.adv) hlt (by decide)
                  show some (if see l' (p.adv.sh d) syOf = true then _ else _) = _
                  rw [hs]
                  by_cases hs2 : see l p.adv syOf = true
                  · rw [if_pos hs2] at hb ⊢
                    rw [if_pos hs2]
                    cases hv : l[p.adv.at_ + 1]? with
                    | none => rw [hv] at hb; cases hb
                    | some v =>
                      obtain ⟨v', hv', f1, f2⟩ := ctx_tok hc hv
                      have hv2 : l'[(p.adv.sh d).at_ + 1]? = some v' := hv'
                      have hv3 : l'[(p.sh d).adv.at_ + 1]? = some v' := hv'
                      rw [hv] at hb
                      rw [hv3]
                      simp only [f1, f2] at hb ⊢
                      by_cases hk : v.kind = 2
                      · rw [if_pos hk, if_pos hk]; rfl
                      · rw [if_neg hk] at hb; cases hb
                  · rw [if_neg hs2] at hb ⊢
                    rw [if_neg hs2]; rfl
            · rw [if_neg k2] at h ⊢
              rw [see_ctx hc hp (by decide)]
              by_cases hs : see l p syOpen = true
              · rw [if_pos hs] at h ⊢
                obtain ⟨y, hy, h3⟩ := Option.bind_eq_some_iff.1 h
                by_cases hcl : see l y.2 syClose = true
                · rw [if_pos hcl] at h3; injection h3 with h3; subst h3
                  have e := ih _ _ _ hy (see_lt hcl).2 (see_lt hs).1
                  show (pR l' n .imp (p.adv.sh d)).bind _ = _
                  rw [e, Option.bind_some]
                  simp only
                  rw [if_pos (see_ctxC hc hcl)]
                  rfl
                · rw [if_neg hcl] at h3; injection h3 with h3; subst h3; cases hb
              · rw [if_neg hs] at h; injection h with h; subst h; cases hb
theorem opAt_no {l : List Tok} {p : PS} {os : List Nat} (h : ∀ o ∈ os, see l p (sy o) = false) : opAt l p os = 0 := by
  induction os with
  | nil => rfl
  | cons o r ih => rw [opAt, h o (by simp), if_neg (by decide), ih fun x hx => h x (by simp [hx])]
theorem see_end {l : List Tok} {p : PS} (h : l.length ≤ p.at_) (x : ByteArray) : see l p x = false := by
  unfold see; rw [List.getElem?_eq_none h]; simp
theorem gops_one (k : Nat) (p : PS) (l : List Tok) (h : l.length ≤ p.at_) : opAt l p (gops k) = 0 := opAt_no fun _ _ => see_end h _
/-- an atom that is a whole sentence -/
theorem imp_of_atm {l : List Tok} {m : Nat} {p : PS} {r : Nat × PS} (h : pR l (m + 1) .atm p = some r) (hend : l.length ≤ r.2.at_) (h4 : see l p (sy 4) = false) (h5 : see l p (sy 5) = false) : pR l (m + 8) .imp p = some r := by
  have e2 : pR l (m + 2) .una p = some r := by rw [pR, if_pos (by rw [opAt, h4, if_neg (by decide)]; rfl)]; exact h
  have g : ∀ (j k : Nat), pR l (j + 1) (.grpL k r.1) r.2 = some r := fun j k => by rw [pR, if_pos (gops_one k r.2 l hend)]
  have e3 : pR l (m + 3) (.grp 2) p = some r := by rw [pR]; show (pR l (m + 2) .una p).bind _ = _; rw [e2, Option.bind_some]; exact g (m + 1) 2
  have e4 : pR l (m + 4) .cmp p = some r := by rw [pR, e3, Option.bind_some, if_pos (opAt_no fun _ _ => see_end hend _)]
  have e5 : pR l (m + 5) .not p = some r := by rw [pR, if_pos (by rw [opAt, h5, if_neg (by decide)]; rfl)]; exact e4
  have e6 : pR l (m + 6) (.grp 1) p = some r := by rw [pR]; show (pR l (m + 5) .not p).bind _ = _; rw [e5, Option.bind_some]; exact g (m + 4) 1
  have e7 : pR l (m + 7) (.grp 0) p = some r := by rw [pR]; show (pR l (m + 6) (.grp 1) p).bind _ = _; rw [e6, Option.bind_some]; exact g (m + 5) 0
  rw [pR, e7, Option.bind_some, if_pos (opAt_no fun _ _ => see_end hend _)]
theorem parse_par {l l' : List Tok} (hl : l'.length = l.length + 2) (hc : Ctx l l' 1) {a b : Tok} (h0 : l'[0]? = some a) (ha1 : a.kind = 3) (ha2 : a.text = syOpen) (h1 : l'[1 + l.length]? = some b) (hb1 : b.kind = 3) (hb2 : b.text = syClose) (h : (parse l).2.2 = 0) : parse l' = parse l := by
  have hrun := pRun_some l
  have hlen := pRun_len l
  unfold parse at h
  split at h
  · cases h
  · rename_i hn
    have hbad : (pRun l).2.bad = false := by
      cases hh : (pRun l).2.bad
      · rfl
      · exact absurd (.inl hh) hn
    have hat : (pRun l).2.at_ = l.length := by
      have : ¬ (pRun l).2.at_ < l.length := fun e => hn (.inr e)
      omega
    have e1 := pR_ctx hc _ _ _ _ (pR_mono l .imp p0 _ (fuel l) 11 hrun) hbad (Nat.zero_le _)
    have sOpen : see l' p0 syOpen = true := by
      unfold see
      show (!false && (match l'[0]? with | some t => decide (t.kind = 3) && decide (t.text = syOpen) | none => false)) = true
      rw [h0]; simp [ha1, ha2]
    have sNo : ∀ x, x ≠ syOpen → see l' p0 x = false := fun x hx => by
      unfold see
      show (!false && (match l'[0]? with | some t => decide (t.kind = 3) && decide (t.text = x) | none => false)) = false
      rw [h0]; simp only [ha2]; rw [decide_eq_false (fun e : syOpen = x => hx e.symm)]; simp
    have sClose : see l' ((pRun l).2.sh 1) syClose = true := by
      unfold see
      show (!(pRun l).2.bad && (match l'[1 + (pRun l).2.at_]? with | some t => decide (t.kind = 3) && decide (t.text = syClose) | none => false)) = true
      rw [hat, h1, hbad]; simp [hb1, hb2]
    have e2 : pR l' (fuel l + 11 + 1) .atm p0 = some ((pRun l).1, ((pRun l).2.sh 1).adv) := by
      rw [pR, if_neg (by decide)]
      have h00 : l'[p0.at_]? = some a := h0
      rw [h00]
      simp only [ha1]
      rw [if_neg (by decide), if_neg (by decide), if_pos sOpen]
      show (pR l' (fuel l + 11) .imp (p0.sh 1)).bind _ = _
      rw [e1, Option.bind_some]
      simp only
      rw [if_pos sClose]
    have e3 := imp_of_atm e2 (by show l'.length ≤ 1 + (pRun l).2.at_ + 1; omega) (sNo _ (by decide)) (sNo _ (by decide))
    have hf : fuel l' = fuel l + 11 + 8 + 1 := by unfold fuel; omega
    have e4 := pRun_some l'
    rw [hf, pR_mono1 l' _ _ _ _ e3] at e4
    injection e4 with e4
    have e5 : parse l' = if (pRun l).2.bad = true ∨ 1 + (pRun l).2.at_ + 1 < l'.length then ([], 1 + (pRun l).2.at_ + 1, 10) else if 120 < (pRun l).2.out.length ∨ 12 < depth (pRun l).2.out then ([], 0, 11) else ((pRun l).2.out, 0, 0) := by
      unfold parse; rw [← e4]; rfl
    rw [e5]
    unfold parse
    rw [if_neg (by rw [hbad]; intro e; rcases e with e | e <;> first | (cases e; done) | omega), if_neg hn]
theorem wrun_end (s : ByteArray) : ∀ (d a : Nat), d = s.size - a → ¬ (a + wrun s a < s.size ∧ isWd (bt s (a + wrun s a)) = true) := by
  intro d
  induction d with
  | zero => intro a hd h; omega
  | succ d ih =>
    intro a hd
    by_cases h : a < s.size ∧ isWd (bt s a) = true
    · rw [wrun_step s a h.1 h.2, show a + (wrun s (a + 1) + 1) = a + 1 + wrun s (a + 1) by omega]
      exact ih (a + 1) (by omega)
    · rw [wrun_stop s a h]; exact h
/-- a text in parentheses -/
def parT (s : ByteArray) : ByteArray := ⟨#[40]⟩ ++ s ++ ⟨#[41]⟩
theorem bl_app (s t : ByteArray) : bl (s ++ t) = bl s ++ bl t := by unfold bl; rw [ByteArray.data_append, Array.toList_append]
theorem bl_parT (s : ByteArray) : bl (parT s) = 40 :: (bl s ++ [41]) := by
  unfold parT; rw [bl_app, bl_app]; rfl
theorem parT_size (s : ByteArray) : (parT s).size = s.size + 2 := by
  rw [← bl_len, bl_parT, List.length_cons, List.length_append, bl_len]; rfl
theorem bt_par (s : ByteArray) (i : Nat) (h : i < s.size) : bt (parT s) (i + 1) = bt s i := by
  have e : (bl s)[i]? = some (s[i]'h) := pr_get s i h
  have e2 : (bl (parT s))[i + 1]? = some (s[i]'h) := by
    rw [bl_parT, List.getElem?_cons_succ, List.getElem?_append_left (by rw [bl_len]; exact h), e]
  rw [bt_bl _ _ _ e2, bt_bl _ _ _ e]
theorem bt_par_end (s : ByteArray) : bt (parT s) (s.size + 1) = 41 := by
  have e2 : (bl (parT s))[s.size + 1]? = some 41 := by
    rw [bl_parT, List.getElem?_cons_succ, List.getElem?_append_right (by rw [bl_len]; exact Nat.le_refl _), bl_len, Nat.sub_self]; rfl
  rw [bt_bl _ _ _ e2]; rfl
theorem bl_ext (s : ByteArray) (a b : Nat) : bl (s.extract a b) = ((bl s).drop a).take (b - a) := by
  unfold bl; rw [ByteArray.data_extract, Array.toList_extract, List.extract_eq_take_drop]
theorem ba_ext {s t : ByteArray} (h : bl s = bl t) : s = t := by
  apply ByteArray.ext; apply Array.ext'; exact h
theorem ext_par (s : ByteArray) (a b : Nat) (hb : b ≤ s.size) : (parT s).extract (a + 1) (b + 1) = s.extract a b := by
  apply ba_ext
  rw [bl_ext, bl_ext, bl_parT, List.drop_succ_cons, show b + 1 - (a + 1) = b - a by omega]
  by_cases h : a ≤ b
  · rw [List.drop_append_of_le_length (by rw [bl_len]; omega), List.take_append_of_le_length (by rw [List.length_drop, bl_len]; omega)]
  · rw [show b - a = 0 by omega, List.take_zero, List.take_zero]
theorem wrun_par (s : ByteArray) (a : Nat) (ha : a ≤ s.size) : wrun (parT s) (a + 1) = wrun s a := by
  have hle := wrun_le s a ha
  have hen := wrun_end s _ a rfl
  have hsz := parT_size s
  refine wrun_is (parT s) (wrun s a) (a + 1) (fun i hi => ⟨by omega, ?_⟩) (fun h => ?_)
  · rw [show a + 1 + i = (a + i) + 1 by omega, bt_par s _ (by omega)]
    exact wrun_all s _ a rfl i hi
  · rw [show a + 1 + wrun s a = (a + wrun s a) + 1 by omega] at h
    rcases Nat.lt_or_ge (a + wrun s a) s.size with h2 | h2
    · rw [bt_par s _ h2] at h; exact hen ⟨h2, h.2⟩
    · rw [show a + wrun s a = s.size by omega, bt_par_end] at h; exact absurd h.2 (by decide)
theorem find_cg {T U : ByteArray} (h : (bl T).take 2 = (bl U).take 2) : (symL.find? fun y => hpB T y) = (symL.find? fun y => hpB U y) := by
  have hsz : ∀ y ∈ symL, y.size ≤ 2 := by decide
  have hh : ∀ y ∈ symL, hpB T y = hpB U y := fun y hy => by rw [hpB_two T y (hsz y hy), hpB_two U y (hsz y hy), h]
  generalize symL = L at hh
  induction L with
  | nil => rfl
  | cons y r ih => rw [List.find?_cons, List.find?_cons, hh y (by simp), ih (fun z hz => hh z (by simp [hz]))]
set_option maxRecDepth 100000 in
theorem find_one : ((List.range 256).all fun b => decide ((symL.find? fun y => hpB ⟨#[UInt8.ofNat b]⟩ y) = (symL.find? fun y => hpB ⟨#[UInt8.ofNat b, 41]⟩ y))) = true := by kernel_rfl
theorem sym_par (s : ByteArray) (a : Nat) (ha : a < s.size) : symAt (parT s) (a + 1) = symAt s a := by
  unfold symAt
  have e1 : bl ((parT s).extract (a + 1) (parT s).size) = (bl s).drop a ++ [41] := by
    rw [bl_ext, bl_parT, List.drop_succ_cons, parT_size, List.drop_append_of_le_length (by rw [bl_len]; omega), List.take_of_length_le (by rw [List.length_append, List.length_drop, bl_len]; simp; omega)]
  have e2 : bl (s.extract a s.size) = (bl s).drop a := by
    rw [bl_ext, List.take_of_length_le (by rw [List.length_drop, bl_len]; exact Nat.le_refl _)]
  have hl : ((bl s).drop a).length = s.size - a := by rw [List.length_drop, bl_len]
  cases hd : (bl s).drop a with
  | nil => rw [hd] at hl; simp at hl; omega
  | cons b r =>
    rw [hd] at e1 e2
    cases r with
    | cons c r => exact find_cg (by rw [e1, e2]; rfl)
    | nil =>
      have h1 : (symL.find? fun y => hpB ((parT s).extract (a + 1) (parT s).size) y) = (symL.find? fun y => hpB ⟨#[b, 41]⟩ y) := find_cg (by rw [e1]; rfl)
      have h2 : (symL.find? fun y => hpB (s.extract a s.size) y) = (symL.find? fun y => hpB ⟨#[b]⟩ y) := find_cg (by rw [e2]; rfl)
      have h3 := of_decide_eq_true (List.all_eq_true.1 find_one b.toNat (List.mem_range.2 b.toNat_lt))
      rw [UInt8.ofNat_toNat] at h3
      rw [h1, h2, h3]
def Tok.mv (t : Tok) : Tok := ⟨t.kind, t.text, t.at_ + 1⟩
theorem next_par (s : ByteArray) (a : Nat) (ha : a < s.size) : nextTok (parT s) (a + 1) = (nextTok s a).map Tok.mv := by
  have hle := wrun_le s a (by omega)
  unfold nextTok
  rw [wrun_par s a (by omega), sym_par s a ha, show a + 1 + wrun s a = a + wrun s a + 1 by omega, ext_par s a _ hle]
  by_cases h0 : 0 < wrun s a
  · rw [if_pos h0, if_pos h0]
    by_cases hk : kindN (s.extract a (a + wrun s a)) ≠ 0
    · rw [if_pos hk, if_pos hk]; rfl
    · rw [if_neg hk, if_neg hk]; rfl
  · rw [if_neg h0, if_neg h0]
    cases symAt s a <;> rfl
set_option maxRecDepth 100000 in
theorem sym41 : (symL.find? fun y => hpB ⟨#[41]⟩ y) = some syClose := by kernel_rfl
theorem next_par_end (s : ByteArray) : nextTok (parT s) (s.size + 1) = some ⟨3, syClose, s.size + 1⟩ := by
  unfold nextTok
  rw [wrun_stop (parT s) (s.size + 1) (fun h => by rw [bt_par_end] at h; exact absurd h.2 (by decide)), if_neg (by decide)]
  unfold symAt
  have e1 : bl ((parT s).extract (s.size + 1) (parT s).size) = [41] := by
    rw [bl_ext, bl_parT, List.drop_succ_cons, parT_size, List.drop_append_of_le_length (by rw [bl_len]; omega), List.drop_of_length_le (by rw [bl_len]; omega), List.nil_append, show s.size + 2 - (s.size + 1) = 1 by omega]; rfl
  rw [show (symL.find? fun y => hpB ((parT s).extract (s.size + 1) (parT s).size) y) = (symL.find? fun y => hpB ⟨#[41]⟩ y) from find_cg (by rw [e1]; rfl), sym41]
  rfl
theorem scanN_par (s : ByteArray) (pre : List Tok) : ∀ (f a : Nat) (acc l : List Tok), a ≤ s.size → s.size ≤ f + a → scanN s f a acc = (l, 0, 0) → scanN (parT s) (f + 1) (a + 1) (pre ++ acc.map Tok.mv) = (pre ++ l.map Tok.mv ++ [⟨3, syClose, s.size + 1⟩], 0, 0) := by
  have hsz := parT_size s
  have hfin : ∀ (f : Nat) (acc : List Tok), scanN (parT s) (f + 1) (s.size + 1) (pre ++ acc.map Tok.mv) = (pre ++ acc.map Tok.mv ++ [⟨3, syClose, s.size + 1⟩], 0, 0) := by
    intro f acc
    rw [scanN, if_pos (by omega), if_neg (by rw [bt_par_end]; decide), next_par_end]
    show scanN (parT s) f (s.size + 1 + 1) _ = _
    rw [show s.size + 1 + 1 = (parT s).size by omega]
    exact scanN_end _ _ _
  intro f
  induction f with
  | zero =>
    intro a acc l ha hf h
    have e : acc = l := by injection h
    subst e
    rw [show a = s.size by omega]
    exact hfin 0 acc
  | succ f ih =>
    intro a acc l ha hf h
    by_cases hlt : a < s.size
    · rw [scanN, if_pos hlt] at h
      rw [scanN, if_pos (by omega), bt_par s a hlt]
      by_cases h32 : bt s a = 32
      · rw [if_pos h32] at h ⊢
        exact ih (a + 1) acc l (by omega) (by omega) h
      · rw [if_neg h32] at h ⊢
        rw [next_par s a hlt]
        cases hn : nextTok s a with
        | none => rw [hn] at h; simp at h
        | some t =>
          rw [hn] at h
          have hsp := nextTok_spec s a hlt t hn
          have := ih (a + t.text.size) (acc ++ [t]) l (by omega) (by omega) h
          show scanN (parT s) (f + 1) (a + 1 + t.text.size) (pre ++ acc.map Tok.mv ++ [t.mv]) = _
          rw [show a + 1 + t.text.size = a + t.text.size + 1 by omega, List.append_assoc]
          rw [List.map_append] at this
          exact this
    · obtain rfl : a = s.size := by omega
      rw [scanN_end] at h
      have e : acc = l := by injection h
      subst e
      exact hfin _ acc
set_option maxRecDepth 100000 in
theorem sym40 : ((List.range 256).all fun b => decide ((symL.find? fun y => hpB ⟨#[40, UInt8.ofNat b]⟩ y) = some syOpen)) = true := by kernel_rfl
theorem scan_par (s : ByteArray) (l : List Tok) (h : scan s = (l, 0, 0)) (h4 : s.size + 2 ≤ 400) : scan (parT s) = (⟨3, syOpen, 0⟩ :: (l.map Tok.mv ++ [⟨3, syClose, s.size + 1⟩]), 0, 0) := by
  have hsz := parT_size s
  unfold scan at h ⊢
  rw [if_neg (by omega)] at h ⊢
  rw [hsz, scanN, if_pos (by omega)]
  have h0 : bt (parT s) 0 = 40 := by rw [bt_bl (parT s) 0 40 (by rw [bl_parT]; rfl)]; rfl
  have hn : nextTok (parT s) 0 = some ⟨3, syOpen, 0⟩ := by
    unfold nextTok
    rw [wrun_stop (parT s) 0 (fun h => by rw [h0] at h; exact absurd h.2 (by decide)), if_neg (by decide)]
    unfold symAt
    have e1 : bl ((parT s).extract 0 (parT s).size) = 40 :: (bl s ++ [41]) := by
      rw [bl_ext, bl_parT, List.drop_zero, List.take_of_length_le (by rw [← bl_parT, bl_len]; exact Nat.le_refl _)]
    have key : ∀ b : UInt8, (symL.find? fun y => hpB ⟨#[40, b]⟩ y) = some syOpen := fun b => by
      have h3 := of_decide_eq_true (List.all_eq_true.1 sym40 b.toNat (List.mem_range.2 b.toNat_lt))
      rwa [UInt8.ofNat_toNat] at h3
    cases hb : bl s with
    | nil =>
      rw [show (symL.find? fun y => hpB ((parT s).extract 0 (parT s).size) y) = (symL.find? fun y => hpB ⟨#[40, 41]⟩ y) from find_cg (by rw [e1, hb]; rfl), key]; rfl
    | cons c r =>
      rw [show (symL.find? fun y => hpB ((parT s).extract 0 (parT s).size) y) = (symL.find? fun y => hpB ⟨#[40, c]⟩ y) from find_cg (by rw [e1, hb]; rfl), key]; rfl
  rw [if_neg (by rw [h0]; decide), hn]
  exact scanN_par s [⟨3, syOpen, 0⟩] s.size 0 [] l (by omega) (by omega) h
theorem scanN_idx (s : ByteArray) : ∀ (f a : Nat) (l : List Tok), (scanN s f a l).2.2 = 0 → (scanN s f a l).2.1 = 0 := by
  intro f
  induction f with
  | zero => intro a l _; rfl
  | succ f ih =>
    intro a l h
    rw [scanN] at h ⊢
    by_cases hlt : a < s.size
    · rw [if_pos hlt] at h ⊢
      by_cases h32 : bt s a = 32
      · rw [if_pos h32] at h ⊢; exact ih _ _ h
      · rw [if_neg h32] at h ⊢
        cases hn : nextTok s a with
        | none => rw [hn] at h; cases h
        | some t => rw [hn] at h; exact ih _ _ h
    · rw [if_neg hlt]
theorem scan_idx (s : ByteArray) (h : (scan s).2.2 = 0) : (scan s).2.1 = 0 := by
  unfold scan at h ⊢
  split
  · rfl
  · rename_i h4; rw [if_neg h4] at h; exact scanN_idx s _ _ _ h
theorem par_same (s : ByteArray) (h : pOk s = true) (h4 : s.size + 2 ≤ 400) : pOk (parT s) = true ∧ pTree (parT s) = pTree s := by
  unfold pOk at h
  rw [Bool.and_eq_true, decide_eq_true_iff, decide_eq_true_iff] at h
  obtain ⟨⟨l, ri, rc⟩, hR⟩ : ∃ R, scan s = R := ⟨_, rfl⟩
  have h1 : rc = 0 := by have := h.1; rw [hR] at this; exact this
  subst h1
  have hri : ri = 0 := by
    have := scan_idx s (by rw [hR])
    rw [hR] at this; exact this
  subst hri
  have e := scan_par s l hR h4
  have hp : (parse l).2.2 = 0 := by have := h.2; rw [hR] at this; exact this
  have hpar := parse_par (l := l) (l' := ⟨3, syOpen, 0⟩ :: (l.map Tok.mv ++ [⟨3, syClose, s.size + 1⟩])) (by simp) ⟨fun i hi => by
      rw [Nat.add_comm 1 i, List.getElem?_cons_succ, List.getElem?_append_left (by simpa using hi), List.getElem?_map, Option.map_map]; rfl,
    fun t ht => by
      rw [Nat.add_comm 1 l.length, List.getElem?_cons_succ, List.getElem?_append_right (by simp), List.length_map, Nat.sub_self] at ht
      injection ht with ht; subst ht; exact ⟨rfl, rfl⟩⟩ (a := ⟨3, syOpen, 0⟩) (b := ⟨3, syClose, s.size + 1⟩) rfl rfl rfl (by
      rw [Nat.add_comm 1 l.length, List.getElem?_cons_succ, List.getElem?_append_right (by simp), List.length_map, Nat.sub_self]; rfl) rfl rfl hp
  unfold pOk pTree
  rw [e, hR]
  simp only
  rw [hpar]
  exact ⟨by rw [hp]; rfl, rfl⟩
end Go.Proofs.YtodmkmoglchoeaaDoor
