/- Contracts, joined: YPure, YPure2. -/
import Derived.Test.YtodmkmoglchoeaaDoorLSame
namespace Go.Proofs.YtodmkmoglchoeaaDoor
/- Layer 7, pure: the parser as one function with fuel; what it needs. -/
section
open Go.RowKit

structure Nd where
  op : Nat
  a : Nat
  b : Nat
  name : ByteArray
  attr : ByteArray
  val : Nat
structure PS where
  at_ : Nat
  bad : Bool
  out : List Nd
inductive Ru where
  | imp
  | grp (k : Nat)
  | grpL (k a : Nat)
  | not
  | cmp
  | una
  | atm
def syL : List ByteArray := [⟨#[]⟩, ⟨#[]⟩, ⟨#[]⟩, ⟨#[]⟩, ⟨#[45]⟩, ⟨#[33]⟩, ⟨#[43]⟩, ⟨#[45]⟩, ⟨#[61, 61]⟩, ⟨#[33, 61]⟩, ⟨#[60]⟩, ⟨#[60, 61]⟩, ⟨#[62]⟩, ⟨#[62, 61]⟩, ⟨#[38, 38]⟩, ⟨#[124, 124]⟩, ⟨#[45, 62]⟩]
/-- an operation's symbol -/
def sy (o : Nat) : ByteArray := syL.getD o ⟨#[]⟩
def syOpen : ByteArray := ⟨#[40]⟩
def syClose : ByteArray := ⟨#[41]⟩
def syOf : ByteArray := ⟨#[58, 58]⟩
def syTrue : ByteArray := ⟨#[116, 114, 117, 101]⟩
def syFalse : ByteArray := ⟨#[102, 97, 108, 115, 101]⟩
/-- the next token is this symbol -/
def see (l : List Tok) (p : PS) (x : ByteArray) : Bool := !p.bad && (match l[p.at_]? with
  | some t => decide (t.kind = 3) && decide (t.text = x)
  | none => false)
/-- the first operation whose symbol comes next; 0 if there is none -/
def opAt (l : List Tok) (p : PS) : List Nat → Nat
  | [] => 0
  | o :: r => if see l p (sy o) = true then o else opAt l p r
def PS.adv (p : PS) : PS := ⟨p.at_ + 1, p.bad, p.out⟩
def PS.nod (p : PS) (n : Nd) : Nat × PS := (p.out.length, ⟨p.at_, p.bad, p.out ++ [n]⟩)
def PS.fai (p : PS) : PS := ⟨p.at_, true, p.out⟩
def nd (o a b : Nat) : Nd := ⟨o, a, b, ⟨#[]⟩, ⟨#[]⟩, 0⟩
def prt : Nat → Ru
  | 0 => .grp 1
  | 1 => .not
  | _ => .una
def gops : Nat → List Nat
  | 0 => [15]
  | 1 => [14]
  | _ => [6, 7]
/-- behind a name -/
def pVar (l : List Tok) (x : ByteArray) (p : PS) : Nat × PS :=
  if see l p syOf = true then
    match l[p.at_ + 1]? with
    | some u => if u.kind = 2 then p.adv.adv.nod ⟨3, 0, 0, x, u.text, 0⟩ else (0, p.adv.fai)
    | none => (0, p.adv.fai)
  else p.nod ⟨3, 0, 0, x, ⟨#[]⟩, 0⟩
/-- the rules, fuel first -/
def pR (l : List Tok) : Nat → Ru → PS → Option (Nat × PS)
  | 0, _, _ => none
  | n + 1, .imp, p => (pR l n (.grp 0) p).bind fun r =>
      if opAt l r.2 [16] = 0 then some r else (pR l n .imp r.2.adv).bind fun q => some (q.2.nod (nd 16 r.1 q.1))
  | n + 1, .grp k, p => (pR l n (prt k) p).bind fun r => pR l n (.grpL k r.1) r.2
  | n + 1, .grpL k a, p => if opAt l p (gops k) = 0 then some (a, p) else (pR l n (prt k) p.adv).bind fun q =>
      pR l n (.grpL k (q.2.nod (nd (opAt l p (gops k)) a q.1)).1) (q.2.nod (nd (opAt l p (gops k)) a q.1)).2
  | n + 1, .not, p => if opAt l p [5] = 0 then pR l n .cmp p else (pR l n .not p.adv).bind fun q => some (q.2.nod (nd 5 q.1 0))
  | n + 1, .cmp, p => (pR l n (.grp 2) p).bind fun r =>
      if opAt l r.2 [8, 9, 10, 11, 12, 13] = 0 then some r else (pR l n (.grp 2) r.2.adv).bind fun q => some (q.2.nod (nd (opAt l r.2 [8, 9, 10, 11, 12, 13]) r.1 q.1))
  | n + 1, .una, p => if opAt l p [4] = 0 then pR l n .atm p else (pR l n .una p.adv).bind fun q => some (q.2.nod (nd 4 q.1 0))
  | n + 1, .atm, p => if p.bad = true then some (0, p.fai) else
      match l[p.at_]? with
      | none => some (0, p.fai)
      | some t =>
        if t.kind = 1 then some (p.adv.nod ⟨1, 0, 0, ⟨#[]⟩, ⟨#[]⟩, (litV t.text).getD 0⟩)
        else if t.kind = 2 then
          if t.text = syTrue then some (p.adv.nod ⟨2, 0, 0, ⟨#[]⟩, ⟨#[]⟩, 1⟩)
          else if t.text = syFalse then some (p.adv.nod ⟨2, 0, 0, ⟨#[]⟩, ⟨#[]⟩, 0⟩)
          else some (pVar l t.text p.adv)
        else if see l p syOpen = true then (pR l n .imp p.adv).bind fun r => if see l r.2 syClose = true then some (r.1, r.2.adv) else some (r.1, r.2.fai)
        else some (0, p.fai)
theorem opAt_see {l : List Tok} {p : PS} {os : List Nat} (h : opAt l p os ≠ 0) : see l p (sy (opAt l p os)) = true := by
  induction os with
  | nil => exact absurd rfl h
  | cons o r ih =>
    rw [opAt] at h ⊢
    by_cases hs : see l p (sy o) = true
    · rw [if_pos hs]; exact hs
    · rw [if_neg hs] at h ⊢; exact ih h
theorem see_bad {l : List Tok} {p : PS} (h : p.bad = true) (x : ByteArray) : see l p x = false := by unfold see; rw [h]; rfl
theorem opAt_bad {l : List Tok} {p : PS} (h : p.bad = true) (os : List Nat) : opAt l p os = 0 := by
  induction os with
  | nil => rfl
  | cons o r ih => rw [opAt, see_bad h, if_neg (by decide), ih]
theorem see_lt {l : List Tok} {p : PS} {x : ByteArray} (h : see l p x = true) : p.at_ < l.length ∧ p.bad = false := by
  unfold see at h
  cases hb : p.bad
  · cases hl : l[p.at_]? with
    | none => rw [hb, hl] at h; cases h
    | some t => exact ⟨(List.getElem?_eq_some_iff.1 hl).1, rfl⟩
  · rw [hb] at h; cases h
/-- what holds of every result: the place does not go back nor beyond the end; a node a token at the most; what was there stays ahead -/
structure Went (l : List Tok) (p q : PS) : Prop where
  le : p.at_ ≤ q.at_
  len : p.at_ ≤ l.length → q.at_ ≤ l.length
  out : q.out.length + p.at_ ≤ p.out.length + q.at_
  bad : p.bad = true → q.bad = true ∧ q.at_ = p.at_
theorem Went.refl (l : List Tok) (p : PS) : Went l p p := ⟨Nat.le_refl _, id, Nat.le_refl _, fun h => ⟨h, rfl⟩⟩
theorem Went.trans {l : List Tok} {p q r : PS} (h : Went l p q) (k : Went l q r) : Went l p r :=
  ⟨Nat.le_trans h.le k.le, fun e => k.len (h.len e), by have := h.out; have := k.out; omega, fun e => ⟨(k.bad (h.bad e).1).1, ((k.bad (h.bad e).1).2).trans (h.bad e).2⟩⟩
theorem Went.fai (l : List Tok) (p : PS) : Went l p p.fai := ⟨Nat.le_refl _, id, Nat.le_refl _, fun _ => ⟨rfl, rfl⟩⟩
/-- an operation with what follows it -/
theorem Went.op {l : List Tok} {p q : PS} {x : ByteArray} (hs : see l p x = true) (h : Went l p.adv q) (n : Nd) : Went l p (q.nod n).2 := by
  have h1 := h.le
  have h2 := h.out
  have h3 := see_lt hs
  refine ⟨?_, fun _ => h.len h3.1, ?_, fun e => by rw [h3.2] at e; cases e⟩
  · show p.at_ ≤ q.at_
    have : p.at_ + 1 ≤ q.at_ := h1
    omega
  · show (q.out ++ [n]).length + p.at_ ≤ p.out.length + q.at_
    have : q.out.length + (p.at_ + 1) ≤ p.out.length + q.at_ := h2
    rw [List.length_append]
    simp
    omega
theorem Went.leaf {l : List Tok} {p : PS} (hl : p.at_ < l.length) (hb : ¬ p.bad = true) (n : Nd) : Went l p (p.adv.nod n).2 := by
  refine ⟨by show p.at_ ≤ p.at_ + 1; omega, fun _ => hl, ?_, fun e => absurd e hb⟩
  show (p.out ++ [n]).length + p.at_ ≤ p.out.length + (p.at_ + 1)
  rw [List.length_append]
  simp
  omega
theorem Went.skip {l : List Tok} {p q : PS} {x : ByteArray} (hs : see l p x = true) (h : Went l p.adv q) : Went l p q := by
  have h1 := h.le
  have h2 := h.out
  have h3 := see_lt hs
  refine ⟨?_, fun _ => h.len h3.1, ?_, fun e => by rw [h3.2] at e; cases e⟩
  · have : p.at_ + 1 ≤ q.at_ := h1
    omega
  · have : q.out.length + (p.at_ + 1) ≤ p.out.length + q.at_ := h2
    omega
theorem pVar_went (l : List Tok) (x : ByteArray) (p : PS) (hl : p.at_ < l.length) (hb : ¬ p.bad = true) : Went l p (pVar l x p.adv).2 := by
  unfold pVar
  by_cases hs : see l p.adv syOf = true
  · rw [if_pos hs]
    have h3 := see_lt hs
    have hlt : p.at_ + 1 < l.length := h3.1
    cases hu : l[p.adv.at_ + 1]? with
    | none => exact ⟨by show p.at_ ≤ p.at_ + 1 + 1; omega, fun _ => hlt, by show p.out.length + p.at_ ≤ p.out.length + (p.at_ + 1 + 1); omega, fun e => absurd e hb⟩
    | some u =>
      have hlt2 : p.at_ + 1 + 1 < l.length := (List.getElem?_eq_some_iff.1 hu).1
      by_cases hk : u.kind = 2
      · simp only [hk, if_true]
        refine ⟨by show p.at_ ≤ p.at_ + 1 + 1 + 1; omega, fun _ => hlt2, ?_, fun e => absurd e hb⟩
        show (p.out ++ [_]).length + p.at_ ≤ p.out.length + (p.at_ + 1 + 1 + 1)
        rw [List.length_append]; simp; omega
      · simp only [hk, if_false]
        exact ⟨by show p.at_ ≤ p.at_ + 1 + 1; omega, fun _ => hlt, by show p.out.length + p.at_ ≤ p.out.length + (p.at_ + 1 + 1); omega, fun e => absurd e hb⟩
  · rw [if_neg hs]
    exact Went.leaf hl hb _
theorem pR_went (l : List Tok) : ∀ (n : Nat) (R : Ru) (p : PS) (r : Nat × PS), pR l n R p = some r → Went l p r.2 := by
  intro n
  induction n with
  | zero => intro R p r h; cases h
  | succ n ih =>
    intro R p r h
    cases R with
    | imp =>
      rw [pR] at h
      cases h1 : pR l n (.grp 0) p with
      | none => rw [h1] at h; cases h
      | some r1 =>
        rw [h1, Option.bind_some] at h
        have w1 := ih _ _ _ h1
        by_cases ho : opAt l r1.2 [16] = 0
        · rw [if_pos ho] at h; injection h with h; subst h; exact w1
        · rw [if_neg ho] at h
          cases h2 : pR l n .imp r1.2.adv with
          | none => rw [h2] at h; cases h
          | some q =>
            rw [h2, Option.bind_some] at h; injection h with h; subst h
            exact w1.trans (Went.op (opAt_see ho) (ih _ _ _ h2) _)
    | grp k =>
      rw [pR] at h
      cases h1 : pR l n (prt k) p with
      | none => rw [h1] at h; cases h
      | some r1 => rw [h1, Option.bind_some] at h; exact (ih _ _ _ h1).trans (ih _ _ _ h)
    | grpL k a =>
      rw [pR] at h
      by_cases ho : opAt l p (gops k) = 0
      · rw [if_pos ho] at h; injection h with h; subst h; exact Went.refl _ _
      · rw [if_neg ho] at h
        cases h2 : pR l n (prt k) p.adv with
        | none => rw [h2] at h; cases h
        | some q => rw [h2, Option.bind_some] at h; exact (Went.op (opAt_see ho) (ih _ _ _ h2) _).trans (ih _ _ _ h)
    | not =>
      rw [pR] at h
      by_cases ho : opAt l p [5] = 0
      · rw [if_pos ho] at h; exact ih _ _ _ h
      · rw [if_neg ho] at h
        cases h2 : pR l n .not p.adv with
        | none => rw [h2] at h; cases h
        | some q => rw [h2, Option.bind_some] at h; injection h with h; subst h; exact Went.op (opAt_see ho) (ih _ _ _ h2) _
    | cmp =>
      rw [pR] at h
      cases h1 : pR l n (.grp 2) p with
      | none => rw [h1] at h; cases h
      | some r1 =>
        rw [h1, Option.bind_some] at h
        have w1 := ih _ _ _ h1
        by_cases ho : opAt l r1.2 [8, 9, 10, 11, 12, 13] = 0
        · rw [if_pos ho] at h; injection h with h; subst h; exact w1
        · rw [if_neg ho] at h
          cases h2 : pR l n (.grp 2) r1.2.adv with
          | none => rw [h2] at h; cases h
          | some q => rw [h2, Option.bind_some] at h; injection h with h; subst h; exact w1.trans (Went.op (opAt_see ho) (ih _ _ _ h2) _)
    | una =>
      rw [pR] at h
      by_cases ho : opAt l p [4] = 0
      · rw [if_pos ho] at h; exact ih _ _ _ h
      · rw [if_neg ho] at h
        cases h2 : pR l n .una p.adv with
        | none => rw [h2] at h; cases h
        | some q => rw [h2, Option.bind_some] at h; injection h with h; subst h; exact Went.op (opAt_see ho) (ih _ _ _ h2) _
    | atm =>
      rw [pR] at h
      by_cases hb : p.bad = true
      · rw [if_pos hb] at h; injection h with h; subst h; exact Went.fai _ _
      · rw [if_neg hb] at h
        cases ht : l[p.at_]? with
        | none => rw [ht] at h; injection h with h; subst h; exact Went.fai _ _
        | some t =>
          have hlt := (List.getElem?_eq_some_iff.1 ht).1
          rw [ht] at h
          simp only at h
          by_cases k1 : t.kind = 1
          · rw [if_pos k1] at h; injection h with h; subst h; exact Went.leaf hlt hb _
          · rw [if_neg k1] at h
            by_cases k2 : t.kind = 2
            · rw [if_pos k2] at h
              by_cases e1 : t.text = syTrue
              · rw [if_pos e1] at h; injection h with h; subst h; exact Went.leaf hlt hb _
              · rw [if_neg e1] at h
                by_cases e2 : t.text = syFalse
                · rw [if_pos e2] at h; injection h with h; subst h; exact Went.leaf hlt hb _
                · rw [if_neg e2] at h; injection h with h; subst h; exact pVar_went l _ p hlt hb
            · rw [if_neg k2] at h
              by_cases hs : see l p syOpen = true
              · rw [if_pos hs] at h
                cases h2 : pR l n .imp p.adv with
                | none => rw [h2] at h; cases h
                | some q =>
                  rw [h2, Option.bind_some] at h
                  have w2 := Went.skip hs (ih _ _ _ h2)
                  by_cases hc : see l q.2 syClose = true
                  · rw [if_pos hc] at h; injection h with h; subst h
                    exact w2.trans (Went.skip hc (Went.refl _ _))
                  · rw [if_neg hc] at h; injection h with h; subst h
                    exact w2.trans (Went.fai _ _)
              · rw [if_neg hs] at h; injection h with h; subst h; exact Went.fai _ _
def lev : Ru → Nat
  | .imp => 9
  | .grp 0 => 8
  | .grp 1 => 7
  | .grp _ => 4
  | .grpL _ _ => 3
  | .not => 6
  | .cmp => 5
  | .una => 3
  | .atm => 2
theorem lev_prt (k : Nat) : lev (prt k) + 1 ≤ lev (.grp k) ∧ 3 ≤ lev (prt k) ∧ lev (prt k) ≤ 7 := by
  rcases k with _ | _ | k <;> simp [lev, prt]
theorem lev_le (R : Ru) : lev R ≤ 9 := by
  cases R with
  | grp k => rcases k with _ | _ | k <;> simp [lev]
  | _ => simp [lev]
theorem pR_tot (l : List Tok) : ∀ (n : Nat) (R : Ru) (p : PS), p.at_ ≤ l.length → 10 * (l.length - p.at_) + lev R ≤ n → ∃ r, pR l n R p = some r := by
  intro n
  induction n with
  | zero => intro R p _ h; cases R with
    | grp k => have := lev_prt k; omega
    | _ => simp [lev] at h
  | succ n ih =>
    intro R p hp h
    have hadv : ∀ {q : PS} {x : ByteArray} (S : Ru), p.at_ ≤ q.at_ → q.at_ ≤ l.length → see l q x = true → 10 * (l.length - p.at_) ≤ n + 1 → ∃ r, pR l n S q.adv = some r := by
      intro q x S h1 h2 hs h3
      have := (see_lt hs).1
      have := lev_le S
      exact ih S q.adv (by show q.at_ + 1 ≤ _; omega) (by show 10 * (l.length - (q.at_ + 1)) + _ ≤ n; omega)
    cases R with
    | imp =>
      have h9 : lev .imp = 9 := rfl
      obtain ⟨r, hr⟩ := ih (.grp 0) p hp (by have : lev (.grp 0) = 8 := rfl; omega)
      rw [pR, hr, Option.bind_some]
      have w := pR_went l _ _ _ _ hr
      by_cases ho : opAt l r.2 [16] = 0
      · rw [if_pos ho]; exact ⟨_, rfl⟩
      · rw [if_neg ho]
        obtain ⟨q, hq⟩ := hadv .imp w.le (w.len hp) (opAt_see ho) (by omega)
        rw [hq]; exact ⟨_, rfl⟩
    | grp k =>
      have hk := lev_prt k
      obtain ⟨r, hr⟩ := ih (prt k) p hp (by omega)
      rw [pR, hr, Option.bind_some]
      have w := pR_went l _ _ _ _ hr
      have := w.le
      exact ih (.grpL k r.1) r.2 (w.len hp) (by have : lev (.grpL k r.1) = 3 := rfl; omega)
    | grpL k a =>
      have h3 : lev (.grpL k a) = 3 := rfl
      rw [pR]
      by_cases ho : opAt l p (gops k) = 0
      · rw [if_pos ho]; exact ⟨_, rfl⟩
      · rw [if_neg ho]
        obtain ⟨q, hq⟩ := hadv (prt k) (Nat.le_refl _) hp (opAt_see ho) (by omega)
        rw [hq, Option.bind_some]
        have w := pR_went l _ _ _ _ hq
        have h1 : p.at_ + 1 ≤ q.2.at_ := w.le
        have hlt := (see_lt (opAt_see ho)).1
        have h2 : q.2.at_ ≤ l.length := w.len hlt
        exact ih (.grpL k _) _ h2 (by
          show 10 * (l.length - q.2.at_) + 3 ≤ n
          omega)
    | not =>
      have h6 : lev .not = 6 := rfl
      rw [pR]
      by_cases ho : opAt l p [5] = 0
      · rw [if_pos ho]; exact ih .cmp p hp (by have : lev .cmp = 5 := rfl; omega)
      · rw [if_neg ho]
        obtain ⟨q, hq⟩ := hadv .not (Nat.le_refl _) hp (opAt_see ho) (by omega)
        rw [hq]; exact ⟨_, rfl⟩
    | cmp =>
      have h5 : lev .cmp = 5 := rfl
      obtain ⟨r, hr⟩ := ih (.grp 2) p hp (by have : lev (.grp 2) = 4 := rfl; omega)
      rw [pR, hr, Option.bind_some]
      have w := pR_went l _ _ _ _ hr
      by_cases ho : opAt l r.2 [8, 9, 10, 11, 12, 13] = 0
      · rw [if_pos ho]; exact ⟨_, rfl⟩
      · rw [if_neg ho]
        obtain ⟨q, hq⟩ := hadv (.grp 2) w.le (w.len hp) (opAt_see ho) (by omega)
        rw [hq]; exact ⟨_, rfl⟩
    | una =>
      have h3 : lev .una = 3 := rfl
      rw [pR]
      by_cases ho : opAt l p [4] = 0
      · rw [if_pos ho]; exact ih .atm p hp (by have : lev .atm = 2 := rfl; omega)
      · rw [if_neg ho]
        obtain ⟨q, hq⟩ := hadv .una (Nat.le_refl _) hp (opAt_see ho) (by omega)
        rw [hq]; exact ⟨_, rfl⟩
    | atm =>
      have h2 : lev .atm = 2 := rfl
      rw [pR]
      by_cases hb : p.bad = true
      · rw [if_pos hb]; exact ⟨_, rfl⟩
      · rw [if_neg hb]
        cases ht : l[p.at_]? with
        | none => exact ⟨_, rfl⟩
        | some t =>
          simp only
          split
          · exact ⟨_, rfl⟩
          · split
            · split
              · exact ⟨_, rfl⟩
              · split <;> exact ⟨_, rfl⟩
            · split
              · rename_i hs
                obtain ⟨q, hq⟩ := hadv .imp (Nat.le_refl _) hp hs (by omega)
                rw [hq, Option.bind_some]
                split <;> exact ⟨_, rfl⟩
              · exact ⟨_, rfl⟩
def p0 : PS := ⟨0, false, []⟩
/-- the whole: fuel for l -/
def fuel (l : List Tok) : Nat := 10 * l.length + 9
theorem pR_all (l : List Tok) : ∃ r, pR l (fuel l) .imp p0 = some r := pR_tot l _ _ _ (Nat.zero_le _) (Nat.le_refl _)
def pRun (l : List Tok) : Nat × PS := (pR l (fuel l) .imp p0).getD (0, p0)
theorem pRun_some (l : List Tok) : pR l (fuel l) .imp p0 = some (pRun l) := by
  obtain ⟨r, hr⟩ := pR_all l
  unfold pRun; rw [hr]; rfl
end
/- Layer 7, pure: indices, depth, Parse. -/
section
open Go.RowKit

def okN (o : List Nd) : Prop := ∀ x ∈ o, x.a < o.length ∧ x.b < o.length
theorem okN_snoc {o : List Nd} {x : Nd} (h : okN o) (ha : x.a ≤ o.length) (hb : x.b ≤ o.length) : okN (o ++ [x]) := by
  intro y hy
  rw [List.length_append]
  rcases List.mem_append.1 hy with hy | hy
  · have := h y hy; simp; omega
  · obtain rfl : y = x := by simpa using hy
    simp; omega
/-- of a result that is no error -/
structure Fine (p : PS) (r : Nat × PS) : Prop where
  idx : r.1 < r.2.out.length
  ok : okN r.2.out
  mono : p.out.length ≤ r.2.out.length
theorem fine_nod {p : PS} {q : Nat × PS} {n : Nd} (ho : okN q.2.out) (hm : p.out.length ≤ q.2.out.length) (ha : n.a ≤ q.2.out.length) (hb : n.b ≤ q.2.out.length) : Fine p (q.2.nod n) :=
  ⟨by show q.2.out.length < (q.2.out ++ [n]).length; simp, okN_snoc ho ha hb, by show _ ≤ (q.2.out ++ [n]).length; rw [List.length_append]; omega⟩
theorem fine_leaf {p : PS} {q : PS} {n : Nd} (he : q.out = p.out) (ho : okN p.out) (ha : n.a = 0) (hb : n.b = 0) : Fine p (q.nod n) :=
  fine_nod (q := (0, q)) (by show okN q.out; rw [he]; exact ho) (by show _ ≤ q.out.length; rw [he]; exact Nat.le_refl _) (by rw [ha]; omega) (by rw [hb]; omega)
def ruA : Ru → Nat → Prop
  | .grpL _ a, n => a < n
  | _, _ => True
theorem nod_bad {p : PS} {n : Nd} : (p.nod n).2.bad = p.bad := rfl
theorem pR_fine (l : List Tok) : ∀ (n : Nat) (R : Ru) (p : PS) (r : Nat × PS), pR l n R p = some r → r.2.bad = false → okN p.out → ruA R p.out.length → Fine p r := by
  intro n
  induction n with
  | zero => intro R p r h; cases h
  | succ n ih =>
    intro R p r h hb hp hR
    cases R with
    | imp =>
      rw [pR] at h
      cases h1 : pR l n (.grp 0) p with
      | none => rw [h1] at h; cases h
      | some r1 =>
        rw [h1, Option.bind_some] at h
        by_cases ho : opAt l r1.2 [16] = 0
        · rw [if_pos ho] at h; injection h with h; subst h; exact ih _ _ _ h1 hb hp trivial
        · rw [if_neg ho] at h
          have b1 := (see_lt (opAt_see ho)).2
          have f1 := ih _ _ _ h1 b1 hp trivial
          cases h2 : pR l n .imp r1.2.adv with
          | none => rw [h2] at h; cases h
          | some q =>
            rw [h2, Option.bind_some] at h; injection h with h; subst h
            have f2 := ih _ _ _ h2 hb f1.ok trivial
            have m2 : r1.2.out.length ≤ q.2.out.length := f2.mono
            exact fine_nod f2.ok (Nat.le_trans f1.mono m2) (by show r1.1 ≤ _; have := f1.idx; omega) (by show q.1 ≤ _; have := f2.idx; omega)
    | grp k =>
      rw [pR] at h
      cases h1 : pR l n (prt k) p with
      | none => rw [h1] at h; cases h
      | some r1 =>
        rw [h1, Option.bind_some] at h
        have b1 : r1.2.bad = false := by
          cases hh : r1.2.bad
          · rfl
          · have := ((pR_went l _ _ _ _ h).bad hh).1; rw [hb] at this; cases this
        have f1 := ih _ _ _ h1 b1 hp (by rcases k with _ | _ | k <;> trivial)
        have f2 := ih _ _ _ h hb f1.ok f1.idx
        exact ⟨f2.idx, f2.ok, Nat.le_trans f1.mono f2.mono⟩
    | grpL k a =>
      rw [pR] at h
      by_cases ho : opAt l p (gops k) = 0
      · rw [if_pos ho] at h; injection h with h; subst h; exact ⟨hR, hp, Nat.le_refl _⟩
      · rw [if_neg ho] at h
        cases h2 : pR l n (prt k) p.adv with
        | none => rw [h2] at h; cases h
        | some q =>
          rw [h2, Option.bind_some] at h
          have b2 : q.2.bad = false := by
            cases hh : q.2.bad
            · rfl
            · have := ((pR_went l _ _ _ _ h).bad hh).1; rw [hb] at this; cases this
          have f2 := ih _ _ _ h2 b2 hp (by rcases k with _ | _ | k <;> trivial)
          have m2 : p.out.length ≤ q.2.out.length := f2.mono
          have ha : a < p.out.length := hR
          have f3 : Fine p (q.2.nod (nd (opAt l p (gops k)) a q.1)) := fine_nod f2.ok m2 (by show a ≤ _; omega) (by show q.1 ≤ _; have := f2.idx; omega)
          have f4 := ih _ _ _ h hb f3.ok f3.idx
          exact ⟨f4.idx, f4.ok, Nat.le_trans f3.mono f4.mono⟩
    | not =>
      rw [pR] at h
      by_cases ho : opAt l p [5] = 0
      · rw [if_pos ho] at h; exact ih _ _ _ h hb hp trivial
      · rw [if_neg ho] at h
        cases h2 : pR l n .not p.adv with
        | none => rw [h2] at h; cases h
        | some q =>
          rw [h2, Option.bind_some] at h; injection h with h; subst h
          have f2 := ih _ _ _ h2 hb hp trivial
          exact fine_nod f2.ok f2.mono (by show q.1 ≤ _; have := f2.idx; omega) (Nat.zero_le _)
    | cmp =>
      rw [pR] at h
      cases h1 : pR l n (.grp 2) p with
      | none => rw [h1] at h; cases h
      | some r1 =>
        rw [h1, Option.bind_some] at h
        by_cases ho : opAt l r1.2 [8, 9, 10, 11, 12, 13] = 0
        · rw [if_pos ho] at h; injection h with h; subst h; exact ih _ _ _ h1 hb hp trivial
        · rw [if_neg ho] at h
          have b1 := (see_lt (opAt_see ho)).2
          have f1 := ih _ _ _ h1 b1 hp trivial
          cases h2 : pR l n (.grp 2) r1.2.adv with
          | none => rw [h2] at h; cases h
          | some q =>
            rw [h2, Option.bind_some] at h; injection h with h; subst h
            have f2 := ih _ _ _ h2 hb f1.ok trivial
            have m2 : r1.2.out.length ≤ q.2.out.length := f2.mono
            exact fine_nod f2.ok (Nat.le_trans f1.mono m2) (by show r1.1 ≤ _; have := f1.idx; omega) (by show q.1 ≤ _; have := f2.idx; omega)
    | una =>
      rw [pR] at h
      by_cases ho : opAt l p [4] = 0
      · rw [if_pos ho] at h; exact ih _ _ _ h hb hp trivial
      · rw [if_neg ho] at h
        cases h2 : pR l n .una p.adv with
        | none => rw [h2] at h; cases h
        | some q =>
          rw [h2, Option.bind_some] at h; injection h with h; subst h
          have f2 := ih _ _ _ h2 hb hp trivial
          exact fine_nod f2.ok f2.mono (by show q.1 ≤ _; have := f2.idx; omega) (Nat.zero_le _)
    | atm =>
      rw [pR] at h
      by_cases hbb : p.bad = true
      · rw [if_pos hbb] at h; injection h with h; subst h; cases hb
      · rw [if_neg hbb] at h
        cases ht : l[p.at_]? with
        | none => rw [ht] at h; injection h with h; subst h; cases hb
        | some t =>
          rw [ht] at h
          simp only at h
          by_cases k1 : t.kind = 1
          · rw [if_pos k1] at h; injection h with h; subst h; exact fine_leaf rfl hp rfl rfl
          · rw [if_neg k1] at h
            by_cases k2 : t.kind = 2
            · rw [if_pos k2] at h
              by_cases e1 : t.text = syTrue
              · rw [if_pos e1] at h; injection h with h; subst h; exact fine_leaf rfl hp rfl rfl
              · rw [if_neg e1] at h
                by_cases e2 : t.text = syFalse
                · rw [if_pos e2] at h; injection h with h; subst h; exact fine_leaf rfl hp rfl rfl
                · rw [if_neg e2] at h; injection h with h; subst h
                  unfold pVar at hb ⊢
                  by_cases hs : see l p.adv syOf = true
                  · rw [if_pos hs] at hb ⊢
                    cases hu : l[p.adv.at_ + 1]? with
                    | none => rw [hu] at hb; cases hb
                    | some u =>
                      rw [hu] at hb
                      by_cases hk : u.kind = 2
                      · simp only [hk, if_true] at hb ⊢
                        exact fine_leaf rfl hp rfl rfl
                      · simp only [hk, if_false] at hb
                        cases hb
                  · rw [if_neg hs] at hb ⊢
                    exact fine_leaf rfl hp rfl rfl
            · rw [if_neg k2] at h
              by_cases hs : see l p syOpen = true
              · rw [if_pos hs] at h
                cases h2 : pR l n .imp p.adv with
                | none => rw [h2] at h; cases h
                | some q =>
                  rw [h2, Option.bind_some] at h
                  by_cases hc : see l q.2 syClose = true
                  · rw [if_pos hc] at h; injection h with h; subst h
                    have f2 := ih _ _ _ h2 (see_lt hc).2 hp trivial
                    exact ⟨f2.idx, f2.ok, f2.mono⟩
                  · rw [if_neg hc] at h; injection h with h; subst h; cases hb
              · rw [if_neg hs] at h; injection h with h; subst h; cases hb
/-- a node's depth, from those ahead -/
def dep1 (ds : List Nat) (n : Nd) : Nat :=
  if n.op ≤ 3 then 0
  else if n.op ≤ 5 then 1 + ds.getD n.a 0
  else if n.op = 16 then max (ds.getD n.a 0) (1 + ds.getD n.b 0)
  else max (ds.getD n.a 0) (ds.getD n.b 0)
def deps (o : List Nd) : List Nat := o.foldl (fun ds n => ds ++ [dep1 ds n]) []
theorem deps_snoc (o : List Nd) (n : Nd) : deps (o ++ [n]) = deps o ++ [dep1 (deps o) n] := by
  unfold deps; rw [List.foldl_append]; rfl
theorem deps_len (o : List Nd) : (deps o).length = o.length := by
  have h : ∀ (o : List Nd) (ds : List Nat), (o.foldl (fun ds n => ds ++ [dep1 ds n]) ds).length = ds.length + o.length := by
    intro o
    induction o with
    | nil => intro ds; rfl
    | cons x r ih => intro ds; rw [List.foldl_cons, ih, List.length_append]; simp; omega
  have := h o []
  simpa [deps] using this
theorem getD_lt {ds : List Nat} {N : Nat} (h : ∀ x ∈ ds, x ≤ N) (i : Nat) : ds.getD i 0 ≤ N := by
  rw [List.getD_eq_getElem?_getD]
  cases e : ds[i]? with
  | none => simp
  | some x => exact h x (List.mem_of_getElem? e)
theorem dep1_le {ds : List Nat} {N : Nat} (h : ∀ x ∈ ds, x ≤ N) (n : Nd) : dep1 ds n ≤ N + 1 := by
  have ha := getD_lt h n.a
  have hb := getD_lt h n.b
  unfold dep1
  repeat (first | split | omega)
theorem deps_snoc_le (o : List Nd) : ∀ x ∈ deps o, x ≤ o.length := by
  have h : ∀ (o : List Nd) (ds : List Nat), (∀ x ∈ ds, x ≤ ds.length) → ∀ x ∈ o.foldl (fun ds n => ds ++ [dep1 ds n]) ds, x ≤ ds.length + o.length := by
    intro o
    induction o with
    | nil => intro ds h; exact h
    | cons n r ih =>
      intro ds h x hx
      rw [List.foldl_cons] at hx
      have := ih (ds ++ [dep1 ds n]) (fun y hy => by
        rw [List.length_append]
        rcases List.mem_append.1 hy with hy | hy
        · have := h y hy; omega
        · obtain rfl : y = dep1 ds n := by simpa using hy
          have := dep1_le h n; simp; omega) x hx
      rw [List.length_append] at this
      simp at this ⊢
      omega
  have := h o [] (fun x hx => by cases hx)
  simpa [deps] using this
/-- the root's depth -/
def depth (o : List Nd) : Nat := (deps o).getD (o.length - 1) 0
/-- Parse: tree, index, code -/
def parse (l : List Tok) : List Nd × Nat × Nat :=
  if (pRun l).2.bad = true ∨ (pRun l).2.at_ < l.length then ([], (pRun l).2.at_, 10)
  else if 120 < (pRun l).2.out.length ∨ 12 < depth (pRun l).2.out then ([], 0, 11) else ((pRun l).2.out, 0, 0)
theorem pRun_went (l : List Tok) : Went l p0 (pRun l).2 := pR_went l _ _ _ _ (pRun_some l)
theorem pRun_len (l : List Tok) : (pRun l).2.out.length ≤ l.length ∧ (pRun l).2.at_ ≤ l.length := by
  have w := pRun_went l
  have h1 := w.out
  have h2 := w.len (Nat.zero_le _)
  have h3 : (pRun l).2.out.length + 0 ≤ 0 + (pRun l).2.at_ := h1
  omega
theorem pRun_fine (l : List Tok) (h : (pRun l).2.bad = false) : Fine p0 (pRun l) := pR_fine l _ _ _ _ (pRun_some l) h (fun x hx => by cases hx) trivial
end
end Go.Proofs.YtodmkmoglchoeaaDoor
