/- Layer 12: the reference's list and what the trie holds: pure. -/
import Derived.Test.YtmlocfojmncghaaURef1
namespace Go.Proofs.Ytmlocfojmncghaa
theorem pth_getD (b v n k : Nat) : (pthU b v n).getD k false = (decide (k < n) && v.testBit (b - 1 - k)) := by
  unfold pthU
  by_cases h : k < n
  · rw [decide_eq_true h]; simp [List.getD, h]
  · rw [decide_eq_false h]; simp [List.getD, List.getElem?_eq_none (show ((List.range n).map fun i => v.testBit (b - 1 - i)).length ≤ k by simp; omega)]
theorem pv_pth (b : Nat) (hb : b ≤ 128) (v n : Nat) (hn : n ≤ b) : pvU b (pthU b v n) = v &&& lead b n := by
  refine Nat.eq_of_testBit_eq fun i => ?_
  rw [pv_bit b hb _ (by rw [pthU_len]; exact hn), Nat.testBit_and, lead_bitU _ _ (by omega) (by omega), pth_getD]
  by_cases h1 : i < b
  · rw [decide_eq_true h1, Bool.true_and, show b - 1 - (b - 1 - i) = i by omega]
    by_cases h2 : b - 1 - i < n
    · rw [decide_eq_true h2, decide_eq_true (show (b : Int) - (n : Int) ≤ (i : Int) ∧ (i : Int) < (b : Int) by omega)]; simp
    · rw [decide_eq_false h2, decide_eq_false (show ¬ ((b : Int) - (n : Int) ≤ (i : Int) ∧ (i : Int) < (b : Int)) by omega)]; simp
  · rw [decide_eq_false h1, decide_eq_false (show ¬ ((b : Int) - (n : Int) ≤ (i : Int) ∧ (i : Int) < (b : Int)) by omega)]; simp
theorem pre_pth {b : Nat} (hb : b ≤ 128) {v : Nat} {n : Nat} (h : preU b v n) : pvU b (pthU b v n) = v := by
  rw [pv_pth b hb v n (by have := h.2.1; omega)]; exact h.2.2
/-- the list holds what the trie holds -/
structure RelE (b : Nat) (m : Pth → Option Int) (L : List PE) : Prop where
  asc : AscE L
  ok : ∀ e ∈ L, e.v < 2 ^ 128 ∧ e.n ≤ b
  pre : ∀ e ∈ L, preU b e.v e.n ∧ m (pthU b e.v e.n) = some e.id
  all : ∀ p, (m p).isSome = true → ∃ e ∈ L, pthU b e.v e.n = p
theorem RelE.nil (b : Nat) : RelE b (fun _ => none) [] := ⟨List.Pairwise.nil, fun e h => (by cases h), fun e h => (by cases h), fun p h => (by cases h)⟩
theorem RelE.val {b : Nat} {m : Pth → Option Int} {L : List PE} (h : RelE b m L) (hb : b ≤ 128) {e : PE} (he : e ∈ L) : pvU b (pthU b e.v e.n) = e.v := pre_pth hb (h.pre e he).1
theorem key_none {b v : Nat} {n : Int} (h : ¬ preU b v n) : keyU b v n = none := if_neg h
theorem key_some {b v : Nat} {n : Int} (h : preU b v n) : keyU b v n = some (pthU b v n.toNat) := if_pos h
theorem RelE.here {b : Nat} {m : Pth → Option Int} {L : List PE} (h : RelE b m L) (hb : b ≤ 128) (v : Nat) (n : Int) : hereE v n L = true ↔ preU b v n ∧ (m (pthU b v n.toNat)).isSome = true := by
  rw [here_iff]
  constructor
  · rintro ⟨e, he, rfl, rfl⟩
    obtain ⟨h1, h2⟩ := h.pre e he
    refine ⟨h1, ?_⟩
    rw [Int.toNat_natCast, h2]; rfl
  · rintro ⟨h1, h2⟩
    obtain ⟨e, he, h3⟩ := h.all _ h2
    obtain ⟨k, rfl, _⟩ := preU_len h1 hb
    rw [Int.toNat_natCast] at h3
    have h4 : e.n = k := by have := congrArg List.length h3; rwa [pthU_len, pthU_len] at this
    refine ⟨e, he, ?_, by rw [h4]⟩
    rw [← h.val hb he, h3]
    exact pre_pth hb h1
theorem RelE.putB {b : Nat} {m : Pth → Option Int} {L : List PE} (h : RelE b m L) (hb : b ≤ 128) (v : Nat) (n : Int) : putB m (keyU b v n) = decide (hereE v n L = false ∧ preU b v n) := by
  by_cases hp : preU b v n
  · have h1 := h.here hb v n
    rw [key_some hp]
    show (!(m (pthU b v n.toNat)).isSome) = _
    cases hs : (m (pthU b v n.toNat)).isSome with
    | true => rw [h1.2 ⟨hp, hs⟩]; simp
    | false =>
      have : hereE v n L = false := by cases hh : hereE v n L with | false => rfl | true => (have := (h1.1 hh).2; rw [hs] at this; cases this)
      rw [this]; simp [hp]
  · rw [key_none hp, decide_eq_false (fun h => hp h.2)]; rfl
theorem RelE.remB {b : Nat} {m : Pth → Option Int} {L : List PE} (h : RelE b m L) (hb : b ≤ 128) (v : Nat) (n : Int) : remB m (keyU b v n) = hereE v n L := by
  have h1 := h.here hb v n
  by_cases hp : preU b v n
  · rw [key_some hp]
    show (m (pthU b v n.toNat)).isSome = _
    cases hs : (m (pthU b v n.toNat)).isSome with
    | true => rw [h1.2 ⟨hp, hs⟩]
    | false => cases hh : hereE v n L with | false => rfl | true => (have := (h1.1 hh).2; rw [hs] at this; cases this)
  · rw [key_none hp]
    cases hh : hereE v n L with
    | false => rfl
    | true => exact absurd (h1.1 hh).1 hp
/-- what Get answers -/
def getLE (v : Nat) (n : Int) (L : List PE) : Int × Bool := match L[plcE v n L]? with
  | some e => if isE v n e = true then (e.id, true) else (0, false)
  | none => (0, false)
theorem RelE.getU {b : Nat} {m : Pth → Option Int} {L : List PE} (h : RelE b m L) (hb : b ≤ 128) (v : Nat) (n : Int) : getU m (keyU b v n) = getLE v n L := by
  have h1 := h.here hb v n
  cases hh : hereE v n L with
  | true =>
    obtain ⟨e, he, rfl, rfl, hl⟩ := here_lt h.asc hh
    have hm := (h.pre e (List.mem_of_getElem? he)).2
    have h2 := h1.1 hh
    rw [key_some h2.1]
    rw [Int.toNat_natCast] at h2 ⊢
    have e1 : getLE e.v e.n L = (e.id, true) := by
      unfold getLE
      rw [he]
      exact if_pos ((isE_iff _ _ _).2 ⟨rfl, rfl⟩)
    rw [e1]
    show ((m _).getD 0, (m _).isSome) = _
    rw [hm]; rfl
  | false =>
    have e1 : getLE v n L = (0, false) := by
      unfold getLE
      cases hx : L[plcE v n L]? with
      | none => rfl
      | some x => exact if_neg (by rw [← here_at h.asc hx, hh]; simp)
    rw [e1]
    by_cases hp : preU b v n
    · rw [key_some hp]
      have hs : m (pthU b v n.toNat) = none := by
        cases hs : m (pthU b v n.toNat) with
        | none => rfl
        | some i => rw [h1.2 ⟨hp, by rw [hs]; rfl⟩] at hh; cases hh
      show ((m _).getD 0, (m _).isSome) = _
      rw [hs]; rfl
    · rw [key_none hp]; rfl
/-- what Put does -/
def putLE (bits : Nat) (v : Nat) (n : Int) (id : Int) (L : List PE) : List PE := if hereE v n L = false ∧ preU bits v n then putE v n.toNat id L else L
def remLE (v : Nat) (n : Int) (L : List PE) : List PE := if hereE v n L = true then remE v n.toNat L else L
theorem pth_inj {b : Nat} (hb : b ≤ 128) {v v' : Nat} {n n' : Nat} (h : preU b v n) (h' : preU b v' n') (e : pthU b v n = pthU b v' n') : v = v' ∧ n = n' := by
  have h4 : n = n' := by have := congrArg List.length e; rwa [pthU_len, pthU_len] at this
  refine ⟨?_, h4⟩
  rw [← pre_pth hb h, ← pre_pth hb h', e]
theorem RelE.put {b : Nat} {m : Pth → Option Int} {L : List PE} (h : RelE b m L) (hb : b ≤ 128) (v : Nat) (hv : v < 2 ^ 128) (n id : Int) : RelE b (putU m (keyU b v n) id) (putLE b v n id L) := by
  by_cases hc : hereE v n L = false ∧ preU b v n
  · have hB := h.putB hb v n
    rw [decide_eq_true hc] at hB
    obtain ⟨p, hp, hm⟩ := putB_true hB
    have e1 : putU m (keyU b v n) id = updU m p (some id) := by rw [hp]; exact if_neg (by rw [hm]; simp)
    have e2 : putLE b v n id L = putE v n.toNat id L := if_pos hc
    rw [e1, e2]
    obtain ⟨k, rfl, _⟩ := preU_len hc.2 hb
    rw [key_some hc.2] at hp
    injection hp with hp
    rw [Int.toNat_natCast] at hp ⊢
    refine ⟨putE_asc id h.asc hc.1, fun e he => ?_, fun e he => ?_, fun q hq => ?_⟩
    · rcases (putE_mem _ _ _ _ _).1 he with e3 | e3
      · subst e3; exact ⟨hv, by have := hc.2.2.1; show k ≤ b; omega⟩
      · exact h.ok e e3
    · rcases (putE_mem _ _ _ _ _).1 he with e3 | e3
      · subst e3
        refine ⟨hc.2, ?_⟩
        show updU m p (some id) (pthU b v k) = _
        rw [hp, updU_same]
      · obtain ⟨h1, h2⟩ := h.pre e e3
        refine ⟨h1, ?_⟩
        rw [updU_other _ _ fun e4 => by rw [e4, hm] at h2; cases h2]
        exact h2
    · by_cases e4 : q = p
      · exact ⟨⟨v, k, id⟩, (putE_mem _ _ _ _ _).2 (.inl rfl), by rw [e4]; exact hp⟩
      · rw [updU_other _ _ e4] at hq
        obtain ⟨e, he, h5⟩ := h.all q hq
        exact ⟨e, (putE_mem _ _ _ _ _).2 (.inr he), h5⟩
  · have hB := h.putB hb v n
    rw [decide_eq_false hc] at hB
    rw [putU_no hB, show putLE b v n id L = L from if_neg hc]
    exact h
theorem RelE.rem {b : Nat} {m : Pth → Option Int} {L : List PE} (h : RelE b m L) (hb : b ≤ 128) (v : Nat) (n : Int) : RelE b (remU m (keyU b v n)) (remLE v n L) := by
  cases hh : hereE v n L with
  | true =>
    have h1 := (h.here hb v n).1 hh
    obtain ⟨k, rfl, _⟩ := preU_len h1.1 hb
    rw [key_some h1.1, show remLE v k L = remE v k L by unfold remLE; rw [if_pos hh, Int.toNat_natCast]]
    rw [Int.toNat_natCast] at *
    show RelE b (updU m (pthU b v k) none) _
    refine ⟨remE_asc h.asc, fun e he => h.ok e ((remE_mem h.asc hh e).1 he).1, fun e he => ?_, fun q hq => ?_⟩
    · obtain ⟨h2, h3⟩ := (remE_mem h.asc hh e).1 he
      obtain ⟨h4, h5⟩ := h.pre e h2
      refine ⟨h4, ?_⟩
      rw [updU_other _ _ fun e6 => h3 (pth_inj hb h4 h1.1 e6)]
      exact h5
    · by_cases e4 : q = pthU b v k
      · rw [e4, updU_same] at hq; cases hq
      · rw [updU_other _ _ e4] at hq
        obtain ⟨e, he, h5⟩ := h.all q hq
        refine ⟨e, (remE_mem h.asc hh e).2 ⟨he, fun h6 => e4 ?_⟩, h5⟩
        rw [← h5, h6.1, h6.2]
  | false =>
    have hB := h.remB hb v n
    rw [hh] at hB
    rw [show remLE v n L = L by unfold remLE; rw [hh]; rfl]
    have e : remU m (keyU b v n) = m := by
      cases hk : keyU b v n with
      | none => rfl
      | some p =>
        rw [hk] at hB
        funext q
        show updU m p none q = m q
        by_cases e : q = p
        · rw [e, updU_same]
          have hB' : (m p).isSome = false := hB
          cases hm : m p with
          | none => rfl
          | some i => rw [hm] at hB'; cases hB'
        · exact updU_other _ _ e
    rw [e]; exact h
theorem RelE.nodup {b : Nat} {m : Pth → Option Int} {L : List PE} (h : RelE b m L) (hb : b ≤ 128) : (L.map fun e => pthU b e.v e.n).Nodup := by
  rw [List.nodup_iff_pairwise_ne, List.pairwise_map]
  refine List.Pairwise.imp_of_mem ?_ h.asc
  intro a c ha hc hlt e
  obtain ⟨h1, h2⟩ := pth_inj hb (h.pre a ha).1 (h.pre c hc).1 e
  unfold PE.lt at hlt
  omega
theorem RelE.key {b : Nat} {m : Pth → Option Int} {L : List PE} (h : RelE b m L) (hb : b ≤ 128) : KeyU m (L.map fun e => pthU b e.v e.n) := by
  refine ⟨h.nodup hb, fun q => ?_⟩
  rw [List.mem_map]
  exact ⟨fun ⟨e, h1, h2⟩ => by rw [← h2, (h.pre e h1).2]; rfl, fun hq => h.all q hq⟩
theorem RelE.len {b : Nat} {m : Pth → Option Int} {L : List PE} (h : RelE b m L) (hb : b ≤ 128) : LenIs m L.length := ⟨_, h.key hb, by rw [List.length_map]⟩
/-- the reference's longest -/
def covE (b u : Nat) (e : PE) : Bool := decide (u &&& lead b e.n = e.v)
def stepE (b u : Nat) (a : Nat × Int × Bool) (e : PE) : Nat × Int × Bool := if covE b u e = true ∧ (a.2.2 = false ∨ a.1 < e.n) ∧ (bitLen u : Int) ≤ b then (e.n, e.id, true) else a
def lngE (b u : Nat) (L : List PE) : Nat × Int × Bool := L.foldl (stepE b u) (0, 0, false)
theorem lgS (th : Pth → Bool) (id : Pth → Int) : ∀ (q p : Pth) (a : Nat × Int × Bool),
    (∃ k, k ≤ q.length ∧ th (p ++ q.take k) = true ∧ (∀ j, k < j → j ≤ q.length → th (p ++ q.take j) = false) ∧ lgU th id p q a = ((p ++ q.take k).length, id (p ++ q.take k), true)) ∨ ((∀ j, j ≤ q.length → th (p ++ q.take j) = false) ∧ lgU th id p q a = a)
  | [], p, a => by
    cases h : th p with
    | true => exact .inl ⟨0, Nat.le_refl _, by simpa using h, fun j h1 h2 => by simp at h2; omega, by simp [lgU, stpU, h]⟩
    | false => exact .inr ⟨fun j _ => by simpa using h, by simp [lgU, stpU, h]⟩
  | x :: q, p, a => by
    have ht : ∀ k, (p ++ [x]) ++ q.take k = p ++ (x :: q).take (k + 1) := fun k => by simp
    rcases lgS th id q (p ++ [x]) (stpU th id p a) with ⟨k, h1, h2, h3, h4⟩ | ⟨h1, h2⟩
    · refine .inl ⟨k + 1, by simpa using h1, by rw [← ht]; exact h2, fun j hj hl => ?_, by rw [lgU, h4, ht]⟩
      obtain ⟨d, rfl⟩ : ∃ d, j = d + 1 := ⟨j - 1, by omega⟩
      rw [← ht]
      exact h3 d (by omega) (by simpa using hl)
    · have hrest : ∀ j, 0 < j → j ≤ (x :: q).length → th (p ++ (x :: q).take j) = false := fun j hj hl => by
        obtain ⟨d, rfl⟩ : ∃ d, j = d + 1 := ⟨j - 1, by omega⟩
        rw [← ht]
        exact h1 d (by simpa using hl)
      cases h : th p with
      | true => exact .inl ⟨0, Nat.zero_le _, by simpa using h, hrest, by rw [lgU, h2]; simp [stpU, h]⟩
      | false =>
        refine .inr ⟨fun j hl => ?_, by rw [lgU, h2]; simp [stpU, h]⟩
        rcases Nat.eq_zero_or_pos j with e | e
        · subst e; simpa using h
        · exact hrest j e hl
def InvE (b u : Nat) (D : List PE) (a : Nat × Int × Bool) : Prop := ((∀ e ∈ D, covE b u e = false) ∧ a = (0, 0, false)) ∨ ∃ e ∈ D, covE b u e = true ∧ a = (e.n, e.id, true) ∧ ∀ e' ∈ D, covE b u e' = true → e'.n ≤ e.n
theorem inv_fold (b u : Nat) (hu : (bitLen u : Int) ≤ b) : ∀ (R D : List PE) (a : Nat × Int × Bool), InvE b u D a → InvE b u (D ++ R) (R.foldl (stepE b u) a)
  | [], D, a, h => by simpa using h
  | x :: R, D, a, h => by
    have e : D ++ x :: R = (D ++ [x]) ++ R := by simp
    rw [e, List.foldl_cons]
    refine inv_fold b u hu R (D ++ [x]) _ ?_
    cases hc : covE b u x with
    | false =>
      have e1 : stepE b u a x = a := if_neg (by rw [hc]; simp)
      rw [e1]
      rcases h with ⟨h1, h2⟩ | ⟨e, h1, h2, h3, h4⟩
      · refine .inl ⟨fun y hy => ?_, h2⟩
        rcases List.mem_append.1 hy with h5 | h5
        · exact h1 y h5
        · rw [List.mem_singleton.1 h5]; exact hc
      · refine .inr ⟨e, List.mem_append.2 (.inl h1), h2, h3, fun y hy hy2 => ?_⟩
        rcases List.mem_append.1 hy with h5 | h5
        · exact h4 y h5 hy2
        · rw [List.mem_singleton.1 h5, hc] at hy2; cases hy2
    | true =>
      rcases h with ⟨h1, h2⟩ | ⟨e, h1, h2, h3, h4⟩
      · have e1 : stepE b u a x = (x.n, x.id, true) := if_pos ⟨hc, .inl (by rw [h2]), hu⟩
        rw [e1]
        refine .inr ⟨x, by simp, hc, rfl, fun y hy hy2 => ?_⟩
        rcases List.mem_append.1 hy with h5 | h5
        · rw [h1 y h5] at hy2; cases hy2
        · rw [List.mem_singleton.1 h5]; exact Nat.le_refl _
      · by_cases hlt : e.n < x.n
        · have e1 : stepE b u a x = (x.n, x.id, true) := if_pos ⟨hc, .inr (by rw [h3]; exact hlt), hu⟩
          rw [e1]
          refine .inr ⟨x, by simp, hc, rfl, fun y hy hy2 => ?_⟩
          rcases List.mem_append.1 hy with h5 | h5
          · have := h4 y h5 hy2; omega
          · rw [List.mem_singleton.1 h5]; exact Nat.le_refl _
        · have e1 : stepE b u a x = a := if_neg (by rw [h3]; rintro ⟨_, h6 | h6, _⟩; cases h6; exact hlt h6)
          rw [e1]
          refine .inr ⟨e, List.mem_append.2 (.inl h1), h2, h3, fun y hy hy2 => ?_⟩
          rcases List.mem_append.1 hy with h5 | h5
          · exact h4 y h5 hy2
          · rw [List.mem_singleton.1 h5]; omega
theorem lngE_no (b u : Nat) (hu : ¬ (bitLen u : Int) ≤ b) : ∀ (L : List PE) (a : Nat × Int × Bool), L.foldl (stepE b u) a = a
  | [], _ => rfl
  | x :: L, a => by
    rw [List.foldl_cons, show stepE b u a x = a from if_neg fun h => hu h.2.2]
    exact lngE_no b u hu L a
theorem RelE.lng {b : Nat} {m : Pth → Option Int} {L : List PE} (h : RelE b m L) (hb : b ≤ 128) (u : Nat) : lngM m b u = lngE b u L := by
  unfold lngM lngU
  by_cases hu : (bitLen u : Int) ≤ b
  · rw [if_pos hu]
    have hcov : ∀ e ∈ L, covE b u e = true → pthU b u e.n = pthU b e.v e.n := fun e he hc => by
      have h1 : u &&& lead b e.n = e.v := of_decide_eq_true hc
      have h2 := pth_pv b hb (pthU b u e.n) (by rw [pthU_len]; exact (h.ok e he).2)
      rw [pthU_len, pv_pth b hb u e.n (h.ok e he).2, h1] at h2
      exact h2.symm
    have hcov2 : ∀ e ∈ L, pthU b e.v e.n = pthU b u e.n → covE b u e = true := fun e he hc => by
      refine decide_eq_true ?_
      rw [← pv_pth b hb u e.n (h.ok e he).2, ← hc]
      exact h.val hb he
    have htake : ∀ k, k ≤ b → [] ++ (pthU b u b).take k = pthU b u k := fun k hk => by
      rw [List.nil_append]
      exact (List.prefix_iff_eq_take.1 (pthU_pre b u hk)).symm ▸ by rw [pthU_len]
    have hI := inv_fold b u hu L [] (0, 0, false) (.inl ⟨fun e he => (by cases he), rfl⟩)
    rw [List.nil_append] at hI
    rcases lgS (fun p => (m p).isSome) (fun p => (m p).getD 0) (pthU b u b) [] (0, 0, false) with ⟨k, h1, h2, h3, h4⟩ | ⟨h1, h2⟩
    · rw [pthU_len] at h1 h3
      rw [h4, htake k h1, pthU_len]
      rw [htake k h1] at h2
      obtain ⟨e, he, h5⟩ := h.all _ h2
      have hk : e.n = k := by have := congrArg List.length h5; rwa [pthU_len, pthU_len] at this
      have hce := hcov2 e he (by rw [h5, hk])
      rcases hI with ⟨h6, _⟩ | ⟨e2, h6, h7, h8, h9⟩
      · rw [h6 e he] at hce; cases hce
      · have h10 := h9 e he hce
        have h11 := hcov e2 h6 h7
        have h12 : (m (pthU b u e2.n)).isSome = true := by rw [h11, (h.pre e2 h6).2]; rfl
        have h13 : ¬ k < e2.n := fun hlt => by
          have h14 := h3 e2.n hlt (h.ok e2 h6).2
          rw [htake _ (h.ok e2 h6).2] at h14
          have h15 : (m (pthU b u e2.n)).isSome = false := h14
          rw [h12] at h15; cases h15
        have h16 : e2.n = k := by omega
        unfold lngE
        rw [h8, h16]
        have h17 : m (pthU b u k) = some e2.id := by rw [← h16, h11]; exact (h.pre e2 h6).2
        rw [h17]; rfl
    · rw [h2]
      rcases hI with ⟨_, h7⟩ | ⟨e2, h6, h7, h8, h9⟩
      · exact h7.symm
      · have h11 := hcov e2 h6 h7
        have h12 : (m (pthU b u e2.n)).isSome = true := by rw [h11, (h.pre e2 h6).2]; rfl
        have h14 := h1 e2.n (by rw [pthU_len]; exact (h.ok e2 h6).2)
        rw [htake _ (h.ok e2 h6).2] at h14
        have h15 : (m (pthU b u e2.n)).isSome = false := h14
        rw [h12] at h15; cases h15
  · rw [if_neg hu]
    exact (lngE_no b u hu L _).symm
end Go.Proofs.Ytmlocfojmncghaa
