/- The law's comparison of tokens; New at any limit; Mod at any number. -/
import Derived.Test.YtodmkmoglchoeaaDoorLPcs
import Derived.Test.YtodmkmoglchoeaaDoorJLRS
import Derived.BigQuiet
namespace Go.Proofs.YtodmkmoglchoeaaDoor
open Go.RowKit

theorem tcells_at (l : List Tok) : ∀ (k j : Nat) (hk : k < l.length), j < 3 → (tcells l)[k * 3 + j]? = (tcell (l[k]'hk))[j]? := by
  induction l with
  | nil => intro k j hk; simp at hk
  | cons t r ih =>
    intro k j hk hj
    have e : tcells (t :: r) = tcell t ++ tcells r := by simp [tcells]
    rw [e]
    cases k with
    | zero => rw [Nat.zero_mul, Nat.zero_add, List.getElem?_append_left (by show j < 3; exact hj)]; rfl
    | succ k =>
      rw [List.getElem?_append_right (by show 3 ≤ _; omega)]
      have := ih k j (by simp at hk; omega) hj
      rw [show (k + 1) * 3 + j - (tcell t).length = k * 3 + j by show _ - 3 = _; omega, this]
      rfl
theorem tcells_len (l : List Tok) : (tcells l).length = l.length * 3 := by
  induction l with
  | nil => rfl
  | cons t r ih => rw [show tcells (t :: r) = tcell t ++ tcells r by simp [tcells], List.length_append, ih]; show 3 + _ = _; simp; omega
/-- a row of tokens, to be read -/
structure TokR (w : World) (A : Option Addr) (l : List Tok) : Prop where
  r : l = [] ∨ ∃ g, A = some ⟨g, 0, none⟩ ∧ g < w.heap.size ∧ ∀ k (hk : k < l.length), w.cell? ⟨g, k * 3, none⟩ = some (.int .i64 (l[k]'hk).kind) ∧ w.cell? ⟨g, k * 3 + 1, none⟩ = some (.string (l[k]'hk).text) ∧ w.cell? ⟨g, k * 3 + 2, none⟩ = some (.int .i64 (l[k]'hk).at_)
theorem TokR.below {w w' : World} {A : Option Addr} {l : List Tok} (h : TokR w A l) (hb : Below w.heap.size w w') : TokR w' A l := by
  rcases h.r with h | ⟨g, h1, h2, h3⟩
  · exact ⟨.inl h⟩
  · exact ⟨.inr ⟨g, h1, Nat.lt_of_lt_of_le h2 hb.size, fun k hk => by rw [hb.cell (p := ⟨g, _, none⟩) h2, hb.cell (p := ⟨g, _, none⟩) h2, hb.cell (p := ⟨g, _, none⟩) h2]; exact h3 k hk⟩⟩
theorem tokR_own {w : World} {B e : Nat} {A : Option Addr} {cap n : Nat} {l : List Tok} (h : w.ownsRow B e 3 (.slice A n cap) n (tcells l)) (hn : l.length = n) : TokR w A l := by
  by_cases h0 : l = []
  · exact ⟨.inl h0⟩
  · have hp : 0 < n := by rw [← hn]; exact List.length_pos_iff.2 h0
    obtain ⟨g, c, hv, hge, hl⟩ := h.form hp
    injection hv with e1 e2 e3
    subst e1
    refine ⟨.inr ⟨g, rfl, hl, fun k hk => ?_⟩⟩
    have hz := tcells_len l
    refine ⟨?_, ?_, ?_⟩
    · have h1 := tcells_at l k 0 hk (by decide)
      rw [Nat.add_zero] at h1
      rw [h.cellAt (k * 3) (by omega), h1]; rfl
    · rw [h.cellAt (k * 3 + 1) (by omega), tcells_at l k 1 hk (by decide)]; rfl
    · rw [h.cellAt (k * 3 + 2) (by omega), tcells_at l k 2 hk (by decide)]; rfl
set_option maxRecDepth 100000 in
theorem conew_lim (L : Nat) (hL : L ≤ 120) (A : Option Addr) (D n cap : Nat) (l : List Nat) (w : World) (hr : ReadsL w D A l) (hD : l ≠ [] → D < w.heap.size) (hl : l.length = n) (hn : n ≤ cap) (_hcap : cap ≤ maxLen) (hs : Small l) :
    Calls Tryd.prog 12 #[.slice A n cap, .int .i64 (L : Int)] w fun e w' => e = .returned (.pointer (some ⟨w.heap.size, 0, none⟩)) ∧ Below w.heap.size w w' ∧ w.heap.size < w'.heap.size ∧ CoAt w.heap.size D (l.take L) 0 w' := by

  obtain ⟨m, hm⟩ : ∃ m : Nat, m = min n L := ⟨_, rfl⟩
  have e1 : min (n : Int) (L : Int) = m := by omega
  have e2 : (m : Int) ≤ (cap : Int) := by omega
  have e3 : 0 ≤ (m : Int) := by omega
  have hlm : (l.take L).length = m := by rw [List.length_take]; omega
  have hmc : m ≤ cap := by omega
  have hm120 : m ≤ 120 := by omega
  have HR := Lib.hid (hr.take L)
  have HM := Lib.hid hlm
  clear hr hl hm hlm
  go_enter Tryd.func12, Tryd.ntmps12
  go_wp2
  go_ret
  have hg := grown_alloc w (.cells #[.slice A m cap, .int .i64 0] 77) none
  refine ⟨rfl, (Below.refl _ _).alloc (Nat.le_refl _) _, by simp, ⟨⟨A, cap, ?_, by rw [HM.out]; exact hmc, HR.out.kept' hg (by simp)⟩, by rw [World.cell?_alloc_new]; rfl, by rw [World.frozen?_alloc_new], by simp, fun e => ?_, fun e => ?_, Nat.zero_le _, by rw [HM.out]; exact hm120, hs.take _⟩⟩
  · rw [World.cell?_alloc_new, HM.out]; rfl
  · have := hD (fun e2 => e (by rw [e2]; exact List.take_nil)); simp; omega
  · have := hD (fun e2 => e (by rw [e2]; exact List.take_nil)); omega
end Go.Proofs.YtodmkmoglchoeaaDoor
