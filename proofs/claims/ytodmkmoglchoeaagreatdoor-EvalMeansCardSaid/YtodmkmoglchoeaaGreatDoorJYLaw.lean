/- Contracts, joined: YLaw1, YBeg. -/
import Derived.Test.YtodmkmoglchoeaaGreatDoorJYPar
import Derived.Test.YtodmkmoglchoeaaGreatDoorJLW
import Derived.Laws.StructEq
namespace Go.Proofs.YtodmkmoglchoeaaGreatDoor
/- Layer 7's laws: same, parsed. -/
section
open Go.RowKit

theorem nod_cells {w : World} {A : Option Addr} {o : List Nd} (h : NodR w A o) {k : Nat} (hk : k < o.length) : ∃ g, A = some ⟨g, 0, none⟩ ∧ g < w.heap.size ∧ w.cell? ⟨g, k * 7, none⟩ = some (.int .i64 ((o[k]'hk).op : Nat)) ∧ w.cell? ⟨g, k * 7 + 1, none⟩ = some (.int .i64 ((o[k]'hk).a : Nat)) ∧ w.cell? ⟨g, k * 7 + 2, none⟩ = some (.int .i64 ((o[k]'hk).b : Nat)) ∧ w.cell? ⟨g, k * 7 + 3, none⟩ = some (.string (o[k]'hk).name) ∧ w.cell? ⟨g, k * 7 + 4, none⟩ = some (.string (o[k]'hk).attr) ∧ w.cell? ⟨g, k * 7 + 5, none⟩ = some (.int .u64 (hi (o[k]'hk).val)) ∧ w.cell? ⟨g, k * 7 + 6, none⟩ = some (.int .u64 (lo (o[k]'hk).val)) := by
  obtain ⟨g, h1, h2, q⟩ := h.r.resolve_left (fun e => by rw [e] at hk; simp at hk)
  exact ⟨g, h1, h2, q k hk 0 (by decide), q k hk 1 (by decide), q k hk 2 (by decide), q k hk 3 (by decide), q k hk 4 (by decide), q k hk 5 (by decide), q k hk 6 (by decide)⟩
/-- an accepted text's tokens -/
theorem scan_tokOk (s : ByteArray) (h : (scan s).2.2 = 0) : TokOk (scan s).1 := by
  refine ⟨fun t ht => ?_, fun t ht hk => ?_, scan_len s⟩
  · have h1 := ((scan_plcd s h).fit t ht).1
    have h2 : s.size ≤ 400 := by
      rcases Nat.lt_or_ge 400 s.size with h4 | h4
      · unfold scan at h; rw [if_pos h4] at h; cases h
      · exact h4
    omega
  · rcases (scan_good s t ht).is with ⟨h1, h2, _⟩ | ⟨h1, _⟩
    · rw [hk] at h1
      unfold kindN at h1
      split at h1
      · cases h1
      · split at h1
        · rename_i h3; exact h3
        · cases h1
    · rw [hk] at h1; cases h1
theorem parse_len (l : List Tok) : (parse l).1.length ≤ l.length := by
  unfold parse
  have := (pRun_len l).1
  split
  · exact Nat.zero_le _
  · split
    · exact Nat.zero_le _
    · exact this
end
/- Layer 7's begun: the chapter's example. -/
section
open Go.RowKit

end
end Go.Proofs.YtodmkmoglchoeaaGreatDoor
