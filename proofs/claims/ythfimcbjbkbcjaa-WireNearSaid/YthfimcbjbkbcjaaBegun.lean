/- The sanity check 'begun' of the laws: it returns true. -/
import Derived.Test.YthfimcbjbkbcjaaBytes
namespace Go.Proofs.Ythfimcbjbkbcjaa
open Go.RowKit

def byteNs (a : Nat) : List Int := (List.range (nb a)).map fun i => byteOf a (nb a - 1 - i)
theorem byteCells_ns (a : Nat) : byteCells a = (byteNs a).map (Value.int .u8) := by
  simp [byteCells, byteNs, rowL, Function.comp_def]
/-- The string of these bytes. -/
def strN (ns : List Int) : ByteArray := ns.foldl (fun r n => r.push (UInt8.ofNat n.toNat)) ByteArray.empty

theorem conv_row {w : World} {base n : Nat} {v : Value} (ns : List Int) (h : w.ownsRow base 5 1 v n (ns.map (Value.int .u8))) (hn : 1 ≤ n) :
    (convert 23 9 v).run Try.prog w = .ok (.string (strN ns)) w := by
  rcases h with ⟨hl, ⟨rfl, h0⟩ | ⟨g, cap, cur, rfl, hb, hh, hc, hm, hs, ht⟩⟩
  · omega
  · rw [run_convert_bytes_string w 23 9 5 _ _ _ Try.underlying23 Try.underlying5 Try.underlying9]
    refine run_bytesToString w ⟨g, 0, none⟩ n cap ns ?_
    have e := run_loadCells_list (P := Try.prog) w ⟨g, 0, none⟩ (ns.map (Value.int .u8)) (fun j u hu => by
      rw [Addr.add_mid, cell_of_row w g (0 + j) cur 5 (0, 0) hh, ← ht] at *
      simp only [List.getElem?_take] at hu
      split at hu
      · simpa using hu
      · cases hu)
    simpa [hl] using e

theorem conv_bytes {w : World} {base : Nat} {v : Value} {a : Nat} (h : w.ownsRow base 5 1 v (byteCells a).length (byteCells a)) :
    (convert 23 9 v).run Try.prog w = .ok (.string (strN (byteNs a))) w := by
  rw [byteCells_len] at h
  rw [byteCells_ns] at h
  exact conv_row (byteNs a) h (nb_pos a)
theorem str_256 : strN (byteNs 256) = ⟨#[1, 0]⟩ := by decide +kernel
theorem str_0 : strN (byteNs 0) = ⟨#[0]⟩ := by decide +kernel
theorem bytes_zero (w : World) : Calls Try.prog 55 #[.agg #[.int .u64 0, .int .u64 0]] w (RetRow 5 (byteCells 0) w) := by
  have h := bytes_any 0 (by decide) w
  rw [show hi 0 = 0 from rfl, show lo 0 = 0 from rfl] at h
  exact h

end Go.Proofs.Ythfimcbjbkbcjaa
