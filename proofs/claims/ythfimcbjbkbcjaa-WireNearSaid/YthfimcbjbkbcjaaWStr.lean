/- Strings turned into bytes; AppendText. -/
import Derived.Test.YthfimcbjbkbcjaaWWrite
import Derived.Lib.ConvBytes
namespace Go.Proofs.Ythfimcbjbkbcjaa
open Go.RowKit Go.Lib

theorem strN_data (ns : List Int) : ∀ (s : ByteArray), (ns.foldl (fun r n => r.push (UInt8.ofNat n.toNat)) s).data.toList = s.data.toList ++ ns.map fun n => UInt8.ofNat n.toNat := by
  induction ns with
  | nil => simp
  | cons x t ih =>
    intro s
    rw [List.foldl_cons, ih]
    simp
theorem strL_data (l : List Nat) : (strL l).data.toList = l.map fun x => UInt8.ofNat x := by
  rw [strL, strN, strN_data]
  simp only [List.map_map]
  rfl
theorem strL_size (l : List Nat) : (strL l).size = l.length := by
  rw [ByteArray.size, ← Array.length_toList, strL_data, List.length_map]
/-- '[]byte(s)' of the string of the bytes l: a new block that reads so. -/
theorem conv_str (w : World) (l : List Nat) (hs : Small l) : ∃ cap W, (convert 9 23 (.string (strL l))).run Try.prog w = .ok (.slice (some ⟨w.heap.size, 0, none⟩) l.length cap) W ∧
    ReadsL W w.heap.size (some ⟨w.heap.size, 0, none⟩) l ∧ Below w.heap.size w W ∧ w.heap.size < W.heap.size ∧ l.length ≤ cap := by
  refine ⟨grownCap w (strL l).size 0 5, bytesWorld w 5 (strL l), ?_, .inr ⟨0, rfl, ?_, fun i hi => ?_⟩, ?_, ?_, ?_⟩
  · have h := Go.Lib.run_convert_string_bytes w 9 23 5 (strL l) Try.underlying9 Try.underlying23 Try.underlying5
    rwa [strL_size] at h ⊢
  · rw [bytesWorld_size]; omega
  · rw [Nat.zero_add, bytesWorld_cell w _ _ i (by rw [strL_size]; exact hi), strL_data]
    have : (l.map fun x => UInt8.ofNat x).getD i 0 = UInt8.ofNat (l.getD i 0) := by
      rw [List.getD_eq_getElem?_getD, List.getElem?_map, List.getD_eq_getElem?_getD, List.getElem?_eq_getElem hi]
      rfl
    rw [this]
    have h := hs.getD i
    have e : (UInt8.ofNat (l.getD i 0)).toNat = l.getD i 0 := (UInt8.toNat_ofNat' ..).trans (Nat.mod_eq_of_lt h)
    rw [e]
  · exact ⟨rfl, rfl, rfl, by rw [bytesWorld_size]; omega, fun k hk => bytesWorld_at_old w _ _ k hk⟩
  · rw [bytesWorld_size]; omega
  · have := grownCap_ge w (strL l).size 0 5
    rwa [strL_size] at this ⊢

section
variable (A : Option Addr) (D n cap : Nat) (l : List Nat) (w : World)
theorem atext_any (x : List Nat) (hx : Small x) (hr : ReadsL w D A l) (hl : l.length = n) (hn : n ≤ 1000000) (hn2 : x.length ≤ 65535) :
    Calls Try.prog 34 #[.slice A n cap, .string (strL x)] w (RetS (l ++ encU x.length 2 ++ x) w) := by
  obtain ⟨cap2, W, hcv, hr2, hb, hW, hc2⟩ := conv_str w x hx
  have hB := Lib.hid (abytes_any A D n cap l W _ _ x.length cap2 x (hr.kept (grown_of_below hb none) (by simp)) hl hn hr2 rfl hn2 hc2)
  clear hr hl hr2
  go_enter Try.func34, Try.ntmps34
  go_wp2_with (go_at_call 29; refine hB.out.mono ?_; rintro e w2 ⟨A2, n2, cap2, g2, rfl, hn2, h2, hg2, hq2, hb3⟩)
  go_ret
  exact ⟨_, _, _, g2, rfl, hn2, h2, Nat.le_trans hb.size hg2, hq2, hb.trans (hb3.mono hb.size)⟩
end
end Go.Proofs.Ythfimcbjbkbcjaa
