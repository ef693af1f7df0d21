/- Contracts, joined: SRef, SRefN, SRefU. -/
import Derived.Test.YtljmiickhkkceaaJSWr
import Derived.Test.YtljmiickhkkceaaJWrite
import Derived.Deep.RegionHeld3
import Derived.StillTailTactics
import Derived.Deep.RegionWith
namespace Go.Proofs.Ytljmiickhkkceaa
/- The methods of the reference's writer. -/
section
open Go.RowKit

section
variable {X B : Nat} {w : World} {s : WS} {v : Value}
/-- Only the writer's block, its row and what is new have changed. -/
structure Gr (X : Nat) (v : Value) (w : World) (v' : Value) (w' : World) : Prop where
  os : w'.os = w.os
  tape : w'.tape = w.tape
  output : w'.output = w.output
  size : w.heap.size ≤ w'.heap.size
  block : ∀ k, k < w.heap.size → k ≠ X → some k ≠ v.ownBlock → w'.heap[k]? = w.heap[k]?
  row : At w v v'
theorem Gr.refl (X : Nat) (v : Value) (w : World) : Gr X v w v w := ⟨rfl, rfl, rfl, Nat.le_refl _, fun _ _ _ _ => rfl, .inl rfl⟩
theorem Gr.trans {X : Nat} {v v1 v2 : Value} {w w1 w2 : World} (h : Gr X v w v1 w1) (k : Gr X v1 w1 v2 w2) : Gr X v w v2 w2 := by
  refine ⟨k.os.trans h.os, k.tape.trans h.tape, k.output.trans h.output, Nat.le_trans h.size k.size, fun i hi hx hv => ?_, ?_⟩
  · have h1 := h.size
    refine (k.block i (by omega) hx ?_).trans (h.block i hi hx hv)
    rcases h.row with e | ⟨g, e, hg⟩
    · rw [e]; exact hv
    · rw [e]; intro e2; injection e2 with e2; omega
  · rcases k.row with e | ⟨g, e, hg⟩
    · rcases h.row with e1 | ⟨g1, e1, hg1⟩
      · exact .inl (e.trans e1)
      · exact .inr ⟨g1, e.trans e1, hg1⟩
    · exact .inr ⟨g, e, Nat.le_trans h.size hg⟩
theorem Gr.of_below {X : Nat} {v : Value} {w w' : World} (h : Below w.heap.size w w') : Gr X v w v w' := ⟨h.os, h.tape, h.output, h.size, fun k hk _ _ => h.block k hk, .inl rfl⟩
theorem Gr.drew {X : Nat} {v v' : Value} {w w' : World} (h : Gr X v w v' w') : Gr X v w v' w'.drew := ⟨h.os, h.tape, h.output, h.size, h.block, h.row⟩
theorem Gr.set {X : Nat} {v v' : Value} {w w' : World} (h : Gr X v w v' w') (i : Nat) (u : Value) : Gr X v w v' (w'.setCell ⟨X, i, none⟩ u) :=
  h.trans ⟨rfl, rfl, rfl, by simp [World.setCell], fun k _ hx _ => Below.heap_setCell _ _ _ _ (by simpa using hx), .inl rfl⟩
/-- What lies below block C is kept: the writer and its row lie above. -/
theorem Gr.below {X B C : Nat} {s : WS} {v v' : Value} {w w' : World} (h : Gr X v w v' w') (hW : WrAt X B w s v) (hC : C ≤ X) : Below C w w' := by
  have h1 := hW.lt
  have h2 := hW.size
  exact ⟨h.os, h.tape, h.output, h.size, fun k hk => h.block k (by omega) (by omega) (fun e => by have := own_past hW.own k e.symm; omega)⟩
/-- A block of the function's own that the writer does not touch. -/
structure Loc (X L : Nat) (v : Value) (w : World) : Prop where
  lt : L < w.heap.size
  ne : L ≠ X
  row : some L ≠ v.ownBlock
theorem Gr.loc {X L : Nat} {v v' : Value} {w w' : World} (h : Gr X v w v' w') (k : Loc X L v w) : Loc X L v' w' ∧ ∀ i, w'.cell? ⟨L, i, none⟩ = w.cell? ⟨L, i, none⟩ := by
  refine ⟨⟨Nat.lt_of_lt_of_le k.lt h.size, k.ne, ?_⟩, fun i => World.cell?_of_block (w := w) (h.block L k.lt k.ne k.row)⟩
  rcases h.row with e | ⟨g, e, hg⟩
  · rw [e]; exact k.row
  · rw [e]; intro e2; injection e2 with e2; have := k.lt; omega
theorem Loc.new {X B : Nat} {s : WS} {v : Value} {w : World} (hW : WrAt X B w s v) (o : Obj) : Loc X w.heap.size v (w.alloc o) :=
  ⟨by simp, by have := hW.lt; have := hW.size; omega, fun e => by have := (World.ownsRow.lt hW.own _ e.symm).2; omega⟩
/-- The call returns nothing, and the writer holds s. -/
def WroteR (X B : Nat) (v : Value) (s : WS) (w : World) (e : Ending) (w' : World) : Prop := e = .returned (.tuple #[]) ∧ ∃ v', WrAt X B w' s v' ∧ Gr X v w v' w'
theorem WrAt.app2 {w1 : World} {v1 : Value} {x : List Nat} (hW : WrAt X B w s v) (hO : Own w1 B v1 (s.l ++ x)) (hg : w.grownBy w1 v.ownBlock) (ha : At w v v1) :
    WrAt X B (w1.setCell ⟨X, 0, none⟩ v1) (wAdd x s) v1 ∧ Gr X v w v1 (w1.setCell ⟨X, 0, none⟩ v1) ∧ w1.cell? ⟨X, 0, none⟩ = some v ∧ w1.frozen? ⟨X, 0, none⟩ = false := by
  obtain ⟨k1, _, k3, k4⟩ := hW.app hO hg
  exact ⟨k1, Gr.set ⟨hg.os, hg.tape, hg.output, hg.size, fun k hk _ hr => hg.block k hk hr, ha⟩ 0 v1, k3, k4⟩
theorem WrAt.flag2 (hW : WrAt X B w s v) (i : Nat) (s' : WS) (hl : s'.l = s.l)
    (h : i = 1 ∧ s' = { s with long := true } ∨ i = 2 ∧ s' = { s with strange := true } ∨ i = 3 ∧ s' = { s with outside := true }) :
    WrAt X B (w.setCell ⟨X, i, none⟩ (.bool true)) s' v ∧ Gr X v w v (w.setCell ⟨X, i, none⟩ (.bool true)) := ⟨(hW.flag i s' hl h).1, (Gr.refl X v w).set i _⟩
set_option maxRecDepth 100000 in
theorem rwnum_in (k : Nat) (hk : k = 1 ∨ k = 2) (n : Int) (hn : I64 n) (ho : outR k n = false) (hW : WrAt X B w s v) (hl : s.l.length ≤ 3900000) :
    Calls Try.prog 25 #[.pointer (some ⟨X, 0, none⟩), .int .i64 n, .int .i64 k] w (WroteR X B v (wNum k n s) w) := by
  have h1 : 0 ≤ n ∧ n < 2 ^ (8 * k) := by simp [outR] at ho; omega
  obtain ⟨h0, h2⟩ := h1
  have c0 := hW.c0
  have HW := Lib.hid hW
  have HN := Lib.hid hn
  have HO := Lib.hid ho
  clear hW hn ho
  rcases hk with rfl | rfl
  · have hlt : n < 256 := h2
    clear h2
    go_enter Try.func25, Try.ntmps25
    go_wp2_with (go_at_call 62; refine (rnum_any v n 1 s.l B w (by decide) (by decide) HN.out.1 HN.out.2 (by omega) HW.out.size HW.out.own).mono ?_; rintro e w1 ⟨v1, rfl, hO1, hg1, ha1⟩; obtain ⟨A1, n1, cap1, rfl⟩ := own_shape hO1; obtain ⟨k1, k2, k3, k4⟩ := HW.out.app2 hO1 hg1 ha1; have K1 := Lib.hid k1; have K2 := Lib.hid k2; clear k1 k2)
    go_end0
    exact ⟨rfl, _, by rw [← num_in HO.out]; exact K1.out, K2.out⟩
  · have hlt : n < 65536 := h2
    clear h2
    go_enter Try.func25, Try.ntmps25
    go_wp2_with (go_at_call 62; refine (rnum_any v n 2 s.l B w (by decide) (by decide) HN.out.1 HN.out.2 (by omega) HW.out.size HW.out.own).mono ?_; rintro e w1 ⟨v1, rfl, hO1, hg1, ha1⟩; obtain ⟨A1, n1, cap1, rfl⟩ := own_shape hO1; obtain ⟨k1, k2, k3, k4⟩ := HW.out.app2 hO1 hg1 ha1; have K1 := Lib.hid k1; have K2 := Lib.hid k2; clear k1 k2)
    go_end0
    exact ⟨rfl, _, by rw [← num_in HO.out]; exact K1.out, K2.out⟩
set_option maxRecDepth 100000 in
set_option maxHeartbeats 1000000 in
theorem rwnum_out (k : Nat) (hk : k = 1 ∨ k = 2) (n : Int) (hn : I64 n) (ho : outR k n = true) (hW : WrAt X B w s v) (hl : s.l.length ≤ 3900000) :
    Calls Try.prog 25 #[.pointer (some ⟨X, 0, none⟩), .int .i64 n, .int .i64 k] w (WroteR X B v (wNum k n s) w) := by
  have h1 : n < 0 ∨ 2 ^ (8 * k) ≤ n := by simpa [outR] using ho
  obtain ⟨hW1, hF1⟩ := hW.flag2 3 { s with outside := true } rfl (.inr (.inr ⟨rfl, rfl⟩))
  have c0 := hW.c0
  have d0 := hW1.c0
  have c3 := hW.c3
  have f3 := hW.f3
  have HW1 := Lib.hid hW1
  have HF1 := Lib.hid hF1
  have HN := Lib.hid hn
  have HO := Lib.hid ho
  clear hW hn ho hW1 hF1
  rcases hk with rfl | rfl
  · have h2 : n < 0 ∨ 256 ≤ n := h1
    have hc : n < 0 ∨ 0 ≤ n ∧ 256 ≤ n := by omega
    clear h1 h2
    rcases hc with hlt | ⟨h0, hlt⟩
    · go_enter Try.func25, Try.ntmps25
      go_wp2_with (go_at_call 62; refine (rnum_any v n 1 s.l B _ (by decide) (by decide) HN.out.1 HN.out.2 (by omega) HW1.out.size HW1.out.own).mono ?_; rintro e w1 ⟨v1, rfl, hO1, hg1, ha1⟩; obtain ⟨A1, n1, cap1, rfl⟩ := own_shape hO1; obtain ⟨k1, k2, k3, k4⟩ := HW1.out.app2 hO1 hg1 ha1; have K1 := Lib.hid k1; have K2 := Lib.hid k2; clear k1 k2)
      go_end0
      exact ⟨rfl, _, by rw [← num_out HO.out]; exact K1.out, HF1.out.trans K2.out⟩
    · go_enter Try.func25, Try.ntmps25
      go_wp2_with (go_at_call 62; refine (rnum_any v n 1 s.l B _ (by decide) (by decide) HN.out.1 HN.out.2 (by omega) HW1.out.size HW1.out.own).mono ?_; rintro e w1 ⟨v1, rfl, hO1, hg1, ha1⟩; obtain ⟨A1, n1, cap1, rfl⟩ := own_shape hO1; obtain ⟨k1, k2, k3, k4⟩ := HW1.out.app2 hO1 hg1 ha1; have K1 := Lib.hid k1; have K2 := Lib.hid k2; clear k1 k2)
      go_end0
      exact ⟨rfl, _, by rw [← num_out HO.out]; exact K1.out, HF1.out.trans K2.out⟩
  · have h2 : n < 0 ∨ 65536 ≤ n := h1
    have hc : n < 0 ∨ 0 ≤ n ∧ 65536 ≤ n := by omega
    clear h1 h2
    rcases hc with hlt | ⟨h0, hlt⟩
    · go_enter Try.func25, Try.ntmps25
      go_wp2_with (go_at_call 62; refine (rnum_any v n 2 s.l B _ (by decide) (by decide) HN.out.1 HN.out.2 (by omega) HW1.out.size HW1.out.own).mono ?_; rintro e w1 ⟨v1, rfl, hO1, hg1, ha1⟩; obtain ⟨A1, n1, cap1, rfl⟩ := own_shape hO1; obtain ⟨k1, k2, k3, k4⟩ := HW1.out.app2 hO1 hg1 ha1; have K1 := Lib.hid k1; have K2 := Lib.hid k2; clear k1 k2)
      go_end0
      exact ⟨rfl, _, by rw [← num_out HO.out]; exact K1.out, HF1.out.trans K2.out⟩
    · go_enter Try.func25, Try.ntmps25
      go_wp2_with (go_at_call 62; refine (rnum_any v n 2 s.l B _ (by decide) (by decide) HN.out.1 HN.out.2 (by omega) HW1.out.size HW1.out.own).mono ?_; rintro e w1 ⟨v1, rfl, hO1, hg1, ha1⟩; obtain ⟨A1, n1, cap1, rfl⟩ := own_shape hO1; obtain ⟨k1, k2, k3, k4⟩ := HW1.out.app2 hO1 hg1 ha1; have K1 := Lib.hid k1; have K2 := Lib.hid k2; clear k1 k2)
      go_end0
      exact ⟨rfl, _, by rw [← num_out HO.out]; exact K1.out, HF1.out.trans K2.out⟩
theorem rwnum_any (k : Nat) (hk : k = 1 ∨ k = 2) (n : Int) (hn : I64 n) (hW : WrAt X B w s v) (hl : s.l.length ≤ 3900000) :
    Calls Try.prog 25 #[.pointer (some ⟨X, 0, none⟩), .int .i64 n, .int .i64 k] w (WroteR X B v (wNum k n s) w) := by
  cases ho : outR k n
  · exact rwnum_in k hk n hn ho hW hl
  · exact rwnum_out k hk n hn ho hW hl
set_option maxRecDepth 100000 in
theorem rwcount_any (n most : Nat) (hn : n ≤ 9223372036854775807) (hW : WrAt X B w s v) (hl : s.l.length ≤ 3900000) :
    Calls Try.prog 27 #[.pointer (some ⟨X, 0, none⟩), .int .i64 n, .int .i64 most] w (WroteR X B v (rCount n most s) w) := by
  by_cases h : most < n
  · obtain ⟨hW1, hF1⟩ := hW.flag2 1 { s with long := true } rfl (.inl ⟨rfl, rfl⟩)
    have e : rCount n most s = wAdd (encU n 2) { s with long := true } := by simp [rCount, wAdd, h]
    rw [e]
    clear e
    have c0 := hW.c0
    have d0 := hW1.c0
    have c1 := hW.c1
    have f1 := hW.f1
    have HW1 := Lib.hid hW1
    have HF1 := Lib.hid hF1
    clear hW hW1 hF1
    go_enter Try.func27, Try.ntmps27
    go_wp2_with (go_at_call 62; refine (rnum_any v n 2 s.l B _ (by decide) (by decide) (by omega) (by omega) (by omega) HW1.out.size HW1.out.own).mono ?_; rintro e w1 ⟨v1, rfl, hO1, hg1, ha1⟩; obtain ⟨A1, n1, cap1, rfl⟩ := own_shape hO1; obtain ⟨k1, k2, k3, k4⟩ := HW1.out.app2 hO1 hg1 ha1; have K1 := Lib.hid k1; have K2 := Lib.hid k2; clear k1 k2)
    go_end0
    exact ⟨rfl, _, K1.out, HF1.out.trans K2.out⟩
  · have e : rCount n most s = wAdd (encU n 2) s := by simp [rCount, wAdd, h]
    rw [e]
    clear e
    have c0 := hW.c0
    have HW1 := Lib.hid hW
    clear hW
    go_enter Try.func27, Try.ntmps27
    go_wp2_with (go_at_call 62; refine (rnum_any v n 2 s.l B _ (by decide) (by decide) (by omega) (by omega) (by omega) HW1.out.size HW1.out.own).mono ?_; rintro e w1 ⟨v1, rfl, hO1, hg1, ha1⟩; obtain ⟨A1, n1, cap1, rfl⟩ := own_shape hO1; obtain ⟨k1, k2, k3, k4⟩ := HW1.out.app2 hO1 hg1 ha1; have K1 := Lib.hid k1; have K2 := Lib.hid k2; clear k1 k2)
    go_end0
    exact ⟨rfl, _, K1.out, K2.out⟩
set_option maxRecDepth 100000 in
theorem rabytes_gen (l : List Nat) (A2 : Option Addr) (D2 n2 cap2 m : Nat) (x : List Nat) (hm : m = min n2 65535) (hO : Own w B v l) (hB : B ≤ w.heap.size) (hl : l.length ≤ 3900000) (hr2 : ReadsL w D2 A2 x) (hl2 : x.length = n2) (hc2 : n2 ≤ cap2) (hd : v.ownBlock ≠ some D2) :
    Calls Try.prog 119 #[v, .slice A2 n2 cap2] w (Grows B (l ++ encU m 2 ++ x.take m) v w) := by
  have h1 : min (n2 : Int) 65535 = m := by omega
  have h2 : (m : Int) ≤ (cap2 : Int) := by omega
  have h3 : 0 ≤ (m : Int) := by omega
  have hmb : m ≤ 65535 := by omega
  have hlm : (x.take m).length = m := by rw [List.length_take]; omega
  have HO := Lib.hid hO
  have HR2 := Lib.hid (hr2.take m)
  have HL2 := Lib.hid hlm
  have HD := Lib.hid hd
  have hU : ∀ W, Own W B v l → B ≤ W.heap.size → Calls Try.prog 62 #[v, .int .i64 m, .int .i64 2] W (Grows B (l ++ encU m 2) v W) := fun W h1 h2 => rnum_any v m 2 l B W (by decide) (by decide) (by omega) (by omega) (by omega) h2 h1
  have HU := Lib.hid hU
  clear hO hr2 hl2 hd hU hm hlm
  go_enter Try.func119, Try.ntmps119
  go_wp2
  go_region_held3 (fun _ => True) (go_keep) (first
    | (go_at_call 62; refine (HU.out w.drew HO.out hB).mono ?_; rintro e w1 ⟨v1, rfl, hO1, hg0, ha1⟩; have hg1 := grown_undrew hg0)
    | (have q1 := hO1; clear q1; (refine step_app rfl (.tmp 11) (.tmp 14) (by rfl) (by rfl) hO1 (by rfl) (HR2.out.kept hg1 HD.out) HL2.out (by rw [List.length_append, encU_len]; omega) (Nat.le_trans hB hg1.size) ?_; intro v2 w2 hO2 hg2 ha2)))
  go_wp2
  go_ret
  exact ⟨_, rfl, hO2, grown_step hg1 ha1 hg2, At.step hg1 ha1 ha2⟩
theorem ratext_gen (l : List Nat) (x : List Nat) (hx : Small x) (hO : Own w B v l) (hB : B ≤ w.heap.size) (hl : l.length ≤ 3900000) :
    Calls Try.prog 101 #[v, .string (strL x)] w (Grows B (l ++ encU (min x.length 65535 : Nat) 2 ++ x.take (min x.length 65535)) v w) := by
  obtain ⟨cap2, W, hcv, hr2, hb, hW, hc2⟩ := conv_str w x hx
  have hC := Lib.hid (rabytes_gen (w := W) (v := v) (B := B) l _ w.heap.size x.length cap2 _ x rfl (hO.below hb) (Nat.le_trans hB hb.size) hl hr2 rfl hc2 (fun e => by have := (World.ownsRow.lt hO _ e).2; omega))
  clear hO hr2
  go_enter Try.func101, Try.ntmps101
  go_wp2_with (go_at_call 119; refine hC.out.mono ?_; rintro e w2 ⟨v2, rfl, hO2, hg2, ha2⟩)
  go_ret
  exact ⟨_, rfl, hO2, (grown_of_below hb _).trans hg2, ha2.imp id fun ⟨g, e, hg⟩ => ⟨g, e, Nat.le_trans hb.size hg⟩⟩
theorem take_min (x : List Nat) : x.take (min x.length 65535) = x.take 65535 := by
  rcases Nat.le_total x.length 65535 with h | h
  · rw [Nat.min_eq_left h, List.take_of_length_le h, List.take_of_length_le (Nat.le_refl _)]
  · rw [Nat.min_eq_right h]
theorem rtext_st (most : Nat) (x : List Nat) (s1 : WS) (h1 : s1.long = (s.long || decide (most < x.length))) (h2 : s1.strange = (s.strange || !plain x)) (h3 : s1.outside = s.outside) (h4 : s1.l = s.l) :
    wAdd (encU (min x.length 65535 : Nat) 2 ++ x.take 65535) s1 = rText most x s := by
  obtain ⟨l, a, b, c⟩ := s1
  simp only at h1 h2 h3 h4
  subst h1 h2 h3 h4
  rfl
set_option maxRecDepth 100000 in
theorem rwtext_any (x : List Nat) (most : Nat) (_ : most ≤ 65535) (hx : Txt x) (hW : WrAt X B w s v) (hl : s.l.length ≤ 3800000) :
    Calls Try.prog 63 #[.pointer (some ⟨X, 0, none⟩), .string (strL x), .int .i64 most] w (WroteR X B v (rText most x s) w) := by
  have hz := strL_size x
  have hz2 : (strL x).size ≤ 9223372036854775807 := by have := hx.2; omega
  have c0 := hW.c0
  have c1 := hW.c1
  have f1 := hW.f1
  have c2 := hW.c2
  have f2 := hW.f2
  by_cases hm : most < x.length
  · obtain ⟨hW0, hF0⟩ := hW.flag2 1 { s with long := true } rfl (.inl ⟨rfl, rfl⟩)
    have d0 := hW0.c0
    have d2 := hW0.c2
    have g2 := hW0.f2
    have hz1 : most < (strL x).size := by omega
    cases hp : plain x
    · obtain ⟨hW1, hF1⟩ := hW0.flag2 2 { s with long := true, strange := true } rfl (.inr (.inl ⟨rfl, rfl⟩))
      have e0 := hW1.c0
      rw [← rtext_st (s := s) most x { s with long := true, strange := true } (by simp [hm]) (by simp [hp]) rfl rfl]
      have HW1 := Lib.hid hW1
      have HF1 := Lib.hid (hF0.trans hF1)
      have HP := Lib.hid hp
      clear hW hW0 hW1 hF0 hF1 hp hz hm
      go_enter Try.func63, Try.ntmps63
      go_wp2_with (first
        | (go_at_call 100; refine (rplain_any x hx.1 hx.2 _).mono ?_; rw [HP.out]; rintro e w1 ⟨rfl, rfl⟩)
        | (go_at_call 101; refine (ratext_gen s.l x hx.1 HW1.out.own HW1.out.size (by omega)).mono ?_; rw [List.append_assoc, take_min]; rintro e w1 ⟨v1, rfl, hO1, hg1, ha1⟩; obtain ⟨A1, n1, cap1, rfl⟩ := own_shape hO1; obtain ⟨k1, k2, k3, k4⟩ := HW1.out.app2 hO1 hg1 ha1; have K1 := Lib.hid k1; have K2 := Lib.hid k2; clear k1 k2))
      go_end0
      exact ⟨rfl, _, K1.out, HF1.out.trans K2.out⟩
    · rw [← rtext_st (s := s) most x { s with long := true } (by simp [hm]) (by simp [hp]) rfl rfl]
      have HW1 := Lib.hid hW0
      have HF1 := Lib.hid hF0
      have HP := Lib.hid hp
      clear hW hW0 hF0 hp hz hm
      go_enter Try.func63, Try.ntmps63
      go_wp2_with (first
        | (go_at_call 100; refine (rplain_any x hx.1 hx.2 _).mono ?_; rw [HP.out]; rintro e w1 ⟨rfl, rfl⟩)
        | (go_at_call 101; refine (ratext_gen s.l x hx.1 HW1.out.own HW1.out.size (by omega)).mono ?_; rw [List.append_assoc, take_min]; rintro e w1 ⟨v1, rfl, hO1, hg1, ha1⟩; obtain ⟨A1, n1, cap1, rfl⟩ := own_shape hO1; obtain ⟨k1, k2, k3, k4⟩ := HW1.out.app2 hO1 hg1 ha1; have K1 := Lib.hid k1; have K2 := Lib.hid k2; clear k1 k2))
      go_end0
      exact ⟨rfl, _, K1.out, HF1.out.trans K2.out⟩
  · have hz1 : ¬ most < (strL x).size := by omega
    cases hp : plain x
    · obtain ⟨hW1, hF1⟩ := hW.flag2 2 { s with strange := true } rfl (.inr (.inl ⟨rfl, rfl⟩))
      have e0 := hW1.c0
      rw [← rtext_st (s := s) most x { s with strange := true } (by simp [hm]) (by simp [hp]) rfl rfl]
      have HW1 := Lib.hid hW1
      have HF1 := Lib.hid hF1
      have HP := Lib.hid hp
      clear hW hW1 hF1 hp hz hm
      go_enter Try.func63, Try.ntmps63
      go_wp2_with (first
        | (go_at_call 100; refine (rplain_any x hx.1 hx.2 _).mono ?_; rw [HP.out]; rintro e w1 ⟨rfl, rfl⟩)
        | (go_at_call 101; refine (ratext_gen s.l x hx.1 HW1.out.own HW1.out.size (by omega)).mono ?_; rw [List.append_assoc, take_min]; rintro e w1 ⟨v1, rfl, hO1, hg1, ha1⟩; obtain ⟨A1, n1, cap1, rfl⟩ := own_shape hO1; obtain ⟨k1, k2, k3, k4⟩ := HW1.out.app2 hO1 hg1 ha1; have K1 := Lib.hid k1; have K2 := Lib.hid k2; clear k1 k2))
      go_end0
      exact ⟨rfl, _, K1.out, HF1.out.trans K2.out⟩
    · rw [← rtext_st (s := s) most x s (by simp [hm]) (by simp [hp]) rfl rfl]
      have HW1 := Lib.hid hW
      have HP := Lib.hid hp
      clear hW hp hz hm
      go_enter Try.func63, Try.ntmps63
      go_wp2_with (first
        | (go_at_call 100; refine (rplain_any x hx.1 hx.2 _).mono ?_; rw [HP.out]; rintro e w1 ⟨rfl, rfl⟩)
        | (go_at_call 101; refine (ratext_gen s.l x hx.1 HW1.out.own HW1.out.size (by omega)).mono ?_; rw [List.append_assoc, take_min]; rintro e w1 ⟨v1, rfl, hO1, hg1, ha1⟩; obtain ⟨A1, n1, cap1, rfl⟩ := own_shape hO1; obtain ⟨k1, k2, k3, k4⟩ := HW1.out.app2 hO1 hg1 ha1; have K1 := Lib.hid k1; have K2 := Lib.hid k2; clear k1 k2))
      go_end0
      exact ⟨rfl, _, K1.out, K2.out⟩
set_option maxRecDepth 100000 in
theorem rwtruth_any (x : Bool) (hW : WrAt X B w s v) (hl : s.l.length ≤ 3900000) :
    Calls Try.prog 66 #[.pointer (some ⟨X, 0, none⟩), .bool x] w (WroteR X B v (wTruth x s) w) := by
  have c0 := hW.c0
  have HW1 := Lib.hid hW
  clear hW
  go_enter Try.func66, Try.ntmps66
  go_wp2_with (go_at_call 103; refine (rabool_any v s.l B w x HW1.out.own HW1.out.size (by omega)).mono ?_; rintro e w1 ⟨v1, rfl, hO1, hg1, ha1⟩; obtain ⟨A1, n1, cap1, rfl⟩ := own_shape hO1; obtain ⟨k1, k2, k3, k4⟩ := HW1.out.app2 hO1 hg1 ha1; have K1 := Lib.hid k1; have K2 := Lib.hid k2; clear k1 k2)
  go_end0
  exact ⟨rfl, _, K1.out, K2.out⟩
set_option maxRecDepth 100000 in
theorem rwval_any (x : Nat) (hx : x < 2 ^ 128) (hW : WrAt X B w s v) (hl : s.l.length ≤ 3900000) :
    Calls Try.prog 65 #[.pointer (some ⟨X, 0, none⟩), .agg #[.int .u64 (hi x), .int .u64 (lo x)]] w (WroteR X B v (wVal x s) w) := by
  have e0 : wVal x s = wAdd (encU (nb x) 1 ++ bl x) s := by simp [wVal, hx]
  rw [e0]
  clear e0
  have c0 := hW.c0
  have HX := Lib.hid hx
  obtain ⟨W, hWe⟩ : ∃ W, W = w.alloc (.cells #[.int .u64 (hi x), .int .u64 (lo x)] 80) := ⟨_, rfl⟩
  have hb0 : Below w.heap.size w W := by rw [hWe]; exact (Below.refl _ _).alloc (Nat.le_refl _) _
  have HW1 := Lib.hid (hW.below hb0)
  have HB := Lib.hid hb0
  have d0 := HW1.out.c0
  have d1 : W.cell? ⟨w.heap.size, 0, none⟩ = some (.int .u64 (hi x)) := by rw [hWe]; simp
  have d2 : W.cell? ⟨w.heap.size, 1, none⟩ = some (.int .u64 (lo x)) := by rw [hWe]; simp
  have HE := Lib.hid hWe
  clear hW hx hb0 c0 hWe
  go_enter Try.func65, Try.ntmps65
  go_wp2
  rw [← HE.out]
  go_region_with (go_at_call 102; refine (ravalue_any v s.l B _ x HX.out HW1.out.drew.own HW1.out.drew.size (by omega)).mono ?_; rw [List.append_assoc]; rintro e w1 ⟨v1, rfl, hO1, hg1, ha1⟩; obtain ⟨A1, n1, cap1, rfl⟩ := own_shape hO1; obtain ⟨k1, k2, k3, k4⟩ := HW1.out.drew.app2 hO1 hg1 ha1; have K1 := Lib.hid k1; have K2 := Lib.hid k2; clear k1 k2)
  all_goals go_end0
  all_goals exact ⟨rfl, _, K1.out, ((Gr.of_below HB.out).drew).trans K2.out⟩
end
end
/- The reference's writer: lists of numbers. -/
section
open Go.RowKit

/-- Writing never takes bytes away. -/
def Up (f : WS → WS) : Prop := ∀ s, s.l.length ≤ (f s).l.length
theorem Up.comp {f g : WS → WS} (h : Up f) (k : Up g) : Up (fun s => g (f s)) := fun s => Nat.le_trans (h s) (k (f s))
theorem up_num (k : Nat) (n : Int) : Up (wNum k n) := fun s => by simp [wNum]
theorem up_truth (b : Bool) : Up (wTruth b) := fun s => by simp [wTruth, wAdd]
theorem up_val (a : Nat) : Up (wVal a) := fun s => by simp [wVal, wAdd]
theorem up_rtext (most : Nat) (t : List Nat) : Up (rText most t) := fun s => by simp [rText]
theorem up_rcount (n most : Nat) : Up (rCount n most) := fun s => by simp [rCount]
theorem runL_up {α : Type} {f : α → WS → WS} (hf : ∀ x, Up (f x)) (xs : List α) (s : WS) (q : Nat) : (runL f xs s q).l.length ≤ (runL f xs s (q + 1)).l.length := by
  cases h : xs[q]? with
  | none =>
    have e : runL f xs s (q + 1) = runL f xs s q := by
      rw [runL, runL, List.take_of_length_le (by have := List.getElem?_eq_none_iff.1 h; omega), List.take_of_length_le (by have := List.getElem?_eq_none_iff.1 h; omega)]
    rw [e]
    exact Nat.le_refl _
  | some x => rw [runL_succ f s h]; exact hf x _
theorem runL_le {α : Type} {f : α → WS → WS} (hf : ∀ x, Up (f x)) (xs : List α) (s : WS) (q : Nat) : ∀ d, (runL f xs s q).l.length ≤ (runL f xs s (q + d)).l.length
  | 0 => Nat.le_refl _
  | d + 1 => Nat.le_trans (runL_le hf xs s q d) (runL_up hf xs s (q + d))
theorem runL_bound {α : Type} {f : α → WS → WS} (hf : ∀ x, Up (f x)) {xs : List α} {s : WS} {q n M : Nat} (hq : q ≤ n) (h : (runL f xs s n).l.length ≤ M) : (runL f xs s q).l.length ≤ M := by
  have := runL_le hf xs s q (n - q)
  rw [Nat.add_sub_cancel' hq] at this
  omega
theorem rList_run {α : Type} (most : Nat) (f : α → WS → WS) (xs : List α) (s : WS) : rList most f xs s = runL f xs (rCount xs.length most s) xs.length := by rw [runL_all]; rfl
theorem up_rlist {α : Type} (most : Nat) {f : α → WS → WS} (hf : ∀ x, Up (f x)) (xs : List α) : Up (rList most f xs) := fun s => by
  rw [rList_run]
  exact Nat.le_trans (up_rcount _ _ s) (runL_bound hf (Nat.zero_le _) (Nat.le_refl _))
section
variable {C X B : Nat} {w : World} {s : WS} {v : Value}
set_option maxRecDepth 100000 in
set_option maxHeartbeats 1000000 in
theorem rwnums_any (xs : List Int) (most : Nat) (u : Value) (hr : RowV 1 IntV C w u xs) (hC : C ≤ X) (hW : WrAt X B w s v) (hl : (rList most (wNum 2) xs s).l.length ≤ 3800000) :
    Calls Try.prog 64 #[.pointer (some ⟨X, 0, none⟩), u, .int .i64 most] w (WroteR X B v (rList most (wNum 2) xs s) w) := by
  have hr0 := hr
  obtain ⟨A, n, cap, rfl, hn, hnc, hcm, _⟩ := hr
  unfold maxLen at hcm
  rw [rList_run, ← hn.out] at hl ⊢
  have hb : ∀ q, q ≤ n → (runL (wNum 2) xs (rCount n most s) q).l.length ≤ 3800000 := fun q hq => runL_bound (up_num 2) hq hl
  have hb0 : s.l.length ≤ 3800000 := Nat.le_trans (up_rcount n most s) (hb 0 (by omega))
  have h0n : 0 ≤ (n : Int) := by omega
  have HR := Lib.hid hr0
  have HB := Lib.hid hb
  have HW := Lib.hid hW
  clear hr0 hl hb hW
  go_enter Try.func64, Try.ntmps64
  go_wp2_with fail
  refine (rwcount_any n most (by omega) HW.out (by omega)).mono ?_
  rintro e w1 ⟨rfl, v1, hv1, hg1⟩
  have HV1 := Lib.hid hv1
  have HG1 := Lib.hid hg1
  clear hv1 hg1
  go_wp2_with fail
  go_loopw [15] (fun i W => ∃ q : Nat, q ≤ n ∧ i = .int .i64 q ∧ ∃ u, WrAt X B W (runL (wNum 2) xs (rCount n most s) q) u ∧ Gr X v w u W) (fun i _ => n - (intOf i).toNat)
  case atStart => exact ⟨0, by omega, rfl, v1, HV1.out, HG1.out⟩
  case round =>
    obtain ⟨q, hq, rfl, u, hV, hG⟩ := hrel
    have HV := Lib.hid hV
    have HG := Lib.hid hG
    clear hV hG
    by_cases hqn : q < n
    · have hqn' : (q : Int) < (n : Int) := by omega
      have hq0 : 0 ≤ (q : Int) := by omega
      obtain ⟨eb, eo, rfl, x, hx, hL⟩ := row_at HR.out (q := q) (by have := hn.out; omega)
      obtain ⟨_, cs, hc, rfl, hi⟩ := hL.below kept_int (HG.out.below HW.out hC)
      rw [Nat.mul_one] at hc
      have d0 := hc.one
      have HX := Lib.hid (runL_succ (wNum 2) (rCount n most s) hx)
      clear hc hL hx
      go_wp2_with fail
      refine (rwnum_any 2 (.inr rfl) x hi HV.out (by have := HB.out q hq; omega)).mono ?_
      rintro e w2 ⟨rfl, v2, hv2, hg2⟩
      have HV2 := Lib.hid hv2
      have HG2 := Lib.hid hg2
      clear hv2 hg2
      go_wp2_with fail
      go_roundw
      case rel => exact ⟨q + 1, by omega, by simp, v2, by rw [HX.out]; exact HV2.out, HG.out.trans HG2.out⟩
      case measure => simp [intOf]; omega
    · obtain rfl : q = n := by omega
      go_wp2
      go_end0
      exact ⟨rfl, u, HV.out, HG.out⟩
end
end
/- The reference's encoding never takes bytes away. -/
section
open Go.RowKit

section
variable {C X B : Nat} {w : World} {s : WS} {v : Value}
theorem up_field (x : FieldD) : Up (eField wayR x) := (((up_num 2 x.id).comp (up_rtext 24 x.name)).comp (up_num 1 x.bits))
theorem up_header (x : HeaderD) : Up (eHeader wayR x) := (((up_num 2 x.id).comp (up_rtext 24 x.name)).comp (up_rlist 32 (up_num 2) x.fields))
theorem up_case (x : CaseD) : Up (eCase x) := (((up_val x.val).comp (up_val x.mask)).comp (up_num 2 x.next))
theorem up_state (x : StateD) : Up (eState wayR x) := (((((up_num 2 x.id).comp (up_num 2 x.header)).comp (up_num 2 x.select)).comp (up_rlist 6 up_case x.cases)).comp (up_num 2 x.dflt))
theorem up_param (x : ParamD) : Up (eParam wayR x) := ((up_rtext 24 x.name).comp (up_num 1 x.bits))
theorem up_prim (x : PrimD) : Up (ePrim x) := (((((up_num 1 x.op).comp (up_num 2 x.dst)).comp (up_num 1 x.kind)).comp (up_num 2 x.n)).comp (up_val x.val))
theorem up_action (x : ActionD) : Up (eAction wayR x) := (((((up_num 2 x.id).comp (up_rtext 24 x.name)).comp (up_rlist 4 up_param x.params)).comp (up_rlist 12 up_prim x.body)).comp (up_rtext 400 x.restr))
theorem up_key (x : KeyD) : Up (eKey wayR x) := (((up_rtext 24 x.name).comp (up_num 2 x.field)).comp (up_num 1 x.kind))
theorem up_table (x : TableD) : Up (eTable wayR x) := ((((((((up_num 2 x.id).comp (up_rtext 24 x.name)).comp (up_rlist 4 up_key x.keys)).comp (up_rlist 12 (up_num 2) x.actions)).comp (up_num 2 x.dflt)).comp (up_rlist 4 up_val x.args)).comp (up_num 2 x.size)).comp (up_rtext 400 x.restr))
theorem up_stage (x : StageD) : Up (eStage x) := ((up_num 2 x.table).comp (up_num 2 x.header))
theorem up_grant (x : GrantD) : Up (eGrant wayR x) := ((((up_num 2 x.table).comp (up_truth x.read)).comp (up_truth x.write)).comp (up_rlist 4 up_truth x.keys))
theorem up_role (x : RoleD) : Up (eRole wayR x) := ((((((up_num 2 x.id).comp (up_rtext 24 x.name)).comp (up_rlist 8 up_grant x.grants)).comp (up_rlist 12 (up_num 2) x.actions)).comp (up_num 2 x.quota)).comp (up_truth x.audit))
theorem up_ref (x : RefD) : Up (eRef x) := ((((((up_num 2 x.table).comp (up_num 1 x.key)).comp (up_num 2 x.action)).comp (up_num 1 x.param)).comp (up_num 2 x.toTable)).comp (up_num 1 x.toKey))
theorem up_schema (x : SchemaD) : Up (eSchema wayR x) := ((((((((((up_num 2 x.maxBatch).comp (up_num 2 x.budget)).comp (up_rlist 32 up_field x.fields)).comp (up_rlist 8 up_header x.headers)).comp (up_rlist 12 up_state x.states)).comp (up_rlist 12 up_action x.actions)).comp (up_rlist 8 up_table x.tables)).comp (up_rlist 12 up_stage x.stages)).comp (up_rlist 6 up_role x.roles)).comp (up_rlist 8 up_ref x.refs))
def ePacket (W : Way) (x : SchemaD) (s : WS) : WS := W.list 12 (eState W) x.states (W.list 8 (eHeader W) x.headers (W.list 32 (eField W) x.fields s))
end
end
end Go.Proofs.Ytljmiickhkkceaa
