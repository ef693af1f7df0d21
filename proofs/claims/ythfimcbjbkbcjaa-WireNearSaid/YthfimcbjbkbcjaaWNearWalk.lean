/- WireNear: its walk. -/
import Derived.Test.YthfimcbjbkbcjaaWWritesWalk
import Derived.Test.YthfimcbjbkbcjaaWReadsWalk
import Derived.Test.YthfimcbjbkbcjaaWKeep
import Derived.Deep.CutBlock
import Derived.Deep.DeepCutAuto
import Derived.BigRegion
namespace Go.Proofs.Ythfimcbjbkbcjaa
open Go.RowKit
attribute [local go_sem ↓] Go.wp_at_zero Go.wp_at_succ

theorem own_form {w : World} {B : Nat} {v : Value} {l : List Nat} (h : Own w B v l) (hl : 0 < l.length) : ∃ g cap, v = .slice (some ⟨g, 0, none⟩) l.length cap ∧ B ≤ g ∧ g < w.heap.size ∧ l.length ≤ cap ∧
    (∀ i, i < l.length → w.cell? ⟨g, i, none⟩ = some (.int .u8 (l.getD i 0))) ∧ ∀ i, w.frozen? ⟨g, i, none⟩ = false := by
  rcases h.2 with ⟨rfl, h0⟩ | ⟨g, cap, cur, rfl, hg, hh, hn, hc, hsz, htake⟩
  · omega
  · have hgl : g < w.heap.size := by
      rcases Nat.lt_or_ge g w.heap.size with h | h
      · exact h
      · rw [Array.getElem?_eq_none h] at hh; cases hh
    exact ⟨g, cap, rfl, hg, hgl, hn, fun i hi => by rw [World.ownsRow.cellAt h i (by omega), cellsOf_get hi], fun i => World.ownsRow.frozenAt h i⟩
theorem own_slice3 {w : World} {B : Nat} {v : Value} {l : List Nat} (h : Own w B v l) : ∃ A n cap g, v = .slice A n cap ∧ Hid (n = l.length) ∧ ReadsL w g A l ∧ B ≤ g ∧ n ≤ cap ∧ (g < w.heap.size ∨ l = []) := by
  rcases h.2 with ⟨rfl, h0⟩ | ⟨g, cap, cur, rfl, hg, hh, hn, hc, hsz, htake⟩
  · obtain rfl : l = [] := List.eq_nil_of_length_eq_zero h0
    exact ⟨none, 0, 0, B, rfl, Lib.hid rfl, .inl rfl, Nat.le_refl _, Nat.le_refl _, .inr rfl⟩
  · have hgl : g < w.heap.size := by
      rcases Nat.lt_or_ge g w.heap.size with h | h
      · exact h
      · rw [Array.getElem?_eq_none h] at hh; cases hh
    refine ⟨_, _, _, g, rfl, Lib.hid rfl, .inr ⟨0, rfl, hgl, fun i hi => ?_⟩, hg, hn, .inl hgl⟩
    rw [Nat.zero_add, World.ownsRow.cellAt h i (by omega), cellsOf_get hi]
/-- A byte of the row is changed. -/
theorem own_set {w : World} {B g n cap : Nat} {l : List Nat} (hn : n = l.length) (h : Own w B (.slice (some ⟨g, 0, none⟩) n cap) l) (i y : Nat) : Own (w.setCell ⟨g, i, none⟩ (.int .u8 y)) B (.slice (some ⟨g, 0, none⟩) n cap) (l.set i y) := by
  subst hn
  have h2 := World.ownsRow.stored h i (.int .u8 y)
  unfold Own
  rw [List.length_set]
  have e : cellsOf (l.set i y) = (cellsOf l).set i (.int .u8 y) := by simp [cellsOf, List.map_set]
  rw [e]
  exact h2.1
theorem Small.set {l : List Nat} (h : Small l) (i y : Nat) (hy : y < 256) : Small (l.set i y) := fun x hx => by
  rcases List.mem_or_eq_of_mem_set hx with hx | hx
  · exact h x hx
  · rw [hx]; exact hy
def Slc (W : World) (v : Value) : Prop := ∃ A n cap g l, v = .slice A n cap ∧ ReadsL W g A l ∧ l.length = n ∧ n ≤ cap ∧ n ≤ 1000 ∧ Small l ∧ g < W.heap.size
theorem slc_of {W : World} {g n cap : Nat} {A : Option Addr} {l : List Nat} (hr : ReadsL W g A l) (hl : l.length = n) (hle : n ≤ cap) (hn : n ≤ 1000) (hs : Small l) (hW : 0 < W.heap.size) : Slc W (.slice A n cap) := by
  rcases hr with rfl | ⟨o, h1, h2, h3⟩
  · exact ⟨A, n, cap, 0, [], rfl, .inl rfl, hl, hle, hn, hs, hW⟩
  · exact ⟨A, n, cap, g, l, rfl, .inr ⟨o, h1, h2, h3⟩, hl, hle, hn, hs, h2⟩
theorem Slc.below {W W' : World} {v : Value} (h : Slc W v) (hb : Below W.heap.size W W') : Slc W' v := by
  obtain ⟨A, n, cap, g, l, rfl, hr, hl, hle, hn, hs, hg⟩ := h
  exact ⟨A, n, cap, g, l, rfl, hr.kept (grown_of_below hb none) (by simp), hl, hle, hn, hs, Nat.lt_of_lt_of_le hg hb.size⟩
/-- Four slices lie in block b. -/
def Four (W : World) (b : Nat) : Prop := ∀ q, q < 4 → ∃ v, W.cell? ⟨b, q, none⟩ = some v ∧ Slc W v
theorem Four.below {W W' : World} {b : Nat} (h : Four W b) (hlt : b < W.heap.size) (hb : Below W.heap.size W W') : Four W' b := fun q hq => by
  obtain ⟨v, hc, hs⟩ := h q hq
  exact ⟨v, by rw [cell_kept (grown_of_below hb none) hlt (by simp), hc], hs.below hb⟩
theorem four_new {W : World} {s0 s1 s2 s3 : Value} (T : TypeId) (h0 : Slc W s0) (h1 : Slc W s1) (h2 : Slc W s2) (h3 : Slc W s3) : Four (W.alloc (.cells #[s0, s1, s2, s3] T)) W.heap.size := fun q hq => by
  have hb : Below W.heap.size W (W.alloc (.cells #[s0, s1, s2, s3] T)) := (Below.refl _ W).alloc (Nat.le_refl _) _
  match q, hq with
  | 0, _ => exact ⟨s0, by rw [World.cell?_alloc_new]; rfl, h0.below hb⟩
  | 1, _ => exact ⟨s1, by rw [World.cell?_alloc_new]; rfl, h1.below hb⟩
  | 2, _ => exact ⟨s2, by rw [World.cell?_alloc_new]; rfl, h2.below hb⟩
  | 3, _ => exact ⟨s3, by rw [World.cell?_alloc_new]; rfl, h3.below hb⟩
/-- The slices are made: b with the bytes la, bad with as many bytes lb. -/
def NearAt (w : World) (A2 A3 : Option Addr) (n g2 c3 : Nat) (la : List Nat) (W : World) : Prop :=
  ∃ lb, Hid (lb.length = la.length) ∧ Small lb ∧ ReadsL W g2 A2 la ∧ Own W w.heap.size (.slice A3 n c3) lb ∧ Below w.heap.size w W ∧ ((Value.slice A3 n c3).ownBlock ≠ some g2 ∨ la = [])
set_option maxRecDepth 100000 in
set_option maxHeartbeats 8000000 in
theorem near_any (a1 : Option Addr) (len1 cap1 : Nat) (f : Nat → OpR) (at_ : Int) (by_ : Nat) (cut most : Int) (w : World) (hc1 : len1 ≤ cap1) (hby : by_ < 256) (hf : OpsAt w a1 len1 f) :
    Calls Try.prog 5 #[.slice a1 len1 cap1, .int .i64 at_, .int .u8 by_, .int .i64 cut, .int .i64 most] w fun e w' => e = .returned (.bool true) ∧ Below w.heap.size w w' := by
  obtain ⟨m, hm⟩ : ∃ m : Nat, m = min len1 12 := ⟨_, rfl⟩
  have hm12 : m ≤ 12 := by omega
  have hml : m ≤ len1 := by omega
  have e1 : min (len1 : Int) 12 = m := by omega
  have b1 : (m : Int) ≤ (cap1 : Int) := by omega
  have HF := Lib.hid hf
  have HBY := Lib.hid hby
  clear hf hm hby
  go_enter Try.func5, Try.ntmps5
  go_wp2
  go_loopw [11, 12, 29] (fun vb va i w' => ∃ q : Nat, q ≤ m ∧ i = .int .i64 q ∧ WritesAt w q va vb w') (fun _ _ i _ => m - (intOf i).toNat)
  case atStart => exact ⟨0, by omega, rfl, [], none, 0, 0, 0, rfl, Lib.hid rfl, .inl rfl, own_nil _ _, Below.refl _ _, Small.nil, by simp⟩
  case round =>
    obtain ⟨q, hq, rfl, la, A, n, cap, g, rfl, hn, hr, hO, hb, hs, hla⟩ := hrel
    by_cases hqm : q < m
    · have hqm' : (q : Int) < (m : Int) := by omega
      obtain ⟨b, o, rfl, hops⟩ := HF.out.resolve_left (by omega)
      have hop0 := hops q (by omega)
      have hop := hop0.below hb
      have hD0 := hop0.dlt
      have hqz : 0 ≤ (q : Int) := by omega
      generalize f q = x at hop hD0
      obtain ⟨kind, nn, mo, val, sA, sn, sc, sD, xs⟩ := x
      have d0 : wr.cell? ⟨b, o + q * 6, none⟩ = some (.int .i64 kind) := hop.c0
      have d1 : wr.cell? ⟨b, o + q * 6 + 1, none⟩ = some (.int .i64 nn) := hop.c1
      have d2 : wr.cell? ⟨b, o + q * 6 + 2, none⟩ = some (.int .i64 mo) := hop.c2
      have d3 : wr.cell? ⟨b, o + q * 6 + 3, none⟩ = some (.int .u64 (hi val)) := hop.c3
      have d4 : wr.cell? ⟨b, o + q * 6 + 4, none⟩ = some (.int .u64 (lo val)) := hop.c4
      have d5 : wr.cell? ⟨b, o + q * 6 + 5, none⟩ = some (.slice sA sn sc) := hop.c5
      have hgw := grown_alloc wr (.cells #[.int .i64 kind, .int .i64 nn, .int .i64 mo, .int .u64 (hi val), .int .u64 (lo val), .slice sA sn sc] 28) none
      have HW := Lib.hid (write_any w.heap.size la A g n cap _ (wr.alloc (.cells #[.int .i64 kind, .int .i64 nn, .int .i64 mo, .int .u64 (hi val), .int .u64 (lo val), .slice sA sn sc] 28)) kind nn mo val sA sn sc sD xs hop.v1 hop.n1 hop.le hop.len hop.small (hop.reads.kept hgw (by simp)) hD0
        (hO.alloc _) (hr.kept hgw (by simp)) hn.out.symm hs (by omega) (by have := hb.size; simp; omega))
      have HB := Lib.hid (hb.alloc hb.size (.cells #[.int .i64 kind, .int .i64 nn, .int .i64 mo, .int .u64 (hi val), .int .u64 (lo val), .slice sA sn sc] 28))
      have HLA := Lib.hid hla
      clear hop hop0 hops hgw hO hr hb hs hla hD0
      go_wp2_with (go_at_call 8; (refine HW.out.mono ?_; rintro en w2 ⟨l2, A2, n2, cap2, g2, v2, rfl, hn2, hr2, hO2, hb2, hs2, hll, hne⟩))
      go_roundw
      case rel => exact ⟨q + 1, by omega, by simp, l2, A2, n2, cap2, g2, rfl, hn2, hr2, hO2, HB.out.trans hb2, hs2, by have := HLA.out; omega⟩
      case measure => simp [intOf]; omega
    · obtain rfl : q = m := by omega
      have HB := Lib.hid hb
      have HS := Lib.hid hs
      have hlen : la.length ≤ 720 := by omega
      obtain ⟨A2, n2, c2, g2, rfl, hn2, hr2, hge2, hle2, hlt2⟩ : ∃ A n cap g, _ = Value.slice A n cap ∧ Hid (n = la.length) ∧ ReadsL wr g A la ∧ w.heap.size ≤ g ∧ n ≤ cap ∧ (g < wr.heap.size ∨ la = []) := own_slice3 hO
      have hn720 : n2 ≤ 720 := by have := hn2.out; omega
      have HR2 := Lib.hid hr2
      have HLE := Lib.hid hlen
      clear hb hO hr hs hla hr2 hlen hn
      have hgs : w.heap.size ≤ wr.heap.size := HB.out.size
      have HGS := Lib.hid hgs
      clear hgs
      go_upto_if 46 with (at_builtin; (refine wpList_app (l := []) (v := .slice (some ⟨wr.heap.size, 0, none⟩) 0 0) rfl (.tmp 41) (.tmp 42) rfl rfl (own_empty wr) rfl (HR2.out.kept (grown_alloc wr _ none) (by simp)) hn2.out.symm (by simp; omega) (by simp) ?_; intro v3 w3 hO3 hg3' ha3; have hg3 : World.grownBy _ w3 (some wr.heap.size) := hg3'; obtain ⟨A3, n3, c3, g3, rfl, hn3, hr3, hge3, hle3, hlt3⟩ := own_slice3 hO3))
      have hO4 : Own w3 w.heap.size (.slice A3 n3 c3) la := (by simpa using hO3 : Own w3 wr.heap.size (.slice A3 n3 c3) la).base HGS.out
      have hO5 : Own w3 wr.heap.size (.slice A3 n3 c3) la := by simpa using hO3
      have hn4 : Hid (n3 = la.length) := Lib.hid (by simpa using hn3.out)
      have hB4 : Below w.heap.size w w3 := (HB.out.alloc HB.out.size _).grown hg3 (by have := HB.out.size; simp; omega) (fun k hk => by injection hk with hk; have := HGS.out; omega)
      have hR4 : ReadsL w3 g2 A2 la := by
        rcases hlt2 with h | h
        · exact (HR2.out.kept (w' := wr.alloc (.cells #[] 5)) (row := none) (grown_alloc wr _ none) (by simp)).kept hg3 (by simp; omega)
        · exact .inl h
      have hbk : (Value.slice A3 n3 c3).ownBlock ≠ some g2 ∨ la = [] := by
        rcases hlt2 with h | h
        · exact .inl fun e => by have := (World.ownsRow.lt hO5 _ e).1; omega
        · exact .inr h
      have HO4 := Lib.hid hO4
      have HO5 := Lib.hid hO5
      have HB4 := Lib.hid hB4
      have HR4 := Lib.hid hR4
      have HBK := Lib.hid hbk
      have HLT2 := Lib.hid hlt2
      have hs3 : n3 ≤ 720 := by have := hn4.out; have := HLE.out; omega
      clear hO3 hg3' ha3 hg3 hn3 hr3 hge3 hlt3 hO4 hO5 hB4 hR4 hbk hlt2
      go_cut [] from 47 to 57 (fun wx => NearAt w A2 A3 n3 g2 c3 la wx)
      case first =>
        by_cases hz : n3 = 0
        · subst hz
          go_wp2_with fail
          go_meet
          exact ⟨la, Lib.hid rfl, HS.out, HR4.out, HO4.out, HB4.out, HBK.out⟩
        · obtain ⟨gb, cb, he, hgb, hgl, hnc, hcell, hfr⟩ := own_form HO5.out (by have := hn4.out; omega)
          simp only [Value.slice.injEq] at he
          obtain ⟨rfl, hnq, rfl⟩ := he
          clear hnq
          have hn0 : 0 < (n3 : Int) := by omega
          have hn0' : 0 < n3 := by omega
          have hn7 : (n3 : Int) ≤ 720 := by omega
          obtain ⟨ix, hix⟩ : ∃ ix : Nat, at_ % 65536 % (n3 : Int) = (ix : Int) := ⟨(at_ % 65536 % (n3 : Int)).toNat, by have := Int.emod_nonneg (at_ % 65536) (show (n3 : Int) ≠ 0 by omega); omega⟩
          have hixn : ix < n3 := by have := Int.emod_lt_of_pos (at_ % 65536) hn0; omega
          have hixn' : (ix : Int) < (n3 : Int) := by omega
          have hixz : 0 ≤ (ix : Int) := by omega
          have m1 : bits .and .i64 at_ 65535 = at_ % 65536 := i64_mask at_ 16 (by decide)
          have i0 := hcell ix (by have := hn4.out; omega)
          have f0 := hfr ix
          have hx := HS.out.getD ix
          generalize la.getD ix 0 = x at i0 hx
          have hxor : bits .xor .u8 (x : Int) (by_ : Int) = ((x ^^^ by_ : Nat) : Int) := u8_xor_nat x by_ hx HBY.out
          have hxs : x ^^^ by_ < 256 := Nat.xor_lt_two_pow (n := 8) hx HBY.out
          have HXS := Lib.hid hxs
          have HHC := Lib.hid hcell
          clear hcell hfr hxs
          generalize x ^^^ by_ = y at hxor HXS
          go_wp2_with fail
          go_meet
          have hgne : gb ≠ g2 ∨ la = [] := by
            rcases HLT2.out with h | h
            · exact .inl (by omega)
            · exact .inr h
          refine ⟨la.set ix y, Lib.hid (by rw [List.length_set]), HS.out.set ix y HXS.out, ?_, own_set hn4.out HO4.out ix y, HB4.out.setCell (by have := HGS.out; simp; omega) _, HBK.out⟩
          rcases hgne with h | h
          · exact HR4.out.kept (grown_set w3 gb ix _) (by simpa using h)
          · exact .inl h
      case rest =>
        obtain ⟨lb, hlb, hsb, hrb, hOb, hBb, hbb⟩ := hcut
        have mc : bits .and .i64 cut 65535 = cut % 65536 := i64_mask cut 16 (by decide)
        have hw1 : IntKind.i64.wrap ((n2 : Int) + 1) = (n2 : Int) + 1 := IntWalk.i64_in _ (by omega)
        obtain ⟨kx, hkx⟩ : ∃ kx : Nat, cut % 65536 % ((n2 : Int) + 1) = (kx : Int) := ⟨(cut % 65536 % ((n2 : Int) + 1)).toNat, by have := Int.emod_nonneg (cut % 65536) (show (n2 : Int) + 1 ≠ 0 by omega); omega⟩
        have hkn : kx ≤ n2 := by have := Int.emod_lt_of_pos (cut % 65536) (show 0 < (n2 : Int) + 1 by omega); omega
        have htm : (cut % 65536).tmod ((n2 : Int) + 1) = (kx : Int) := by rw [Int.tmod_eq_emod_of_nonneg (Int.emod_nonneg _ (by decide))]; exact hkx
        have hkc : (kx : Int) ≤ (c2 : Int) := by omega
        have hkz : 0 ≤ (kx : Int) := by omega
        have hn1z : (0 : Int) < (n2 : Int) + 1 := by omega
        have hn1e : ((n2 : Int) + 1 == 0) = false := by simp; omega
        have hn1f : ((n2 : Int) + 1 = 0) = False := by simp; omega
        have hw2 : IntKind.i64.wrap ((cut % 65536).tmod ((n2 : Int) + 1)) = (kx : Int) := by rw [htm]; exact IntWalk.i64_in _ (by omega)
        have HKX := Lib.hid hkx
        clear hkx
        have HSB := Lib.hid hsb
        have HRB := Lib.hid hrb
        have HOB := Lib.hid hOb
        have HBB := Lib.hid hBb
        have HBK2 := Lib.hid hbb
        clear hsb hrb hOb hBb hbb
        go_wp2
        go_region_held3 (fun _ => True) (go_keep) ((refine step_app_keep rfl (.tmp 68) (.tmp 70) (by rfl) (by rfl) ((HOB.out.drew).alloc _) (by rfl) (reads_one wc.drew by_ _) (by rfl) (by have := hlb.out; have := HLE.out; omega) (by have := HBB.out.size; simp; omega) ?_; intro v4 w4 hO4 hg4 ha4 hk5; obtain ⟨A4, n4, c4, g4, rfl, hn5, hr4, hge4, hle4, hlt4⟩ := own_slice3 hO4))
        have hb4 : Below w.heap.size w w4 := ((HBB.out.alloc HBB.out.size (.cells #[.int .u8 by_] 5)).drew).grown hg4 (by have := HBB.out.size; simp; omega) (fun k hk => (World.ownsRow.lt HOB.out k hk).1)
        have hz4 : 0 < w4.heap.size := by have := hg4.size; simp at this; omega
        have hsl0 : Slc w4 (.slice A2 n2 c2) := by
          refine slc_of (g := g2) ?_ hn2.out.symm hle2 (by omega) HS.out hz4
          rcases HBK2.out with h | h
          · have h1 := (HRB.out.kept (row := none) (grown_alloc wc (.cells #[.int .u8 by_] 5) none) (by simp)).drew
            exact h1.kept hg4 h
          · exact .inl h
        have hsl2 : Slc w4 (.slice A2 kx c2) := by
          refine slc_of (g := g2) (l := la.take kx) ?_ (by rw [List.length_take]; have := hn2.out; omega) (by omega) (by omega) (HS.out.take kx) hz4
          rcases HBK2.out with h | h
          · have h1 := (HRB.out.kept (row := none) (grown_alloc wc (.cells #[.int .u8 by_] 5) none) (by simp)).drew
            exact (h1.kept hg4 h).take kx
          · subst h; exact .inl (by simp)
        have hsl1 : Slc w4 (.slice A3 n3 c3) := by
          rcases hk5 with h | ⟨g, _, h⟩
          · exact slc_of (g := 0) (.inl h) (by have := hlb.out; have := hn4.out; omega) hle3 (by omega) HSB.out hz4
          · exact slc_of h (by have := hlb.out; have := hn4.out; omega) hle3 (by omega) HSB.out hz4
        have hsl3 : Slc w4 (.slice A4 n4 c4) := slc_of hr4 hn5.out.symm hle4 (by have := hn5.out; have := hlb.out; have := HLE.out; simp at *; omega) (HSB.out.append (fun x hx => by have := HBY.out; simp at hx; omega)) hz4
        have hf4 := four_new 23 hsl0 hsl1 hsl2 hsl3
        have hb5 := hb4.alloc hb4.size (.cells #[.slice A2 n2 c2, .slice A3 n3 c3, .slice A2 kx c2, .slice A4 n4 c4] 23)
        have hlt5 : w4.heap.size < (w4.alloc (.cells #[.slice A2 n2 c2, .slice A3 n3 c3, .slice A2 kx c2, .slice A4 n4 c4] 23)).heap.size := by simp
        have HF5 := Lib.hid hf4
        have HB5 := Lib.hid hb5
        have HLT5 := Lib.hid hlt5
        clear hsl0 hsl1 hsl2 hsl3 hf4 hb5 hlt5 hb4 hz4 hk5 hr4 hn5 hO4 ha4 hg4 hlt4 hge4 HBK2 HOB HRB HSB HBB HKX hlb HLT2 HBK HR4 HB4 HO4 HO5 hn4 HGS HR2 HB HS HLE hn2 HBY
        clear htm mc hn1e hn1f hw1 hw2 hn1z hkz
        go_wp2
        generalize hw5 : w4.alloc (.cells #[.slice A2 n2 c2, .slice A3 n3 c3, .slice A2 kx c2, .slice A4 n4 c4] 23) = w5 at *
        generalize hq5 : w4.heap.size = b5 at *
        clear hw5 hq5
        go_loopw [74] (fun i w' => ∃ q4 : Nat, q4 ≤ 4 ∧ i = .int .i64 q4 ∧ Hid (Below w.heap.size w w' ∧ Four w' b5 ∧ b5 < w'.heap.size)) (fun i _ => 4 - (intOf i).toNat)
        case atStart => exact ⟨0, by omega, rfl, Lib.hid ⟨HB5.out, HF5.out, HLT5.out⟩⟩
        case round =>
          obtain ⟨q4, hq4, rfl, HW6⟩ := hrel
          obtain ⟨w6, hw6⟩ : ∃ x, x = wr := ⟨wr, rfl⟩
          subst hw6
          by_cases hq44 : q4 < 4
          · obtain ⟨v6, hcv, A6, n6, c6, g6, l6, rfl, hr6, hl6, hle6, hn6, hs6, hg6⟩ := HW6.out.2.1 q4 hq44
            have hqz4 : 0 ≤ (q4 : Int) := by omega
            have hq4i : (q4 : Int) < 4 := by omega
            have HR6 := Lib.hid hr6
            have HL6 := Lib.hid hl6
            have HS6 := Lib.hid hs6
            clear hr6 hl6 hs6
            go_wp2_with (first
              | (go_at_call 10; (refine (new_any A6 g6 n6 c6 l6 _ HR6.out HS6.out HL6.out (by omega)).mono ?_; rintro e w1 ⟨R, D, A1, n1, cap1', rfl, hR, hD, hr1, hb1⟩; have HR1 := Lib.hid hr1; have HB1 := Lib.hid hb1; clear hr1 hb1))
              | (at_builtin; (refine wpList_app (l := []) (v := .slice (some ⟨w1.heap.size, 0, none⟩) 0 0) rfl (.tmp 80) (.tmp 81) rfl rfl (own_empty w1) rfl ((HR6.out.kept (grown_of_below HB1.out none) (by simp)).kept (grown_alloc w1 _ none) (by simp)) HL6.out (by simp; omega) (by simp) ?_; intro v3 w3 hO3 hg3' ha3; have hg3 : World.grownBy _ w3 (some w1.heap.size) := hg3'; obtain ⟨A7, n7, c7, g7, rfl, hn7, hr7, hge, hle7, hlt7⟩ := own_slice2 hO3 (by have := hg3.size; simp at this; omega))))
            have hRw1 := HR1.out.lt
            have hDw1 := HR1.out.dlt
            have hsz3 : w1.heap.size < w3.heap.size := by have := hg3.size; simp at this; omega
            have HX3 : Hid (RdAt (w3.alloc (.cells #[.slice A7 n7 c7, .int .i64 0] 38)) w3.heap.size g7 l6 0 A7 n7 c7) := Lib.hid (rd_new _ (by simpa using hr7) (by simpa using hn7.out.symm) hle7 (by have := hn7.out; have := HL6.out; simp at *; omega) HS6.out hlt7)
            have HR3 : Hid (RdAt (w3.alloc (.cells #[.slice A7 n7 c7, .int .i64 0] 38)) R D l6 0 A1 n1 cap1') := Lib.hid (rd_alloc ((rd_alloc HR1.out _).kept hg3 (by simp; omega) (by simp; omega)) _)
            have HB3 : Hid (Below w6.heap.size w6 (w3.alloc (.cells #[.slice A7 n7 c7, .int .i64 0] 38))) := Lib.hid (((HB1.out.alloc HB1.out.size _).grown hg3 (by have := HB1.out.size; simp; omega) (fun k hk => by injection hk with hk; have := HB1.out.size; omega)).alloc (by have := HB1.out.size; omega) _)
            have hRX : R ≠ w3.heap.size := by omega
            have hRE : R ≠ g7 := by omega
            have hXD : w3.heap.size ≠ D := by omega
            have hBX : w6.heap.size ≤ w3.heap.size := by have := HB1.out.size; omega
            have HNE := Lib.hid (And.intro hRX (And.intro hRE hXD))
            have HNE2 := Lib.hid (And.intro hR hBX)
            clear hRX hRE hXD hRw1 hDw1 hr7 hn7 hO3 hge hle7 hlt7 hg3' ha3 hsz3 hBX hR hD HR1 HB1 HR6 HL6
            generalize w3.alloc (.cells #[.slice A7 n7 c7, .int .i64 0] 38) = w4' at *
            generalize w3.heap.size = X at *
            clear hg3
            go_loopw [87] (fun i w' => ∃ q5 : Nat, q5 ≤ q ∧ i = .int .i64 q5 ∧ Below w6.heap.size w6 w' ∧ ∃ l' e', Both R D X g7 l' e' w') (fun i _ => q - (intOf i).toNat)
            case atStart => exact ⟨0, by omega, rfl, HB3.out, l6, 0, ⟨_, _, _, HR3.out⟩, _, _, _, HX3.out⟩
            case round =>
              obtain ⟨q5, hq5, rfl, hb3, l5, e5, ⟨A5, n5, c5, hr5⟩, A8, n8, c8, hx6⟩ := hrel
              by_cases hqm5 : q5 < q
              · have hqm5' : (q5 : Int) < (q : Int) := by omega
                obtain ⟨b, o, rfl, hops⟩ := HF.out.resolve_left (by omega)
                have hop := (hops q5 (by omega)).below (HW6.out.1.trans (hb3.mono HW6.out.1.size))
                have hqz5 : 0 ≤ (q5 : Int) := by omega
                generalize f q5 = x at hop
                obtain ⟨kind, nn, mo, val, sA, sn, sc, sD, xs⟩ := x
                have d0 : wr.cell? ⟨b, o + q5 * 6, none⟩ = some (.int .i64 kind) := hop.c0
                have d1 : wr.cell? ⟨b, o + q5 * 6 + 1, none⟩ = some (.int .i64 nn) := hop.c1
                have d2 : wr.cell? ⟨b, o + q5 * 6 + 2, none⟩ = some (.int .i64 mo) := hop.c2
                have d3 : wr.cell? ⟨b, o + q5 * 6 + 3, none⟩ = some (.int .u64 (hi val)) := hop.c3
                have d4 : wr.cell? ⟨b, o + q5 * 6 + 4, none⟩ = some (.int .u64 (lo val)) := hop.c4
                have d5 : wr.cell? ⟨b, o + q5 * 6 + 5, none⟩ = some (.slice sA sn sc) := hop.c5
                have HRi := Lib.hid hr5
                have HXi := Lib.hid hx6
                have HBi := Lib.hid hb3
                clear hr5 hx6 hb3 hop hops
                go_upto_block 6 with (fail)
                go_cut [] from 93 to 139 (fun wx => Below w6.heap.size w6 wx ∧ ∃ l' e', Both R D X g7 l' e' wx)
                case first =>
                  by_cases hand0 : kind.tmod 6 = 0
                  · have hm : bits .and .i64 mo 3 = mo % 4 := i64_mask mo 2 (by decide)
                    have hwm : IntKind.i64.wrap (1 + mo % 4) = 1 + mo % 4 := IntWalk.i64_in _ (by omega)
                    have HA1 : Hid (-9223372036854775808 ≤ 1 + mo % 4) := Lib.hid (by omega)
                    have HA2 : Hid (1 + mo % 4 ≤ 9223372036854775807) := Lib.hid (by omega)
                    have HR0 : Hid (RdAt (wr.alloc (.cells #[.int .i64 kind, .int .i64 nn, .int .i64 mo, .int .u64 (hi val), .int .u64 (lo val), .slice sA sn sc] 28)).drew R D l5 e5 A5 n5 c5) := Lib.hid (rd_alloc HRi.out _).drew
                    have HX0 : Hid (RdAt (wr.alloc (.cells #[.int .i64 kind, .int .i64 nn, .int .i64 mo, .int .u64 (hi val), .int .u64 (lo val), .slice sA sn sc] 28)).drew X g7 l5 e5 A8 n8 c8) := Lib.hid (rd_alloc HXi.out _).drew
                    have hR0 : wr.heap.size ≠ R := by have := HRi.out.lt; omega
                    have hX0 : wr.heap.size ≠ X := by have := HXi.out.lt; omega
                    have hs0 : wr.heap.size < wr.heap.size + 1 := by omega
                    go_wp2
                    go_region_held3 (fun w' => w'.cell? ⟨wr.heap.size, 2, none⟩ = some (.int .i64 mo)) (go_keep) (first
                        | (go_at_call 16; first | (refine (m_uint R D l5 _ _ _ _ (1 + mo % 4) HA1.out HA2.out e5 HR1.out).mono ?_; rintro en wm ⟨rfl, Gm, AAm, NNm, CCm, RRm⟩; have km := keep_row Gm (b := wr.heap.size) (by first | exact hs1 | simp) hR0; have HFm := Lib.hid RRm; clear RRm) | (refine (m_uint R D l5 _ _ _ _ (1 + mo % 4) HA1.out HA2.out e5 HR0.out).mono ?_; rintro en wm ⟨rfl, Gm, AAm, NNm, CCm, RRm⟩; have hs1 : wr.heap.size < wm.heap.size := (by have := Gm.size; simp at this; omega); have km := keep_row Gm (b := wr.heap.size) (by first | exact hs1 | simp) hR0; have HX1 := Lib.hid (HX0.out.kept Gm (by simpa using HNE.out.1) (by simpa using HNE.out.2.1)); have HFm := Lib.hid RRm; clear RRm))
                        | (go_at_call 17; first | (refine (x_uint X g7 l5 _ _ _ _ (1 + mo % 4) HA1.out HA2.out e5 HX1.out).mono ?_; rintro en wx ⟨rfl, Gx, AAx, NNx, CCx, RRx⟩; have kx := keep_row Gx (b := wr.heap.size) (by first | exact hs1 | simp) hX0; have HFx := Lib.hid RRx; clear RRx) | (refine (x_uint X g7 l5 _ _ _ _ (1 + mo % 4) HA1.out HA2.out e5 HX0.out).mono ?_; rintro en wx ⟨rfl, Gx, AAx, NNx, CCx, RRx⟩; have hs1 : wr.heap.size < wx.heap.size := (by have := Gx.size; simp at this; omega); have kx := keep_row Gx (b := wr.heap.size) (by first | exact hs1 | simp) hX0; have HR1 := Lib.hid (HR0.out.kept Gx (by simpa using Ne.symm HNE.out.1) (by simpa using HNE.out.2.2)); have HFx := Lib.hid RRx; clear RRx)))
                    go_wp2
                    go_meet
                    have b0 : Below w6.heap.size w6 (wr.alloc (.cells #[.int .i64 kind, .int .i64 nn, .int .i64 mo, .int .u64 (hi val), .int .u64 (lo val), .slice sA sn sc] 28)).drew := (HBi.out.alloc HBi.out.size _).drew
                    have b1 := b0.grown Gm b0.size (fun j hj => by injection hj with hj; have := HNE2.out.1; omega)
                    have b2 := b1.grown Gx b1.size (fun j hj => by injection hj with hj; have := HNE2.out.2; omega)
                    exact ⟨b2, _, _, ⟨_, _, _, HFm.out.kept Gx (by simpa using Ne.symm HNE.out.1) (by simpa using HNE.out.2.2)⟩, _, _, _, HFx.out⟩
                  by_cases hand1 : kind.tmod 6 = 1
                  · have hm : bits .and .i64 mo 3 = mo % 4 := i64_mask mo 2 (by decide)
                    have hwm : IntKind.i64.wrap (1 + mo % 4) = 1 + mo % 4 := IntWalk.i64_in _ (by omega)
                    have HA1 : Hid (-9223372036854775808 ≤ 1 + mo % 4) := Lib.hid (by omega)
                    have HA2 : Hid (1 + mo % 4 ≤ 9223372036854775807) := Lib.hid (by omega)
                    have HR0 : Hid (RdAt (wr.alloc (.cells #[.int .i64 kind, .int .i64 nn, .int .i64 mo, .int .u64 (hi val), .int .u64 (lo val), .slice sA sn sc] 28)).drew R D l5 e5 A5 n5 c5) := Lib.hid (rd_alloc HRi.out _).drew
                    have HX0 : Hid (RdAt (wr.alloc (.cells #[.int .i64 kind, .int .i64 nn, .int .i64 mo, .int .u64 (hi val), .int .u64 (lo val), .slice sA sn sc] 28)).drew X g7 l5 e5 A8 n8 c8) := Lib.hid (rd_alloc HXi.out _).drew
                    have hR0 : wr.heap.size ≠ R := by have := HRi.out.lt; omega
                    have hX0 : wr.heap.size ≠ X := by have := HXi.out.lt; omega
                    have hs0 : wr.heap.size < wr.heap.size + 1 := by omega
                    go_wp2
                    go_region_held3 (fun w' => w'.cell? ⟨wr.heap.size, 2, none⟩ = some (.int .i64 mo)) (go_keep) (first
                        | (go_at_call 16; first | (refine (m_uint R D l5 _ _ _ _ (1 + mo % 4) HA1.out HA2.out e5 HR1.out).mono ?_; rintro en wm ⟨rfl, Gm, AAm, NNm, CCm, RRm⟩; have km := keep_row Gm (b := wr.heap.size) (by first | exact hs1 | simp) hR0; have HFm := Lib.hid RRm; clear RRm) | (refine (m_uint R D l5 _ _ _ _ (1 + mo % 4) HA1.out HA2.out e5 HR0.out).mono ?_; rintro en wm ⟨rfl, Gm, AAm, NNm, CCm, RRm⟩; have hs1 : wr.heap.size < wm.heap.size := (by have := Gm.size; simp at this; omega); have km := keep_row Gm (b := wr.heap.size) (by first | exact hs1 | simp) hR0; have HX1 := Lib.hid (HX0.out.kept Gm (by simpa using HNE.out.1) (by simpa using HNE.out.2.1)); have HFm := Lib.hid RRm; clear RRm))
                        | (go_at_call 17; first | (refine (x_uint X g7 l5 _ _ _ _ (1 + mo % 4) HA1.out HA2.out e5 HX1.out).mono ?_; rintro en wx ⟨rfl, Gx, AAx, NNx, CCx, RRx⟩; have kx := keep_row Gx (b := wr.heap.size) (by first | exact hs1 | simp) hX0; have HFx := Lib.hid RRx; clear RRx) | (refine (x_uint X g7 l5 _ _ _ _ (1 + mo % 4) HA1.out HA2.out e5 HX0.out).mono ?_; rintro en wx ⟨rfl, Gx, AAx, NNx, CCx, RRx⟩; have hs1 : wr.heap.size < wx.heap.size := (by have := Gx.size; simp at this; omega); have kx := keep_row Gx (b := wr.heap.size) (by first | exact hs1 | simp) hX0; have HR1 := Lib.hid (HR0.out.kept Gx (by simpa using Ne.symm HNE.out.1) (by simpa using HNE.out.2.2)); have HFx := Lib.hid RRx; clear RRx)))
                    go_wp2
                    go_meet
                    have b0 : Below w6.heap.size w6 (wr.alloc (.cells #[.int .i64 kind, .int .i64 nn, .int .i64 mo, .int .u64 (hi val), .int .u64 (lo val), .slice sA sn sc] 28)).drew := (HBi.out.alloc HBi.out.size _).drew
                    have b1 := b0.grown Gm b0.size (fun j hj => by injection hj with hj; have := HNE2.out.1; omega)
                    have b2 := b1.grown Gx b1.size (fun j hj => by injection hj with hj; have := HNE2.out.2; omega)
                    exact ⟨b2, _, _, ⟨_, _, _, HFm.out.kept Gx (by simpa using Ne.symm HNE.out.1) (by simpa using HNE.out.2.2)⟩, _, _, _, HFx.out⟩
                  by_cases hand2 : kind.tmod 6 = 2
                  · have HR0 : Hid (RdAt (wr.alloc (.cells #[.int .i64 kind, .int .i64 nn, .int .i64 mo, .int .u64 (hi val), .int .u64 (lo val), .slice sA sn sc] 28)) R D l5 e5 A5 n5 c5) := Lib.hid (rd_alloc HRi.out _)
                    have HX0 : Hid (RdAt (wr.alloc (.cells #[.int .i64 kind, .int .i64 nn, .int .i64 mo, .int .u64 (hi val), .int .u64 (lo val), .slice sA sn sc] 28)) X g7 l5 e5 A8 n8 c8) := Lib.hid (rd_alloc HXi.out _)
                    have hR0 : wr.heap.size ≠ R := by have := HRi.out.lt; omega
                    have hX0 : wr.heap.size ≠ X := by have := HXi.out.lt; omega
                    have hs0 : wr.heap.size < wr.heap.size + 1 := by omega
                    go_wp2_with (first
                        | (go_at_call 18; first | (refine (m_bool R D l5 _ _ _ _ e5 HR1.out).mono ?_; rintro en wm ⟨rfl, Gm, AAm, NNm, CCm, RRm⟩; have km := keep_row Gm (b := wr.heap.size) (by first | exact hs1 | simp) hR0; have HFm := Lib.hid RRm; clear RRm) | (refine (m_bool R D l5 _ _ _ _ e5 HR0.out).mono ?_; rintro en wm ⟨rfl, Gm, AAm, NNm, CCm, RRm⟩; have hs1 : wr.heap.size < wm.heap.size := (by have := Gm.size; simp at this; omega); have km := keep_row Gm (b := wr.heap.size) (by first | exact hs1 | simp) hR0; have HX1 := Lib.hid (HX0.out.kept Gm (by simpa using HNE.out.1) (by simpa using HNE.out.2.1)); have HFm := Lib.hid RRm; clear RRm))
                        | (go_at_call 19; first | (refine (x_bool X g7 l5 _ _ _ _ e5 HX1.out).mono ?_; rintro en wx ⟨rfl, Gx, AAx, NNx, CCx, RRx⟩; have kx := keep_row Gx (b := wr.heap.size) (by first | exact hs1 | simp) hX0; have HFx := Lib.hid RRx; clear RRx) | (refine (x_bool X g7 l5 _ _ _ _ e5 HX0.out).mono ?_; rintro en wx ⟨rfl, Gx, AAx, NNx, CCx, RRx⟩; have hs1 : wr.heap.size < wx.heap.size := (by have := Gx.size; simp at this; omega); have kx := keep_row Gx (b := wr.heap.size) (by first | exact hs1 | simp) hX0; have HR1 := Lib.hid (HR0.out.kept Gx (by simpa using Ne.symm HNE.out.1) (by simpa using HNE.out.2.2)); have HFx := Lib.hid RRx; clear RRx)))
                    go_meet
                    have b0 : Below w6.heap.size w6 (wr.alloc (.cells #[.int .i64 kind, .int .i64 nn, .int .i64 mo, .int .u64 (hi val), .int .u64 (lo val), .slice sA sn sc] 28)) := (HBi.out.alloc HBi.out.size _)
                    have b1 := b0.grown Gm b0.size (fun j hj => by injection hj with hj; have := HNE2.out.1; omega)
                    have b2 := b1.grown Gx b1.size (fun j hj => by injection hj with hj; have := HNE2.out.2; omega)
                    exact ⟨b2, _, _, ⟨_, _, _, HFm.out.kept Gx (by simpa using Ne.symm HNE.out.1) (by simpa using HNE.out.2.2)⟩, _, _, _, HFx.out⟩
                  by_cases hand3 : kind.tmod 6 = 3
                  · have HR0 : Hid (RdAt (wr.alloc (.cells #[.int .i64 kind, .int .i64 nn, .int .i64 mo, .int .u64 (hi val), .int .u64 (lo val), .slice sA sn sc] 28)).drew R D l5 e5 A5 n5 c5) := Lib.hid (rd_alloc HRi.out _).drew
                    have HX0 : Hid (RdAt (wr.alloc (.cells #[.int .i64 kind, .int .i64 nn, .int .i64 mo, .int .u64 (hi val), .int .u64 (lo val), .slice sA sn sc] 28)).drew X g7 l5 e5 A8 n8 c8) := Lib.hid (rd_alloc HXi.out _).drew
                    have hR0 : wr.heap.size ≠ R := by have := HRi.out.lt; omega
                    have hX0 : wr.heap.size ≠ X := by have := HXi.out.lt; omega
                    have hs0 : wr.heap.size < wr.heap.size + 1 := by omega
                    go_wp2
                    go_region_with (first
                        | (go_at_call 20; first | (refine (m_bytes R D l5 _ _ _ _ most e5 HR1.out).mono ?_; rintro en wm ⟨Abm, nbm, cbm, gbm, hrbm, hlbm, hnbm, rfl, Gm, AAm, NNm, CCm, RRm⟩; have km := keep_row Gm (b := wr.heap.size) (by first | exact hs1 | simp) hR0; have cvm := conv_list cbm hrbm hnbm.out.symm; have HFm := Lib.hid RRm; clear RRm) | (refine (m_bytes R D l5 _ _ _ _ most e5 HR0.out).mono ?_; rintro en wm ⟨Abm, nbm, cbm, gbm, hrbm, hlbm, hnbm, rfl, Gm, AAm, NNm, CCm, RRm⟩; have hs1 : wr.heap.size < wm.heap.size := (by have := Gm.size; simp at this; omega); have km := keep_row Gm (b := wr.heap.size) (by first | exact hs1 | simp) hR0; have HX1 := Lib.hid (HX0.out.kept Gm (by simpa using HNE.out.1) (by simpa using HNE.out.2.1)); have cvm := conv_list cbm hrbm hnbm.out.symm; have HFm := Lib.hid RRm; clear RRm))
                        | (go_at_call 21; first | (refine (x_bytes X g7 l5 _ _ _ _ most e5 HX1.out).mono ?_; rintro en wx ⟨Abx, nbx, cbx, gbx, hrbx, hlbx, hnbx, rfl, Gx, AAx, NNx, CCx, RRx⟩; have kx := keep_row Gx (b := wr.heap.size) (by first | exact hs1 | simp) hX0; have cvx := conv_list cbx hrbx hnbx.out.symm; have cvm2 := conv_list cbm (hrbm.kept Gx (by have := HX0.out.lt; simp; omega)) hnbm.out.symm; have HFx := Lib.hid RRx; clear RRx) | (refine (x_bytes X g7 l5 _ _ _ _ most e5 HX0.out).mono ?_; rintro en wx ⟨Abx, nbx, cbx, gbx, hrbx, hlbx, hnbx, rfl, Gx, AAx, NNx, CCx, RRx⟩; have hs1 : wr.heap.size < wx.heap.size := (by have := Gx.size; simp at this; omega); have kx := keep_row Gx (b := wr.heap.size) (by first | exact hs1 | simp) hX0; have HR1 := Lib.hid (HR0.out.kept Gx (by simpa using Ne.symm HNE.out.1) (by simpa using HNE.out.2.2)); have cvx := conv_list cbx hrbx hnbx.out.symm; have cvm2 := conv_list cbm (hrbm.kept Gx (by have := HX0.out.lt; simp; omega)) hnbm.out.symm; have HFx := Lib.hid RRx; clear RRx)))
                    all_goals go_wp2
                    all_goals go_meet
                    all_goals have b0 : Below w6.heap.size w6 (wr.alloc (.cells #[.int .i64 kind, .int .i64 nn, .int .i64 mo, .int .u64 (hi val), .int .u64 (lo val), .slice sA sn sc] 28)).drew := (HBi.out.alloc HBi.out.size _).drew
                    all_goals have b1 := b0.grown Gm b0.size (fun j hj => by injection hj with hj; have := HNE2.out.1; omega)
                    all_goals have b2 := b1.grown Gx b1.size (fun j hj => by injection hj with hj; have := HNE2.out.2; omega)
                    all_goals exact ⟨b2, _, _, ⟨_, _, _, HFm.out.kept Gx (by simpa using Ne.symm HNE.out.1) (by simpa using HNE.out.2.2)⟩, _, _, _, HFx.out⟩
                  by_cases hand4 : kind.tmod 6 = 4
                  · have HR0 : Hid (RdAt (wr.alloc (.cells #[.int .i64 kind, .int .i64 nn, .int .i64 mo, .int .u64 (hi val), .int .u64 (lo val), .slice sA sn sc] 28)) R D l5 e5 A5 n5 c5) := Lib.hid (rd_alloc HRi.out _)
                    have HX0 : Hid (RdAt (wr.alloc (.cells #[.int .i64 kind, .int .i64 nn, .int .i64 mo, .int .u64 (hi val), .int .u64 (lo val), .slice sA sn sc] 28)) X g7 l5 e5 A8 n8 c8) := Lib.hid (rd_alloc HXi.out _)
                    have hR0 : wr.heap.size ≠ R := by have := HRi.out.lt; omega
                    have hX0 : wr.heap.size ≠ X := by have := HXi.out.lt; omega
                    have hs0 : wr.heap.size < wr.heap.size + 1 := by omega
                    go_wp2_with (first
                        | (go_at_call 22; first | (refine (m_text R D l5 _ _ _ _ 40 e5 HR1.out).mono ?_; rintro en wm ⟨rfl, Gm, AAm, NNm, CCm, RRm⟩; have km := keep_row Gm (b := wr.heap.size) (by first | exact hs1 | simp) hR0; have HFm := Lib.hid RRm; clear RRm) | (refine (m_text R D l5 _ _ _ _ 40 e5 HR0.out).mono ?_; rintro en wm ⟨rfl, Gm, AAm, NNm, CCm, RRm⟩; have hs1 : wr.heap.size < wm.heap.size := (by have := Gm.size; simp at this; omega); have km := keep_row Gm (b := wr.heap.size) (by first | exact hs1 | simp) hR0; have HX1 := Lib.hid (HX0.out.kept Gm (by simpa using HNE.out.1) (by simpa using HNE.out.2.1)); have HFm := Lib.hid RRm; clear RRm))
                        | (go_at_call 23; first | (refine (x_text X g7 l5 _ _ _ _ 40 e5 HX1.out).mono ?_; rintro en wx ⟨rfl, Gx, AAx, NNx, CCx, RRx⟩; have kx := keep_row Gx (b := wr.heap.size) (by first | exact hs1 | simp) hX0; have HFx := Lib.hid RRx; clear RRx) | (refine (x_text X g7 l5 _ _ _ _ 40 e5 HX0.out).mono ?_; rintro en wx ⟨rfl, Gx, AAx, NNx, CCx, RRx⟩; have hs1 : wr.heap.size < wx.heap.size := (by have := Gx.size; simp at this; omega); have kx := keep_row Gx (b := wr.heap.size) (by first | exact hs1 | simp) hX0; have HR1 := Lib.hid (HR0.out.kept Gx (by simpa using Ne.symm HNE.out.1) (by simpa using HNE.out.2.2)); have HFx := Lib.hid RRx; clear RRx)))
                    go_meet
                    have b0 : Below w6.heap.size w6 (wr.alloc (.cells #[.int .i64 kind, .int .i64 nn, .int .i64 mo, .int .u64 (hi val), .int .u64 (lo val), .slice sA sn sc] 28)) := (HBi.out.alloc HBi.out.size _)
                    have b1 := b0.grown Gm b0.size (fun j hj => by injection hj with hj; have := HNE2.out.1; omega)
                    have b2 := b1.grown Gx b1.size (fun j hj => by injection hj with hj; have := HNE2.out.2; omega)
                    exact ⟨b2, _, _, ⟨_, _, _, HFm.out.kept Gx (by simpa using Ne.symm HNE.out.1) (by simpa using HNE.out.2.2)⟩, _, _, _, HFx.out⟩
                  obtain ⟨u, HU⟩ : ∃ u, Hid (pick (vE l5) e5 0 (pV (vX l5)) = u) := ⟨_, Lib.hid rfl⟩
                  have hk0 : (kind.tmod 6 == 0) = false := by simpa using hand0
                  have hk1 : (kind.tmod 6 == 1) = false := by simpa using hand1
                  have hk2 : (kind.tmod 6 == 2) = false := by simpa using hand2
                  have hk3 : (kind.tmod 6 == 3) = false := by simpa using hand3
                  have hk4 : (kind.tmod 6 == 4) = false := by simpa using hand4
                  have HR0 : Hid (RdAt (wr.alloc (.cells #[.int .i64 kind, .int .i64 nn, .int .i64 mo, .int .u64 (hi val), .int .u64 (lo val), .slice sA sn sc] 28)) R D l5 e5 A5 n5 c5) := Lib.hid (rd_alloc HRi.out _)
                  have HX0 : Hid (RdAt (wr.alloc (.cells #[.int .i64 kind, .int .i64 nn, .int .i64 mo, .int .u64 (hi val), .int .u64 (lo val), .slice sA sn sc] 28)) X g7 l5 e5 A8 n8 c8) := Lib.hid (rd_alloc HXi.out _)
                  have hR0 : wr.heap.size ≠ R := by have := HRi.out.lt; omega
                  have hX0 : wr.heap.size ≠ X := by have := HXi.out.lt; omega
                  have hs0 : wr.heap.size < wr.heap.size + 1 := by omega
                  go_wp2_with (first
                      | (go_at_call 24; first | (refine (m_value' R D l5 _ _ _ _ e5 u HU HR1.out).mono ?_; rintro en wm ⟨rfl, Gm, AAm, NNm, CCm, RRm⟩; have km := keep_row Gm (b := wr.heap.size) (by first | exact hs1 | simp) hR0; have HFm := Lib.hid RRm; clear RRm) | (refine (m_value' R D l5 _ _ _ _ e5 u HU HR0.out).mono ?_; rintro en wm ⟨rfl, Gm, AAm, NNm, CCm, RRm⟩; have hs1 : wr.heap.size < wm.heap.size := (by have := Gm.size; simp at this; omega); have km := keep_row Gm (b := wr.heap.size) (by first | exact hs1 | simp) hR0; have HX1 := Lib.hid (HX0.out.kept Gm (by simpa using HNE.out.1) (by simpa using HNE.out.2.1)); have HFm := Lib.hid RRm; clear RRm))
                      | (go_at_call 25; first | (refine (x_value' X g7 l5 _ _ _ _ e5 u HU HX1.out).mono ?_; rintro en wx ⟨rfl, Gx, AAx, NNx, CCx, RRx⟩; have kx := keep_row Gx (b := wr.heap.size) (by first | exact hs1 | simp) hX0; have HFx := Lib.hid RRx; clear RRx) | (refine (x_value' X g7 l5 _ _ _ _ e5 u HU HX0.out).mono ?_; rintro en wx ⟨rfl, Gx, AAx, NNx, CCx, RRx⟩; have hs1 : wr.heap.size < wx.heap.size := (by have := Gx.size; simp at this; omega); have kx := keep_row Gx (b := wr.heap.size) (by first | exact hs1 | simp) hX0; have HR1 := Lib.hid (HR0.out.kept Gx (by simpa using Ne.symm HNE.out.1) (by simpa using HNE.out.2.2)); have HFx := Lib.hid RRx; clear RRx)))
                  go_meet
                  have b0 : Below w6.heap.size w6 (wr.alloc (.cells #[.int .i64 kind, .int .i64 nn, .int .i64 mo, .int .u64 (hi val), .int .u64 (lo val), .slice sA sn sc] 28)) := (HBi.out.alloc HBi.out.size _)
                  have b1 := b0.grown Gm b0.size (fun j hj => by injection hj with hj; have := HNE2.out.1; omega)
                  have b2 := b1.grown Gx b1.size (fun j hj => by injection hj with hj; have := HNE2.out.2; omega)
                  exact ⟨b2, _, _, ⟨_, _, _, HFm.out.kept Gx (by simpa using Ne.symm HNE.out.1) (by simpa using HNE.out.2.2)⟩, _, _, _, HFx.out⟩
                case rest =>
                  obtain ⟨hb7, l7, e7, ⟨A7, n9, c7, hr7⟩, A9, n10, c9, hx8⟩ := hcut
                  have hnn : n10 = n9 := by rw [← hx8.len, ← hr7.len]
                  subst hnn
                  have k0 := hx8.drew.c0
                  have k1 := hx8.drew.c1
                  have HR7 := Lib.hid hr7.drew
                  have HX8 := Lib.hid hx8.drew
                  have HB7 := Lib.hid hb7.drew
                  clear hr7 hx8 hb7
                  go_wp2
                  refine wp_region_noPanic ?_
                  refine wp_region_held_drew (S := fun _ => True) (by kernel_rfl) trivial (fun hHeld => ?_)
                  refine wpAnyH_take (i := 0) (oi := ({ dst := some 140, op := Op.move (Operand.tmp 18), type := _, pos := "law.go:121", after := _, guard := none } : Oper)) (v := ?_) rfl (by kernel_rfl) (by kernel_rfl) (by kernel_rfl) (fun _ _ _ h => h) (Or.inl ⟨by rfl, ?_⟩) hHeld ?_
                  rotate_left
                  · (intro w1 hSw; (try dsimp only at hSw); go_simp; all_goals with_reducible rfl)
                  (try simp only [Act.put, List.setIfInBounds_toArray, List.set_cons_zero, List.set_cons_succ])
                  refine wpAnyH_take (i := 2) (oi := ({ dst := some 142, op := Op.move (Operand.tmp 19), type := _, pos := "law.go:121", after := _, guard := none } : Oper)) (v := ?_) rfl (by kernel_rfl) (by kernel_rfl) (by kernel_rfl) (fun _ _ _ h => h) (Or.inl ⟨by rfl, ?_⟩) hHeld ?_
                  rotate_left
                  · (intro w1 hSw; (try dsimp only at hSw); go_simp; all_goals with_reducible rfl)
                  (try simp only [Act.put, List.setIfInBounds_toArray, List.set_cons_zero, List.set_cons_succ])
                  refine wpAnyH_take (i := 3) (oi := ({ dst := some 143, op := Op.nilCheck (Operand.tmp 142), type := _, pos := "law.go:121", after := _, guard := none } : Oper)) (v := ?_) rfl (by kernel_rfl) (by kernel_rfl) (by kernel_rfl) (fun _ _ _ h => h) (Or.inl ⟨by rfl, ?_⟩) hHeld ?_
                  rotate_left
                  · (intro w1 hSw; (try dsimp only at hSw); go_simp; all_goals with_reducible rfl)
                  (try simp only [Act.put, List.setIfInBounds_toArray, List.set_cons_zero, List.set_cons_succ])
                  refine wpAnyH_take (i := 4) (oi := ({ dst := some 144, op := Op.fieldAddr 38 (Operand.tmp 143) 1, type := _, pos := "law.go:121", after := _, guard := none } : Oper)) (v := ?_) rfl (by kernel_rfl) (by kernel_rfl) (by kernel_rfl) (fun _ _ _ h => h) (Or.inl ⟨by rfl, ?_⟩) hHeld ?_
                  rotate_left
                  · (intro w1 hSw; (try dsimp only at hSw); go_simp; all_goals with_reducible rfl)
                  (try simp only [Act.put, List.setIfInBounds_toArray, List.set_cons_zero, List.set_cons_succ])
                  refine wpAnyH_ready (rs := [1, 5]) (by kernel_rfl) (by simp) ?_
                  refine AllReadyH.cons (o := ({ dst := some 141, op := Op.call { callee := Callee.value (Operand.func 13), args := #[Operand.tmp 140], argTypes := _ }, type := _, pos := "law.go:121", after := _, guard := none } : Oper)) rfl (fun K hK => ?_) (AllReadyH.cons (o := ({ dst := some 145, op := Op.load 36 (Operand.tmp 144), type := _, pos := "law.go:121", after := _, guard := none } : Oper)) rfl (fun K hK => ?_) AllReadyH.nil)
                  · go_simp
                    go_wp2_with (go_at_call 13; (refine (err_any R D l7 A7 n10 c7 _ e7 HR7.out).mono ?_; rintro en w' ⟨rfl, rfl⟩))
                    refine hK.out _ _ ?_ (fun hHeld2 => ?_)
                    · trivial
                    clear hK K hHeld
                    have hHeld := hHeld2
                    clear hHeld2
                    (try simp only [Act.put, List.setIfInBounds_toArray, List.set_cons_zero, List.set_cons_succ])
                    refine wpAnyH_ready (rs := [5]) (by kernel_rfl) (by simp) ?_
                    refine AllReadyH.cons (o := ({ dst := some 145, op := Op.load 36 (Operand.tmp 144), type := _, pos := "law.go:121", after := _, guard := none } : Oper)) rfl (fun K hK => ?_) AllReadyH.nil
                    go_simp
                    go_wp2_with fail
                    refine hK.out _ _ ?_ (fun hHeld2 => ?_)
                    · trivial
                    clear hK K hHeld
                    have hHeld := hHeld2
                    clear hHeld2
                    (try simp only [Act.put, List.setIfInBounds_toArray, List.set_cons_zero, List.set_cons_succ])
                    refine wpAnyH_take (i := 6) (oi := ({ dst := some 146, op := Op.binOp BinOp.neq 36 (Operand.tmp 141) (Operand.tmp 145) 36, type := _, pos := "law.go:121", after := _, guard := none } : Oper)) (v := ?_) rfl (by kernel_rfl) (by kernel_rfl) (by kernel_rfl) (fun _ _ _ h => h) (Or.inl ⟨by rfl, ?_⟩) hHeld ?_
                    rotate_left
                    · (intro w1 hSw; (try dsimp only at hSw); go_simp; all_goals with_reducible rfl)
                    (try simp only [Act.put, List.setIfInBounds_toArray, List.set_cons_zero, List.set_cons_succ])
                    refine wpAnyH_take (i := 7) (oi := ({ dst := some 147, op := Op.move (Operand.tmp 146), type := _, pos := "law.go:121", after := _, guard := none } : Oper)) (v := ?_) rfl (by kernel_rfl) (by kernel_rfl) (by kernel_rfl) (fun _ _ _ h => h) (Or.inl ⟨by rfl, ?_⟩) hHeld ?_
                    rotate_left
                    · (intro w1 hSw; (try dsimp only at hSw); go_simp; all_goals with_reducible rfl)
                    (try simp only [Act.put, List.setIfInBounds_toArray, List.set_cons_zero, List.set_cons_succ])
                    refine wpAnyH_take (i := 8) (oi := ({ dst := some 148, op := Op.move (Operand.tmp 18), type := _, pos := "law.go:121", after := _, guard := some (7, false) } : Oper)) (v := ?_) rfl (by kernel_rfl) (by kernel_rfl) (by kernel_rfl) (fun _ _ _ h => h) (Or.inl ⟨by rfl, ?_⟩) hHeld ?_
                    rotate_left
                    · (intro w1 hSw; (try dsimp only at hSw); go_simp; all_goals with_reducible rfl)
                    (try simp only [Act.put, List.setIfInBounds_toArray, List.set_cons_zero, List.set_cons_succ])
                    refine wpAnyH_take (i := 10) (oi := ({ dst := some 150, op := Op.move (Operand.tmp 19), type := _, pos := "law.go:121", after := _, guard := some (7, false) } : Oper)) (v := ?_) rfl (by kernel_rfl) (by kernel_rfl) (by kernel_rfl) (fun _ _ _ h => h) (Or.inl ⟨by rfl, ?_⟩) hHeld ?_
                    rotate_left
                    · (intro w1 hSw; (try dsimp only at hSw); go_simp; all_goals with_reducible rfl)
                    (try simp only [Act.put, List.setIfInBounds_toArray, List.set_cons_zero, List.set_cons_succ])
                    refine wpAnyH_take (i := 11) (oi := ({ dst := some 151, op := Op.nilCheck (Operand.tmp 150), type := _, pos := "law.go:121", after := _, guard := some (7, false) } : Oper)) (v := ?_) rfl (by kernel_rfl) (by kernel_rfl) (by kernel_rfl) (fun _ _ _ h => h) (Or.inl ⟨by rfl, ?_⟩) hHeld ?_
                    rotate_left
                    · (intro w1 hSw; (try dsimp only at hSw); go_simp; all_goals with_reducible rfl)
                    (try simp only [Act.put, List.setIfInBounds_toArray, List.set_cons_zero, List.set_cons_succ])
                    refine wpAnyH_take (i := 12) (oi := ({ dst := some 152, op := Op.fieldAddr 38 (Operand.tmp 151) 0, type := _, pos := "law.go:121", after := _, guard := some (7, false) } : Oper)) (v := ?_) rfl (by kernel_rfl) (by kernel_rfl) (by kernel_rfl) (fun _ _ _ h => h) (Or.inl ⟨by rfl, ?_⟩) hHeld ?_
                    rotate_left
                    · (intro w1 hSw; (try dsimp only at hSw); go_simp; all_goals with_reducible rfl)
                    (try simp only [Act.put, List.setIfInBounds_toArray, List.set_cons_zero, List.set_cons_succ])
                    refine wpAnyH_ready (rs := [9, 13]) (by kernel_rfl) (by simp) ?_
                    refine AllReadyH.cons (o := ({ dst := some 149, op := Op.call { callee := Callee.value (Operand.func 12), args := #[Operand.tmp 148], argTypes := _ }, type := _, pos := "law.go:121", after := _, guard := some (7, false) } : Oper)) rfl (fun K hK => ?_) (AllReadyH.cons (o := ({ dst := some 153, op := Op.load 23 (Operand.tmp 152), type := _, pos := "law.go:121", after := _, guard := some (7, false) } : Oper)) rfl (fun K hK => ?_) AllReadyH.nil)
                    · go_simp
                      go_wp2_with (go_at_call 12; (refine (left_any' R D l7 A7 n10 c7 _ e7 HR7.out).mono ?_; rintro en w' ⟨rfl, rfl⟩))
                      refine hK.out _ _ ?_ (fun hHeld2 => ?_)
                      · trivial
                      clear hK K hHeld
                      have hHeld := hHeld2
                      clear hHeld2
                      (try simp only [Act.put, List.setIfInBounds_toArray, List.set_cons_zero, List.set_cons_succ])
                      refine wpAnyH_ready (rs := [13]) (by kernel_rfl) (by simp) ?_
                      refine AllReadyH.cons (o := ({ dst := some 153, op := Op.load 23 (Operand.tmp 152), type := _, pos := "law.go:121", after := _, guard := some (7, false) } : Oper)) rfl (fun K hK => ?_) AllReadyH.nil
                      go_simp
                      go_wp2_with fail
                      refine hK.out _ _ ?_ (fun hHeld2 => ?_)
                      · trivial
                      clear hK K hHeld
                      have hHeld := hHeld2
                      clear hHeld2
                      (try simp only [Act.put, List.setIfInBounds_toArray, List.set_cons_zero, List.set_cons_succ])
                      refine wpAnyH_take (i := 14) (oi := ({ dst := some 154, op := Op.call { callee := Callee.builtin Builtin.len, args := #[Operand.tmp 153], argTypes := _ }, type := _, pos := "law.go:121", after := _, guard := some (7, false) } : Oper)) (v := ?_) rfl (by kernel_rfl) (by kernel_rfl) (by kernel_rfl) (fun _ _ _ h => h) (Or.inl ⟨by rfl, ?_⟩) hHeld ?_
                      rotate_left
                      · (intro w1 hSw; (try dsimp only at hSw); go_simp; all_goals with_reducible rfl)
                      (try simp only [Act.put, List.setIfInBounds_toArray, List.set_cons_zero, List.set_cons_succ])
                      refine wpAnyH_take (i := 15) (oi := ({ dst := some 155, op := Op.binOp BinOp.neq 3 (Operand.tmp 149) (Operand.tmp 154) 3, type := _, pos := "law.go:121", after := _, guard := some (7, false) } : Oper)) (v := ?_) rfl (by kernel_rfl) (by kernel_rfl) (by kernel_rfl) (fun _ _ _ h => h) (Or.inl ⟨by rfl, ?_⟩) hHeld ?_
                      rotate_left
                      · (intro w1 hSw; (try dsimp only at hSw); go_simp; all_goals with_reducible rfl)
                      (try simp only [Act.put, List.setIfInBounds_toArray, List.set_cons_zero, List.set_cons_succ])
                      refine wpAnyH_take (i := 16) (oi := ({ dst := some 156, op := Op.pick (Operand.tmp 147) (Operand.const (Value.bool true)) (Operand.tmp 155), type := _, pos := "law.go:121", after := _, guard := none } : Oper)) (v := ?_) rfl (by kernel_rfl) (by kernel_rfl) (by kernel_rfl) (fun _ _ _ h => h) (Or.inl ⟨by rfl, ?_⟩) hHeld ?_
                      rotate_left
                      · (intro w1 hSw; (try dsimp only at hSw); go_simp; all_goals with_reducible rfl)
                      (try simp only [Act.put, List.setIfInBounds_toArray, List.set_cons_zero, List.set_cons_succ])
                      refine wpAnyH_done (by kernel_rfl) ?_ _
                      refine NoPanic.normal ?_
                      go_wp2
                      go_roundw
                      case rel => exact ⟨q5 + 1, by omega, by simp, HB7.out, _, _, ⟨_, _, _, HR7.out⟩, _, _, _, HX8.out⟩
                      case measure => simp [intOf]; omega
                    · go_simp
                      go_wp2_with fail
                      refine hK.out _ _ ?_ (fun hHeld2 => ?_)
                      · trivial
                      clear hK K hHeld
                      have hHeld := hHeld2
                      clear hHeld2
                      (try simp only [Act.put, List.setIfInBounds_toArray, List.set_cons_zero, List.set_cons_succ])
                      refine wpAnyH_take (i := 14) (oi := ({ dst := some 154, op := Op.call { callee := Callee.builtin Builtin.len, args := #[Operand.tmp 153], argTypes := _ }, type := _, pos := "law.go:121", after := _, guard := some (7, false) } : Oper)) (v := ?_) rfl (by kernel_rfl) (by kernel_rfl) (by kernel_rfl) (fun _ _ _ h => h) (Or.inl ⟨by rfl, ?_⟩) hHeld ?_
                      rotate_left
                      · (intro w1 hSw; (try dsimp only at hSw); go_simp; all_goals with_reducible rfl)
                      (try simp only [Act.put, List.setIfInBounds_toArray, List.set_cons_zero, List.set_cons_succ])
                      refine wpAnyH_ready (rs := [9]) (by kernel_rfl) (by simp) ?_
                      refine AllReadyH.cons (o := ({ dst := some 149, op := Op.call { callee := Callee.value (Operand.func 12), args := #[Operand.tmp 148], argTypes := _ }, type := _, pos := "law.go:121", after := _, guard := some (7, false) } : Oper)) rfl (fun K hK => ?_) AllReadyH.nil
                      go_simp
                      go_wp2_with (go_at_call 12; (refine (left_any' R D l7 A7 n10 c7 _ e7 HR7.out).mono ?_; rintro en w' ⟨rfl, rfl⟩))
                      refine hK.out _ _ ?_ (fun hHeld2 => ?_)
                      · trivial
                      clear hK K hHeld
                      have hHeld := hHeld2
                      clear hHeld2
                      (try simp only [Act.put, List.setIfInBounds_toArray, List.set_cons_zero, List.set_cons_succ])
                      refine wpAnyH_take (i := 15) (oi := ({ dst := some 155, op := Op.binOp BinOp.neq 3 (Operand.tmp 149) (Operand.tmp 154) 3, type := _, pos := "law.go:121", after := _, guard := some (7, false) } : Oper)) (v := ?_) rfl (by kernel_rfl) (by kernel_rfl) (by kernel_rfl) (fun _ _ _ h => h) (Or.inl ⟨by rfl, ?_⟩) hHeld ?_
                      rotate_left
                      · (intro w1 hSw; (try dsimp only at hSw); go_simp; all_goals with_reducible rfl)
                      (try simp only [Act.put, List.setIfInBounds_toArray, List.set_cons_zero, List.set_cons_succ])
                      refine wpAnyH_take (i := 16) (oi := ({ dst := some 156, op := Op.pick (Operand.tmp 147) (Operand.const (Value.bool true)) (Operand.tmp 155), type := _, pos := "law.go:121", after := _, guard := none } : Oper)) (v := ?_) rfl (by kernel_rfl) (by kernel_rfl) (by kernel_rfl) (fun _ _ _ h => h) (Or.inl ⟨by rfl, ?_⟩) hHeld ?_
                      rotate_left
                      · (intro w1 hSw; (try dsimp only at hSw); go_simp; all_goals with_reducible rfl)
                      (try simp only [Act.put, List.setIfInBounds_toArray, List.set_cons_zero, List.set_cons_succ])
                      refine wpAnyH_done (by kernel_rfl) ?_ _
                      refine NoPanic.normal ?_
                      go_wp2
                      go_roundw
                      case rel => exact ⟨q5 + 1, by omega, by simp, HB7.out, _, _, ⟨_, _, _, HR7.out⟩, _, _, _, HX8.out⟩
                      case measure => simp [intOf]; omega
                  · go_simp
                    go_wp2_with fail
                    refine hK.out _ _ ?_ (fun hHeld2 => ?_)
                    · trivial
                    clear hK K hHeld
                    have hHeld := hHeld2
                    clear hHeld2
                    (try simp only [Act.put, List.setIfInBounds_toArray, List.set_cons_zero, List.set_cons_succ])
                    refine wpAnyH_ready (rs := [1]) (by kernel_rfl) (by simp) ?_
                    refine AllReadyH.cons (o := ({ dst := some 141, op := Op.call { callee := Callee.value (Operand.func 13), args := #[Operand.tmp 140], argTypes := _ }, type := _, pos := "law.go:121", after := _, guard := none } : Oper)) rfl (fun K hK => ?_) AllReadyH.nil
                    go_simp
                    go_wp2_with (go_at_call 13; (refine (err_any R D l7 A7 n10 c7 _ e7 HR7.out).mono ?_; rintro en w' ⟨rfl, rfl⟩))
                    refine hK.out _ _ ?_ (fun hHeld2 => ?_)
                    · trivial
                    clear hK K hHeld
                    have hHeld := hHeld2
                    clear hHeld2
                    (try simp only [Act.put, List.setIfInBounds_toArray, List.set_cons_zero, List.set_cons_succ])
                    refine wpAnyH_take (i := 6) (oi := ({ dst := some 146, op := Op.binOp BinOp.neq 36 (Operand.tmp 141) (Operand.tmp 145) 36, type := _, pos := "law.go:121", after := _, guard := none } : Oper)) (v := ?_) rfl (by kernel_rfl) (by kernel_rfl) (by kernel_rfl) (fun _ _ _ h => h) (Or.inl ⟨by rfl, ?_⟩) hHeld ?_
                    rotate_left
                    · (intro w1 hSw; (try dsimp only at hSw); go_simp; all_goals with_reducible rfl)
                    (try simp only [Act.put, List.setIfInBounds_toArray, List.set_cons_zero, List.set_cons_succ])
                    refine wpAnyH_take (i := 7) (oi := ({ dst := some 147, op := Op.move (Operand.tmp 146), type := _, pos := "law.go:121", after := _, guard := none } : Oper)) (v := ?_) rfl (by kernel_rfl) (by kernel_rfl) (by kernel_rfl) (fun _ _ _ h => h) (Or.inl ⟨by rfl, ?_⟩) hHeld ?_
                    rotate_left
                    · (intro w1 hSw; (try dsimp only at hSw); go_simp; all_goals with_reducible rfl)
                    (try simp only [Act.put, List.setIfInBounds_toArray, List.set_cons_zero, List.set_cons_succ])
                    refine wpAnyH_take (i := 8) (oi := ({ dst := some 148, op := Op.move (Operand.tmp 18), type := _, pos := "law.go:121", after := _, guard := some (7, false) } : Oper)) (v := ?_) rfl (by kernel_rfl) (by kernel_rfl) (by kernel_rfl) (fun _ _ _ h => h) (Or.inl ⟨by rfl, ?_⟩) hHeld ?_
                    rotate_left
                    · (intro w1 hSw; (try dsimp only at hSw); go_simp; all_goals with_reducible rfl)
                    (try simp only [Act.put, List.setIfInBounds_toArray, List.set_cons_zero, List.set_cons_succ])
                    refine wpAnyH_take (i := 10) (oi := ({ dst := some 150, op := Op.move (Operand.tmp 19), type := _, pos := "law.go:121", after := _, guard := some (7, false) } : Oper)) (v := ?_) rfl (by kernel_rfl) (by kernel_rfl) (by kernel_rfl) (fun _ _ _ h => h) (Or.inl ⟨by rfl, ?_⟩) hHeld ?_
                    rotate_left
                    · (intro w1 hSw; (try dsimp only at hSw); go_simp; all_goals with_reducible rfl)
                    (try simp only [Act.put, List.setIfInBounds_toArray, List.set_cons_zero, List.set_cons_succ])
                    refine wpAnyH_take (i := 11) (oi := ({ dst := some 151, op := Op.nilCheck (Operand.tmp 150), type := _, pos := "law.go:121", after := _, guard := some (7, false) } : Oper)) (v := ?_) rfl (by kernel_rfl) (by kernel_rfl) (by kernel_rfl) (fun _ _ _ h => h) (Or.inl ⟨by rfl, ?_⟩) hHeld ?_
                    rotate_left
                    · (intro w1 hSw; (try dsimp only at hSw); go_simp; all_goals with_reducible rfl)
                    (try simp only [Act.put, List.setIfInBounds_toArray, List.set_cons_zero, List.set_cons_succ])
                    refine wpAnyH_take (i := 12) (oi := ({ dst := some 152, op := Op.fieldAddr 38 (Operand.tmp 151) 0, type := _, pos := "law.go:121", after := _, guard := some (7, false) } : Oper)) (v := ?_) rfl (by kernel_rfl) (by kernel_rfl) (by kernel_rfl) (fun _ _ _ h => h) (Or.inl ⟨by rfl, ?_⟩) hHeld ?_
                    rotate_left
                    · (intro w1 hSw; (try dsimp only at hSw); go_simp; all_goals with_reducible rfl)
                    (try simp only [Act.put, List.setIfInBounds_toArray, List.set_cons_zero, List.set_cons_succ])
                    refine wpAnyH_ready (rs := [9, 13]) (by kernel_rfl) (by simp) ?_
                    refine AllReadyH.cons (o := ({ dst := some 149, op := Op.call { callee := Callee.value (Operand.func 12), args := #[Operand.tmp 148], argTypes := _ }, type := _, pos := "law.go:121", after := _, guard := some (7, false) } : Oper)) rfl (fun K hK => ?_) (AllReadyH.cons (o := ({ dst := some 153, op := Op.load 23 (Operand.tmp 152), type := _, pos := "law.go:121", after := _, guard := some (7, false) } : Oper)) rfl (fun K hK => ?_) AllReadyH.nil)
                    · go_simp
                      go_wp2_with (go_at_call 12; (refine (left_any' R D l7 A7 n10 c7 _ e7 HR7.out).mono ?_; rintro en w' ⟨rfl, rfl⟩))
                      refine hK.out _ _ ?_ (fun hHeld2 => ?_)
                      · trivial
                      clear hK K hHeld
                      have hHeld := hHeld2
                      clear hHeld2
                      (try simp only [Act.put, List.setIfInBounds_toArray, List.set_cons_zero, List.set_cons_succ])
                      refine wpAnyH_ready (rs := [13]) (by kernel_rfl) (by simp) ?_
                      refine AllReadyH.cons (o := ({ dst := some 153, op := Op.load 23 (Operand.tmp 152), type := _, pos := "law.go:121", after := _, guard := some (7, false) } : Oper)) rfl (fun K hK => ?_) AllReadyH.nil
                      go_simp
                      go_wp2_with fail
                      refine hK.out _ _ ?_ (fun hHeld2 => ?_)
                      · trivial
                      clear hK K hHeld
                      have hHeld := hHeld2
                      clear hHeld2
                      (try simp only [Act.put, List.setIfInBounds_toArray, List.set_cons_zero, List.set_cons_succ])
                      refine wpAnyH_take (i := 14) (oi := ({ dst := some 154, op := Op.call { callee := Callee.builtin Builtin.len, args := #[Operand.tmp 153], argTypes := _ }, type := _, pos := "law.go:121", after := _, guard := some (7, false) } : Oper)) (v := ?_) rfl (by kernel_rfl) (by kernel_rfl) (by kernel_rfl) (fun _ _ _ h => h) (Or.inl ⟨by rfl, ?_⟩) hHeld ?_
                      rotate_left
                      · (intro w1 hSw; (try dsimp only at hSw); go_simp; all_goals with_reducible rfl)
                      (try simp only [Act.put, List.setIfInBounds_toArray, List.set_cons_zero, List.set_cons_succ])
                      refine wpAnyH_take (i := 15) (oi := ({ dst := some 155, op := Op.binOp BinOp.neq 3 (Operand.tmp 149) (Operand.tmp 154) 3, type := _, pos := "law.go:121", after := _, guard := some (7, false) } : Oper)) (v := ?_) rfl (by kernel_rfl) (by kernel_rfl) (by kernel_rfl) (fun _ _ _ h => h) (Or.inl ⟨by rfl, ?_⟩) hHeld ?_
                      rotate_left
                      · (intro w1 hSw; (try dsimp only at hSw); go_simp; all_goals with_reducible rfl)
                      (try simp only [Act.put, List.setIfInBounds_toArray, List.set_cons_zero, List.set_cons_succ])
                      refine wpAnyH_take (i := 16) (oi := ({ dst := some 156, op := Op.pick (Operand.tmp 147) (Operand.const (Value.bool true)) (Operand.tmp 155), type := _, pos := "law.go:121", after := _, guard := none } : Oper)) (v := ?_) rfl (by kernel_rfl) (by kernel_rfl) (by kernel_rfl) (fun _ _ _ h => h) (Or.inl ⟨by rfl, ?_⟩) hHeld ?_
                      rotate_left
                      · (intro w1 hSw; (try dsimp only at hSw); go_simp; all_goals with_reducible rfl)
                      (try simp only [Act.put, List.setIfInBounds_toArray, List.set_cons_zero, List.set_cons_succ])
                      refine wpAnyH_done (by kernel_rfl) ?_ _
                      refine NoPanic.normal ?_
                      go_wp2
                      go_roundw
                      case rel => exact ⟨q5 + 1, by omega, by simp, HB7.out, _, _, ⟨_, _, _, HR7.out⟩, _, _, _, HX8.out⟩
                      case measure => simp [intOf]; omega
                    · go_simp
                      go_wp2_with fail
                      refine hK.out _ _ ?_ (fun hHeld2 => ?_)
                      · trivial
                      clear hK K hHeld
                      have hHeld := hHeld2
                      clear hHeld2
                      (try simp only [Act.put, List.setIfInBounds_toArray, List.set_cons_zero, List.set_cons_succ])
                      refine wpAnyH_take (i := 14) (oi := ({ dst := some 154, op := Op.call { callee := Callee.builtin Builtin.len, args := #[Operand.tmp 153], argTypes := _ }, type := _, pos := "law.go:121", after := _, guard := some (7, false) } : Oper)) (v := ?_) rfl (by kernel_rfl) (by kernel_rfl) (by kernel_rfl) (fun _ _ _ h => h) (Or.inl ⟨by rfl, ?_⟩) hHeld ?_
                      rotate_left
                      · (intro w1 hSw; (try dsimp only at hSw); go_simp; all_goals with_reducible rfl)
                      (try simp only [Act.put, List.setIfInBounds_toArray, List.set_cons_zero, List.set_cons_succ])
                      refine wpAnyH_ready (rs := [9]) (by kernel_rfl) (by simp) ?_
                      refine AllReadyH.cons (o := ({ dst := some 149, op := Op.call { callee := Callee.value (Operand.func 12), args := #[Operand.tmp 148], argTypes := _ }, type := _, pos := "law.go:121", after := _, guard := some (7, false) } : Oper)) rfl (fun K hK => ?_) AllReadyH.nil
                      go_simp
                      go_wp2_with (go_at_call 12; (refine (left_any' R D l7 A7 n10 c7 _ e7 HR7.out).mono ?_; rintro en w' ⟨rfl, rfl⟩))
                      refine hK.out _ _ ?_ (fun hHeld2 => ?_)
                      · trivial
                      clear hK K hHeld
                      have hHeld := hHeld2
                      clear hHeld2
                      (try simp only [Act.put, List.setIfInBounds_toArray, List.set_cons_zero, List.set_cons_succ])
                      refine wpAnyH_take (i := 15) (oi := ({ dst := some 155, op := Op.binOp BinOp.neq 3 (Operand.tmp 149) (Operand.tmp 154) 3, type := _, pos := "law.go:121", after := _, guard := some (7, false) } : Oper)) (v := ?_) rfl (by kernel_rfl) (by kernel_rfl) (by kernel_rfl) (fun _ _ _ h => h) (Or.inl ⟨by rfl, ?_⟩) hHeld ?_
                      rotate_left
                      · (intro w1 hSw; (try dsimp only at hSw); go_simp; all_goals with_reducible rfl)
                      (try simp only [Act.put, List.setIfInBounds_toArray, List.set_cons_zero, List.set_cons_succ])
                      refine wpAnyH_take (i := 16) (oi := ({ dst := some 156, op := Op.pick (Operand.tmp 147) (Operand.const (Value.bool true)) (Operand.tmp 155), type := _, pos := "law.go:121", after := _, guard := none } : Oper)) (v := ?_) rfl (by kernel_rfl) (by kernel_rfl) (by kernel_rfl) (fun _ _ _ h => h) (Or.inl ⟨by rfl, ?_⟩) hHeld ?_
                      rotate_left
                      · (intro w1 hSw; (try dsimp only at hSw); go_simp; all_goals with_reducible rfl)
                      (try simp only [Act.put, List.setIfInBounds_toArray, List.set_cons_zero, List.set_cons_succ])
                      refine wpAnyH_done (by kernel_rfl) ?_ _
                      refine NoPanic.normal ?_
                      go_wp2
                      go_roundw
                      case rel => exact ⟨q5 + 1, by omega, by simp, HB7.out, _, _, ⟨_, _, _, HR7.out⟩, _, _, _, HX8.out⟩
                      case measure => simp [intOf]; omega
              · have hq5q : q5 = q := by omega
                subst hq5q
                have HRi := Lib.hid hr5
                have HXi := Lib.hid hx6
                have HBi := Lib.hid hb3
                clear hr5 hx6 hb3
                go_wp2_with (first
                  | (go_at_call 14; (refine (finish_any R D l5 A5 n5 c5 _ e5 HRi.out).mono ?_; rintro en w' ⟨rfl, rfl⟩))
                  | (go_at_call 15; (refine (xfinish_any X g7 l5 A8 n8 c8 _ e5 HXi.out).mono ?_; rintro en w' ⟨rfl, rfl⟩)))
                go_roundw
                case rel => exact ⟨q4 + 1, by omega, by simp, Lib.hid ⟨HW6.out.1.trans (HBi.out.mono HW6.out.1.size), HW6.out.2.1.below HW6.out.2.2 HBi.out, Nat.lt_of_lt_of_le HW6.out.2.2 HBi.out.size⟩⟩
                case measure => simp [intOf]; omega
          · have hq4e : q4 = 4 := by omega
            subst hq4e
            go_wp2_with (go_at_call 9; (refine (wbegun_any _).mono ?_; rintro en w9 ⟨rfl, hb9⟩))
            go_ret
            exact ⟨rfl, HW6.out.1.trans (hb9.mono HW6.out.1.size)⟩
end Go.Proofs.Ythfimcbjbkbcjaa
