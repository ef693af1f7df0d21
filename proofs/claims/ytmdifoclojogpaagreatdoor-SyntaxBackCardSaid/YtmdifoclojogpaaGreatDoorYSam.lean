/- Layer 7: Same: rows of nodes whatever their values, compared. -/
import Derived.Test.YtmdifoclojogpaaGreatDoorJYLaw
namespace Go.Proofs.YtmdifoclojogpaaGreatDoor
open Go.RowKit

/-- a node's seven cells -/
structure NC where
  x0 : Int
  x1 : Int
  x2 : Int
  x3 : ByteArray
  x4 : ByteArray
  x5 : Int
  x6 : Int
def NC.val (c : NC) : Value := .agg #[.int .i64 c.x0, .int .i64 c.x1, .int .i64 c.x2, .string c.x3, .string c.x4, .int .u64 c.x5, .int .u64 c.x6]
def NC.cells (c : NC) : List Value := [.int .i64 c.x0, .int .i64 c.x1, .int .i64 c.x2, .string c.x3, .string c.x4, .int .u64 c.x5, .int .u64 c.x6]
def Nd.nc (n : Nd) : NC := ⟨n.op, n.a, n.b, n.name, n.attr, hi n.val, lo n.val⟩
theorem nc_cells (n : Nd) : n.nc.cells = ncell n := rfl
structure NCR (w : World) (A : Option Addr) (o : List NC) : Prop where
  r : o = [] ∨ ∃ g, A = some ⟨g, 0, none⟩ ∧ g < w.heap.size ∧ ∀ k (hk : k < o.length) j, j < 7 → w.cell? ⟨g, k * 7 + j, none⟩ = ((o[k]'hk).cells)[j]?
theorem NCR.below {w w' : World} {A : Option Addr} {o : List NC} (h : NCR w A o) (hb : Below w.heap.size w w') : NCR w' A o := by
  rcases h.r with h | ⟨g, h1, h2, h3⟩
  · exact ⟨.inl h⟩
  · exact ⟨.inr ⟨g, h1, Nat.lt_of_lt_of_le h2 hb.size, fun k hk j hj => by rw [hb.cell (p := ⟨g, _, none⟩) h2]; exact h3 k hk j hj⟩⟩
theorem NodR.ncr {w : World} {A : Option Addr} {o : List Nd} (h : NodR w A o) : NCR w A (o.map Nd.nc) := by
  rcases h.r with rfl | ⟨g, h1, h2, h3⟩
  · exact ⟨.inl rfl⟩
  · refine ⟨.inr ⟨g, h1, h2, fun k hk j hj => ?_⟩⟩
    rw [List.length_map] at hk
    rw [List.getElem_map, nc_cells]
    exact h3 k hk j hj
theorem ncr_cells {w : World} {A : Option Addr} {o : List NC} (h : NCR w A o) {k : Nat} {c : NC} (hc : o[k]? = some c) : ∃ g, A = some ⟨g, 0, none⟩ ∧ g < w.heap.size ∧ w.cell? ⟨g, k * 7, none⟩ = some (.int .i64 c.x0) ∧ w.cell? ⟨g, k * 7 + 1, none⟩ = some (.int .i64 c.x1) ∧ w.cell? ⟨g, k * 7 + 2, none⟩ = some (.int .i64 c.x2) ∧ w.cell? ⟨g, k * 7 + 3, none⟩ = some (.string c.x3) ∧ w.cell? ⟨g, k * 7 + 4, none⟩ = some (.string c.x4) ∧ w.cell? ⟨g, k * 7 + 5, none⟩ = some (.int .u64 c.x5) ∧ w.cell? ⟨g, k * 7 + 6, none⟩ = some (.int .u64 c.x6) := by
  obtain ⟨hk, he⟩ := List.getElem?_eq_some_iff.1 hc
  obtain ⟨g, h1, h2, q⟩ := h.r.resolve_left (fun e => by rw [e] at hk; simp at hk)
  rw [he.symm]
  exact ⟨g, h1, h2, q k hk 0 (by decide), q k hk 1 (by decide), q k hk 2 (by decide), q k hk 3 (by decide), q k hk 4 (by decide), q k hk 5 (by decide), q k hk 6 (by decide)⟩
theorem bs_inj {x y : ByteArray} (h : x.toList = y.toList) : x = y := by
  rw [ByteArray.toList_eq, ByteArray.toList_eq] at h
  exact ByteArray.ext (Array.ext' h)
set_option maxRecDepth 100000 in
theorem eqv_any (d : Nat) (a b c e : Int) (w : World) : (Op.equalIn (d + 2) 65 (.agg #[.int .u64 a, .int .u64 b]) (.agg #[.int .u64 c, .int .u64 e])).run Tryz.prog w = if a = c then (if b = e then .ok true w else .ok false w) else .ok false w := by
  have hS : Tryz.prog.underlying 65 = some (.struct (Tryz.prog.fieldsOf 65)) := by kernel_rfl
  rw [show d + 2 = (d + 1) + 1 from rfl, run_equalIn_agg w (d + 1) 65 _ _ hS (by kernel_rfl)]
  simp only [Program.fieldsOf, Tryz.underlying65]
  go_simp
set_option maxRecDepth 100000 in
theorem eqn_no (p q : NC) (h : ¬ p = q) (W : World) : (Op.equalIn 10000 67 p.val q.val).run Tryz.prog W = .ok false W := by
  obtain ⟨x0, x1, x2, x3, x4, x5, x6⟩ := p
  obtain ⟨y0, y1, y2, y3, y4, y5, y6⟩ := q
  have hS : Tryz.prog.underlying 67 = some (.struct (Tryz.prog.fieldsOf 67)) := by kernel_rfl
  have hV : ∀ (d : Nat) (a b c e : Int) (w : World), (Op.equalIn (d + 2) 65 (.agg #[.int .u64 a, .int .u64 b]) (.agg #[.int .u64 c, .int .u64 e])).run Tryz.prog w = if a = c then (if b = e then .ok true w else .ok false w) else .ok false w := eqv_any
  have HH := Lib.hid h
  clear h
  unfold NC.val
  simp only
  rw [show (10000 : Nat) = (9997 + 2) + 1 from rfl, run_equalIn_agg W (9997 + 2) 67 _ _ hS (by kernel_rfl)]
  simp only [Program.fieldsOf, Tryz.underlying67]
  clear hS
  go_simp
  intros
  intro hlast
  subst_vars
  apply HH.out
  congr 1
  all_goals (apply bs_inj; assumption)
theorem eqn_any (p q : NC) : ∃ b : Bool, (b = true ↔ p = q) ∧ ∀ W : World, (Op.equalIn 10000 67 p.val q.val).run Tryz.prog W = .ok b W := by
  by_cases h : p = q
  · subst h
    exact ⟨true, by simp, fun W => eqs_node p.x0 p.x1 p.x2 p.x3 p.x4 p.x5 p.x6 W⟩
  · exact ⟨false, by simp [h], fun W => eqn_no p q h W⟩
def SaysN (xs ys : List NC) (w : World) (e : Ending) (w' : World) : Prop := ∃ b : Bool, e = .returned (.bool b) ∧ (b = true ↔ xs = ys) ∧ Below w.heap.size w w'
theorem take_eqN {α : Type} {xs ys : List α} {k : Nat} {x y : α} (h : xs.take k = ys.take k) (hx : xs[k]? = some x) (hy : ys[k]? = some y) (e : x = y) : xs.take (k + 1) = ys.take (k + 1) := by
  obtain ⟨a1, a2⟩ := List.getElem?_eq_some_iff.1 hx
  obtain ⟨b1, b2⟩ := List.getElem?_eq_some_iff.1 hy
  rw [List.take_succ_eq_append_getElem a1, List.take_succ_eq_append_getElem b1, h, a2, b2, e]
theorem ne_atN {α : Type} {xs ys : List α} {k : Nat} {x y : α} (hx : xs[k]? = some x) (hy : ys[k]? = some y) (e : ¬ x = y) : ¬ xs = ys := fun h => e (by rw [h, hy] at hx; injection hx with hx; exact hx.symm)
set_option maxRecDepth 100000 in
set_option maxHeartbeats 2000000 in
theorem sl_eqN {w : World} {A1 A2 : Option Addr} {n1 n2 c1 c2 : Nat} {xs ys : List NC} (hn1 : xs.length = n1) (hn2 : ys.length = n2) (hc1 : n1 ≤ c1) (hc2 : n2 ≤ c2) (hm1 : n1 ≤ 100000) (hm2 : n2 ≤ 100000) (h1 : NCR w A1 xs) (h2 : NCR w A2 ys) : Calls Tryz.prog 46 #[.slice A1 n1 c1, .slice A2 n2 c2] w (SaysN xs ys w) := by
  have HR1 := Lib.hid h1
  have HR2 := Lib.hid h2
  have HN1 := Lib.hid hn1
  have HN2 := Lib.hid hn2
  have hG : Tryz.prog.eqGuardType Tryz.prog.depth 67 = false := by kernel_rfl
  clear h1 h2 hn1 hn2
  by_cases hl : n1 = n2
  · obtain rfl : n1 = n2 := hl
    go_enter Tryz.func46, Tryz.ntmps46
    go_wp2
    go_loopw [13] (fun i W => ∃ k q : Nat, k ≤ n1 ∧ i = .int .i64 k ∧ W = w.drewN q ∧ xs.take k = ys.take k) (fun i _ => n1 - (intOf i).toNat)
    case atStart => exact ⟨0, 0, by omega, rfl, rfl, rfl⟩
    case round =>
      obtain ⟨k, q, hk, rfl, rfl, htk⟩ := hrel
      have HT := Lib.hid htk
      clear htk
      by_cases hkn : k < n1
      · obtain ⟨x, hx⟩ : ∃ x, xs[k]? = some x := ⟨_, List.getElem?_eq_getElem (by rw [HN1.out]; exact hkn)⟩
        obtain ⟨y, hy⟩ : ∃ y, ys[k]? = some y := ⟨_, List.getElem?_eq_getElem (by rw [HN2.out]; exact hkn)⟩
        obtain ⟨g1, e1, l1, a0, a1, a2, a3, a4, a5, a6⟩ := ncr_cells HR1.out hx
        obtain ⟨g2, e2, l2, b0, b1, b2, b3, b4, b5, b6⟩ := ncr_cells HR2.out hy
        subst e1 e2
        have k1 : (k : Int) < (n1 : Int) := by omega
        have k0 : 0 ≤ (k : Int) := by omega
        have k3 : (k : Int) < (c1 : Int) := by omega
        obtain ⟨b, hb, hq0⟩ := eqn_any x y
        have hq : ∀ W : World, (Op.equalIn 10000 67 (.agg #[.int .i64 x.x0, .int .i64 x.x1, .int .i64 x.x2, .string x.x3, .string x.x4, .int .u64 x.x5, .int .u64 x.x6]) (.agg #[.int .i64 y.x0, .int .i64 y.x1, .int .i64 y.x2, .string y.x3, .string y.x4, .int .u64 y.x5, .int .u64 y.x6])).run Tryz.prog W = .ok b W := hq0
        have HX := Lib.hid hx
        have HY := Lib.hid hy
        clear hx hy hq0
        cases b
        · have HB := Lib.hid hb
          clear hb
          go_wp2
          go_quiet (fail)
          go_wp2
          go_ret
          exact ⟨false, rfl, ⟨fun e => (by cases e), fun e => absurd e (ne_atN HX.out HY.out (fun e2 => (by have := HB.out.2 e2; cases this)))⟩, ⟨rfl, rfl, rfl, Nat.le_refl _, fun _ _ => rfl⟩⟩
        · have HB := Lib.hid hb
          clear hb
          go_wp2
          go_quiet (fail)
          go_wp2
          go_roundw
          case rel => exact ⟨k + 1, _, by omega, by simp, rfl, take_eqN HT.out HX.out HY.out (HB.out.1 (by simp))⟩
          case measure => simp [intOf]; omega
      · obtain rfl : n1 = k := by omega
        go_wp2
        go_ret
        refine ⟨true, rfl, ⟨fun _ => ?_, fun _ => rfl⟩, ⟨rfl, rfl, rfl, Nat.le_refl _, fun _ _ => rfl⟩⟩
        have e := HT.out
        rwa [← HN1.out, List.take_length, HN1.out, ← HN2.out, List.take_length] at e
  · have hl2 : ¬ (n1 : Int) = (n2 : Int) := by omega
    go_enter Tryz.func46, Tryz.ntmps46
    go_wp2
    go_ret
    refine ⟨false, rfl, ⟨fun e => (by cases e), fun e => absurd (by rw [← HN1.out, ← HN2.out, e]) hl⟩, Below.refl _ _⟩
set_option maxRecDepth 100000 in
set_option maxHeartbeats 2000000 in
theorem sy_Same {w : World} {A1 A2 : Option Addr} {n1 n2 c1 c2 : Nat} {xs ys : List NC} (hn1 : xs.length = n1) (hn2 : ys.length = n2) (hc1 : n1 ≤ c1) (hc2 : n2 ≤ c2) (hm1 : n1 ≤ 100000) (hm2 : n2 ≤ 100000) (h1 : NCR w A1 xs) (h2 : NCR w A2 ys) : Calls Tryz.prog 17 #[.slice A1 n1 c1, .slice A2 n2 c2] w (SaysN xs ys w) := by
  have K := Lib.hid (sl_eqN hn1 hn2 hc1 hc2 hm1 hm2 h1 h2)
  clear hn1 hn2 hc1 hc2 hm1 hm2 h1 h2
  go_enter Tryz.func17, Tryz.ntmps17
  go_wp2_with fail
  go_at_call 46
  refine K.out.mono ?_
  rintro e w1 ⟨b, rfl, hb, hbel⟩
  have HB := Lib.hid hb
  have HBE := Lib.hid hbel
  clear hb hbel K
  go_wp2_with fail
  go_ret
  exact ⟨b, rfl, HB.out, HBE.out⟩
/-- .. with the answer known -/
theorem sy_SameB {w W : World} {A1 A2 : Option Addr} {n1 n2 c1 c2 : Nat} {xs ys : List NC} (hn1 : xs.length = n1) (hn2 : ys.length = n2) (hc1 : n1 ≤ c1) (hc2 : n2 ≤ c2) (hm1 : n1 ≤ 100000) (hm2 : n2 ≤ 100000) (h1 : NCR w A1 xs) (h2 : NCR w A2 ys) (hb : Below w.heap.size w W) {b : Bool} (he : b = true ↔ xs = ys) : Calls Tryz.prog 17 #[.slice A1 n1 c1, .slice A2 n2 c2] W (RetX (.bool b) W) := by
  refine (sy_Same hn1 hn2 hc1 hc2 hm1 hm2 (h1.below hb) (h2.below hb)).mono ?_
  rintro e w1 ⟨b1, rfl, h3, h4⟩
  have : b1 = b := by
    cases b <;> cases b1 <;> simp_all
  subst this
  exact ⟨rfl, h4⟩
/-- what parsed returns, its parts by letters -/
def RetPo (o : List Nd) (m : Nat) (b : Bool) (w : World) (e : Ending) (w' : World) : Prop := ∃ A c A' c', e = .returned (.tuple #[.slice A m c, .slice A' m c', .bool true, .bool b]) ∧ m ≤ c ∧ m ≤ c' ∧ NodR w' A o ∧ NodR w' A' o ∧ Below w.heap.size w w'
theorem pTree_len (s : ByteArray) : (pTree s).length ≤ 400 := by
  unfold pTree
  split
  · exact Nat.le_trans (parse_len _) (scan_len s)
  · exact Nat.zero_le _
theorem ly_parsedO (s : ByteArray) (hs : s.size < 9223372036854775807) (w : World) (hy : Syms w) (hy2 : SymY w) (o : List Nd) (m : Nat) (b : Bool) (ho : o = pTree s) (hm : m = o.length) (hb : b = pOk s) : Calls Tryz.prog 9 #[.string s] w (RetPo o m b w) := by
  subst ho hm hb
  exact ly_parsed s hs w hy hy2
end Go.Proofs.YtmdifoclojogpaaGreatDoor
