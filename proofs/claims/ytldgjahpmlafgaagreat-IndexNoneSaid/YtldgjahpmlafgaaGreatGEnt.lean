/- Entries as data, in memory; matches compared. -/
import Derived.Test.YtldgjahpmlafgaaGreatSSame
import Derived.Test.YtldgjahpmlafgaaGreatSHeld
namespace Go.Proofs.YtldgjahpmlafgaaGreat
open Go.RowKit

structure MatchD where
  pres : Bool
  val : Nat
  mask : Nat
  pre : Int
  high : Nat
deriving DecidableEq
structure EntryD where
  table : Int
  ms : List MatchD
  prio : Int
  action : Int
  args : List Nat
def matchCells (x : MatchD) : List Value := [.bool x.pres, .int .u64 (hi x.val), .int .u64 (lo x.val), .int .u64 (hi x.mask), .int .u64 (lo x.mask), .int .i64 x.pre, .int .u64 (hi x.high), .int .u64 (lo x.high)]
def MatchOk (x : MatchD) : Prop := x.val < 2 ^ 128 ∧ x.mask < 2 ^ 128 ∧ x.high < 2 ^ 128 ∧ I64 x.pre
def MatchV : CellP MatchD := fun _ _ cs x => cs = [.bool x.pres, .int .u64 (hi x.val), .int .u64 (lo x.val), .int .u64 (hi x.mask), .int .u64 (lo x.mask), .int .i64 x.pre, .int .u64 (hi x.high), .int .u64 (lo x.high)] ∧ x.val < 2 ^ 128 ∧ x.mask < 2 ^ 128 ∧ x.high < 2 ^ 128 ∧ I64 x.pre
def EntryV : CellP EntryD := fun B w cs x => ∃ v u, cs = [.int .i64 x.table, v, .int .i64 x.prio, .int .i64 x.action, u] ∧ I64 x.table ∧ RowV 8 MatchV B w v x.ms ∧ I64 x.prio ∧ I64 x.action ∧ RowV 2 ValV B w u x.args
theorem kept_match : KeptP MatchV := fun _ _ _ _ _ _ h => h
theorem kept_entry : KeptP EntryV := fun _ _ _ _ _ hb ⟨v, u, e, h1, h2, h3, h4, h5⟩ => ⟨v, u, e, h1, h2.below kept_match hb, h3, h4, h5.below kept_val hb⟩
theorem match_ok {B : Nat} {w : World} {cs : List Value} {x : MatchD} (h : MatchV B w cs x) : MatchOk x := h.2
theorem RowV.parts {α : Type} {sz B : Nat} {P : CellP α} {w : World} {v : Value} {xs : List α} (h : RowV sz P B w v xs) : ∃ A n c, v = .slice A n c ∧ Hid (n = xs.length) ∧ n ≤ c ∧ c ≤ 9223372036854775807 := by
  obtain ⟨A, n, c, e, h1, h2, h3, _⟩ := h
  exact ⟨A, n, c, e, h1, h2, h3⟩
theorem RowV.len {α : Type} {sz B : Nat} {P : CellP α} {w : World} {A : Option Addr} {n c : Nat} {xs : List α} (h : RowV sz P B w (.slice A n c) xs) : Hid (n = xs.length) ∧ n ≤ c ∧ c ≤ 9223372036854775807 := by
  obtain ⟨_, _, _, e, h1, h2, h3, _⟩ := h
  injection e with _ e1 e2
  subst e1 e2
  exact ⟨h1, h2, h3⟩
theorem RowV.all {α : Type} {sz B : Nat} {P : CellP α} {w : World} {v : Value} {xs : List α} (h : RowV sz P B w v xs) {Q : α → Prop} (hq : ∀ B w cs x, P B w cs x → Q x) : ∀ x ∈ xs, Q x := by
  intro x hx
  obtain ⟨A, n, c, rfl, _, _, _, h4⟩ := h
  obtain ⟨i, hi, rfl⟩ := List.mem_iff_getElem.1 hx
  rcases h4 with rfl | ⟨b, o, _, h5⟩
  · simp at hi
  · obtain ⟨_, cs, _, hp⟩ := h5 i _ (List.getElem?_eq_getElem hi)
    exact hq _ _ _ _ hp
theorem RowV.up {α : Type} {sz B B2 : Nat} {P : CellP α} (hP : ∀ B B2 w cs x, B ≤ B2 → P B w cs x → P B2 w cs x) {w : World} {v : Value} {xs : List α} (h : RowV sz P B w v xs) (hB : B ≤ B2) : RowV sz P B2 w v xs := by
  obtain ⟨A, n, c, e, h1, h2, h3, h4⟩ := h
  refine ⟨A, n, c, e, h1, h2, h3, h4.imp_right ?_⟩
  rintro ⟨b, o, e2, h5⟩
  refine ⟨b, o, e2, fun i x hx => ?_⟩
  obtain ⟨hb, cs, hc, hp⟩ := h5 i x hx
  exact ⟨Nat.lt_of_lt_of_le hb hB, cs, hc, hP _ _ _ _ _ hB hp⟩
theorem up_match : ∀ B B2 w cs x, B ≤ B2 → MatchV B w cs x → MatchV B2 w cs x := fun _ _ _ _ _ _ h => h
theorem up_val : ∀ B B2 w cs x, B ≤ B2 → ValV B w cs x → ValV B2 w cs x := fun _ _ _ _ _ _ h => h
theorem up_int : ∀ B B2 w cs x, B ≤ B2 → I64V B w cs x → I64V B2 w cs x := fun _ _ _ _ _ _ h => h
theorem up_key : ∀ B B2 w cs x, B ≤ B2 → KeyV B w cs x → KeyV B2 w cs x := fun _ _ _ _ _ _ h => h
theorem up_field : ∀ B B2 w cs x, B ≤ B2 → FieldV B w cs x → FieldV B2 w cs x := fun _ _ _ _ _ _ h => h
theorem up_table : ∀ B B2 w cs x, B ≤ B2 → TableV B w cs x → TableV B2 w cs x := fun _ _ _ _ _ hb ⟨v, u, t, e, h1, h2, h3, h4, h5, h6, h7⟩ => ⟨v, u, t, e, h1, h2, h3.up up_key hb, h4.up up_int hb, h5, h6.up up_val hb, h7⟩
theorem up_entry : ∀ B B2 w cs x, B ≤ B2 → EntryV B w cs x → EntryV B2 w cs x := fun _ _ _ _ _ hb ⟨v, u, e, h1, h2, h3, h4, h5⟩ => ⟨v, u, e, h1, h2.up up_match hb, h3, h4, h5.up up_val hb⟩
set_option maxRecDepth 100000 in
theorem eqd_match (x y : MatchD)  (hxvalv : Hid (x.val < 2 ^ 128)) (hyvalv : Hid (y.val < 2 ^ 128)) (hxmaskv : Hid (x.mask < 2 ^ 128)) (hymaskv : Hid (y.mask < 2 ^ 128)) (hxhighv : Hid (x.high < 2 ^ 128)) (hyhighv : Hid (y.high < 2 ^ 128)) (b : Bool) (hb : b = true ↔ x = y) (w : World) : (Op.equalIn 10000 90 (.agg #[.bool x.pres, .int .u64 (hi x.val), .int .u64 (lo x.val), .int .u64 (hi x.mask), .int .u64 (lo x.mask), .int .i64 x.pre, .int .u64 (hi x.high), .int .u64 (lo x.high)]) (.agg #[.bool y.pres, .int .u64 (hi y.val), .int .u64 (lo y.val), .int .u64 (hi y.mask), .int .u64 (lo y.mask), .int .i64 y.pre, .int .u64 (hi y.high), .int .u64 (lo y.high)])).run Tryz.prog w = .ok b w := by
  have hS : Tryz.prog.underlying 90 = some (.struct (Tryz.prog.fieldsOf 90)) := by kernel_rfl
  rw [show (10000 : Nat) = 9999 + 1 from rfl, run_equalIn_agg w 9999 90 _ _ hS (by kernel_rfl)]
  have hV : ∀ (d : Nat) (a b c e : Int) (w : World), (Op.equalIn (d + 2) 49 (.agg #[.int .u64 a, .int .u64 b]) (.agg #[.int .u64 c, .int .u64 e])).run Tryz.prog w = if a = c then (if b = e then .ok true w else .ok false w) else .ok false w := eqc_val
  simp only [Program.fieldsOf, Tryz.underlying90]
  go_simp
  simp only [val_eq hxvalv hyvalv, val_eq hxmaskv hymaskv, val_eq hxhighv hyhighv]
  cases x
  cases y
  simp only [MatchD.mk.injEq] at hb
  cases b
  · simp at hb ⊢
    first | done | exact hb | (intros; simp_all)
  · simp at hb ⊢
    first | done | (simp [hb])
set_option maxRecDepth 100000 in
set_option maxHeartbeats 2000000 in
theorem eqs_match {B : Nat} {w : World} {v u : Value} {xs ys : List (MatchD)} (h1 : RowV 8 MatchV B w v xs) (h2 : RowV 8 MatchV B w u ys) : Calls Tryz.prog 168 #[v, u] w (SaysEq xs ys w) := by
  obtain ⟨A1, n1, c1, rfl, hn1, hc1, hm1, hr1⟩ := h1
  obtain ⟨A2, n2, c2, rfl, hn2, hc2, hm2, hr2⟩ := h2
  have HR1 := Lib.hid hr1
  have HR2 := Lib.hid hr2
  unfold maxLen at hm1 hm2
  clear hr1 hr2
  by_cases hl : n1 = n2
  · obtain rfl : n1 = n2 := hl
    go_enter Tryz.func168, Tryz.ntmps168
    go_wp2
    go_loopw [13] (fun i W => ∃ k q : Nat, k ≤ n1 ∧ i = .int .i64 k ∧ W = w.drewN q ∧ xs.take k = ys.take k) (fun i _ => n1 - (intOf i).toNat)
    case atStart => exact ⟨0, 0, by omega, rfl, rfl, rfl⟩
    case round =>
      obtain ⟨k, q, hk, rfl, rfl, htk⟩ := hrel
      have HT := Lib.hid htk
      clear htk
      by_cases hkn : k < n1
      · obtain ⟨x, hx⟩ : ∃ x, xs[k]? = some x := ⟨_, List.getElem?_eq_getElem (by rw [← hn1.out]; exact hkn)⟩
        obtain ⟨y, hy⟩ : ∃ y, ys[k]? = some y := ⟨_, List.getElem?_eq_getElem (by rw [← hn2.out]; exact hkn)⟩
        obtain ⟨b1, o1, rfl, g1⟩ := HR1.out.resolve_left (fun e => by rw [e] at hx; simp at hx)
        obtain ⟨b2, o2, rfl, g2⟩ := HR2.out.resolve_left (fun e => by rw [e] at hy; simp at hy)
        obtain ⟨_, cs1, d1, hp1⟩ := g1 k x hx
        obtain ⟨_, cs2, d2, hp2⟩ := g2 k y hy
        obtain ⟨rfl, hxvalv, hxmaskv, hxhighv, _⟩ := hp1
        obtain ⟨rfl, hyvalv, hymaskv, hyhighv, _⟩ := hp2
        have p0 : w.cell? ⟨b1, o1 + k * 8, none⟩ = some (.bool x.pres) := d1 0 (by simp)
        have p1 : w.cell? ⟨b1, o1 + k * 8 + 1, none⟩ = some (.int .u64 (hi x.val)) := d1 1 (by simp)
        have p2 : w.cell? ⟨b1, o1 + k * 8 + 2, none⟩ = some (.int .u64 (lo x.val)) := d1 2 (by simp)
        have p3 : w.cell? ⟨b1, o1 + k * 8 + 3, none⟩ = some (.int .u64 (hi x.mask)) := d1 3 (by simp)
        have p4 : w.cell? ⟨b1, o1 + k * 8 + 4, none⟩ = some (.int .u64 (lo x.mask)) := d1 4 (by simp)
        have p5 : w.cell? ⟨b1, o1 + k * 8 + 5, none⟩ = some (.int .i64 x.pre) := d1 5 (by simp)
        have p6 : w.cell? ⟨b1, o1 + k * 8 + 6, none⟩ = some (.int .u64 (hi x.high)) := d1 6 (by simp)
        have p7 : w.cell? ⟨b1, o1 + k * 8 + 7, none⟩ = some (.int .u64 (lo x.high)) := d1 7 (by simp)
        have q0 : w.cell? ⟨b2, o2 + k * 8, none⟩ = some (.bool y.pres) := d2 0 (by simp)
        have q1 : w.cell? ⟨b2, o2 + k * 8 + 1, none⟩ = some (.int .u64 (hi y.val)) := d2 1 (by simp)
        have q2 : w.cell? ⟨b2, o2 + k * 8 + 2, none⟩ = some (.int .u64 (lo y.val)) := d2 2 (by simp)
        have q3 : w.cell? ⟨b2, o2 + k * 8 + 3, none⟩ = some (.int .u64 (hi y.mask)) := d2 3 (by simp)
        have q4 : w.cell? ⟨b2, o2 + k * 8 + 4, none⟩ = some (.int .u64 (lo y.mask)) := d2 4 (by simp)
        have q5 : w.cell? ⟨b2, o2 + k * 8 + 5, none⟩ = some (.int .i64 y.pre) := d2 5 (by simp)
        have q6 : w.cell? ⟨b2, o2 + k * 8 + 6, none⟩ = some (.int .u64 (hi y.high)) := d2 6 (by simp)
        have q7 : w.cell? ⟨b2, o2 + k * 8 + 7, none⟩ = some (.int .u64 (lo y.high)) := d2 7 (by simp)
        have k1 : (k : Int) < (n1 : Int) := by omega
        have k0 : 0 ≤ (k : Int) := by omega
        have k3 : (k : Int) < (c1 : Int) := by omega
        obtain ⟨b, hb⟩ := some_bool (x = y)
        have hq : ∀ W : World, (Op.equalIn 10000 90 (.agg #[.bool x.pres, .int .u64 (hi x.val), .int .u64 (lo x.val), .int .u64 (hi x.mask), .int .u64 (lo x.mask), .int .i64 x.pre, .int .u64 (hi x.high), .int .u64 (lo x.high)]) (.agg #[.bool y.pres, .int .u64 (hi y.val), .int .u64 (lo y.val), .int .u64 (hi y.mask), .int .u64 (lo y.mask), .int .i64 y.pre, .int .u64 (hi y.high), .int .u64 (lo y.high)])).run Tryz.prog W = .ok b W := fun W => eqd_match x y (Lib.hid hxvalv) (Lib.hid hyvalv) (Lib.hid hxmaskv) (Lib.hid hymaskv) (Lib.hid hxhighv) (Lib.hid hyhighv) b hb W
        have hG : Tryz.prog.eqGuardType Tryz.prog.depth 90 = false := by kernel_rfl
        have HX := Lib.hid hx
        have HY := Lib.hid hy
        clear d1 d2 g1 g2 hx hy hxvalv hyvalv hxmaskv hymaskv hxhighv hyhighv
        cases b
        · have HB := Lib.hid hb
          clear hb
          go_wp2
          go_quiet (fail)
          go_wp2
          go_ret
          exact ⟨false, rfl, ⟨fun e => (by cases e), fun e => absurd e (ne_at HX.out HY.out (fun e2 => (by have := HB.out.2 e2; cases this)))⟩, ⟨rfl, rfl, rfl, Nat.le_refl _, fun _ _ => rfl⟩⟩
        · have HB := Lib.hid hb
          clear hb
          go_wp2
          go_quiet (fail)
          go_wp2
          go_roundw
          case rel => exact ⟨k + 1, _, by omega, by simp, rfl, take_eq HT.out HX.out HY.out (HB.out.1 (by simp))⟩
          case measure => simp [intOf]; omega
      · obtain rfl : n1 = k := by omega
        go_wp2
        go_ret
        refine ⟨true, rfl, ⟨fun _ => ?_, fun _ => rfl⟩, ⟨rfl, rfl, rfl, Nat.le_refl _, fun _ _ => rfl⟩⟩
        have e := HT.out
        rwa [hn1.out, List.take_length, ← hn1.out, hn2.out, List.take_length] at e
  · have hl2 : ¬ (n1 : Int) = (n2 : Int) := by omega
    go_enter Tryz.func168, Tryz.ntmps168
    go_wp2
    go_ret
    refine ⟨false, rfl, ⟨fun e => (by cases e), fun e => absurd (by rw [hn1.out, hn2.out, e]) hl⟩, Below.refl _ _⟩
end Go.Proofs.YtldgjahpmlafgaaGreat
