/- Comparing lists. -/
import Derived.Test.YthldelnibgdnaaaJSWr
import Derived.Deep.QuietTactic
import Derived.BigQuiet
import Derived.Laws.StructEq
namespace Go.Proofs.Ythldelnibgdnaaa
open Go.RowKit

/-- It says whether two data are equal; nothing that was there has changed. -/
def SaysEq {α : Type} (x y : α) (w : World) (e : Ending) (w' : World) : Prop := ∃ b : Bool, e = .returned (.bool b) ∧ (b = true ↔ x = y) ∧ Below w.heap.size w w'
theorem strL_inj {a b : List Nat} (ha : Txt a) (hb : Txt b) (h1 : (strL a).data.toList = (strL b).data.toList) : a = b := by
  rw [strL_data, strL_data] at h1
  have e : ∀ l : List Nat, Txt l → (l.map fun x => UInt8.ofNat x).map UInt8.toNat = l := fun l hl => by
    rw [List.map_map]
    conv => rhs; rw [← List.map_id l]
    refine List.map_congr_left fun x hx => ?_
    have := hl.1 x hx
    simp
    omega
  rw [← e a ha, ← e b hb, h1]
theorem txt_eq {a b : List Nat} (ha : Txt a) (hb : Txt b) : ((strL a).toList = (strL b).toList) = (a = b) := by
  refine propext ⟨fun h => strL_inj ha hb ?_, fun h => by rw [h]⟩
  rw [ByteArray.toList_eq, ByteArray.toList_eq] at h
  exact h
theorem val_eq {β : Type} {a b : Nat} (ha : Hid (a < 2 ^ 128)) (hb : Hid (b < 2 ^ 128)) (x y : β) : (if hi a = hi b then (if lo a = lo b then x else y) else y) = if a = b then x else y := by
  by_cases h : a = b
  · subst h; simp
  · have ha := ha.out
    have hb := hb.out
    have h2 : ¬ (hi a = hi b ∧ lo a = lo b) := by
      unfold hi lo
      omega
    rw [if_neg h]
    by_cases h3 : hi a = hi b
    · rw [if_pos h3, if_neg (fun h4 => h2 ⟨h3, h4⟩)]
    · rw [if_neg h3]
theorem take_eq {α : Type} {xs ys : List α} {k : Nat} {x y : α} (h : xs.take k = ys.take k) (hx : xs[k]? = some x) (hy : ys[k]? = some y) (e : x = y) : xs.take (k + 1) = ys.take (k + 1) := by
  obtain ⟨a1, a2⟩ := List.getElem?_eq_some_iff.1 hx
  obtain ⟨b1, b2⟩ := List.getElem?_eq_some_iff.1 hy
  rw [List.take_succ_eq_append_getElem a1, List.take_succ_eq_append_getElem b1, h, a2, b2, e]
theorem ne_at {α : Type} {xs ys : List α} {k : Nat} {x y : α} (hx : xs[k]? = some x) (hy : ys[k]? = some y) (e : ¬ x = y) : ¬ xs = ys := fun h => e (by rw [h, hy] at hx; injection hx with hx; exact hx.symm)
theorem some_bool (p : Prop) : ∃ b : Bool, b = true ↔ p := by
  by_cases h : p
  · exact ⟨true, by simp [h]⟩
  · exact ⟨false, by simp [h]⟩
theorem belowS_drewN (B n : Nat) (w : World) : Below B w (w.drewN n) := ⟨rfl, rfl, rfl, Nat.le_refl _, fun _ _ => rfl⟩
set_option maxRecDepth 100000 in
theorem eqc_val (d : Nat) (a b c e : Int) (w : World) : (Op.equalIn (d + 2) 29 (.agg #[.int .u64 a, .int .u64 b]) (.agg #[.int .u64 c, .int .u64 e])).run Try.prog w = if a = c then (if b = e then .ok true w else .ok false w) else .ok false w := by
  have hS : Try.prog.underlying 29 = some (.struct (Try.prog.fieldsOf 29)) := by kernel_rfl
  rw [show d + 2 = (d + 1) + 1 from rfl, run_equalIn_agg w (d + 1) 29 _ _ hS (by kernel_rfl)]
  simp only [Program.fieldsOf, Try.underlying29]
  go_simp
set_option maxRecDepth 100000 in
theorem eqc_operand (d : Nat) (k n a b k' n' c e : Int) (w : World) : (Op.equalIn (d + 3) 105 (.agg #[.int .i64 k, .int .i64 n, .int .u64 a, .int .u64 b]) (.agg #[.int .i64 k', .int .i64 n', .int .u64 c, .int .u64 e])).run Try.prog w = if k = k' then (if n = n' then (if a = c then (if b = e then .ok true w else .ok false w) else .ok false w) else .ok false w) else .ok false w := by
  have hS : Try.prog.underlying 105 = some (.struct (Try.prog.fieldsOf 105)) := by kernel_rfl
  have hV : ∀ (d : Nat) (a b c e : Int) (w : World), (Op.equalIn (d + 2) 29 (.agg #[.int .u64 a, .int .u64 b]) (.agg #[.int .u64 c, .int .u64 e])).run Try.prog w = if a = c then (if b = e then .ok true w else .ok false w) else .ok false w := eqc_val
  rw [show d + 3 = (d + 2) + 1 from rfl, run_equalIn_agg w (d + 2) 105 _ _ hS (by kernel_rfl)]
  simp only [Program.fieldsOf, Try.underlying105]
  clear hS
  go_simp
set_option maxRecDepth 100000 in
theorem eqd_val (x y : Nat)  (hxv : Hid (x < 2 ^ 128)) (hyv : Hid (y < 2 ^ 128)) (b : Bool) (hb : b = true ↔ x = y) (w : World) : (Op.equalIn 10000 29 (.agg #[.int .u64 (hi x), .int .u64 (lo x)]) (.agg #[.int .u64 (hi y), .int .u64 (lo y)])).run Try.prog w = .ok b w := by
  have hS : Try.prog.underlying 29 = some (.struct (Try.prog.fieldsOf 29)) := by kernel_rfl
  rw [show (10000 : Nat) = 9999 + 1 from rfl, run_equalIn_agg w 9999 29 _ _ hS (by kernel_rfl)]
  simp only [Program.fieldsOf, Try.underlying29]
  go_simp
  simp only [val_eq hxv hyv]
  cases b
  · simp at hb ⊢
    first | done | exact hb | (intros; simp_all)
  · simp at hb ⊢
    first | done | (simp [hb])
set_option maxRecDepth 100000 in
set_option maxHeartbeats 2000000 in
theorem eqs_val {B : Nat} {w : World} {v u : Value} {xs ys : List (Nat)} (h1 : RowV 2 ValV B w v xs) (h2 : RowV 2 ValV B w u ys) : Calls Try.prog 36 #[v, u] w (SaysEq xs ys w) := by
  obtain ⟨A1, n1, c1, rfl, hn1, hc1, hm1, hr1⟩ := h1
  obtain ⟨A2, n2, c2, rfl, hn2, hc2, hm2, hr2⟩ := h2
  have HR1 := Lib.hid hr1
  have HR2 := Lib.hid hr2
  unfold maxLen at hm1 hm2
  clear hr1 hr2
  by_cases hl : n1 = n2
  · obtain rfl : n1 = n2 := hl
    go_enter Try.func36, Try.ntmps36
    go_wp2
    go_loopw [13] (fun i W => ∃ k q : Nat, k ≤ n1 ∧ i = .int .i64 k ∧ W = w.drewN q ∧ xs.take k = ys.take k) (fun i _ => n1 - (intOf i).toNat)
    case atStart => exact ⟨0, 0, by omega, rfl, rfl, rfl⟩
    case round =>
      obtain ⟨k, q, hk, rfl, rfl, htk⟩ := hrel
      have HT := Lib.hid htk
      clear htk
      by_cases hkn : k < n1
      · obtain ⟨x, hx⟩ : ∃ x, xs[k]? = some x := ⟨_, List.getElem?_eq_getElem (by rw [← hn1.out]; exact hkn)⟩
        obtain ⟨y, hy⟩ : ∃ y, ys[k]? = some y := ⟨_, List.getElem?_eq_getElem (by rw [← hn2.out]; exact hkn)⟩
        obtain ⟨b1, o1, rfl, g1⟩ := HR1.out.resolve_left (fun e => by rw [e] at hx; simp at hx)
        obtain ⟨b2, o2, rfl, g2⟩ := HR2.out.resolve_left (fun e => by rw [e] at hy; simp at hy)
        obtain ⟨_, cs1, d1, hp1⟩ := g1 k x hx
        obtain ⟨_, cs2, d2, hp2⟩ := g2 k y hy
        obtain ⟨rfl, hxv⟩ := hp1
        obtain ⟨rfl, hyv⟩ := hp2
        have p0 : w.cell? ⟨b1, o1 + k * 2, none⟩ = some (.int .u64 (hi x)) := d1 0 (by simp)
        have p1 : w.cell? ⟨b1, o1 + k * 2 + 1, none⟩ = some (.int .u64 (lo x)) := d1 1 (by simp)
        have q0 : w.cell? ⟨b2, o2 + k * 2, none⟩ = some (.int .u64 (hi y)) := d2 0 (by simp)
        have q1 : w.cell? ⟨b2, o2 + k * 2 + 1, none⟩ = some (.int .u64 (lo y)) := d2 1 (by simp)
        have k1 : (k : Int) < (n1 : Int) := by omega
        have k0 : 0 ≤ (k : Int) := by omega
        have k3 : (k : Int) < (c1 : Int) := by omega
        obtain ⟨b, hb⟩ := some_bool (x = y)
        have hq : ∀ W : World, (Op.equalIn 10000 29 (.agg #[.int .u64 (hi x), .int .u64 (lo x)]) (.agg #[.int .u64 (hi y), .int .u64 (lo y)])).run Try.prog W = .ok b W := fun W => eqd_val x y (Lib.hid hxv) (Lib.hid hyv) b hb W
        have hG : Try.prog.eqGuardType Try.prog.depth 29 = false := by kernel_rfl
        have HX := Lib.hid hx
        have HY := Lib.hid hy
        clear d1 d2 g1 g2 hx hy hxv hyv
        cases b
        · have HB := Lib.hid hb
          clear hb
          go_wp2
          go_quiet (fail)
          go_wp2
          go_ret
          exact ⟨false, rfl, ⟨fun e => (by cases e), fun e => absurd e (ne_at HX.out HY.out (fun e2 => (by have := HB.out.2 e2; cases this)))⟩, ⟨rfl, rfl, rfl, Nat.le_refl _, fun _ _ => rfl⟩⟩
        · have HB := Lib.hid hb
          clear hb
          go_wp2
          go_quiet (fail)
          go_wp2
          go_roundw
          case rel => exact ⟨k + 1, _, by omega, by simp, rfl, take_eq HT.out HX.out HY.out (HB.out.1 (by simp))⟩
          case measure => simp [intOf]; omega
      · obtain rfl : n1 = k := by omega
        go_wp2
        go_ret
        refine ⟨true, rfl, ⟨fun _ => ?_, fun _ => rfl⟩, ⟨rfl, rfl, rfl, Nat.le_refl _, fun _ _ => rfl⟩⟩
        have e := HT.out
        rwa [hn1.out, List.take_length, ← hn1.out, hn2.out, List.take_length] at e
  · have hl2 : ¬ (n1 : Int) = (n2 : Int) := by omega
    go_enter Try.func36, Try.ntmps36
    go_wp2
    go_ret
    refine ⟨false, rfl, ⟨fun e => (by cases e), fun e => absurd (by rw [hn1.out, hn2.out, e]) hl⟩, Below.refl _ _⟩
set_option maxRecDepth 100000 in
theorem eqd_field (x y : FieldD) (hxname : Txt x.name) (hyname : Txt y.name)  (b : Bool) (hb : b = true ↔ x = y) (w : World) : (Op.equalIn 10000 56 (.agg #[.int .i64 x.id, .string (strL x.name), .int .i64 x.bits]) (.agg #[.int .i64 y.id, .string (strL y.name), .int .i64 y.bits])).run Try.prog w = .ok b w := by
  have hS : Try.prog.underlying 56 = some (.struct (Try.prog.fieldsOf 56)) := by kernel_rfl
  rw [show (10000 : Nat) = 9999 + 1 from rfl, run_equalIn_agg w 9999 56 _ _ hS (by kernel_rfl)]
  simp only [Program.fieldsOf, Try.underlying56]
  go_simp
  simp only [txt_eq hxname hyname]
  cases x
  cases y
  simp only [FieldD.mk.injEq] at hb
  cases b
  · simp at hb ⊢
    first | done | exact hb | (intros; simp_all)
  · simp at hb ⊢
    first | done | (simp [hb])
set_option maxRecDepth 100000 in
theorem eqd_case (x y : CaseD)  (hxvalv : Hid (x.val < 2 ^ 128)) (hyvalv : Hid (y.val < 2 ^ 128)) (hxmaskv : Hid (x.mask < 2 ^ 128)) (hymaskv : Hid (y.mask < 2 ^ 128)) (b : Bool) (hb : b = true ↔ x = y) (w : World) : (Op.equalIn 10000 103 (.agg #[.int .u64 (hi x.val), .int .u64 (lo x.val), .int .u64 (hi x.mask), .int .u64 (lo x.mask), .int .i64 x.next]) (.agg #[.int .u64 (hi y.val), .int .u64 (lo y.val), .int .u64 (hi y.mask), .int .u64 (lo y.mask), .int .i64 y.next])).run Try.prog w = .ok b w := by
  have hS : Try.prog.underlying 103 = some (.struct (Try.prog.fieldsOf 103)) := by kernel_rfl
  rw [show (10000 : Nat) = 9999 + 1 from rfl, run_equalIn_agg w 9999 103 _ _ hS (by kernel_rfl)]
  have hV : ∀ (d : Nat) (a b c e : Int) (w : World), (Op.equalIn (d + 2) 29 (.agg #[.int .u64 a, .int .u64 b]) (.agg #[.int .u64 c, .int .u64 e])).run Try.prog w = if a = c then (if b = e then .ok true w else .ok false w) else .ok false w := eqc_val
  simp only [Program.fieldsOf, Try.underlying103]
  go_simp
  simp only [val_eq hxvalv hyvalv, val_eq hxmaskv hymaskv]
  cases x
  cases y
  simp only [CaseD.mk.injEq] at hb
  cases b
  · simp at hb ⊢
    first | done | exact hb | (intros; simp_all)
  · simp at hb ⊢
    first | done | (simp [hb])
set_option maxRecDepth 100000 in
theorem eqd_param (x y : ParamD) (hxname : Txt x.name) (hyname : Txt y.name)  (b : Bool) (hb : b = true ↔ x = y) (w : World) : (Op.equalIn 10000 83 (.agg #[.string (strL x.name), .int .i64 x.bits]) (.agg #[.string (strL y.name), .int .i64 y.bits])).run Try.prog w = .ok b w := by
  have hS : Try.prog.underlying 83 = some (.struct (Try.prog.fieldsOf 83)) := by kernel_rfl
  rw [show (10000 : Nat) = 9999 + 1 from rfl, run_equalIn_agg w 9999 83 _ _ hS (by kernel_rfl)]
  simp only [Program.fieldsOf, Try.underlying83]
  go_simp
  simp only [txt_eq hxname hyname]
  cases x
  cases y
  simp only [ParamD.mk.injEq] at hb
  cases b
  · simp at hb ⊢
    first | done | exact hb | (intros; simp_all)
  · simp at hb ⊢
    first | done | (simp [hb])
set_option maxRecDepth 100000 in
theorem eqd_prim (x y : PrimD)  (hxvalv : Hid (x.val < 2 ^ 128)) (hyvalv : Hid (y.val < 2 ^ 128)) (b : Bool) (hb : b = true ↔ x = y) (w : World) : (Op.equalIn 10000 107 (.agg #[.int .i64 x.op, .int .i64 x.dst, .int .i64 x.kind, .int .i64 x.n, .int .u64 (hi x.val), .int .u64 (lo x.val)]) (.agg #[.int .i64 y.op, .int .i64 y.dst, .int .i64 y.kind, .int .i64 y.n, .int .u64 (hi y.val), .int .u64 (lo y.val)])).run Try.prog w = .ok b w := by
  have hS : Try.prog.underlying 107 = some (.struct (Try.prog.fieldsOf 107)) := by kernel_rfl
  rw [show (10000 : Nat) = 9999 + 1 from rfl, run_equalIn_agg w 9999 107 _ _ hS (by kernel_rfl)]
  have hV : ∀ (d : Nat) (k n a b k' n' c e : Int) (w : World), (Op.equalIn (d + 3) 105 (.agg #[.int .i64 k, .int .i64 n, .int .u64 a, .int .u64 b]) (.agg #[.int .i64 k', .int .i64 n', .int .u64 c, .int .u64 e])).run Try.prog w = if k = k' then (if n = n' then (if a = c then (if b = e then .ok true w else .ok false w) else .ok false w) else .ok false w) else .ok false w := eqc_operand
  simp only [Program.fieldsOf, Try.underlying107]
  go_simp
  simp only [val_eq hxvalv hyvalv]
  cases x
  cases y
  simp only [PrimD.mk.injEq] at hb
  cases b
  · simp at hb ⊢
    first | done | exact hb | (intros; simp_all)
  · simp at hb ⊢
    first | done | (simp [hb])
set_option maxRecDepth 100000 in
theorem eqd_key (x y : KeyD) (hxname : Txt x.name) (hyname : Txt y.name)  (b : Bool) (hb : b = true ↔ x = y) (w : World) : (Op.equalIn 10000 73 (.agg #[.string (strL x.name), .int .i64 x.field, .int .i64 x.kind]) (.agg #[.string (strL y.name), .int .i64 y.field, .int .i64 y.kind])).run Try.prog w = .ok b w := by
  have hS : Try.prog.underlying 73 = some (.struct (Try.prog.fieldsOf 73)) := by kernel_rfl
  rw [show (10000 : Nat) = 9999 + 1 from rfl, run_equalIn_agg w 9999 73 _ _ hS (by kernel_rfl)]
  simp only [Program.fieldsOf, Try.underlying73]
  go_simp
  simp only [txt_eq hxname hyname]
  cases x
  cases y
  simp only [KeyD.mk.injEq] at hb
  cases b
  · simp at hb ⊢
    first | done | exact hb | (intros; simp_all)
  · simp at hb ⊢
    first | done | (simp [hb])
set_option maxRecDepth 100000 in
theorem eqd_stage (x y : StageD)   (b : Bool) (hb : b = true ↔ x = y) (w : World) : (Op.equalIn 10000 65 (.agg #[.int .i64 x.table, .int .i64 x.header]) (.agg #[.int .i64 y.table, .int .i64 y.header])).run Try.prog w = .ok b w := by
  have hS : Try.prog.underlying 65 = some (.struct (Try.prog.fieldsOf 65)) := by kernel_rfl
  rw [show (10000 : Nat) = 9999 + 1 from rfl, run_equalIn_agg w 9999 65 _ _ hS (by kernel_rfl)]
  simp only [Program.fieldsOf, Try.underlying65]
  go_simp
  cases x
  cases y
  simp only [StageD.mk.injEq] at hb
  cases b
  · simp at hb ⊢
    first | done | exact hb | (intros; simp_all)
  · simp at hb ⊢
    first | done | (simp [hb])
set_option maxRecDepth 100000 in
theorem eqd_ref (x y : RefD)   (b : Bool) (hb : b = true ↔ x = y) (w : World) : (Op.equalIn 10000 67 (.agg #[.int .i64 x.table, .int .i64 x.key, .int .i64 x.action, .int .i64 x.param, .int .i64 x.toTable, .int .i64 x.toKey]) (.agg #[.int .i64 y.table, .int .i64 y.key, .int .i64 y.action, .int .i64 y.param, .int .i64 y.toTable, .int .i64 y.toKey])).run Try.prog w = .ok b w := by
  have hS : Try.prog.underlying 67 = some (.struct (Try.prog.fieldsOf 67)) := by kernel_rfl
  rw [show (10000 : Nat) = 9999 + 1 from rfl, run_equalIn_agg w 9999 67 _ _ hS (by kernel_rfl)]
  simp only [Program.fieldsOf, Try.underlying67]
  go_simp
  cases x
  cases y
  simp only [RefD.mk.injEq] at hb
  cases b
  · simp at hb ⊢
    first | done | exact hb | (intros; simp_all)
  · simp at hb ⊢
    first | done | (simp [hb])
end Go.Proofs.Ythldelnibgdnaaa
