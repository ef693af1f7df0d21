/- Comparing lists. -/
import Derived.Test.YtldgjahpmlafgaaGreatJSWr
import Derived.Deep.QuietTactic
import Derived.BigQuiet
import Derived.Laws.StructEq
namespace Go.Proofs.YtldgjahpmlafgaaGreat
open Go.RowKit

/-- It says whether two data are equal; nothing that was there has changed. -/
def SaysEq {α : Type} (x y : α) (w : World) (e : Ending) (w' : World) : Prop := ∃ b : Bool, e = .returned (.bool b) ∧ (b = true ↔ x = y) ∧ Below w.heap.size w w'
theorem strL_inj {a b : List Nat} (ha : Txt a) (hb : Txt b) (h1 : (strL a).data.toList = (strL b).data.toList) : a = b := by
  rw [strL_data, strL_data] at h1
  have e : ∀ l : List Nat, Txt l → (l.map fun x => UInt8.ofNat x).map UInt8.toNat = l := fun l hl => by
    rw [List.map_map]
    conv => rhs; rw [← List.map_id l]
    refine List.map_congr_left fun x hx => ?_
    have := hl.1 x hx
    simp
    omega
  rw [← e a ha, ← e b hb, h1]
theorem txt_eq {a b : List Nat} (ha : Txt a) (hb : Txt b) : ((strL a).toList = (strL b).toList) = (a = b) := by
  refine propext ⟨fun h => strL_inj ha hb ?_, fun h => by rw [h]⟩
  rw [ByteArray.toList_eq, ByteArray.toList_eq] at h
  exact h
theorem val_eq {β : Type} {a b : Nat} (ha : Hid (a < 2 ^ 128)) (hb : Hid (b < 2 ^ 128)) (x y : β) : (if hi a = hi b then (if lo a = lo b then x else y) else y) = if a = b then x else y := by
  by_cases h : a = b
  · subst h; simp
  · have ha := ha.out
    have hb := hb.out
    have h2 : ¬ (hi a = hi b ∧ lo a = lo b) := by
      unfold hi lo
      omega
    rw [if_neg h]
    by_cases h3 : hi a = hi b
    · rw [if_pos h3, if_neg (fun h4 => h2 ⟨h3, h4⟩)]
    · rw [if_neg h3]
theorem take_eq {α : Type} {xs ys : List α} {k : Nat} {x y : α} (h : xs.take k = ys.take k) (hx : xs[k]? = some x) (hy : ys[k]? = some y) (e : x = y) : xs.take (k + 1) = ys.take (k + 1) := by
  obtain ⟨a1, a2⟩ := List.getElem?_eq_some_iff.1 hx
  obtain ⟨b1, b2⟩ := List.getElem?_eq_some_iff.1 hy
  rw [List.take_succ_eq_append_getElem a1, List.take_succ_eq_append_getElem b1, h, a2, b2, e]
theorem ne_at {α : Type} {xs ys : List α} {k : Nat} {x y : α} (hx : xs[k]? = some x) (hy : ys[k]? = some y) (e : ¬ x = y) : ¬ xs = ys := fun h => e (by rw [h, hy] at hx; injection hx with hx; exact hx.symm)
theorem some_bool (p : Prop) : ∃ b : Bool, b = true ↔ p := by
  by_cases h : p
  · exact ⟨true, by simp [h]⟩
  · exact ⟨false, by simp [h]⟩
theorem belowS_drewN (B n : Nat) (w : World) : Below B w (w.drewN n) := ⟨rfl, rfl, rfl, Nat.le_refl _, fun _ _ => rfl⟩
set_option maxRecDepth 100000 in
theorem eqc_val (d : Nat) (a b c e : Int) (w : World) : (Op.equalIn (d + 2) 49 (.agg #[.int .u64 a, .int .u64 b]) (.agg #[.int .u64 c, .int .u64 e])).run Tryz.prog w = if a = c then (if b = e then .ok true w else .ok false w) else .ok false w := by
  have hS : Tryz.prog.underlying 49 = some (.struct (Tryz.prog.fieldsOf 49)) := by kernel_rfl
  rw [show d + 2 = (d + 1) + 1 from rfl, run_equalIn_agg w (d + 1) 49 _ _ hS (by kernel_rfl)]
  simp only [Program.fieldsOf, Tryz.underlying49]
  go_simp
set_option maxRecDepth 100000 in
theorem eqc_operand (d : Nat) (k n a b k' n' c e : Int) (w : World) : (Op.equalIn (d + 3) 176 (.agg #[.int .i64 k, .int .i64 n, .int .u64 a, .int .u64 b]) (.agg #[.int .i64 k', .int .i64 n', .int .u64 c, .int .u64 e])).run Tryz.prog w = if k = k' then (if n = n' then (if a = c then (if b = e then .ok true w else .ok false w) else .ok false w) else .ok false w) else .ok false w := by
  have hS : Tryz.prog.underlying 176 = some (.struct (Tryz.prog.fieldsOf 176)) := by kernel_rfl
  have hV : ∀ (d : Nat) (a b c e : Int) (w : World), (Op.equalIn (d + 2) 49 (.agg #[.int .u64 a, .int .u64 b]) (.agg #[.int .u64 c, .int .u64 e])).run Tryz.prog w = if a = c then (if b = e then .ok true w else .ok false w) else .ok false w := eqc_val
  rw [show d + 3 = (d + 2) + 1 from rfl, run_equalIn_agg w (d + 2) 176 _ _ hS (by kernel_rfl)]
  simp only [Program.fieldsOf, Tryz.underlying176]
  clear hS
  go_simp
set_option maxRecDepth 100000 in
theorem eqd_val (x y : Nat)  (hxv : Hid (x < 2 ^ 128)) (hyv : Hid (y < 2 ^ 128)) (b : Bool) (hb : b = true ↔ x = y) (w : World) : (Op.equalIn 10000 49 (.agg #[.int .u64 (hi x), .int .u64 (lo x)]) (.agg #[.int .u64 (hi y), .int .u64 (lo y)])).run Tryz.prog w = .ok b w := by
  have hS : Tryz.prog.underlying 49 = some (.struct (Tryz.prog.fieldsOf 49)) := by kernel_rfl
  rw [show (10000 : Nat) = 9999 + 1 from rfl, run_equalIn_agg w 9999 49 _ _ hS (by kernel_rfl)]
  simp only [Program.fieldsOf, Tryz.underlying49]
  go_simp
  simp only [val_eq hxv hyv]
  cases b
  · simp at hb ⊢
    first | done | exact hb | (intros; simp_all)
  · simp at hb ⊢
    first | done | (simp [hb])
set_option maxRecDepth 100000 in
theorem eqd_field (x y : FieldD) (hxname : Txt x.name) (hyname : Txt y.name)  (b : Bool) (hb : b = true ↔ x = y) (w : World) : (Op.equalIn 10000 112 (.agg #[.int .i64 x.id, .string (strL x.name), .int .i64 x.bits]) (.agg #[.int .i64 y.id, .string (strL y.name), .int .i64 y.bits])).run Tryz.prog w = .ok b w := by
  have hS : Tryz.prog.underlying 112 = some (.struct (Tryz.prog.fieldsOf 112)) := by kernel_rfl
  rw [show (10000 : Nat) = 9999 + 1 from rfl, run_equalIn_agg w 9999 112 _ _ hS (by kernel_rfl)]
  simp only [Program.fieldsOf, Tryz.underlying112]
  go_simp
  simp only [txt_eq hxname hyname]
  cases x
  cases y
  simp only [FieldD.mk.injEq] at hb
  cases b
  · simp at hb ⊢
    first | done | exact hb | (intros; simp_all)
  · simp at hb ⊢
    first | done | (simp [hb])
set_option maxRecDepth 100000 in
theorem eqd_case (x y : CaseD)  (hxvalv : Hid (x.val < 2 ^ 128)) (hyvalv : Hid (y.val < 2 ^ 128)) (hxmaskv : Hid (x.mask < 2 ^ 128)) (hymaskv : Hid (y.mask < 2 ^ 128)) (b : Bool) (hb : b = true ↔ x = y) (w : World) : (Op.equalIn 10000 174 (.agg #[.int .u64 (hi x.val), .int .u64 (lo x.val), .int .u64 (hi x.mask), .int .u64 (lo x.mask), .int .i64 x.next]) (.agg #[.int .u64 (hi y.val), .int .u64 (lo y.val), .int .u64 (hi y.mask), .int .u64 (lo y.mask), .int .i64 y.next])).run Tryz.prog w = .ok b w := by
  have hS : Tryz.prog.underlying 174 = some (.struct (Tryz.prog.fieldsOf 174)) := by kernel_rfl
  rw [show (10000 : Nat) = 9999 + 1 from rfl, run_equalIn_agg w 9999 174 _ _ hS (by kernel_rfl)]
  have hV : ∀ (d : Nat) (a b c e : Int) (w : World), (Op.equalIn (d + 2) 49 (.agg #[.int .u64 a, .int .u64 b]) (.agg #[.int .u64 c, .int .u64 e])).run Tryz.prog w = if a = c then (if b = e then .ok true w else .ok false w) else .ok false w := eqc_val
  simp only [Program.fieldsOf, Tryz.underlying174]
  go_simp
  simp only [val_eq hxvalv hyvalv, val_eq hxmaskv hymaskv]
  cases x
  cases y
  simp only [CaseD.mk.injEq] at hb
  cases b
  · simp at hb ⊢
    first | done | exact hb | (intros; simp_all)
  · simp at hb ⊢
    first | done | (simp [hb])
set_option maxRecDepth 100000 in
theorem eqd_param (x y : ParamD) (hxname : Txt x.name) (hyname : Txt y.name)  (b : Bool) (hb : b = true ↔ x = y) (w : World) : (Op.equalIn 10000 145 (.agg #[.string (strL x.name), .int .i64 x.bits]) (.agg #[.string (strL y.name), .int .i64 y.bits])).run Tryz.prog w = .ok b w := by
  have hS : Tryz.prog.underlying 145 = some (.struct (Tryz.prog.fieldsOf 145)) := by kernel_rfl
  rw [show (10000 : Nat) = 9999 + 1 from rfl, run_equalIn_agg w 9999 145 _ _ hS (by kernel_rfl)]
  simp only [Program.fieldsOf, Tryz.underlying145]
  go_simp
  simp only [txt_eq hxname hyname]
  cases x
  cases y
  simp only [ParamD.mk.injEq] at hb
  cases b
  · simp at hb ⊢
    first | done | exact hb | (intros; simp_all)
  · simp at hb ⊢
    first | done | (simp [hb])
set_option maxRecDepth 100000 in
theorem eqd_prim (x y : PrimD)  (hxvalv : Hid (x.val < 2 ^ 128)) (hyvalv : Hid (y.val < 2 ^ 128)) (b : Bool) (hb : b = true ↔ x = y) (w : World) : (Op.equalIn 10000 178 (.agg #[.int .i64 x.op, .int .i64 x.dst, .int .i64 x.kind, .int .i64 x.n, .int .u64 (hi x.val), .int .u64 (lo x.val)]) (.agg #[.int .i64 y.op, .int .i64 y.dst, .int .i64 y.kind, .int .i64 y.n, .int .u64 (hi y.val), .int .u64 (lo y.val)])).run Tryz.prog w = .ok b w := by
  have hS : Tryz.prog.underlying 178 = some (.struct (Tryz.prog.fieldsOf 178)) := by kernel_rfl
  rw [show (10000 : Nat) = 9999 + 1 from rfl, run_equalIn_agg w 9999 178 _ _ hS (by kernel_rfl)]
  have hV : ∀ (d : Nat) (k n a b k' n' c e : Int) (w : World), (Op.equalIn (d + 3) 176 (.agg #[.int .i64 k, .int .i64 n, .int .u64 a, .int .u64 b]) (.agg #[.int .i64 k', .int .i64 n', .int .u64 c, .int .u64 e])).run Tryz.prog w = if k = k' then (if n = n' then (if a = c then (if b = e then .ok true w else .ok false w) else .ok false w) else .ok false w) else .ok false w := eqc_operand
  simp only [Program.fieldsOf, Tryz.underlying178]
  go_simp
  simp only [val_eq hxvalv hyvalv]
  cases x
  cases y
  simp only [PrimD.mk.injEq] at hb
  cases b
  · simp at hb ⊢
    first | done | exact hb | (intros; simp_all)
  · simp at hb ⊢
    first | done | (simp [hb])
set_option maxRecDepth 100000 in
theorem eqd_key (x y : KeyD) (hxname : Txt x.name) (hyname : Txt y.name)  (b : Bool) (hb : b = true ↔ x = y) (w : World) : (Op.equalIn 10000 137 (.agg #[.string (strL x.name), .int .i64 x.field, .int .i64 x.kind]) (.agg #[.string (strL y.name), .int .i64 y.field, .int .i64 y.kind])).run Tryz.prog w = .ok b w := by
  have hS : Tryz.prog.underlying 137 = some (.struct (Tryz.prog.fieldsOf 137)) := by kernel_rfl
  rw [show (10000 : Nat) = 9999 + 1 from rfl, run_equalIn_agg w 9999 137 _ _ hS (by kernel_rfl)]
  simp only [Program.fieldsOf, Tryz.underlying137]
  go_simp
  simp only [txt_eq hxname hyname]
  cases x
  cases y
  simp only [KeyD.mk.injEq] at hb
  cases b
  · simp at hb ⊢
    first | done | exact hb | (intros; simp_all)
  · simp at hb ⊢
    first | done | (simp [hb])
set_option maxRecDepth 100000 in
theorem eqd_stage (x y : StageD)   (b : Bool) (hb : b = true ↔ x = y) (w : World) : (Op.equalIn 10000 120 (.agg #[.int .i64 x.table, .int .i64 x.header]) (.agg #[.int .i64 y.table, .int .i64 y.header])).run Tryz.prog w = .ok b w := by
  have hS : Tryz.prog.underlying 120 = some (.struct (Tryz.prog.fieldsOf 120)) := by kernel_rfl
  rw [show (10000 : Nat) = 9999 + 1 from rfl, run_equalIn_agg w 9999 120 _ _ hS (by kernel_rfl)]
  simp only [Program.fieldsOf, Tryz.underlying120]
  go_simp
  cases x
  cases y
  simp only [StageD.mk.injEq] at hb
  cases b
  · simp at hb ⊢
    first | done | exact hb | (intros; simp_all)
  · simp at hb ⊢
    first | done | (simp [hb])
set_option maxRecDepth 100000 in
theorem eqd_ref (x y : RefD)   (b : Bool) (hb : b = true ↔ x = y) (w : World) : (Op.equalIn 10000 122 (.agg #[.int .i64 x.table, .int .i64 x.key, .int .i64 x.action, .int .i64 x.param, .int .i64 x.toTable, .int .i64 x.toKey]) (.agg #[.int .i64 y.table, .int .i64 y.key, .int .i64 y.action, .int .i64 y.param, .int .i64 y.toTable, .int .i64 y.toKey])).run Tryz.prog w = .ok b w := by
  have hS : Tryz.prog.underlying 122 = some (.struct (Tryz.prog.fieldsOf 122)) := by kernel_rfl
  rw [show (10000 : Nat) = 9999 + 1 from rfl, run_equalIn_agg w 9999 122 _ _ hS (by kernel_rfl)]
  simp only [Program.fieldsOf, Tryz.underlying122]
  go_simp
  cases x
  cases y
  simp only [RefD.mk.injEq] at hb
  cases b
  · simp at hb ⊢
    first | done | exact hb | (intros; simp_all)
  · simp at hb ⊢
    first | done | (simp [hb])
end Go.Proofs.YtldgjahpmlafgaaGreat
