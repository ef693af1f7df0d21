/- What comes in as a schema: one opener a type. -/
import Derived.Test.YtldgjahpmlafgaaGreatJSWr
import Derived.Test.YtldgjahpmlafgaaGreatOpenB
import Derived.Deep.Slices
import Derived.ChangeArms
namespace Go.Proofs.YtldgjahpmlafgaaGreat
open Go.ChangeShapes Go.WideShapes Go.ChangeAt Go.RowKit Go.Joins Go.Deep

def wtI (_ : Int) : Nat := 1
def wtB (_ : Bool) : Nat := 1
def wtT (x : List Nat) : Nat := x.length + 1
def wtV (_ : Nat) : Nat := 3
def wtL {α : Type} (f : α → Nat) (xs : List α) : Nat := (xs.map f).sum + 1
def wtField (x : FieldD) : Nat := wtI x.id + wtT x.name + wtI x.bits + 1
def wtHeader (x : HeaderD) : Nat := wtI x.id + wtT x.name + wtL wtI x.fields + 1
def wtCase (x : CaseD) : Nat := wtV x.val + wtV x.mask + wtI x.next + 1
def wtState (x : StateD) : Nat := wtI x.id + wtI x.header + wtI x.select + wtL wtCase x.cases + wtI x.dflt + 1
def wtParam (x : ParamD) : Nat := wtT x.name + wtI x.bits + 1
def wtPrim (_ : PrimD) : Nat := 9
def wtAction (x : ActionD) : Nat := wtI x.id + wtT x.name + wtL wtParam x.params + wtL wtPrim x.body + wtT x.restr + 1
def wtKey (x : KeyD) : Nat := wtT x.name + wtI x.field + wtI x.kind + 1
def wtTable (x : TableD) : Nat := wtI x.id + wtT x.name + wtL wtKey x.keys + wtL wtI x.actions + wtI x.dflt + wtL wtV x.args + wtI x.size + wtT x.restr + 1
def wtStage (x : StageD) : Nat := wtI x.table + wtI x.header + 1
def wtGrant (x : GrantD) : Nat := wtI x.table + wtB x.read + wtB x.write + wtL wtB x.keys + 1
def wtRole (x : RoleD) : Nat := wtI x.id + wtT x.name + wtL wtGrant x.grants + wtL wtI x.actions + wtI x.quota + wtB x.audit + 1
def wtRef (x : RefD) : Nat := wtI x.table + wtI x.key + wtI x.action + wtI x.param + wtI x.toTable + wtI x.toKey + 1
def wtSchema (x : SchemaD) : Nat := wtL wtField x.fields + wtL wtHeader x.headers + wtL wtState x.states + wtL wtAction x.actions + wtL wtTable x.tables + wtL wtStage x.stages + wtL wtRole x.roles + wtL wtRef x.refs + wtI x.maxBatch + wtI x.budget + 1
section
variable {H : Type} (enc : TypeId × Value → H) (w : World)
/-- What is read at this type is such a datum, and it weighs no more than its bulk. -/
def Opens {α : Type} (t : TypeId) (P : CellP α) (wt : α → Nat) : Prop := ∀ (fuel : Nat) (cs : List Value) (x : DataW H × List MemPlace), DataW.trod enc Tryz.prog w 0 (fun _ => true) true fuel t cs = some x → ∃ y : α, P w.heap.size w cs y ∧ wt y ≤ Rows.uptoBulk x.1
theorem str_back (s : ByteArray) : strL (s.data.toList.map UInt8.toNat) = s := by
  have h : (strL (s.data.toList.map UInt8.toNat)).data.toList = s.data.toList := by
    rw [strL_data, List.map_map]
    conv => rhs; rw [← List.map_id s.data.toList]
    refine List.map_congr_left fun x _ => ?_
    simp
  have h2 : ∀ a b : ByteArray, a.data.toList = b.data.toList → a = b := fun a b e => by
    cases a; cases b; simp only [ByteArray.mk.injEq]; exact Array.ext' e
  exact h2 _ _ h
set_option maxRecDepth 100000 in
theorem op_int : Opens enc w 3 I64V wtI := fun fuel cs x h => by
  obtain ⟨n, rfl, rfl, hw⟩ := DataW.trod_int Tryz.underlying3 h
  exact ⟨n, ⟨rfl, i64_of_wf hw⟩, by simp [Rows.uptoBulk, wtI]⟩
set_option maxRecDepth 100000 in
theorem op_bool : Opens enc w 4 BoolV wtB := fun fuel cs x h => by
  obtain ⟨b, rfl, rfl⟩ := DataW.trod_bool Tryz.underlying4 h
  exact ⟨b, rfl, by simp [Rows.uptoBulk, wtB]⟩
set_option maxRecDepth 100000 in
theorem op_txt : Opens enc w 9 TxtV wtT := fun fuel cs x h => by
  obtain ⟨s, rfl, rfl, hs⟩ := DataW.trod_string Tryz.underlying9 h
  refine ⟨s.data.toList.map UInt8.toNat, ⟨by rw [str_back], fun z hz => ?_, ?_⟩, by simp [Rows.uptoBulk, wtT]⟩
  · obtain ⟨u, _, rfl⟩ := List.mem_map.1 hz
    exact u.toNat_lt
  · have e : s.data.toList.length = s.size := by rw [Array.length_toList]; rfl
    unfold maxLen at hs
    rw [List.length_map, e]
    omega
set_option maxRecDepth 100000 in
theorem op_val : Opens enc w 49 ValV wtV := fun fuel cs x h => by
  obtain ⟨zs, m, _, rfl, hl, hzl, hg⟩ := DataW.trod_struct Tryz.underlying49 h
  have hl2 : cs.length = 2 := hl
  match cs, hl2, zs, hzl with
  | [c0, c1], _, [z0, z1], _ =>
    have g0 : DataW.trod enc Tryz.prog w 0 (fun _ => true) true m 47 [c0] = some z0 := hg 0 _ rfl
    have g1 : DataW.trod enc Tryz.prog w 0 (fun _ => true) true m 47 [c1] = some z1 := hg 1 _ rfl
    obtain ⟨vh, e3, rfl, w3⟩ := DataW.trod_int Tryz.underlying47 g0
    obtain ⟨vl, e4, rfl, w4⟩ := DataW.trod_int Tryz.underlying47 g1
    simp only [List.cons.injEq, and_true] at e3 e4
    subst e3 e4
    obtain ⟨q1, q2, q3⟩ := hi_of vh vl (u64_of_wf w3) (u64_of_wf w4)
    exact ⟨_, ⟨by rw [q1, q2], q3⟩, by simp only [wtV, List.map_cons, List.map_nil, Rows.uptoBulk, Rows.uptoBulkAll]; omega⟩
theorem bulk_map {ι : Type} (D : ι → DataW H) (f : ι → Nat) : ∀ l : List ι, (∀ i ∈ l, f i ≤ Rows.uptoBulk (D i)) → (l.map f).sum ≤ Rows.uptoBulkAll (l.map D)
  | [], _ => by simp [Rows.uptoBulkAll]
  | i :: l, h => by
    have h1 := h i (List.mem_cons_self ..)
    have h2 := bulk_map D f l fun j hj => h j (List.mem_cons_of_mem _ hj)
    simp only [List.map_cons, List.sum_cons, Rows.uptoBulkAll]
    omega
/-- A slice of what can be opened. -/
theorem op_sl {α : Type} {t e : TypeId} {sz : Nat} {P : CellP α} {wt : α → Nat} (ht : Tryz.prog.underlying t = some (.slice e)) (hc : Tryz.prog.cellsOf e = sz) (h0 : 0 < sz) (hP : Opens enc w e P wt) : Opens enc w t (SlV sz P) (wtL wt) := fun fuel cs x h => by
  rcases open_slice ht h with ⟨rfl, rfl⟩ | ⟨a, len, cap, m, n, D, Pl, rfl, _, hl, hm, hmm, rfl, hi⟩
  · exact ⟨[], ⟨_, rfl, none, 0, 0, rfl, Lib.hid rfl, Nat.le_refl _, Nat.zero_le _, .inl rfl⟩, by simp [wtL, Rows.uptoBulk]⟩
  · have hmc : m = cap := by simpa using hmm
    subst hmc
    rcases Nat.eq_zero_or_pos len with h1 | h1
    · subst h1
      exact ⟨[], ⟨_, rfl, _, _, _, rfl, Lib.hid rfl, Nat.zero_le _, hm, .inl rfl⟩, by simp [wtL, Rows.uptoBulk]⟩
    · rw [hc] at hi
      have hsp : a.spot = none := by
        obtain ⟨cs', hcs, _⟩ := hi 0 (by omega)
        obtain ⟨_, hcl, hat⟩ := World.cells?_some hcs
        have h2 := hat 0 h0
        rw [List.getElem?_eq_getElem (by omega)] at h2
        have e2 : (a.add (0 * sz)).add 0 = a := by simp [Addr.add]
        rw [e2] at h2
        exact World.cell?_spot h2
      obtain ⟨b, o, s⟩ := a
      simp only at hsp
      subst hsp
      have key : ∀ i, i < len → ∃ y : α, Lies P w.heap.size w b (o + i * sz) y ∧ wt y ≤ Rows.uptoBulk (D i) := by
        intro i hilt
        obtain ⟨cs', hcs, htr⟩ := hi i (by omega)
        obtain ⟨_, hcl, hat⟩ := World.cells?_some hcs
        obtain ⟨y, hy, hwt⟩ := hP _ _ _ htr
        have hcell : ∀ j (hj : j < cs'.length), w.cell? ⟨b, o + i * sz + j, none⟩ = some (cs'[j]'hj) := fun j hj => by
          have := hat j (by omega)
          rw [Addr.add_mid, Addr.add_mid, List.getElem?_eq_getElem hj] at this
          exact this
        exact ⟨y, ⟨World.block_lt_of_cell? _ _ (hcell 0 (by omega)), cs', hcell, hy⟩, hwt⟩
      obtain ⟨y0, _⟩ := key 0 h1
      let f : Nat → α := fun i => if hlt : i < len then (key i hlt).choose else y0
      have hf : ∀ i, i < len → Lies P w.heap.size w b (o + i * sz) (f i) ∧ wt (f i) ≤ Rows.uptoBulk (D i) := fun i hlt => by
        simp only [f, hlt, dif_pos]
        exact (key i hlt).choose_spec
      refine ⟨(List.range len).map f, ⟨_, rfl, _, _, _, rfl, Lib.hid (by simp), hl, hm, .inr ⟨b, o, rfl, fun i x hx => ?_⟩⟩, ?_⟩
      · rw [List.getElem?_map] at hx
        obtain ⟨j, hj, rfl⟩ := Option.map_eq_some_iff.1 hx
        obtain ⟨hj1, hj2⟩ := List.getElem?_eq_some_iff.1 hj
        simp only [List.getElem_range] at hj2
        subst hj2
        exact (hf i (by simpa using hj1)).1
      · have := bulk_map D (fun i => wt (f i)) (List.range len) fun i hi2 => (hf i (List.mem_range.1 hi2)).2
        simp only [wtL, List.map_map, Function.comp_def, Rows.uptoBulk]
        omega
set_option maxRecDepth 100000 in
theorem op_field : Opens enc w 112 FieldV wtField := fun fuel cs x h => by
  obtain ⟨xs, m, _, rfl, hl, hxl, hg⟩ := DataW.trod_struct Tryz.underlying112 h
  have hl2 : cs.length = 3 := hl
  match cs, hl2, xs, hxl with
  | [c0, c1, c2], _, [x0, x1, x2], _ =>
    have g0 : DataW.trod enc Tryz.prog w 0 (fun _ => true) true m 3 [c0] = some x0 := hg 0 _ rfl
    obtain ⟨a0, ⟨e0, r0⟩, b0⟩ := op_int enc w _ _ _ g0
    have g1 : DataW.trod enc Tryz.prog w 0 (fun _ => true) true m 9 [c1] = some x1 := hg 1 _ rfl
    obtain ⟨a1, ⟨e1, r1⟩, b1⟩ := op_txt enc w _ _ _ g1
    have g2 : DataW.trod enc Tryz.prog w 0 (fun _ => true) true m 3 [c2] = some x2 := hg 2 _ rfl
    obtain ⟨a2, ⟨e2, r2⟩, b2⟩ := op_int enc w _ _ _ g2
    simp only [List.cons.injEq, and_true] at e0 e1 e2
    subst e0
    subst e1
    subst e2
    refine ⟨⟨a0, a1, a2⟩, ⟨rfl, r0, r1, r2⟩, ?_⟩
    simp only [List.map_cons, List.map_nil, Rows.uptoBulk, Rows.uptoBulkAll, wtField]
    omega
set_option maxRecDepth 100000 in
theorem op_header : Opens enc w 114 HeaderV wtHeader := fun fuel cs x h => by
  obtain ⟨xs, m, _, rfl, hl, hxl, hg⟩ := DataW.trod_struct Tryz.underlying114 h
  have hl2 : cs.length = 3 := hl
  match cs, hl2, xs, hxl with
  | [c0, c1, c2], _, [x0, x1, x2], _ =>
    have g0 : DataW.trod enc Tryz.prog w 0 (fun _ => true) true m 3 [c0] = some x0 := hg 0 _ rfl
    obtain ⟨a0, ⟨e0, r0⟩, b0⟩ := op_int enc w _ _ _ g0
    have g1 : DataW.trod enc Tryz.prog w 0 (fun _ => true) true m 9 [c1] = some x1 := hg 1 _ rfl
    obtain ⟨a1, ⟨e1, r1⟩, b1⟩ := op_txt enc w _ _ _ g1
    have g2 : DataW.trod enc Tryz.prog w 0 (fun _ => true) true m 57 [c2] = some x2 := hg 2 _ rfl
    obtain ⟨a2, ⟨v2, e2, r2⟩, b2⟩ := (op_sl enc w (t := 57) (e := 3) (sz := 1) Tryz.underlying57 (by kernel_rfl) (by decide) (op_int enc w)) _ _ _ g2
    simp only [List.cons.injEq, and_true] at e0 e1 e2
    subst e0
    subst e1
    subst e2
    refine ⟨⟨a0, a1, a2⟩, ⟨_, rfl, r0, r1, r2⟩, ?_⟩
    simp only [List.map_cons, List.map_nil, Rows.uptoBulk, Rows.uptoBulkAll, wtHeader]
    omega
set_option maxRecDepth 100000 in
theorem op_case : Opens enc w 174 CaseV wtCase := fun fuel cs x h => by
  obtain ⟨xs, m, _, rfl, hl, hxl, hg⟩ := DataW.trod_struct Tryz.underlying174 h
  have hl2 : cs.length = 5 := hl
  match cs, hl2, xs, hxl with
  | [c0, c1, c2, c3, c4], _, [x0, x1, x2], _ =>
    have g0 : DataW.trod enc Tryz.prog w 0 (fun _ => true) true m 49 [c0, c1] = some x0 := hg 0 _ rfl
    obtain ⟨a0, ⟨e0, r0⟩, b0⟩ := op_val enc w _ _ _ g0
    have g1 : DataW.trod enc Tryz.prog w 0 (fun _ => true) true m 49 [c2, c3] = some x1 := hg 1 _ rfl
    obtain ⟨a1, ⟨e1, r1⟩, b1⟩ := op_val enc w _ _ _ g1
    have g2 : DataW.trod enc Tryz.prog w 0 (fun _ => true) true m 3 [c4] = some x2 := hg 2 _ rfl
    obtain ⟨a2, ⟨e2, r2⟩, b2⟩ := op_int enc w _ _ _ g2
    simp only [List.cons.injEq, and_true] at e0 e1 e2
    obtain ⟨rfl, rfl⟩ := e0
    obtain ⟨rfl, rfl⟩ := e1
    subst e2
    refine ⟨⟨a0, a1, a2⟩, ⟨rfl, r0, r1, r2⟩, ?_⟩
    simp only [List.map_cons, List.map_nil, Rows.uptoBulk, Rows.uptoBulkAll, wtCase]
    omega
set_option maxRecDepth 100000 in
theorem op_state : Opens enc w 172 StateV wtState := fun fuel cs x h => by
  obtain ⟨xs, m, _, rfl, hl, hxl, hg⟩ := DataW.trod_struct Tryz.underlying172 h
  have hl2 : cs.length = 5 := hl
  match cs, hl2, xs, hxl with
  | [c0, c1, c2, c3, c4], _, [x0, x1, x2, x3, x4], _ =>
    have g0 : DataW.trod enc Tryz.prog w 0 (fun _ => true) true m 3 [c0] = some x0 := hg 0 _ rfl
    obtain ⟨a0, ⟨e0, r0⟩, b0⟩ := op_int enc w _ _ _ g0
    have g1 : DataW.trod enc Tryz.prog w 0 (fun _ => true) true m 3 [c1] = some x1 := hg 1 _ rfl
    obtain ⟨a1, ⟨e1, r1⟩, b1⟩ := op_int enc w _ _ _ g1
    have g2 : DataW.trod enc Tryz.prog w 0 (fun _ => true) true m 3 [c2] = some x2 := hg 2 _ rfl
    obtain ⟨a2, ⟨e2, r2⟩, b2⟩ := op_int enc w _ _ _ g2
    have g3 : DataW.trod enc Tryz.prog w 0 (fun _ => true) true m 170 [c3] = some x3 := hg 3 _ rfl
    obtain ⟨a3, ⟨v3, e3, r3⟩, b3⟩ := (op_sl enc w (t := 170) (e := 174) (sz := 5) Tryz.underlying170 (by kernel_rfl) (by decide) (op_case enc w)) _ _ _ g3
    have g4 : DataW.trod enc Tryz.prog w 0 (fun _ => true) true m 3 [c4] = some x4 := hg 4 _ rfl
    obtain ⟨a4, ⟨e4, r4⟩, b4⟩ := op_int enc w _ _ _ g4
    simp only [List.cons.injEq, and_true] at e0 e1 e2 e3 e4
    subst e0
    subst e1
    subst e2
    subst e3
    subst e4
    refine ⟨⟨a0, a1, a2, a3, a4⟩, ⟨_, rfl, r0, r1, r2, r3, r4⟩, ?_⟩
    simp only [List.map_cons, List.map_nil, Rows.uptoBulk, Rows.uptoBulkAll, wtState]
    omega
set_option maxRecDepth 100000 in
theorem op_param : Opens enc w 145 ParamV wtParam := fun fuel cs x h => by
  obtain ⟨xs, m, _, rfl, hl, hxl, hg⟩ := DataW.trod_struct Tryz.underlying145 h
  have hl2 : cs.length = 2 := hl
  match cs, hl2, xs, hxl with
  | [c0, c1], _, [x0, x1], _ =>
    have g0 : DataW.trod enc Tryz.prog w 0 (fun _ => true) true m 9 [c0] = some x0 := hg 0 _ rfl
    obtain ⟨a0, ⟨e0, r0⟩, b0⟩ := op_txt enc w _ _ _ g0
    have g1 : DataW.trod enc Tryz.prog w 0 (fun _ => true) true m 3 [c1] = some x1 := hg 1 _ rfl
    obtain ⟨a1, ⟨e1, r1⟩, b1⟩ := op_int enc w _ _ _ g1
    simp only [List.cons.injEq, and_true] at e0 e1
    subst e0
    subst e1
    refine ⟨⟨a0, a1⟩, ⟨rfl, r0, r1⟩, ?_⟩
    simp only [List.map_cons, List.map_nil, Rows.uptoBulk, Rows.uptoBulkAll, wtParam]
    omega
set_option maxRecDepth 100000 in
theorem op_prim : Opens enc w 178 PrimV wtPrim := fun fuel cs x h => by
  obtain ⟨xs, m, _, rfl, hl, hxl, hg⟩ := DataW.trod_struct Tryz.underlying178 h
  have hl2 : cs.length = 6 := hl
  match cs, hl2, xs, hxl with
  | [c0, c1, c2, c3, c4, c5], _, [x0, x1, x2], _ =>
    have g0 : DataW.trod enc Tryz.prog w 0 (fun _ => true) true m 3 [c0] = some x0 := hg 0 _ rfl
    have g1 : DataW.trod enc Tryz.prog w 0 (fun _ => true) true m 3 [c1] = some x1 := hg 1 _ rfl
    have g2 : DataW.trod enc Tryz.prog w 0 (fun _ => true) true m 176 [c2, c3, c4, c5] = some x2 := hg 2 _ rfl
    obtain ⟨ys, k, _, rfl, _, hyl, hh⟩ := DataW.trod_struct Tryz.underlying176 g2
    match ys, hyl with
    | [y0, y1, y2], _ =>
      have k0 : DataW.trod enc Tryz.prog w 0 (fun _ => true) true k 3 [c2] = some y0 := hh 0 _ rfl
      have k1 : DataW.trod enc Tryz.prog w 0 (fun _ => true) true k 3 [c3] = some y1 := hh 1 _ rfl
      have k2 : DataW.trod enc Tryz.prog w 0 (fun _ => true) true k 49 [c4, c5] = some y2 := hh 2 _ rfl
      obtain ⟨a0, ⟨e0, i0⟩, b0⟩ := op_int enc w _ _ _ g0
      obtain ⟨a1, ⟨e1, i1⟩, b1⟩ := op_int enc w _ _ _ g1
      obtain ⟨a2, ⟨e2, i2⟩, b2⟩ := op_int enc w _ _ _ k0
      obtain ⟨a3, ⟨e3, i3⟩, b3⟩ := op_int enc w _ _ _ k1
      obtain ⟨a4, ⟨e4, i4⟩, b4⟩ := op_val enc w _ _ _ k2
      simp only [List.cons.injEq, and_true] at e0 e1 e2 e3 e4
      obtain ⟨rfl, rfl⟩ := e4
      subst e0 e1 e2 e3
      refine ⟨⟨a0, a1, a2, a3, a4⟩, ⟨rfl, i0, i1, i2, i3, i4⟩, ?_⟩
      simp only [wtI, wtV] at b0 b1 b2 b3 b4
      simp only [List.map_cons, List.map_nil, Rows.uptoBulk, Rows.uptoBulkAll, wtPrim]
      omega
set_option maxRecDepth 100000 in
theorem op_action : Opens enc w 142 ActionV wtAction := fun fuel cs x h => by
  obtain ⟨xs, m, _, rfl, hl, hxl, hg⟩ := DataW.trod_struct Tryz.underlying142 h
  have hl2 : cs.length = 5 := hl
  match cs, hl2, xs, hxl with
  | [c0, c1, c2, c3, c4], _, [x0, x1, x2, x3, x4], _ =>
    have g0 : DataW.trod enc Tryz.prog w 0 (fun _ => true) true m 3 [c0] = some x0 := hg 0 _ rfl
    obtain ⟨a0, ⟨e0, r0⟩, b0⟩ := op_int enc w _ _ _ g0
    have g1 : DataW.trod enc Tryz.prog w 0 (fun _ => true) true m 9 [c1] = some x1 := hg 1 _ rfl
    obtain ⟨a1, ⟨e1, r1⟩, b1⟩ := op_txt enc w _ _ _ g1
    have g2 : DataW.trod enc Tryz.prog w 0 (fun _ => true) true m 139 [c2] = some x2 := hg 2 _ rfl
    obtain ⟨a2, ⟨v2, e2, r2⟩, b2⟩ := (op_sl enc w (t := 139) (e := 145) (sz := 2) Tryz.underlying139 (by kernel_rfl) (by decide) (op_param enc w)) _ _ _ g2
    have g3 : DataW.trod enc Tryz.prog w 0 (fun _ => true) true m 140 [c3] = some x3 := hg 3 _ rfl
    obtain ⟨a3, ⟨v3, e3, r3⟩, b3⟩ := (op_sl enc w (t := 140) (e := 178) (sz := 6) Tryz.underlying140 (by kernel_rfl) (by decide) (op_prim enc w)) _ _ _ g3
    have g4 : DataW.trod enc Tryz.prog w 0 (fun _ => true) true m 9 [c4] = some x4 := hg 4 _ rfl
    obtain ⟨a4, ⟨e4, r4⟩, b4⟩ := op_txt enc w _ _ _ g4
    simp only [List.cons.injEq, and_true] at e0 e1 e2 e3 e4
    subst e0
    subst e1
    subst e2
    subst e3
    subst e4
    refine ⟨⟨a0, a1, a2, a3, a4⟩, ⟨_, _, rfl, r0, r1, r2, r3, r4⟩, ?_⟩
    simp only [List.map_cons, List.map_nil, Rows.uptoBulk, Rows.uptoBulkAll, wtAction]
    omega
set_option maxRecDepth 100000 in
theorem op_key : Opens enc w 137 KeyV wtKey := fun fuel cs x h => by
  obtain ⟨xs, m, _, rfl, hl, hxl, hg⟩ := DataW.trod_struct Tryz.underlying137 h
  have hl2 : cs.length = 3 := hl
  match cs, hl2, xs, hxl with
  | [c0, c1, c2], _, [x0, x1, x2], _ =>
    have g0 : DataW.trod enc Tryz.prog w 0 (fun _ => true) true m 9 [c0] = some x0 := hg 0 _ rfl
    obtain ⟨a0, ⟨e0, r0⟩, b0⟩ := op_txt enc w _ _ _ g0
    have g1 : DataW.trod enc Tryz.prog w 0 (fun _ => true) true m 3 [c1] = some x1 := hg 1 _ rfl
    obtain ⟨a1, ⟨e1, r1⟩, b1⟩ := op_int enc w _ _ _ g1
    have g2 : DataW.trod enc Tryz.prog w 0 (fun _ => true) true m 3 [c2] = some x2 := hg 2 _ rfl
    obtain ⟨a2, ⟨e2, r2⟩, b2⟩ := op_int enc w _ _ _ g2
    simp only [List.cons.injEq, and_true] at e0 e1 e2
    subst e0
    subst e1
    subst e2
    refine ⟨⟨a0, a1, a2⟩, ⟨rfl, r0, r1, r2⟩, ?_⟩
    simp only [List.map_cons, List.map_nil, Rows.uptoBulk, Rows.uptoBulkAll, wtKey]
    omega
set_option maxRecDepth 100000 in
theorem op_table : Opens enc w 59 TableV wtTable := fun fuel cs x h => by
  obtain ⟨xs, m, _, rfl, hl, hxl, hg⟩ := DataW.trod_struct Tryz.underlying59 h
  have hl2 : cs.length = 8 := hl
  match cs, hl2, xs, hxl with
  | [c0, c1, c2, c3, c4, c5, c6, c7], _, [x0, x1, x2, x3, x4, x5, x6, x7], _ =>
    have g0 : DataW.trod enc Tryz.prog w 0 (fun _ => true) true m 3 [c0] = some x0 := hg 0 _ rfl
    obtain ⟨a0, ⟨e0, r0⟩, b0⟩ := op_int enc w _ _ _ g0
    have g1 : DataW.trod enc Tryz.prog w 0 (fun _ => true) true m 9 [c1] = some x1 := hg 1 _ rfl
    obtain ⟨a1, ⟨e1, r1⟩, b1⟩ := op_txt enc w _ _ _ g1
    have g2 : DataW.trod enc Tryz.prog w 0 (fun _ => true) true m 56 [c2] = some x2 := hg 2 _ rfl
    obtain ⟨a2, ⟨v2, e2, r2⟩, b2⟩ := (op_sl enc w (t := 56) (e := 137) (sz := 3) Tryz.underlying56 (by kernel_rfl) (by decide) (op_key enc w)) _ _ _ g2
    have g3 : DataW.trod enc Tryz.prog w 0 (fun _ => true) true m 57 [c3] = some x3 := hg 3 _ rfl
    obtain ⟨a3, ⟨v3, e3, r3⟩, b3⟩ := (op_sl enc w (t := 57) (e := 3) (sz := 1) Tryz.underlying57 (by kernel_rfl) (by decide) (op_int enc w)) _ _ _ g3
    have g4 : DataW.trod enc Tryz.prog w 0 (fun _ => true) true m 3 [c4] = some x4 := hg 4 _ rfl
    obtain ⟨a4, ⟨e4, r4⟩, b4⟩ := op_int enc w _ _ _ g4
    have g5 : DataW.trod enc Tryz.prog w 0 (fun _ => true) true m 24 [c5] = some x5 := hg 5 _ rfl
    obtain ⟨a5, ⟨v5, e5, r5⟩, b5⟩ := (op_sl enc w (t := 24) (e := 49) (sz := 2) Tryz.underlying24 (by kernel_rfl) (by decide) (op_val enc w)) _ _ _ g5
    have g6 : DataW.trod enc Tryz.prog w 0 (fun _ => true) true m 3 [c6] = some x6 := hg 6 _ rfl
    obtain ⟨a6, ⟨e6, r6⟩, b6⟩ := op_int enc w _ _ _ g6
    have g7 : DataW.trod enc Tryz.prog w 0 (fun _ => true) true m 9 [c7] = some x7 := hg 7 _ rfl
    obtain ⟨a7, ⟨e7, r7⟩, b7⟩ := op_txt enc w _ _ _ g7
    simp only [List.cons.injEq, and_true] at e0 e1 e2 e3 e4 e5 e6 e7
    subst e0
    subst e1
    subst e2
    subst e3
    subst e4
    subst e5
    subst e6
    subst e7
    refine ⟨⟨a0, a1, a2, a3, a4, a5, a6, a7⟩, ⟨_, _, _, rfl, r0, r1, r2, r3, r4, r5, r6, r7⟩, ?_⟩
    simp only [List.map_cons, List.map_nil, Rows.uptoBulk, Rows.uptoBulkAll, wtTable]
    omega
set_option maxRecDepth 100000 in
theorem op_stage : Opens enc w 120 StageV wtStage := fun fuel cs x h => by
  obtain ⟨xs, m, _, rfl, hl, hxl, hg⟩ := DataW.trod_struct Tryz.underlying120 h
  have hl2 : cs.length = 2 := hl
  match cs, hl2, xs, hxl with
  | [c0, c1], _, [x0, x1], _ =>
    have g0 : DataW.trod enc Tryz.prog w 0 (fun _ => true) true m 3 [c0] = some x0 := hg 0 _ rfl
    obtain ⟨a0, ⟨e0, r0⟩, b0⟩ := op_int enc w _ _ _ g0
    have g1 : DataW.trod enc Tryz.prog w 0 (fun _ => true) true m 3 [c1] = some x1 := hg 1 _ rfl
    obtain ⟨a1, ⟨e1, r1⟩, b1⟩ := op_int enc w _ _ _ g1
    simp only [List.cons.injEq, and_true] at e0 e1
    subst e0
    subst e1
    refine ⟨⟨a0, a1⟩, ⟨rfl, r0, r1⟩, ?_⟩
    simp only [List.map_cons, List.map_nil, Rows.uptoBulk, Rows.uptoBulkAll, wtStage]
    omega
set_option maxRecDepth 100000 in
theorem op_grant : Opens enc w 185 GrantV wtGrant := fun fuel cs x h => by
  obtain ⟨xs, m, _, rfl, hl, hxl, hg⟩ := DataW.trod_struct Tryz.underlying185 h
  have hl2 : cs.length = 4 := hl
  match cs, hl2, xs, hxl with
  | [c0, c1, c2, c3], _, [x0, x1, x2, x3], _ =>
    have g0 : DataW.trod enc Tryz.prog w 0 (fun _ => true) true m 3 [c0] = some x0 := hg 0 _ rfl
    obtain ⟨a0, ⟨e0, r0⟩, b0⟩ := op_int enc w _ _ _ g0
    have g1 : DataW.trod enc Tryz.prog w 0 (fun _ => true) true m 4 [c1] = some x1 := hg 1 _ rfl
    obtain ⟨a1, e1, b1⟩ := op_bool enc w _ _ _ g1
    have e1 : [c1] = [Value.bool a1] := e1
    have g2 : DataW.trod enc Tryz.prog w 0 (fun _ => true) true m 4 [c2] = some x2 := hg 2 _ rfl
    obtain ⟨a2, e2, b2⟩ := op_bool enc w _ _ _ g2
    have e2 : [c2] = [Value.bool a2] := e2
    have g3 : DataW.trod enc Tryz.prog w 0 (fun _ => true) true m 86 [c3] = some x3 := hg 3 _ rfl
    obtain ⟨a3, ⟨v3, e3, r3⟩, b3⟩ := (op_sl enc w (t := 86) (e := 4) (sz := 1) Tryz.underlying86 (by kernel_rfl) (by decide) (op_bool enc w)) _ _ _ g3
    simp only [List.cons.injEq, and_true] at e0 e1 e2 e3
    subst e0
    subst e1
    subst e2
    subst e3
    refine ⟨⟨a0, a1, a2, a3⟩, ⟨_, rfl, r0, r3⟩, ?_⟩
    simp only [List.map_cons, List.map_nil, Rows.uptoBulk, Rows.uptoBulkAll, wtGrant]
    omega
set_option maxRecDepth 100000 in
theorem op_role : Opens enc w 183 RoleV wtRole := fun fuel cs x h => by
  obtain ⟨xs, m, _, rfl, hl, hxl, hg⟩ := DataW.trod_struct Tryz.underlying183 h
  have hl2 : cs.length = 6 := hl
  match cs, hl2, xs, hxl with
  | [c0, c1, c2, c3, c4, c5], _, [x0, x1, x2, x3, x4, x5], _ =>
    have g0 : DataW.trod enc Tryz.prog w 0 (fun _ => true) true m 3 [c0] = some x0 := hg 0 _ rfl
    obtain ⟨a0, ⟨e0, r0⟩, b0⟩ := op_int enc w _ _ _ g0
    have g1 : DataW.trod enc Tryz.prog w 0 (fun _ => true) true m 9 [c1] = some x1 := hg 1 _ rfl
    obtain ⟨a1, ⟨e1, r1⟩, b1⟩ := op_txt enc w _ _ _ g1
    have g2 : DataW.trod enc Tryz.prog w 0 (fun _ => true) true m 181 [c2] = some x2 := hg 2 _ rfl
    obtain ⟨a2, ⟨v2, e2, r2⟩, b2⟩ := (op_sl enc w (t := 181) (e := 185) (sz := 4) Tryz.underlying181 (by kernel_rfl) (by decide) (op_grant enc w)) _ _ _ g2
    have g3 : DataW.trod enc Tryz.prog w 0 (fun _ => true) true m 57 [c3] = some x3 := hg 3 _ rfl
    obtain ⟨a3, ⟨v3, e3, r3⟩, b3⟩ := (op_sl enc w (t := 57) (e := 3) (sz := 1) Tryz.underlying57 (by kernel_rfl) (by decide) (op_int enc w)) _ _ _ g3
    have g4 : DataW.trod enc Tryz.prog w 0 (fun _ => true) true m 3 [c4] = some x4 := hg 4 _ rfl
    obtain ⟨a4, ⟨e4, r4⟩, b4⟩ := op_int enc w _ _ _ g4
    have g5 : DataW.trod enc Tryz.prog w 0 (fun _ => true) true m 4 [c5] = some x5 := hg 5 _ rfl
    obtain ⟨a5, e5, b5⟩ := op_bool enc w _ _ _ g5
    have e5 : [c5] = [Value.bool a5] := e5
    simp only [List.cons.injEq, and_true] at e0 e1 e2 e3 e4 e5
    subst e0
    subst e1
    subst e2
    subst e3
    subst e4
    subst e5
    refine ⟨⟨a0, a1, a2, a3, a4, a5⟩, ⟨_, _, rfl, r0, r1, r2, r3, r4⟩, ?_⟩
    simp only [List.map_cons, List.map_nil, Rows.uptoBulk, Rows.uptoBulkAll, wtRole]
    omega
set_option maxRecDepth 100000 in
theorem op_ref : Opens enc w 122 RefV wtRef := fun fuel cs x h => by
  obtain ⟨xs, m, _, rfl, hl, hxl, hg⟩ := DataW.trod_struct Tryz.underlying122 h
  have hl2 : cs.length = 6 := hl
  match cs, hl2, xs, hxl with
  | [c0, c1, c2, c3, c4, c5], _, [x0, x1, x2, x3, x4, x5], _ =>
    have g0 : DataW.trod enc Tryz.prog w 0 (fun _ => true) true m 3 [c0] = some x0 := hg 0 _ rfl
    obtain ⟨a0, ⟨e0, r0⟩, b0⟩ := op_int enc w _ _ _ g0
    have g1 : DataW.trod enc Tryz.prog w 0 (fun _ => true) true m 3 [c1] = some x1 := hg 1 _ rfl
    obtain ⟨a1, ⟨e1, r1⟩, b1⟩ := op_int enc w _ _ _ g1
    have g2 : DataW.trod enc Tryz.prog w 0 (fun _ => true) true m 3 [c2] = some x2 := hg 2 _ rfl
    obtain ⟨a2, ⟨e2, r2⟩, b2⟩ := op_int enc w _ _ _ g2
    have g3 : DataW.trod enc Tryz.prog w 0 (fun _ => true) true m 3 [c3] = some x3 := hg 3 _ rfl
    obtain ⟨a3, ⟨e3, r3⟩, b3⟩ := op_int enc w _ _ _ g3
    have g4 : DataW.trod enc Tryz.prog w 0 (fun _ => true) true m 3 [c4] = some x4 := hg 4 _ rfl
    obtain ⟨a4, ⟨e4, r4⟩, b4⟩ := op_int enc w _ _ _ g4
    have g5 : DataW.trod enc Tryz.prog w 0 (fun _ => true) true m 3 [c5] = some x5 := hg 5 _ rfl
    obtain ⟨a5, ⟨e5, r5⟩, b5⟩ := op_int enc w _ _ _ g5
    simp only [List.cons.injEq, and_true] at e0 e1 e2 e3 e4 e5
    subst e0
    subst e1
    subst e2
    subst e3
    subst e4
    subst e5
    refine ⟨⟨a0, a1, a2, a3, a4, a5⟩, ⟨rfl, r0, r1, r2, r3, r4, r5⟩, ?_⟩
    simp only [List.map_cons, List.map_nil, Rows.uptoBulk, Rows.uptoBulkAll, wtRef]
    omega
set_option maxRecDepth 100000 in
theorem op_schema : Opens enc w 36 SchemaV wtSchema := fun fuel cs x h => by
  obtain ⟨xs, m, _, rfl, hl, hxl, hg⟩ := DataW.trod_struct Tryz.underlying36 h
  have hl2 : cs.length = 10 := hl
  match cs, hl2, xs, hxl with
  | [c0, c1, c2, c3, c4, c5, c6, c7, c8, c9], _, [x0, x1, x2, x3, x4, x5, x6, x7, x8, x9], _ =>
    have g0 : DataW.trod enc Tryz.prog w 0 (fun _ => true) true m 27 [c0] = some x0 := hg 0 _ rfl
    obtain ⟨a0, ⟨v0, e0, r0⟩, b0⟩ := (op_sl enc w (t := 27) (e := 112) (sz := 3) Tryz.underlying27 (by kernel_rfl) (by decide) (op_field enc w)) _ _ _ g0
    have g1 : DataW.trod enc Tryz.prog w 0 (fun _ => true) true m 28 [c1] = some x1 := hg 1 _ rfl
    obtain ⟨a1, ⟨v1, e1, r1⟩, b1⟩ := (op_sl enc w (t := 28) (e := 114) (sz := 3) Tryz.underlying28 (by kernel_rfl) (by decide) (op_header enc w)) _ _ _ g1
    have g2 : DataW.trod enc Tryz.prog w 0 (fun _ => true) true m 29 [c2] = some x2 := hg 2 _ rfl
    obtain ⟨a2, ⟨v2, e2, r2⟩, b2⟩ := (op_sl enc w (t := 29) (e := 172) (sz := 5) Tryz.underlying29 (by kernel_rfl) (by decide) (op_state enc w)) _ _ _ g2
    have g3 : DataW.trod enc Tryz.prog w 0 (fun _ => true) true m 30 [c3] = some x3 := hg 3 _ rfl
    obtain ⟨a3, ⟨v3, e3, r3⟩, b3⟩ := (op_sl enc w (t := 30) (e := 142) (sz := 5) Tryz.underlying30 (by kernel_rfl) (by decide) (op_action enc w)) _ _ _ g3
    have g4 : DataW.trod enc Tryz.prog w 0 (fun _ => true) true m 31 [c4] = some x4 := hg 4 _ rfl
    obtain ⟨a4, ⟨v4, e4, r4⟩, b4⟩ := (op_sl enc w (t := 31) (e := 59) (sz := 8) Tryz.underlying31 (by kernel_rfl) (by decide) (op_table enc w)) _ _ _ g4
    have g5 : DataW.trod enc Tryz.prog w 0 (fun _ => true) true m 32 [c5] = some x5 := hg 5 _ rfl
    obtain ⟨a5, ⟨v5, e5, r5⟩, b5⟩ := (op_sl enc w (t := 32) (e := 120) (sz := 2) Tryz.underlying32 (by kernel_rfl) (by decide) (op_stage enc w)) _ _ _ g5
    have g6 : DataW.trod enc Tryz.prog w 0 (fun _ => true) true m 33 [c6] = some x6 := hg 6 _ rfl
    obtain ⟨a6, ⟨v6, e6, r6⟩, b6⟩ := (op_sl enc w (t := 33) (e := 183) (sz := 6) Tryz.underlying33 (by kernel_rfl) (by decide) (op_role enc w)) _ _ _ g6
    have g7 : DataW.trod enc Tryz.prog w 0 (fun _ => true) true m 34 [c7] = some x7 := hg 7 _ rfl
    obtain ⟨a7, ⟨v7, e7, r7⟩, b7⟩ := (op_sl enc w (t := 34) (e := 122) (sz := 6) Tryz.underlying34 (by kernel_rfl) (by decide) (op_ref enc w)) _ _ _ g7
    have g8 : DataW.trod enc Tryz.prog w 0 (fun _ => true) true m 3 [c8] = some x8 := hg 8 _ rfl
    obtain ⟨a8, ⟨e8, r8⟩, b8⟩ := op_int enc w _ _ _ g8
    have g9 : DataW.trod enc Tryz.prog w 0 (fun _ => true) true m 3 [c9] = some x9 := hg 9 _ rfl
    obtain ⟨a9, ⟨e9, r9⟩, b9⟩ := op_int enc w _ _ _ g9
    simp only [List.cons.injEq, and_true] at e0 e1 e2 e3 e4 e5 e6 e7 e8 e9
    subst e0
    subst e1
    subst e2
    subst e3
    subst e4
    subst e5
    subst e6
    subst e7
    subst e8
    subst e9
    refine ⟨⟨a0, a1, a2, a3, a4, a5, a6, a7, a8, a9⟩, ⟨_, _, _, _, _, _, _, _, rfl, r0, r1, r2, r3, r4, r5, r6, r7, r8, r9⟩, ?_⟩
    simp only [List.map_cons, List.map_nil, Rows.uptoBulk, Rows.uptoBulkAll, wtSchema]
    omega
end
end Go.Proofs.YtldgjahpmlafgaaGreat
