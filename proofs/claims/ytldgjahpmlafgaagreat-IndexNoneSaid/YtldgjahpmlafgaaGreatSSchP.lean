/- Making a schema out of choices: the schema, as data. -/
import Derived.Test.YtldgjahpmlafgaaGreatSActV
import Derived.Test.YtldgjahpmlafgaaGreatSRols
import Derived.Test.YtldgjahpmlafgaaGreatSTabs
namespace Go.Proofs.YtldgjahpmlafgaaGreat
open Go.RowKit

def fieldsD : List FieldD := [⟨1, [105, 110, 103, 114, 101, 115, 115], 16⟩, ⟨2, [101, 103, 114, 101, 115, 115], 16⟩, ⟨3, [109, 101, 116, 97], 8⟩, ⟨4, [97], 4⟩, ⟨5, [98], 4⟩, ⟨6, [101], 8⟩, ⟨7, [100], 32⟩, ⟨8, [102], 12⟩, ⟨9, [103], 4⟩]
def headersD : List HeaderD := [⟨1, [111, 110, 101], [4, 5, 6]⟩, ⟨2, [116, 119, 111], [7]⟩, ⟨3, [116, 104, 114, 101, 101], [8, 9]⟩]
def stagesD (b : Bool) : List StageD := if b then [⟨1, 1⟩, ⟨2, 2⟩, ⟨3, 0⟩, ⟨4, 3⟩, ⟨1, 0⟩] else [⟨1, 1⟩, ⟨2, 2⟩, ⟨3, 0⟩, ⟨4, 3⟩]
def refsD (a b c : Bool) : List RefD := (if a then [⟨2, 0, 4, 0, 1, 0⟩] else []) ++ (if b then [⟨3, 2, 0, 0, 1, 0⟩] else []) ++ (if c then [⟨4, 1, 0, 0, 1, 0⟩, ⟨4, 0, 5, 0, 1, 0⟩] else [])
/-- The schemas that are made out of choices. -/
structure SchemaOk (x : SchemaD) : Prop where
  mb : ∃ m : Nat, m < 8 ∧ x.maxBatch = 2 + (m : Int)
  bg : ∃ m : Nat, m < 30 ∧ x.budget = 12 + (m : Int)
  fields : x.fields = fieldsD
  headers : x.headers = headersD
  states : StatesOk x.states
  actions : ∃ (q r : Nat) (t3 t5 : List Nat), q < 2 ∧ r < 256 ∧ ActTexts t3 t5 ∧ x.actions = actDs q r t3 t5
  tables : TablesOk x.tables
  roles : RolesOk x.tables x.roles
  stages : ∃ b, x.stages = stagesD b
  refs : ∃ a b c, x.refs = refsD a b c ∧ (b = true → ∃ t, x.tables[2]? = some t ∧ t.keys.length = 3) ∧ (c = true → ∃ t, x.tables[3]? = some t ∧ t.keys.length = 3)
def RetSchema (K D : Nat) (l : List Nat) (w : World) (e : Ending) (w' : World) : Prop := ∃ (v0 v1 v2 v3 v4 v5 v6 v7 : Value) (x : SchemaD), e = .returned (.agg #[v0, v1, v2, v3, v4, v5, v6, v7, .int .i64 x.maxBatch, .int .i64 x.budget]) ∧ (SchemaOk x ∧ (l = [] → TabsNil x.tables)) ∧
  ElH SchemaV w.heap.size w'.heap.size w' [v0, v1, v2, v3, v4, v5, v6, v7, .int .i64 x.maxBatch, .int .i64 x.budget] x ∧ w.grownBy w' (some K) ∧ ∃ p, CoAt K D l p w'
theorem tables_keys {xs : List TableD} (h : TablesOk xs) : xs ≠ [] ∧ xs.length = 4 ∧ ∀ x ∈ xs, x.keys.length ≤ 4 := by
  obtain ⟨q, s1, s2, s3, s4, b2, b3, b4, f, _, _, _, _, _, _, rfl⟩ := h
  refine ⟨by simp, rfl, fun x hx => ?_⟩
  simp only [List.mem_cons, List.not_mem_nil, or_false] at hx
  rcases hx with rfl | rfl | rfl | rfl
  · simp [tab1D]
  · cases b2 <;> simp [tab2D]
  · cases b3 <;> simp [tab3D]
  · cases b4 <;> simp [tab4D]
def encRef (x : RefD) : List Value := [.int .i64 x.table, .int .i64 x.key, .int .i64 x.action, .int .i64 x.param, .int .i64 x.toTable, .int .i64 x.toKey]
def RefOk (x : RefD) : Prop := I64 x.table ∧ I64 x.key ∧ I64 x.action ∧ I64 x.param ∧ I64 x.toTable ∧ I64 x.toKey
theorem info_ref : (Tryz.prog.info? 122).map (fun i => (i.zero, i.size, i.bytes)) = some (some (.agg #[.int .i64 0, .int .i64 0, .int .i64 0, .int .i64 0, .int .i64 0, .int .i64 0]), 6, 48) := by kernel_rfl
theorem info_stg2 : (Tryz.prog.info? 120).map (fun i => (i.zero, i.size, i.bytes)) = some (some (.agg #[.int .i64 0, .int .i64 0]), 2, 16) := by kernel_rfl
/-- The slices of a schema, apart from the references. -/
structure SV where
  v0 : Value
  v1 : Value
  v2 : Value
  v3 : Value
  v4 : Value
  v5 : Value
  v6 : Value
  x : SchemaD
def zeroSchema : List Value := [.slice none 0 0, .slice none 0 0, .slice none 0 0, .slice none 0 0, .slice none 0 0, .slice none 0 0, .slice none 0 0, .slice none 0 0, .int .i64 0, .int .i64 0]
/-- A schema under way, in the block S; the result lies in Q. -/
structure SchL (K D S Q : Nat) (l : List Nat) (s : SV) (v7 : Value) (refs : List RefD) (b0 : Nat) (w W : World) : Prop where
  KS : K < w.heap.size
  DS : l ≠ [] → D < w.heap.size
  Qw : w.heap.size ≤ Q
  QS : Q < S
  Sb : S < b0
  bW : b0 ≤ W.heap.size
  box : Bx K S [s.v0, s.v1, s.v2, s.v3, s.v4, s.v5, s.v6, v7, .int .i64 s.x.maxBatch, .int .i64 s.x.budget] W
  res : Bx K Q zeroSchema W
  r0 : RowH 3 FieldV (S + 1) b0 W s.v0 s.x.fields
  r1 : RowH 3 HeaderV (S + 1) b0 W s.v1 s.x.headers
  r2 : RowH 5 StateV (S + 1) b0 W s.v2 s.x.states
  r3 : RowH 5 ActionV (S + 1) b0 W s.v3 s.x.actions
  r4 : RowH 8 TableV (S + 1) b0 W s.v4 s.x.tables
  r5 : RowH 2 StageV (S + 1) b0 W s.v5 s.x.stages
  r6 : RowH 6 RoleV (S + 1) b0 W s.v6 s.x.roles
  own : W.ownsRow b0 122 6 v7 refs.length (flat encRef refs)
  rok : ∀ x ∈ refs, RefOk x
  i8 : I64 s.x.maxBatch
  i9 : I64 s.x.budget
  co : ∃ p, CoAt K D l p W
  gr : w.grownBy W (some K)
section
variable {K D S Q b0 p : Nat} {l : List Nat} {s : SV} {v7 : Value} {refs : List RefD} {w W W' w1 : World}
theorem SchL.same (h : SchL K D S Q l s v7 refs b0 w W) (hs : SameB (S + 1) b0 W W') (hx : Bx K S [s.v0, s.v1, s.v2, s.v3, s.v4, s.v5, s.v6, v7, .int .i64 s.x.maxBatch, .int .i64 s.x.budget] W') (hr : Bx K Q zeroSchema W') (ho : W'.ownsRow b0 122 6 v7 refs.length (flat encRef refs)) (c : CoAt K D l p W') (g : w.grownBy W' (some K)) : SchL K D S Q l s v7 refs b0 w W' :=
  ⟨h.KS, h.DS, h.Qw, h.QS, h.Sb, hs.size, hx, hr, h.r0.kept hs, h.r1.kept hs, h.r2.kept hs, h.r3.kept hs, h.r4.kept hs, h.r5.kept hs, h.r6.kept hs, ho, h.rok, h.i8, h.i9, ⟨p, c⟩, g⟩
theorem SchL.chose (h : SchL K D S Q l s v7 refs b0 w W) (hg : W.grownBy W' (some K)) (c : CoAt K D l p W') : SchL K D S Q l s v7 refs b0 w W' := by
  have h1 := h.KS
  have h2 := h.Qw
  have h3 := h.QS
  have h4 := h.Sb
  exact h.same (.of_grown hg h.bW (fun k e => by injection e with e; omega)) (h.box.chose hg) (h.res.chose hg) (own_chose h.own hg (by omega)) c (h.gr.trans hg)
theorem SchL.store (h : SchL K D S Q l s v7 refs b0 w W) {o : Obj} (hg : (W.alloc o).grownBy w1 v7.ownBlock) : w1.cell? ⟨S, 7, none⟩ = some v7 ∧ w1.frozen? ⟨S, 7, none⟩ = false := by
  have hb := (h.box.alloc o).kept hg (fun e => by have := (World.ownsRow.lt h.own _ e.symm).1; have := h.Sb; omega)
  exact ⟨hb.c 7 (by simp), hb.f 7⟩
/-- More references. -/
theorem SchL.app (h : SchL K D S Q l s v7 refs b0 w W) {o : Obj} {u : Value} {m : Nat} (new : List RefD) (hm : m = new.length) (hok : ∀ x ∈ new, RefOk x) {cs : List Value} (hcs : cs = flat encRef new) (hO : w1.ownsRow b0 122 6 u (refs.length + m) (flat encRef refs ++ cs)) (hg : (W.alloc o).grownBy w1 v7.ownBlock) :
    SchL K D S Q l s u (refs ++ new) b0 w (w1.setCell ⟨S, 7, none⟩ u) := by
  have h1 := h.KS
  have h2 := h.Qw
  have h3 := h.QS
  have h4 := h.Sb
  have h5 := h.bW
  have hge : ∀ b, v7.ownBlock = some b → b0 ≤ b := fun b e => (World.ownsRow.lt h.own b e).1
  have hsz : (W.alloc o).heap.size = W.heap.size + 1 := by simp
  have hz : (w1.setCell ⟨S, 7, none⟩ u).heap.size = w1.heap.size := by simp [World.setCell]
  have s2 : SameB (S + 1) b0 W (w1.setCell ⟨S, 7, none⟩ u) := (((SameB.refl h5).trans (.of_alloc h5 o)).trans (.of_grown hg (by omega) (fun k e => by have := hge k e; omega))).trans (.of_set (by have := hg.size; omega) (.inl (by omega)) 7 u)
  have hx := ((h.box.alloc o).kept hg (fun e => by have := hge _ e.symm; omega)).set 7 u
  have hr := ((h.res.alloc o).kept hg (fun e => by have := hge _ e.symm; omega)).other (M := S) (by omega) 7 u
  obtain ⟨p, c⟩ := h.co
  subst hm hcs
  refine ⟨h.KS, h.DS, h.Qw, h.QS, h.Sb, s2.size, hx, hr, h.r0.kept s2, h.r1.kept s2, h.r2.kept s2, h.r3.kept s2, h.r4.kept s2, h.r5.kept s2, h.r6.kept s2, ?_, fun x hx => ?_, h.i8, h.i9, ⟨p, ?_⟩, ?_⟩
  · have e : flat encRef (refs ++ new) = flat encRef refs ++ flat encRef new := by simp [flat]
    rw [e, List.length_append]
    exact own_setT hO h4
  · rcases List.mem_append.1 hx with hx | hx
    · exact h.rok x hx
    · exact hok x hx
  · exact ((c.kept (grown_alloc W o none) (by simp) (by simp)).kept hg (fun e => by have := hge _ e; omega) (fun e0 e => by have := hge _ e; have := h.DS e0; omega)).kept (grown_set w1 S 7 u) (fun e => by injection e with e; omega) (fun e0 e => by have := h.DS e0; injection e with e; omega)
  · have g1 : w.grownBy w1 (some K) := by
      have ga := h.gr.trans (grown_alloc W o (some K))
      refine ⟨hg.os.trans ga.os, hg.tape.trans ga.tape, hg.output.trans ga.output, Nat.le_trans ga.size hg.size, fun k hk hr => ?_⟩
      rw [hg.block k (by have := h.gr.size; omega) (fun e => by have := hge k e.symm; omega)]
      exact ga.block k hk hr
    exact grown_own g1 (by omega) 7 u
/-- The result, behind its last store. -/
theorem SchL.fin (h : SchL K D S Q l s v7 refs b0 w W) (hok : SchemaOk { s.x with refs := refs } ∧ (l = [] → TabsNil s.x.tables)) (hs : ∀ k, k < W.heap.size → k ≠ Q → W'.heap[k]? = W.heap[k]?) (hz : W'.heap.size = W.heap.size) (ho : W'.os = W.os) (ht : W'.tape = W.tape) (hu : W'.output = W.output) :
    RetSchema K D l w (.returned (.agg #[s.v0, s.v1, s.v2, s.v3, s.v4, s.v5, s.v6, v7, .int .i64 s.x.maxBatch, .int .i64 s.x.budget])) W' := by
  have h1 := h.KS
  have h2 := h.Qw
  have h3 := h.QS
  have h4 := h.Sb
  have h5 := h.bW
  obtain ⟨p, c⟩ := h.co
  have hg : W.grownBy W' (some Q) := ⟨ho, ht, hu, by omega, fun k hk e => hs k hk (fun e2 => e (by rw [e2]))⟩
  have sB : SameB (S + 1) W.heap.size W W' := .of_grown hg (Nat.le_refl _) (fun k e => by injection e with e; omega)
  have hrefs : RowH 6 RefV (S + 1) W.heap.size W v7 refs := rowH_of_own (enc := encRef) (fun _ => rfl) (by omega) (Nat.le_refl _) (fun x hx w2 B _ _ => ⟨rfl, h.rok x hx⟩) h.own
  refine ⟨_, _, _, _, _, _, _, _, { s.x with refs := refs }, rfl, hok, fun w2 B s2 hB => ?_, ?_, p, c.kept hg (fun e => by injection e with e; omega) (fun e0 e => by have := h.DS e0; injection e with e; omega)⟩
  · rw [hz] at s2 hB
    have sC : SameB (S + 1) W.heap.size W w2 := sB.trans (s2.narrow (by omega) (Nat.le_refl _))
    have sD : SameB (S + 1) b0 W w2 := sC.narrow (Nat.le_refl _) h5
    have hB0 : b0 ≤ B := by omega
    exact ⟨_, _, _, _, _, _, _, _, rfl, h.r0 w2 B sD hB0, h.r1 w2 B sD hB0, h.r2 w2 B sD hB0, h.r3 w2 B sD hB0, h.r4 w2 B sD hB0, h.r5 w2 B sD hB0, h.r6 w2 B sD hB0, hrefs w2 B sC hB, h.i8, h.i9⟩
  · refine ⟨ho.trans h.gr.os, ht.trans h.gr.tape, hu.trans h.gr.output, by rw [hz]; exact h.gr.size, fun k hk hr => ?_⟩
    rw [hs k (by have := h.gr.size; omega) (by omega)]
    exact h.gr.block k hk hr
/-- What is known of the schema ahead of its references. -/
structure PreOk (l : List Nat) (x : SchemaD) : Prop where
  mb : ∃ m : Nat, m < 8 ∧ x.maxBatch = 2 + (m : Int)
  bg : ∃ m : Nat, m < 30 ∧ x.budget = 12 + (m : Int)
  fields : x.fields = fieldsD
  headers : x.headers = headersD
  states : StatesOk x.states
  actions : ∃ (q r : Nat) (t3 t5 : List Nat), q < 2 ∧ r < 256 ∧ ActTexts t3 t5 ∧ x.actions = actDs q r t3 t5
  tables : TablesOk x.tables ∧ (l = [] → TabsNil x.tables)
  roles : RolesOk x.tables x.roles
  stages : ∃ b, x.stages = stagesD b
def SchP (K D S Q : Nat) (l : List Nat) (w W : World) : Prop := ∃ (s : SV) (b0 : Nat), SchL K D S Q l s (.slice none 0 0) [] b0 w W ∧ PreOk l s.x
theorem SchL.stage (h : SchL K D S Q l s (.slice none 0 0) [] b0 w W) (hp : PreOk l s.x) {o : Obj} {u : Value} {n : Nat} {cs : List Value} (hO : w1.ownsRow (W.alloc o).heap.size 120 2 u n cs) (hn : n = 5) (hcs : cs = [.int .i64 1, .int .i64 1, .int .i64 2, .int .i64 2, .int .i64 3, .int .i64 0, .int .i64 4, .int .i64 3, .int .i64 1, .int .i64 0]) (hg : (W.alloc o).grownBy w1 none) :
    SchP K D S Q l w (w1.setCell ⟨S, 5, none⟩ u) := by
  have h1 := h.KS
  have h2 := h.Qw
  have h3 := h.QS
  have h4 := h.Sb
  have h5 := h.bW
  have hsz : (W.alloc o).heap.size = W.heap.size + 1 := by simp
  have hgs := hg.size
  have hz : (w1.setCell ⟨S, 5, none⟩ u).heap.size = w1.heap.size := by simp [World.setCell]
  have s2 : SameB (S + 1) b0 W (w1.setCell ⟨S, 5, none⟩ u) := ((SameB.of_alloc h5 o).trans (.of_grown hg (by omega) (fun k e => by cases e))).trans (.of_set (by omega) (.inl (by omega)) 5 u)
  have hx := ((h.box.alloc o).kept hg (by simp)).set 5 u
  have hr := ((h.res.alloc o).kept hg (by simp)).other (M := S) (by omega) 5 u
  obtain ⟨p, c⟩ := h.co
  let enc : StageD → List Value := fun x => [.int .i64 x.table, .int .i64 x.header]
  have r5 : RowH 2 StageV (S + 1) (w1.setCell ⟨S, 5, none⟩ u).heap.size (w1.setCell ⟨S, 5, none⟩ u) u (stagesD true) := by
    refine rowH_of_own (enc := enc) (base := (W.alloc o).heap.size) (e := 120) (fun _ => rfl) (by omega) (Nat.le_refl _) (fun x hx w2 B _ _ => ?_) ?_
    · simp only [stagesD, if_true, List.mem_cons, List.not_mem_nil, or_false] at hx
      rcases hx with rfl | rfl | rfl | rfl | rfl
      all_goals exact ⟨rfl, i64_of (by decide), i64_of (by decide)⟩
    · subst hn hcs
      exact own_setT hO (by omega)
  refine ⟨{ s with v5 := u, x := { s.x with stages := stagesD true } }, (w1.setCell ⟨S, 5, none⟩ u).heap.size, ⟨h.KS, h.DS, h.Qw, h.QS, by omega, Nat.le_refl _, hx, hr, (h.r0.kept s2).widen (Nat.le_refl _) (by omega), (h.r1.kept s2).widen (Nat.le_refl _) (by omega), (h.r2.kept s2).widen (Nat.le_refl _) (by omega), (h.r3.kept s2).widen (Nat.le_refl _) (by omega), (h.r4.kept s2).widen (Nat.le_refl _) (by omega), r5, (h.r6.kept s2).widen (Nat.le_refl _) (by omega), World.ownsRow_nil _ _ _ _, h.rok, h.i8, h.i9, ⟨p, ?_⟩, ?_⟩, ⟨hp.mb, hp.bg, hp.fields, hp.headers, hp.states, hp.actions, hp.tables, hp.roles, ⟨true, rfl⟩⟩⟩
  · exact ((c.kept (grown_alloc W o none) (by simp) (by simp)).kept hg (by simp) (by simp)).kept (grown_set w1 S 5 u) (fun e => by injection e with e; omega) (fun e0 e => by have := h.DS e0; injection e with e; omega)
  · exact grown_own ((h.gr.trans (grown_alloc W o (some K))).trans (grown_below hg)) (by omega) 5 u
/-- The references so far. -/
def RefC (K D S Q : Nat) (l : List Nat) (s : SV) (b0 : Nat) (P : List RefD → Prop) (w W : World) : Prop := ∃ (u : Value) (refs : List RefD), SchL K D S Q l s u refs b0 w W ∧ P refs ∧ refs.length ≤ 4
def three (x : SchemaD) (k : Nat) : Prop := ∃ t, x.tables[k]? = some t ∧ t.keys.length = 3
/-- A choice that also asks for three keys of a table. -/
def RefB (K D S Q : Nat) (l : List Nat) (s : SV) (b0 : Nat) (P : List RefD → Prop) (k : Nat) (w : World) (v : Value) (W : World) : Prop := ∃ b : Bool, v = .bool b ∧ (b = true → three s.x k) ∧ RefC K D S Q l s b0 P w W
def P1 (r : List RefD) : Prop := ∃ a, r = refsD a false false
def P2 (x : SchemaD) (r : List RefD) : Prop := ∃ a b, r = refsD a b false ∧ (b = true → three x 2)
def P3 (x : SchemaD) (r : List RefD) : Prop := ∃ a b c, r = refsD a b c ∧ (b = true → three x 2) ∧ (c = true → three x 3)
/-- What the walk reads of a table: how many keys it has. -/
theorem keys_at (h : SchL K D S Q l s v7 refs b0 w W) (hp : PreOk l s.x) : ∃ (tb tof cap : Nat), s.v4 = .slice (some ⟨tb, tof, none⟩) 4 cap ∧ 4 ≤ cap ∧ ∀ W', SameB (S + 1) b0 W W' → ∀ k, k < 4 → ∃ (Ak : Option Addr) (n cap2 : Nat), W'.cell? ⟨tb, tof + k * 8 + 2, none⟩ = some (.slice Ak n cap2) ∧ (n = 3 → three s.x k) ∧ n ≤ cap2 := by
  obtain ⟨hne, hl, _⟩ := tables_keys hp.tables.1
  obtain ⟨tb, tof, cap, e4, hcap, ht⟩ := tabs_at h.r4 h.bW hne
  rw [hl] at e4 hcap
  refine ⟨tb, tof, cap, e4, hcap, fun W' hs k hk => ?_⟩
  have hx : s.x.tables[k]? = some (s.x.tables[k]'(by omega)) := List.getElem?_eq_getElem _
  obtain ⟨vk, va, vr, n, cap2, Ak, rfl, hn, hc2, _, _, _, hcs⟩ := ht W' hs k _ hx
  exact ⟨Ak, n, cap2, hcs 2 (by simp), fun e => ⟨_, hx, by rw [← hn, e]⟩, hc2⟩
end
end Go.Proofs.YtldgjahpmlafgaaGreat
