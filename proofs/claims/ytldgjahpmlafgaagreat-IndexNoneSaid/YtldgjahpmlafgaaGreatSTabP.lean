/- Making a schema out of choices: tables, as data. -/
import Derived.Test.YtldgjahpmlafgaaGreatSMake
import Derived.Test.YtldgjahpmlafgaaGreatSActP
import Derived.ArgAppend
namespace Go.Proofs.YtldgjahpmlafgaaGreat
open Go.RowKit

theorem RowH.form {α : Type} {sz a b : Nat} {P : CellP α} {w : World} {v : Value} {xs : List α} (h : RowH sz P a b w v xs) (hb : b ≤ w.heap.size) : ∃ A n cap, v = .slice A n cap := by
  obtain ⟨A, n, cap, e, _⟩ := h.row hb
  exact ⟨A, n, cap, e⟩
theorem same_of_chose {a K : Nat} {w w' : World} (hg : w.grownBy w' (some K)) (hK : K < a) : SameB a w.heap.size w w' := .of_grown hg (Nat.le_refl _) (fun k e => by injection e with e; omega)
/-- A table under way: its cells in the block T, its lists in blocks that are not older than a. -/
structure TabC (a K T : Nat) (d : TableD) (vk va vr : Value) (W : World) : Prop where
  ge : a ≤ T
  box : Bx K T [.int .i64 d.id, .string (strL d.name), vk, va, .int .i64 d.dflt, vr, .int .i64 d.size, .string ⟨#[]⟩] W
  ks : RowH 3 KeyV a W.heap.size W vk d.keys
  acts : RowH 1 I64V a W.heap.size W va d.actions
  rs : RowH 2 ValV a W.heap.size W vr d.args
theorem TabC.chose {a K T : Nat} {d : TableD} {vk va vr : Value} {W W' : World} (h : TabC a K T d vk va vr W) (hg : W.grownBy W' (some K)) (hK : K < a) : TabC a K T d vk va vr W' :=
  have s := same_of_chose hg hK
  ⟨h.ge, h.box.chose hg, (h.ks.kept s).widen (Nat.le_refl _) hg.size, (h.acts.kept s).widen (Nat.le_refl _) hg.size, (h.rs.kept s).widen (Nat.le_refl _) hg.size⟩
def tab1D (q : Nat) (s : Nat) (r : List Nat) : TableD := ⟨1, [112, 111, 114, 116, 115], [⟨[97], 4, 1⟩], [1, 2, 4], 1 + (q : Int), [], 2 + (s : Int), r⟩
def tab2D (b : Bool) (s : Nat) (r : List Nat) : TableD := ⟨2, [114, 111, 117, 116, 101, 115], (if b then [⟨[100], 7, 2⟩, ⟨[109], 3, 1⟩] else [⟨[100], 7, 2⟩]), [1, 2, 3, 4], 2, [], 3 + (s : Int), r⟩
def tab3D (b : Bool) (s : Nat) (r : List Nat) : TableD := ⟨3, [97, 99, 108], (if b then [⟨[101], 6, 3⟩, ⟨[97], 4, 3⟩, ⟨[98], 5, 1⟩] else [⟨[101], 6, 3⟩, ⟨[97], 4, 3⟩]), [1, 2, 3, 5, 6], 1, [], 4 + (s : Int), r⟩
def tab4D (b : Bool) (s : Nat) (r : List Nat) : TableD := ⟨4, [115, 112, 97, 110, 115], (if b then [⟨[102], 8, 4⟩, ⟨[103], 9, 1⟩, ⟨[100], 7, 2⟩] else [⟨[102], 8, 4⟩]), [1, 3, 5], 3, [7], 3 + (s : Int), r⟩
/-- The texts of restrictions. -/
def tabText (k v : Nat) : List Nat :=
  match k with
  | 0 => if v = 0 then [] else if v = 1 then [97, 32, 33, 61, 32, 48] else [97, 32, 60, 32, 49, 52, 32, 38, 38, 32, 97, 32, 33, 61, 32, 51]
  | 1 => if v = 0 then [] else if v = 1 then [100, 58, 58, 112, 114, 101, 102, 105, 120, 95, 108, 101, 110, 103, 116, 104, 32, 62, 61, 32, 56] else [100, 58, 58, 112, 114, 101, 102, 105, 120, 95, 108, 101, 110, 103, 116, 104, 32, 61, 61, 32, 51, 50, 32, 45, 62, 32, 100, 58, 58, 118, 97, 108, 117, 101, 32, 62, 32, 48, 120, 102, 102]
  | 2 => if v = 0 then [] else if v = 1 then [112, 114, 105, 111, 114, 105, 116, 121, 32, 60, 32, 49, 48, 48, 32, 38, 38, 32, 40, 101, 58, 58, 109, 97, 115, 107, 32, 33, 61, 32, 48, 32, 124, 124, 32, 97, 58, 58, 109, 97, 115, 107, 32, 33, 61, 32, 48, 41] else [101, 58, 58, 109, 97, 115, 107, 32, 61, 61, 32, 48, 32, 45, 62, 32, 112, 114, 105, 111, 114, 105, 116, 121, 32, 62, 32, 53]
  | 3 => if v = 0 then [] else if v = 1 then [102, 58, 58, 104, 105, 103, 104, 32, 45, 32, 102, 58, 58, 108, 111, 119, 32, 60, 61, 32, 48, 120, 49, 48, 48] else [33, 40, 102, 58, 58, 108, 111, 119, 32, 61, 61, 32, 48, 32, 38, 38, 32, 102, 58, 58, 104, 105, 103, 104, 32, 62, 32, 49, 48, 48, 48, 41]
  | _ => []
/-- The tables that were made. -/
def TablesOk (xs : List TableD) : Prop := ∃ (q s1 s2 s3 s4 : Nat) (b2 b3 b4 : Bool) (f : Nat → Nat), q < 2 ∧ s1 < 5 ∧ s2 < 6 ∧ s3 < 6 ∧ s4 < 5 ∧ (∀ j, f j < 3) ∧ xs = [tab1D q s1 (tabText 0 (f 0)), tab2D b2 s2 (tabText 1 (f 1)), tab3D b3 s3 (tabText 2 (f 2)), tab4D b4 s4 (tabText 3 (f 3))]
/-- The tables out of no choices. -/
def TabsNil (xs : List TableD) : Prop := ∃ (q s1 s2 s3 s4 : Nat), q < 2 ∧ s1 < 5 ∧ s2 < 6 ∧ s3 < 6 ∧ s4 < 5 ∧ xs = [tab1D q s1 [], tab2D false s2 [], tab3D false s3 [], tab4D false s4 []]
def RetTables (K D : Nat) (l : List Nat) (w : World) (e : Ending) (w' : World) : Prop := ∃ (v : Value) (xs : List TableD), e = .returned v ∧ (TablesOk xs ∧ (l = [] → TabsNil xs)) ∧ RowH 8 TableV w.heap.size w'.heap.size w' v xs ∧ w.grownBy w' (some K) ∧ ∃ p, CoAt K D l p w'
/-- A table and the slices of its lists. -/
structure TabW where
  d : TableD
  vk : Value
  va : Value
  vr : Value
def TabW.withR (x : TabW) (r : List Nat) : TabW := { x with d := { x.d with restr := r } }
def encTW (x : TabW) : List Value := [.int .i64 x.d.id, .string (strL x.d.name), x.vk, x.va, .int .i64 x.d.dflt, x.vr, .int .i64 x.d.size, .string (strL x.d.restr)]
def restrAt (f : Nat → Nat) (k j : Nat) : List Nat := if j < k then tabText j (f j) else []
def tabsAt (x1 x2 x3 x4 : TabW) (f : Nat → Nat) (k : Nat) : List TabW := [x1.withR (restrAt f k 0), x2.withR (restrAt f k 1), x3.withR (restrAt f k 2), x4.withR (restrAt f k 3)]
theorem tabs_next (x1 x2 x3 x4 : TabW) (f : Nat → Nat) (k v : Nat) (hk : k < 4) : (flat encTW (tabsAt x1 x2 x3 x4 f k)).set (k * 8 + 7) (.string (strL (tabText k v))) = flat encTW (tabsAt x1 x2 x3 x4 (fun j => if j = k then v else f j) (k + 1)) := by
  match k, hk with
  | 0, _ => simp [flat, tabsAt, encTW, TabW.withR, restrAt]
  | 1, _ => simp [flat, tabsAt, encTW, TabW.withR, restrAt]
  | 2, _ => simp [flat, tabsAt, encTW, TabW.withR, restrAt]
  | 3, _ => simp [flat, tabsAt, encTW, TabW.withR, restrAt]
theorem tabs_row {a b K L : Nat} {x1 x2 x3 x4 : TabW} {f : Nat → Nat} {k : Nat} {W : World} (hL : a ≤ L) (hb : W.heap.size = b) (hB : Bx K L (flat encTW (tabsAt x1 x2 x3 x4 f k)) W) (h : ∀ x ∈ tabsAt x1 x2 x3 x4 f k, ElH TableV a b W (encTW x) x.d) :
    RowH 8 TableV a b W (.slice (some ⟨L, 0, none⟩) 4 4) ((tabsAt x1 x2 x3 x4 f k).map TabW.d) := by
  have e : ∀ ys : List TabW, (ys.map fun x => (encTW x, x.d)).flatMap Prod.fst = flat encTW ys := fun ys => by simp [flat, List.flatMap_map]
  have h2 := rowH_lit (P := TableV) (sz := 8) (a := a) (b := b) (w := W) (R := L) (n := 4) (cap := 4) ((tabsAt x1 x2 x3 x4 f k).map fun x => (encTW x, x.d)) (fun q hq => by
    obtain ⟨x, _, rfl⟩ := List.mem_map.1 hq
    rfl) hL (by rw [← hb]; exact hB.lt) (by simp [tabsAt]) (by decide) (by decide) (fun j hj => by
    have hj2 : j < (flat encTW (tabsAt x1 x2 x3 x4 f k)).length := by rw [← e]; exact hj
    rw [hB.c j hj2]
    simp only [e]) (fun q hq => by
    obtain ⟨x, hx, rfl⟩ := List.mem_map.1 hq
    exact h x hx)
  simpa [List.map_map, Function.comp_def] using h2
theorem plain_text (k v : Nat) : plain (tabText k v) = true ∧ (tabText k v).length ≤ 50 ∧ Txt (tabText k v) := by
  unfold tabText
  split <;> (try split) <;> (try split) <;> exact ⟨by decide, by decide, ⟨fun x hx => by revert x; decide, by decide⟩⟩
theorem txtT {l : List Nat} (h : l.all (fun x => decide (x < 256)) = true) (h2 : l.length ≤ 9223372036854775807) : Txt l := ⟨fun x hx => by simpa using List.all_eq_true.1 h x hx, h2⟩
theorem Bx.row {α : Type} {P : CellP α} {sz K L a b n : Nat} {cs : List Value} {W : World} (h : Bx K L cs W) (ha : a ≤ L) (hb : L < b) (ps : List (List Value × α)) (hsz : ∀ q ∈ ps, q.1.length = sz) (hn : n = ps.length) (hm : n ≤ maxLen) (hc : ps.flatMap Prod.fst = cs) (hP : ∀ q ∈ ps, ElH P a b W q.1 q.2) :
    RowH sz P a b W (.slice (some ⟨L, 0, none⟩) n n) (ps.map Prod.snd) := by
  subst hc
  exact rowH_lit ps hsz ha hb hn (Nat.le_refl _) hm h.c hP
theorem Bx.holds {K L : Nat} {cs : List Value} {W : World} (h : Bx K L cs W) : ∀ b, some (⟨L, 0, none⟩ : Addr) = some b → ∀ (j : Nat) (u : Value), cs[j]? = some u → W.cell? (b.add j) = some u := by
  intro b hb j u hj
  injection hb with hb
  subst hb
  obtain ⟨h1, h2⟩ := List.getElem?_eq_some_iff.1 hj
  rw [Addr.add_mid, Nat.zero_add, h.c j h1, h2]
def keyCs (x : KeyD) : List Value := [.string (strL x.name), .int .i64 x.field, .int .i64 x.kind]
def KeyOk (x : KeyD) : Prop := Txt x.name ∧ I64 x.field ∧ I64 x.kind
theorem keys_lit {K L a b n : Nat} {W : World} (xs : List KeyD) (hx : Bx K L (flat keyCs xs) W) (ha : a ≤ L) (hb : L < b) (hn : n = xs.length) (hm : n ≤ maxLen) (h : ∀ x ∈ xs, KeyOk x) : RowH 3 KeyV a b W (.slice (some ⟨L, 0, none⟩) n n) xs := by
  have e : (xs.map fun x => (keyCs x, x)).map Prod.snd = xs := by simp [List.map_map, Function.comp_def]
  have := hx.row (P := KeyV) (sz := 3) (n := n) ha hb (xs.map fun x => (keyCs x, x)) (fun q hq => by obtain ⟨x, _, rfl⟩ := List.mem_map.1 hq; rfl) (by simpa using hn) hm (by simp [flat, List.flatMap_map]) (fun q hq w2 B _ _ => by
    obtain ⟨x, hx, rfl⟩ := List.mem_map.1 hq
    exact ⟨rfl, h x hx⟩)
  rwa [e] at this
theorem ints_lit {K L a b n : Nat} {W : World} (xs : List Int) (hx : Bx K L (xs.map fun x => Value.int .i64 x) W) (ha : a ≤ L) (hb : L < b) (hn : n = xs.length) (hm : n ≤ maxLen) (h : ∀ x ∈ xs, I64 x) : RowH 1 I64V a b W (.slice (some ⟨L, 0, none⟩) n n) xs := by
  have e : (xs.map fun x => ([Value.int .i64 x], x)).map Prod.snd = xs := by simp [List.map_map, Function.comp_def]
  have := hx.row (P := I64V) (sz := 1) (n := n) ha hb (xs.map fun x => ([Value.int .i64 x], x)) (fun q hq => by obtain ⟨x, _, rfl⟩ := List.mem_map.1 hq; rfl) (by simpa using hn) hm (by rw [List.flatMap_map, List.map_eq_flatMap]) (fun q hq w2 B _ _ => by
    obtain ⟨x, hx, rfl⟩ := List.mem_map.1 hq
    exact ⟨rfl, h x hx⟩)
  rwa [e] at this
/-- A table whose choice is behind us. -/
def TabS (K D T a : Nat) (l : List Nat) (W : World) (d : Bool → TableD) (va vr : Value) (wx : World) : Prop := ∃ (b : Bool) (vk : Value), (l = [] → b = false) ∧ TabC a K T (d b) vk va vr wx ∧ (∃ p, CoAt K D l p wx) ∧ W.grownBy wx (some K)
theorem tab_none {K D T a p : Nat} {l : List Nat} {W WC wE : World} {d : Bool → TableD} {vk va vr : Value} (ha : a ≤ T) (s : SameB a T WC wE) (hx : Bx K T [.int .i64 (d false).id, .string (strL (d false).name), vk, va, .int .i64 (d false).dflt, vr, .int .i64 (d false).size, .string ⟨#[]⟩] wE)
    (rk : RowH 3 KeyV a T WC vk (d false).keys) (ra : RowH 1 I64V a T WC va (d false).actions) (rr : RowH 2 ValV a T WC vr (d false).args) (c : CoAt K D l p wE) (g : W.grownBy wE (some K)) : TabS K D T a l W d va vr wE :=
  ⟨false, vk, fun _ => rfl, ⟨ha, hx, (rk.kept s).widen (Nat.le_refl _) s.size, (ra.kept s).widen (Nat.le_refl _) s.size, (rr.kept s).widen (Nat.le_refl _) s.size⟩, ⟨p, c⟩, g⟩
theorem own_setT {w : World} {T base e sz n i : Nat} {v u : Value} {l : List Value} (h : w.ownsRow base e sz v n l) (hT : T < base) : (w.setCell ⟨T, i, none⟩ u).ownsRow base e sz v n l :=
  World.ownsRow.kept h (grown_set w T i u) (by
    cases e : v.ownBlock with
    | none => exact .inl rfl
    | some k => exact .inr fun e2 => by have := (World.ownsRow.lt h k e).1; injection e2 with e2; omega)
theorem tab_some {K D T a p n : Nat} {l : List Nat} {W WC wE w6 : World} {d : Bool → TableD} {vk v6 va vr : Value} {o : Obj} {cs : List Value} (hne : l ≠ []) (ha : a ≤ T) (hKa : K < a) (hD : l ≠ [] → D < T) (hWT : W.heap.size ≤ T) (s : SameB a T WC wE)
    (hx : Bx K T [.int .i64 (d true).id, .string (strL (d true).name), vk, va, .int .i64 (d true).dflt, vr, .int .i64 (d true).size, .string ⟨#[]⟩] wE)
    (ra : RowH 1 I64V a T WC va (d true).actions) (rr : RowH 2 ValV a T WC vr (d true).args) (c : CoAt K D l p wE) (g : W.grownBy wE (some K))
    (hO : w6.ownsRow (wE.alloc o).heap.size 137 3 v6 n cs) (hg6 : (wE.alloc o).grownBy w6 none) (hn : n = (d true).keys.length) (hcs : cs = flat keyCs (d true).keys) (hk : ∀ x ∈ (d true).keys, KeyOk x) :
    TabS K D T a l W d va vr (w6.setCell ⟨T, 2, none⟩ v6) := by
  have hTE := hx.lt
  have hz : (w6.setCell ⟨T, 2, none⟩ v6).heap.size = w6.heap.size := by simp [World.setCell]
  have hzA : (wE.alloc o).heap.size = wE.heap.size + 1 := by simp
  have s2 : SameB a T WC (w6.setCell ⟨T, 2, none⟩ v6) := ((s.trans (.of_alloc (Nat.le_of_lt hTE) o)).trans (.of_grown hg6 (by omega) (fun k e => by cases e))).trans (.of_set (by have := hg6.size; omega) (.inr (Nat.le_refl _)) 2 v6)
  subst hn hcs
  have hO2 := own_setT (T := T) (i := 2) (u := v6) hO (by omega)
  have hx6 : Bx K T [.int .i64 (d true).id, .string (strL (d true).name), v6, va, .int .i64 (d true).dflt, vr, .int .i64 (d true).size, .string ⟨#[]⟩] (w6.setCell ⟨T, 2, none⟩ v6) := ((hx.alloc o).kept hg6 (by simp)).set 2 v6
  refine ⟨true, v6, fun e => absurd e hne, ⟨ha, hx6, ?_, (ra.kept s2).widen (Nat.le_refl _) s2.size, (rr.kept s2).widen (Nat.le_refl _) s2.size⟩, ⟨p, ?_⟩, ?_⟩
  · exact rowH_of_own (enc := keyCs) (fun _ => rfl) (by omega) (Nat.le_refl _) (fun x hx w2 B _ _ => ⟨rfl, hk x hx⟩) hO2
  · exact ((c.kept (grown_alloc wE o none) (by simp) (by simp)).kept hg6 (by simp) (by simp)).kept (grown_set w6 T 2 v6) (fun e => by injection e with e; omega) (fun e0 e => by have := hD e0; injection e with e; omega)
  · exact grown_own ((g.trans (grown_alloc wE o (some K))).trans (grown_below hg6)) hWT 2 v6
theorem tab_el {a b : Nat} {W : World} {T K : Nat} {d : TableD} {vk va vr : Value} (r : List Nat) (hr : Txt r) (h : TabC a K T d vk va vr W) (hb : W.heap.size ≤ b) (hn : Txt d.name) (h1 : I64 d.id) (h2 : I64 d.dflt) (h3 : I64 d.size) : ElH TableV a b W (encTW ((⟨d, vk, va, vr⟩ : TabW).withR r)) ((⟨d, vk, va, vr⟩ : TabW).withR r).d :=
  fun w2 B hs hB => ⟨vk, va, vr, rfl, h1, hn, h.ks w2 B (hs.narrow (Nat.le_refl _) hb) (Nat.le_trans hb hB), h.acts w2 B (hs.narrow (Nat.le_refl _) hb) (Nat.le_trans hb hB), h2, h.rs w2 B (hs.narrow (Nat.le_refl _) hb) (Nat.le_trans hb hB), h3, hr⟩
/-- The loop that gives the tables their texts. -/
structure TabL (K D L : Nat) (l : List Nat) (x1 x2 x3 x4 : TabW) (f : Nat → Nat) (k : Nat) (w wF W : World) : Prop where
  f3 : ∀ j, f j < 3
  f0 : l = [] → ∀ j, f j = 0
  box : Bx K L (flat encTW (tabsAt x1 x2 x3 x4 f k)) W
  tt : ∀ j, j < 4 → W.cell? ⟨L + 1 + 1 + 1 + 1 + 1, j, none⟩ = some (.slice (some ⟨L + 1 + j, 0, none⟩) 3 3)
  ss : ∀ j, j < 4 → ∀ v, v < 3 → W.cell? ⟨L + 1 + j, v, none⟩ = some (.string (strL (tabText j v)))
  co : ∃ p, CoAt K D l p W
  gr : w.grownBy W (some K)
  same : SameB w.heap.size L wF W
  size : L + 6 ≤ W.heap.size
theorem TabL.chose {K D L k p : Nat} {l : List Nat} {x1 x2 x3 x4 : TabW} {f : Nat → Nat} {w wF W W' : World} (h : TabL K D L l x1 x2 x3 x4 f k w wF W) (hKw : K < w.heap.size) (hwL : w.heap.size ≤ L) (hg : W.grownBy W' (some K)) (c : CoAt K D l p W') : TabL K D L l x1 x2 x3 x4 f k w wF W' := by
  have hs := h.size
  refine ⟨h.f3, h.f0, h.box.chose hg, fun j hj => (cell_kept hg (by omega) (fun e => by injection e with e; omega)).trans (h.tt j hj), fun j hj v hv => (cell_kept hg (by omega) (fun e => by injection e with e; omega)).trans (h.ss j hj v hv), ⟨p, c⟩, h.gr.trans hg, h.same.trans (.of_grown hg (by omega) (fun k e => by injection e with e; omega)), Nat.le_trans h.size hg.size⟩
theorem TabL.next {K D L k v : Nat} {l : List Nat} {x1 x2 x3 x4 : TabW} {f : Nat → Nat} {w wF W : World} (h : TabL K D L l x1 x2 x3 x4 f k w wF W) (hk : k < 4) (hv : v < 3) (hv0 : l = [] → v = 0) (hKw : K < w.heap.size) (hwL : w.heap.size ≤ L) (hD : l ≠ [] → D < w.heap.size) :
    TabL K D L l x1 x2 x3 x4 (fun j => if j = k then v else f j) (k + 1) w wF (W.setCell ⟨L, k * 8 + 7, none⟩ (.string (strL (tabText k v)))) := by
  have hs := h.size
  have hg := grown_set W L (k * 8 + 7) (.string (strL (tabText k v)))
  obtain ⟨p, c⟩ := h.co
  have hb := h.box.set (k * 8 + 7) (.string (strL (tabText k v)))
  rw [tabs_next x1 x2 x3 x4 f k v hk] at hb
  refine ⟨fun j => ?_, fun e j => ?_, hb, fun j hj => (cell_kept hg (by omega) (fun e => by injection e with e; omega)).trans (h.tt j hj), fun j hj v hv => (cell_kept hg (by omega) (fun e => by injection e with e; omega)).trans (h.ss j hj v hv), ⟨p, c.kept hg (fun e => by injection e with e; omega) (fun e0 e => by have := hD e0; injection e with e; omega)⟩, grown_own h.gr hwL _ _, h.same.trans (.of_set (by omega) (.inr (Nat.le_refl _)) _ _), Nat.le_trans h.size hg.size⟩
  · show (if j = k then v else f j) < 3
    split
    · exact hv
    · exact h.f3 j
  · show (if j = k then v else f j) = 0
    split
    · exact hv0 e
    · exact h.f0 e j
theorem tabs_fin {K D L s1 s2 s3 s4 q T1 T2 T3 T4 : Nat} {l : List Nat} {b2 b3 b4 : Bool} {vk1 va1 vr1 vk2 va2 vr2 vk3 va3 vr3 vk4 va4 vr4 : Value} {f : Nat → Nat} {w wF W : World} (z2 : l = [] → b2 = false) (z3 : l = [] → b3 = false) (z4 : l = [] → b4 = false) (hwL : w.heap.size ≤ L) (hL : wF.heap.size = L) (hq : q < 2) (h1 : s1 < 5) (h2 : s2 < 6) (h3 : s3 < 6) (h4 : s4 < 5)
    (t1 : TabC w.heap.size K T1 (tab1D q s1 []) vk1 va1 vr1 wF) (t2 : TabC w.heap.size K T2 (tab2D b2 s2 []) vk2 va2 vr2 wF) (t3 : TabC w.heap.size K T3 (tab3D b3 s3 []) vk3 va3 vr3 wF) (t4 : TabC w.heap.size K T4 (tab4D b4 s4 []) vk4 va4 vr4 wF)
    (h : TabL K D L l ⟨tab1D q s1 [], vk1, va1, vr1⟩ ⟨tab2D b2 s2 [], vk2, va2, vr2⟩ ⟨tab3D b3 s3 [], vk3, va3, vr3⟩ ⟨tab4D b4 s4 [], vk4, va4, vr4⟩ f 4 w wF W) : RetTables K D l w (.returned (.slice (some ⟨L, 0, none⟩) 4 4)) W := by
  subst hL
  have hs := h.size
  refine ⟨_, _, rfl, ?_, tabs_row hwL rfl h.box (fun x hx => ?_), h.gr, h.co⟩
  · refine ⟨⟨q, s1, s2, s3, s4, b2, b3, b4, f, hq, h1, h2, h3, h4, h.f3, rfl⟩, fun e => ⟨q, s1, s2, s3, s4, hq, h1, h2, h3, h4, ?_⟩⟩
    have e0 : ∀ j, restrAt f 4 j = [] := fun j => by
      unfold restrAt tabText
      rw [h.f0 e j]
      split
      · split <;> rfl
      · rfl
    simp only [tabsAt, e0, z2 e, z3 e, z4 e]
    rfl
  · have key : ∀ {T : Nat} {d : TableD} {vk va vr : Value} (k v : Nat), TabC w.heap.size K T d vk va vr wF → Txt d.name → I64 d.id → I64 d.dflt → I64 d.size → ElH TableV w.heap.size W.heap.size W (encTW ((⟨d, vk, va, vr⟩ : TabW).withR (tabText k v))) ((⟨d, vk, va, vr⟩ : TabW).withR (tabText k v)).d := by
      intro T d vk va vr k v t hn i1 i2 i3
      have e := tab_el (tabText k v) (plain_text k v).2.2 t (Nat.le_refl _) hn i1 i2 i3
      exact fun w2 B s hB => e w2 B (h.same.trans (s.narrow (Nat.le_refl _) (by omega))) (by omega)
    have e : ∀ j, j < 4 → restrAt f 4 j = tabText j (f j) := fun j hj => by simp [restrAt, hj]
    simp only [tabsAt, e 0 (by decide), e 1 (by decide), e 2 (by decide), e 3 (by decide), List.mem_cons, List.not_mem_nil, or_false] at hx
    rcases hx with rfl | rfl | rfl | rfl
    · exact key 0 _ t1 (txtT (l := [112, 111, 114, 116, 115]) (by decide) (by decide)) (i64_of (x := 1) (by decide)) (i64_of (x := 1 + (q : Int)) (by omega)) (i64_of (x := 2 + (s1 : Int)) (by omega))
    · exact key 1 _ t2 (txtT (l := [114, 111, 117, 116, 101, 115]) (by decide) (by decide)) (i64_of (x := 2) (by decide)) (i64_of (x := 2) (by decide)) (i64_of (x := 3 + (s2 : Int)) (by omega))
    · exact key 2 _ t3 (txtT (l := [97, 99, 108]) (by decide) (by decide)) (i64_of (x := 3) (by decide)) (i64_of (x := 1) (by decide)) (i64_of (x := 4 + (s3 : Int)) (by omega))
    · exact key 3 _ t4 (txtT (l := [115, 112, 97, 110, 115]) (by decide) (by decide)) (i64_of (x := 4) (by decide)) (i64_of (x := 3) (by decide)) (i64_of (x := 3 + (s4 : Int)) (by omega))
end Go.Proofs.YtldgjahpmlafgaaGreat
