/- Copies of flat rows: slices.Clone. -/
import Derived.Test.YtldgjahpmlafgaaGreatGEnt
import Derived.Test.YtldgjahpmlafgaaGreatSHeld
namespace Go.Proofs.YtldgjahpmlafgaaGreat
open Go.RowKit
/-- a copy of a row, in memory of its own -/
def RetClo {α : Type} (sz : Nat) (P : CellP α) (w : World) (xs : List α) (en : Ending) (w' : World) : Prop := ∃ (A : Option Addr) (n c : Nat), en = .returned (.slice A n c) ∧ RowH sz P w.heap.size w'.heap.size w' (.slice A n c) xs ∧ Below w.heap.size w w'
set_option maxRecDepth 100000 in
theorem run_eql_nilK {P : Program} {w : World} (t e : TypeId) (a : Option Addr) (l c : Nat) (h : P.underlying t = some (.slice e)) : (binOp .eql t (.slice a l c) (.slice none 0 0)).run P w = .ok (.bool a.isNone) w := by
  simp [binOp, run_equal_slice_nil (w := w) t e a l c h]
theorem RetClo.nil {α : Type} {sz : Nat} {P : CellP α} (w : World) : RetClo sz P w [] (.returned (.slice none 0 0)) w := ⟨none, 0, 0, rfl, rowH_nil, Below.refl _ _⟩
theorem flat_lenK {α : Type} {sz : Nat} {enc : α → List Value} (hl : ∀ x, (enc x).length = sz) : ∀ (xs : List α), (flat enc xs).length = xs.length * sz
  | [] => by simp [flat]
  | x :: r => by have ih := flat_lenK hl r; simp only [flat, List.flatMap_cons, List.length_append, List.length_cons] at ih ⊢; rw [ih, hl, Nat.add_mul]; omega
theorem src_rowK {α : Type} {sz B : Nat} {P : CellP α} {enc : α → List Value} {w : World} {ad : Addr} {n c : Nat} {xs : List α} (h : RowV sz P B w (.slice (some ad) n c) xs) (he : ∀ B w cs x, P B w cs x → cs = enc x) (hl : ∀ x, (enc x).length = sz) (h0 : 0 < sz) : ∀ j u, (flat enc xs)[j]? = some u → w.cell? (ad.add j) = some u := by
  intro j u hu
  obtain ⟨A', n', c', e, hn, _, _, hc⟩ := h
  injection e with e1 e2 e3
  subst e2 e3
  rcases hc with rfl | ⟨b, o, rfl, hc⟩
  · simp [flat] at hu
  · injection e1 with e1
    subst e1
    have hps : ∀ q ∈ xs.map (fun x => (enc x, x)), q.1.length = sz := fun q hq => by
      obtain ⟨x, _, rfl⟩ := List.mem_map.1 hq
      exact hl x
    have hfl : (xs.map (fun x => (enc x, x))).flatMap Prod.fst = flat enc xs := by simp [flat, List.flatMap_map]
    have hj := (List.getElem?_eq_some_iff.1 hu).1
    rw [flat_lenK hl] at hj
    have hd : j / sz < xs.length := (Nat.div_lt_iff_lt_mul h0).2 hj
    have hx : xs[j / sz]? = some (xs[j / sz]'hd) := List.getElem?_eq_getElem hd
    have hm := Nat.mod_lt j h0
    have hg := flatM_get _ hps (j / sz) (j % sz) (enc (xs[j / sz]'hd), xs[j / sz]'hd) (by rw [List.getElem?_map, hx]; rfl) hm
    have ej : j / sz * sz + j % sz = j := by rw [Nat.mul_comm]; exact Nat.div_add_mod j sz
    rw [hfl, ej, hu] at hg
    obtain ⟨_, cs, hcs, hP⟩ := hc _ _ hx
    have := he _ _ _ _ hP
    subst this
    have h2 := hcs (j % sz) (by rw [hl]; exact hm)
    rw [Addr.add_mid, show o + j = o + j / sz * sz + j % sz by omega, h2]
    simp only at hg
    rw [hg, List.getElem?_eq_getElem (by rw [hl]; exact hm)]
theorem mem_okK {α : Type} {sz B : Nat} {P : CellP α} {w : World} {v : Value} {xs : List α} (h : RowV sz P B w v xs) : ∀ x ∈ xs, ∃ cs, P B w cs x := fun x hx => by
  obtain ⟨_, _, _, _, _, _, _, hz | ⟨b, o, _, hc⟩⟩ := h
  · rw [hz] at hx; cases hx
  · obtain ⟨i, hi, rfl⟩ := List.getElem_of_mem hx
    obtain ⟨_, cs, _, hP⟩ := hc i _ (List.getElem?_eq_getElem hi)
    exact ⟨cs, hP⟩
theorem nilK {α : Type} {sz B : Nat} {P : CellP α} {w : World} {n c : Nat} {xs : List α} (h : RowV sz P B w (.slice none n c) xs) : xs = [] := by
  obtain ⟨A', n', c', e, _, _, _, hz | ⟨b, o, rfl, hc⟩⟩ := h
  · exact hz
  · injection e with e; cases e
theorem infoK_parts {P : Program} {t : TypeId} {k a b : Nat} (h : (P.info? t).map (fun i => (i.zero.map (fun z => z.cells.size), i.size, i.bytes)) = some (some k, a, b)) : ∃ i z, P.info? t = some i ∧ i.zero = some z ∧ i.size = a ∧ i.bytes = b ∧ z.cells.size = k := by
  obtain ⟨i, h1, h2⟩ := Option.map_eq_some_iff.1 h
  simp only [Prod.mk.injEq] at h2
  obtain ⟨z, h3, h4⟩ := Option.map_eq_some_iff.1 h2.1
  exact ⟨i, z, h1, h3, h2.2.1, h2.2.2, h4⟩
theorem clo_end {α : Type} {sz n : Nat} {P : CellP α} {enc : α → List Value} {w w4 : World} {T : TypeId} {o : Obj} {v : Value} {xs : List α} (hl : ∀ x, (enc x).length = sz) (hP : ∀ x ∈ xs, ∀ B w', P B w' (enc x) x) (hO : w4.ownsRow w.heap.size T sz v n (flat enc xs)) (hn : n = xs.length) (hg : (w.alloc o).grownBy w4 (some w.heap.size)) : RetClo sz P w xs (.returned v) w4 := by
  subst hn
  have hb : Below w.heap.size w w4 := ⟨hg.os, hg.tape, hg.output, by have := hg.size; simp at this; omega, fun k hk => (hg.block k (by simp; omega) (fun e => by injection e with e; omega)).trans ((grown_alloc w o none).block k hk (by simp))⟩
  have hr := rowH_of_own (a := w.heap.size) (b := w4.heap.size) hl (Nat.le_refl _) (Nat.le_refl _) (fun x hx w2 B _ _ => hP x hx B w2) hO
  rcases hO.2 with ⟨rfl, _⟩ | ⟨g, cap, cur, rfl, _⟩
  · exact ⟨_, _, _, rfl, hr, hb⟩
  · exact ⟨_, _, _, rfl, hr, hb⟩
theorem infoK_field : (Tryz.prog.info? 112).map (fun i => (i.zero.map (fun z => z.cells.size), i.size, i.bytes)) = some (some 3, 3, 32) := by kernel_rfl
set_option maxRecDepth 100000 in
set_option maxHeartbeats 8000000 in
theorem kl_field {w : World} {B : Nat} {v : Value} {xs : List FieldD} (h : RowV 3 FieldV B w v xs) (hB : B ≤ w.heap.size) (hn : xs.length ≤ 1000000) : Calls Tryz.prog 109 #[v] w (RetClo 3 FieldV w xs) := by
  obtain ⟨i0, z0, hi, hz, hy1, hy2, hzs⟩ := infoK_parts infoK_field
  have HI := Lib.hid hi
  have HZ := Lib.hid hz
  have HY1 := Lib.hid hy1
  have HY2 := Lib.hid hy2
  have HZS := Lib.hid hzs
  obtain ⟨A, n, c, rfl, hnx, hnc, hcm⟩ := h.parts
  have hn2 : n ≤ 1000000 := by have := hnx.out; omega
  clear hi hz hy1 hy2 hzs
  cases A with
  | none =>
    obtain rfl := nilK h
    obtain rfl : n = 0 := hnx.out
    clear h
    have hq := fun W : World => run_eql_nilK (w := W) (P := Tryz.prog) 27 112 none 0 c Tryz.underlying27
    go_enter Tryz.func109, Tryz.ntmps109
    go_wp2_with fail
    go_ret
    exact RetClo.nil w
  | some ad =>
    have SR : Hid (∀ j u, (flat (fun x : FieldD => ([.int .i64 x.id, .string (strL x.name), .int .i64 x.bits] : List Value)) xs)[j]? = some u → (w.alloc (.cells #[] 112)).cell? (ad.add j) = some u) := Lib.hid (src_rowK (h.below kept_field (((Below.refl w.heap.size w).alloc (Nat.le_refl _) _).mono hB)) (fun _ _ _ _ hP => by first | exact hP.1 | exact hP) (fun _ => rfl) (by decide))
    have HO : Hid (∀ u ∈ flat (fun x : FieldD => ([.int .i64 x.id, .string (strL x.name), .int .i64 x.bits] : List Value)) xs, u.oneCell' = true) := Lib.hid fun u hu => by
      obtain ⟨y, _, hy⟩ := List.mem_flatMap.1 hu
      simp only [List.mem_cons, List.not_mem_nil, or_false] at hy
      rcases hy with rfl | rfl | rfl <;> rfl
    have HL : Hid ((flat (fun x : FieldD => ([.int .i64 x.id, .string (strL x.name), .int .i64 x.bits] : List Value)) xs).length = n * 3) := Lib.hid (by rw [flat_lenK (sz := 3) (fun _ => rfl), ← hnx.out])
    have HP : Hid (∀ x ∈ xs, ∀ B w', FieldV B w' ((fun x : FieldD => ([.int .i64 x.id, .string (strL x.name), .int .i64 x.bits] : List Value)) x) x) := Lib.hid fun x hx B' w' => by
      obtain ⟨cs, hP⟩ := mem_okK h x hx
      exact ⟨rfl, hP.2⟩
    have HN := Lib.hid hn2
    clear h hB hn
    have hq := fun W : World => run_eql_nilK (w := W) (P := Tryz.prog) 27 112 (some ad) n c Tryz.underlying27
    go_enter Tryz.func109, Tryz.ntmps109
    go_wp2_with (at_builtin; go_loud (refine wpList_append_own _ rfl (.tmp 5) (.tmp 6) 27 rfl w.heap.size 112 i0 z0 3 32 Tryz.underlying27 HI.out HZ.out HY1.out HY2.out HZS.out (by decide) _ 0 [] rfl (World.ownsRow_made w #[] 0 (Nat.le_refl _) (Nat.zero_le _) rfl) ad n c (flat (fun x : FieldD => ([.int .i64 x.id, .string (strL x.name), .int .i64 x.bits] : List Value)) xs) rfl HL.out SR.out HO.out (by unfold maxLen; omega) (by omega) (by simp) ?_; intro v4 w4 hO4 hg4 hn4; have HO4 := Lib.hid hO4; have HG4 := Lib.hid hg4; clear hO4 hg4 hn4))
    go_ret
    have hO := HO4.out
    rw [Nat.zero_add, List.nil_append] at hO
    exact clo_end (fun _ => rfl) HP.out hO hnx.out HG4.out
theorem infoK_stage : (Tryz.prog.info? 120).map (fun i => (i.zero.map (fun z => z.cells.size), i.size, i.bytes)) = some (some 2, 2, 16) := by kernel_rfl
set_option maxRecDepth 100000 in
set_option maxHeartbeats 8000000 in
theorem kl_stage {w : World} {B : Nat} {v : Value} {xs : List StageD} (h : RowV 2 StageV B w v xs) (hB : B ≤ w.heap.size) (hn : xs.length ≤ 1000000) : Calls Tryz.prog 118 #[v] w (RetClo 2 StageV w xs) := by
  obtain ⟨i0, z0, hi, hz, hy1, hy2, hzs⟩ := infoK_parts infoK_stage
  have HI := Lib.hid hi
  have HZ := Lib.hid hz
  have HY1 := Lib.hid hy1
  have HY2 := Lib.hid hy2
  have HZS := Lib.hid hzs
  obtain ⟨A, n, c, rfl, hnx, hnc, hcm⟩ := h.parts
  have hn2 : n ≤ 1000000 := by have := hnx.out; omega
  clear hi hz hy1 hy2 hzs
  cases A with
  | none =>
    obtain rfl := nilK h
    obtain rfl : n = 0 := hnx.out
    clear h
    have hq := fun W : World => run_eql_nilK (w := W) (P := Tryz.prog) 32 120 none 0 c Tryz.underlying32
    go_enter Tryz.func118, Tryz.ntmps118
    go_wp2_with fail
    go_ret
    exact RetClo.nil w
  | some ad =>
    have SR : Hid (∀ j u, (flat (fun x : StageD => ([.int .i64 x.table, .int .i64 x.header] : List Value)) xs)[j]? = some u → (w.alloc (.cells #[] 120)).cell? (ad.add j) = some u) := Lib.hid (src_rowK (h.below kept_stage (((Below.refl w.heap.size w).alloc (Nat.le_refl _) _).mono hB)) (fun _ _ _ _ hP => by first | exact hP.1 | exact hP) (fun _ => rfl) (by decide))
    have HO : Hid (∀ u ∈ flat (fun x : StageD => ([.int .i64 x.table, .int .i64 x.header] : List Value)) xs, u.oneCell' = true) := Lib.hid fun u hu => by
      obtain ⟨y, _, hy⟩ := List.mem_flatMap.1 hu
      simp only [List.mem_cons, List.not_mem_nil, or_false] at hy
      rcases hy with rfl | rfl <;> rfl
    have HL : Hid ((flat (fun x : StageD => ([.int .i64 x.table, .int .i64 x.header] : List Value)) xs).length = n * 2) := Lib.hid (by rw [flat_lenK (sz := 2) (fun _ => rfl), ← hnx.out])
    have HP : Hid (∀ x ∈ xs, ∀ B w', StageV B w' ((fun x : StageD => ([.int .i64 x.table, .int .i64 x.header] : List Value)) x) x) := Lib.hid fun x hx B' w' => by
      obtain ⟨cs, hP⟩ := mem_okK h x hx
      exact ⟨rfl, hP.2⟩
    have HN := Lib.hid hn2
    clear h hB hn
    have hq := fun W : World => run_eql_nilK (w := W) (P := Tryz.prog) 32 120 (some ad) n c Tryz.underlying32
    go_enter Tryz.func118, Tryz.ntmps118
    go_wp2_with (at_builtin; go_loud (refine wpList_append_own _ rfl (.tmp 5) (.tmp 6) 32 rfl w.heap.size 120 i0 z0 2 16 Tryz.underlying32 HI.out HZ.out HY1.out HY2.out HZS.out (by decide) _ 0 [] rfl (World.ownsRow_made w #[] 0 (Nat.le_refl _) (Nat.zero_le _) rfl) ad n c (flat (fun x : StageD => ([.int .i64 x.table, .int .i64 x.header] : List Value)) xs) rfl HL.out SR.out HO.out (by unfold maxLen; omega) (by omega) (by simp) ?_; intro v4 w4 hO4 hg4 hn4; have HO4 := Lib.hid hO4; have HG4 := Lib.hid hg4; clear hO4 hg4 hn4))
    go_ret
    have hO := HO4.out
    rw [Nat.zero_add, List.nil_append] at hO
    exact clo_end (fun _ => rfl) HP.out hO hnx.out HG4.out
theorem infoK_ref : (Tryz.prog.info? 122).map (fun i => (i.zero.map (fun z => z.cells.size), i.size, i.bytes)) = some (some 6, 6, 48) := by kernel_rfl
set_option maxRecDepth 100000 in
set_option maxHeartbeats 8000000 in
theorem kl_ref {w : World} {B : Nat} {v : Value} {xs : List RefD} (h : RowV 6 RefV B w v xs) (hB : B ≤ w.heap.size) (hn : xs.length ≤ 1000000) : Calls Tryz.prog 121 #[v] w (RetClo 6 RefV w xs) := by
  obtain ⟨i0, z0, hi, hz, hy1, hy2, hzs⟩ := infoK_parts infoK_ref
  have HI := Lib.hid hi
  have HZ := Lib.hid hz
  have HY1 := Lib.hid hy1
  have HY2 := Lib.hid hy2
  have HZS := Lib.hid hzs
  obtain ⟨A, n, c, rfl, hnx, hnc, hcm⟩ := h.parts
  have hn2 : n ≤ 1000000 := by have := hnx.out; omega
  clear hi hz hy1 hy2 hzs
  cases A with
  | none =>
    obtain rfl := nilK h
    obtain rfl : n = 0 := hnx.out
    clear h
    have hq := fun W : World => run_eql_nilK (w := W) (P := Tryz.prog) 34 122 none 0 c Tryz.underlying34
    go_enter Tryz.func121, Tryz.ntmps121
    go_wp2_with fail
    go_ret
    exact RetClo.nil w
  | some ad =>
    have SR : Hid (∀ j u, (flat (fun x : RefD => ([.int .i64 x.table, .int .i64 x.key, .int .i64 x.action, .int .i64 x.param, .int .i64 x.toTable, .int .i64 x.toKey] : List Value)) xs)[j]? = some u → (w.alloc (.cells #[] 122)).cell? (ad.add j) = some u) := Lib.hid (src_rowK (h.below kept_ref (((Below.refl w.heap.size w).alloc (Nat.le_refl _) _).mono hB)) (fun _ _ _ _ hP => by first | exact hP.1 | exact hP) (fun _ => rfl) (by decide))
    have HO : Hid (∀ u ∈ flat (fun x : RefD => ([.int .i64 x.table, .int .i64 x.key, .int .i64 x.action, .int .i64 x.param, .int .i64 x.toTable, .int .i64 x.toKey] : List Value)) xs, u.oneCell' = true) := Lib.hid fun u hu => by
      obtain ⟨y, _, hy⟩ := List.mem_flatMap.1 hu
      simp only [List.mem_cons, List.not_mem_nil, or_false] at hy
      rcases hy with rfl | rfl | rfl | rfl | rfl | rfl <;> rfl
    have HL : Hid ((flat (fun x : RefD => ([.int .i64 x.table, .int .i64 x.key, .int .i64 x.action, .int .i64 x.param, .int .i64 x.toTable, .int .i64 x.toKey] : List Value)) xs).length = n * 6) := Lib.hid (by rw [flat_lenK (sz := 6) (fun _ => rfl), ← hnx.out])
    have HP : Hid (∀ x ∈ xs, ∀ B w', RefV B w' ((fun x : RefD => ([.int .i64 x.table, .int .i64 x.key, .int .i64 x.action, .int .i64 x.param, .int .i64 x.toTable, .int .i64 x.toKey] : List Value)) x) x) := Lib.hid fun x hx B' w' => by
      obtain ⟨cs, hP⟩ := mem_okK h x hx
      exact ⟨rfl, hP.2⟩
    have HN := Lib.hid hn2
    clear h hB hn
    have hq := fun W : World => run_eql_nilK (w := W) (P := Tryz.prog) 34 122 (some ad) n c Tryz.underlying34
    go_enter Tryz.func121, Tryz.ntmps121
    go_wp2_with (at_builtin; go_loud (refine wpList_append_own _ rfl (.tmp 5) (.tmp 6) 34 rfl w.heap.size 122 i0 z0 6 48 Tryz.underlying34 HI.out HZ.out HY1.out HY2.out HZS.out (by decide) _ 0 [] rfl (World.ownsRow_made w #[] 0 (Nat.le_refl _) (Nat.zero_le _) rfl) ad n c (flat (fun x : RefD => ([.int .i64 x.table, .int .i64 x.key, .int .i64 x.action, .int .i64 x.param, .int .i64 x.toTable, .int .i64 x.toKey] : List Value)) xs) rfl HL.out SR.out HO.out (by unfold maxLen; omega) (by omega) (by simp) ?_; intro v4 w4 hO4 hg4 hn4; have HO4 := Lib.hid hO4; have HG4 := Lib.hid hg4; clear hO4 hg4 hn4))
    go_ret
    have hO := HO4.out
    rw [Nat.zero_add, List.nil_append] at hO
    exact clo_end (fun _ => rfl) HP.out hO hnx.out HG4.out
theorem infoK_key : (Tryz.prog.info? 137).map (fun i => (i.zero.map (fun z => z.cells.size), i.size, i.bytes)) = some (some 3, 3, 32) := by kernel_rfl
set_option maxRecDepth 100000 in
set_option maxHeartbeats 8000000 in
theorem kl_key {w : World} {B : Nat} {v : Value} {xs : List KeyD} (h : RowV 3 KeyV B w v xs) (hB : B ≤ w.heap.size) (hn : xs.length ≤ 1000000) : Calls Tryz.prog 123 #[v] w (RetClo 3 KeyV w xs) := by
  obtain ⟨i0, z0, hi, hz, hy1, hy2, hzs⟩ := infoK_parts infoK_key
  have HI := Lib.hid hi
  have HZ := Lib.hid hz
  have HY1 := Lib.hid hy1
  have HY2 := Lib.hid hy2
  have HZS := Lib.hid hzs
  obtain ⟨A, n, c, rfl, hnx, hnc, hcm⟩ := h.parts
  have hn2 : n ≤ 1000000 := by have := hnx.out; omega
  clear hi hz hy1 hy2 hzs
  cases A with
  | none =>
    obtain rfl := nilK h
    obtain rfl : n = 0 := hnx.out
    clear h
    have hq := fun W : World => run_eql_nilK (w := W) (P := Tryz.prog) 56 137 none 0 c Tryz.underlying56
    go_enter Tryz.func123, Tryz.ntmps123
    go_wp2_with fail
    go_ret
    exact RetClo.nil w
  | some ad =>
    have SR : Hid (∀ j u, (flat (fun x : KeyD => ([.string (strL x.name), .int .i64 x.field, .int .i64 x.kind] : List Value)) xs)[j]? = some u → (w.alloc (.cells #[] 137)).cell? (ad.add j) = some u) := Lib.hid (src_rowK (h.below kept_key (((Below.refl w.heap.size w).alloc (Nat.le_refl _) _).mono hB)) (fun _ _ _ _ hP => by first | exact hP.1 | exact hP) (fun _ => rfl) (by decide))
    have HO : Hid (∀ u ∈ flat (fun x : KeyD => ([.string (strL x.name), .int .i64 x.field, .int .i64 x.kind] : List Value)) xs, u.oneCell' = true) := Lib.hid fun u hu => by
      obtain ⟨y, _, hy⟩ := List.mem_flatMap.1 hu
      simp only [List.mem_cons, List.not_mem_nil, or_false] at hy
      rcases hy with rfl | rfl | rfl <;> rfl
    have HL : Hid ((flat (fun x : KeyD => ([.string (strL x.name), .int .i64 x.field, .int .i64 x.kind] : List Value)) xs).length = n * 3) := Lib.hid (by rw [flat_lenK (sz := 3) (fun _ => rfl), ← hnx.out])
    have HP : Hid (∀ x ∈ xs, ∀ B w', KeyV B w' ((fun x : KeyD => ([.string (strL x.name), .int .i64 x.field, .int .i64 x.kind] : List Value)) x) x) := Lib.hid fun x hx B' w' => by
      obtain ⟨cs, hP⟩ := mem_okK h x hx
      exact ⟨rfl, hP.2⟩
    have HN := Lib.hid hn2
    clear h hB hn
    have hq := fun W : World => run_eql_nilK (w := W) (P := Tryz.prog) 56 137 (some ad) n c Tryz.underlying56
    go_enter Tryz.func123, Tryz.ntmps123
    go_wp2_with (at_builtin; go_loud (refine wpList_append_own _ rfl (.tmp 5) (.tmp 6) 56 rfl w.heap.size 137 i0 z0 3 32 Tryz.underlying56 HI.out HZ.out HY1.out HY2.out HZS.out (by decide) _ 0 [] rfl (World.ownsRow_made w #[] 0 (Nat.le_refl _) (Nat.zero_le _) rfl) ad n c (flat (fun x : KeyD => ([.string (strL x.name), .int .i64 x.field, .int .i64 x.kind] : List Value)) xs) rfl HL.out SR.out HO.out (by unfold maxLen; omega) (by omega) (by simp) ?_; intro v4 w4 hO4 hg4 hn4; have HO4 := Lib.hid hO4; have HG4 := Lib.hid hg4; clear hO4 hg4 hn4))
    go_ret
    have hO := HO4.out
    rw [Nat.zero_add, List.nil_append] at hO
    exact clo_end (fun _ => rfl) HP.out hO hnx.out HG4.out
theorem infoK_int : (Tryz.prog.info? 3).map (fun i => (i.zero.map (fun z => z.cells.size), i.size, i.bytes)) = some (some 1, 1, 8) := by kernel_rfl
set_option maxRecDepth 100000 in
set_option maxHeartbeats 8000000 in
theorem kl_int {w : World} {B : Nat} {v : Value} {xs : List Int} (h : RowV 1 I64V B w v xs) (hB : B ≤ w.heap.size) (hn : xs.length ≤ 1000000) : Calls Tryz.prog 159 #[v] w (RetClo 1 I64V w xs) := by
  obtain ⟨i0, z0, hi, hz, hy1, hy2, hzs⟩ := infoK_parts infoK_int
  have HI := Lib.hid hi
  have HZ := Lib.hid hz
  have HY1 := Lib.hid hy1
  have HY2 := Lib.hid hy2
  have HZS := Lib.hid hzs
  obtain ⟨A, n, c, rfl, hnx, hnc, hcm⟩ := h.parts
  have hn2 : n ≤ 1000000 := by have := hnx.out; omega
  clear hi hz hy1 hy2 hzs
  cases A with
  | none =>
    obtain rfl := nilK h
    obtain rfl : n = 0 := hnx.out
    clear h
    have hq := fun W : World => run_eql_nilK (w := W) (P := Tryz.prog) 57 3 none 0 c Tryz.underlying57
    go_enter Tryz.func159, Tryz.ntmps159
    go_wp2_with fail
    go_ret
    exact RetClo.nil w
  | some ad =>
    have SR : Hid (∀ j u, (flat (fun x : Int => ([.int .i64 x] : List Value)) xs)[j]? = some u → (w.alloc (.cells #[] 3)).cell? (ad.add j) = some u) := Lib.hid (src_rowK (h.below kept_int (((Below.refl w.heap.size w).alloc (Nat.le_refl _) _).mono hB)) (fun _ _ _ _ hP => by first | exact hP.1 | exact hP) (fun _ => rfl) (by decide))
    have HO : Hid (∀ u ∈ flat (fun x : Int => ([.int .i64 x] : List Value)) xs, u.oneCell' = true) := Lib.hid fun u hu => by
      obtain ⟨y, _, hy⟩ := List.mem_flatMap.1 hu
      simp only [List.mem_cons, List.not_mem_nil, or_false] at hy
      subst hy; rfl
    have HL : Hid ((flat (fun x : Int => ([.int .i64 x] : List Value)) xs).length = n * 1) := Lib.hid (by rw [flat_lenK (sz := 1) (fun _ => rfl), ← hnx.out])
    have HP : Hid (∀ x ∈ xs, ∀ B w', I64V B w' ((fun x : Int => ([.int .i64 x] : List Value)) x) x) := Lib.hid fun x hx B' w' => by
      obtain ⟨cs, hP⟩ := mem_okK h x hx
      exact ⟨rfl, hP.2⟩
    have HN := Lib.hid hn2
    clear h hB hn
    have hq := fun W : World => run_eql_nilK (w := W) (P := Tryz.prog) 57 3 (some ad) n c Tryz.underlying57
    go_enter Tryz.func159, Tryz.ntmps159
    go_wp2_with (at_builtin; go_loud (refine wpList_append_own _ rfl (.tmp 5) (.tmp 6) 57 rfl w.heap.size 3 i0 z0 1 8 Tryz.underlying57 HI.out HZ.out HY1.out HY2.out HZS.out (by decide) _ 0 [] rfl (World.ownsRow_made w #[] 0 (Nat.le_refl _) (Nat.zero_le _) rfl) ad n c (flat (fun x : Int => ([.int .i64 x] : List Value)) xs) rfl HL.out SR.out HO.out (by unfold maxLen; omega) (by omega) (by simp) ?_; intro v4 w4 hO4 hg4 hn4; have HO4 := Lib.hid hO4; have HG4 := Lib.hid hg4; clear hO4 hg4 hn4))
    go_ret
    have hO := HO4.out
    rw [Nat.zero_add, List.nil_append] at hO
    exact clo_end (fun _ => rfl) HP.out hO hnx.out HG4.out
theorem infoK_case : (Tryz.prog.info? 174).map (fun i => (i.zero.map (fun z => z.cells.size), i.size, i.bytes)) = some (some 5, 5, 40) := by kernel_rfl
set_option maxRecDepth 100000 in
set_option maxHeartbeats 8000000 in
theorem kl_case {w : World} {B : Nat} {v : Value} {xs : List CaseD} (h : RowV 5 CaseV B w v xs) (hB : B ≤ w.heap.size) (hn : xs.length ≤ 1000000) : Calls Tryz.prog 160 #[v] w (RetClo 5 CaseV w xs) := by
  obtain ⟨i0, z0, hi, hz, hy1, hy2, hzs⟩ := infoK_parts infoK_case
  have HI := Lib.hid hi
  have HZ := Lib.hid hz
  have HY1 := Lib.hid hy1
  have HY2 := Lib.hid hy2
  have HZS := Lib.hid hzs
  obtain ⟨A, n, c, rfl, hnx, hnc, hcm⟩ := h.parts
  have hn2 : n ≤ 1000000 := by have := hnx.out; omega
  clear hi hz hy1 hy2 hzs
  cases A with
  | none =>
    obtain rfl := nilK h
    obtain rfl : n = 0 := hnx.out
    clear h
    have hq := fun W : World => run_eql_nilK (w := W) (P := Tryz.prog) 170 174 none 0 c Tryz.underlying170
    go_enter Tryz.func160, Tryz.ntmps160
    go_wp2_with fail
    go_ret
    exact RetClo.nil w
  | some ad =>
    have SR : Hid (∀ j u, (flat (fun x : CaseD => ([.int .u64 (hi x.val), .int .u64 (lo x.val), .int .u64 (hi x.mask), .int .u64 (lo x.mask), .int .i64 x.next] : List Value)) xs)[j]? = some u → (w.alloc (.cells #[] 174)).cell? (ad.add j) = some u) := Lib.hid (src_rowK (h.below kept_case (((Below.refl w.heap.size w).alloc (Nat.le_refl _) _).mono hB)) (fun _ _ _ _ hP => by first | exact hP.1 | exact hP) (fun _ => rfl) (by decide))
    have HO : Hid (∀ u ∈ flat (fun x : CaseD => ([.int .u64 (hi x.val), .int .u64 (lo x.val), .int .u64 (hi x.mask), .int .u64 (lo x.mask), .int .i64 x.next] : List Value)) xs, u.oneCell' = true) := Lib.hid fun u hu => by
      obtain ⟨y, _, hy⟩ := List.mem_flatMap.1 hu
      simp only [List.mem_cons, List.not_mem_nil, or_false] at hy
      rcases hy with rfl | rfl | rfl | rfl | rfl <;> rfl
    have HL : Hid ((flat (fun x : CaseD => ([.int .u64 (hi x.val), .int .u64 (lo x.val), .int .u64 (hi x.mask), .int .u64 (lo x.mask), .int .i64 x.next] : List Value)) xs).length = n * 5) := Lib.hid (by rw [flat_lenK (sz := 5) (fun _ => rfl), ← hnx.out])
    have HP : Hid (∀ x ∈ xs, ∀ B w', CaseV B w' ((fun x : CaseD => ([.int .u64 (hi x.val), .int .u64 (lo x.val), .int .u64 (hi x.mask), .int .u64 (lo x.mask), .int .i64 x.next] : List Value)) x) x) := Lib.hid fun x hx B' w' => by
      obtain ⟨cs, hP⟩ := mem_okK h x hx
      exact ⟨rfl, hP.2⟩
    have HN := Lib.hid hn2
    clear h hB hn
    have hq := fun W : World => run_eql_nilK (w := W) (P := Tryz.prog) 170 174 (some ad) n c Tryz.underlying170
    go_enter Tryz.func160, Tryz.ntmps160
    go_wp2_with (at_builtin; go_loud (refine wpList_append_own _ rfl (.tmp 5) (.tmp 6) 170 rfl w.heap.size 174 i0 z0 5 40 Tryz.underlying170 HI.out HZ.out HY1.out HY2.out HZS.out (by decide) _ 0 [] rfl (World.ownsRow_made w #[] 0 (Nat.le_refl _) (Nat.zero_le _) rfl) ad n c (flat (fun x : CaseD => ([.int .u64 (hi x.val), .int .u64 (lo x.val), .int .u64 (hi x.mask), .int .u64 (lo x.mask), .int .i64 x.next] : List Value)) xs) rfl HL.out SR.out HO.out (by unfold maxLen; omega) (by omega) (by simp) ?_; intro v4 w4 hO4 hg4 hn4; have HO4 := Lib.hid hO4; have HG4 := Lib.hid hg4; clear hO4 hg4 hn4))
    go_ret
    have hO := HO4.out
    rw [Nat.zero_add, List.nil_append] at hO
    exact clo_end (fun _ => rfl) HP.out hO hnx.out HG4.out
theorem infoK_param : (Tryz.prog.info? 145).map (fun i => (i.zero.map (fun z => z.cells.size), i.size, i.bytes)) = some (some 2, 2, 24) := by kernel_rfl
set_option maxRecDepth 100000 in
set_option maxHeartbeats 8000000 in
theorem kl_param {w : World} {B : Nat} {v : Value} {xs : List ParamD} (h : RowV 2 ParamV B w v xs) (hB : B ≤ w.heap.size) (hn : xs.length ≤ 1000000) : Calls Tryz.prog 161 #[v] w (RetClo 2 ParamV w xs) := by
  obtain ⟨i0, z0, hi, hz, hy1, hy2, hzs⟩ := infoK_parts infoK_param
  have HI := Lib.hid hi
  have HZ := Lib.hid hz
  have HY1 := Lib.hid hy1
  have HY2 := Lib.hid hy2
  have HZS := Lib.hid hzs
  obtain ⟨A, n, c, rfl, hnx, hnc, hcm⟩ := h.parts
  have hn2 : n ≤ 1000000 := by have := hnx.out; omega
  clear hi hz hy1 hy2 hzs
  cases A with
  | none =>
    obtain rfl := nilK h
    obtain rfl : n = 0 := hnx.out
    clear h
    have hq := fun W : World => run_eql_nilK (w := W) (P := Tryz.prog) 139 145 none 0 c Tryz.underlying139
    go_enter Tryz.func161, Tryz.ntmps161
    go_wp2_with fail
    go_ret
    exact RetClo.nil w
  | some ad =>
    have SR : Hid (∀ j u, (flat (fun x : ParamD => ([.string (strL x.name), .int .i64 x.bits] : List Value)) xs)[j]? = some u → (w.alloc (.cells #[] 145)).cell? (ad.add j) = some u) := Lib.hid (src_rowK (h.below kept_param (((Below.refl w.heap.size w).alloc (Nat.le_refl _) _).mono hB)) (fun _ _ _ _ hP => by first | exact hP.1 | exact hP) (fun _ => rfl) (by decide))
    have HO : Hid (∀ u ∈ flat (fun x : ParamD => ([.string (strL x.name), .int .i64 x.bits] : List Value)) xs, u.oneCell' = true) := Lib.hid fun u hu => by
      obtain ⟨y, _, hy⟩ := List.mem_flatMap.1 hu
      simp only [List.mem_cons, List.not_mem_nil, or_false] at hy
      rcases hy with rfl | rfl <;> rfl
    have HL : Hid ((flat (fun x : ParamD => ([.string (strL x.name), .int .i64 x.bits] : List Value)) xs).length = n * 2) := Lib.hid (by rw [flat_lenK (sz := 2) (fun _ => rfl), ← hnx.out])
    have HP : Hid (∀ x ∈ xs, ∀ B w', ParamV B w' ((fun x : ParamD => ([.string (strL x.name), .int .i64 x.bits] : List Value)) x) x) := Lib.hid fun x hx B' w' => by
      obtain ⟨cs, hP⟩ := mem_okK h x hx
      exact ⟨rfl, hP.2⟩
    have HN := Lib.hid hn2
    clear h hB hn
    have hq := fun W : World => run_eql_nilK (w := W) (P := Tryz.prog) 139 145 (some ad) n c Tryz.underlying139
    go_enter Tryz.func161, Tryz.ntmps161
    go_wp2_with (at_builtin; go_loud (refine wpList_append_own _ rfl (.tmp 5) (.tmp 6) 139 rfl w.heap.size 145 i0 z0 2 24 Tryz.underlying139 HI.out HZ.out HY1.out HY2.out HZS.out (by decide) _ 0 [] rfl (World.ownsRow_made w #[] 0 (Nat.le_refl _) (Nat.zero_le _) rfl) ad n c (flat (fun x : ParamD => ([.string (strL x.name), .int .i64 x.bits] : List Value)) xs) rfl HL.out SR.out HO.out (by unfold maxLen; omega) (by omega) (by simp) ?_; intro v4 w4 hO4 hg4 hn4; have HO4 := Lib.hid hO4; have HG4 := Lib.hid hg4; clear hO4 hg4 hn4))
    go_ret
    have hO := HO4.out
    rw [Nat.zero_add, List.nil_append] at hO
    exact clo_end (fun _ => rfl) HP.out hO hnx.out HG4.out
theorem infoK_prim : (Tryz.prog.info? 178).map (fun i => (i.zero.map (fun z => z.cells.size), i.size, i.bytes)) = some (some 6, 6, 48) := by kernel_rfl
set_option maxRecDepth 100000 in
set_option maxHeartbeats 8000000 in
theorem kl_prim {w : World} {B : Nat} {v : Value} {xs : List PrimD} (h : RowV 6 PrimV B w v xs) (hB : B ≤ w.heap.size) (hn : xs.length ≤ 1000000) : Calls Tryz.prog 162 #[v] w (RetClo 6 PrimV w xs) := by
  obtain ⟨i0, z0, hi, hz, hy1, hy2, hzs⟩ := infoK_parts infoK_prim
  have HI := Lib.hid hi
  have HZ := Lib.hid hz
  have HY1 := Lib.hid hy1
  have HY2 := Lib.hid hy2
  have HZS := Lib.hid hzs
  obtain ⟨A, n, c, rfl, hnx, hnc, hcm⟩ := h.parts
  have hn2 : n ≤ 1000000 := by have := hnx.out; omega
  clear hi hz hy1 hy2 hzs
  cases A with
  | none =>
    obtain rfl := nilK h
    obtain rfl : n = 0 := hnx.out
    clear h
    have hq := fun W : World => run_eql_nilK (w := W) (P := Tryz.prog) 140 178 none 0 c Tryz.underlying140
    go_enter Tryz.func162, Tryz.ntmps162
    go_wp2_with fail
    go_ret
    exact RetClo.nil w
  | some ad =>
    have SR : Hid (∀ j u, (flat (fun x : PrimD => ([.int .i64 x.op, .int .i64 x.dst, .int .i64 x.kind, .int .i64 x.n, .int .u64 (hi x.val), .int .u64 (lo x.val)] : List Value)) xs)[j]? = some u → (w.alloc (.cells #[] 178)).cell? (ad.add j) = some u) := Lib.hid (src_rowK (h.below kept_prim (((Below.refl w.heap.size w).alloc (Nat.le_refl _) _).mono hB)) (fun _ _ _ _ hP => by first | exact hP.1 | exact hP) (fun _ => rfl) (by decide))
    have HO : Hid (∀ u ∈ flat (fun x : PrimD => ([.int .i64 x.op, .int .i64 x.dst, .int .i64 x.kind, .int .i64 x.n, .int .u64 (hi x.val), .int .u64 (lo x.val)] : List Value)) xs, u.oneCell' = true) := Lib.hid fun u hu => by
      obtain ⟨y, _, hy⟩ := List.mem_flatMap.1 hu
      simp only [List.mem_cons, List.not_mem_nil, or_false] at hy
      rcases hy with rfl | rfl | rfl | rfl | rfl | rfl <;> rfl
    have HL : Hid ((flat (fun x : PrimD => ([.int .i64 x.op, .int .i64 x.dst, .int .i64 x.kind, .int .i64 x.n, .int .u64 (hi x.val), .int .u64 (lo x.val)] : List Value)) xs).length = n * 6) := Lib.hid (by rw [flat_lenK (sz := 6) (fun _ => rfl), ← hnx.out])
    have HP : Hid (∀ x ∈ xs, ∀ B w', PrimV B w' ((fun x : PrimD => ([.int .i64 x.op, .int .i64 x.dst, .int .i64 x.kind, .int .i64 x.n, .int .u64 (hi x.val), .int .u64 (lo x.val)] : List Value)) x) x) := Lib.hid fun x hx B' w' => by
      obtain ⟨cs, hP⟩ := mem_okK h x hx
      exact ⟨rfl, hP.2⟩
    have HN := Lib.hid hn2
    clear h hB hn
    have hq := fun W : World => run_eql_nilK (w := W) (P := Tryz.prog) 140 178 (some ad) n c Tryz.underlying140
    go_enter Tryz.func162, Tryz.ntmps162
    go_wp2_with (at_builtin; go_loud (refine wpList_append_own _ rfl (.tmp 5) (.tmp 6) 140 rfl w.heap.size 178 i0 z0 6 48 Tryz.underlying140 HI.out HZ.out HY1.out HY2.out HZS.out (by decide) _ 0 [] rfl (World.ownsRow_made w #[] 0 (Nat.le_refl _) (Nat.zero_le _) rfl) ad n c (flat (fun x : PrimD => ([.int .i64 x.op, .int .i64 x.dst, .int .i64 x.kind, .int .i64 x.n, .int .u64 (hi x.val), .int .u64 (lo x.val)] : List Value)) xs) rfl HL.out SR.out HO.out (by unfold maxLen; omega) (by omega) (by simp) ?_; intro v4 w4 hO4 hg4 hn4; have HO4 := Lib.hid hO4; have HG4 := Lib.hid hg4; clear hO4 hg4 hn4))
    go_ret
    have hO := HO4.out
    rw [Nat.zero_add, List.nil_append] at hO
    exact clo_end (fun _ => rfl) HP.out hO hnx.out HG4.out
theorem infoK_val : (Tryz.prog.info? 49).map (fun i => (i.zero.map (fun z => z.cells.size), i.size, i.bytes)) = some (some 2, 2, 16) := by kernel_rfl
set_option maxRecDepth 100000 in
set_option maxHeartbeats 8000000 in
theorem kl_val {w : World} {B : Nat} {v : Value} {xs : List Nat} (h : RowV 2 ValV B w v xs) (hB : B ≤ w.heap.size) (hn : xs.length ≤ 1000000) : Calls Tryz.prog 163 #[v] w (RetClo 2 ValV w xs) := by
  obtain ⟨i0, z0, hi, hz, hy1, hy2, hzs⟩ := infoK_parts infoK_val
  have HI := Lib.hid hi
  have HZ := Lib.hid hz
  have HY1 := Lib.hid hy1
  have HY2 := Lib.hid hy2
  have HZS := Lib.hid hzs
  obtain ⟨A, n, c, rfl, hnx, hnc, hcm⟩ := h.parts
  have hn2 : n ≤ 1000000 := by have := hnx.out; omega
  clear hi hz hy1 hy2 hzs
  cases A with
  | none =>
    obtain rfl := nilK h
    obtain rfl : n = 0 := hnx.out
    clear h
    have hq := fun W : World => run_eql_nilK (w := W) (P := Tryz.prog) 24 49 none 0 c Tryz.underlying24
    go_enter Tryz.func163, Tryz.ntmps163
    go_wp2_with fail
    go_ret
    exact RetClo.nil w
  | some ad =>
    have SR : Hid (∀ j u, (flat (fun x : Nat => ([.int .u64 (hi x), .int .u64 (lo x)] : List Value)) xs)[j]? = some u → (w.alloc (.cells #[] 49)).cell? (ad.add j) = some u) := Lib.hid (src_rowK (h.below kept_val (((Below.refl w.heap.size w).alloc (Nat.le_refl _) _).mono hB)) (fun _ _ _ _ hP => by first | exact hP.1 | exact hP) (fun _ => rfl) (by decide))
    have HO : Hid (∀ u ∈ flat (fun x : Nat => ([.int .u64 (hi x), .int .u64 (lo x)] : List Value)) xs, u.oneCell' = true) := Lib.hid fun u hu => by
      obtain ⟨y, _, hy⟩ := List.mem_flatMap.1 hu
      simp only [List.mem_cons, List.not_mem_nil, or_false] at hy
      rcases hy with rfl | rfl <;> rfl
    have HL : Hid ((flat (fun x : Nat => ([.int .u64 (hi x), .int .u64 (lo x)] : List Value)) xs).length = n * 2) := Lib.hid (by rw [flat_lenK (sz := 2) (fun _ => rfl), ← hnx.out])
    have HP : Hid (∀ x ∈ xs, ∀ B w', ValV B w' ((fun x : Nat => ([.int .u64 (hi x), .int .u64 (lo x)] : List Value)) x) x) := Lib.hid fun x hx B' w' => by
      obtain ⟨cs, hP⟩ := mem_okK h x hx
      exact ⟨rfl, hP.2⟩
    have HN := Lib.hid hn2
    clear h hB hn
    have hq := fun W : World => run_eql_nilK (w := W) (P := Tryz.prog) 24 49 (some ad) n c Tryz.underlying24
    go_enter Tryz.func163, Tryz.ntmps163
    go_wp2_with (at_builtin; go_loud (refine wpList_append_own _ rfl (.tmp 5) (.tmp 6) 24 rfl w.heap.size 49 i0 z0 2 16 Tryz.underlying24 HI.out HZ.out HY1.out HY2.out HZS.out (by decide) _ 0 [] rfl (World.ownsRow_made w #[] 0 (Nat.le_refl _) (Nat.zero_le _) rfl) ad n c (flat (fun x : Nat => ([.int .u64 (hi x), .int .u64 (lo x)] : List Value)) xs) rfl HL.out SR.out HO.out (by unfold maxLen; omega) (by omega) (by simp) ?_; intro v4 w4 hO4 hg4 hn4; have HO4 := Lib.hid hO4; have HG4 := Lib.hid hg4; clear hO4 hg4 hn4))
    go_ret
    have hO := HO4.out
    rw [Nat.zero_add, List.nil_append] at hO
    exact clo_end (fun _ => rfl) HP.out hO hnx.out HG4.out
theorem infoK_match : (Tryz.prog.info? 90).map (fun i => (i.zero.map (fun z => z.cells.size), i.size, i.bytes)) = some (some 8, 8, 64) := by kernel_rfl
set_option maxRecDepth 100000 in
set_option maxHeartbeats 8000000 in
theorem kl_match {w : World} {B : Nat} {v : Value} {xs : List MatchD} (h : RowV 8 MatchV B w v xs) (hB : B ≤ w.heap.size) (hn : xs.length ≤ 1000000) : Calls Tryz.prog 169 #[v] w (RetClo 8 MatchV w xs) := by
  obtain ⟨i0, z0, hi, hz, hy1, hy2, hzs⟩ := infoK_parts infoK_match
  have HI := Lib.hid hi
  have HZ := Lib.hid hz
  have HY1 := Lib.hid hy1
  have HY2 := Lib.hid hy2
  have HZS := Lib.hid hzs
  obtain ⟨A, n, c, rfl, hnx, hnc, hcm⟩ := h.parts
  have hn2 : n ≤ 1000000 := by have := hnx.out; omega
  clear hi hz hy1 hy2 hzs
  cases A with
  | none =>
    obtain rfl := nilK h
    obtain rfl : n = 0 := hnx.out
    clear h
    have hq := fun W : World => run_eql_nilK (w := W) (P := Tryz.prog) 23 90 none 0 c Tryz.underlying23
    go_enter Tryz.func169, Tryz.ntmps169
    go_wp2_with fail
    go_ret
    exact RetClo.nil w
  | some ad =>
    have SR : Hid (∀ j u, (flat (fun x : MatchD => ([.bool x.pres, .int .u64 (hi x.val), .int .u64 (lo x.val), .int .u64 (hi x.mask), .int .u64 (lo x.mask), .int .i64 x.pre, .int .u64 (hi x.high), .int .u64 (lo x.high)] : List Value)) xs)[j]? = some u → (w.alloc (.cells #[] 90)).cell? (ad.add j) = some u) := Lib.hid (src_rowK (h.below kept_match (((Below.refl w.heap.size w).alloc (Nat.le_refl _) _).mono hB)) (fun _ _ _ _ hP => by first | exact hP.1 | exact hP) (fun _ => rfl) (by decide))
    have HO : Hid (∀ u ∈ flat (fun x : MatchD => ([.bool x.pres, .int .u64 (hi x.val), .int .u64 (lo x.val), .int .u64 (hi x.mask), .int .u64 (lo x.mask), .int .i64 x.pre, .int .u64 (hi x.high), .int .u64 (lo x.high)] : List Value)) xs, u.oneCell' = true) := Lib.hid fun u hu => by
      obtain ⟨y, _, hy⟩ := List.mem_flatMap.1 hu
      simp only [List.mem_cons, List.not_mem_nil, or_false] at hy
      rcases hy with rfl | rfl | rfl | rfl | rfl | rfl | rfl | rfl <;> rfl
    have HL : Hid ((flat (fun x : MatchD => ([.bool x.pres, .int .u64 (hi x.val), .int .u64 (lo x.val), .int .u64 (hi x.mask), .int .u64 (lo x.mask), .int .i64 x.pre, .int .u64 (hi x.high), .int .u64 (lo x.high)] : List Value)) xs).length = n * 8) := Lib.hid (by rw [flat_lenK (sz := 8) (fun _ => rfl), ← hnx.out])
    have HP : Hid (∀ x ∈ xs, ∀ B w', MatchV B w' ((fun x : MatchD => ([.bool x.pres, .int .u64 (hi x.val), .int .u64 (lo x.val), .int .u64 (hi x.mask), .int .u64 (lo x.mask), .int .i64 x.pre, .int .u64 (hi x.high), .int .u64 (lo x.high)] : List Value)) x) x) := Lib.hid fun x hx B' w' => by
      obtain ⟨cs, hP⟩ := mem_okK h x hx
      exact ⟨rfl, hP.2⟩
    have HN := Lib.hid hn2
    clear h hB hn
    have hq := fun W : World => run_eql_nilK (w := W) (P := Tryz.prog) 23 90 (some ad) n c Tryz.underlying23
    go_enter Tryz.func169, Tryz.ntmps169
    go_wp2_with (at_builtin; go_loud (refine wpList_append_own _ rfl (.tmp 5) (.tmp 6) 23 rfl w.heap.size 90 i0 z0 8 64 Tryz.underlying23 HI.out HZ.out HY1.out HY2.out HZS.out (by decide) _ 0 [] rfl (World.ownsRow_made w #[] 0 (Nat.le_refl _) (Nat.zero_le _) rfl) ad n c (flat (fun x : MatchD => ([.bool x.pres, .int .u64 (hi x.val), .int .u64 (lo x.val), .int .u64 (hi x.mask), .int .u64 (lo x.mask), .int .i64 x.pre, .int .u64 (hi x.high), .int .u64 (lo x.high)] : List Value)) xs) rfl HL.out SR.out HO.out (by unfold maxLen; omega) (by omega) (by simp) ?_; intro v4 w4 hO4 hg4 hn4; have HO4 := Lib.hid hO4; have HG4 := Lib.hid hg4; clear hO4 hg4 hn4))
    go_ret
    have hO := HO4.out
    rw [Nat.zero_add, List.nil_append] at hO
    exact clo_end (fun _ => rfl) HP.out hO hnx.out HG4.out
theorem infoK_bool : (Tryz.prog.info? 4).map (fun i => (i.zero.map (fun z => z.cells.size), i.size, i.bytes)) = some (some 1, 1, 1) := by kernel_rfl
set_option maxRecDepth 100000 in
set_option maxHeartbeats 8000000 in
theorem kl_bool {w : World} {B : Nat} {v : Value} {xs : List Bool} (h : RowV 1 BoolV B w v xs) (hB : B ≤ w.heap.size) (hn : xs.length ≤ 1000000) : Calls Tryz.prog 185 #[v] w (RetClo 1 BoolV w xs) := by
  obtain ⟨i0, z0, hi, hz, hy1, hy2, hzs⟩ := infoK_parts infoK_bool
  have HI := Lib.hid hi
  have HZ := Lib.hid hz
  have HY1 := Lib.hid hy1
  have HY2 := Lib.hid hy2
  have HZS := Lib.hid hzs
  obtain ⟨A, n, c, rfl, hnx, hnc, hcm⟩ := h.parts
  have hn2 : n ≤ 1000000 := by have := hnx.out; omega
  clear hi hz hy1 hy2 hzs
  cases A with
  | none =>
    obtain rfl := nilK h
    obtain rfl : n = 0 := hnx.out
    clear h
    have hq := fun W : World => run_eql_nilK (w := W) (P := Tryz.prog) 86 4 none 0 c Tryz.underlying86
    go_enter Tryz.func185, Tryz.ntmps185
    go_wp2_with fail
    go_ret
    exact RetClo.nil w
  | some ad =>
    have SR : Hid (∀ j u, (flat (fun x : Bool => ([.bool x] : List Value)) xs)[j]? = some u → (w.alloc (.cells #[] 4)).cell? (ad.add j) = some u) := Lib.hid (src_rowK (h.below kept_bool (((Below.refl w.heap.size w).alloc (Nat.le_refl _) _).mono hB)) (fun _ _ _ _ hP => by first | exact hP.1 | exact hP) (fun _ => rfl) (by decide))
    have HO : Hid (∀ u ∈ flat (fun x : Bool => ([.bool x] : List Value)) xs, u.oneCell' = true) := Lib.hid fun u hu => by
      obtain ⟨y, _, hy⟩ := List.mem_flatMap.1 hu
      simp only [List.mem_cons, List.not_mem_nil, or_false] at hy
      subst hy; rfl
    have HL : Hid ((flat (fun x : Bool => ([.bool x] : List Value)) xs).length = n * 1) := Lib.hid (by rw [flat_lenK (sz := 1) (fun _ => rfl), ← hnx.out])
    have HP : Hid (∀ x ∈ xs, ∀ B w', BoolV B w' ((fun x : Bool => ([.bool x] : List Value)) x) x) := Lib.hid fun x hx B' w' => by
      obtain ⟨cs, hP⟩ := mem_okK h x hx
      exact rfl
    have HN := Lib.hid hn2
    clear h hB hn
    have hq := fun W : World => run_eql_nilK (w := W) (P := Tryz.prog) 86 4 (some ad) n c Tryz.underlying86
    go_enter Tryz.func185, Tryz.ntmps185
    go_wp2_with (at_builtin; go_loud (refine wpList_append_own _ rfl (.tmp 5) (.tmp 6) 86 rfl w.heap.size 4 i0 z0 1 1 Tryz.underlying86 HI.out HZ.out HY1.out HY2.out HZS.out (by decide) _ 0 [] rfl (World.ownsRow_made w #[] 0 (Nat.le_refl _) (Nat.zero_le _) rfl) ad n c (flat (fun x : Bool => ([.bool x] : List Value)) xs) rfl HL.out SR.out HO.out (by unfold maxLen; omega) (by omega) (by simp) ?_; intro v4 w4 hO4 hg4 hn4; have HO4 := Lib.hid hO4; have HG4 := Lib.hid hg4; clear hO4 hg4 hn4))
    go_ret
    have hO := HO4.out
    rw [Nat.zero_add, List.nil_append] at hO
    exact clo_end (fun _ => rfl) HP.out hO hnx.out HG4.out
end Go.Proofs.YtldgjahpmlafgaaGreat
