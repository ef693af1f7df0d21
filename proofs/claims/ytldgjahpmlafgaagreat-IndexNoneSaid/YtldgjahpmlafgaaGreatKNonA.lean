/- Joined: KKey, KKix, KDel, KPos, KFnd, KNew, NGrow, KFdr, KNdx, KKnd, KSml, KIxN, KBgn, KNonW. -/
import Derived.Test.YtldgjahpmlafgaaGreatKClr
import Derived.Test.YtldgjahpmlafgaaGreatKIdx
import Derived.Test.YtldgjahpmlafgaaGreatSSame
import Derived.Test.YtldgjahpmlafgaaGreatKOrd
import Derived.Test.YtldgjahpmlafgaaGreatGLow2
import Derived.Test.YtldgjahpmlafgaaGreatKSch
import Derived.Test.YtldgjahpmlafgaaGreatNLast
import Derived.Test.YtldgjahpmlafgaaGreatJRead
import Derived.Test.YtldgjahpmlafgaaGreatQProg
import Derived.Handy
import Derived.Test.YtldgjahpmlafgaaGreatSSchema
import Derived.Test.YtldgjahpmlafgaaGreatKInst
namespace Go.Proofs.YtldgjahpmlafgaaGreat
/- A copy of keys, of one's own. -/
section
open Go.RowKit
/-- a copy of a row, a row of one's own -/
def RetOwn {α : Type} (sz : Nat) (T : TypeId) (enc : α → List Value) (w : World) (xs : List α) (en : Ending) (w' : World) : Prop := ∃ (A : Option Addr) (n c : Nat), en = .returned (.slice A n c) ∧ w'.ownsRow w.heap.size T sz (.slice A n c) n (flat enc xs) ∧ n = xs.length ∧ Below w.heap.size w w'
set_option maxRecDepth 100000 in
set_option maxHeartbeats 2000000 in
theorem ko_key {w : World} {B : Nat} {v : Value} {xs : List KeyD} (h : RowV 3 KeyV B w v xs) (hB : B ≤ w.heap.size) (hn : xs.length ≤ 1000000) : Calls Tryz.prog 123 #[v] w (RetOwn 3 137 (fun x : KeyD => ([.string (strL x.name), .int .i64 x.field, .int .i64 x.kind] : List Value)) w xs) := by
  obtain ⟨i0, z0, hi, hz, hy1, hy2, hzs⟩ := infoK_parts infoK_key
  have HI := Lib.hid hi
  have HZ := Lib.hid hz
  have HY1 := Lib.hid hy1
  have HY2 := Lib.hid hy2
  have HZS := Lib.hid hzs
  obtain ⟨A, n, c, rfl, hnx, hnc, hcm⟩ := h.parts
  have hn2 : n ≤ 1000000 := by have := hnx.out; omega
  clear hi hz hy1 hy2 hzs
  cases A with
  | none =>
    obtain rfl := nilK h
    obtain rfl : n = 0 := hnx.out
    clear h
    have hq := fun W : World => run_eql_nilK (w := W) (P := Tryz.prog) 56 137 none 0 c Tryz.underlying56
    go_enter Tryz.func123, Tryz.ntmps123
    go_wp2_with fail
    go_ret
    exact ⟨none, 0, 0, rfl, World.ownsRow_nil _ _ _ _, rfl, Below.refl _ _⟩
  | some ad =>
    have SR : Hid (∀ j u, (flat (fun x : KeyD => ([.string (strL x.name), .int .i64 x.field, .int .i64 x.kind] : List Value)) xs)[j]? = some u → (w.alloc (.cells #[] 137)).cell? (ad.add j) = some u) := Lib.hid (src_rowK (h.below kept_key (((Below.refl w.heap.size w).alloc (Nat.le_refl _) _).mono hB)) (fun _ _ _ _ hP => by first | exact hP.1 | exact hP) (fun _ => rfl) (by decide))
    have HO : Hid (∀ u ∈ flat (fun x : KeyD => ([.string (strL x.name), .int .i64 x.field, .int .i64 x.kind] : List Value)) xs, u.oneCell' = true) := Lib.hid fun u hu => by
      obtain ⟨y, _, hy⟩ := List.mem_flatMap.1 hu
      simp only [List.mem_cons, List.not_mem_nil, or_false] at hy
      rcases hy with rfl | rfl | rfl <;> rfl
    have HL : Hid ((flat (fun x : KeyD => ([.string (strL x.name), .int .i64 x.field, .int .i64 x.kind] : List Value)) xs).length = n * 3) := Lib.hid (by rw [flat_lenK (sz := 3) (fun _ => rfl), ← hnx.out])
    have HP : Hid (∀ x ∈ xs, ∀ B w', KeyV B w' ((fun x : KeyD => ([.string (strL x.name), .int .i64 x.field, .int .i64 x.kind] : List Value)) x) x) := Lib.hid fun x hx B' w' => by
      obtain ⟨cs, hP⟩ := mem_okK h x hx
      exact ⟨rfl, hP.2⟩
    have HN := Lib.hid hn2
    clear h hB hn
    have hq := fun W : World => run_eql_nilK (w := W) (P := Tryz.prog) 56 137 (some ad) n c Tryz.underlying56
    go_enter Tryz.func123, Tryz.ntmps123
    go_wp2_with (at_builtin; go_loud (refine wpList_append_own _ rfl (.tmp 5) (.tmp 6) 56 rfl w.heap.size 137 i0 z0 3 32 Tryz.underlying56 HI.out HZ.out HY1.out HY2.out HZS.out (by decide) _ 0 [] rfl (World.ownsRow_made w #[] 0 (Nat.le_refl _) (Nat.zero_le _) rfl) ad n c (flat (fun x : KeyD => ([.string (strL x.name), .int .i64 x.field, .int .i64 x.kind] : List Value)) xs) rfl HL.out SR.out HO.out (by unfold maxLen; omega) (by omega) (by simp) ?_; intro v4 w4 hO4 hg4 hn4; have HO4 := Lib.hid hO4; have HG4 := Lib.hid hg4; clear hO4 hg4 hn4))
    go_ret
    have hO := HO4.out
    rw [Nat.zero_add, List.nil_append] at hO
    have hg := HG4.out
    have hb : Below w.heap.size w w4 := ⟨hg.os, hg.tape, hg.output, by have := hg.size; simp at this; omega, fun k hk => (hg.block k (by simp; omega) (fun e => by have e2 : k = w.heap.size := Option.some.inj e; omega)).trans ((grown_alloc w _ none).block k hk (by simp))⟩
    rcases hO.2 with ⟨rfl, h0⟩ | ⟨g, cap, cur, rfl, _⟩
    · exact ⟨_, _, _, rfl, by simpa [h0] using hO, by rw [← hnx.out, h0], hb⟩
    · exact ⟨_, _, _, rfl, hO, hnx.out, hb⟩
end
/- slices.IndexFunc at keys: the first that is Exact. -/
section
open Go.RowKit
set_option maxRecDepth 100000 in
set_option maxHeartbeats 2000000 in
theorem kc_key (W : World) (x : KeyD) : Calls Tryz.prog 124 #[.agg #[.string (strL x.name), .int .i64 x.field, .int .i64 x.kind]]  W (RetX (.bool (decide (x.kind = 1))) W) := by
  have hb : Below W.heap.size W (W.alloc (.cells #[.string (strL x.name), .int .i64 x.field, .int .i64 x.kind] 137)) := (Below.refl _ _).alloc (Nat.le_refl _) _
  have h2 : (W.alloc (.cells #[.string (strL x.name), .int .i64 x.field, .int .i64 x.kind] 137)).cell? ⟨W.heap.size, 2, none⟩ = some (.int .i64 x.kind) := blk_cell (heap_alloc_new W _) 2 _ rfl
  obtain ⟨V, hV⟩ : ∃ V, V = W.alloc (.cells #[.string (strL x.name), .int .i64 x.field, .int .i64 x.kind] 137) := ⟨_, rfl⟩
  rw [← hV] at h2 hb
  have HV := Lib.hid hV
  have HB := Lib.hid hb
  clear hV hb
  go_enter Tryz.func124, Tryz.ntmps124
  go_upto_region 1 with fail
  rw [← HV.out]
  clear HV
  go_wp2_with fail
  go_ret
  exact ⟨rfl, HB.out⟩
set_option maxRecDepth 100000 in
set_option maxHeartbeats 2000000 in
theorem ix_key {w : World} {B : Nat} {A : Option Addr} {n c : Nat} {xs : List KeyD} (h : RowV 3 KeyV B w (.slice A n c) xs) (hB : B ≤ w.heap.size) : Calls Tryz.prog 166 #[.slice A n c, .func (.func 124) #[] #[]] w (RetX (.int .i64 (ixI 1 (xs.map (fun x => x.kind)) 0)) w) := by
  obtain ⟨hn, hc, hm⟩ := h.len
  have HR := Lib.hid h
  obtain ⟨r, hr⟩ : ∃ r, r = ixI 1 (xs.map (fun x => x.kind)) 0 := ⟨_, rfl⟩
  rw [← hr]
  have HRR := Lib.hid hr
  clear h hr
  go_enter Tryz.func166, Tryz.ntmps166
  go_wp2_with fail
  go_loopw [8] (fun i W => ∃ k : Nat, k ≤ n ∧ i = .int .i64 (k : Int) ∧ Below w.heap.size w W ∧ Hid (r = ixI 1 ((xs.map (fun x => x.kind)).drop k) k)) (fun i _ => n - (intOf i).toNat)
  case atStart => exact ⟨0, by omega, rfl, Below.refl _ _, HRR⟩
  case round =>
    obtain ⟨k, hk, rfl, hb, hxh⟩ := hrel
    have HB := Lib.hid hb
    have hx := hxh.out
    clear hxh HRR hb
    by_cases hlt : k < n
    · have hkI : (k : Int) < (n : Int) := by omega
      have hkc : (k : Int) < (c : Int) := by omega
      have hk0 : 0 ≤ (k : Int) := by omega
      have hkx : k < xs.length := by rw [← hn.out]; exact hlt
      obtain ⟨b, oo, cs, hA, hbB, hcs, hV⟩ := rowK_at HR.out hkx
      have hdr : (xs.map (fun x => x.kind)).drop k = ((fun x => x.kind) (xs[k]'hkx)) :: (xs.map (fun x => x.kind)).drop (k + 1) := by
        rw [List.drop_eq_getElem_cons (by rw [List.length_map]; exact hkx), List.getElem_map]
      rw [hdr, ixI] at hx
      obtain ⟨x, hxe⟩ : ∃ x, x = xs[k]'hkx := ⟨_, rfl⟩
      rw [← hxe] at hx hV
      subst hA
      obtain ⟨rfl, -⟩ := hV
      have l0 : wr.cell? ⟨b, oo + k * 3, none⟩ = some (.string (strL x.name)) := (World.cell?_of_block (HB.out.block b (by omega))).trans (hcs 0 (by simp))
      have l1 : wr.cell? ⟨b, oo + k * 3 + 1, none⟩ = some (.int .i64 x.field) := (World.cell?_of_block (HB.out.block b (by omega))).trans (hcs 1 (by simp))
      have l2 : wr.cell? ⟨b, oo + k * 3 + 2, none⟩ = some (.int .i64 x.kind) := (World.cell?_of_block (HB.out.block b (by omega))).trans (hcs 2 (by simp))
      have KC : Hid (Calls Tryz.prog 124 #[.agg #[.string (strL x.name), .int .i64 x.field, .int .i64 x.kind]]  wr (RetX (.bool (decide (x.kind = 1))) wr)) := Lib.hid (kc_key wr x)
      clear hdr hcs hxe
      by_cases hi : x.kind = 1
      · have hval : r = (k : Int) := by rw [hx, if_pos hi]
        have hd : decide (x.kind = 1) = true := decide_eq_true hi
        rw [hd] at KC
        subst hval
        clear hx hi hd
        go_wp2_with (go_at_call 124; (with_reducible refine KC.out.mono ?_); rintro en w2 ⟨rfl, hb2⟩; have HB2 := Lib.hid hb2; clear hb2)
        go_ret
        exact ⟨rfl, HB.out.trans (HB2.out.mono HB.out.size)⟩
      · have hval : r = ixI 1 ((xs.map (fun x => x.kind)).drop (k + 1)) (k + 1) := by rw [hx, if_neg hi]
        have hd : decide (x.kind = 1) = false := decide_eq_false hi
        rw [hd] at KC
        have HVAL := Lib.hid hval
        clear hval hx hi hd
        go_wp2_with (go_at_call 124; (with_reducible refine KC.out.mono ?_); rintro en w2 ⟨rfl, hb2⟩; have HB2 := Lib.hid hb2; clear hb2)
        go_roundw
        case rel => exact ⟨k + 1, by omega, by simp, HB.out.trans (HB2.out.mono HB.out.size), HVAL⟩
        case measure => (first | (simp; omega) | (simp [intOf]; omega) | omega)
    · have hkI : ¬ (k : Int) < (n : Int) := by omega
      have hval : r = -1 := by rw [hx, List.drop_of_length_le (by rw [List.length_map, ← hn.out]; omega)]; rfl
      subst hval
      clear hx
      go_wp2_with fail
      go_ret
      exact ⟨rfl, HB.out⟩
end
/- slices.DeleteFunc at keys: those that are not Exact. -/
section
open Go.RowKit
/-- the cells of a key -/
def keyW (x : KeyD) : List Value := [.string (strL x.name), .int .i64 x.field, .int .i64 x.kind]
/-- the keys that are not Exact -/
def othK (xs : List KeyD) : List KeyD := xs.filter (fun x => decide (x.kind ≠ 1))
theorem keyW_len (x : KeyD) : (keyW x).length = 3 := rfl
theorem keys_set : ∀ (xs : List KeyD) (i : Nat) (y : KeyD), i < xs.length → (((flat keyW xs).set (i * 3) (.string (strL y.name))).set (i * 3 + 1) (.int .i64 y.field)).set (i * 3 + 2) (.int .i64 y.kind) = flat keyW (xs.set i y)
  | [], _, _, h => by simp at h
  | x :: r, 0, y, _ => by simp [flat, keyW]
  | x :: r, i + 1, y, h => by
    have ih := keys_set r i y (by simpa using h)
    rw [show (i + 1) * 3 = i * 3 + 3 by omega]
    simp only [flat, List.flatMap_cons, keyW, List.cons_append, List.nil_append, List.set_cons_succ] at ih ⊢
    rw [ih]
theorem own_sets {base sz g n cap m : Nat} {e : TypeId} : ∀ (L : List Value) (o : Nat) (w : World) (xs : List Value), w.ownsRow base e sz (.slice (some ⟨g, 0, none⟩) n cap) n xs → m ≤ o → ∃ ys, (w.setCells g o L).ownsRow base e sz (.slice (some ⟨g, 0, none⟩) n cap) n ys ∧ ys.take m = xs.take m ∧ w.grownBy (w.setCells g o L) (some g)
  | [], _, w, xs, h, _ => ⟨xs, h, rfl, World.grownBy.refl _ _⟩
  | v :: r, o, w, xs, h, hm => by
    obtain ⟨h1, g1⟩ := h.stored o v
    obtain ⟨ys, h2, h3, g2⟩ := own_sets (m := m) r (o + 1) _ _ h1 (by omega)
    exact ⟨ys, h2, h3.trans (by rw [List.take_set_of_le hm]), g1.trans g2⟩
theorem own_take {w : World} {base sz g n cap a : Nat} {e : TypeId} {xs : List Value} (h : w.ownsRow base e sz (.slice (some ⟨g, 0, none⟩) n cap) n xs) (ha : a ≤ n) : w.ownsRow base e sz (.slice (some ⟨g, 0, none⟩) a cap) a (xs.take (a * sz)) := by
  have hle : a * sz ≤ n * sz := Nat.mul_le_mul_right _ ha
  rcases h.2 with ⟨h', _⟩ | ⟨g', cap', cur, h', hb, hg, hnc, hcm, hcs, htake⟩
  · simp at h'
  · simp only [Value.slice.injEq, Option.some.injEq, Addr.mk.injEq, and_true, true_and] at h'
    obtain ⟨rfl, rfl⟩ := h'
    refine ⟨by rw [List.length_take, h.1]; omega, .inr ⟨g, cap, cur, rfl, hb, hg, by omega, hcm, hcs, ?_⟩⟩
    rw [← htake, List.take_take, Nat.min_eq_left hle]
theorem take_flat {α : Type} {enc : α → List Value} {sz : Nat} (hl : ∀ x, (enc x).length = sz) : ∀ (xs : List α) (a : Nat), (flat enc xs).take (a * sz) = flat enc (xs.take a)
  | [], a => by simp [flat]
  | x :: r, 0 => by simp [flat]
  | x :: r, a + 1 => by
    have ih := take_flat hl r a
    simp only [flat, List.flatMap_cons, List.take_succ_cons] at ih ⊢
    rw [List.take_append, hl, show (a + 1) * sz - sz = a * sz by rw [Nat.succ_mul]; omega, ih, List.take_of_length_le (by rw [hl, Nat.succ_mul]; omega)]
/-- a row of one's own, each element of which is given -/
def RetDel (base : Nat) (w : World) (xs : List KeyD) (en : Ending) (w' : World) : Prop := ∃ (A : Option Addr) (n c : Nat), en = .returned (.slice A n c) ∧ w'.ownsRow base 137 3 (.slice A n c) n (flat keyW (othK xs)) ∧ n = (othK xs).length ∧ Below base w w'
theorem ixI_none {p : Int} : ∀ (xs : List KeyD) (k : Nat), (ixI p (xs.map (fun x => x.kind)) k = -1) → ∀ x ∈ xs, x.kind ≠ p
  | [], _, _, _, h => by simp at h
  | y :: r, k, h, x, hx => by
    simp only [List.map_cons, ixI] at h
    by_cases hp : y.kind = p
    · rw [if_pos hp] at h
      omega
    · rw [if_neg hp] at h
      rcases List.mem_cons.1 hx with rfl | hr
      · exact hp
      · exact ixI_none r (k + 1) h x hr
theorem othK_all {xs : List KeyD} (h : ∀ x ∈ xs, x.kind ≠ 1) : othK xs = xs := List.filter_eq_self.2 (fun x hx => by simpa using h x hx)
/-- the loop of DeleteFunc: what lies at the front, and what is still to be looked at -/
structure DelI (xs ys : List KeyD) (a b : Nat) : Prop where
  ab : a < b
  bn : b ≤ xs.length
  len : ys.length = xs.length
  fr : ys.take a = othK (xs.take b)
  bk : ys.drop b = xs.drop b
theorem DelI.at_ {xs ys : List KeyD} {a b : Nat} (h : DelI xs ys a b) : ys[b]? = xs[b]? := by
  have h1 := congrArg (fun l => l[0]?) h.bk
  simpa using h1
theorem othK_snoc (xs : List KeyD) (x : KeyD) : othK (xs ++ [x]) = if x.kind = 1 then othK xs else othK xs ++ [x] := by
  unfold othK
  rw [List.filter_append]
  by_cases h : x.kind = 1
  · simp [h]
  · simp [h]
theorem DelI.skip {xs ys : List KeyD} {a b : Nat} {x : KeyD} (h : DelI xs ys a b) (hx : xs[b]? = some x) (hk : x.kind = 1) : DelI xs ys a (b + 1) := by
  obtain ⟨hb, he⟩ := List.getElem?_eq_some_iff.1 hx
  refine ⟨by have := h.ab; omega, hb, h.len, ?_, ?_⟩
  · rw [h.fr, List.take_add_one, hx, Option.toList_some, othK_snoc, if_pos hk]
  · have := congrArg (fun l => l.drop 1) h.bk
    simpa [List.drop_drop, Nat.add_comm] using this
theorem DelI.put {xs ys : List KeyD} {a b : Nat} {x : KeyD} (h : DelI xs ys a b) (hx : xs[b]? = some x) (hk : x.kind ≠ 1) : DelI xs (ys.set a x) (a + 1) (b + 1) := by
  obtain ⟨hb, he⟩ := List.getElem?_eq_some_iff.1 hx
  have hab := h.ab
  have hl := h.len
  refine ⟨by omega, hb, by rw [List.length_set, h.len], ?_, ?_⟩
  · rw [List.take_add_one (l := ys.set a x), List.take_set_of_le (Nat.le_refl a), h.fr, List.getElem?_set_self (by omega), Option.toList_some, List.take_add_one (l := xs), hx, Option.toList_some, othK_snoc, if_neg hk]
  · rw [List.drop_set_of_lt (by omega)]
    have := congrArg (fun l => l.drop 1) h.bk
    simpa [List.drop_drop, Nat.add_comm] using this
theorem DelI.start {xs : List KeyD} {a : Nat} {x : KeyD} (hx : xs[a]? = some x) (hk : x.kind = 1) (hn : ∀ m, m < a → ∀ y, xs[m]? = some y → y.kind ≠ 1) : DelI xs xs a (a + 1) := by
  obtain ⟨hb, -⟩ := List.getElem?_eq_some_iff.1 hx
  refine ⟨by omega, hb, rfl, ?_, rfl⟩
  rw [List.take_add_one, hx, Option.toList_some, othK_snoc, if_pos hk, othK_all]
  intro y hy
  obtain ⟨m, hm⟩ := List.mem_iff_getElem?.1 hy
  rw [List.getElem?_take] at hm
  by_cases hma : m < a
  · rw [if_pos hma] at hm
    exact hn m hma y hm
  · rw [if_neg hma] at hm
    cases hm
theorem zero_key (w : World) : (zeroValue 137).run Tryz.prog w = .ok (.agg #[.string (strL []), .int .i64 0, .int .i64 0]) w := by kernel_rfl
theorem zc_len (z : Array Value) (n : Nat) : (Builtin.zeroCells z n).toList.length = n * z.size := by simp [Builtin.zeroCells]
theorem zc_mem {z : Array Value} {n : Nat} {v : Value} (h : v ∈ (Builtin.zeroCells z n).toList) : v ∈ z.toList := by
  simp only [Builtin.zeroCells, Array.toList_map, List.mem_map] at h
  obtain ⟨i, hi, rfl⟩ := h
  have h0 : 0 < z.size := by
    have : i < n * z.size := by simpa using hi
    rcases Nat.eq_zero_or_pos z.size with e | e
    · rw [e] at this; simp at this
    · exact e
  have hm := Nat.mod_lt i h0
  rw [getElem!_pos z (i % z.size) hm]
  simp
set_option maxRecDepth 100000 in
set_option maxHeartbeats 4000000 in
theorem kd_key {w : World} {base : Nat} {A : Option Addr} {n c : Nat} {xs : List KeyD} (h : w.ownsRow base 137 3 (.slice A n c) n (flat keyW xs)) (hn : n = xs.length) (hb0 : base ≤ w.heap.size) (hT : ∀ x ∈ xs, Txt x.name ∧ I64 x.field ∧ I64 x.kind) : Calls Tryz.prog 122 #[.slice A n c, .func (.func 124) #[] #[]] w (RetDel base w xs) := by
  have hrow : RowV 3 KeyV w.heap.size w (.slice A n c) xs := rowV_of_own (sz := 3) keyW_len (Nat.le_refl _) (fun x hx => ⟨rfl, hT x hx⟩) (by rw [← hn]; exact h)
  have K := ix_key hrow (Nat.le_refl _)
  rcases ixI_is 1 (xs.map (fun x => x.kind)) 0 with ⟨h1, h2⟩ | ⟨a, h1, h2, h3⟩
  · have hall : othK xs = xs := othK_all (fun x hx e => h2 (List.mem_map.2 ⟨x, hx, e⟩))
    rw [h1] at K
    have HK := Lib.hid K
    have HO := Lib.hid h
    have HN := Lib.hid hn
    clear K h h1 h2 hrow hT hn
    go_enter Tryz.func122, Tryz.ntmps122
    go_wp2_with (go_at_call 166; (with_reducible refine HK.out.mono ?_); rintro en w2 ⟨rfl, hb2⟩; have HB2 := Lib.hid hb2; clear hb2)
    go_ret
    have hb2 := HB2.out
    refine ⟨A, n, c, rfl, ?_, by rw [hall]; exact HN.out, hb2.mono hb0⟩
    rw [hall]
    exact HO.out.kept (row := none) ⟨hb2.os, hb2.tape, hb2.output, hb2.size, fun i hi _ => hb2.block i hi⟩ (by cases A <;> simp [Value.ownBlock])
  · have ha : a < xs.length := by have := (List.getElem?_eq_some_iff.1 h2).1; simpa using this
    obtain ⟨xa, hxa⟩ : ∃ x, xs[a]? = some x := ⟨_, List.getElem?_eq_getElem ha⟩
    have hka : xa.kind = 1 := by
      rw [List.getElem?_map, hxa] at h2
      simpa using h2
    have hst : DelI xs xs a (a + 1) := DelI.start hxa hka (fun m hm y hy e => h3 m hm (by rw [List.getElem?_map, hy]; simpa using e))
    obtain ⟨g, rfl, hg, hgw, hnc, hcm⟩ : ∃ g, A = some ⟨g, 0, none⟩ ∧ base ≤ g ∧ g < w.heap.size ∧ n ≤ c ∧ c ≤ 9223372036854775807 := by
      rcases h.2 with ⟨e, e2⟩ | ⟨g', cap', cur, e, hb, hg, hnc, hcm, -⟩
      · omega
      · simp only [Value.slice.injEq, true_and] at e
        obtain ⟨rfl, rfl⟩ := e
        exact ⟨g', rfl, hb, (Array.getElem?_eq_some_iff.1 hg).1, hnc, hcm⟩
    rw [h1, Nat.zero_add] at K
    have HK := Lib.hid K
    have HO := Lib.hid h
    have HST := Lib.hid hst
    have HT := Lib.hid hT
    have an : a < n := by omega
    have h9 : (((a : Nat) : Int) == -1) = false := by simp
    have HN := Lib.hid hn
    clear K h h1 h2 h3 hrow hT hxa hka hst hn ha
    go_enter Tryz.func122, Tryz.ntmps122
    go_wp2_with (go_at_call 166; (with_reducible refine HK.out.mono ?_); rintro en w2 ⟨rfl, hb2⟩; have HB2 := Lib.hid hb2; clear hb2)
    have SR : Hid (∀ W, Below w.heap.size w W → W.ownsRow base 137 3 (.slice (some ⟨g, 0, none⟩) n c) n (flat keyW xs)) := Lib.hid fun W hb => HO.out.kept (row := none) ⟨hb.os, hb.tape, hb.output, hb.size, fun i hi _ => hb.block i hi⟩ (by simp [Value.ownBlock])
    clear HO
    go_loopw [5, 6] (fun i j W => ∃ (a b : Nat) (ys : List KeyD), i = .int .i64 (a : Int) ∧ j = .int .i64 (b : Int) ∧ Hid (DelI xs ys a b) ∧ Hid (W.ownsRow base 137 3 (.slice (some ⟨g, 0, none⟩) n c) n (flat keyW ys)) ∧ Hid (Below base w W) ∧ g < W.heap.size) (fun _ j _ => n - (intOf j).toNat)
    case atStart => exact ⟨a, a + 1, xs, rfl, by simp, HST, Lib.hid (SR.out _ HB2.out), Lib.hid (HB2.out.mono hb0), by have := HB2.out.size; omega⟩
    case round =>
      obtain ⟨a, b, ys, rfl, rfl, HD, HO, HB, hgl⟩ := hrel
      clear SR HST HK HB2
      have hab := HD.out.ab
      have hbn := HD.out.bn
      have hyl := HD.out.len
      have hn := HN.out
      by_cases hlt : b < n
      · obtain ⟨x, hx⟩ : ∃ x, xs[b]? = some x := ⟨_, List.getElem?_eq_getElem (by omega)⟩
        have hy : ys[b]? = some x := HD.out.at_.trans hx
        have l0 : wr.cell? ⟨g, b * 3, none⟩ = some (.string (strL x.name)) := (HO.out.cellAt (b * 3) (by omega)).trans (flat_get keyW_len ys b 0 x hy (by decide))
        have l1 : wr.cell? ⟨g, b * 3 + 1, none⟩ = some (.int .i64 x.field) := (HO.out.cellAt (b * 3 + 1) (by omega)).trans (flat_get keyW_len ys b 1 x hy (by decide))
        have l2 : wr.cell? ⟨g, b * 3 + 2, none⟩ = some (.int .i64 x.kind) := (HO.out.cellAt (b * 3 + 2) (by omega)).trans (flat_get keyW_len ys b 2 x hy (by decide))
        have j0 : (0 : Int) ≤ (b : Int) := by omega
        have j1 : (b : Int) < (n : Int) := by omega
        have j2 : (b : Int) < (c : Int) := by omega
        have HX := Lib.hid hx
        clear hx hy hn hyl
        have j3 : (0 : Int) ≤ (a : Int) := by omega
        have j4 : (a : Int) < (n : Int) := by omega
        have j5 : (a : Int) < (c : Int) := by omega
        obtain ⟨V, hV⟩ : ∃ V, V = wr.alloc (.cells #[.string (strL x.name), .int .i64 x.field, .int .i64 x.kind] 137) := ⟨_, rfl⟩
        have hbV : Below wr.heap.size wr V := by rw [hV]; exact (Below.refl _ _).alloc (Nat.le_refl _) _
        have hnV : V.heap[wr.heap.size]? = some (.cells #[.string (strL x.name), .int .i64 x.field, .int .i64 x.kind] 137 (0, 0)) := by rw [hV]; exact heap_alloc_new _ _
        have hsV : wr.heap.size < V.heap.size := by rw [hV]; simp
        have HV := Lib.hid hV
        have HBV := Lib.hid hbV
        have HNV := Lib.hid hnV
        have v0 : V.cell? ⟨wr.heap.size, 0, none⟩ = some (.string (strL x.name)) := blk_cell hnV 0 _ rfl
        have v1 : V.cell? ⟨wr.heap.size, 1, none⟩ = some (.int .i64 x.field) := blk_cell hnV 1 _ rfl
        have v2 : V.cell? ⟨wr.heap.size, 2, none⟩ = some (.int .i64 x.kind) := blk_cell hnV 2 _ rfl
        clear hV hbV hnV
        have KC : Hid (Calls Tryz.prog 124 #[.agg #[.string (strL x.name), .int .i64 x.field, .int .i64 x.kind]]  V (RetX (.bool (decide (x.kind = 1))) V)) := Lib.hid (kc_key V x)
        go_upto_region 8 with fail
        rw [← HV.out]
        clear HV
        by_cases hi : x.kind = 1
        · have hd : decide (x.kind = 1) = true := decide_eq_true hi
          rw [hd] at KC
          have HI := Lib.hid hi
          clear hi hd
          go_wp2_with (go_at_call 124; (with_reducible refine KC.out.mono ?_); rintro en w3 ⟨rfl, hb3⟩; have HB3 := Lib.hid hb3; clear hb3)
          have hb3 := HB3.out
          have hbw : Below wr.heap.size wr w3 := HBV.out.trans (hb3.mono HBV.out.size)
          go_roundw
          case rel => exact ⟨a, b + 1, ys, rfl, by simp, Lib.hid (HD.out.skip HX.out HI.out), Lib.hid (HO.out.kept (row := none) ⟨hbw.os, hbw.tape, hbw.output, hbw.size, fun i hi _ => hbw.block i hi⟩ (by simp [Value.ownBlock])), Lib.hid (HB.out.trans (hbw.mono (by have := HB.out.size; omega))), by have := hbw.size; omega⟩
          case measure => (first | (simp; omega) | (simp [intOf]; omega) | omega)
        · have hd : decide (x.kind = 1) = false := decide_eq_false hi
          rw [hd] at KC
          have HI := Lib.hid hi
          clear hi hd
          go_upto_region 9 with (go_at_call 124; (with_reducible refine KC.out.mono ?_); rintro en w3 ⟨rfl, hb3⟩; have HB3 := Lib.hid hb3; clear hb3)
          have hb3 := HB3.out
          have hbw : Below wr.heap.size wr w3 := HBV.out.trans (hb3.mono HBV.out.size)
          have HBW := Lib.hid hbw
          have hbl := (hb3.block wr.heap.size hsV).trans HNV.out
          have x0 : w3.cell? ⟨wr.heap.size, 0, none⟩ = some (.string (strL x.name)) := blk_cell hbl 0 _ rfl
          have x1 : w3.cell? ⟨wr.heap.size, 1, none⟩ = some (.int .i64 x.field) := blk_cell hbl 1 _ rfl
          have x2 : w3.cell? ⟨wr.heap.size, 2, none⟩ = some (.int .i64 x.kind) := blk_cell hbl 2 _ rfl
          have HO3 := Lib.hid (HO.out.kept (row := none) (w' := w3) ⟨hbw.os, hbw.tape, hbw.output, hbw.size, fun i hi _ => hbw.block i hi⟩ (by simp [Value.ownBlock]))
          obtain ⟨y, hy⟩ : ∃ y, ys[a]? = some y := ⟨_, List.getElem?_eq_getElem (by have := HD.out.len; have := HN.out; omega)⟩
          have m0 : w3.cell? ⟨g, a * 3, none⟩ = some (.string (strL y.name)) := (HO3.out.cellAt (a * 3) (by omega)).trans (flat_get keyW_len ys a 0 y hy (by decide))
          have m1 : w3.cell? ⟨g, a * 3 + 1, none⟩ = some (.int .i64 y.field) := (HO3.out.cellAt (a * 3 + 1) (by omega)).trans (flat_get keyW_len ys a 1 y hy (by decide))
          have m2 : w3.cell? ⟨g, a * 3 + 2, none⟩ = some (.int .i64 y.kind) := (HO3.out.cellAt (a * 3 + 2) (by omega)).trans (flat_get keyW_len ys a 2 y hy (by decide))
          have f0 : w3.frozen? ⟨g, a * 3, none⟩ = false := HO3.out.frozenAt _
          have f1 : w3.frozen? ⟨g, a * 3 + 1, none⟩ = false := HO3.out.frozenAt _
          have f2 : w3.frozen? ⟨g, a * 3 + 2, none⟩ = false := HO3.out.frozenAt _
          clear hb3 hbw hbl hy
          go_wp2_with fail
          obtain ⟨o1, g1⟩ := HO3.out.stored (a * 3) (.string (strL x.name))
          obtain ⟨o2, g2⟩ := o1.stored (a * 3 + 1) (.int .i64 x.field)
          obtain ⟨o3, g3⟩ := o2.stored (a * 3 + 2) (.int .i64 x.kind)
          rw [keys_set ys a x (by have := HD.out.len; have := HN.out; omega)] at o3
          have hgg := (g1.trans g2).trans g3
          have hbw := HBW.out
          go_roundw
          case rel => exact ⟨a + 1, b + 1, ys.set a x, by simp, by simp, Lib.hid (HD.out.put HX.out HI.out), Lib.hid o3, Lib.hid ((HB.out.trans (hbw.mono (by have := HB.out.size; omega))).trans ⟨hgg.os, hgg.tape, hgg.output, hgg.size, fun k hk => hgg.block k (by have := hbw.size; have := HB.out.size; omega) (fun e => by have e2 := Option.some.inj e; omega)⟩), by have := hbw.size; simp; omega⟩
          case measure => (first | (simp; omega) | (simp [intOf]; omega) | omega)
      · have hbe : b = n := by omega
        subst hbe
        have an2 : a < b := hab
        obtain ⟨L, hL⟩ : ∃ L, L = (Builtin.zeroCells #[.string (strL []), .int .i64 0, .int .i64 0] (b - a)).toList := ⟨_, rfl⟩
        have hLl : L.length = (b - a) * 3 := by rw [hL, zc_len]; rfl
        have hL1 : ∀ v ∈ L, v.oneCell' = true := by
          intro v hv
          rw [hL] at hv
          have := zc_mem hv
          simp at this
          rcases this with rfl | rfl | rfl <;> rfl
        have hq : ∀ ty, (Builtin.clear_ #[56] ty #[.slice (some ⟨g, a * 3, none⟩) (b - a) (c - a)]).run Tryz.prog wr = .ok (.tuple #[]) (wr.setCells g (a * 3) L) := fun ty =>
          run_clear_sliceK wr _ 137 ty _ L Tryz.underlying56 zero_key g (a * 3) (b - a) (c - a) (by omega) hL.symm hL1 (fun j hj => by
            rw [HO.out.cellAt (a * 3 + j) (by omega)]
            have h1 := HO.out.1
            rw [List.getElem?_eq_getElem (by omega)]
            rfl) (fun j _ => HO.out.frozenAt _)
        have j0 : (0 : Int) ≤ (a : Int) := by omega
        have j1 : (a : Int) ≤ (b : Int) := by omega
        have j2 : (a : Int) ≤ (c : Int) := by omega
        have HLL := Lib.hid hL1
        clear hn hyl hL hLl hL1
        go_wp2_with fail
        go_ret
        obtain ⟨ys2, o2, t2, g2⟩ := own_sets (m := a * 3) L (a * 3) wr _ HO.out (Nat.le_refl _)
        have o3 := own_take o2 (by omega : a ≤ b)
        rw [t2, take_flat keyW_len, HD.out.fr, List.take_of_length_le (by have := HN.out; omega)] at o3
        have hal : a = (othK xs).length := by
          have h1 := o3.1
          rw [flatS_len keyW_len] at h1
          omega
        exact ⟨_, _, _, rfl, o3, hal, HB.out.trans ⟨g2.os, g2.tape, g2.output, g2.size, fun k hk => g2.block k (by omega) (fun e => by have e2 := Option.some.inj e; omega)⟩⟩
end
/- slices.Index at keys. -/
section
open Go.RowKit
/-- where a key is first -/
def KeyAt (xs : List KeyD) (y : KeyD) (r : Int) : Prop := (r = -1 ∧ y ∉ xs) ∨ ∃ j : Nat, r = (j : Int) ∧ xs[j]? = some y ∧ ∀ m, m < j → xs[m]? ≠ some y
def RetPos (xs : List KeyD) (y : KeyD) (w : World) (en : Ending) (w' : World) : Prop := ∃ r : Int, en = .returned (.int .i64 r) ∧ KeyAt xs y r ∧ Below w.heap.size w w'
set_option maxRecDepth 100000 in
set_option maxHeartbeats 2000000 in
theorem kp_key {w : World} {B : Nat} {A : Option Addr} {n c : Nat} {xs : List KeyD} (h : RowV 3 KeyV B w (.slice A n c) xs) (hB : B ≤ w.heap.size) (y : KeyD) (hy : Txt y.name) : Calls Tryz.prog 126 #[.slice A n c, .agg #[.string (strL y.name), .int .i64 y.field, .int .i64 y.kind]] w (RetPos xs y w) := by
  obtain ⟨hn, hc, hm⟩ := h.len
  have HR := Lib.hid h
  obtain ⟨V, hV⟩ : ∃ V, V = w.alloc (.cells #[.string (strL y.name), .int .i64 y.field, .int .i64 y.kind] 137) := ⟨_, rfl⟩
  have hbV : Below w.heap.size w V := by rw [hV]; exact (Below.refl _ _).alloc (Nat.le_refl _) _
  have hnV : V.heap[w.heap.size]? = some (.cells #[.string (strL y.name), .int .i64 y.field, .int .i64 y.kind] 137 (0, 0)) := by rw [hV]; exact heap_alloc_new _ _
  have hsV : w.heap.size < V.heap.size := by rw [hV]; simp
  have HV := Lib.hid hV
  have HBV := Lib.hid hbV
  have HNV := Lib.hid hnV
  have HY := Lib.hid hy
  have hG : Tryz.prog.eqGuardType Tryz.prog.depth 137 = false := by kernel_rfl
  clear h hV hbV hnV hy
  go_enter Tryz.func126, Tryz.ntmps126
  go_upto_region 1 with fail
  rw [← HV.out]
  clear HV
  go_wp2_with fail
  go_loopw [8] (fun i W => ∃ k : Nat, k ≤ n ∧ i = .int .i64 (k : Int) ∧ Below V.heap.size V W ∧ Hid (∀ m, m < k → xs[m]? ≠ some y)) (fun i _ => n - (intOf i).toNat)
  case atStart => exact ⟨0, by omega, rfl, Below.refl _ _, Lib.hid (fun m hm => by omega)⟩
  case round =>
    obtain ⟨k, hk, rfl, hb, HF⟩ := hrel
    have HB := Lib.hid hb
    clear hb
    have hs3 := HB.out.size
    by_cases hlt : k < n
    · have j0 : 0 ≤ (k : Int) := by omega
      have j1 : (k : Int) < (n : Int) := by omega
      have j2 : (k : Int) < (c : Int) := by omega
      have hkx : k < xs.length := by rw [← hn.out]; exact hlt
      obtain ⟨b, oo, cs, hA, hbB, hcs, hVx⟩ := rowK_at HR.out hkx
      obtain ⟨x, hxe⟩ : ∃ x, x = xs[k]'hkx := ⟨_, rfl⟩
      have hx : xs[k]? = some x := by rw [hxe]; exact List.getElem?_eq_getElem hkx
      rw [← hxe] at hVx
      subst hA
      obtain ⟨rfl, htx, -⟩ := hVx
      have hbk : wr.heap[b]? = w.heap[b]? := (HB.out.block b (by omega)).trans (HBV.out.block b (by omega))
      have l0 : wr.cell? ⟨b, oo + k * 3, none⟩ = some (.string (strL x.name)) := (World.cell?_of_block hbk).trans (hcs 0 (by simp))
      have l1 : wr.cell? ⟨b, oo + k * 3 + 1, none⟩ = some (.int .i64 x.field) := (World.cell?_of_block hbk).trans (hcs 1 (by simp))
      have l2 : wr.cell? ⟨b, oo + k * 3 + 2, none⟩ = some (.int .i64 x.kind) := (World.cell?_of_block hbk).trans (hcs 2 (by simp))
      have hyk := (HB.out.block w.heap.size hsV).trans HNV.out
      have v0 : wr.cell? ⟨w.heap.size, 0, none⟩ = some (.string (strL y.name)) := blk_cell hyk 0 _ rfl
      have v1 : wr.cell? ⟨w.heap.size, 1, none⟩ = some (.int .i64 y.field) := blk_cell hyk 1 _ rfl
      have v2 : wr.cell? ⟨w.heap.size, 2, none⟩ = some (.int .i64 y.kind) := blk_cell hyk 2 _ rfl
      obtain ⟨q, hq⟩ := some_bool (y = x)
      have hqe : ∀ W : World, (Op.equalIn 10000 137 (.agg #[.string (strL y.name), .int .i64 y.field, .int .i64 y.kind]) (.agg #[.string (strL x.name), .int .i64 x.field, .int .i64 x.kind])).run Tryz.prog W = .ok q W := fun W => eqd_key y x HY.out htx q hq W
      have HX := Lib.hid hx
      have HQ := Lib.hid hq
      clear hcs hbk hyk hxe hx hq hkx
      cases q
      · go_wp2
        go_quiet (fail)
        go_wp2
        go_roundw
        case rel =>
          refine ⟨k + 1, by omega, by simp, HB.out.trans ⟨rfl, rfl, rfl, Nat.le_refl _, fun _ _ => rfl⟩, Lib.hid (fun m hm e => ?_)⟩
          by_cases hmk : m = k
          · subst hmk
            rw [HX.out] at e
            have := HQ.out.2 (Option.some.inj e).symm
            cases this
          · exact HF.out m (by omega) e
        case measure => (first | (simp [intOf]; omega) | omega)
      · go_wp2
        go_quiet (fail)
        go_wp2
        go_ret
        refine ⟨(k : Int), rfl, .inr ⟨k, rfl, ?_, HF.out⟩, (HBV.out.trans (HB.out.mono HBV.out.size)).trans ⟨rfl, rfl, rfl, Nat.le_refl _, fun _ _ => rfl⟩⟩
        rw [HX.out, HQ.out.1 (by simp)]
    · obtain rfl : n = k := by omega
      go_wp2
      go_ret
      refine ⟨-1, rfl, .inl ⟨rfl, fun hm => ?_⟩, HBV.out.trans (HB.out.mono HBV.out.size)⟩
      obtain ⟨m, hm2⟩ := List.mem_iff_getElem?.1 hm
      exact HF.out m (by have := (List.getElem?_eq_some_iff.1 hm2).1; rw [hn.out]; exact this) hm2
end
/- index: the bits of a key, the kinds of finders. -/
section
open Go.RowKit
theorem fbits_none (id : Int) : ∀ fs : List FieldD, id ∉ fs.map (fun x => x.id) → fbits fs id = 0
  | [], _ => rfl
  | f :: r, h => by
    simp only [List.map_cons, List.mem_cons, not_or] at h
    rw [fbits, if_neg (fun e => h.1 e.symm)]
    exact fbits_none id r h.2
theorem fbits_at (id : Int) : ∀ (fs : List FieldD) (j : Nat) (f : FieldD), fs[j]? = some f → f.id = id → (∀ m, m < j → (fs.map (fun x => x.id))[m]? ≠ some id) → fbits fs id = f.bits
  | [], _, _, h, _, _ => by simp at h
  | g :: r, 0, f, h, e, _ => by
    simp at h
    subst h
    rw [fbits, if_pos e]
  | g :: r, j + 1, f, h, e, hm => by
    have h0 := hm 0 (by omega)
    simp at h0
    rw [fbits, if_neg h0]
    exact fbits_at id r j f (by simpa using h) e (fun m hmj => by have := hm (m + 1) (by omega); simpa using this)
set_option maxRecDepth 100000 in
set_option maxHeartbeats 2000000 in
theorem x_bitsOf {w : World} {B : Nat} {s0 s1 s2 s3 s4 s5 s6 s7 : Value} {x : SchemaD} (h : SchM w B s0 s1 s2 s3 s4 s5 s6 s7 x) (hB : B ≤ w.heap.size) (s8 s9 : Value) (k : KeyD) : Calls Tryz.prog 127 #[.agg #[s0, s1, s2, s3, s4, s5, s6, s7, s8, s9], .agg #[.string (strL k.name), .int .i64 k.field, .int .i64 k.kind]] w (RetX (.int .i64 (fbits x.fields k.field)) w) := by
  obtain ⟨A, n, c, rfl, _⟩ := h.f.parts
  obtain ⟨hnx, hnc, hcm⟩ := h.f.len
  obtain ⟨W0, hW0⟩ : ∃ W, W = (w.alloc (.cells #[.slice A n c, s1, s2, s3, s4, s5, s6, s7, s8, s9] 36)).alloc (.cells #[.string (strL k.name), .int .i64 k.field, .int .i64 k.kind] 137) := ⟨_, rfl⟩
  have hb0 : Below w.heap.size w W0 := by rw [hW0]; exact ((Below.refl w.heap.size w).alloc (by simp) _).alloc (by simp) _
  have hz0 : w.heap.size + 2 = W0.heap.size := by rw [hW0]; simp
  have b0 : W0.heap[w.heap.size]? = some (.cells #[.slice A n c, s1, s2, s3, s4, s5, s6, s7, s8, s9] 36 (0, 0)) := by
    rw [hW0]
    exact ((grown_alloc _ _ none).block _ (by simp) (by simp)).trans (heap_alloc_new _ _)
  have b1 : W0.heap[w.heap.size + 1]? = some (.cells #[.string (strL k.name), .int .i64 k.field, .int .i64 k.kind] 137 (0, 0)) := by
    rw [hW0, show w.heap.size + 1 = (w.alloc (.cells #[.slice A n c, s1, s2, s3, s4, s5, s6, s7, s8, s9] 36)).heap.size by simp]
    exact heap_alloc_new _ _
  have K := Lib.hid (t_FieldOf (w := W0) (h.below (hb0.mono hB)) (Nat.le_trans hB hb0.size) s8 s9 k.field)
  have e0 : W0.cell? ⟨w.heap.size, 0, none⟩ = some (.slice A n c) := blk_cell b0 0 _ rfl
  have e1 : W0.cell? ⟨w.heap.size, 1, none⟩ = some (s1) := blk_cell b0 1 _ rfl
  have e2 : W0.cell? ⟨w.heap.size, 2, none⟩ = some (s2) := blk_cell b0 2 _ rfl
  have e3 : W0.cell? ⟨w.heap.size, 3, none⟩ = some (s3) := blk_cell b0 3 _ rfl
  have e4 : W0.cell? ⟨w.heap.size, 4, none⟩ = some (s4) := blk_cell b0 4 _ rfl
  have e5 : W0.cell? ⟨w.heap.size, 5, none⟩ = some (s5) := blk_cell b0 5 _ rfl
  have e6 : W0.cell? ⟨w.heap.size, 6, none⟩ = some (s6) := blk_cell b0 6 _ rfl
  have e7 : W0.cell? ⟨w.heap.size, 7, none⟩ = some (s7) := blk_cell b0 7 _ rfl
  have e8 : W0.cell? ⟨w.heap.size, 8, none⟩ = some (s8) := blk_cell b0 8 _ rfl
  have e9 : W0.cell? ⟨w.heap.size, 9, none⟩ = some (s9) := blk_cell b0 9 _ rfl
  have d1 : W0.cell? ⟨w.heap.size + 1, 1, none⟩ = some (.int .i64 k.field) := blk_cell b1 1 _ rfl
  have HW0 := Lib.hid hW0
  have HB0 := Lib.hid hb0
  have HS0 := Lib.hid b0
  have HH := Lib.hid h.f
  clear hW0 hb0 b0 b1 h
  rcases ixI_is k.field (x.fields.map (fun x => x.id)) 0 with ⟨h1, h2⟩ | ⟨j, h1, h2, h3⟩
  · rw [h1] at K
    rw [fbits_none _ _ h2]
    clear h1 h2 HH
    go_enter Tryz.func127, Tryz.ntmps127
    go_upto_region 1 with fail
    rw [← HW0.out]
    clear HW0
    go_wp2_with (go_at_call 167; (with_reducible refine K.out.mono ?_); rintro en w2 ⟨rfl, hb2⟩; have HB2 := Lib.hid hb2; clear hb2)
    go_ret
    exact ⟨rfl, HB0.out.trans (HB2.out.mono HB0.out.size)⟩
  · rw [h1, Nat.zero_add] at K
    have hj : j < x.fields.length := by have := (List.getElem?_eq_some_iff.1 h2).1; simpa using this
    have hjn : j < n := by have := hnx.out; omega
    obtain ⟨f, hf⟩ : ∃ f, x.fields[j]? = some f := ⟨_, List.getElem?_eq_getElem hj⟩
    have hid : f.id = k.field := by
      rw [List.getElem?_map, hf] at h2
      simpa using h2
    rw [fbits_at k.field x.fields j f hf hid h3]
    obtain ⟨b, oo, cs, hA, hbB, hcs, hV⟩ := rowK_at HH.out hj
    subst hA
    have hfe : x.fields[j]'hj = f := by rw [List.getElem?_eq_getElem hj] at hf; exact Option.some.inj hf
    rw [hfe] at hV
    obtain ⟨rfl, -⟩ := hV
    have HCS := Lib.hid (hcs 2 (by simp))
    have j1 : (j : Int) < (n : Int) := by omega
    have j2 : (j : Int) < (c : Int) := by omega
    have j3 : (0 : Int) ≤ (j : Int) := by omega
    have j4 : ¬ (j : Int) < 0 := by omega
    clear h1 h2 h3 hcs hf hid hfe HH
    go_enter Tryz.func127, Tryz.ntmps127
    go_upto_region 1 with fail
    rw [← HW0.out]
    clear HW0
    go_wp2_with (go_at_call 167; (with_reducible refine K.out.mono ?_); rintro en w2 ⟨rfl, hb2⟩; have HB2 := Lib.hid hb2; have g0 : w2.cell? ⟨w.heap.size, 0, none⟩ = some (.slice (some ⟨b, oo, none⟩) n c) := blk_cell ((hb2.block w.heap.size (by omega)).trans HS0.out) 0 _ rfl; have g1 : w2.cell? ⟨b, oo + j * 3 + 2, none⟩ = some (.int .i64 f.bits) := (World.cell?_of_block ((HB0.out.trans (hb2.mono HB0.out.size)).block b (by omega))).trans HCS.out; clear hb2)
    go_ret
    exact ⟨rfl, HB0.out.trans (HB2.out.mono HB0.out.size)⟩
set_option maxRecDepth 100000 in
set_option maxHeartbeats 2000000 in
theorem k_hashed (w : World) (v : Value) : Calls Tryz.prog 236 #[v] w (RetX (.int .i64 1) w) := by
  go_enter Tryz.func236, Tryz.ntmps236
  go_wp2_with fail
  go_ret
  exact ⟨rfl, Below.refl _ _⟩
set_option maxRecDepth 100000 in
set_option maxHeartbeats 2000000 in
theorem k_prefixed (w : World) (v : Value) : Calls Tryz.prog 246 #[v] w (RetX (.int .i64 2) w) := by
  go_enter Tryz.func246, Tryz.ntmps246
  go_wp2_with fail
  go_ret
  exact ⟨rfl, Below.refl _ _⟩
set_option maxRecDepth 100000 in
set_option maxHeartbeats 2000000 in
theorem k_listed (w : World) (v : Value) : Calls Tryz.prog 265 #[v] w (RetX (.int .i64 3) w) := by
  go_enter Tryz.func265, Tryz.ntmps265
  go_wp2_with fail
  go_ret
  exact ⟨rfl, Below.refl _ _⟩
end
/- ordered.New. -/
section
open Go.RowKit
/-- a schema that is not too long to be copied -/
structure SmallS (x : SchemaD) : Prop where
  f : x.fields.length ≤ 1000000
  h : x.headers.length ≤ 1000000
  st : x.states.length ≤ 1000000
  a : x.actions.length ≤ 1000000
  t : x.tables.length ≤ 1000000
  sg : x.stages.length ≤ 1000000
  r : x.roles.length ≤ 1000000
  rf : x.refs.length ≤ 1000000
  h0 : ∀ y ∈ x.headers, y.fields.length ≤ 1000000
  s0 : ∀ y ∈ x.states, y.cases.length ≤ 1000000
  a0 : ∀ y ∈ x.actions, y.params.length ≤ 1000000
  a1 : ∀ y ∈ x.actions, y.body.length ≤ 1000000
  t0 : ∀ y ∈ x.tables, y.keys.length ≤ 1000000
  t1 : ∀ y ∈ x.tables, y.actions.length ≤ 1000000
  t2 : ∀ y ∈ x.tables, y.args.length ≤ 1000000
  r0 : ∀ y ∈ x.roles, y.grants.length ≤ 1000000
  r1 : ∀ y ∈ x.roles, y.actions.length ≤ 1000000
  r2 : ∀ y ∈ x.roles, ∀ z ∈ y.grants, z.keys.length ≤ 1000000
theorem ks_schema {w : World} {B : Nat} {cs : List Value} {x : SchemaD} (h : SchemaV B w cs x) (hB : B ≤ w.heap.size) (hs : SmallS x) : Calls Tryz.prog 73 #[.agg cs.toArray] w (RetEl 10 SchemaV w x) :=
  ke_schema h hB hs.f hs.h hs.st hs.a hs.t hs.sg hs.r hs.rf hs.h0 hs.s0 hs.a0 hs.a1 hs.t0 hs.t1 hs.t2 hs.r0 hs.r1 hs.r2
set_option maxRecDepth 100000 in
set_option maxHeartbeats 4000000 in
theorem o_New {w : World} {B : Nat} {cs : List Value} {x : SchemaD} (h : SchemaV B w cs x) (hB : B ≤ w.heap.size) (hs : SmallS x) : Calls Tryz.prog 42 #[.agg cs.toArray] w fun en w' => ∃ (X : Nat) (u0 u1 u2 u3 u4 u5 u6 u7 : Value), en = .returned (.pointer (some ⟨X, 0, none⟩)) ∧ w.heap.size ≤ X ∧ w'.heap[X]? = some (.cells #[u0, u1, u2, u3, u4, u5, u6, u7, .int .i64 x.maxBatch, .int .i64 x.budget, .slice none 0 0] 158 (0, 0)) ∧ ElH SchemaV w.heap.size X w' [u0, u1, u2, u3, u4, u5, u6, u7, .int .i64 x.maxBatch, .int .i64 x.budget] x ∧ Below w.heap.size w w' := by
  have h0 := h
  obtain ⟨v0, v1, v2, v3, v4, v5, v6, v7, rfl, -⟩ := h
  obtain ⟨W0, hW0⟩ : ∃ W, W = w.alloc (.cells #[v0, v1, v2, v3, v4, v5, v6, v7, .int .i64 x.maxBatch, .int .i64 x.budget] 36) := ⟨_, rfl⟩
  have hb0 : Below w.heap.size w W0 := by rw [hW0]; exact (Below.refl _ _).alloc (Nat.le_refl _) _
  have b0 : W0.heap[w.heap.size]? = some (.cells #[v0, v1, v2, v3, v4, v5, v6, v7, .int .i64 x.maxBatch, .int .i64 x.budget] 36 (0, 0)) := by rw [hW0]; exact heap_alloc_new w _
  have K := Lib.hid (ks_schema (w := W0) (kept_schema _ _ _ _ _ (hb0.mono hB) h0) (Nat.le_trans hB hb0.size) hs)
  have e0 : W0.cell? ⟨w.heap.size, 0, none⟩ = some (v0) := blk_cell b0 0 _ rfl
  have e1 : W0.cell? ⟨w.heap.size, 1, none⟩ = some (v1) := blk_cell b0 1 _ rfl
  have e2 : W0.cell? ⟨w.heap.size, 2, none⟩ = some (v2) := blk_cell b0 2 _ rfl
  have e3 : W0.cell? ⟨w.heap.size, 3, none⟩ = some (v3) := blk_cell b0 3 _ rfl
  have e4 : W0.cell? ⟨w.heap.size, 4, none⟩ = some (v4) := blk_cell b0 4 _ rfl
  have e5 : W0.cell? ⟨w.heap.size, 5, none⟩ = some (v5) := blk_cell b0 5 _ rfl
  have e6 : W0.cell? ⟨w.heap.size, 6, none⟩ = some (v6) := blk_cell b0 6 _ rfl
  have e7 : W0.cell? ⟨w.heap.size, 7, none⟩ = some (v7) := blk_cell b0 7 _ rfl
  have e8 : W0.cell? ⟨w.heap.size, 8, none⟩ = some (.int .i64 x.maxBatch) := blk_cell b0 8 _ rfl
  have e9 : W0.cell? ⟨w.heap.size, 9, none⟩ = some (.int .i64 x.budget) := blk_cell b0 9 _ rfl
  have HW0 := Lib.hid hW0
  have HB0 := Lib.hid hb0
  clear hW0 hb0 b0 h0
  go_enter Tryz.func42, Tryz.ntmps42
  go_upto_region 1 with fail
  rw [← HW0.out]
  clear HW0
  go_wp2_with (go_at_call 73; (with_reducible refine K.out.mono ?_); rintro en w2 ⟨cs', rfl, hcl, hel, hb2⟩; obtain ⟨u0, u1, u2, u3, u4, u5, u6, u7, rfl, -⟩ := hel w2 w2.heap.size (.refl (Nat.le_refl _)) (Nat.le_refl _); have HEL := Lib.hid hel; have HB2 := Lib.hid hb2; clear hel hb2)
  go_ret
  have hg : w2.grownBy (w2.alloc (.cells #[u0, u1, u2, u3, u4, u5, u6, u7, .int .i64 x.maxBatch, .int .i64 x.budget, .slice none 0 0] 158)) none := grown_alloc w2 _ none
  exact ⟨w2.heap.size, u0, u1, u2, u3, u4, u5, u6, u7, rfl, Nat.le_trans HB0.out.size HB2.out.size, heap_alloc_new w2 _, HEL.out.stay hg (Nat.le_refl _) (fun k e => by cases e) HB0.out.size (Nat.le_refl _), (HB0.out.trans (HB2.out.mono HB0.out.size)).alloc (Nat.le_trans HB0.out.size HB2.out.size) _⟩
end
/- A drawn region whose operations only read, or make memory of their own. -/
section
open Go.RowKit
/-- operation i's value, once it is listed, is as F says, in the world as it is by then -/
structure GrowJ (N : Nat) (slot : Nat → Nat) (F : Nat → World → Value → Prop) (W0 : World) (listed : Array Bool) (w : World) (v : Nat → Value) : Prop where
  size : listed.size = N
  gr : Below W0.heap.size W0 w
  f : ∀ i, i < N → listed.getD i false = true → F i w (v (slot i))
/-- what F says stays while memory grows -/
def StayF (N : Nat) (F : Nat → World → Value → Prop) : Prop := ∀ j, j < N → ∀ w w' u, Below w.heap.size w w' → F j w u → F j w' u
def SlotI (N : Nat) (slot : Nat → Nat) : Prop := ∀ i, i < N → ∀ j, j < N → slot i = slot j → i = j
theorem GrowJ.start {N : Nat} {slot : Nat → Nat} {F : Nat → World → Value → Prop} {W0 : World} {v : Nat → Value} : GrowJ N slot F W0 (Array.replicate N false) W0.drew v :=
  ⟨by simp, Below.drew (Below.refl _ _), fun i hi h => by rw [Array.getD_eq_getD_getElem?, Array.getElem?_replicate] at h; rw [if_pos hi] at h; cases h⟩
theorem GrowJ.step {N : Nat} {slot : Nat → Nat} {F : Nat → World → Value → Prop} {W0 w w' : World} {listed : Array Bool} {v : Nat → Value} (h : GrowJ N slot F W0 listed w v) (hst : StayF N F) (hs : SlotI N slot) {i : Nat} (hi : i < N) (hb : Below w.heap.size w w') {u : Value} (hF : F i w' u) : GrowJ N slot F W0 (listed.setIfInBounds i true) w' (updv v (slot i) u) := by
  refine ⟨by rw [Array.size_setIfInBounds, h.size], h.gr.trans (hb.mono h.gr.size), fun j hj hl => ?_⟩
  by_cases e : j = i
  · subst e
    rw [updv, if_pos rfl]
    exact hF
  · rw [updv, if_neg (fun e2 => e (hs j hj i hi e2))]
    refine hst j hj _ _ _ hb (h.f j hj ?_)
    rw [Array.getD_eq_getD_getElem?, Array.getElem?_setIfInBounds_ne (by omega)] at hl
    rw [Array.getD_eq_getD_getElem?]
    exact hl
theorem ready_allG {md : Region.Mode} {ops : Array Oper} {listed : Array Bool} (hchk : (List.range ops.size).all (fun i => ((ops[i]?).map fun o => o.after.all fun e => !Region.binds md e || decide (e.on < i)).getD true) = true)
    (hls : listed.size = ops.size) (hr : Region.ready md ops listed = []) : ∀ i, i < ops.size → listed.getD i false = true := by
  intro i
  induction i using Nat.strongRecOn with
  | ind i ih =>
    intro hi
    cases hl : listed.getD i true with
    | true =>
      rw [Array.getD_eq_getD_getElem?] at hl ⊢
      rw [Array.getElem?_eq_getElem (by omega)] at hl ⊢
      exact hl
    | false =>
      exfalso
      have hmem : i ∈ Region.ready md ops listed := by
        unfold Region.ready
        refine List.mem_filter.2 ⟨List.mem_range.2 hi, ?_⟩
        rw [Bool.and_eq_true]
        refine ⟨by rw [hl]; rfl, ?_⟩
        rw [Array.getElem?_eq_getElem hi]
        simp only [Option.map_some, Option.getD_some, Array.all_eq_true']
        intro e he
        have h1 := List.all_eq_true.1 hchk i (List.mem_range.2 hi)
        rw [Array.getElem?_eq_getElem hi] at h1
        simp only [Option.map_some, Option.getD_some, Array.all_eq_true'] at h1
        have h2 := h1 e he
        cases hb : Region.binds md e
        · simp
        · rw [hb] at h2
          have h3 : e.on < i := by simpa using h2
          rw [ih e.on h3 (by omega)]
          simp
      rw [hr] at hmem
      cases hmem
end
/- index.newFinder: a finder of each kind, without entries (written by gen/kfdr.py). -/
section
open Go.RowKit
/-- a finder by prefixes, without tries -/
def PreX (w : World) (lo n : Nat) (j b : Int) (X M : Nat) : Prop := lo ≤ X ∧ lo ≤ M ∧ M ≠ X ∧ w.heap[X]? = some (.cells #[.int .i64 (n : Int), .int .i64 j, .int .i64 b, .map (some M)] 214 (0, 0)) ∧ w.heap[M]? = some (.map #[] 0)
theorem PreX.below {w w' : World} {lo n X M : Nat} {j b : Int} (h : PreX w lo n j b X M) (hb : Below w.heap.size w w') : PreX w' lo n j b X M :=
  ⟨h.1, h.2.1, h.2.2.1, (hb.block X (Array.getElem?_eq_some_iff.1 h.2.2.2.1).1).trans h.2.2.2.1, (hb.block M (Array.getElem?_eq_some_iff.1 h.2.2.2.2).1).trans h.2.2.2.2⟩
/-- a finder by points, without any -/
def HasX (w : World) (lo n X E : Nat) : Prop := lo ≤ X ∧ lo ≤ E ∧ E ≠ X ∧ w.heap[X]? = some (.cells #[.int .i64 (n : Int), .pointer (some ⟨E, 0, none⟩)] 208 (0, 0)) ∧ ∀ f, IdxAt w E none 0 [] f
/-- a finder by a list, without entries -/
def LisX (w : World) (lo : Nat) (x : SchemaD) (X L : Nat) : Prop := lo ≤ X ∧ lo ≤ L ∧ L < X ∧ w.heap[X]? = some (.cells #[.pointer (some ⟨L, 0, none⟩)] 217 (0, 0)) ∧ ∃ u0 u1 u2 u3 u4 u5 u6 u7, w.heap[L]? = some (.cells #[u0, u1, u2, u3, u4, u5, u6, u7, .int .i64 x.maxBatch, .int .i64 x.budget, .slice none 0 0] 158 (0, 0)) ∧ ElH SchemaV lo L w [u0, u1, u2, u3, u4, u5, u6, u7, .int .i64 x.maxBatch, .int .i64 x.budget] x
/-- a finder without entries, of the kind that its keys ask -/
def FinAt (w : World) (lo : Nat) (x : SchemaD) (xs : List KeyD) (v : Value) : Prop :=
  (othK xs = [] ∧ ∃ X E, v = .iface 204 (.pointer (some ⟨X, 0, none⟩)) ∧ HasX w lo xs.length X E)
  ∨ (∃ y, othK xs = [y] ∧ y.kind = 2 ∧ ∃ X M j, v = .iface 209 (.pointer (some ⟨X, 0, none⟩)) ∧ KeyAt xs y j ∧ PreX w lo xs.length j (fbits x.fields y.field) X M)
  ∨ (¬ othK xs = [] ∧ (∀ y, othK xs = [y] → y.kind ≠ 2) ∧ ∃ X L, v = .iface 215 (.pointer (some ⟨X, 0, none⟩)) ∧ LisX w lo x X L)
def RetFin (w : World) (x : SchemaD) (xs : List KeyD) (en : Ending) (w' : World) : Prop := ∃ v, en = .returned v ∧ FinAt w' w.heap.size x xs v ∧ Below w.heap.size w w'
def slFdr : Nat → Nat := fun i => [30, 31, 32, 33, 34, 35, 36, 37, 38, 39, 40, 41, 42, 43, 44, 45, 4].getD i 0
def slFdrL : List Nat := [30, 31, 32, 33, 34, 35, 36, 37, 38, 39, 40, 41, 42, 43, 44, 45, 4]
def FFdr (s0 s1 s2 s3 s4 s5 s6 s7 : Value) (x : SchemaD) (xs : List KeyD) (y : KeyD) (A : Option Addr) (lo n c g c2 : Nat) : Nat → World → Value → Prop := fun i w u => match i with
  | 0 => u = .slice A n c
  | 1 => u = .int .i64 (n : Int)
  | 2 => u = .slice A n c
  | 3 => u = .slice (some ⟨g, 0, none⟩) 1 c2
  | 4 => u = .pointer (some ⟨g, 0, none⟩)
  | 5 => u = .agg #[.string (strL y.name), .int .i64 y.field, .int .i64 y.kind]
  | 6 => ∃ j : Int, u = .int .i64 j ∧ KeyAt xs y j
  | 7 => u = .agg #[s0, s1, s2, s3, s4, s5, s6, s7, .int .i64 x.maxBatch, .int .i64 x.budget]
  | 8 => u = .slice (some ⟨g, 0, none⟩) 1 c2
  | 9 => u = .pointer (some ⟨g, 0, none⟩)
  | 10 => u = .agg #[.string (strL y.name), .int .i64 y.field, .int .i64 y.kind]
  | 11 => u = .int .i64 (fbits x.fields y.field)
  | 12 => ∃ M : Nat, u = .map (some M) ∧ lo ≤ M ∧ M < w.heap.size ∧ w.heap[M]? = some (.map #[] 0)
  | 13 => ∃ (j : Int) (M : Nat), u = .agg #[.int .i64 (n : Int), .int .i64 j, .int .i64 (fbits x.fields y.field), .map (some M)] ∧ KeyAt xs y j ∧ lo ≤ M ∧ M < w.heap.size ∧ w.heap[M]? = some (.map #[] 0)
  | 14 => ∃ (X M : Nat) (j : Int), u = .pointer (some ⟨X, 0, none⟩) ∧ KeyAt xs y j ∧ PreX w lo n j (fbits x.fields y.field) X M
  | 15 => ∃ (X M : Nat) (j : Int), u = .iface 209 (.pointer (some ⟨X, 0, none⟩)) ∧ KeyAt xs y j ∧ PreX w lo n j (fbits x.fields y.field) X M
  | 16 => ∃ (X M : Nat) (j : Int), u = .iface 209 (.pointer (some ⟨X, 0, none⟩)) ∧ KeyAt xs y j ∧ PreX w lo n j (fbits x.fields y.field) X M
  | _ => True
theorem slFdr_inj : SlotI 17 slFdr := by unfold SlotI slFdr; decide
theorem FFdr_stay (s0 s1 s2 s3 s4 s5 s6 s7 : Value) (x : SchemaD) (xs : List KeyD) (y : KeyD) (A : Option Addr) (lo n c g c2 : Nat) : StayF 17 (FFdr s0 s1 s2 s3 s4 s5 s6 s7 x xs y A lo n c g c2) := by
  intro j hj w w' u hb h
  match j, hj with
  | 0, _ => exact h
  | 1, _ => exact h
  | 2, _ => exact h
  | 3, _ => exact h
  | 4, _ => exact h
  | 5, _ => exact h
  | 6, _ => exact h
  | 7, _ => exact h
  | 8, _ => exact h
  | 9, _ => exact h
  | 10, _ => exact h
  | 11, _ => exact h
  | 12, _ =>
    obtain ⟨M, e, h1, h2, h3⟩ := h
    exact ⟨M, e, h1, Nat.lt_of_lt_of_le h2 hb.size, (hb.block M h2).trans h3⟩
  | 13, _ =>
    obtain ⟨j, M, e, h0, h1, h2, h3⟩ := h
    exact ⟨j, M, e, h0, h1, Nat.lt_of_lt_of_le h2 hb.size, (hb.block M h2).trans h3⟩
  | 14, _ =>
    obtain ⟨X, M, j, e, h0, h1⟩ := h
    exact ⟨X, M, j, e, h0, h1.below hb⟩
  | 15, _ =>
    obtain ⟨X, M, j, e, h0, h1⟩ := h
    exact ⟨X, M, j, e, h0, h1.below hb⟩
  | 16, _ =>
    obtain ⟨X, M, j, e, h0, h1⟩ := h
    exact ⟨X, M, j, e, h0, h1.below hb⟩
  | k + 17, h => exact absurd h (by omega)
set_option maxRecDepth 100000 in
set_option maxHeartbeats 4000000 in
theorem i_newFinder {w : World} {B : Nat} {s0 s1 s2 s3 s4 s5 s6 s7 : Value} {x : SchemaD} (h : SchemaV B w [s0, s1, s2, s3, s4, s5, s6, s7, .int .i64 x.maxBatch, .int .i64 x.budget] x) (hm : SchM w B s0 s1 s2 s3 s4 s5 s6 s7 x) (hB : B ≤ w.heap.size) (hs : SmallS x) {kv : Value} {xs : List KeyD} (hk : RowV 3 KeyV B w kv xs) (hkn : xs.length ≤ 1000000) : Calls Tryz.prog 74 #[.agg #[s0, s1, s2, s3, s4, s5, s6, s7, .int .i64 x.maxBatch, .int .i64 x.budget], kv] w (RetFin w x xs) := by
  obtain ⟨A, n, c, rfl, hnx, hnc, hcm⟩ := hk.parts
  obtain ⟨W0, hW0⟩ : ∃ W, W = w.alloc (.cells #[s0, s1, s2, s3, s4, s5, s6, s7, .int .i64 x.maxBatch, .int .i64 x.budget] 36) := ⟨_, rfl⟩
  have hb0 : Below w.heap.size w W0 := by rw [hW0]; exact (Below.refl _ _).alloc (Nat.le_refl _) _
  have b0 : W0.heap[w.heap.size]? = some (.cells #[s0, s1, s2, s3, s4, s5, s6, s7, .int .i64 x.maxBatch, .int .i64 x.budget] 36 (0, 0)) := by rw [hW0]; exact heap_alloc_new w _
  have hz0 : w.heap.size < W0.heap.size := by rw [hW0]; simp
  have HTX : Hid (∀ k ∈ xs, Txt k.name ∧ I64 k.field ∧ I64 k.kind) := Lib.hid fun k hk' => by
    obtain ⟨cs, hP⟩ := mem_okK hk k hk'
    exact hP.2
  have hk0 : RowV 3 KeyV B W0 (.slice A n c) xs := hk.below kept_key (hb0.mono hB)
  have K1 := Lib.hid (ko_key hk0 (Nat.le_trans hB hb0.size) hkn)
  have HS := Lib.hid (kept_schema _ _ _ _ _ (hb0.mono hB) h)
  have HM := Lib.hid (hm.below (hb0.mono hB))
  have HKR := Lib.hid hk0
  have HW0 := Lib.hid hW0
  have HB0 := Lib.hid hb0
  have B0 := Lib.hid b0
  have HNX := Lib.hid hnx
  have HSM := Lib.hid hs
  clear h hm hs hk hk0 hW0 hb0 b0 hnx
  go_enter Tryz.func74, Tryz.ntmps74
  go_upto_region 1 with fail
  rw [← HW0.out]
  clear HW0
  go_upto_region 2 with (first
    | (go_at_call 123; (with_reducible refine K1.out.mono ?_); rintro en w2 ⟨A1, n1, c1, rfl, ho2, hn2, hb2⟩; have HO2 := Lib.hid ho2; have HN2 := Lib.hid hn2; have HB2 := Lib.hid hb2; clear ho2 hn2 hb2)
    | (go_at_call 122; (with_reducible refine (kd_key (base := W0.heap.size) HO2.out HN2.out HB2.out.size HTX.out).mono ?_); rintro en w3 ⟨A2, n2, c2, rfl, ho3, hn3, hb3⟩; have HO3 := Lib.hid ho3; have HN3 := Lib.hid hn3; have HB3 := Lib.hid (Below.trans HB2.out hb3); clear ho3 hn3 hb3))
  have hs3 := HB3.out.size
  have hbx := (HB3.out.block w.heap.size hz0).trans B0.out
  cases hoth : othK xs with
  | nil =>
    have hn3 := HN3.out
    rw [hoth] at hn3
    obtain rfl : n2 = 0 := hn3
    have HBX := Lib.hid hbx
    clear hbx
    go_wp2_with (go_at_call 125; (with_reducible refine (qx_New _).mono ?_); rintro en w4 ⟨rfl, hb4, hI4⟩; have HB4 := Lib.hid hb4; have HI4 := Lib.hid hI4; clear hb4 hI4)
    go_ret
    have hb4 := HB4.out
    have hl4 := (HI4.out (fun _ => 0)).lt
    refine ⟨_, rfl, .inl ⟨hoth, w4.heap.size, w3.heap.size, rfl, by omega, by omega, by omega, by rw [← HNX.out]; exact heap_alloc_new _ _, fun f => (HI4.out f).below ((Below.refl _ _).alloc (Nat.le_refl _) _)⟩, ?_⟩
    exact (HB0.out.trans ((HB3.out.trans (hb4.mono HB3.out.size)).mono HB0.out.size)).alloc (by omega) _
  | cons y r =>
    cases r with
    | cons y2 r2 =>
      have hn3 := HN3.out
      rw [hoth] at hn3
      have h20 : ¬ ((n2 : Int) = 0) := by simp at hn3; omega
      have h21 : ¬ ((n2 : Int) = 1) := by simp at hn3; omega
      have HQ : Hid (∀ y, othK xs = [y] → y.kind ≠ 2) := Lib.hid fun y e => by rw [hoth] at e; simp at e
      clear hn3
      have e0 : w3.cell? ⟨w.heap.size, 0, none⟩ = some (s0) := blk_cell hbx 0 _ rfl
      have e1 : w3.cell? ⟨w.heap.size, 1, none⟩ = some (s1) := blk_cell hbx 1 _ rfl
      have e2 : w3.cell? ⟨w.heap.size, 2, none⟩ = some (s2) := blk_cell hbx 2 _ rfl
      have e3 : w3.cell? ⟨w.heap.size, 3, none⟩ = some (s3) := blk_cell hbx 3 _ rfl
      have e4 : w3.cell? ⟨w.heap.size, 4, none⟩ = some (s4) := blk_cell hbx 4 _ rfl
      have e5 : w3.cell? ⟨w.heap.size, 5, none⟩ = some (s5) := blk_cell hbx 5 _ rfl
      have e6 : w3.cell? ⟨w.heap.size, 6, none⟩ = some (s6) := blk_cell hbx 6 _ rfl
      have e7 : w3.cell? ⟨w.heap.size, 7, none⟩ = some (s7) := blk_cell hbx 7 _ rfl
      have e8 : w3.cell? ⟨w.heap.size, 8, none⟩ = some (.int .i64 x.maxBatch) := blk_cell hbx 8 _ rfl
      have e9 : w3.cell? ⟨w.heap.size, 9, none⟩ = some (.int .i64 x.budget) := blk_cell hbx 9 _ rfl
      have KN := Lib.hid (o_New (w := w3) (kept_schema _ _ _ _ _ (HB3.out.mono (Nat.le_trans hB HB0.out.size)) HS.out) (Nat.le_trans hB (Nat.le_trans HB0.out.size hs3)) HSM.out)
      clear hbx
      go_wp2_with (go_at_call 42; (with_reducible refine KN.out.mono ?_); rintro en w4 ⟨L, u0, u1, u2, u3, u4, u5, u6, u7, rfl, hL, hLb, hLe, hb4⟩; have HB4 := Lib.hid hb4; have HLB := Lib.hid hLb; have HLE := Lib.hid hLe; clear hb4 hLb hLe)
      go_ret
      have hb4 := HB4.out
      have hLl := (Array.getElem?_eq_some_iff.1 HLB.out).1
      have hg : w4.grownBy (w4.alloc (.cells #[.pointer (some ⟨L, 0, none⟩)] 217)) none := grown_alloc w4 _ none
      refine ⟨_, rfl, .inr (.inr ⟨by rw [hoth]; simp, HQ.out, w4.heap.size, L, rfl, by omega, by omega, hLl, heap_alloc_new _ _, u0, u1, u2, u3, u4, u5, u6, u7, (hg.block L hLl (by simp)).trans HLB.out, HLE.out.stay hg (Nat.le_of_lt hLl) (fun k e => by cases e) (by omega) (Nat.le_refl _)⟩), ?_⟩
      exact (HB0.out.trans ((HB3.out.trans (hb4.mono HB3.out.size)).mono HB0.out.size)).alloc (by omega) _
    | nil =>
      have hn3 := HN3.out
      rw [hoth] at hn3
      obtain rfl : n2 = 1 := hn3
      obtain ⟨g, rfl, hg2⟩ : ∃ g, A2 = some ⟨g, 0, none⟩ ∧ g < w3.heap.size := by
        rcases HO3.out.2 with ⟨e, e2⟩ | ⟨g', cap', cur, e, hb, hg, hnc, hcm, -⟩
        · omega
        · simp only [Value.slice.injEq, true_and] at e
          exact ⟨g', e.1, (Array.getElem?_eq_some_iff.1 hg).1⟩
      have ho3 := HO3.out
      rw [hoth] at ho3
      have k0 : w3.cell? ⟨g, 0, none⟩ = some (.string (strL y.name)) := ho3.cellAt 0 (by omega)
      have k1 : w3.cell? ⟨g, 1, none⟩ = some (.int .i64 y.field) := ho3.cellAt 1 (by omega)
      have k2 : w3.cell? ⟨g, 2, none⟩ = some (.int .i64 y.kind) := ho3.cellAt 2 (by omega)
      have hc2 : (1 : Int) ≤ (c2 : Int) := by
        rcases ho3.2 with ⟨e, e2⟩ | ⟨g', cap', cur, e, hb, hg, hnc, hcm, -⟩
        · omega
        · simp only [Value.slice.injEq, true_and] at e
          obtain ⟨-, rfl⟩ := e
          omega
      have h0c : (0 : Int) < (c2 : Int) := by omega
      clear ho3
      by_cases hk2 : y.kind = 2
      · go_upto_region 5 with fail
        have HY2 := Lib.hid hk2
        have hyx : y ∈ xs := (List.mem_filter.1 (show y ∈ othK xs by rw [hoth]; exact List.mem_singleton.2 rfl)).1
        have HTY : Hid (Txt y.name) := Lib.hid (HTX.out y hyx).1
        have HKS : Hid (∀ w', Below w3.heap.size w3 w' → w'.cell? ⟨w.heap.size, 0, none⟩ = some (s0) ∧ w'.cell? ⟨w.heap.size, 1, none⟩ = some (s1) ∧ w'.cell? ⟨w.heap.size, 2, none⟩ = some (s2) ∧ w'.cell? ⟨w.heap.size, 3, none⟩ = some (s3) ∧ w'.cell? ⟨w.heap.size, 4, none⟩ = some (s4) ∧ w'.cell? ⟨w.heap.size, 5, none⟩ = some (s5) ∧ w'.cell? ⟨w.heap.size, 6, none⟩ = some (s6) ∧ w'.cell? ⟨w.heap.size, 7, none⟩ = some (s7) ∧ w'.cell? ⟨w.heap.size, 8, none⟩ = some (.int .i64 x.maxBatch) ∧ w'.cell? ⟨w.heap.size, 9, none⟩ = some (.int .i64 x.budget) ∧ w'.cell? ⟨g, 0, none⟩ = some (.string (strL y.name)) ∧ w'.cell? ⟨g, 1, none⟩ = some (.int .i64 y.field) ∧ w'.cell? ⟨g, 2, none⟩ = some (.int .i64 y.kind)) := Lib.hid fun w' hb => by
          have q := (hb.block w.heap.size (by omega)).trans hbx
          have q2 := hb.block g hg2
          exact ⟨blk_cell q 0 _ rfl, blk_cell q 1 _ rfl, blk_cell q 2 _ rfl, blk_cell q 3 _ rfl, blk_cell q 4 _ rfl, blk_cell q 5 _ rfl, blk_cell q 6 _ rfl, blk_cell q 7 _ rfl, blk_cell q 8 _ rfl, blk_cell q 9 _ rfl, (World.cell?_of_block (a := ⟨g, 0, none⟩) q2).trans k0, (World.cell?_of_block (a := ⟨g, 1, none⟩) q2).trans k1, (World.cell?_of_block (a := ⟨g, 2, none⟩) q2).trans k2⟩
        have HM3 := Lib.hid (HM.out.below (HB3.out.mono (Nat.le_trans hB HB0.out.size)))
        have HKR3 := Lib.hid (HKR.out.below kept_key (HB3.out.mono (Nat.le_trans hB HB0.out.size)))
        have HLE : Hid (B ≤ w3.heap.size) := Lib.hid (Nat.le_trans hB (Nat.le_trans HB0.out.size hs3))
        have HLO : Hid (w.heap.size ≤ w3.heap.size) := Lib.hid (Nat.le_trans HB0.out.size hs3)
        clear HM HKR hbx k0 k1 k2 hyx hk2
        refine wp_region_S slFdrL (GrowJ 17 slFdr (FFdr s0 s1 s2 s3 s4 s5 s6 s7 x xs y A w.heap.size n c g c2) w3) (by kernel_rfl) ?_ ?_ ?_ ?_
        · simp [setS, slFdrL]
        · exact GrowJ.start
        · intro listed w1 v i hJ hrd
          obtain ⟨hlt2, -⟩ := ready_subN hrd
          have hlt3 : i < 17 := hlt2
          clear hlt2
          match i, hlt3 with
          | 0, _ =>
            refine wpOp_step rfl (fun K' hK => ?_)
            simp only [setS, slFdrL, List.setIfInBounds_toArray, List.set_cons_succ, List.set_cons_zero]
            have HH := Lib.hid hK
            clear hK hrd
            go_simp
            refine HH.out _ _ ⟨updv v 30 (.slice A n c), by simp [setS, slFdrL, updv], hJ.step (FFdr_stay _ _ _ _ _ _ _ _ _ _ _ _ _ _ _ _ _) slFdr_inj (i := 0) (by decide) (Below.refl _ _) (rfl)⟩
          | 1, _ =>
            have e0 : v 30 = .slice A n c := hJ.f 0 (by decide) (ready_depN hrd rfl (e := ⟨0, .data⟩) (by simp) rfl)
            refine wpOp_step rfl (fun K' hK => ?_)
            simp only [setS, slFdrL, List.setIfInBounds_toArray, List.set_cons_succ, List.set_cons_zero]
            have HH := Lib.hid hK
            rw [e0]
            clear hK hrd
            go_simp
            refine HH.out _ _ ⟨updv v 31 (.int .i64 (n : Int)), by simp [setS, slFdrL, updv, e0], hJ.step (FFdr_stay _ _ _ _ _ _ _ _ _ _ _ _ _ _ _ _ _) slFdr_inj (i := 1) (by decide) (Below.refl _ _) (rfl)⟩
          | 2, _ =>
            refine wpOp_step rfl (fun K' hK => ?_)
            simp only [setS, slFdrL, List.setIfInBounds_toArray, List.set_cons_succ, List.set_cons_zero]
            have HH := Lib.hid hK
            clear hK hrd
            go_simp
            refine HH.out _ _ ⟨updv v 32 (.slice A n c), by simp [setS, slFdrL, updv], hJ.step (FFdr_stay _ _ _ _ _ _ _ _ _ _ _ _ _ _ _ _ _) slFdr_inj (i := 2) (by decide) (Below.refl _ _) (rfl)⟩
          | 3, _ =>
            refine wpOp_step rfl (fun K' hK => ?_)
            simp only [setS, slFdrL, List.setIfInBounds_toArray, List.set_cons_succ, List.set_cons_zero]
            have HH := Lib.hid hK
            clear hK hrd
            go_simp
            refine HH.out _ _ ⟨updv v 33 (.slice (some ⟨g, 0, none⟩) 1 c2), by simp [setS, slFdrL, updv], hJ.step (FFdr_stay _ _ _ _ _ _ _ _ _ _ _ _ _ _ _ _ _) slFdr_inj (i := 3) (by decide) (Below.refl _ _) (rfl)⟩
          | 4, _ =>
            have e3 : v 33 = .slice (some ⟨g, 0, none⟩) 1 c2 := hJ.f 3 (by decide) (ready_depN hrd rfl (e := ⟨3, .data⟩) (by simp) rfl)
            refine wpOp_step rfl (fun K' hK => ?_)
            simp only [setS, slFdrL, List.setIfInBounds_toArray, List.set_cons_succ, List.set_cons_zero]
            have HH := Lib.hid hK
            rw [e3]
            clear hK hrd
            go_simp
            refine HH.out _ _ ⟨updv v 34 (.pointer (some ⟨g, 0, none⟩)), by simp [setS, slFdrL, updv, e3], hJ.step (FFdr_stay _ _ _ _ _ _ _ _ _ _ _ _ _ _ _ _ _) slFdr_inj (i := 4) (by decide) (Below.refl _ _) (rfl)⟩
          | 5, _ =>
            have e4 : v 34 = .pointer (some ⟨g, 0, none⟩) := hJ.f 4 (by decide) (ready_depN hrd rfl (e := ⟨4, .data⟩) (by simp) rfl)
            obtain ⟨q0, q1, q2, q3, q4, q5, q6, q7, q8, q9, p0, p1, p2⟩ := HKS.out w1 hJ.gr
            refine wpOp_step rfl (fun K' hK => ?_)
            simp only [setS, slFdrL, List.setIfInBounds_toArray, List.set_cons_succ, List.set_cons_zero]
            have HH := Lib.hid hK
            rw [e4]
            clear hK hrd
            go_simp
            refine HH.out _ _ ⟨updv v 35 (.agg #[.string (strL y.name), .int .i64 y.field, .int .i64 y.kind]), by simp [setS, slFdrL, updv, e4], hJ.step (FFdr_stay _ _ _ _ _ _ _ _ _ _ _ _ _ _ _ _ _) slFdr_inj (i := 5) (by decide) (Below.refl _ _) (rfl)⟩
          | 6, _ =>
            have e2 : v 32 = .slice A n c := hJ.f 2 (by decide) (ready_depN hrd rfl (e := ⟨2, .data⟩) (by simp) rfl)
            have e5 : v 35 = .agg #[.string (strL y.name), .int .i64 y.field, .int .i64 y.kind] := hJ.f 5 (by decide) (ready_depN hrd rfl (e := ⟨5, .data⟩) (by simp) rfl)
            refine wpOp_step rfl (fun K' hK => ?_)
            simp only [setS, slFdrL, List.setIfInBounds_toArray, List.set_cons_succ, List.set_cons_zero]
            have HH := Lib.hid hK
            rw [e2, e5]
            clear hK hrd
            go_simp
            go_at_call 126
            with_reducible refine (kp_key (HKR3.out.below kept_key (hJ.gr.mono HLE.out)) (Nat.le_trans HLE.out hJ.gr.size) y HTY.out).mono ?_
            rintro en w2 ⟨j, rfl, hja, hb2⟩
            go_simp
            refine HH.out _ _ ⟨updv v 36 (.int .i64 j), by simp [setS, slFdrL, updv, e2, e5], hJ.step (FFdr_stay _ _ _ _ _ _ _ _ _ _ _ _ _ _ _ _ _) slFdr_inj (i := 6) (by decide) (hb2) (⟨j, rfl, hja⟩)⟩
          | 7, _ =>
            obtain ⟨q0, q1, q2, q3, q4, q5, q6, q7, q8, q9, p0, p1, p2⟩ := HKS.out w1 hJ.gr
            refine wpOp_step rfl (fun K' hK => ?_)
            simp only [setS, slFdrL, List.setIfInBounds_toArray, List.set_cons_succ, List.set_cons_zero]
            have HH := Lib.hid hK
            clear hK hrd
            go_simp
            refine HH.out _ _ ⟨updv v 37 (.agg #[s0, s1, s2, s3, s4, s5, s6, s7, .int .i64 x.maxBatch, .int .i64 x.budget]), by simp [setS, slFdrL, updv], hJ.step (FFdr_stay _ _ _ _ _ _ _ _ _ _ _ _ _ _ _ _ _) slFdr_inj (i := 7) (by decide) (Below.refl _ _) (rfl)⟩
          | 8, _ =>
            refine wpOp_step rfl (fun K' hK => ?_)
            simp only [setS, slFdrL, List.setIfInBounds_toArray, List.set_cons_succ, List.set_cons_zero]
            have HH := Lib.hid hK
            clear hK hrd
            go_simp
            refine HH.out _ _ ⟨updv v 38 (.slice (some ⟨g, 0, none⟩) 1 c2), by simp [setS, slFdrL, updv], hJ.step (FFdr_stay _ _ _ _ _ _ _ _ _ _ _ _ _ _ _ _ _) slFdr_inj (i := 8) (by decide) (Below.refl _ _) (rfl)⟩
          | 9, _ =>
            have e8 : v 38 = .slice (some ⟨g, 0, none⟩) 1 c2 := hJ.f 8 (by decide) (ready_depN hrd rfl (e := ⟨8, .data⟩) (by simp) rfl)
            refine wpOp_step rfl (fun K' hK => ?_)
            simp only [setS, slFdrL, List.setIfInBounds_toArray, List.set_cons_succ, List.set_cons_zero]
            have HH := Lib.hid hK
            rw [e8]
            clear hK hrd
            go_simp
            refine HH.out _ _ ⟨updv v 39 (.pointer (some ⟨g, 0, none⟩)), by simp [setS, slFdrL, updv, e8], hJ.step (FFdr_stay _ _ _ _ _ _ _ _ _ _ _ _ _ _ _ _ _) slFdr_inj (i := 9) (by decide) (Below.refl _ _) (rfl)⟩
          | 10, _ =>
            have e9 : v 39 = .pointer (some ⟨g, 0, none⟩) := hJ.f 9 (by decide) (ready_depN hrd rfl (e := ⟨9, .data⟩) (by simp) rfl)
            obtain ⟨q0, q1, q2, q3, q4, q5, q6, q7, q8, q9, p0, p1, p2⟩ := HKS.out w1 hJ.gr
            refine wpOp_step rfl (fun K' hK => ?_)
            simp only [setS, slFdrL, List.setIfInBounds_toArray, List.set_cons_succ, List.set_cons_zero]
            have HH := Lib.hid hK
            rw [e9]
            clear hK hrd
            go_simp
            refine HH.out _ _ ⟨updv v 40 (.agg #[.string (strL y.name), .int .i64 y.field, .int .i64 y.kind]), by simp [setS, slFdrL, updv, e9], hJ.step (FFdr_stay _ _ _ _ _ _ _ _ _ _ _ _ _ _ _ _ _) slFdr_inj (i := 10) (by decide) (Below.refl _ _) (rfl)⟩
          | 11, _ =>
            have e7 : v 37 = .agg #[s0, s1, s2, s3, s4, s5, s6, s7, .int .i64 x.maxBatch, .int .i64 x.budget] := hJ.f 7 (by decide) (ready_depN hrd rfl (e := ⟨7, .data⟩) (by simp) rfl)
            have e10 : v 40 = .agg #[.string (strL y.name), .int .i64 y.field, .int .i64 y.kind] := hJ.f 10 (by decide) (ready_depN hrd rfl (e := ⟨10, .data⟩) (by simp) rfl)
            refine wpOp_step rfl (fun K' hK => ?_)
            simp only [setS, slFdrL, List.setIfInBounds_toArray, List.set_cons_succ, List.set_cons_zero]
            have HH := Lib.hid hK
            rw [e7, e10]
            clear hK hrd
            go_simp
            go_at_call 127
            with_reducible refine (x_bitsOf (HM3.out.below (hJ.gr.mono HLE.out)) (Nat.le_trans HLE.out hJ.gr.size) _ _ y).mono ?_
            rintro en w2 ⟨rfl, hb2⟩
            go_simp
            refine HH.out _ _ ⟨updv v 41 (.int .i64 (fbits x.fields y.field)), by simp [setS, slFdrL, updv, e7, e10], hJ.step (FFdr_stay _ _ _ _ _ _ _ _ _ _ _ _ _ _ _ _ _) slFdr_inj (i := 11) (by decide) (hb2) (rfl)⟩
          | 12, _ =>
            refine wpOp_step rfl (fun K' hK => ?_)
            simp only [setS, slFdrL, List.setIfInBounds_toArray, List.set_cons_succ, List.set_cons_zero]
            have HH := Lib.hid hK
            clear hK hrd
            go_simp
            refine HH.out _ _ ⟨updv v 42 (.map (some w1.heap.size)), by simp [setS, slFdrL, updv, Act.put], hJ.step (FFdr_stay _ _ _ _ _ _ _ _ _ _ _ _ _ _ _ _ _) slFdr_inj (i := 12) (by decide) ((Below.refl _ _).alloc (Nat.le_refl _) _) (⟨w1.heap.size, rfl, Nat.le_trans HLO.out hJ.gr.size, by simp, heap_alloc_new _ _⟩)⟩
          | 13, _ =>
            have e1 : v 31 = .int .i64 (n : Int) := hJ.f 1 (by decide) (ready_depN hrd rfl (e := ⟨1, .data⟩) (by simp) rfl)
            obtain ⟨j, e6, hja⟩ : ∃ j : Int, v 36 = .int .i64 j ∧ KeyAt xs y j := hJ.f 6 (by decide) (ready_depN hrd rfl (e := ⟨6, .data⟩) (by simp) rfl)
            have e11 : v 41 = .int .i64 (fbits x.fields y.field) := hJ.f 11 (by decide) (ready_depN hrd rfl (e := ⟨11, .data⟩) (by simp) rfl)
            obtain ⟨M, e12, hM1, hM2, hM3⟩ : ∃ M : Nat, v 42 = .map (some M) ∧ w.heap.size ≤ M ∧ M < w1.heap.size ∧ w1.heap[M]? = some (.map #[] 0) := hJ.f 12 (by decide) (ready_depN hrd rfl (e := ⟨12, .data⟩) (by simp) rfl)
            refine wpOp_step rfl (fun K' hK => ?_)
            simp only [setS, slFdrL, List.setIfInBounds_toArray, List.set_cons_succ, List.set_cons_zero]
            have HH := Lib.hid hK
            rw [e1, e6, e11, e12]
            clear hK hrd
            go_simp
            refine HH.out _ _ ⟨updv v 43 (.agg #[.int .i64 (n : Int), .int .i64 j, .int .i64 (fbits x.fields y.field), .map (some M)]), by simp [setS, slFdrL, updv, e1, e6, e11, e12], hJ.step (FFdr_stay _ _ _ _ _ _ _ _ _ _ _ _ _ _ _ _ _) slFdr_inj (i := 13) (by decide) (Below.refl _ _) (⟨j, M, rfl, hja, hM1, hM2, hM3⟩)⟩
          | 14, _ =>
            obtain ⟨j, M, e13, hja, hM1, hM2, hM3⟩ : ∃ (j : Int) (M : Nat), v 43 = .agg #[.int .i64 (n : Int), .int .i64 j, .int .i64 (fbits x.fields y.field), .map (some M)] ∧ KeyAt xs y j ∧ w.heap.size ≤ M ∧ M < w1.heap.size ∧ w1.heap[M]? = some (.map #[] 0) := hJ.f 13 (by decide) (ready_depN hrd rfl (e := ⟨13, .data⟩) (by simp) rfl)
            refine wpOp_step rfl (fun K' hK => ?_)
            simp only [setS, slFdrL, List.setIfInBounds_toArray, List.set_cons_succ, List.set_cons_zero]
            have HH := Lib.hid hK
            rw [e13]
            clear hK hrd
            go_simp
            refine HH.out _ _ ⟨updv v 44 (.pointer (some ⟨w1.heap.size, 0, none⟩)), by simp [setS, slFdrL, updv, e13], hJ.step (FFdr_stay _ _ _ _ _ _ _ _ _ _ _ _ _ _ _ _ _) slFdr_inj (i := 14) (by decide) ((Below.refl _ _).alloc (Nat.le_refl _) _) (⟨w1.heap.size, M, j, rfl, hja, Nat.le_trans HLO.out hJ.gr.size, hM1, by omega, heap_alloc_new _ _, by rw [heap_alloc_old _ _ hM2]; exact hM3⟩)⟩
          | 15, _ =>
            obtain ⟨X, M, j, e14, hja, hpx⟩ : ∃ (X M : Nat) (j : Int), v 44 = .pointer (some ⟨X, 0, none⟩) ∧ KeyAt xs y j ∧ PreX w1 w.heap.size n j (fbits x.fields y.field) X M := hJ.f 14 (by decide) (ready_depN hrd rfl (e := ⟨14, .data⟩) (by simp) rfl)
            refine wpOp_step rfl (fun K' hK => ?_)
            simp only [setS, slFdrL, List.setIfInBounds_toArray, List.set_cons_succ, List.set_cons_zero]
            have HH := Lib.hid hK
            rw [e14]
            clear hK hrd
            go_simp
            refine HH.out _ _ ⟨updv v 45 (.iface 209 (.pointer (some ⟨X, 0, none⟩))), by simp [setS, slFdrL, updv, e14], hJ.step (FFdr_stay _ _ _ _ _ _ _ _ _ _ _ _ _ _ _ _ _) slFdr_inj (i := 15) (by decide) (Below.refl _ _) (⟨X, M, j, rfl, hja, hpx⟩)⟩
          | 16, _ =>
            obtain ⟨X, M, j, e15, hja, hpx⟩ : ∃ (X M : Nat) (j : Int), v 45 = .iface 209 (.pointer (some ⟨X, 0, none⟩)) ∧ KeyAt xs y j ∧ PreX w1 w.heap.size n j (fbits x.fields y.field) X M := hJ.f 15 (by decide) (ready_depN hrd rfl (e := ⟨15, .data⟩) (by simp) rfl)
            refine wpOp_step rfl (fun K' hK => ?_)
            simp only [setS, slFdrL, List.setIfInBounds_toArray, List.set_cons_succ, List.set_cons_zero]
            have HH := Lib.hid hK
            rw [e15]
            clear hK hrd
            go_simp
            refine HH.out _ _ ⟨updv v 4 (.iface 209 (.pointer (some ⟨X, 0, none⟩))), by simp [setS, slFdrL, updv, e15], hJ.step (FFdr_stay _ _ _ _ _ _ _ _ _ _ _ _ _ _ _ _ _) slFdr_inj (i := 16) (by decide) (Below.refl _ _) (⟨X, M, j, rfl, hja, hpx⟩)⟩
          | k + 17, h => exact absurd h (by omega)
        · intro listed w1 v hJ hr
          have hall := ready_allG (by kernel_rfl) hJ.size hr
          obtain ⟨X, M, j, e4, hja, hpx⟩ : ∃ (X M : Nat) (j : Int), v 4 = .iface 209 (.pointer (some ⟨X, 0, none⟩)) ∧ KeyAt xs y j ∧ PreX w1 w.heap.size n j (fbits x.fields y.field) X M := hJ.f 16 (by decide) (hall 16 (by decide))
          have hgr := hJ.gr
          clear hall hr hJ
          simp only [setS, slFdrL, List.setIfInBounds_toArray, List.set_cons_succ, List.set_cons_zero]
          rw [e4]
          go_wp2_with fail
          go_ret
          refine ⟨_, rfl, .inr (.inl ⟨y, hoth, HY2.out, X, M, j, rfl, hja, ?_⟩), ?_⟩
          · rw [← HNX.out]
            exact hpx
          · exact HB0.out.trans ((HB3.out.trans (hgr.mono hs3)).mono HB0.out.size)
      · have HQ : Hid (∀ y, othK xs = [y] → y.kind ≠ 2) := Lib.hid fun y' e => by
          rw [hoth] at e
          obtain rfl := (List.cons.inj e).1
          exact hk2
        have e0 : w3.cell? ⟨w.heap.size, 0, none⟩ = some (s0) := blk_cell hbx 0 _ rfl
        have e1 : w3.cell? ⟨w.heap.size, 1, none⟩ = some (s1) := blk_cell hbx 1 _ rfl
        have e2 : w3.cell? ⟨w.heap.size, 2, none⟩ = some (s2) := blk_cell hbx 2 _ rfl
        have e3 : w3.cell? ⟨w.heap.size, 3, none⟩ = some (s3) := blk_cell hbx 3 _ rfl
        have e4 : w3.cell? ⟨w.heap.size, 4, none⟩ = some (s4) := blk_cell hbx 4 _ rfl
        have e5 : w3.cell? ⟨w.heap.size, 5, none⟩ = some (s5) := blk_cell hbx 5 _ rfl
        have e6 : w3.cell? ⟨w.heap.size, 6, none⟩ = some (s6) := blk_cell hbx 6 _ rfl
        have e7 : w3.cell? ⟨w.heap.size, 7, none⟩ = some (s7) := blk_cell hbx 7 _ rfl
        have e8 : w3.cell? ⟨w.heap.size, 8, none⟩ = some (.int .i64 x.maxBatch) := blk_cell hbx 8 _ rfl
        have e9 : w3.cell? ⟨w.heap.size, 9, none⟩ = some (.int .i64 x.budget) := blk_cell hbx 9 _ rfl
        have KN := Lib.hid (o_New (w := w3) (kept_schema _ _ _ _ _ (HB3.out.mono (Nat.le_trans hB HB0.out.size)) HS.out) (Nat.le_trans hB (Nat.le_trans HB0.out.size hs3)) HSM.out)
        clear hbx
        go_wp2_with (go_at_call 42; (with_reducible refine KN.out.mono ?_); rintro en w4 ⟨L, u0, u1, u2, u3, u4, u5, u6, u7, rfl, hL, hLb, hLe, hb4⟩; have HB4 := Lib.hid hb4; have HLB := Lib.hid hLb; have HLE := Lib.hid hLe; clear hb4 hLb hLe)
        go_ret
        have hb4 := HB4.out
        have hLl := (Array.getElem?_eq_some_iff.1 HLB.out).1
        have hg : w4.grownBy (w4.alloc (.cells #[.pointer (some ⟨L, 0, none⟩)] 217)) none := grown_alloc w4 _ none
        refine ⟨_, rfl, .inr (.inr ⟨by rw [hoth]; simp, HQ.out, w4.heap.size, L, rfl, by omega, by omega, hLl, heap_alloc_new _ _, u0, u1, u2, u3, u4, u5, u6, u7, (hg.block L hLl (by simp)).trans HLB.out, HLE.out.stay hg (Nat.le_of_lt hLl) (fun k e => by cases e) (by omega) (Nat.le_refl _)⟩), ?_⟩
        exact (HB0.out.trans ((HB3.out.trans (hb4.mono HB3.out.size)).mono HB0.out.size)).alloc (by omega) _
end
/- index.New: an index without entries (written by gen/kndx.py). -/
section
open Go.RowKit
theorem grownN_of_below {w w' : World} (h : Below w.heap.size w w') (row : Option Nat) : w.grownBy w' row := ⟨h.os, h.tape, h.output, h.size, fun k hk _ => h.block k hk⟩
theorem HasX.below {w w' : World} {lo n X E : Nat} (h : HasX w lo n X E) (hb : Below w.heap.size w w') : HasX w' lo n X E :=
  ⟨h.1, h.2.1, h.2.2.1, (hb.block X (Array.getElem?_eq_some_iff.1 h.2.2.2.1).1).trans h.2.2.2.1, fun f => (h.2.2.2.2 f).below hb⟩
theorem LisX.below {w w' : World} {lo X L : Nat} {x : SchemaD} (h : LisX w lo x X L) (hb : Below w.heap.size w w') : LisX w' lo x X L := by
  obtain ⟨h1, h2, h3, h4, u0, u1, u2, u3, u4, u5, u6, u7, h5, h6⟩ := h
  have hX := (Array.getElem?_eq_some_iff.1 h4).1
  have hL := (Array.getElem?_eq_some_iff.1 h5).1
  exact ⟨h1, h2, h3, (hb.block X hX).trans h4, u0, u1, u2, u3, u4, u5, u6, u7, (hb.block L hL).trans h5, h6.stay (grownN_of_below hb none) (Nat.le_of_lt hL) (fun k e => by cases e) (Nat.le_refl _) (Nat.le_refl _)⟩
theorem FinAt.below {w w' : World} {lo : Nat} {x : SchemaD} {xs : List KeyD} {v : Value} (h : FinAt w lo x xs v) (hb : Below w.heap.size w w') : FinAt w' lo x xs v := by
  rcases h with ⟨h, X, E, e, h1⟩ | ⟨y, h, h0, X, M, j, e, h2, h1⟩ | ⟨h, h0, X, L, e, h1⟩
  · exact .inl ⟨h, X, E, e, h1.below hb⟩
  · exact .inr (.inl ⟨y, h, h0, X, M, j, e, h2, h1.below hb⟩)
  · exact .inr (.inr ⟨h, h0, X, L, e, h1.below hb⟩)
theorem FinAt.mono {w : World} {lo l2 : Nat} {x : SchemaD} {xs : List KeyD} {v : Value} (h : FinAt w lo x xs v) (hl : l2 ≤ lo) : FinAt w l2 x xs v := by
  rcases h with ⟨h, X, E, e, h1⟩ | ⟨y, h, h0, X, M, j, e, h2, h1⟩ | ⟨h, h0, X, L, e, h1⟩
  · exact .inl ⟨h, X, E, e, by have := h1.1; omega, by have := h1.2.1; omega, h1.2.2⟩
  · exact .inr (.inl ⟨y, h, h0, X, M, j, e, h2, by have := h1.1; omega, by have := h1.2.1; omega, h1.2.2⟩)
  · obtain ⟨h4, h5, h6, h7, u0, u1, u2, u3, u4, u5, u6, u7, h8, h9⟩ := h1
    have hL := (Array.getElem?_eq_some_iff.1 h8).1
    exact .inr (.inr ⟨h, h0, X, L, e, by omega, by omega, h6, h7, u0, u1, u2, u3, u4, u5, u6, u7, h8, h9.stay (World.grownBy.refl w none) (Nat.le_of_lt hL) (fun k e => by cases e) hl (Nat.le_refl _)⟩)
theorem FinAt.form {w : World} {lo : Nat} {x : SchemaD} {xs : List KeyD} {v : Value} (h : FinAt w lo x xs v) : ∃ T X, v = .iface T (.pointer (some ⟨X, 0, none⟩)) := by
  rcases h with ⟨_, X, _, e, _⟩ | ⟨_, _, _, X, _, _, e, _⟩ | ⟨_, _, X, _, e, _⟩
  · exact ⟨_, X, e⟩
  · exact ⟨_, X, e⟩
  · exact ⟨_, X, e⟩
/-- an index without entries -/
def IdxB (w : World) (lo : Nat) (x : SchemaD) (ks : List KeyD) (cs : Array Value) (X M : Nat) (fv : Value) : Prop := lo ≤ X ∧ lo ≤ M ∧ M ≠ X ∧ w.heap[X]? = some (.cells cs 130 (0, 0)) ∧ w.heap[M]? = some (.map #[] 0) ∧ FinAt w lo x ks fv
theorem IdxB.below {w w' : World} {lo : Nat} {x : SchemaD} {ks : List KeyD} {cs : Array Value} {X M : Nat} {fv : Value} (h : IdxB w lo x ks cs X M fv) (hb : Below w.heap.size w w') : IdxB w' lo x ks cs X M fv :=
  ⟨h.1, h.2.1, h.2.2.1, (hb.block X (Array.getElem?_eq_some_iff.1 h.2.2.2.1).1).trans h.2.2.2.1, (hb.block M (Array.getElem?_eq_some_iff.1 h.2.2.2.2.1).1).trans h.2.2.2.2.1, h.2.2.2.2.2.below hb⟩
theorem IdxB.mono {w : World} {lo l2 : Nat} {x : SchemaD} {ks : List KeyD} {cs : Array Value} {X M : Nat} {fv : Value} (h : IdxB w lo x ks cs X M fv) (hl : l2 ≤ lo) : IdxB w l2 x ks cs X M fv :=
  ⟨by have := h.1; omega, by have := h.2.1; omega, h.2.2.1, h.2.2.2.1, h.2.2.2.2.1, h.2.2.2.2.2.mono hl⟩
def IdxN (w : World) (lo : Nat) (x : SchemaD) (id : Int) (ks : List KeyD) (X : Nat) : Prop := ∃ (M hi : Nat) (u0 u1 u2 u3 u4 u5 u6 u7 fv : Value), IdxB w lo x ks #[u0, u1, u2, u3, u4, u5, u6, u7, .int .i64 x.maxBatch, .int .i64 x.budget, .int .i64 id, .map (some M), fv] X M fv ∧ hi ≤ X ∧ ElH SchemaV lo hi w [u0, u1, u2, u3, u4, u5, u6, u7, .int .i64 x.maxBatch, .int .i64 x.budget] x
theorem schM_small {x : SchemaD} {B : Nat} {w : World} {v0 v1 v2 v3 v4 v5 v6 v7 : Value} (hs : SmallS x) (h : SchemaV B w [v0, v1, v2, v3, v4, v5, v6, v7, .int .i64 x.maxBatch, .int .i64 x.budget] x) : SchM w B v0 v1 v2 v3 v4 v5 v6 v7 x := by
  obtain ⟨_, _, _, _, _, _, _, _, e, h0, h1, h2, h3, h4, h5, h6, h7, -⟩ := h
  injection e with e0 e
  injection e with e1 e
  injection e with e2 e
  injection e with e3 e
  injection e with e4 e
  injection e with e5 e
  injection e with e6 e
  injection e with e7 e
  subst e0 e1 e2 e3 e4 e5 e6 e7
  exact ⟨h0, h1, h2, h3, h4, h5, h6, h7, hs.f, hs.h, hs.st, hs.a, hs.t, hs.r⟩
def RetIdx (w : World) (x : SchemaD) (id : Int) (en : Ending) (w' : World) : Prop := Below w.heap.size w w' ∧ ((en = .returned (.pointer none) ∧ id ∉ x.tables.map (fun t => t.id)) ∨ ∃ (j : Nat) (t : TableD) (X : Nat), x.tables[j]? = some t ∧ t.id = id ∧ (∀ m, m < j → (x.tables.map (fun t => t.id))[m]? ≠ some id) ∧ en = .returned (.pointer (some ⟨X, 0, none⟩)) ∧ IdxN w' w.heap.size x id t.keys X)
theorem grown_set10 {k : Nat} (w : World) (v0 v1 v2 v3 v4 v5 v6 v7 v8 v9 : Value) : w.grownBy ((((((((((w.setCell ⟨k, 0, none⟩ (v0)).setCell ⟨k, 1, none⟩ (v1)).setCell ⟨k, 2, none⟩ (v2)).setCell ⟨k, 3, none⟩ (v3)).setCell ⟨k, 4, none⟩ (v4)).setCell ⟨k, 5, none⟩ (v5)).setCell ⟨k, 6, none⟩ (v6)).setCell ⟨k, 7, none⟩ (v7)).setCell ⟨k, 8, none⟩ (v8)).setCell ⟨k, 9, none⟩ (v9)) (some k) := ((((((((((grown_set w k 0 v0).trans (grown_set _ k 1 v1)).trans (grown_set _ k 2 v2)).trans (grown_set _ k 3 v3)).trans (grown_set _ k 4 v4)).trans (grown_set _ k 5 v5)).trans (grown_set _ k 6 v6)).trans (grown_set _ k 7 v7)).trans (grown_set _ k 8 v8)).trans (grown_set _ k 9 v9))
theorem blk_set10 {w : World} {k : Nat} {a0 a1 a2 a3 a4 a5 a6 a7 a8 a9 : Value} {T : TypeId} (h : w.heap[k]? = some (.cells #[a0, a1, a2, a3, a4, a5, a6, a7, a8, a9] T (0, 0))) (v0 v1 v2 v3 v4 v5 v6 v7 v8 v9 : Value) : (((((((((((w.setCell ⟨k, 0, none⟩ (v0)).setCell ⟨k, 1, none⟩ (v1)).setCell ⟨k, 2, none⟩ (v2)).setCell ⟨k, 3, none⟩ (v3)).setCell ⟨k, 4, none⟩ (v4)).setCell ⟨k, 5, none⟩ (v5)).setCell ⟨k, 6, none⟩ (v6)).setCell ⟨k, 7, none⟩ (v7)).setCell ⟨k, 8, none⟩ (v8)).setCell ⟨k, 9, none⟩ (v9))).heap[k]? = some (.cells #[v0, v1, v2, v3, v4, v5, v6, v7, v8, v9] T (0, 0)) := by
  have h1 : ((w.setCell ⟨k, 0, none⟩ (v0))).heap[k]? = some (.cells #[v0, a1, a2, a3, a4, a5, a6, a7, a8, a9] T (0, 0)) := blk_set h 0 v0
  have h2 : (((w.setCell ⟨k, 0, none⟩ (v0)).setCell ⟨k, 1, none⟩ (v1))).heap[k]? = some (.cells #[v0, v1, a2, a3, a4, a5, a6, a7, a8, a9] T (0, 0)) := blk_set h1 1 v1
  have h3 : ((((w.setCell ⟨k, 0, none⟩ (v0)).setCell ⟨k, 1, none⟩ (v1)).setCell ⟨k, 2, none⟩ (v2))).heap[k]? = some (.cells #[v0, v1, v2, a3, a4, a5, a6, a7, a8, a9] T (0, 0)) := blk_set h2 2 v2
  have h4 : (((((w.setCell ⟨k, 0, none⟩ (v0)).setCell ⟨k, 1, none⟩ (v1)).setCell ⟨k, 2, none⟩ (v2)).setCell ⟨k, 3, none⟩ (v3))).heap[k]? = some (.cells #[v0, v1, v2, v3, a4, a5, a6, a7, a8, a9] T (0, 0)) := blk_set h3 3 v3
  have h5 : ((((((w.setCell ⟨k, 0, none⟩ (v0)).setCell ⟨k, 1, none⟩ (v1)).setCell ⟨k, 2, none⟩ (v2)).setCell ⟨k, 3, none⟩ (v3)).setCell ⟨k, 4, none⟩ (v4))).heap[k]? = some (.cells #[v0, v1, v2, v3, v4, a5, a6, a7, a8, a9] T (0, 0)) := blk_set h4 4 v4
  have h6 : (((((((w.setCell ⟨k, 0, none⟩ (v0)).setCell ⟨k, 1, none⟩ (v1)).setCell ⟨k, 2, none⟩ (v2)).setCell ⟨k, 3, none⟩ (v3)).setCell ⟨k, 4, none⟩ (v4)).setCell ⟨k, 5, none⟩ (v5))).heap[k]? = some (.cells #[v0, v1, v2, v3, v4, v5, a6, a7, a8, a9] T (0, 0)) := blk_set h5 5 v5
  have h7 : ((((((((w.setCell ⟨k, 0, none⟩ (v0)).setCell ⟨k, 1, none⟩ (v1)).setCell ⟨k, 2, none⟩ (v2)).setCell ⟨k, 3, none⟩ (v3)).setCell ⟨k, 4, none⟩ (v4)).setCell ⟨k, 5, none⟩ (v5)).setCell ⟨k, 6, none⟩ (v6))).heap[k]? = some (.cells #[v0, v1, v2, v3, v4, v5, v6, a7, a8, a9] T (0, 0)) := blk_set h6 6 v6
  have h8 : (((((((((w.setCell ⟨k, 0, none⟩ (v0)).setCell ⟨k, 1, none⟩ (v1)).setCell ⟨k, 2, none⟩ (v2)).setCell ⟨k, 3, none⟩ (v3)).setCell ⟨k, 4, none⟩ (v4)).setCell ⟨k, 5, none⟩ (v5)).setCell ⟨k, 6, none⟩ (v6)).setCell ⟨k, 7, none⟩ (v7))).heap[k]? = some (.cells #[v0, v1, v2, v3, v4, v5, v6, v7, a8, a9] T (0, 0)) := blk_set h7 7 v7
  have h9 : ((((((((((w.setCell ⟨k, 0, none⟩ (v0)).setCell ⟨k, 1, none⟩ (v1)).setCell ⟨k, 2, none⟩ (v2)).setCell ⟨k, 3, none⟩ (v3)).setCell ⟨k, 4, none⟩ (v4)).setCell ⟨k, 5, none⟩ (v5)).setCell ⟨k, 6, none⟩ (v6)).setCell ⟨k, 7, none⟩ (v7)).setCell ⟨k, 8, none⟩ (v8))).heap[k]? = some (.cells #[v0, v1, v2, v3, v4, v5, v6, v7, v8, a9] T (0, 0)) := blk_set h8 8 v8
  have h10 : (((((((((((w.setCell ⟨k, 0, none⟩ (v0)).setCell ⟨k, 1, none⟩ (v1)).setCell ⟨k, 2, none⟩ (v2)).setCell ⟨k, 3, none⟩ (v3)).setCell ⟨k, 4, none⟩ (v4)).setCell ⟨k, 5, none⟩ (v5)).setCell ⟨k, 6, none⟩ (v6)).setCell ⟨k, 7, none⟩ (v7)).setCell ⟨k, 8, none⟩ (v8)).setCell ⟨k, 9, none⟩ (v9))).heap[k]? = some (.cells #[v0, v1, v2, v3, v4, v5, v6, v7, v8, v9] T (0, 0)) := blk_set h9 9 v9
  exact h10
def slNdx : Nat → Nat := fun i => [23, 24, 25, 26, 27, 28, 29, 30, 31, 32, 33, 34, 35, 4].getD i 0
def slNdxL : List Nat := [23, 24, 25, 26, 27, 28, 29, 30, 31, 32, 33, 34, 35, 4]
def FNdx (u0 u1 u2 u3 u5 u6 u7 : Value) (x : SchemaD) (id : Int) (ks : List KeyD) (kA : Option Addr) (lo q b o j n4 c4 kn kc : Nat) : Nat → World → Value → Prop := fun i w u => match i with
  | 0 => u = .agg #[u0, u1, u2, u3, .slice (some ⟨b, o, none⟩) n4 c4, u5, u6, u7, .int .i64 x.maxBatch, .int .i64 x.budget]
  | 1 => u = .int .i64 id
  | 2 => ∃ M : Nat, u = .map (some M) ∧ lo ≤ M ∧ M < w.heap.size ∧ w.heap[M]? = some (.map #[] 0)
  | 3 => u = .agg #[u0, u1, u2, u3, .slice (some ⟨b, o, none⟩) n4 c4, u5, u6, u7, .int .i64 x.maxBatch, .int .i64 x.budget]
  | 4 => u = .pointer (some ⟨q, 4, none⟩)
  | 5 => u = .slice (some ⟨b, o, none⟩) n4 c4
  | 6 => u = .int .i64 (j : Int)
  | 7 => u = .pointer (some ⟨b, o + j * 8, none⟩)
  | 8 => u = .pointer (some ⟨b, o + j * 8 + 2, none⟩)
  | 9 => u = .slice kA kn kc
  | 10 => ∃ (fT : TypeId) (fX : Nat), u = (.iface fT (.pointer (some ⟨fX, 0, none⟩))) ∧ FinAt w lo x ks (.iface fT (.pointer (some ⟨fX, 0, none⟩)))
  | 11 => ∃ (M : Nat) (fT : TypeId) (fX : Nat), u = .agg #[u0, u1, u2, u3, .slice (some ⟨b, o, none⟩) n4 c4, u5, u6, u7, .int .i64 x.maxBatch, .int .i64 x.budget, .int .i64 id, .map (some M), (.iface fT (.pointer (some ⟨fX, 0, none⟩)))] ∧ lo ≤ M ∧ M < w.heap.size ∧ w.heap[M]? = some (.map #[] 0) ∧ FinAt w lo x ks (.iface fT (.pointer (some ⟨fX, 0, none⟩)))
  | 12 => ∃ (X M : Nat) (fT : TypeId) (fX : Nat), u = .pointer (some ⟨X, 0, none⟩) ∧ IdxB w lo x ks #[u0, u1, u2, u3, .slice (some ⟨b, o, none⟩) n4 c4, u5, u6, u7, .int .i64 x.maxBatch, .int .i64 x.budget, .int .i64 id, .map (some M), (.iface fT (.pointer (some ⟨fX, 0, none⟩)))] X M (.iface fT (.pointer (some ⟨fX, 0, none⟩)))
  | 13 => ∃ (X M : Nat) (fT : TypeId) (fX : Nat), u = .pointer (some ⟨X, 0, none⟩) ∧ IdxB w lo x ks #[u0, u1, u2, u3, .slice (some ⟨b, o, none⟩) n4 c4, u5, u6, u7, .int .i64 x.maxBatch, .int .i64 x.budget, .int .i64 id, .map (some M), (.iface fT (.pointer (some ⟨fX, 0, none⟩)))] X M (.iface fT (.pointer (some ⟨fX, 0, none⟩)))
  | _ => True
theorem slNdx_inj : SlotI 14 slNdx := by unfold SlotI slNdx; decide
theorem FNdx_stay (u0 u1 u2 u3 u5 u6 u7 : Value) (x : SchemaD) (id : Int) (ks : List KeyD) (kA : Option Addr) (lo q b o j n4 c4 kn kc : Nat) : StayF 14 (FNdx u0 u1 u2 u3 u5 u6 u7 x id ks kA lo q b o j n4 c4 kn kc) := by
  intro j hj w w' u hb h
  match j, hj with
  | 0, _ => exact h
  | 1, _ => exact h
  | 2, _ =>
    obtain ⟨M, e, h1, h2, h3⟩ := h
    exact ⟨M, e, h1, Nat.lt_of_lt_of_le h2 hb.size, (hb.block M h2).trans h3⟩
  | 3, _ => exact h
  | 4, _ => exact h
  | 5, _ => exact h
  | 6, _ => exact h
  | 7, _ => exact h
  | 8, _ => exact h
  | 9, _ => exact h
  | 10, _ =>
    obtain ⟨fT, fX, e, h1⟩ := h
    exact ⟨fT, fX, e, h1.below hb⟩
  | 11, _ =>
    obtain ⟨M, fT, fX, e, h1, h2, h3, h4⟩ := h
    exact ⟨M, fT, fX, e, h1, Nat.lt_of_lt_of_le h2 hb.size, (hb.block M h2).trans h3, h4.below hb⟩
  | 12, _ =>
    obtain ⟨X, M, fT, fX, e, h1⟩ := h
    exact ⟨X, M, fT, fX, e, h1.below hb⟩
  | 13, _ =>
    obtain ⟨X, M, fT, fX, e, h1⟩ := h
    exact ⟨X, M, fT, fX, e, h1.below hb⟩
  | k + 14, h => exact absurd h (by omega)
set_option maxRecDepth 100000 in
set_option maxHeartbeats 4000000 in
theorem i_New {w : World} {B : Nat} {s0 s1 s2 s3 s4 s5 s6 s7 : Value} {x : SchemaD} (h : SchemaV B w [s0, s1, s2, s3, s4, s5, s6, s7, .int .i64 x.maxBatch, .int .i64 x.budget] x) (hB : B ≤ w.heap.size) (hs : SmallS x) (hk4 : ∀ t ∈ x.tables, t.keys.length ≤ 4) (id : Int) : Calls Tryz.prog 17 #[.agg #[s0, s1, s2, s3, s4, s5, s6, s7, .int .i64 x.maxBatch, .int .i64 x.budget], .int .i64 id] w (RetIdx w x id) := by
  have hm := schM_small hs h
  obtain ⟨A, n, c, rfl, -⟩ := hm.t.parts
  obtain ⟨W0, hW0⟩ : ∃ W, W = w.alloc (.cells #[s0, s1, s2, s3, .slice A n c, s5, s6, s7, .int .i64 x.maxBatch, .int .i64 x.budget] 36) := ⟨_, rfl⟩
  have hb0 : Below w.heap.size w W0 := by rw [hW0]; exact (Below.refl _ _).alloc (Nat.le_refl _) _
  have b0 : W0.heap[w.heap.size]? = some (.cells #[s0, s1, s2, s3, .slice A n c, s5, s6, s7, .int .i64 x.maxBatch, .int .i64 x.budget] 36 (0, 0)) := by rw [hW0]; exact heap_alloc_new w _
  have hz0 : W0.heap.size = w.heap.size + 1 := by rw [hW0]; simp
  have K := Lib.hid (t_TableOf (w := W0) (hm.below (hb0.mono hB)) (Nat.le_trans hB hb0.size) (.int .i64 x.maxBatch) (.int .i64 x.budget) id)
  have e0 : W0.cell? ⟨w.heap.size, 0, none⟩ = some (s0) := blk_cell b0 0 _ rfl
  have e1 : W0.cell? ⟨w.heap.size, 1, none⟩ = some (s1) := blk_cell b0 1 _ rfl
  have e2 : W0.cell? ⟨w.heap.size, 2, none⟩ = some (s2) := blk_cell b0 2 _ rfl
  have e3 : W0.cell? ⟨w.heap.size, 3, none⟩ = some (s3) := blk_cell b0 3 _ rfl
  have e4 : W0.cell? ⟨w.heap.size, 4, none⟩ = some (.slice A n c) := blk_cell b0 4 _ rfl
  have e5 : W0.cell? ⟨w.heap.size, 5, none⟩ = some (s5) := blk_cell b0 5 _ rfl
  have e6 : W0.cell? ⟨w.heap.size, 6, none⟩ = some (s6) := blk_cell b0 6 _ rfl
  have e7 : W0.cell? ⟨w.heap.size, 7, none⟩ = some (s7) := blk_cell b0 7 _ rfl
  have e8 : W0.cell? ⟨w.heap.size, 8, none⟩ = some (.int .i64 x.maxBatch) := blk_cell b0 8 _ rfl
  have e9 : W0.cell? ⟨w.heap.size, 9, none⟩ = some (.int .i64 x.budget) := blk_cell b0 9 _ rfl
  have HW0 := Lib.hid hW0
  have HB0 := Lib.hid hb0
  have BB0 := Lib.hid b0
  have HH := Lib.hid h
  have HMM := Lib.hid hm
  clear hW0 hb0 b0 h hm
  rcases ixI_is id (x.tables.map (fun t => t.id)) 0 with ⟨h1, h2⟩ | ⟨j, h1, h2, h3⟩
  · rw [h1] at K
    clear h1
    go_enter Tryz.func17, Tryz.ntmps17
    go_upto_region 1 with fail
    rw [← HW0.out]
    clear HW0
    go_wp2_with (go_at_call 72; (with_reducible refine K.out.mono ?_); rintro en w2 ⟨rfl, hb2⟩; have HB2 := Lib.hid hb2; clear hb2)
    go_ret
    exact ⟨HB0.out.trans (HB2.out.mono HB0.out.size), .inl ⟨rfl, h2⟩⟩
  · rw [h1, Nat.zero_add] at K
    have hj : j < x.tables.length := by have := (List.getElem?_eq_some_iff.1 h2).1; simpa using this
    obtain ⟨t, ht⟩ : ∃ t, x.tables[j]? = some t := ⟨_, List.getElem?_eq_getElem hj⟩
    have hid : t.id = id := by
      rw [List.getElem?_map, ht] at h2
      simpa using h2
    have hte : x.tables[j]'hj = t := by rw [List.getElem?_eq_getElem hj] at ht; exact Option.some.inj ht
    have htm : t ∈ x.tables := hte ▸ List.getElem_mem hj
    have hkl := hk4 t htm
    obtain ⟨hnx, hnc, hcm⟩ := HMM.out.t.len
    obtain ⟨sb, so, cs, hA, hsbB, hcs, hV⟩ := rowK_at HMM.out.t hj
    subst hA
    rw [hte] at hV
    obtain ⟨kv, ku, kt, rfl, -, -, hkr, -⟩ := hV
    obtain ⟨lA, ln, lc, rfl, hln, hlnc, hlcm⟩ := hkr.parts
    have HCS := Lib.hid (hcs 2 (by simp))
    have j1 : (j : Int) < (n : Int) := by have := hnx.out; omega
    have j2 : (j : Int) < (c : Int) := by have := hnx.out; omega
    have j3 : (0 : Int) ≤ (j : Int) := by omega
    have j4 : ¬ (j : Int) < 0 := by omega
    have j5 : ¬ (ln : Int) > 4 := by have := hln.out; omega
    have HI := Lib.hid (And.intro ht (And.intro hid h3))
    have HKL := Lib.hid hkl
    clear h1 h2 h3 hcs ht hid hte htm hkl hkr
    go_enter Tryz.func17, Tryz.ntmps17
    go_upto_region 1 with fail
    rw [← HW0.out]
    clear HW0
    go_upto_region 4 with (go_at_call 72; (with_reducible refine K.out.mono ?_); rintro en w2 ⟨rfl, hb2⟩; have HB2 := Lib.hid hb2; have g0 : w2.cell? ⟨w.heap.size, 4, none⟩ = some (.slice (some ⟨sb, so, none⟩) n c) := blk_cell ((hb2.block w.heap.size (by omega)).trans BB0.out) 4 _ rfl; have g1 : w2.cell? ⟨sb, so + j * 8 + 2, none⟩ = some (.slice lA ln lc) := ((World.cell?_of_block ((hb2.block sb (by omega)).trans (HB0.out.block sb (by omega)))).trans HCS.out); clear hb2)
    have hb2 := HB2.out
    have hz2 := hb2.size
    have hq2 := (hb2.block w.heap.size (by omega)).trans BB0.out
    have HQ2 := Lib.hid hq2
    have HS2 := Lib.hid (kept_schema _ _ _ _ _ ((HB0.out.trans (hb2.mono HB0.out.size)).mono hB) HH.out)
    have KS := Lib.hid (ks_schema HS2.out (by omega) hs)
    have i0 : w2.cell? ⟨w.heap.size, 0, none⟩ = some (s0) := blk_cell hq2 0 _ rfl
    have i1 : w2.cell? ⟨w.heap.size, 1, none⟩ = some (s1) := blk_cell hq2 1 _ rfl
    have i2 : w2.cell? ⟨w.heap.size, 2, none⟩ = some (s2) := blk_cell hq2 2 _ rfl
    have i3 : w2.cell? ⟨w.heap.size, 3, none⟩ = some (s3) := blk_cell hq2 3 _ rfl
    have i4 : w2.cell? ⟨w.heap.size, 4, none⟩ = some (.slice (some ⟨sb, so, none⟩) n c) := blk_cell hq2 4 _ rfl
    have i5 : w2.cell? ⟨w.heap.size, 5, none⟩ = some (s5) := blk_cell hq2 5 _ rfl
    have i6 : w2.cell? ⟨w.heap.size, 6, none⟩ = some (s6) := blk_cell hq2 6 _ rfl
    have i7 : w2.cell? ⟨w.heap.size, 7, none⟩ = some (s7) := blk_cell hq2 7 _ rfl
    have i8 : w2.cell? ⟨w.heap.size, 8, none⟩ = some (.int .i64 x.maxBatch) := blk_cell hq2 8 _ rfl
    have i9 : w2.cell? ⟨w.heap.size, 9, none⟩ = some (.int .i64 x.budget) := blk_cell hq2 9 _ rfl
    clear hb2 hq2 g1
    go_upto_region 5 with (go_at_call 73; (with_reducible refine KS.out.mono ?_); rintro en w3 ⟨cs', rfl, hcl, hel, hb3⟩; obtain ⟨u0, u1, u2, u3, u4, u5, u6, u7, rfl, -⟩ := hel w3 w3.heap.size (.refl (Nat.le_refl _)) (Nat.le_refl _); have hmq := schM_small hs (hel w3 w3.heap.size (.refl (Nat.le_refl _)) (Nat.le_refl _)); obtain ⟨P0, p0, q0, rfl, -⟩ := hmq.f.parts; obtain ⟨P1, p1, q1, rfl, -⟩ := hmq.h.parts; obtain ⟨P2, p2, q2, rfl, -⟩ := hmq.st.parts; obtain ⟨P3, p3, q3, rfl, -⟩ := hmq.a.parts; obtain ⟨P4, p4, q4, rfl, -⟩ := hmq.t.parts; obtain ⟨P5, p5, q5, rfl, -⟩ := hmq.sg.parts; obtain ⟨P6, p6, q6, rfl, -⟩ := hmq.r.parts; obtain ⟨P7, p7, q7, rfl, -⟩ := hmq.rf.parts; have HEL := Lib.hid hel; have HB3 := Lib.hid hb3; have hq3 := (hb3.block w.heap.size (by omega)).trans HQ2.out; have HQ3 := Lib.hid hq3; have z0 := blk_cell hq3 0 _ rfl; have f0 := blk_froz hq3 0; have z1 := blk_cell hq3 1 _ rfl; have f1 := blk_froz hq3 1; have z2 := blk_cell hq3 2 _ rfl; have f2 := blk_froz hq3 2; have z3 := blk_cell hq3 3 _ rfl; have f3 := blk_froz hq3 3; have z4 := blk_cell hq3 4 _ rfl; have f4 := blk_froz hq3 4; have z5 := blk_cell hq3 5 _ rfl; have f5 := blk_froz hq3 5; have z6 := blk_cell hq3 6 _ rfl; have f6 := blk_froz hq3 6; have z7 := blk_cell hq3 7 _ rfl; have f7 := blk_froz hq3 7; have z8 := blk_cell hq3 8 _ rfl; have f8 := blk_froz hq3 8; have z9 := blk_cell hq3 9 _ rfl; have f9 := blk_froz hq3 9; clear hel hb3 hq3 hcl hmq)
    have hb3 := HB3.out
    have hz3 := hb3.size
    obtain ⟨W3, hW3⟩ : ∃ W, W = ((((((((((w3.setCell ⟨w.heap.size, 0, none⟩ (.slice P0 p0 q0)).setCell ⟨w.heap.size, 1, none⟩ (.slice P1 p1 q1)).setCell ⟨w.heap.size, 2, none⟩ (.slice P2 p2 q2)).setCell ⟨w.heap.size, 3, none⟩ (.slice P3 p3 q3)).setCell ⟨w.heap.size, 4, none⟩ (.slice P4 p4 q4)).setCell ⟨w.heap.size, 5, none⟩ (.slice P5 p5 q5)).setCell ⟨w.heap.size, 6, none⟩ (.slice P6 p6 q6)).setCell ⟨w.heap.size, 7, none⟩ (.slice P7 p7 q7)).setCell ⟨w.heap.size, 8, none⟩ (.int .i64 x.maxBatch)).setCell ⟨w.heap.size, 9, none⟩ (.int .i64 x.budget)) := ⟨_, rfl⟩
    have hq3 : W3.heap[w.heap.size]? = some (.cells #[.slice P0 p0 q0, .slice P1 p1 q1, .slice P2 p2 q2, .slice P3 p3 q3, .slice P4 p4 q4, .slice P5 p5 q5, .slice P6 p6 q6, .slice P7 p7 q7, .int .i64 x.maxBatch, .int .i64 x.budget] 36 (0, 0)) := by rw [hW3]; exact blk_set10 HQ3.out _ _ _ _ _ _ _ _ _ _
    have hg3 : w3.grownBy W3 (some w.heap.size) := by rw [hW3]; exact grown_set10 _ _ _ _ _ _ _ _ _ _ _
    have hs3 : W3.heap.size = w3.heap.size := by rw [hW3]; simp
    rw [← hW3]
    have HEL3 : Hid (ElH SchemaV (w.heap.size + 1) w3.heap.size W3 [.slice P0 p0 q0, .slice P1 p1 q1, .slice P2 p2 q2, .slice P3 p3 q3, .slice P4 p4 q4, .slice P5 p5 q5, .slice P6 p6 q6, .slice P7 p7 q7, .int .i64 x.maxBatch, .int .i64 x.budget] x) := Lib.hid (HEL.out.stay hg3 (Nat.le_refl _) (fun k e => by injection e with e; omega) (by omega) (Nat.le_refl _))
    have hsv := HEL3.out W3 W3.heap.size (.refl (Nat.le_of_eq hs3.symm)) (Nat.le_of_eq hs3.symm)
    have hmm := schM_small hs hsv
    have ht := HI.out.1
    have hte : x.tables[j]'hj = t := by rw [List.getElem?_eq_getElem hj] at ht; exact Option.some.inj ht
    obtain ⟨n4, c4, hn4, hc4⟩ : ∃ n4 c4, n4 = p4 ∧ c4 = q4 := ⟨_, _, rfl, rfl⟩
    subst hn4 hc4
    obtain ⟨hnx4, hnc4, hcm4⟩ := hmm.t.len
    obtain ⟨b, o, cs, hA, hbB, hcs, hV⟩ := rowK_at hmm.t hj
    subst hA
    rw [hte] at hV
    obtain ⟨kv, ku, kt, rfl, -, -, hkr, -⟩ := hV
    obtain ⟨kA, kn, kc, rfl, -⟩ := hkr.parts
    have HCS3 := Lib.hid (hcs 2 (by simp))
    have m1 : (j : Int) < (n4 : Int) := by have := hnx4.out; omega
    have m2 : (j : Int) < (c4 : Int) := by have := hnx4.out; omega
    have HSV : Hid (∀ w', Below W3.heap.size W3 w' → SchemaV W3.heap.size w' [.slice P0 p0 q0, .slice P1 p1 q1, .slice P2 p2 q2, .slice P3 p3 q3, .slice (some ⟨b, o, none⟩) n4 c4, .slice P5 p5 q5, .slice P6 p6 q6, .slice P7 p7 q7, .int .i64 x.maxBatch, .int .i64 x.budget] x) := Lib.hid fun w' hb => kept_schema _ _ _ _ _ hb hsv
    have HSMM : Hid (∀ w', Below W3.heap.size W3 w' → SchM w' W3.heap.size (.slice P0 p0 q0) (.slice P1 p1 q1) (.slice P2 p2 q2) (.slice P3 p3 q3) (.slice (some ⟨b, o, none⟩) n4 c4) (.slice P5 p5 q5) (.slice P6 p6 q6) (.slice P7 p7 q7) x) := Lib.hid fun w' hb => hmm.below hb
    have HKV : Hid (∀ w', Below W3.heap.size W3 w' → RowV 3 KeyV W3.heap.size w' (.slice kA kn kc) t.keys) := Lib.hid fun w' hb => hkr.below kept_key hb
    have HKN : Hid (t.keys.length ≤ 1000000) := Lib.hid (by have := HKL.out; omega)
    have HSS := Lib.hid hs
    have HLO : Hid (W3.heap.size ≤ W3.heap.size) := Lib.hid (Nat.le_refl _)
    have hbo := (show b < W3.heap.size from hbB)
    have HKS : Hid (∀ w', Below W3.heap.size W3 w' → w'.cell? ⟨w.heap.size, 0, none⟩ = some (.slice P0 p0 q0) ∧ w'.cell? ⟨w.heap.size, 1, none⟩ = some (.slice P1 p1 q1) ∧ w'.cell? ⟨w.heap.size, 2, none⟩ = some (.slice P2 p2 q2) ∧ w'.cell? ⟨w.heap.size, 3, none⟩ = some (.slice P3 p3 q3) ∧ w'.cell? ⟨w.heap.size, 4, none⟩ = some (.slice (some ⟨b, o, none⟩) n4 c4) ∧ w'.cell? ⟨w.heap.size, 5, none⟩ = some (.slice P5 p5 q5) ∧ w'.cell? ⟨w.heap.size, 6, none⟩ = some (.slice P6 p6 q6) ∧ w'.cell? ⟨w.heap.size, 7, none⟩ = some (.slice P7 p7 q7) ∧ w'.cell? ⟨w.heap.size, 8, none⟩ = some (.int .i64 x.maxBatch) ∧ w'.cell? ⟨w.heap.size, 9, none⟩ = some (.int .i64 x.budget) ∧ w'.cell? ⟨b, o + j * 8 + 2, none⟩ = some (.slice kA kn kc)) := Lib.hid fun w' hb => by
      have q := (hb.block w.heap.size (by omega)).trans hq3
      have q2 := hb.block b hbo
      exact ⟨blk_cell q 0 _ rfl, blk_cell q 1 _ rfl, blk_cell q 2 _ rfl, blk_cell q 3 _ rfl, blk_cell q 4 _ rfl, blk_cell q 5 _ rfl, blk_cell q 6 _ rfl, blk_cell q 7 _ rfl, blk_cell q 8 _ rfl, blk_cell q 9 _ rfl, (World.cell?_of_block (a := ⟨b, o + j * 8 + 2, none⟩) q2).trans HCS3.out⟩
    clear i0 z0 f0 i1 z1 f1 i2 z2 f2 i3 z3 f3 i4 z4 f4 i5 z5 f5 i6 z6 f6 i7 z7 f7 i8 z8 f8 i9 z9 f9 hq3 hsv hmm hcs hte ht hkr hW3 g0 HQ3
    refine wp_region_S slNdxL (GrowJ 14 slNdx (FNdx (.slice P0 p0 q0) (.slice P1 p1 q1) (.slice P2 p2 q2) (.slice P3 p3 q3) (.slice P5 p5 q5) (.slice P6 p6 q6) (.slice P7 p7 q7) x id t.keys kA W3.heap.size w.heap.size b o j n4 c4 kn kc) W3) (by kernel_rfl) ?_ ?_ ?_ ?_
    · simp [setS, slNdxL]
    · exact GrowJ.start
    · intro listed w1 v i hJ hrd
      obtain ⟨hlt2, -⟩ := ready_subN hrd
      have hlt3 : i < 14 := hlt2
      clear hlt2
      match i, hlt3 with
      | 0, _ =>
        obtain ⟨y0, y1, y2, y3, y4, y5, y6, y7, y8, y9, y10⟩ := HKS.out w1 hJ.gr
        refine wpOp_step rfl (fun K' hK => ?_)
        simp only [setS, slNdxL, List.setIfInBounds_toArray, List.set_cons_succ, List.set_cons_zero]
        have HH := Lib.hid hK
        clear hK hrd
        go_simp
        refine HH.out _ _ ⟨updv v 23 (.agg #[.slice P0 p0 q0, .slice P1 p1 q1, .slice P2 p2 q2, .slice P3 p3 q3, .slice (some ⟨b, o, none⟩) n4 c4, .slice P5 p5 q5, .slice P6 p6 q6, .slice P7 p7 q7, .int .i64 x.maxBatch, .int .i64 x.budget]), by simp [setS, slNdxL, updv], hJ.step (FNdx_stay _ _ _ _ _ _ _ _ _ _ _ _ _ _ _ _ _ _ _ _) slNdx_inj (i := 0) (by decide) (Below.refl _ _) (rfl)⟩
      | 1, _ =>
        refine wpOp_step rfl (fun K' hK => ?_)
        simp only [setS, slNdxL, List.setIfInBounds_toArray, List.set_cons_succ, List.set_cons_zero]
        have HH := Lib.hid hK
        clear hK hrd
        go_simp
        refine HH.out _ _ ⟨updv v 24 (.int .i64 id), by simp [setS, slNdxL, updv], hJ.step (FNdx_stay _ _ _ _ _ _ _ _ _ _ _ _ _ _ _ _ _ _ _ _) slNdx_inj (i := 1) (by decide) (Below.refl _ _) (rfl)⟩
      | 2, _ =>
        refine wpOp_step rfl (fun K' hK => ?_)
        simp only [setS, slNdxL, List.setIfInBounds_toArray, List.set_cons_succ, List.set_cons_zero]
        have HH := Lib.hid hK
        clear hK hrd
        go_simp
        refine HH.out _ _ ⟨updv v 25 (.map (some w1.heap.size)), by simp [setS, slNdxL, updv, Act.put], hJ.step (FNdx_stay _ _ _ _ _ _ _ _ _ _ _ _ _ _ _ _ _ _ _ _) slNdx_inj (i := 2) (by decide) ((Below.refl _ _).alloc (Nat.le_refl _) _) (⟨w1.heap.size, rfl, Nat.le_trans HLO.out hJ.gr.size, by simp, heap_alloc_new _ _⟩)⟩
      | 3, _ =>
        obtain ⟨y0, y1, y2, y3, y4, y5, y6, y7, y8, y9, y10⟩ := HKS.out w1 hJ.gr
        refine wpOp_step rfl (fun K' hK => ?_)
        simp only [setS, slNdxL, List.setIfInBounds_toArray, List.set_cons_succ, List.set_cons_zero]
        have HH := Lib.hid hK
        clear hK hrd
        go_simp
        refine HH.out _ _ ⟨updv v 26 (.agg #[.slice P0 p0 q0, .slice P1 p1 q1, .slice P2 p2 q2, .slice P3 p3 q3, .slice (some ⟨b, o, none⟩) n4 c4, .slice P5 p5 q5, .slice P6 p6 q6, .slice P7 p7 q7, .int .i64 x.maxBatch, .int .i64 x.budget]), by simp [setS, slNdxL, updv], hJ.step (FNdx_stay _ _ _ _ _ _ _ _ _ _ _ _ _ _ _ _ _ _ _ _) slNdx_inj (i := 3) (by decide) (Below.refl _ _) (rfl)⟩
      | 4, _ =>
        refine wpOp_step rfl (fun K' hK => ?_)
        simp only [setS, slNdxL, List.setIfInBounds_toArray, List.set_cons_succ, List.set_cons_zero]
        have HH := Lib.hid hK
        clear hK hrd
        go_simp
        refine HH.out _ _ ⟨updv v 27 (.pointer (some ⟨w.heap.size, 4, none⟩)), by simp [setS, slNdxL, updv], hJ.step (FNdx_stay _ _ _ _ _ _ _ _ _ _ _ _ _ _ _ _ _ _ _ _) slNdx_inj (i := 4) (by decide) (Below.refl _ _) (rfl)⟩
      | 5, _ =>
        have e4 : v 27 = .pointer (some ⟨w.heap.size, 4, none⟩) := hJ.f 4 (by decide) (ready_depN hrd rfl (e := ⟨4, .data⟩) (by simp) rfl)
        obtain ⟨y0, y1, y2, y3, y4, y5, y6, y7, y8, y9, y10⟩ := HKS.out w1 hJ.gr
        refine wpOp_step rfl (fun K' hK => ?_)
        simp only [setS, slNdxL, List.setIfInBounds_toArray, List.set_cons_succ, List.set_cons_zero]
        have HH := Lib.hid hK
        rw [e4]
        clear hK hrd
        go_simp
        refine HH.out _ _ ⟨updv v 28 (.slice (some ⟨b, o, none⟩) n4 c4), by simp [setS, slNdxL, updv, e4], hJ.step (FNdx_stay _ _ _ _ _ _ _ _ _ _ _ _ _ _ _ _ _ _ _ _) slNdx_inj (i := 5) (by decide) (Below.refl _ _) (rfl)⟩
      | 6, _ =>
        refine wpOp_step rfl (fun K' hK => ?_)
        simp only [setS, slNdxL, List.setIfInBounds_toArray, List.set_cons_succ, List.set_cons_zero]
        have HH := Lib.hid hK
        clear hK hrd
        go_simp
        refine HH.out _ _ ⟨updv v 29 (.int .i64 (j : Int)), by simp [setS, slNdxL, updv], hJ.step (FNdx_stay _ _ _ _ _ _ _ _ _ _ _ _ _ _ _ _ _ _ _ _) slNdx_inj (i := 6) (by decide) (Below.refl _ _) (rfl)⟩
      | 7, _ =>
        have e5 : v 28 = .slice (some ⟨b, o, none⟩) n4 c4 := hJ.f 5 (by decide) (ready_depN hrd rfl (e := ⟨5, .data⟩) (by simp) rfl)
        have e6 : v 29 = .int .i64 (j : Int) := hJ.f 6 (by decide) (ready_depN hrd rfl (e := ⟨6, .data⟩) (by simp) rfl)
        refine wpOp_step rfl (fun K' hK => ?_)
        simp only [setS, slNdxL, List.setIfInBounds_toArray, List.set_cons_succ, List.set_cons_zero]
        have HH := Lib.hid hK
        rw [e5, e6]
        clear hK hrd
        go_simp
        refine HH.out _ _ ⟨updv v 30 (.pointer (some ⟨b, o + j * 8, none⟩)), by simp [setS, slNdxL, updv, e5, e6], hJ.step (FNdx_stay _ _ _ _ _ _ _ _ _ _ _ _ _ _ _ _ _ _ _ _) slNdx_inj (i := 7) (by decide) (Below.refl _ _) (rfl)⟩
      | 8, _ =>
        have e7 : v 30 = .pointer (some ⟨b, o + j * 8, none⟩) := hJ.f 7 (by decide) (ready_depN hrd rfl (e := ⟨7, .data⟩) (by simp) rfl)
        refine wpOp_step rfl (fun K' hK => ?_)
        simp only [setS, slNdxL, List.setIfInBounds_toArray, List.set_cons_succ, List.set_cons_zero]
        have HH := Lib.hid hK
        rw [e7]
        clear hK hrd
        go_simp
        refine HH.out _ _ ⟨updv v 31 (.pointer (some ⟨b, o + j * 8 + 2, none⟩)), by simp [setS, slNdxL, updv, e7], hJ.step (FNdx_stay _ _ _ _ _ _ _ _ _ _ _ _ _ _ _ _ _ _ _ _) slNdx_inj (i := 8) (by decide) (Below.refl _ _) (rfl)⟩
      | 9, _ =>
        have e8 : v 31 = .pointer (some ⟨b, o + j * 8 + 2, none⟩) := hJ.f 8 (by decide) (ready_depN hrd rfl (e := ⟨8, .data⟩) (by simp) rfl)
        obtain ⟨y0, y1, y2, y3, y4, y5, y6, y7, y8, y9, y10⟩ := HKS.out w1 hJ.gr
        refine wpOp_step rfl (fun K' hK => ?_)
        simp only [setS, slNdxL, List.setIfInBounds_toArray, List.set_cons_succ, List.set_cons_zero]
        have HH := Lib.hid hK
        rw [e8]
        clear hK hrd
        go_simp
        refine HH.out _ _ ⟨updv v 32 (.slice kA kn kc), by simp [setS, slNdxL, updv, e8], hJ.step (FNdx_stay _ _ _ _ _ _ _ _ _ _ _ _ _ _ _ _ _ _ _ _) slNdx_inj (i := 9) (by decide) (Below.refl _ _) (rfl)⟩
      | 10, _ =>
        have e3 : v 26 = .agg #[.slice P0 p0 q0, .slice P1 p1 q1, .slice P2 p2 q2, .slice P3 p3 q3, .slice (some ⟨b, o, none⟩) n4 c4, .slice P5 p5 q5, .slice P6 p6 q6, .slice P7 p7 q7, .int .i64 x.maxBatch, .int .i64 x.budget] := hJ.f 3 (by decide) (ready_depN hrd rfl (e := ⟨3, .data⟩) (by simp) rfl)
        have e9 : v 32 = .slice kA kn kc := hJ.f 9 (by decide) (ready_depN hrd rfl (e := ⟨9, .data⟩) (by simp) rfl)
        refine wpOp_step rfl (fun K' hK => ?_)
        simp only [setS, slNdxL, List.setIfInBounds_toArray, List.set_cons_succ, List.set_cons_zero]
        have HH := Lib.hid hK
        rw [e3, e9]
        clear hK hrd
        go_simp
        go_at_call 74
        with_reducible refine (i_newFinder (HSV.out w1 hJ.gr) (HSMM.out w1 hJ.gr) hJ.gr.size HSS.out (HKV.out w1 hJ.gr) HKN.out).mono ?_
        rintro en w2 ⟨fv, rfl, hfi, hb2⟩
        obtain ⟨fT, fX, rfl⟩ := hfi.form
        go_simp
        refine HH.out _ _ ⟨updv v 33 ((.iface fT (.pointer (some ⟨fX, 0, none⟩)))), by simp [setS, slNdxL, updv, e3, e9], hJ.step (FNdx_stay _ _ _ _ _ _ _ _ _ _ _ _ _ _ _ _ _ _ _ _) slNdx_inj (i := 10) (by decide) (hb2) (⟨fT, fX, rfl, hfi.mono (Nat.le_trans HLO.out hJ.gr.size)⟩)⟩
      | 11, _ =>
        have e0 : v 23 = .agg #[.slice P0 p0 q0, .slice P1 p1 q1, .slice P2 p2 q2, .slice P3 p3 q3, .slice (some ⟨b, o, none⟩) n4 c4, .slice P5 p5 q5, .slice P6 p6 q6, .slice P7 p7 q7, .int .i64 x.maxBatch, .int .i64 x.budget] := hJ.f 0 (by decide) (ready_depN hrd rfl (e := ⟨0, .data⟩) (by simp) rfl)
        have e1 : v 24 = .int .i64 id := hJ.f 1 (by decide) (ready_depN hrd rfl (e := ⟨1, .data⟩) (by simp) rfl)
        obtain ⟨M, e2, hM1, hM2, hM3⟩ : ∃ M : Nat, v 25 = .map (some M) ∧ W3.heap.size ≤ M ∧ M < w1.heap.size ∧ w1.heap[M]? = some (.map #[] 0) := hJ.f 2 (by decide) (ready_depN hrd rfl (e := ⟨2, .data⟩) (by simp) rfl)
        obtain ⟨fT, fX, e10, hfi⟩ : ∃ (fT : TypeId) (fX : Nat), v 33 = (.iface fT (.pointer (some ⟨fX, 0, none⟩))) ∧ FinAt w1 W3.heap.size x t.keys (.iface fT (.pointer (some ⟨fX, 0, none⟩))) := hJ.f 10 (by decide) (ready_depN hrd rfl (e := ⟨10, .data⟩) (by simp) rfl)
        refine wpOp_step rfl (fun K' hK => ?_)
        simp only [setS, slNdxL, List.setIfInBounds_toArray, List.set_cons_succ, List.set_cons_zero]
        have HH := Lib.hid hK
        rw [e0, e1, e2, e10]
        clear hK hrd
        go_simp
        refine HH.out _ _ ⟨updv v 34 (.agg #[.slice P0 p0 q0, .slice P1 p1 q1, .slice P2 p2 q2, .slice P3 p3 q3, .slice (some ⟨b, o, none⟩) n4 c4, .slice P5 p5 q5, .slice P6 p6 q6, .slice P7 p7 q7, .int .i64 x.maxBatch, .int .i64 x.budget, .int .i64 id, .map (some M), (.iface fT (.pointer (some ⟨fX, 0, none⟩)))]), by simp [setS, slNdxL, updv, e0, e1, e2, e10], hJ.step (FNdx_stay _ _ _ _ _ _ _ _ _ _ _ _ _ _ _ _ _ _ _ _) slNdx_inj (i := 11) (by decide) (Below.refl _ _) (⟨M, fT, fX, rfl, hM1, hM2, hM3, hfi⟩)⟩
      | 12, _ =>
        obtain ⟨M, fT, fX, e11, hM1, hM2, hM3, hfi⟩ : ∃ (M : Nat) (fT : TypeId) (fX : Nat), v 34 = .agg #[.slice P0 p0 q0, .slice P1 p1 q1, .slice P2 p2 q2, .slice P3 p3 q3, .slice (some ⟨b, o, none⟩) n4 c4, .slice P5 p5 q5, .slice P6 p6 q6, .slice P7 p7 q7, .int .i64 x.maxBatch, .int .i64 x.budget, .int .i64 id, .map (some M), (.iface fT (.pointer (some ⟨fX, 0, none⟩)))] ∧ W3.heap.size ≤ M ∧ M < w1.heap.size ∧ w1.heap[M]? = some (.map #[] 0) ∧ FinAt w1 W3.heap.size x t.keys (.iface fT (.pointer (some ⟨fX, 0, none⟩))) := hJ.f 11 (by decide) (ready_depN hrd rfl (e := ⟨11, .data⟩) (by simp) rfl)
        refine wpOp_step rfl (fun K' hK => ?_)
        simp only [setS, slNdxL, List.setIfInBounds_toArray, List.set_cons_succ, List.set_cons_zero]
        have HH := Lib.hid hK
        rw [e11]
        clear hK hrd
        go_simp
        refine HH.out _ _ ⟨updv v 35 (.pointer (some ⟨w1.heap.size, 0, none⟩)), by simp [setS, slNdxL, updv, e11], hJ.step (FNdx_stay _ _ _ _ _ _ _ _ _ _ _ _ _ _ _ _ _ _ _ _) slNdx_inj (i := 12) (by decide) ((Below.refl _ _).alloc (Nat.le_refl _) _) (⟨w1.heap.size, M, fT, fX, rfl, Nat.le_trans HLO.out hJ.gr.size, hM1, by omega, heap_alloc_new _ _, by rw [heap_alloc_old _ _ hM2]; exact hM3, hfi.below ((Below.refl _ _).alloc (Nat.le_refl _) _)⟩)⟩
      | 13, _ =>
        obtain ⟨X, M, fT, fX, e12, hix⟩ : ∃ (X M : Nat) (fT : TypeId) (fX : Nat), v 35 = .pointer (some ⟨X, 0, none⟩) ∧ IdxB w1 W3.heap.size x t.keys #[.slice P0 p0 q0, .slice P1 p1 q1, .slice P2 p2 q2, .slice P3 p3 q3, .slice (some ⟨b, o, none⟩) n4 c4, .slice P5 p5 q5, .slice P6 p6 q6, .slice P7 p7 q7, .int .i64 x.maxBatch, .int .i64 x.budget, .int .i64 id, .map (some M), (.iface fT (.pointer (some ⟨fX, 0, none⟩)))] X M (.iface fT (.pointer (some ⟨fX, 0, none⟩))) := hJ.f 12 (by decide) (ready_depN hrd rfl (e := ⟨12, .data⟩) (by simp) rfl)
        refine wpOp_step rfl (fun K' hK => ?_)
        simp only [setS, slNdxL, List.setIfInBounds_toArray, List.set_cons_succ, List.set_cons_zero]
        have HH := Lib.hid hK
        rw [e12]
        clear hK hrd
        go_simp
        refine HH.out _ _ ⟨updv v 4 (.pointer (some ⟨X, 0, none⟩)), by simp [setS, slNdxL, updv, e12], hJ.step (FNdx_stay _ _ _ _ _ _ _ _ _ _ _ _ _ _ _ _ _ _ _ _) slNdx_inj (i := 13) (by decide) (Below.refl _ _) (⟨X, M, fT, fX, rfl, hix⟩)⟩
      | k + 14, h => exact absurd h (by omega)
    · intro listed w1 v hJ hr
      have hall := ready_allG (by kernel_rfl) hJ.size hr
      obtain ⟨X, M, fT, fX, e4, hix⟩ : ∃ (X M : Nat) (fT : TypeId) (fX : Nat), v 4 = .pointer (some ⟨X, 0, none⟩) ∧ IdxB w1 W3.heap.size x t.keys #[.slice P0 p0 q0, .slice P1 p1 q1, .slice P2 p2 q2, .slice P3 p3 q3, .slice (some ⟨b, o, none⟩) n4 c4, .slice P5 p5 q5, .slice P6 p6 q6, .slice P7 p7 q7, .int .i64 x.maxBatch, .int .i64 x.budget, .int .i64 id, .map (some M), (.iface fT (.pointer (some ⟨fX, 0, none⟩)))] X M (.iface fT (.pointer (some ⟨fX, 0, none⟩))) := hJ.f 13 (by decide) (hall 13 (by decide))
      have hgr := hJ.gr
      clear hall hr hJ
      simp only [setS, slNdxL, List.setIfInBounds_toArray, List.set_cons_succ, List.set_cons_zero]
      rw [e4]
      go_wp2_with fail
      go_ret
      have hlt := (Array.getElem?_eq_some_iff.1 hix.2.2.2.1).1
      refine ⟨?_, .inr ⟨j, t, X, HI.out.1, HI.out.2.1, HI.out.2.2, rfl, M, w3.heap.size, _, _, _, _, _, _, _, _, _, hix.mono (by omega), ?_, ?_⟩⟩
      · refine ((HB0.out.trans ((HB2.out.trans (HB3.out.mono HB2.out.size)).mono HB0.out.size)).trans ?_).trans (hgr.mono (by omega))
        exact ⟨hg3.os, hg3.tape, hg3.output, hg3.size, fun k hk => hg3.block k (by omega) (fun e => by have e2 := Option.some.inj e; omega)⟩
      · have := hix.1
        omega
      · exact HEL3.out.stay (grownN_of_below hgr none) (Nat.le_of_eq hs3.symm) (fun k e => by cases e) (by omega) (Nat.le_refl _)
end
/- index.Index.Kind of an index just made. -/
section
open Go.RowKit
/-- the kind of an index for these keys -/
def kindD (xs : List KeyD) : Int := match othK xs with
  | [] => 1
  | [y] => if y.kind = 2 then 2 else 3
  | _ => 3
set_option maxRecDepth 100000 in
set_option maxHeartbeats 2000000 in
theorem i_isMade_yes {w : World} {X T Y : Nat} (h : w.cell? ⟨X, 12, none⟩ = some (.iface T (.pointer (some ⟨Y, 0, none⟩)))) : Calls Tryz.prog 77 #[.pointer (some ⟨X, 0, none⟩)] w (RetX (.bool true) w) := by
  go_enter Tryz.func77, Tryz.ntmps77
  go_wp2_with fail
  go_ret
  exact ⟨rfl, Below.refl _ _⟩
set_option maxRecDepth 100000 in
set_option maxHeartbeats 2000000 in
theorem i_Kind {w : World} {lo : Nat} {x : SchemaD} {id : Int} {ks : List KeyD} {X : Nat} (h : IdxN w lo x id ks X) : Calls Tryz.prog 21 #[.pointer (some ⟨X, 0, none⟩)] w (RetX (.int .i64 (kindD ks)) w) := by
  obtain ⟨M, hi, u0, u1, u2, u3, u4, u5, u6, u7, fv, ⟨-, -, -, hX, -, hF⟩, -, -⟩ := h
  have h12 := blk_cell hX 12 _ rfl
  have HX := Lib.hid hX
  clear hX
  rcases hF with ⟨h0, Y, E, rfl, -⟩ | ⟨y, h0, hk, Y, M2, j, rfl, -, -⟩ | ⟨h0, h1, Y, L, rfl, -⟩
  · have hk : kindD ks = 1 := by unfold kindD; rw [h0]
    rw [hk]
    have K := Lib.hid (i_isMade_yes h12)
    clear h0 hk
    go_enter Tryz.func21, Tryz.ntmps21
    go_wp2_with (first
      | (go_at_call 77; (with_reducible refine K.out.mono ?_); rintro en w2 ⟨rfl, hb2⟩; have HB2 := Lib.hid hb2; have c2 := blk_cell ((hb2.block X (Array.getElem?_eq_some_iff.1 HX.out).1).trans HX.out) 12 _ rfl; clear hb2)
      | (go_at_call 236; (with_reducible refine (k_hashed _ _).mono ?_); rintro en w3 ⟨rfl, hb3⟩; have HB3 := Lib.hid hb3; clear hb3))
    go_ret
    exact ⟨rfl, HB2.out.trans (HB3.out.mono HB2.out.size)⟩
  · have hk : kindD ks = 2 := by unfold kindD; rw [h0]; exact if_pos hk
    rw [hk]
    have K := Lib.hid (i_isMade_yes h12)
    clear h0 hk
    go_enter Tryz.func21, Tryz.ntmps21
    go_wp2_with (first
      | (go_at_call 77; (with_reducible refine K.out.mono ?_); rintro en w2 ⟨rfl, hb2⟩; have HB2 := Lib.hid hb2; have c2 := blk_cell ((hb2.block X (Array.getElem?_eq_some_iff.1 HX.out).1).trans HX.out) 12 _ rfl; clear hb2)
      | (go_at_call 246; (with_reducible refine (k_prefixed _ _).mono ?_); rintro en w3 ⟨rfl, hb3⟩; have HB3 := Lib.hid hb3; clear hb3))
    go_ret
    exact ⟨rfl, HB2.out.trans (HB3.out.mono HB2.out.size)⟩
  · have hk : kindD ks = 3 := by
      unfold kindD
      split
      · next e => exact absurd e h0
      · next y e => exact if_neg (h1 y e)
      · rfl
    rw [hk]
    have K := Lib.hid (i_isMade_yes h12)
    clear h0 h1 hk
    go_enter Tryz.func21, Tryz.ntmps21
    go_wp2_with (first
      | (go_at_call 77; (with_reducible refine K.out.mono ?_); rintro en w2 ⟨rfl, hb2⟩; have HB2 := Lib.hid hb2; have c2 := blk_cell ((hb2.block X (Array.getElem?_eq_some_iff.1 HX.out).1).trans HX.out) 12 _ rfl; clear hb2)
      | (go_at_call 265; (with_reducible refine (k_listed _ _).mono ?_); rintro en w3 ⟨rfl, hb3⟩; have HB3 := Lib.hid hb3; clear hb3))
    go_ret
    exact ⟨rfl, HB2.out.trans (HB3.out.mono HB2.out.size)⟩
end
/- The schemas out of choices are not too long to be copied. -/
section
open Go.RowKit
theorem keys_of_sub {xs : List TableD} {g : List GrantD} (hk : ∀ t ∈ xs, t.keys.length ≤ 4) (h : (g.map fun x => (x.table, x.keys.length)).Sublist (xs.map tkey)) : g.length ≤ xs.length ∧ ∀ z ∈ g, z.keys.length ≤ 4 := by
  refine ⟨by simpa using h.length_le, fun z hz => ?_⟩
  have hm := h.subset (List.mem_map_of_mem (f := fun x : GrantD => (x.table, x.keys.length)) hz)
  obtain ⟨t, ht, e⟩ := List.mem_map.1 hm
  have e2 := congrArg Prod.snd e
  simp only [tkey] at e2
  have := hk t ht
  omega
theorem smallS_of {x : SchemaD} (h : SchemaOk x) : SmallS x := by
  obtain ⟨q, r, t3, t5, _, _, _, ha⟩ := h.actions
  obtain ⟨_, ht, htk⟩ := tables_keys h.tables
  obtain ⟨c, d, e, f, g1, g2, _, _, _, _, hg1, hg2, hro⟩ := h.roles
  obtain ⟨k1, k2⟩ := keys_of_sub htk hg1
  obtain ⟨k3, k4⟩ := keys_of_sub htk hg2
  obtain ⟨cx, cy, sa, sb, hst, hcx, hcy⟩ := h.states
  obtain ⟨bs, hsg⟩ := h.stages
  obtain ⟨ra, rb, rc, hrf, _, _⟩ := h.refs
  have htab : ∀ t ∈ x.tables, t.actions.length ≤ 5 ∧ t.args.length ≤ 1 := by
    obtain ⟨q1, s1, s2, s3, s4, b2, b3, b4, f, _, _, _, _, _, _, hte⟩ := h.tables
    intro t hm
    rw [hte] at hm
    simp only [List.mem_cons, List.not_mem_nil, or_false] at hm
    rcases hm with rfl | rfl | rfl | rfl <;> simp [tab1D, tab2D, tab3D, tab4D]
  have hact : ∀ y ∈ x.actions, y.params.length ≤ 4 ∧ y.body.length ≤ 4 := by
    intro y hy
    rw [ha] at hy
    simp only [actDs, List.mem_cons, List.not_mem_nil, or_false] at hy
    rcases hy with rfl | rfl | rfl | rfl | rfl | rfl <;> simp
  have hgr : ∀ y ∈ x.roles, y.grants.length ≤ 4 ∧ y.actions.length ≤ 6 ∧ ∀ z ∈ y.grants, z.keys.length ≤ 4 := by
    intro y hy
    rw [hro] at hy
    simp only [List.mem_cons, List.not_mem_nil, or_false] at hy
    rcases hy with rfl | rfl | rfl
    · refine ⟨by simp; omega, by simp, fun z hz => ?_⟩
      obtain ⟨t, htm, rfl⟩ := List.mem_map.1 hz
      have := htk t htm
      simp [allG]
      omega
    · exact ⟨by show g1.length ≤ 4; omega, by simp, k2⟩
    · exact ⟨by show g2.length ≤ 4; omega, by simp, k4⟩
  refine ⟨by rw [h.fields]; decide, by rw [h.headers]; decide, by rw [hst]; simp, by rw [ha]; simp [actDs], by omega, by rw [hsg]; cases bs <;> decide, by rw [hro]; simp, by rw [hrf]; cases ra <;> cases rb <;> cases rc <;> decide,
    by rw [h.headers]; decide, fun y hy => ?_, fun y hy => by have := hact y hy; omega, fun y hy => by have := hact y hy; omega, fun y hy => by have := htk y hy; omega, fun y hy => by have := htab y hy; omega, fun y hy => by have := htab y hy; omega, fun y hy => by have := hgr y hy; omega, fun y hy => by have := hgr y hy; omega, fun y hy z hz => by have := (hgr y hy).2.2 z hz; omega⟩
  rw [hst] at hy
  simp only [List.mem_cons, List.not_mem_nil, or_false] at hy
  rcases hy with rfl | rfl | rfl
  · have := hcx.1; show cx.length ≤ 1000000; omega
  · simp
  · have := hcy.1; show cy.length ≤ 1000000; omega
end
/- A nil *index.Index. -/
section
open Go.RowKit
set_option maxRecDepth 100000 in
set_option maxHeartbeats 2000000 in
theorem i_isMade_nil (w : World) : Calls Tryz.prog 77 #[.pointer none] w (RetX (.bool false) w) := by
  go_enter Tryz.func77, Tryz.ntmps77
  go_wp2_with fail
  go_ret
  exact ⟨rfl, Below.refl _ _⟩
set_option maxRecDepth 100000 in
set_option maxHeartbeats 2000000 in
theorem i_Len_nil (w : World) : Calls Tryz.prog 22 #[.pointer none] w (RetX (.int .i64 0) w) := by
  go_enter Tryz.func22, Tryz.ntmps22
  go_wp2_with fail
  go_ret
  exact ⟨rfl, Below.refl _ _⟩
set_option maxRecDepth 100000 in
set_option maxHeartbeats 2000000 in
theorem i_Kind_nil (w : World) : Calls Tryz.prog 21 #[.pointer none] w (RetX (.int .i64 0) w) := by
  have K := Lib.hid (i_isMade_nil w)
  go_enter Tryz.func21, Tryz.ntmps21
  go_wp2_with (go_at_call 77; (with_reducible refine K.out.mono ?_); rintro en w2 ⟨rfl, hb2⟩; have HB2 := Lib.hid hb2; clear hb2)
  go_ret
  exact ⟨rfl, HB2.out⟩
set_option maxRecDepth 100000 in
set_option maxHeartbeats 2000000 in
theorem i_Put_nil (w : World) (cs : Array Value) : Calls Tryz.prog 23 #[.pointer none, .agg cs] w (RetX (.bool false) w) := by
  have hb : Below w.heap.size w (w.alloc (.cells cs 43)) := (Below.refl _ _).alloc (Nat.le_refl _) _
  have K := Lib.hid (i_isMade_nil (w.alloc (.cells cs 43)))
  have HB := Lib.hid hb
  clear hb
  go_enter Tryz.func23, Tryz.ntmps23
  go_wp2_with (go_at_call 77; (with_reducible refine K.out.mono ?_); rintro en w2 ⟨rfl, hb2⟩; have HB2 := Lib.hid hb2; clear hb2)
  go_ret
  exact ⟨rfl, HB.out.trans (HB2.out.mono HB.out.size)⟩
/-- nothing is found -/
def NoneI (w : World) (en : Ending) (w' : World) : Prop := en = .returned (.tuple #[.agg #[.int .i64 0, .slice none 0 0, .int .i64 0, .int .i64 0, .slice none 0 0, .int .i64 0, .int .i64 0], .bool false]) ∧ Below w.heap.size w w'
set_option maxRecDepth 100000 in
set_option maxHeartbeats 2000000 in
theorem i_find_nil (w : World) (cs : Array Value) : Calls Tryz.prog 75 #[.pointer none, .agg cs] w (NoneI w) := by
  obtain ⟨W0, hW0⟩ : ∃ W, W = (w.alloc (.cells cs 26)).alloc (.cells #[.int .i64 0, .slice none 0 0, .int .i64 0, .int .i64 0, .slice none 0 0, .int .i64 0, .int .i64 0] 43) := ⟨_, rfl⟩
  have hb0 : Below w.heap.size w W0 := by rw [hW0]; exact ((Below.refl w.heap.size w).alloc (by simp) _).alloc (by simp) _
  have k0 : W0.heap[w.heap.size + 1]? = some (.cells #[.int .i64 0, .slice none 0 0, .int .i64 0, .int .i64 0, .slice none 0 0, .int .i64 0, .int .i64 0] 43 (0, 0)) := by
    rw [hW0, show w.heap.size + 1 = (w.alloc (.cells cs 26)).heap.size by simp]
    exact heap_alloc_new _ _
  have c0 := blk_cell k0 0 _ rfl
  have f0 := blk_froz k0 0
  have c1 := blk_cell k0 1 _ rfl
  have f1 := blk_froz k0 1
  have c2 := blk_cell k0 2 _ rfl
  have f2 := blk_froz k0 2
  have c3 := blk_cell k0 3 _ rfl
  have f3 := blk_froz k0 3
  have c4 := blk_cell k0 4 _ rfl
  have f4 := blk_froz k0 4
  have c5 := blk_cell k0 5 _ rfl
  have f5 := blk_froz k0 5
  have c6 := blk_cell k0 6 _ rfl
  have f6 := blk_froz k0 6
  have HW0 := Lib.hid hW0
  clear hW0
  go_enter Tryz.func75, Tryz.ntmps75
  go_upto_region 1 with fail
  rw [← HW0.out]
  go_wp2_with fail
  have k1 : (W0.setCell ⟨w.heap.size + 1, 0, none⟩ (.int .i64 0)).heap[w.heap.size + 1]? = some (.cells #[.int .i64 0, .slice none 0 0, .int .i64 0, .int .i64 0, .slice none 0 0, .int .i64 0, .int .i64 0] 43 (0, 0)) := blk_set k0 0 _
  have k2 : ((W0.setCell ⟨w.heap.size + 1, 0, none⟩ (.int .i64 0)).setCell ⟨w.heap.size + 1, 1, none⟩ (.slice none 0 0)).heap[w.heap.size + 1]? = some (.cells #[.int .i64 0, .slice none 0 0, .int .i64 0, .int .i64 0, .slice none 0 0, .int .i64 0, .int .i64 0] 43 (0, 0)) := blk_set k1 1 _
  have k3 : (((W0.setCell ⟨w.heap.size + 1, 0, none⟩ (.int .i64 0)).setCell ⟨w.heap.size + 1, 1, none⟩ (.slice none 0 0)).setCell ⟨w.heap.size + 1, 2, none⟩ (.int .i64 0)).heap[w.heap.size + 1]? = some (.cells #[.int .i64 0, .slice none 0 0, .int .i64 0, .int .i64 0, .slice none 0 0, .int .i64 0, .int .i64 0] 43 (0, 0)) := blk_set k2 2 _
  have k4 : ((((W0.setCell ⟨w.heap.size + 1, 0, none⟩ (.int .i64 0)).setCell ⟨w.heap.size + 1, 1, none⟩ (.slice none 0 0)).setCell ⟨w.heap.size + 1, 2, none⟩ (.int .i64 0)).setCell ⟨w.heap.size + 1, 3, none⟩ (.int .i64 0)).heap[w.heap.size + 1]? = some (.cells #[.int .i64 0, .slice none 0 0, .int .i64 0, .int .i64 0, .slice none 0 0, .int .i64 0, .int .i64 0] 43 (0, 0)) := blk_set k3 3 _
  have k5 : (((((W0.setCell ⟨w.heap.size + 1, 0, none⟩ (.int .i64 0)).setCell ⟨w.heap.size + 1, 1, none⟩ (.slice none 0 0)).setCell ⟨w.heap.size + 1, 2, none⟩ (.int .i64 0)).setCell ⟨w.heap.size + 1, 3, none⟩ (.int .i64 0)).setCell ⟨w.heap.size + 1, 4, none⟩ (.slice none 0 0)).heap[w.heap.size + 1]? = some (.cells #[.int .i64 0, .slice none 0 0, .int .i64 0, .int .i64 0, .slice none 0 0, .int .i64 0, .int .i64 0] 43 (0, 0)) := blk_set k4 4 _
  have k6 : ((((((W0.setCell ⟨w.heap.size + 1, 0, none⟩ (.int .i64 0)).setCell ⟨w.heap.size + 1, 1, none⟩ (.slice none 0 0)).setCell ⟨w.heap.size + 1, 2, none⟩ (.int .i64 0)).setCell ⟨w.heap.size + 1, 3, none⟩ (.int .i64 0)).setCell ⟨w.heap.size + 1, 4, none⟩ (.slice none 0 0)).setCell ⟨w.heap.size + 1, 5, none⟩ (.int .i64 0)).heap[w.heap.size + 1]? = some (.cells #[.int .i64 0, .slice none 0 0, .int .i64 0, .int .i64 0, .slice none 0 0, .int .i64 0, .int .i64 0] 43 (0, 0)) := blk_set k5 5 _
  have k7 : (((((((W0.setCell ⟨w.heap.size + 1, 0, none⟩ (.int .i64 0)).setCell ⟨w.heap.size + 1, 1, none⟩ (.slice none 0 0)).setCell ⟨w.heap.size + 1, 2, none⟩ (.int .i64 0)).setCell ⟨w.heap.size + 1, 3, none⟩ (.int .i64 0)).setCell ⟨w.heap.size + 1, 4, none⟩ (.slice none 0 0)).setCell ⟨w.heap.size + 1, 5, none⟩ (.int .i64 0)).setCell ⟨w.heap.size + 1, 6, none⟩ (.int .i64 0)).heap[w.heap.size + 1]? = some (.cells #[.int .i64 0, .slice none 0 0, .int .i64 0, .int .i64 0, .slice none 0 0, .int .i64 0, .int .i64 0] 43 (0, 0)) := blk_set k6 6 _
  have q0 := blk_cell k7 0 _ rfl
  have q1 := blk_cell k7 1 _ rfl
  have q2 := blk_cell k7 2 _ rfl
  have q3 := blk_cell k7 3 _ rfl
  have q4 := blk_cell k7 4 _ rfl
  have q5 := blk_cell k7 5 _ rfl
  have q6 := blk_cell k7 6 _ rfl
  refine bodyPost_ret (v := .tuple #[.agg #[.int .i64 0, .slice none 0 0, .int .i64 0, .int .i64 0, .slice none 0 0, .int .i64 0, .int .i64 0], .bool false]) (by simp [results, Tryz.results75, go_sem, q0, q1, q2, q3, q4, q5, q6]) rfl ?_
  have hg : W0.grownBy (((((((W0.setCell ⟨w.heap.size + 1, 0, none⟩ (.int .i64 0)).setCell ⟨w.heap.size + 1, 1, none⟩ (.slice none 0 0)).setCell ⟨w.heap.size + 1, 2, none⟩ (.int .i64 0)).setCell ⟨w.heap.size + 1, 3, none⟩ (.int .i64 0)).setCell ⟨w.heap.size + 1, 4, none⟩ (.slice none 0 0)).setCell ⟨w.heap.size + 1, 5, none⟩ (.int .i64 0)).setCell ⟨w.heap.size + 1, 6, none⟩ (.int .i64 0)) (some (w.heap.size + 1)) := ((((((grown_set _ (w.heap.size + 1) 0 _).trans (grown_set _ (w.heap.size + 1) 1 _)).trans (grown_set _ (w.heap.size + 1) 2 _)).trans (grown_set _ (w.heap.size + 1) 3 _)).trans (grown_set _ (w.heap.size + 1) 4 _)).trans (grown_set _ (w.heap.size + 1) 5 _)).trans (grown_set _ (w.heap.size + 1) 6 _)
  exact ⟨rfl, hb0.trans ⟨hg.os, hg.tape, hg.output, hg.size, fun k hk => hg.block k (Nat.lt_of_lt_of_le hk hb0.size) (fun e => by injection e with e; omega)⟩⟩
set_option maxRecDepth 100000 in
set_option maxHeartbeats 2000000 in
theorem i_Lookup_nil (w : World) (cs : Array Value) : Calls Tryz.prog 20 #[.pointer none, .agg cs] w (NoneI w) := by
  obtain ⟨W0, hW0⟩ : ∃ W, W = (w.alloc (.cells cs 51)).alloc (.cells #[.int .i64 0, .slice none 0 0, .int .i64 0, .int .i64 0, .slice none 0 0, .int .i64 0, .int .i64 0] 43) := ⟨_, rfl⟩
  have hb0 : Below w.heap.size w W0 := by rw [hW0]; exact ((Below.refl w.heap.size w).alloc (by simp) _).alloc (by simp) _
  have hz0 : w.heap.size + 2 = W0.heap.size := by rw [hW0]; simp
  have r0 : W0.heap[w.heap.size + 1]? = some (.cells #[.int .i64 0, .slice none 0 0, .int .i64 0, .int .i64 0, .slice none 0 0, .int .i64 0, .int .i64 0] 43 (0, 0)) := by
    rw [hW0, show w.heap.size + 1 = (w.alloc (.cells cs 51)).heap.size by simp]
    exact heap_alloc_new _ _
  have HW0 := Lib.hid hW0
  have HB0 := Lib.hid hb0
  have R0 := Lib.hid r0
  clear hW0 hb0 r0
  have K := Lib.hid (i_isMade_nil W0)
  go_enter Tryz.func20, Tryz.ntmps20
  go_upto_region 1 with fail
  rw [← HW0.out]
  go_upto_region 2 with (go_at_call 77; (with_reducible refine K.out.mono ?_); rintro en w2 ⟨rfl, hb2⟩; have HB2 := Lib.hid hb2; clear hb2)
  have HBF := HB0.out.trans (HB2.out.mono HB0.out.size)
  have k0 := (HB2.out.block (w.heap.size + 1) (by omega)).trans R0.out
  have c0 := blk_cell k0 0 _ rfl
  have f0 := blk_froz k0 0
  have c1 := blk_cell k0 1 _ rfl
  have f1 := blk_froz k0 1
  have c2 := blk_cell k0 2 _ rfl
  have f2 := blk_froz k0 2
  have c3 := blk_cell k0 3 _ rfl
  have f3 := blk_froz k0 3
  have c4 := blk_cell k0 4 _ rfl
  have f4 := blk_froz k0 4
  have c5 := blk_cell k0 5 _ rfl
  have f5 := blk_froz k0 5
  have c6 := blk_cell k0 6 _ rfl
  have f6 := blk_froz k0 6
  go_wp2_with fail
  have k1 : (w2.setCell ⟨w.heap.size + 1, 0, none⟩ (.int .i64 0)).heap[w.heap.size + 1]? = some (.cells #[.int .i64 0, .slice none 0 0, .int .i64 0, .int .i64 0, .slice none 0 0, .int .i64 0, .int .i64 0] 43 (0, 0)) := blk_set k0 0 _
  have k2 : ((w2.setCell ⟨w.heap.size + 1, 0, none⟩ (.int .i64 0)).setCell ⟨w.heap.size + 1, 1, none⟩ (.slice none 0 0)).heap[w.heap.size + 1]? = some (.cells #[.int .i64 0, .slice none 0 0, .int .i64 0, .int .i64 0, .slice none 0 0, .int .i64 0, .int .i64 0] 43 (0, 0)) := blk_set k1 1 _
  have k3 : (((w2.setCell ⟨w.heap.size + 1, 0, none⟩ (.int .i64 0)).setCell ⟨w.heap.size + 1, 1, none⟩ (.slice none 0 0)).setCell ⟨w.heap.size + 1, 2, none⟩ (.int .i64 0)).heap[w.heap.size + 1]? = some (.cells #[.int .i64 0, .slice none 0 0, .int .i64 0, .int .i64 0, .slice none 0 0, .int .i64 0, .int .i64 0] 43 (0, 0)) := blk_set k2 2 _
  have k4 : ((((w2.setCell ⟨w.heap.size + 1, 0, none⟩ (.int .i64 0)).setCell ⟨w.heap.size + 1, 1, none⟩ (.slice none 0 0)).setCell ⟨w.heap.size + 1, 2, none⟩ (.int .i64 0)).setCell ⟨w.heap.size + 1, 3, none⟩ (.int .i64 0)).heap[w.heap.size + 1]? = some (.cells #[.int .i64 0, .slice none 0 0, .int .i64 0, .int .i64 0, .slice none 0 0, .int .i64 0, .int .i64 0] 43 (0, 0)) := blk_set k3 3 _
  have k5 : (((((w2.setCell ⟨w.heap.size + 1, 0, none⟩ (.int .i64 0)).setCell ⟨w.heap.size + 1, 1, none⟩ (.slice none 0 0)).setCell ⟨w.heap.size + 1, 2, none⟩ (.int .i64 0)).setCell ⟨w.heap.size + 1, 3, none⟩ (.int .i64 0)).setCell ⟨w.heap.size + 1, 4, none⟩ (.slice none 0 0)).heap[w.heap.size + 1]? = some (.cells #[.int .i64 0, .slice none 0 0, .int .i64 0, .int .i64 0, .slice none 0 0, .int .i64 0, .int .i64 0] 43 (0, 0)) := blk_set k4 4 _
  have k6 : ((((((w2.setCell ⟨w.heap.size + 1, 0, none⟩ (.int .i64 0)).setCell ⟨w.heap.size + 1, 1, none⟩ (.slice none 0 0)).setCell ⟨w.heap.size + 1, 2, none⟩ (.int .i64 0)).setCell ⟨w.heap.size + 1, 3, none⟩ (.int .i64 0)).setCell ⟨w.heap.size + 1, 4, none⟩ (.slice none 0 0)).setCell ⟨w.heap.size + 1, 5, none⟩ (.int .i64 0)).heap[w.heap.size + 1]? = some (.cells #[.int .i64 0, .slice none 0 0, .int .i64 0, .int .i64 0, .slice none 0 0, .int .i64 0, .int .i64 0] 43 (0, 0)) := blk_set k5 5 _
  have k7 : (((((((w2.setCell ⟨w.heap.size + 1, 0, none⟩ (.int .i64 0)).setCell ⟨w.heap.size + 1, 1, none⟩ (.slice none 0 0)).setCell ⟨w.heap.size + 1, 2, none⟩ (.int .i64 0)).setCell ⟨w.heap.size + 1, 3, none⟩ (.int .i64 0)).setCell ⟨w.heap.size + 1, 4, none⟩ (.slice none 0 0)).setCell ⟨w.heap.size + 1, 5, none⟩ (.int .i64 0)).setCell ⟨w.heap.size + 1, 6, none⟩ (.int .i64 0)).heap[w.heap.size + 1]? = some (.cells #[.int .i64 0, .slice none 0 0, .int .i64 0, .int .i64 0, .slice none 0 0, .int .i64 0, .int .i64 0] 43 (0, 0)) := blk_set k6 6 _
  have q0 := blk_cell k7 0 _ rfl
  have q1 := blk_cell k7 1 _ rfl
  have q2 := blk_cell k7 2 _ rfl
  have q3 := blk_cell k7 3 _ rfl
  have q4 := blk_cell k7 4 _ rfl
  have q5 := blk_cell k7 5 _ rfl
  have q6 := blk_cell k7 6 _ rfl
  refine bodyPost_ret (v := .tuple #[.agg #[.int .i64 0, .slice none 0 0, .int .i64 0, .int .i64 0, .slice none 0 0, .int .i64 0, .int .i64 0], .bool false]) (by simp [results, Tryz.results20, go_sem, q0, q1, q2, q3, q4, q5, q6]) rfl ?_
  have hg : w2.grownBy (((((((w2.setCell ⟨w.heap.size + 1, 0, none⟩ (.int .i64 0)).setCell ⟨w.heap.size + 1, 1, none⟩ (.slice none 0 0)).setCell ⟨w.heap.size + 1, 2, none⟩ (.int .i64 0)).setCell ⟨w.heap.size + 1, 3, none⟩ (.int .i64 0)).setCell ⟨w.heap.size + 1, 4, none⟩ (.slice none 0 0)).setCell ⟨w.heap.size + 1, 5, none⟩ (.int .i64 0)).setCell ⟨w.heap.size + 1, 6, none⟩ (.int .i64 0)) (some (w.heap.size + 1)) := ((((((grown_set _ (w.heap.size + 1) 0 _).trans (grown_set _ (w.heap.size + 1) 1 _)).trans (grown_set _ (w.heap.size + 1) 2 _)).trans (grown_set _ (w.heap.size + 1) 3 _)).trans (grown_set _ (w.heap.size + 1) 4 _)).trans (grown_set _ (w.heap.size + 1) 5 _)).trans (grown_set _ (w.heap.size + 1) 6 _)
  have hbf : Below w.heap.size w (((((((w2.setCell ⟨w.heap.size + 1, 0, none⟩ (.int .i64 0)).setCell ⟨w.heap.size + 1, 1, none⟩ (.slice none 0 0)).setCell ⟨w.heap.size + 1, 2, none⟩ (.int .i64 0)).setCell ⟨w.heap.size + 1, 3, none⟩ (.int .i64 0)).setCell ⟨w.heap.size + 1, 4, none⟩ (.slice none 0 0)).setCell ⟨w.heap.size + 1, 5, none⟩ (.int .i64 0)).setCell ⟨w.heap.size + 1, 6, none⟩ (.int .i64 0)) := HBF.trans ⟨hg.os, hg.tape, hg.output, hg.size, fun k hk => hg.block k (Nat.lt_of_lt_of_le hk HBF.size) (fun e => by injection e with e; omega)⟩
  exact ⟨rfl, hbf⟩
set_option maxRecDepth 100000 in
set_option maxHeartbeats 2000000 in
theorem i_Remove_nil (w : World) (cs : Array Value) (hcs : ∃ c0 c1 c2 c3 c4, cs = #[c0, c1, c2, c3, c4]) : Calls Tryz.prog 19 #[.pointer none, .agg cs] w (NoneI w) := by
  obtain ⟨c0, c1, c2, c3, c4, rfl⟩ := hcs
  obtain ⟨W0, hW0⟩ : ∃ W, W = (w.alloc (.cells #[c0, c1, c2, c3, c4] 26)).alloc (.cells #[.int .i64 0, .slice none 0 0, .int .i64 0, .int .i64 0, .slice none 0 0, .int .i64 0, .int .i64 0] 43) := ⟨_, rfl⟩
  have hb0 : Below w.heap.size w W0 := by rw [hW0]; exact ((Below.refl w.heap.size w).alloc (by simp) _).alloc (by simp) _
  have hz0 : w.heap.size + 2 = W0.heap.size := by rw [hW0]; simp
  have r0 : W0.heap[w.heap.size + 1]? = some (.cells #[.int .i64 0, .slice none 0 0, .int .i64 0, .int .i64 0, .slice none 0 0, .int .i64 0, .int .i64 0] 43 (0, 0)) := by
    rw [hW0, show w.heap.size + 1 = (w.alloc (.cells #[c0, c1, c2, c3, c4] 26)).heap.size by simp]
    exact heap_alloc_new _ _
  have HW0 := Lib.hid hW0
  have HB0 := Lib.hid hb0
  have R0 := Lib.hid r0
  clear hW0 hb0 r0
  have K := Lib.hid (i_find_nil W0 #[c0, c1, c2, c3, c4])
  have hb1 : W0.heap[w.heap.size]? = some (.cells #[c0, c1, c2, c3, c4] 26 (0, 0)) := by
    rw [HW0.out]
    exact ((grown_alloc _ _ none).block _ (by simp) (by simp)).trans (heap_alloc_new _ _)
  have b0 := blk_cell hb1 0 _ rfl
  have b1 := blk_cell hb1 1 _ rfl
  have b2 := blk_cell hb1 2 _ rfl
  have b3 := blk_cell hb1 3 _ rfl
  have b4 := blk_cell hb1 4 _ rfl
  go_enter Tryz.func19, Tryz.ntmps19
  go_upto_region 1 with fail
  rw [← HW0.out]
  go_upto_region 3 with (go_at_call 75; (with_reducible refine K.out.mono ?_); rintro en w2 ⟨rfl, hb2⟩; have HB2 := Lib.hid hb2; clear hb2)
  obtain ⟨W3, hW3⟩ : ∃ W, W = w2.alloc (.cells #[.int .i64 0, .slice none 0 0, .int .i64 0, .int .i64 0, .slice none 0 0, .int .i64 0, .int .i64 0] 43) := ⟨_, rfl⟩
  rw [← hW3]
  have hb3 : Below w2.heap.size w2 W3 := by rw [hW3]; exact (Below.refl _ _).alloc (Nat.le_refl _) _
  have hs2 := HB2.out.size
  have HBF : Below w.heap.size w W3 := HB0.out.trans ((HB2.out.trans (hb3.mono HB2.out.size)).mono HB0.out.size)
  have k0 := (hb3.block (w.heap.size + 1) (by omega)).trans ((HB2.out.block (w.heap.size + 1) (by omega)).trans R0.out)
  clear hW3
  have d0 := blk_cell k0 0 _ rfl
  have f0 := blk_froz k0 0
  have d1 := blk_cell k0 1 _ rfl
  have f1 := blk_froz k0 1
  have d2 := blk_cell k0 2 _ rfl
  have f2 := blk_froz k0 2
  have d3 := blk_cell k0 3 _ rfl
  have f3 := blk_froz k0 3
  have d4 := blk_cell k0 4 _ rfl
  have f4 := blk_froz k0 4
  have d5 := blk_cell k0 5 _ rfl
  have f5 := blk_froz k0 5
  have d6 := blk_cell k0 6 _ rfl
  have f6 := blk_froz k0 6
  go_wp2_with fail
  have k1 : (W3.setCell ⟨w.heap.size + 1, 0, none⟩ (.int .i64 0)).heap[w.heap.size + 1]? = some (.cells #[.int .i64 0, .slice none 0 0, .int .i64 0, .int .i64 0, .slice none 0 0, .int .i64 0, .int .i64 0] 43 (0, 0)) := blk_set k0 0 _
  have k2 : ((W3.setCell ⟨w.heap.size + 1, 0, none⟩ (.int .i64 0)).setCell ⟨w.heap.size + 1, 1, none⟩ (.slice none 0 0)).heap[w.heap.size + 1]? = some (.cells #[.int .i64 0, .slice none 0 0, .int .i64 0, .int .i64 0, .slice none 0 0, .int .i64 0, .int .i64 0] 43 (0, 0)) := blk_set k1 1 _
  have k3 : (((W3.setCell ⟨w.heap.size + 1, 0, none⟩ (.int .i64 0)).setCell ⟨w.heap.size + 1, 1, none⟩ (.slice none 0 0)).setCell ⟨w.heap.size + 1, 2, none⟩ (.int .i64 0)).heap[w.heap.size + 1]? = some (.cells #[.int .i64 0, .slice none 0 0, .int .i64 0, .int .i64 0, .slice none 0 0, .int .i64 0, .int .i64 0] 43 (0, 0)) := blk_set k2 2 _
  have k4 : ((((W3.setCell ⟨w.heap.size + 1, 0, none⟩ (.int .i64 0)).setCell ⟨w.heap.size + 1, 1, none⟩ (.slice none 0 0)).setCell ⟨w.heap.size + 1, 2, none⟩ (.int .i64 0)).setCell ⟨w.heap.size + 1, 3, none⟩ (.int .i64 0)).heap[w.heap.size + 1]? = some (.cells #[.int .i64 0, .slice none 0 0, .int .i64 0, .int .i64 0, .slice none 0 0, .int .i64 0, .int .i64 0] 43 (0, 0)) := blk_set k3 3 _
  have k5 : (((((W3.setCell ⟨w.heap.size + 1, 0, none⟩ (.int .i64 0)).setCell ⟨w.heap.size + 1, 1, none⟩ (.slice none 0 0)).setCell ⟨w.heap.size + 1, 2, none⟩ (.int .i64 0)).setCell ⟨w.heap.size + 1, 3, none⟩ (.int .i64 0)).setCell ⟨w.heap.size + 1, 4, none⟩ (.slice none 0 0)).heap[w.heap.size + 1]? = some (.cells #[.int .i64 0, .slice none 0 0, .int .i64 0, .int .i64 0, .slice none 0 0, .int .i64 0, .int .i64 0] 43 (0, 0)) := blk_set k4 4 _
  have k6 : ((((((W3.setCell ⟨w.heap.size + 1, 0, none⟩ (.int .i64 0)).setCell ⟨w.heap.size + 1, 1, none⟩ (.slice none 0 0)).setCell ⟨w.heap.size + 1, 2, none⟩ (.int .i64 0)).setCell ⟨w.heap.size + 1, 3, none⟩ (.int .i64 0)).setCell ⟨w.heap.size + 1, 4, none⟩ (.slice none 0 0)).setCell ⟨w.heap.size + 1, 5, none⟩ (.int .i64 0)).heap[w.heap.size + 1]? = some (.cells #[.int .i64 0, .slice none 0 0, .int .i64 0, .int .i64 0, .slice none 0 0, .int .i64 0, .int .i64 0] 43 (0, 0)) := blk_set k5 5 _
  have k7 : (((((((W3.setCell ⟨w.heap.size + 1, 0, none⟩ (.int .i64 0)).setCell ⟨w.heap.size + 1, 1, none⟩ (.slice none 0 0)).setCell ⟨w.heap.size + 1, 2, none⟩ (.int .i64 0)).setCell ⟨w.heap.size + 1, 3, none⟩ (.int .i64 0)).setCell ⟨w.heap.size + 1, 4, none⟩ (.slice none 0 0)).setCell ⟨w.heap.size + 1, 5, none⟩ (.int .i64 0)).setCell ⟨w.heap.size + 1, 6, none⟩ (.int .i64 0)).heap[w.heap.size + 1]? = some (.cells #[.int .i64 0, .slice none 0 0, .int .i64 0, .int .i64 0, .slice none 0 0, .int .i64 0, .int .i64 0] 43 (0, 0)) := blk_set k6 6 _
  have q0 := blk_cell k7 0 _ rfl
  have q1 := blk_cell k7 1 _ rfl
  have q2 := blk_cell k7 2 _ rfl
  have q3 := blk_cell k7 3 _ rfl
  have q4 := blk_cell k7 4 _ rfl
  have q5 := blk_cell k7 5 _ rfl
  have q6 := blk_cell k7 6 _ rfl
  refine bodyPost_ret (v := .tuple #[.agg #[.int .i64 0, .slice none 0 0, .int .i64 0, .int .i64 0, .slice none 0 0, .int .i64 0, .int .i64 0], .bool false]) (by simp [results, Tryz.results19, go_sem, q0, q1, q2, q3, q4, q5, q6]) rfl ?_
  have hg : W3.grownBy (((((((W3.setCell ⟨w.heap.size + 1, 0, none⟩ (.int .i64 0)).setCell ⟨w.heap.size + 1, 1, none⟩ (.slice none 0 0)).setCell ⟨w.heap.size + 1, 2, none⟩ (.int .i64 0)).setCell ⟨w.heap.size + 1, 3, none⟩ (.int .i64 0)).setCell ⟨w.heap.size + 1, 4, none⟩ (.slice none 0 0)).setCell ⟨w.heap.size + 1, 5, none⟩ (.int .i64 0)).setCell ⟨w.heap.size + 1, 6, none⟩ (.int .i64 0)) (some (w.heap.size + 1)) := ((((((grown_set _ (w.heap.size + 1) 0 _).trans (grown_set _ (w.heap.size + 1) 1 _)).trans (grown_set _ (w.heap.size + 1) 2 _)).trans (grown_set _ (w.heap.size + 1) 3 _)).trans (grown_set _ (w.heap.size + 1) 4 _)).trans (grown_set _ (w.heap.size + 1) 5 _)).trans (grown_set _ (w.heap.size + 1) 6 _)
  have hbf : Below w.heap.size w (((((((W3.setCell ⟨w.heap.size + 1, 0, none⟩ (.int .i64 0)).setCell ⟨w.heap.size + 1, 1, none⟩ (.slice none 0 0)).setCell ⟨w.heap.size + 1, 2, none⟩ (.int .i64 0)).setCell ⟨w.heap.size + 1, 3, none⟩ (.int .i64 0)).setCell ⟨w.heap.size + 1, 4, none⟩ (.slice none 0 0)).setCell ⟨w.heap.size + 1, 5, none⟩ (.int .i64 0)).setCell ⟨w.heap.size + 1, 6, none⟩ (.int .i64 0)) := HBF.trans ⟨hg.os, hg.tape, hg.output, hg.size, fun k hk => hg.block k (Nat.lt_of_lt_of_le hk HBF.size) (fun e => by injection e with e; omega)⟩
  exact ⟨rfl, hbf⟩
theorem inst_zero (W : World) : InstV 0 W [.int .i64 0, .slice none 0 0, .int .i64 0, .int .i64 0, .slice none 0 0, .int .i64 0, .int .i64 0] (⟨0, [], 0, 0, []⟩, 0, 0) := by
  have h0 : I64 0 := by unfold I64; omega
  exact ⟨_, _, rfl, h0, row_nil _ _ _ _, h0, h0, row_nil _ _ _ _, h0, h0⟩
set_option maxRecDepth 100000 in
set_option maxHeartbeats 2000000 in
theorem i_Find_nil (w : World) (cs : Array Value) (hcs : ∃ c0 c1 c2 c3 c4, cs = #[c0, c1, c2, c3, c4]) : Calls Tryz.prog 18 #[.pointer none, .agg cs] w fun en w' => ∃ (A : Option Addr) (n c : Nat) (A2 : Option Addr) (n2 c2 : Nat), en = .returned (.tuple #[.agg #[.int .i64 0, .slice A n c, .int .i64 0, .int .i64 0, .slice A2 n2 c2, .int .i64 0, .int .i64 0], .bool false]) ∧ Below w.heap.size w w' := by
  obtain ⟨c0, c1, c2, c3, c4, rfl⟩ := hcs
  obtain ⟨W0, hW0⟩ : ∃ W, W = (w.alloc (.cells #[c0, c1, c2, c3, c4] 26)).alloc (.cells #[.int .i64 0, .slice none 0 0, .int .i64 0, .int .i64 0, .slice none 0 0, .int .i64 0, .int .i64 0] 43) := ⟨_, rfl⟩
  have hb0 : Below w.heap.size w W0 := by rw [hW0]; exact ((Below.refl w.heap.size w).alloc (by simp) _).alloc (by simp) _
  have hz0 : w.heap.size + 2 = W0.heap.size := by rw [hW0]; simp
  have r0 : W0.heap[w.heap.size + 1]? = some (.cells #[.int .i64 0, .slice none 0 0, .int .i64 0, .int .i64 0, .slice none 0 0, .int .i64 0, .int .i64 0] 43 (0, 0)) := by
    rw [hW0, show w.heap.size + 1 = (w.alloc (.cells #[c0, c1, c2, c3, c4] 26)).heap.size by simp]
    exact heap_alloc_new _ _
  have HW0 := Lib.hid hW0
  have HB0 := Lib.hid hb0
  have R0 := Lib.hid r0
  clear hW0 hb0 r0
  have K := Lib.hid (i_find_nil W0 #[c0, c1, c2, c3, c4])
  have hb1 : W0.heap[w.heap.size]? = some (.cells #[c0, c1, c2, c3, c4] 26 (0, 0)) := by
    rw [HW0.out]
    exact ((grown_alloc _ _ none).block _ (by simp) (by simp)).trans (heap_alloc_new _ _)
  have b0 := blk_cell hb1 0 _ rfl
  have b1 := blk_cell hb1 1 _ rfl
  have b2 := blk_cell hb1 2 _ rfl
  have b3 := blk_cell hb1 3 _ rfl
  have b4 := blk_cell hb1 4 _ rfl
  go_enter Tryz.func18, Tryz.ntmps18
  go_upto_region 1 with fail
  rw [← HW0.out]
  go_upto_region 2 with (go_at_call 75; (with_reducible refine K.out.mono ?_); rintro en w2 ⟨rfl, hb2⟩; have HB2 := Lib.hid hb2; clear hb2)
  obtain ⟨W3, hW3⟩ : ∃ W, W = w2.alloc (.cells #[.int .i64 0, .slice none 0 0, .int .i64 0, .int .i64 0, .slice none 0 0, .int .i64 0, .int .i64 0] 43) := ⟨_, rfl⟩
  rw [← hW3]
  have hb3 : Below w2.heap.size w2 W3 := by rw [hW3]; exact (Below.refl _ _).alloc (Nat.le_refl _) _
  have g3 : W3.heap[w2.heap.size]? = some (.cells #[.int .i64 0, .slice none 0 0, .int .i64 0, .int .i64 0, .slice none 0 0, .int .i64 0, .int .i64 0] 43 (0, 0)) := by rw [hW3]; exact heap_alloc_new _ _
  have hs2 := HB2.out.size
  have HBF3 : Below w.heap.size w W3 := HB0.out.trans ((HB2.out.trans (hb3.mono HB2.out.size)).mono HB0.out.size)
  have k03 := (hb3.block (w.heap.size + 1) (by omega)).trans ((HB2.out.block (w.heap.size + 1) (by omega)).trans R0.out)
  have K2 := Lib.hid (ke_installed (w := W3) (inst_zero W3) (Nat.zero_le _) (by decide) (by decide))
  have hl3 : w.heap.size + 1 < W3.heap.size := (Array.getElem?_eq_some_iff.1 k03).1
  have HF3 := Lib.hid HBF3
  have HK3 := Lib.hid k03
  clear hW3 HBF3 k03
  have d0 := blk_cell g3 0 _ rfl
  have d1 := blk_cell g3 1 _ rfl
  have d2 := blk_cell g3 2 _ rfl
  have d3 := blk_cell g3 3 _ rfl
  have d4 := blk_cell g3 4 _ rfl
  have d5 := blk_cell g3 5 _ rfl
  have d6 := blk_cell g3 6 _ rfl
  go_upto_region 3 with (go_at_call 76; go_loud ((with_reducible refine K2.out.mono ?_); rintro en w4 ⟨cs', rfl, hcl, hel, hb4⟩; obtain ⟨v0, v1, rfl, -, p0, -, -, p1, -⟩ := hel w4 w4.heap.size (.refl (Nat.le_refl _)) (Nat.le_refl _); obtain ⟨nA0, nn0, nc0, rfl, _⟩ := p0.parts; obtain ⟨nA1, nn1, nc1, rfl, _⟩ := p1.parts; have HBF := HF3.out.trans (hb4.mono HF3.out.size); have k0 := (hb4.block (w.heap.size + 1) hl3).trans HK3.out; have m0 := blk_cell k0 0 _ rfl; have f0 := blk_froz k0 0; have m1 := blk_cell k0 1 _ rfl; have f1 := blk_froz k0 1; have m2 := blk_cell k0 2 _ rfl; have f2 := blk_froz k0 2; have m3 := blk_cell k0 3 _ rfl; have f3 := blk_froz k0 3; have m4 := blk_cell k0 4 _ rfl; have f4 := blk_froz k0 4; have m5 := blk_cell k0 5 _ rfl; have f5 := blk_froz k0 5; have m6 := blk_cell k0 6 _ rfl; have f6 := blk_froz k0 6; clear hel hb4 p0 p1))
  have k1 : (w4.setCell ⟨w.heap.size + 1, 0, none⟩ (.int .i64 0)).heap[w.heap.size + 1]? = some (.cells #[.int .i64 0, .slice none 0 0, .int .i64 0, .int .i64 0, .slice none 0 0, .int .i64 0, .int .i64 0] 43 (0, 0)) := blk_set k0 0 _
  have k2 : ((w4.setCell ⟨w.heap.size + 1, 0, none⟩ (.int .i64 0)).setCell ⟨w.heap.size + 1, 1, none⟩ (.slice nA0 nn0 nc0)).heap[w.heap.size + 1]? = some (.cells #[.int .i64 0, .slice nA0 nn0 nc0, .int .i64 0, .int .i64 0, .slice none 0 0, .int .i64 0, .int .i64 0] 43 (0, 0)) := blk_set k1 1 _
  have k3 : (((w4.setCell ⟨w.heap.size + 1, 0, none⟩ (.int .i64 0)).setCell ⟨w.heap.size + 1, 1, none⟩ (.slice nA0 nn0 nc0)).setCell ⟨w.heap.size + 1, 2, none⟩ (.int .i64 0)).heap[w.heap.size + 1]? = some (.cells #[.int .i64 0, .slice nA0 nn0 nc0, .int .i64 0, .int .i64 0, .slice none 0 0, .int .i64 0, .int .i64 0] 43 (0, 0)) := blk_set k2 2 _
  have k4 : ((((w4.setCell ⟨w.heap.size + 1, 0, none⟩ (.int .i64 0)).setCell ⟨w.heap.size + 1, 1, none⟩ (.slice nA0 nn0 nc0)).setCell ⟨w.heap.size + 1, 2, none⟩ (.int .i64 0)).setCell ⟨w.heap.size + 1, 3, none⟩ (.int .i64 0)).heap[w.heap.size + 1]? = some (.cells #[.int .i64 0, .slice nA0 nn0 nc0, .int .i64 0, .int .i64 0, .slice none 0 0, .int .i64 0, .int .i64 0] 43 (0, 0)) := blk_set k3 3 _
  have k5 : (((((w4.setCell ⟨w.heap.size + 1, 0, none⟩ (.int .i64 0)).setCell ⟨w.heap.size + 1, 1, none⟩ (.slice nA0 nn0 nc0)).setCell ⟨w.heap.size + 1, 2, none⟩ (.int .i64 0)).setCell ⟨w.heap.size + 1, 3, none⟩ (.int .i64 0)).setCell ⟨w.heap.size + 1, 4, none⟩ (.slice nA1 nn1 nc1)).heap[w.heap.size + 1]? = some (.cells #[.int .i64 0, .slice nA0 nn0 nc0, .int .i64 0, .int .i64 0, .slice nA1 nn1 nc1, .int .i64 0, .int .i64 0] 43 (0, 0)) := blk_set k4 4 _
  have k6 : ((((((w4.setCell ⟨w.heap.size + 1, 0, none⟩ (.int .i64 0)).setCell ⟨w.heap.size + 1, 1, none⟩ (.slice nA0 nn0 nc0)).setCell ⟨w.heap.size + 1, 2, none⟩ (.int .i64 0)).setCell ⟨w.heap.size + 1, 3, none⟩ (.int .i64 0)).setCell ⟨w.heap.size + 1, 4, none⟩ (.slice nA1 nn1 nc1)).setCell ⟨w.heap.size + 1, 5, none⟩ (.int .i64 0)).heap[w.heap.size + 1]? = some (.cells #[.int .i64 0, .slice nA0 nn0 nc0, .int .i64 0, .int .i64 0, .slice nA1 nn1 nc1, .int .i64 0, .int .i64 0] 43 (0, 0)) := blk_set k5 5 _
  have k7 : (((((((w4.setCell ⟨w.heap.size + 1, 0, none⟩ (.int .i64 0)).setCell ⟨w.heap.size + 1, 1, none⟩ (.slice nA0 nn0 nc0)).setCell ⟨w.heap.size + 1, 2, none⟩ (.int .i64 0)).setCell ⟨w.heap.size + 1, 3, none⟩ (.int .i64 0)).setCell ⟨w.heap.size + 1, 4, none⟩ (.slice nA1 nn1 nc1)).setCell ⟨w.heap.size + 1, 5, none⟩ (.int .i64 0)).setCell ⟨w.heap.size + 1, 6, none⟩ (.int .i64 0)).heap[w.heap.size + 1]? = some (.cells #[.int .i64 0, .slice nA0 nn0 nc0, .int .i64 0, .int .i64 0, .slice nA1 nn1 nc1, .int .i64 0, .int .i64 0] 43 (0, 0)) := blk_set k6 6 _
  have q0 := blk_cell k7 0 _ rfl
  have q1 := blk_cell k7 1 _ rfl
  have q2 := blk_cell k7 2 _ rfl
  have q3 := blk_cell k7 3 _ rfl
  have q4 := blk_cell k7 4 _ rfl
  have q5 := blk_cell k7 5 _ rfl
  have q6 := blk_cell k7 6 _ rfl
  refine bodyPost_ret (v := .tuple #[.agg #[.int .i64 0, .slice nA0 nn0 nc0, .int .i64 0, .int .i64 0, .slice nA1 nn1 nc1, .int .i64 0, .int .i64 0], .bool false]) (by simp [results, Tryz.results18, go_sem, q0, q1, q2, q3, q4, q5, q6]) rfl ?_
  have hg : w4.grownBy (((((((w4.setCell ⟨w.heap.size + 1, 0, none⟩ (.int .i64 0)).setCell ⟨w.heap.size + 1, 1, none⟩ (.slice nA0 nn0 nc0)).setCell ⟨w.heap.size + 1, 2, none⟩ (.int .i64 0)).setCell ⟨w.heap.size + 1, 3, none⟩ (.int .i64 0)).setCell ⟨w.heap.size + 1, 4, none⟩ (.slice nA1 nn1 nc1)).setCell ⟨w.heap.size + 1, 5, none⟩ (.int .i64 0)).setCell ⟨w.heap.size + 1, 6, none⟩ (.int .i64 0)) (some (w.heap.size + 1)) := ((((((grown_set _ (w.heap.size + 1) 0 _).trans (grown_set _ (w.heap.size + 1) 1 _)).trans (grown_set _ (w.heap.size + 1) 2 _)).trans (grown_set _ (w.heap.size + 1) 3 _)).trans (grown_set _ (w.heap.size + 1) 4 _)).trans (grown_set _ (w.heap.size + 1) 5 _)).trans (grown_set _ (w.heap.size + 1) 6 _)
  have hbf : Below w.heap.size w (((((((w4.setCell ⟨w.heap.size + 1, 0, none⟩ (.int .i64 0)).setCell ⟨w.heap.size + 1, 1, none⟩ (.slice nA0 nn0 nc0)).setCell ⟨w.heap.size + 1, 2, none⟩ (.int .i64 0)).setCell ⟨w.heap.size + 1, 3, none⟩ (.int .i64 0)).setCell ⟨w.heap.size + 1, 4, none⟩ (.slice nA1 nn1 nc1)).setCell ⟨w.heap.size + 1, 5, none⟩ (.int .i64 0)).setCell ⟨w.heap.size + 1, 6, none⟩ (.int .i64 0)) := HBF.trans ⟨hg.os, hg.tape, hg.output, hg.size, fun k hk => hg.block k (Nat.lt_of_lt_of_le hk HBF.size) (fun e => by injection e with e; omega)⟩
  exact ⟨_, _, _, _, _, _, rfl, hbf⟩
end
/- What the law of layer 14 begins with (written by gen/kbgn.py). -/
section
open Go.RowKit
theorem below_grownG {w w' : World} {k B : Nat} (h : w.grownBy w' (some k)) (hk : B ≤ k) (hB : B ≤ w.heap.size) : Below B w w' :=
  ⟨h.os, h.tape, h.output, h.size, fun j hj => h.block j (by omega) (fun e => by have e2 := Option.some.inj e; omega)⟩
theorem tab_ids {xs : List TableD} (h : TablesOk xs) : xs.map (fun t => t.id) = [1, 2, 3, 4] := by
  obtain ⟨q, s1, s2, s3, s4, b2, b3, b4, f, _, _, _, _, _, _, rfl⟩ := h
  rfl
/-- what index.New answers at a schema out of choices -/
theorem i_NewS {w : World} {B : Nat} {s0 s1 s2 s3 s4 s5 s6 s7 : Value} {x : SchemaD} (h : SchemaV B w [s0, s1, s2, s3, s4, s5, s6, s7, .int .i64 x.maxBatch, .int .i64 x.budget] x) (hB : B ≤ w.heap.size) (hok : SchemaOk x) (id : Int) : Calls Tryz.prog 17 #[.agg #[s0, s1, s2, s3, s4, s5, s6, s7, .int .i64 x.maxBatch, .int .i64 x.budget], .int .i64 id] w (RetIdx w x id) :=
  i_New h hB (smallS_of hok) (fun t ht => (tables_keys hok.tables).2.2 t ht) id
theorem kind_of {x : SchemaD} (h : TabsNil x.tables) {j : Nat} {t : TableD} (ht : x.tables[j]? = some t) {id : Int} (hi : t.id = id) : (id = 1 → kindD t.keys = 1) ∧ (id = 2 → kindD t.keys = 2) ∧ (id = 3 → kindD t.keys = 3) ∧ (id = 4 → kindD t.keys = 3) := by
  obtain ⟨q, s1, s2, s3, s4, _, _, _, _, _, e⟩ := h
  rw [e] at ht
  have hm := List.mem_of_getElem? ht
  simp only [List.mem_cons, List.not_mem_nil, or_false] at hm
  subst hi
  rcases hm with rfl | rfl | rfl | rfl
  · exact ⟨fun _ => rfl, fun e => absurd (show (1 : Int) = _ from e) (by decide), fun e => absurd (show (1 : Int) = _ from e) (by decide), fun e => absurd (show (1 : Int) = _ from e) (by decide)⟩
  · exact ⟨fun e => absurd (show (2 : Int) = _ from e) (by decide), fun _ => rfl, fun e => absurd (show (2 : Int) = _ from e) (by decide), fun e => absurd (show (2 : Int) = _ from e) (by decide)⟩
  · exact ⟨fun e => absurd (show (3 : Int) = _ from e) (by decide), fun e => absurd (show (3 : Int) = _ from e) (by decide), fun _ => rfl, fun e => absurd (show (3 : Int) = _ from e) (by decide)⟩
  · exact ⟨fun e => absurd (show (4 : Int) = _ from e) (by decide), fun e => absurd (show (4 : Int) = _ from e) (by decide), fun e => absurd (show (4 : Int) = _ from e) (by decide), fun _ => rfl⟩
set_option maxRecDepth 100000 in
set_option maxHeartbeats 4000000 in
theorem i_begun (w : World) : Calls Tryz.prog 24 #[] w (RetX (.bool true) w) := by
  have KN : Hid (∀ W, Calls Tryz.prog 15 #[.slice none 0 0, .int .i64 0] W fun e w' => e = .returned (.pointer (some ⟨W.heap.size, 0, none⟩)) ∧ Below W.heap.size W w' ∧ W.heap.size < w'.heap.size ∧ CoAt W.heap.size 0 [] 0 w') := Lib.hid fun W => by
    have := cs_newL 0 (by decide) none 0 0 0 [] W (.inl rfl) (fun h => absurd rfl h) rfl (Nat.le_refl _) (by decide) (fun x hx => by cases hx)
    simpa using this
  go_enter Tryz.func24, Tryz.ntmps24
  go_wp2_with fail
  with_reducible refine (KN.out _).mono ?_
  rintro en w2 ⟨rfl, hb2, hl2, hc2⟩
  have HB2 := Lib.hid hb2
  have HC2 := Lib.hid hc2
  clear hb2 hc2 KN
  go_wp2_with fail
  with_reducible refine (schema_any HC2.out).mono ?_
  rintro en w3 ⟨v0, v1, v2, v3, v4, v5, v6, v7, x, rfl, ⟨hok, hnil⟩, hel, hg, p, hc⟩
  have hsv := hel w3 w3.heap.size (.refl (Nat.le_refl _)) (Nat.le_refl _)
  have hM := schM_small (smallS_of hok) hsv
  obtain ⟨A0, n0, c0, rfl, _⟩ := hM.f.parts
  obtain ⟨A1, n1, c1, rfl, _⟩ := hM.h.parts
  obtain ⟨A2, n2, c2, rfl, _⟩ := hM.st.parts
  obtain ⟨A3, n3, c3, rfl, _⟩ := hM.a.parts
  obtain ⟨A4, n4, c4, rfl, _⟩ := hM.t.parts
  obtain ⟨A5, n5, c5, rfl, _⟩ := hM.sg.parts
  obtain ⟨A6, n6, c6, rfl, _⟩ := hM.r.parts
  obtain ⟨A7, n7, c7, rfl, _⟩ := hM.rf.parts
  obtain ⟨W4, hW4⟩ : ∃ W, W = w3.alloc (.cells #[.slice A0 n0 c0, .slice A1 n1 c1, .slice A2 n2 c2, .slice A3 n3 c3, .slice A4 n4 c4, .slice A5 n5 c5, .slice A6 n6 c6, .slice A7 n7 c7, .int .i64 x.maxBatch, .int .i64 x.budget] 36) := ⟨_, rfl⟩
  have hb4 : Below w3.heap.size w3 W4 := by rw [hW4]; exact (Below.refl _ _).alloc (Nat.le_refl _) _
  have hz4 : W4.heap.size = w3.heap.size + 1 := by rw [hW4]; simp
  have b4 : W4.heap[w3.heap.size]? = some (.cells #[.slice A0 n0 c0, .slice A1 n1 c1, .slice A2 n2 c2, .slice A3 n3 c3, .slice A4 n4 c4, .slice A5 n5 c5, .slice A6 n6 c6, .slice A7 n7 c7, .int .i64 x.maxBatch, .int .i64 x.budget] 36 (0, 0)) := by rw [hW4]; exact heap_alloc_new _ _
  have hz3 := hg.size
  have hz2 := HB2.out.size
  have HB4 : Hid (Below w.heap.size w W4) := Lib.hid (HB2.out.trans ((below_grownG hg (B := w.heap.size) (by omega) (by omega)).trans (hb4.mono (by omega))))
  have HNEW : Hid (∀ w', Below W4.heap.size W4 w' → ∀ id, Calls Tryz.prog 17 #[.agg #[.slice A0 n0 c0, .slice A1 n1 c1, .slice A2 n2 c2, .slice A3 n3 c3, .slice A4 n4 c4, .slice A5 n5 c5, .slice A6 n6 c6, .slice A7 n7 c7, .int .i64 x.maxBatch, .int .i64 x.budget], .int .i64 id] w' (RetIdx w' x id)) := Lib.hid fun w' hb id =>
    i_NewS (kept_schema _ _ _ _ _ (hb4.trans (hb.mono (by omega))) hsv) (by have := hb.size; omega) hok id
  have HKS : Hid (∀ w', Below W4.heap.size W4 w' → w'.cell? ⟨w3.heap.size, 0, none⟩ = some (.slice A0 n0 c0) ∧ w'.cell? ⟨w3.heap.size, 1, none⟩ = some (.slice A1 n1 c1) ∧ w'.cell? ⟨w3.heap.size, 2, none⟩ = some (.slice A2 n2 c2) ∧ w'.cell? ⟨w3.heap.size, 3, none⟩ = some (.slice A3 n3 c3) ∧ w'.cell? ⟨w3.heap.size, 4, none⟩ = some (.slice A4 n4 c4) ∧ w'.cell? ⟨w3.heap.size, 5, none⟩ = some (.slice A5 n5 c5) ∧ w'.cell? ⟨w3.heap.size, 6, none⟩ = some (.slice A6 n6 c6) ∧ w'.cell? ⟨w3.heap.size, 7, none⟩ = some (.slice A7 n7 c7) ∧ w'.cell? ⟨w3.heap.size, 8, none⟩ = some (.int .i64 x.maxBatch) ∧ w'.cell? ⟨w3.heap.size, 9, none⟩ = some (.int .i64 x.budget)) := Lib.hid fun w' hb => by
    have q := (hb.block w3.heap.size (by omega)).trans b4
    exact ⟨blk_cell q 0 _ rfl, blk_cell q 1 _ rfl, blk_cell q 2 _ rfl, blk_cell q 3 _ rfl, blk_cell q 4 _ rfl, blk_cell q 5 _ rfl, blk_cell q 6 _ rfl, blk_cell q 7 _ rfl, blk_cell q 8 _ rfl, blk_cell q 9 _ rfl⟩
  have HNIL := Lib.hid (hnil rfl)
  have HIDS := Lib.hid (tab_ids hok.tables)
  have HW4 := Lib.hid hW4
  clear hW4 hb4 b4 hsv hM hok hnil hel hg hc HC2 HB2
  go_upto_region 2 with fail
  rw [← HW4.out]
  clear HW4
  have HP0 := Lib.hid (Below.refl W4.heap.size W4)
  obtain ⟨y10, y11, y12, y13, y14, y15, y16, y17, y18, y19⟩ := HKS.out W4 HP0.out
  go_wp2_with fail
  with_reducible refine (HNEW.out W4 HP0.out 1).mono ?_
  rintro en a1 ⟨hba1, ⟨rfl, hno⟩ | ⟨j, t1, X1, ht1, hi1, -, rfl, hN1⟩⟩
  · exact absurd (by rw [HIDS.out]; decide) hno
  have HK1 := Lib.hid (i_Kind hN1)
  rw [(kind_of HNIL.out ht1 hi1).1 rfl] at HK1
  have HA1 := Lib.hid (HP0.out.trans (hba1.mono HP0.out.size))
  clear ht1 hi1 hN1 hba1 y10 y11 y12 y13 y14 y15 y16 y17 y18 y19
  go_wp2_with fail
  with_reducible refine HK1.out.mono ?_
  rintro en b1 ⟨rfl, hbb1⟩
  have HP1 := Lib.hid (HA1.out.trans (hbb1.mono HA1.out.size))
  clear hbb1 HK1
  obtain ⟨y20, y21, y22, y23, y24, y25, y26, y27, y28, y29⟩ := HKS.out b1 HP1.out
  go_wp2_with fail
  with_reducible refine (HNEW.out b1 HP1.out 2).mono ?_
  rintro en a2 ⟨hba2, ⟨rfl, hno⟩ | ⟨j, t2, X2, ht2, hi2, -, rfl, hN2⟩⟩
  · exact absurd (by rw [HIDS.out]; decide) hno
  have HK2 := Lib.hid (i_Kind hN2)
  rw [(kind_of HNIL.out ht2 hi2).2.1 rfl] at HK2
  have HA2 := Lib.hid (HP1.out.trans (hba2.mono HP1.out.size))
  clear ht2 hi2 hN2 hba2 y20 y21 y22 y23 y24 y25 y26 y27 y28 y29
  go_wp2_with fail
  with_reducible refine HK2.out.mono ?_
  rintro en b2 ⟨rfl, hbb2⟩
  have HP2 := Lib.hid (HA2.out.trans (hbb2.mono HA2.out.size))
  clear hbb2 HK2
  obtain ⟨y30, y31, y32, y33, y34, y35, y36, y37, y38, y39⟩ := HKS.out b2 HP2.out
  go_wp2_with fail
  with_reducible refine (HNEW.out b2 HP2.out 3).mono ?_
  rintro en a3 ⟨hba3, ⟨rfl, hno⟩ | ⟨j, t3, X3, ht3, hi3, -, rfl, hN3⟩⟩
  · exact absurd (by rw [HIDS.out]; decide) hno
  have HK3 := Lib.hid (i_Kind hN3)
  rw [(kind_of HNIL.out ht3 hi3).2.2.1 rfl] at HK3
  have HA3 := Lib.hid (HP2.out.trans (hba3.mono HP2.out.size))
  clear ht3 hi3 hN3 hba3 y30 y31 y32 y33 y34 y35 y36 y37 y38 y39
  go_wp2_with fail
  with_reducible refine HK3.out.mono ?_
  rintro en b3 ⟨rfl, hbb3⟩
  have HP3 := Lib.hid (HA3.out.trans (hbb3.mono HA3.out.size))
  clear hbb3 HK3
  obtain ⟨y40, y41, y42, y43, y44, y45, y46, y47, y48, y49⟩ := HKS.out b3 HP3.out
  go_wp2_with fail
  with_reducible refine (HNEW.out b3 HP3.out 4).mono ?_
  rintro en a4 ⟨hba4, ⟨rfl, hno⟩ | ⟨j, t4, X4, ht4, hi4, -, rfl, hN4⟩⟩
  · exact absurd (by rw [HIDS.out]; decide) hno
  have HK4 := Lib.hid (i_Kind hN4)
  rw [(kind_of HNIL.out ht4 hi4).2.2.2 rfl] at HK4
  have HA4 := Lib.hid (HP3.out.trans (hba4.mono HP3.out.size))
  clear ht4 hi4 hN4 hba4 y40 y41 y42 y43 y44 y45 y46 y47 y48 y49
  go_wp2_with fail
  with_reducible refine HK4.out.mono ?_
  rintro en b4 ⟨rfl, hbb4⟩
  have HP4 := Lib.hid (HA4.out.trans (hbb4.mono HA4.out.size))
  clear hbb4 HK4
  obtain ⟨y50, y51, y52, y53, y54, y55, y56, y57, y58, y59⟩ := HKS.out b4 HP4.out
  go_wp2_with fail
  with_reducible refine (HNEW.out b4 HP4.out 9).mono ?_
  rintro en a5 ⟨hba5, ⟨rfl, hno⟩ | ⟨j, t5, X5, ht5, hi5, -, rfl, hN5⟩⟩
  · have HA5 := Lib.hid (HP4.out.trans (hba5.mono HP4.out.size))
    clear hba5
    go_wp2_with fail
    go_ret
    exact ⟨rfl, HB4.out.trans (HA5.out.mono HB4.out.size)⟩
  · have hm := List.mem_map_of_mem (f := fun t : TableD => t.id) (List.mem_of_getElem? ht5)
    rw [HIDS.out, hi5] at hm
    exact absurd hm (by decide)
end
/- The walk of IndexNone (written by gen/knon.py). -/
section
open Go.RowKit
set_option maxRecDepth 100000 in
set_option maxHeartbeats 4000000 in
theorem nidx_any (w : World) (Ac : Option Addr) (Dc nc cc : Nat) (lc : List Nat) (hrc : ReadsL w Dc Ac lc) (hdc : lc ≠ [] → Dc < w.heap.size) (hlc : lc.length = nc) (hcc : nc ≤ cc) (hmc : cc ≤ maxLen) (hsc : Small lc) (id : Int) (e0 e2 e3 : Int) (eA fA : Option Addr) (en ec fn fc : Nat) :
    Calls Tryz.prog 3 #[.slice Ac nc cc, .int .i64 id, .agg #[.int .i64 e0, .slice eA en ec, .int .i64 e2, .int .i64 e3, .slice fA fn fc]] w (RetX (.bool true) w) := by
  obtain ⟨W0, hW0⟩ : ∃ W, W = w.alloc (.cells #[.int .i64 e0, .slice eA en ec, .int .i64 e2, .int .i64 e3, .slice fA fn fc] 26) := ⟨_, rfl⟩
  have hB0 : Below w.heap.size w W0 := by rw [hW0]; exact (Below.refl _ _).alloc (Nat.le_refl _) _
  have hz0 : W0.heap.size = w.heap.size + 1 := by rw [hW0]; simp
  have b0 : W0.heap[w.heap.size]? = some (.cells #[.int .i64 e0, .slice eA en ec, .int .i64 e2, .int .i64 e3, .slice fA fn fc] 26 (0, 0)) := by rw [hW0]; exact heap_alloc_new _ _
  have KN0 := cs_newL 120 (by decide) Ac Dc nc cc lc W0 (hrc.kept' (grownN_of_below hB0 none) (fun _ => by simp)) (fun h => Nat.lt_of_lt_of_le (hdc h) hB0.size) hlc hcc hmc hsc
  rw [show ((120 : Nat) : Int) = 120 from rfl] at KN0
  have KN := Lib.hid KN0
  have HW0 := Lib.hid hW0
  have HB0 := Lib.hid hB0
  have HKE : Hid (∀ w', Below W0.heap.size W0 w' → w'.cell? ⟨w.heap.size, 0, none⟩ = some (.int .i64 e0) ∧ w'.cell? ⟨w.heap.size, 1, none⟩ = some (.slice eA en ec) ∧ w'.cell? ⟨w.heap.size, 2, none⟩ = some (.int .i64 e2) ∧ w'.cell? ⟨w.heap.size, 3, none⟩ = some (.int .i64 e3) ∧ w'.cell? ⟨w.heap.size, 4, none⟩ = some (.slice fA fn fc)) := Lib.hid fun w' hb => by
    have q := (hb.block w.heap.size (by omega)).trans b0
    exact ⟨blk_cell q 0 _ rfl, blk_cell q 1 _ rfl, blk_cell q 2 _ rfl, blk_cell q 3 _ rfl, blk_cell q 4 _ rfl⟩
  clear KN0 hW0 hB0 b0 hrc hdc hlc hcc hmc hsc
  go_enter Tryz.func3, Tryz.ntmps3
  go_upto_region 1 with fail
  rw [← HW0.out]
  clear HW0
  go_wp2_with fail
  with_reducible refine KN.out.mono ?_
  rintro en w2 ⟨rfl, hb2, hl2, hc2⟩
  rw [hz0] at hl2 hc2
  have HB2 := Lib.hid hb2
  have HC2 := Lib.hid hc2
  clear hb2 hc2 KN
  go_wp2_with fail
  with_reducible refine (schema_any HC2.out).mono ?_
  rintro en w3 ⟨v0, v1, v2, v3, v4, v5, v6, v7, x, rfl, ⟨hok, -⟩, hel, hg, p, hc⟩
  have hsv := hel w3 w3.heap.size (.refl (Nat.le_refl _)) (Nat.le_refl _)
  have hM := schM_small (smallS_of hok) hsv
  obtain ⟨A0, n0, c0, rfl, _⟩ := hM.f.parts
  obtain ⟨A1, n1, c1, rfl, _⟩ := hM.h.parts
  obtain ⟨A2, n2, c2, rfl, _⟩ := hM.st.parts
  obtain ⟨A3, n3, c3, rfl, _⟩ := hM.a.parts
  obtain ⟨A4, n4, c4, rfl, _⟩ := hM.t.parts
  obtain ⟨A5, n5, c5, rfl, _⟩ := hM.sg.parts
  obtain ⟨A6, n6, c6, rfl, _⟩ := hM.r.parts
  obtain ⟨A7, n7, c7, rfl, _⟩ := hM.rf.parts
  obtain ⟨W4, hW4⟩ : ∃ W, W = w3.alloc (.cells #[.slice A0 n0 c0, .slice A1 n1 c1, .slice A2 n2 c2, .slice A3 n3 c3, .slice A4 n4 c4, .slice A5 n5 c5, .slice A6 n6 c6, .slice A7 n7 c7, .int .i64 x.maxBatch, .int .i64 x.budget] 36) := ⟨_, rfl⟩
  have hb4 : Below w3.heap.size w3 W4 := by rw [hW4]; exact (Below.refl _ _).alloc (Nat.le_refl _) _
  have hz4 : W4.heap.size = w3.heap.size + 1 := by rw [hW4]; simp
  have b4 : W4.heap[w3.heap.size]? = some (.cells #[.slice A0 n0 c0, .slice A1 n1 c1, .slice A2 n2 c2, .slice A3 n3 c3, .slice A4 n4 c4, .slice A5 n5 c5, .slice A6 n6 c6, .slice A7 n7 c7, .int .i64 x.maxBatch, .int .i64 x.budget] 36 (0, 0)) := by rw [hW4]; exact heap_alloc_new _ _
  have hz3 := hg.size
  have hz2 := HB2.out.size
  have HB4 : Hid (Below W0.heap.size W0 W4) := Lib.hid (HB2.out.trans ((below_grownG hg (B := W0.heap.size) (by omega) (by omega)).trans (hb4.mono (by omega))))
  have HNEW : Hid (∀ id, Calls Tryz.prog 17 #[.agg #[.slice A0 n0 c0, .slice A1 n1 c1, .slice A2 n2 c2, .slice A3 n3 c3, .slice A4 n4 c4, .slice A5 n5 c5, .slice A6 n6 c6, .slice A7 n7 c7, .int .i64 x.maxBatch, .int .i64 x.budget], .int .i64 id] W4 (RetIdx W4 x id)) := Lib.hid fun id =>
    i_NewS (kept_schema _ _ _ _ _ hb4 hsv) (by omega) hok id
  have s0 : W4.cell? ⟨w3.heap.size, 0, none⟩ = some (.slice A0 n0 c0) := blk_cell b4 0 _ rfl
  have s1 : W4.cell? ⟨w3.heap.size, 1, none⟩ = some (.slice A1 n1 c1) := blk_cell b4 1 _ rfl
  have s2 : W4.cell? ⟨w3.heap.size, 2, none⟩ = some (.slice A2 n2 c2) := blk_cell b4 2 _ rfl
  have s3 : W4.cell? ⟨w3.heap.size, 3, none⟩ = some (.slice A3 n3 c3) := blk_cell b4 3 _ rfl
  have s4 : W4.cell? ⟨w3.heap.size, 4, none⟩ = some (.slice A4 n4 c4) := blk_cell b4 4 _ rfl
  have s5 : W4.cell? ⟨w3.heap.size, 5, none⟩ = some (.slice A5 n5 c5) := blk_cell b4 5 _ rfl
  have s6 : W4.cell? ⟨w3.heap.size, 6, none⟩ = some (.slice A6 n6 c6) := blk_cell b4 6 _ rfl
  have s7 : W4.cell? ⟨w3.heap.size, 7, none⟩ = some (.slice A7 n7 c7) := blk_cell b4 7 _ rfl
  have s8 : W4.cell? ⟨w3.heap.size, 8, none⟩ = some (.int .i64 x.maxBatch) := blk_cell b4 8 _ rfl
  have s9 : W4.cell? ⟨w3.heap.size, 9, none⟩ = some (.int .i64 x.budget) := blk_cell b4 9 _ rfl
  have HIDS := Lib.hid (tab_ids hok.tables)
  have HW4 := Lib.hid hW4
  clear hW4 hb4 b4 hsv hM hok hel hg hc HC2
  go_upto_region 2 with fail
  rw [← HW4.out]
  clear HW4
  go_wp2_with fail
  with_reducible refine (HNEW.out id).mono ?_
  rintro en a1 ⟨hba, ⟨rfl, hno⟩ | ⟨j, t, X, ht, hi, -, rfl, hN⟩⟩
  · rw [HIDS.out] at hno
    have hno2 : id < 1 ∨ id > 4 := by
      simp only [List.mem_cons, List.not_mem_nil, or_false] at hno
      omega
    clear hno
    by_cases h1 : id < 1
    · clear hno2
      have HP := Lib.hid (HB4.out.trans (hba.mono HB4.out.size))
      clear hba s0 s1 s2 s3 s4 s5 s6 s7 s8 s9 HNEW
      obtain ⟨y0, y1, y2, y3, y4⟩ := HKE.out a1 HP.out
      go_wp2_with fail
      with_reducible refine (i_Find_nil a1 _ ⟨_, _, _, _, _, rfl⟩).mono ?_
      rintro en w5 ⟨gA, gn, gc, hA, hn, hc, rfl, hb5⟩
      have HP5 := Lib.hid (HP.out.trans (hb5.mono HP.out.size))
      clear hb5 y0 y1 y2 y3 y4
      go_upto_region 6 with fail
      obtain ⟨V5, hV5⟩ : ∃ V, V = w5.alloc (.cells #[.int .i64 0, .slice gA gn gc, .int .i64 0, .int .i64 0, .slice hA hn hc, .int .i64 0, .int .i64 0] 43) := ⟨_, rfl⟩
      have HQ5 : Hid (Below W0.heap.size W0 V5) := Lib.hid (by rw [hV5]; exact HP5.out.alloc HP5.out.size _)
      rw [← hV5]
      clear hV5
      obtain ⟨y0, y1, y2, y3, y4⟩ := HKE.out V5 HQ5.out
      go_wp2_with fail
      with_reducible refine (i_Remove_nil V5 _ ⟨_, _, _, _, _, rfl⟩).mono ?_
      rintro en w6 ⟨rfl, hb6⟩
      have HP6 := Lib.hid (HQ5.out.trans (hb6.mono HQ5.out.size))
      clear hb6 y0 y1 y2 y3 y4
      go_upto_region 7 with fail
      obtain ⟨V6, hV6⟩ : ∃ V, V = w6.alloc (.cells #[.int .i64 0, .slice none 0 0, .int .i64 0, .int .i64 0, .slice none 0 0, .int .i64 0, .int .i64 0] 43) := ⟨_, rfl⟩
      have HQ6 : Hid (Below W0.heap.size W0 V6) := Lib.hid (by rw [hV6]; exact HP6.out.alloc HP6.out.size _)
      rw [← hV6]
      clear hV6
      go_wp2_with fail
      with_reducible refine (i_Lookup_nil V6 _).mono ?_
      rintro en w7 ⟨rfl, hb7⟩
      have HP7 := Lib.hid (HQ6.out.trans (hb7.mono HQ6.out.size))
      clear hb7
      go_upto_region 8 with fail
      obtain ⟨V7, hV7⟩ : ∃ V, V = w7.alloc (.cells #[.int .i64 0, .slice none 0 0, .int .i64 0, .int .i64 0, .slice none 0 0, .int .i64 0, .int .i64 0] 43) := ⟨_, rfl⟩
      have HQ7 : Hid (Below W0.heap.size W0 V7) := Lib.hid (by rw [hV7]; exact HP7.out.alloc HP7.out.size _)
      rw [← hV7]
      clear hV7
      go_wp2_with fail
      with_reducible refine (i_Kind_nil V7).mono ?_
      rintro en w8 ⟨rfl, hb8⟩
      have HP8 := Lib.hid (HQ7.out.trans (hb8.mono HQ7.out.size))
      clear hb8
      go_wp2_with fail
      with_reducible refine (i_Len_nil w8).mono ?_
      rintro en w9 ⟨rfl, hb9⟩
      have HP9 := Lib.hid (HP8.out.trans (hb9.mono HP8.out.size))
      clear hb9
      obtain ⟨y0, y1, y2, y3, y4⟩ := HKE.out w9 HP9.out
      go_wp2_with fail
      with_reducible refine (i_Put_nil w9 _).mono ?_
      rintro en w10 ⟨rfl, hb10⟩
      have HP10 := Lib.hid (HP9.out.trans (hb10.mono HP9.out.size))
      clear hb10 y0 y1 y2 y3 y4
      go_wp2_with fail
      with_reducible refine (i_begun w10).mono ?_
      rintro en w11 ⟨rfl, hb11⟩
      have HP11 := Lib.hid (HP10.out.trans (hb11.mono HP10.out.size))
      clear hb11
      go_wp2_with fail
      go_ret
      exact ⟨rfl, HB0.out.trans (HP11.out.mono HB0.out.size)⟩
    · have h4 : id > 4 := by omega
      clear hno2
      have HP := Lib.hid (HB4.out.trans (hba.mono HB4.out.size))
      clear hba s0 s1 s2 s3 s4 s5 s6 s7 s8 s9 HNEW
      obtain ⟨y0, y1, y2, y3, y4⟩ := HKE.out a1 HP.out
      go_wp2_with fail
      with_reducible refine (i_Find_nil a1 _ ⟨_, _, _, _, _, rfl⟩).mono ?_
      rintro en w5 ⟨gA, gn, gc, hA, hn, hc, rfl, hb5⟩
      have HP5 := Lib.hid (HP.out.trans (hb5.mono HP.out.size))
      clear hb5 y0 y1 y2 y3 y4
      go_upto_region 6 with fail
      obtain ⟨V5, hV5⟩ : ∃ V, V = w5.alloc (.cells #[.int .i64 0, .slice gA gn gc, .int .i64 0, .int .i64 0, .slice hA hn hc, .int .i64 0, .int .i64 0] 43) := ⟨_, rfl⟩
      have HQ5 : Hid (Below W0.heap.size W0 V5) := Lib.hid (by rw [hV5]; exact HP5.out.alloc HP5.out.size _)
      rw [← hV5]
      clear hV5
      obtain ⟨y0, y1, y2, y3, y4⟩ := HKE.out V5 HQ5.out
      go_wp2_with fail
      with_reducible refine (i_Remove_nil V5 _ ⟨_, _, _, _, _, rfl⟩).mono ?_
      rintro en w6 ⟨rfl, hb6⟩
      have HP6 := Lib.hid (HQ5.out.trans (hb6.mono HQ5.out.size))
      clear hb6 y0 y1 y2 y3 y4
      go_upto_region 7 with fail
      obtain ⟨V6, hV6⟩ : ∃ V, V = w6.alloc (.cells #[.int .i64 0, .slice none 0 0, .int .i64 0, .int .i64 0, .slice none 0 0, .int .i64 0, .int .i64 0] 43) := ⟨_, rfl⟩
      have HQ6 : Hid (Below W0.heap.size W0 V6) := Lib.hid (by rw [hV6]; exact HP6.out.alloc HP6.out.size _)
      rw [← hV6]
      clear hV6
      go_wp2_with fail
      with_reducible refine (i_Lookup_nil V6 _).mono ?_
      rintro en w7 ⟨rfl, hb7⟩
      have HP7 := Lib.hid (HQ6.out.trans (hb7.mono HQ6.out.size))
      clear hb7
      go_upto_region 8 with fail
      obtain ⟨V7, hV7⟩ : ∃ V, V = w7.alloc (.cells #[.int .i64 0, .slice none 0 0, .int .i64 0, .int .i64 0, .slice none 0 0, .int .i64 0, .int .i64 0] 43) := ⟨_, rfl⟩
      have HQ7 : Hid (Below W0.heap.size W0 V7) := Lib.hid (by rw [hV7]; exact HP7.out.alloc HP7.out.size _)
      rw [← hV7]
      clear hV7
      go_wp2_with fail
      with_reducible refine (i_Kind_nil V7).mono ?_
      rintro en w8 ⟨rfl, hb8⟩
      have HP8 := Lib.hid (HQ7.out.trans (hb8.mono HQ7.out.size))
      clear hb8
      go_wp2_with fail
      with_reducible refine (i_Len_nil w8).mono ?_
      rintro en w9 ⟨rfl, hb9⟩
      have HP9 := Lib.hid (HP8.out.trans (hb9.mono HP8.out.size))
      clear hb9
      obtain ⟨y0, y1, y2, y3, y4⟩ := HKE.out w9 HP9.out
      go_wp2_with fail
      with_reducible refine (i_Put_nil w9 _).mono ?_
      rintro en w10 ⟨rfl, hb10⟩
      have HP10 := Lib.hid (HP9.out.trans (hb10.mono HP9.out.size))
      clear hb10 y0 y1 y2 y3 y4
      go_wp2_with fail
      with_reducible refine (i_begun w10).mono ?_
      rintro en w11 ⟨rfl, hb11⟩
      have HP11 := Lib.hid (HP10.out.trans (hb11.mono HP10.out.size))
      clear hb11
      go_wp2_with fail
      go_ret
      exact ⟨rfl, HB0.out.trans (HP11.out.mono HB0.out.size)⟩
  · have hm := List.mem_map_of_mem (f := fun t : TableD => t.id) (List.mem_of_getElem? ht)
    rw [HIDS.out, hi] at hm
    simp only [List.mem_cons, List.not_mem_nil, or_false] at hm
    have h1 : ¬ id < 1 := by omega
    have h4 : ¬ id > 4 := by omega
    clear hm ht hi hN
    have HP := Lib.hid (HB4.out.trans (hba.mono HB4.out.size))
    clear hba s0 s1 s2 s3 s4 s5 s6 s7 s8 s9 HNEW
    obtain ⟨y0, y1, y2, y3, y4⟩ := HKE.out a1 HP.out
    go_wp2_with fail
    with_reducible refine (i_Find_nil a1 _ ⟨_, _, _, _, _, rfl⟩).mono ?_
    rintro en w5 ⟨gA, gn, gc, hA, hn, hc, rfl, hb5⟩
    have HP5 := Lib.hid (HP.out.trans (hb5.mono HP.out.size))
    clear hb5 y0 y1 y2 y3 y4
    go_upto_region 6 with fail
    obtain ⟨V5, hV5⟩ : ∃ V, V = w5.alloc (.cells #[.int .i64 0, .slice gA gn gc, .int .i64 0, .int .i64 0, .slice hA hn hc, .int .i64 0, .int .i64 0] 43) := ⟨_, rfl⟩
    have HQ5 : Hid (Below W0.heap.size W0 V5) := Lib.hid (by rw [hV5]; exact HP5.out.alloc HP5.out.size _)
    rw [← hV5]
    clear hV5
    obtain ⟨y0, y1, y2, y3, y4⟩ := HKE.out V5 HQ5.out
    go_wp2_with fail
    with_reducible refine (i_Remove_nil V5 _ ⟨_, _, _, _, _, rfl⟩).mono ?_
    rintro en w6 ⟨rfl, hb6⟩
    have HP6 := Lib.hid (HQ5.out.trans (hb6.mono HQ5.out.size))
    clear hb6 y0 y1 y2 y3 y4
    go_upto_region 7 with fail
    obtain ⟨V6, hV6⟩ : ∃ V, V = w6.alloc (.cells #[.int .i64 0, .slice none 0 0, .int .i64 0, .int .i64 0, .slice none 0 0, .int .i64 0, .int .i64 0] 43) := ⟨_, rfl⟩
    have HQ6 : Hid (Below W0.heap.size W0 V6) := Lib.hid (by rw [hV6]; exact HP6.out.alloc HP6.out.size _)
    rw [← hV6]
    clear hV6
    go_wp2_with fail
    with_reducible refine (i_Lookup_nil V6 _).mono ?_
    rintro en w7 ⟨rfl, hb7⟩
    have HP7 := Lib.hid (HQ6.out.trans (hb7.mono HQ6.out.size))
    clear hb7
    go_upto_region 8 with fail
    obtain ⟨V7, hV7⟩ : ∃ V, V = w7.alloc (.cells #[.int .i64 0, .slice none 0 0, .int .i64 0, .int .i64 0, .slice none 0 0, .int .i64 0, .int .i64 0] 43) := ⟨_, rfl⟩
    have HQ7 : Hid (Below W0.heap.size W0 V7) := Lib.hid (by rw [hV7]; exact HP7.out.alloc HP7.out.size _)
    rw [← hV7]
    clear hV7
    go_wp2_with fail
    with_reducible refine (i_Kind_nil V7).mono ?_
    rintro en w8 ⟨rfl, hb8⟩
    have HP8 := Lib.hid (HQ7.out.trans (hb8.mono HQ7.out.size))
    clear hb8
    go_wp2_with fail
    with_reducible refine (i_Len_nil w8).mono ?_
    rintro en w9 ⟨rfl, hb9⟩
    have HP9 := Lib.hid (HP8.out.trans (hb9.mono HP8.out.size))
    clear hb9
    obtain ⟨y0, y1, y2, y3, y4⟩ := HKE.out w9 HP9.out
    go_wp2_with fail
    with_reducible refine (i_Put_nil w9 _).mono ?_
    rintro en w10 ⟨rfl, hb10⟩
    have HP10 := Lib.hid (HP9.out.trans (hb10.mono HP9.out.size))
    clear hb10 y0 y1 y2 y3 y4
    go_wp2_with fail
    with_reducible refine (i_begun w10).mono ?_
    rintro en w11 ⟨rfl, hb11⟩
    have HP11 := Lib.hid (HP10.out.trans (hb11.mono HP10.out.size))
    clear hb11
    go_wp2_with fail
    go_ret
    exact ⟨rfl, HB0.out.trans (HP11.out.mono HB0.out.size)⟩
end
end Go.Proofs.YtldgjahpmlafgaaGreat
