/- Layer 11: rows of pairs; the sort's world; sorted lists. -/
import Derived.Test.YtjdecoiciecfpaaQSort
import Derived.Test.YtjdecoiciecfpaaQLay
namespace Go.Proofs.Ytjdecoiciecfpaa
open Go.RowKit Go.Maps Go.Sort
/-- a pair's cells -/
def encP (f : Pt → Int) (p : Pt) : List Value := p.cells ++ [.int .i64 (f p)]
theorem encP_len (f : Pt → Int) (p : Pt) : (encP f p).length = 9 := rfl
theorem encP_one (f : Pt → Int) (p : Pt) : ∀ v ∈ encP f p, v.oneCell' = true := fun v hv => by
  simp only [encP, Pt.cells, List.cons_append, List.nil_append, List.mem_cons, List.not_mem_nil, or_false] at hv
  rcases hv with h | h | h | h | h | h | h | h | h <;> rw [h] <;> rfl
def rowP (f : Pt → Int) (l : List Pt) : List Value := l.flatMap (encP f)
theorem rowP_snoc (f : Pt → Int) (l : List Pt) (p : Pt) : rowP f (l ++ [p]) = rowP f l ++ encP f p := by simp [rowP]
theorem rowP_len (f : Pt → Int) : ∀ l : List Pt, (rowP f l).length = l.length * 9
  | [] => rfl
  | x :: r => by
    show (encP f x ++ rowP f r).length = _
    rw [List.length_append, rowP_len f r, encP_len, List.length_cons]
    omega
theorem rowP_get (f : Pt → Int) : ∀ (l : List Pt) (i j : Nat) (p : Pt), l[i]? = some p → j < 9 → (rowP f l)[i * 9 + j]? = (encP f p)[j]?
  | [], i, j, p, h, _ => by simp at h
  | x :: r, i, j, p, h, hj => by
    show (encP f x ++ rowP f r)[i * 9 + j]? = _
    cases i with
    | zero =>
      simp at h; subst h
      rw [List.getElem?_append_left (by rw [encP_len]; omega)]; simp
    | succ i =>
      rw [List.getElem?_append_right (by rw [encP_len]; omega), encP_len, show (i + 1) * 9 + j - 9 = i * 9 + j by omega]
      exact rowP_get f r i j p (by simpa using h) hj
theorem rowP_flat (f : Pt → Int) (l : List Pt) : (flatK (encP f) 9 l.toArray).toList = rowP f l := by
  apply List.ext_getElem?
  intro t
  by_cases ht : t < l.length * 9
  · have hi : t / 9 < l.length := by omega
    have e := rowP_get f l (t / 9) (t % 9) l[t / 9] (List.getElem?_eq_getElem hi) (by omega)
    rw [show t / 9 * 9 + t % 9 = t by omega] at e
    rw [e, Array.getElem?_toList, Array.getElem?_eq_getElem (by simpa using ht)]
    have h2 := get_flatK (encP f) 9 l.toArray t (by simpa using ht)
    rw [getElem!_pos _ t (by simpa using ht)] at h2
    rw [h2, List.getElem?_eq_getElem (by rw [encP_len]; omega)]
    rw [getElem!_pos l.toArray (t / 9) (by simpa using hi), List.getElem_toArray, getElem!_pos (encP f l[t / 9]) (t % 9) (by rw [encP_len]; omega)]
  · rw [List.getElem?_eq_none (by simp; omega), List.getElem?_eq_none (by rw [rowP_len]; omega)]
theorem holds_of_own {w : World} {base : Nat} {e : TypeId} {g cap : Nat} {f : Pt → Int} {l : List Pt} (h : w.ownsRow base e 9 (.slice (some ⟨g, 0, none⟩) l.length cap) l.length (rowP f l)) : HoldsK (encP f) 9 w g 0 l.toArray := by
  intro j hj
  have hj2 : j < l.length * 9 := by simpa using hj
  refine ⟨?_, World.ownsRow.frozenAt h _⟩
  rw [Nat.zero_add, World.ownsRow.cellAt h j hj2, ← rowP_flat, Array.getElem?_toList, Array.getElem?_eq_getElem hj]
  rw [getElem!_pos _ j hj]; rfl
theorem own_sorted {w : World} {base : Nat} {e : TypeId} {g cap q : Nat} {f : Pt → Int} {l l' : List Pt} (os : Array Obj) (h : w.ownsRow base e 9 (.slice (some ⟨g, 0, none⟩) l.length cap) l.length (rowP f l)) (hl : l'.length = l.length) :
    (sortWorldK (encP f) 9 w g 0 q l'.toArray os).ownsRow base e 9 (.slice (some ⟨g, 0, none⟩) l.length cap) l.length (rowP f l') := by
  rcases h.2 with ⟨e0, _⟩ | ⟨g', cap', cur, e0, hb, hg, hn, hm, hs, ht⟩
  · cases e0
  · injection e0 with e1 _ e3
    injection e1 with e1
    injection e1 with e1
    subst e1; subst e3
    have hlt : g < w.heap.size := (Array.getElem?_eq_some_iff.1 hg).1
    refine ⟨by rw [rowP_len, hl], .inr ⟨g, cap, putCells id 0 (flatK (encP f) 9 l'.toArray) cur, rfl, hb, ?_, hn, hm, by simpa [putCells] using hs, ?_⟩⟩
    · unfold sortWorldK
      rw [heap_grow_old _ _ (by simpa [putRowK, putRow, mapBlock, Sort.ahead] using hlt)]
      simp [putRowK, putRow, mapBlock, Sort.ahead, Array.getElem?_modify, hg, onCells]
    · rw [← rowP_flat]
      apply List.ext_getElem?
      intro j
      rw [List.getElem?_take, Array.getElem?_toList, Array.getElem?_toList]
      by_cases hj : j < l.length * 9
      · have hjc : j < cur.size := by have := Nat.mul_le_mul_right 9 hn; omega
        have hjf : j < (flatK (encP f) 9 l'.toArray).size := by simp [hl]; omega
        simp only [if_pos hj, putCells, Array.getElem?_mapIdx, Array.getElem?_eq_getElem hjc, Option.map_some]
        rw [if_pos (by omega), Array.getElem?_eq_getElem hjf, Nat.sub_zero, getElem!_pos _ j hjf]; rfl
      · rw [if_neg hj, Array.getElem?_eq_none (by simp [hl]; omega)]
theorem below_sorted {w : World} {B g q : Nat} {f : Pt → Int} {l : List Pt} (os : Array Obj) (hg : B ≤ g) (hB : B ≤ w.heap.size) : Below B w (sortWorldK (encP f) 9 w g 0 q l.toArray os) := by
  refine ⟨rfl, rfl, rfl, by simp [sortWorldK, putRowK, putRow, mapBlock, Sort.ahead], fun k hk => ?_⟩
  unfold sortWorldK
  rw [heap_grow_old _ _ (by simp [putRowK, putRow, mapBlock, Sort.ahead]; omega)]
  simp [putRowK, putRow, mapBlock, Sort.ahead, Array.getElem?_modify, show g ≠ k by omega]
/-- 'less' by points is a strict weak order -/
theorem ltP (x y : Pt) : ltOf cmpP x y = decide (x.num < y.num) := by
  unfold ltOf
  by_cases h : x.num < y.num
  · rw [decide_eq_true h, decide_eq_true ((cmpP_lt x y).2 h)]
  · rw [decide_eq_false h, decide_eq_false fun e => h ((cmpP_lt x y).1 e)]
theorem swoP : SWO (ltOf cmpP) where
  irrefl x := by rw [ltP]; simp
  trans x y z h1 h2 := by rw [ltP] at *; simp at *; omega
  ntrans x y z h1 h2 := by rw [ltP] at *; simp at *; omega
theorem totP (x y : Pt) (h1 : ltOf cmpP x y = false) (h2 : ltOf cmpP y x = false) : x = y := by
  rw [ltP] at h1 h2
  simp at h1 h2
  exact Pt.num_inj (by omega)
/-- the sorted list of these points is the ascending one -/
theorem sort_asc {l m : List Pt} (hd : l.Nodup) (ha : Asc m) (hm : ∀ q, q ∈ l ↔ q ∈ m) : l.mergeSort (fun x y => !(ltOf cmpP) y x) = m := by
  have hle : (fun x y => !(ltOf cmpP) y x) = fun x y : Pt => decide (x.num ≤ y.num) := by
    funext x y
    rw [ltP]
    by_cases h : y.num < x.num
    · rw [decide_eq_true h, decide_eq_false (by omega)]; rfl
    · rw [decide_eq_false h, decide_eq_true (by omega)]; rfl
  rw [hle]
  have hp := List.mergeSort_perm l (fun x y : Pt => decide (x.num ≤ y.num))
  have hs := List.pairwise_mergeSort (le := fun x y : Pt => decide (x.num ≤ y.num)) (fun a b c h1 h2 => by simp at *; omega) (fun a b => by simp; omega) l
  have hn : (l.mergeSort fun x y : Pt => decide (x.num ≤ y.num)).Nodup := hp.nodup_iff.2 hd
  refine asc_ext ?_ ha fun q => (hp.mem_iff).trans (hm q)
  refine List.Pairwise.imp₂ ?_ hs hn
  intro a b h1 h2
  have h1 : a.num ≤ b.num := by simpa using h1
  rcases Nat.lt_or_ge a.num b.num with h | h
  · exact h
  · exact absurd (Pt.num_inj (Nat.le_antisymm h1 h)) h2
def RetSort (f : Pt → Int) (w : World) (g cap n : Nat) (m : List Pt) (base : Nat) (en : Ending) (w' : World) : Prop := en = .returned (.tuple #[]) ∧ w'.ownsRow base 84 9 (.slice (some ⟨g, 0, none⟩) n cap) n (rowP f m) ∧ Below base w w'
set_option maxRecDepth 100000 in
set_option maxHeartbeats 1000000 in
theorem qx_sort {w : World} {base g cap : Nat} {f : Pt → Int} {l m : List Pt} (h : w.ownsRow base 84 9 (.slice (some ⟨g, 0, none⟩) l.length cap) l.length (rowP f l)) (hlen : l.length ≤ 100000) (hd : l.Nodup) (ha : Asc m) (hm : ∀ q, q ∈ l ↔ q ∈ m) (hbase : base ≤ w.heap.size) :
    Calls Try.prog 76 #[.slice (some ⟨g, 0, none⟩) l.length cap, .func (.func 77) #[] #[]] w (RetSort f w g cap l.length m base) := by
  have eg : ∀ args w, (callFunc 77 args).run Try.prog w = .ok (.enter 77 args) w := enters_of Try.func77 (by kernel_rfl) rfl
  have hcmp : CmpLays Try.prog 77 #[] (encP f) 9 cmpP g 0 l.toArray.size w := fun n os dk _ x y => by
    have hb := qs_byPoint x y (f x) (f y) (sortWorldK (encP f) 9 w g 0 n dk os)
    exact hb.mono fun _ _ ⟨h1, q, os', h2⟩ => ⟨h1, q, os', h2⟩
  have hg : base ≤ g ∧ g < w.heap.size := by
    rcases h.2 with ⟨e0, _⟩ | ⟨g', cap', cur, e0, hb, hg, _⟩
    · cases e0
    · injection e0 with e1 _ e3
      injection e1 with e1
      injection e1 with e1
      subst e1
      exact ⟨hb, (Array.getElem?_eq_some_iff.1 hg).1⟩
  have hcon := AnyQ.slices_SortFunc_total sortPair 9 Try.isAgg84 Try.sizeOf84 (encP f) (encP_len f) (encP_one f) cmpP swoP 77 #[] g 0 cap l.toArray w eg hcmp (holds_of_own h) hg.2 (by simp; omega) totP
  have e2 : l.toArray.toList.mergeSort (fun x y => !(ltOf cmpP) y x) = m := sort_asc hd ha hm
  have hl : m.length = l.length := by rw [← e2]; exact List.length_mergeSort _
  rw [e2] at hcon
  refine hcon.mono ?_
  rintro e w' ⟨rfl, n, os, rfl⟩
  exact ⟨rfl, own_sorted os h hl, below_sorted os hg.1 hbase⟩
end Go.Proofs.Ytjdecoiciecfpaa
