/- Contracts, joined: ERefH, ERefT. -/
import Derived.Test.YtodmkmoglchoeaaGreatDoorERefP
import Derived.Test.YtodmkmoglchoeaaGreatDoorEHold
import Derived.Test.YtodmkmoglchoeaaGreatDoorJNRef
import Derived.Test.YtodmkmoglchoeaaGreatDoorJYLaw
import Derived.Test.YtodmkmoglchoeaaGreatDoorNBegun
namespace Go.Proofs.YtodmkmoglchoeaaGreatDoor
/- Layer 9: the reference's Holds. -/
section
open Go.RowKit

/-- a node's box in block Q -/
structure NX (w : World) (Q : Nat) (xs : Array Value) (w' : World) : Prop where
  below : Below w.heap.size w w'
  le : w.heap.size ≤ Q
  size : Q < w'.heap.size
  at_ : ∀ j, w'.cell? ⟨Q, j, none⟩ = xs[j]?
theorem NX.call {w W W' : World} {Q : Nat} {xs : Array Value} (h : NX w Q xs W) (hx : Below W.heap.size W W') : NX w Q xs W' :=
  ⟨h.below.trans (hx.mono h.below.size), h.le, Nat.lt_of_lt_of_le h.size hx.size, fun j => (hx.cell (p := ⟨Q, j, none⟩) h.size).trans (h.at_ j)⟩
theorem NX.drew {w W : World} {Q : Nat} {xs : Array Value} (h : NX w Q xs W) : NX w Q xs W.drew := h.call (Below.refl _ _).drew
theorem NX.set {w W : World} {Q : Nat} {xs : Array Value} (h : NX w Q xs W) {P : Nat} (hP : w.heap.size ≤ P) (hne : P ≠ Q) (o : Nat) (v : Value) : NX w Q xs (W.setCell ⟨P, o, none⟩ v) :=
  ⟨h.below.setCell (p := ⟨P, o, none⟩) hP _, h.le, by rw [World.size_setCell]; exact h.size, fun j => by rw [World.cell?_setCell_far _ _ _ _ (by exact hne)]; exact h.at_ j⟩
def nxs (op a b : Nat) (nm at_ : ByteArray) (u v : Int) : Array Value := #[.int .i64 (op : Int), .int .i64 (a : Int), .int .i64 (b : Int), .string nm, .string at_, .int .u64 u, .int .u64 v]
theorem NX.all {w w' : World} {Q op a b : Nat} {nm at_ : ByteArray} {u v : Int} (h : NX w Q (nxs op a b nm at_ u v) w') : NX w Q (nxs op a b nm at_ u v) w' ∧ w'.cell? ⟨Q, 0, none⟩ = some (.int .i64 (op : Int)) ∧ w'.cell? ⟨Q, 1, none⟩ = some (.int .i64 (a : Int)) ∧ w'.cell? ⟨Q, 2, none⟩ = some (.int .i64 (b : Int)) := ⟨h, h.at_ 0, h.at_ 1, h.at_ 2⟩
theorem IntS.storeB {w : World} {s : Bool} {A : Option Addr} {n c : Nat} {z : Int} (h : IntS w s A n c z) {b : Nat} {x : Bool} (c0 : w.cell? ⟨b, 0, none⟩ = some (.bool x)) (y : Bool) (v : Value) : IntS ((w.setCell ⟨b, 0, none⟩ (.bool y)).setCell ⟨b, 1, none⟩ v) s A n c z := ⟨h.1, h.2.1, h.2.2.1, h.2.2.2.1, h.2.2.2.2.store c0 y v⟩
/-- the result's cell in block P -/
structure RC (w : World) (P : Nat) : Prop where
  c0 : w.cell? ⟨P, 0, none⟩ = some (.bool false)
  c1 : w.cell? ⟨P, 1, none⟩ = some (.slice none 0 0)
  f0 : w.frozen? ⟨P, 0, none⟩ = false
  f1 : w.frozen? ⟨P, 1, none⟩ = false
theorem RC.call {w w' : World} {P : Nat} (h : RC w P) (hb : Below w.heap.size w w') : RC w' P := by
  have hl : P < w.heap.size := World.block_lt_of_cell? w _ h.c0
  exact ⟨(hb.cell (p := ⟨P, 0, none⟩) hl).trans h.c0, (hb.cell (p := ⟨P, 1, none⟩) hl).trans h.c1, (hb.frozen (p := ⟨P, 0, none⟩) hl).trans h.f0, (hb.frozen (p := ⟨P, 1, none⟩) hl).trans h.f1⟩
theorem RC.drew {w : World} {P : Nat} (h : RC w P) : RC w.drew P := h.call (Below.refl _ _).drew
theorem RC.all {w : World} {P : Nat} (h : RC w P) : w.cell? ⟨P, 0, none⟩ = some (.bool false) ∧ w.cell? ⟨P, 1, none⟩ = some (.slice none 0 0) ∧ w.frozen? ⟨P, 0, none⟩ = false ∧ w.frozen? ⟨P, 1, none⟩ = false := ⟨h.c0, h.c1, h.f0, h.f1⟩
theorem mn_bnd {env : ByteArray → ByteArray → Nat} (hE : EnvB env) (t : Tr) : t.Ok → Bnd (t.mn env) t.size := by
  induction t with
  | leaf n => intro h; exact leaf_bnd hE h
  | un o t ih => intro h; exact (opMn_bnd (ih h.2) (bnd_tru false 1)).mono (Nat.le_refl _)
  | bin o t u ih1 ih2 => intro h; exact (opMn_bnd (ih1 h.2.2.1) (ih2 h.2.2.2)).mono (by show _ ≤ t.size + u.size + 1; omega)
theorem bd_of {z : Int} {k : Nat} (h : z.natAbs ≤ k * 340282366920938463463374607431768211456) (hk : k ≤ 1000) : Bd z := by
  have h1 := bd_small (n := z.natAbs) (Nat.lt_of_le_of_lt h (Nat.lt_of_le_of_lt (Nat.mul_le_mul_right _ hk) (by decide)))
  unfold Bd at h1 ⊢
  rwa [Int.natAbs_natCast] at h1
theorem bd_tr {env : ByteArray → ByteArray → Nat} (hE : EnvB env) {t : Tr} (h : t.Ok) (hs : t.size ≤ 500) : Bd (t.mn env).int := bd_of (bnd_int (mn_bnd hE t h)) (by omega)
/-- a well-typed tree means what its type says -/
theorem ty_mn {env : ByteArray → ByteArray → Nat} (t : Tr) : t.Ok → t.Wt → (t.ty = 1 → t.mn env = .num (t.mn env).int) ∧ (t.ty = 2 → t.mn env = .tru (t.mn env).bool) := by
  induction t with
  | leaf n =>
    intro h _
    have ho := h.op
    show (typO n.op = 1 → ndM env n [] = _) ∧ (typO n.op = 2 → ndM env n [] = _)
    unfold Tr.mn ndM
    have : n.op = 1 ∨ n.op = 2 ∨ n.op = 3 := by omega
    rcases this with e | e | e <;> rw [e]
    · exact ⟨fun _ => rfl, fun h => (by cases h)⟩
    · exact ⟨fun h => (by cases h), fun _ => rfl⟩
    · exact ⟨fun _ => rfl, fun h => (by cases h)⟩
  | un o t ih =>
    intro h hw
    obtain ⟨i1, i2⟩ := ih h.2 hw.1
    rcases h.1 with rfl | rfl
    · have e := i1 (hw.2.1 rfl)
      refine ⟨fun _ => ?_, fun h => (by cases h)⟩
      unfold Tr.mn
      rw [e]; rfl
    · have e := i2 (hw.2.2 rfl)
      refine ⟨fun h => (by cases h), fun _ => ?_⟩
      unfold Tr.mn
      rw [e]; rfl
  | bin o t u ih1 ih2 =>
    intro h hw
    obtain ⟨i1, i2⟩ := ih1 h.2.2.1 hw.1
    obtain ⟨j1, j2⟩ := ih2 h.2.2.2 hw.2.1
    have hf := hw.2.2
    have h6 := h.1
    have h16 := h.2.1
    have ho : o = 6 ∨ o = 7 ∨ o = 8 ∨ o = 9 ∨ o = 10 ∨ o = 11 ∨ o = 12 ∨ o = 13 ∨ o = 14 ∨ o = 15 ∨ o = 16 := by omega
    unfold Tr.mn
    have num : ∀ o, (o = 6 ∨ o = 7 ∨ o = 10 ∨ o = 11 ∨ o = 12 ∨ o = 13) → fitO o t.ty u.ty = true → t.ty = 1 ∧ u.ty = 1 := by
      intro o ho hf
      rcases ho with rfl | rfl | rfl | rfl | rfl | rfl
      all_goals
        have hf2 : (decide (t.ty = 1) && decide (u.ty = 1)) = true := hf
        rw [Bool.and_eq_true, decide_eq_true_iff, decide_eq_true_iff] at hf2
        exact hf2
    have tru : ∀ o, (o = 14 ∨ o = 15 ∨ o = 16) → fitO o t.ty u.ty = true → t.ty = 2 ∧ u.ty = 2 := by
      intro o ho hf
      rcases ho with rfl | rfl | rfl
      all_goals
        have hf2 : (decide (t.ty = 2) && decide (u.ty = 2)) = true := hf
        rw [Bool.and_eq_true, decide_eq_true_iff, decide_eq_true_iff] at hf2
        exact hf2
    rcases ho with rfl | rfl | rfl | rfl | rfl | rfl | rfl | rfl | rfl | rfl | rfl
    · obtain ⟨a, b⟩ := num 6 (by decide) hf
      rw [i1 a, j1 b]; exact ⟨fun _ => rfl, fun h => (by cases h)⟩
    · obtain ⟨a, b⟩ := num 7 (by decide) hf
      rw [i1 a, j1 b]; exact ⟨fun _ => rfl, fun h => (by cases h)⟩
    · exact ⟨fun h => (by cases h), fun _ => rfl⟩
    · exact ⟨fun h => (by cases h), fun _ => rfl⟩
    · obtain ⟨a, b⟩ := num 10 (by decide) hf
      rw [i1 a, j1 b]; exact ⟨fun h => (by cases h), fun _ => rfl⟩
    · obtain ⟨a, b⟩ := num 11 (by decide) hf
      rw [i1 a, j1 b]; exact ⟨fun h => (by cases h), fun _ => rfl⟩
    · obtain ⟨a, b⟩ := num 12 (by decide) hf
      rw [i1 a, j1 b]; exact ⟨fun h => (by cases h), fun _ => rfl⟩
    · obtain ⟨a, b⟩ := num 13 (by decide) hf
      rw [i1 a, j1 b]; exact ⟨fun h => (by cases h), fun _ => rfl⟩
    · obtain ⟨a, b⟩ := tru 14 (by decide) hf
      rw [i2 a, j2 b]; exact ⟨fun h => (by cases h), fun _ => rfl⟩
    · obtain ⟨a, b⟩ := tru 15 (by decide) hf
      rw [i2 a, j2 b]; exact ⟨fun h => (by cases h), fun _ => rfl⟩
    · obtain ⟨a, b⟩ := tru 16 (by decide) hf
      rw [i2 a, j2 b]; exact ⟨fun h => (by cases h), fun _ => rfl⟩
/-- types of a two-part operation's parts -/
theorem wt_num {o : Nat} {t u : Tr} (hw : (Tr.bin o t u).Wt) (ho : o = 6 ∨ o = 7 ∨ o = 10 ∨ o = 11 ∨ o = 12 ∨ o = 13) : t.ty = 1 ∧ u.ty = 1 := by
  have hf := hw.2.2
  rcases ho with rfl | rfl | rfl | rfl | rfl | rfl
  all_goals
    have hf2 : (decide (t.ty = 1) && decide (u.ty = 1)) = true := hf
    rw [Bool.and_eq_true, decide_eq_true_iff, decide_eq_true_iff] at hf2
    exact hf2
theorem wt_tru {o : Nat} {t u : Tr} (hw : (Tr.bin o t u).Wt) (ho : o = 14 ∨ o = 15 ∨ o = 16) : t.ty = 2 ∧ u.ty = 2 := by
  have hf := hw.2.2
  rcases ho with rfl | rfl | rfl
  all_goals
    have hf2 : (decide (t.ty = 2) && decide (u.ty = 2)) = true := hf
    rw [Bool.and_eq_true, decide_eq_true_iff, decide_eq_true_iff] at hf2
    exact hf2
theorem wt_eq {o : Nat} {t u : Tr} (hw : (Tr.bin o t u).Wt) (ho : o = 8 ∨ o = 9) : (t.ty = 1 ∧ u.ty = 1) ∨ (t.ty = 2 ∧ u.ty = 2) := by
  have hf := hw.2.2
  have hf2 : (decide (t.ty = u.ty) && decide (t.ty ≠ 0)) = true := by
    rcases ho with rfl | rfl <;> exact hf
  rw [Bool.and_eq_true, decide_eq_true_iff] at hf2
  have h1 : t.ty = 1 ∨ t.ty = 2 := by unfold Tr.ty typO; split <;> omega
  have h2 := hf2.1
  omega
/-- the nodes and the bindings in memory, as the reference reads them -/
structure RIn (w : World) (A : Option Addr) (n c : Nat) (o : List Nd) (A2 : Option Addr) (n2 c2 : Nat) (bl : List BindN) : Prop where
  hn : o.length = n
  hn4 : n ≤ 400
  hc : n ≤ c
  hN : NodR w A o
  hl2 : bl.length = n2
  hc2 : n2 ≤ c2
  hn2 : n2 ≤ 100000
  hB : BiR w A2 bl
theorem RIn.below {w w' : World} {A : Option Addr} {n c : Nat} {o : List Nd} {A2 : Option Addr} {n2 c2 : Nat} {bl : List BindN} (h : RIn w A n c o A2 n2 c2 bl) (hb : Below w.heap.size w w') : RIn w' A n c o A2 n2 c2 bl := ⟨h.hn, h.hn4, h.hc, h.hN.below hb, h.hl2, h.hc2, h.hn2, h.hB.below hb⟩
theorem envB_drop (bl : List BindN) (k : Nat) (b : BindN) (hb : bl[k]? = some b) (nm at_ : ByteArray) : envB (bl.drop k) nm at_ = if b.name = nm ∧ b.attr = at_ then b.val else envB (bl.drop (k + 1)) nm at_ := by
  obtain ⟨h1, h2⟩ := List.getElem?_eq_some_iff.1 hb
  rw [List.drop_eq_getElem_cons h1, h2]; rfl
set_option maxRecDepth 100000 in
set_option maxHeartbeats 2000000 in
theorem rf_isnum (op a b : Nat) (nm at_ : ByteArray) (u v : Int) (w : World) : Calls Tryz.prog 98 #[.agg #[.int .i64 (op : Int), .int .i64 (a : Int), .int .i64 (b : Int), .string nm, .string at_, .int .u64 u, .int .u64 v]] w (RetX (.bool (numO op)) w) := by
  by_cases h1 : op = 1
  · subst h1
    go_enter Tryz.func98, Tryz.ntmps98
    go_wp2
    go_ret
    exact ⟨rfl, (Below.refl _ _).alloc (Nat.le_refl _) _⟩
  by_cases h3 : op = 3
  · subst h3
    go_enter Tryz.func98, Tryz.ntmps98
    go_wp2
    go_ret
    exact ⟨rfl, (Below.refl _ _).alloc (Nat.le_refl _) _⟩
  by_cases h4 : op = 4
  · subst h4
    go_enter Tryz.func98, Tryz.ntmps98
    go_wp2
    go_ret
    exact ⟨rfl, (Below.refl _ _).alloc (Nat.le_refl _) _⟩
  by_cases h6 : op = 6
  · subst h6
    go_enter Tryz.func98, Tryz.ntmps98
    go_wp2
    go_ret
    exact ⟨rfl, (Below.refl _ _).alloc (Nat.le_refl _) _⟩
  by_cases h7 : op = 7
  · subst h7
    go_enter Tryz.func98, Tryz.ntmps98
    go_wp2
    go_ret
    exact ⟨rfl, (Below.refl _ _).alloc (Nat.le_refl _) _⟩
  have e : numO op = false := by unfold numO; simp [h1, h3, h4, h6, h7]
  rw [e]
  have i1 : ¬ (op : Int) = 1 := by omega
  have i3 : ¬ (op : Int) = 3 := by omega
  have i4 : ¬ (op : Int) = 4 := by omega
  have i6 : ¬ (op : Int) = 6 := by omega
  have i7 : ¬ (op : Int) = 7 := by omega
  go_enter Tryz.func98, Tryz.ntmps98
  go_wp2
  go_ret
  exact ⟨by simp [i1, i3, i4, i6, i7], (Below.refl _ _).alloc (Nat.le_refl _) _⟩
set_option maxRecDepth 100000 in
set_option maxHeartbeats 4000000 in
theorem rf_int_num (w : World) {A : Option Addr} {n c : Nat} {o : List Nd} {A2 : Option Addr} {n2 c2 : Nat} {bl : List BindN} (hI : RIn w A n c o A2 n2 c2 bl) (i : Nat) (val : Nat) (hv : val < 2 ^ 128) (hi : o[i]? = some ⟨1, 0, 0, ⟨#[]⟩, ⟨#[]⟩, val⟩) :
    Calls Tryz.prog 100 #[.slice A n c, .int .i64 (i : Int), .slice A2 n2 c2] w (RetF (val : Int) w) := by
  have hin : i < n := by rw [← hI.hn]; exact (List.getElem?_eq_some_iff.1 hi).1
  have hiI : (i : Int) < (n : Int) := by omega
  have hi0 : 0 ≤ (i : Int) := by omega
  obtain ⟨g, e1, l1, q0, q1, q2, q3, q4, q5, q6⟩ := nod_cells hI.hN (k := i) (by rw [hI.hn]; exact hin)
  rw [(List.getElem?_eq_some_iff.1 hi).2] at q0 q1 q2 q3 q4 q5 q6
  simp only at q0 q1 q2 q3 q4 q5 q6
  subst e1
  have HI := Lib.hid hI
  clear hI hi
  have KF := Lib.hid (ri_from val hv)
  obtain ⟨xu, hxu⟩ : ∃ x, x = hi val := ⟨_, rfl⟩
  obtain ⟨xv, hxv⟩ : ∃ x, x = lo val := ⟨_, rfl⟩
  rw [← hxu, ← hxv] at KF
  rw [← hxu] at q5
  rw [← hxv] at q6
  clear hxu hxv
  obtain ⟨W, hW⟩ : ∃ W, W = (w.alloc (.cells #[.bool false, .slice none 0 0] 197)).alloc (.cells #[.int .i64 ((1 : Nat) : Int), .int .i64 ((0 : Nat) : Int), .int .i64 ((0 : Nat) : Int), .string ⟨#[]⟩, .string ⟨#[]⟩, .int .u64 xu, .int .u64 xv] 131) := ⟨_, rfl⟩
  have hX : NX w (w.heap.size + 1) (nxs 1 0 0 ⟨#[]⟩ ⟨#[]⟩ xu xv) W := by
    rw [hW]
    refine ⟨((Below.refl _ _).alloc (Nat.le_refl _) _).alloc (by simp) _, by omega, by simp, fun j => ?_⟩
    rw [show w.heap.size + 1 = (w.alloc (.cells #[.bool false, .slice none 0 0] 197)).heap.size by simp, World.cell?_alloc_new]
    rfl
  have hR : RC W w.heap.size := by
    rw [hW]
    refine ⟨?_, ?_, ?_, ?_⟩ <;> simp [go_sem]
  have HX := Lib.hid hX
  have HR := Lib.hid hR
  have HW := Lib.hid hW
  clear hX hR hW
  go_enter Tryz.func100, Tryz.ntmps100
  go_upto_region 2 with fail
  change Code.wp _ _ _ _ ((w.alloc (.cells #[.bool false, .slice none 0 0] 197)).alloc (.cells #[.int .i64 ((1 : Nat) : Int), .int .i64 ((0 : Nat) : Int), .int .i64 ((0 : Nat) : Int), .string ⟨#[]⟩, .string ⟨#[]⟩, .int .u64 xu, .int .u64 xv] 131))
  rw [← HW.out]
  clear HW q0 q1 q2 q3 q4 q5 q6
  obtain ⟨r0, r1, f0, f1⟩ := HR.out.all
  have c0 : W.cell? ⟨w.heap.size + 1, 0, none⟩ = some (.int .i64 ((1 : Nat) : Int)) := HX.out.at_ 0
  have c5 : W.cell? ⟨w.heap.size + 1, 5, none⟩ = some (.int .u64 xu) := HX.out.at_ 5
  have c6 : W.cell? ⟨w.heap.size + 1, 6, none⟩ = some (.int .u64 xv) := HX.out.at_ 6
  go_wp2_with fail
  go_at_call 130
  refine (KF.out W).mono ?_
  rintro e w2 ⟨s, Az, nz, cz, rfl, hz, hb2⟩
  have HZ := Lib.hid hz
  have HX2 := Lib.hid (HX.out.call hb2)
  have HR2 := Lib.hid (HR.out.call hb2)
  clear hb2 hz c0 c5 c6 r0 r1 f0 f1
  obtain ⟨r0, r1, f0, f1⟩ := HR2.out.all
  go_wp2_with fail
  refine bodyPost_ret (v := .agg #[.bool s, .slice Az nz cz]) (by simp [results, Tryz.results100, go_sem, r0, r1]) rfl ⟨s, Az, nz, cz, rfl, HZ.out.storeB r0 _ _, store2 HX2.out.below (Nat.le_refl _) _ _⟩
set_option maxRecDepth 100000 in
set_option maxHeartbeats 4000000 in
theorem rf_int_var (w : World) {A : Option Addr} {n c : Nat} {o : List Nd} {A2 : Option Addr} {n2 c2 : Nat} {bl : List BindN} (hI : RIn w A n c o A2 n2 c2 bl) (i : Nat) (nm at_ : ByteArray) (hs1 : nm.size ≤ maxLen) (hs2 : at_.size ≤ maxLen) (hi : o[i]? = some ⟨3, 0, 0, nm, at_, 0⟩) :
    Calls Tryz.prog 100 #[.slice A n c, .int .i64 (i : Int), .slice A2 n2 c2] w (RetF (envB bl nm at_ : Int) w) := by
  have hin : i < n := by rw [← hI.hn]; exact (List.getElem?_eq_some_iff.1 hi).1
  have hiI : (i : Int) < (n : Int) := by omega
  have hi0 : 0 ≤ (i : Int) := by omega
  obtain ⟨g, e1, l1, q0, q1, q2, q3, q4, q5, q6⟩ := nod_cells hI.hN (k := i) (by rw [hI.hn]; exact hin)
  rw [(List.getElem?_eq_some_iff.1 hi).2] at q0 q1 q2 q3 q4 q5 q6
  simp only at q0 q1 q2 q3 q4 q5 q6
  subst e1
  have HI := Lib.hid hI
  clear hI hi
  obtain ⟨val, hval0⟩ : ∃ v, v = envB bl nm at_ := ⟨_, rfl⟩
  rw [← hval0]
  have HVAL0 := Lib.hid hval0
  clear hval0
  obtain ⟨W, hW⟩ : ∃ W, W = (w.alloc (.cells #[.bool false, .slice none 0 0] 197)).alloc (.cells #[.int .i64 ((3 : Nat) : Int), .int .i64 ((0 : Nat) : Int), .int .i64 ((0 : Nat) : Int), .string nm, .string at_, .int .u64 0, .int .u64 0] 131) := ⟨_, rfl⟩
  have hX : NX w (w.heap.size + 1) (nxs 3 0 0 nm at_ 0 0) W := by
    rw [hW]
    refine ⟨((Below.refl _ _).alloc (Nat.le_refl _) _).alloc (by simp) _, by omega, by simp, fun j => ?_⟩
    rw [show w.heap.size + 1 = (w.alloc (.cells #[.bool false, .slice none 0 0] 197)).heap.size by simp, World.cell?_alloc_new]
    rfl
  have hR : RC W w.heap.size := by
    rw [hW]
    refine ⟨?_, ?_, ?_, ?_⟩ <;> simp [go_sem]
  have HX := Lib.hid hX
  have HR := Lib.hid hR
  have HW := Lib.hid hW
  clear hX hR hW
  go_enter Tryz.func100, Tryz.ntmps100
  go_upto_region 2 with fail
  change Code.wp _ _ _ _ ((w.alloc (.cells #[.bool false, .slice none 0 0] 197)).alloc (.cells #[.int .i64 ((3 : Nat) : Int), .int .i64 ((0 : Nat) : Int), .int .i64 ((0 : Nat) : Int), .string nm, .string at_, .int .u64 0, .int .u64 0] 131))
  rw [← HW.out]
  clear HW q0 q1 q2 q3 q4 q5 q6
  obtain ⟨r0, r1, f0, f1⟩ := HR.out.all
  have c0 : W.cell? ⟨w.heap.size + 1, 0, none⟩ = some (.int .i64 ((3 : Nat) : Int)) := HX.out.at_ 0
  have hB := HI.out.hB.below HX.out.below
  have HB := Lib.hid hB
  have HL := Lib.hid HI.out.hl2
  have hc2 := HI.out.hc2
  have hn2 := HI.out.hn2
  have KZ := Lib.hid ri_of0
  clear hB r0 r1 f0 f1
  go_wp2_with fail
  go_loopw [57] (fun j w' => ∃ k : Nat, k ≤ n2 ∧ j = .int .i64 k ∧ Below W.heap.size W w' ∧ Hid (val = envB (bl.drop k) nm at_)) (fun j _ => n2 - (intOf j).toNat)
  case atStart => exact ⟨0, by omega, rfl, Below.refl _ _, HVAL0⟩
  case round =>
    obtain ⟨k, hk, rfl, hb, hx⟩ := hrel
    have HXk := Lib.hid (HX.out.call hb)
    have HRk := Lib.hid (HR.out.call hb)
    have HBk := Lib.hid (HB.out.below hb)
    have HBb := Lib.hid hb
    have HXX := hx
    clear hb hx c0
    by_cases hlt : k < n2
    · have hkI : (k : Int) < (n2 : Int) := by omega
      have hkc : (k : Int) < (c2 : Int) := by omega
      have hk0 : 0 ≤ (k : Int) := by omega
      obtain ⟨d, hd⟩ : ∃ d, bl[k]? = some d := ⟨_, List.getElem?_eq_getElem (by rw [HL.out]; exact hlt)⟩
      obtain ⟨g2, e1, l2, q⟩ := HBk.out.r.resolve_left (fun e => by rw [e] at hd; simp at hd)
      obtain ⟨b0, b1, b2, b3⟩ := q k d hd
      have hstep := envB_drop bl k d hd nm at_
      obtain ⟨dn, da, dv, dh1, dh2, dh3⟩ := d
      simp only at b0 b1 b2 b3 hstep
      subst e1
      obtain ⟨xu, hxu⟩ : ∃ x, x = hi dv := ⟨_, rfl⟩
      obtain ⟨xv, hxv⟩ : ∃ x, x = lo dv := ⟨_, rfl⟩
      rw [← hxu] at b2
      rw [← hxv] at b3
      have KF : Hid (∀ W, Calls Tryz.prog 130 #[.agg #[.int .u64 xu, .int .u64 xv]] W (RetF dv W)) := Lib.hid (by rw [hxu, hxv]; exact ri_from dv dh3)
      have HST := Lib.hid hstep
      clear q hd hstep hxu hxv
      obtain ⟨Wb, hWb⟩ : ∃ X, X = wr.alloc (.cells #[.string dn, .string da, .int .u64 xu, .int .u64 xv] 106) := ⟨_, rfl⟩
      have hbb : Below wr.heap.size wr Wb := by rw [hWb]; exact (Below.refl _ _).alloc (Nat.le_refl _) _
      have hgb : Wb.heap[wr.heap.size]? = some (.cells #[.string dn, .string da, .int .u64 xu, .int .u64 xv] 106 (0, 0)) := by rw [hWb]; exact heap_alloc_new _ _
      have HXb := Lib.hid (HXk.out.call hbb)
      have HRb := Lib.hid (HRk.out.call hbb)
      have HBB := Lib.hid (HBb.out.trans (hbb.mono HBb.out.size))
      have HWb := Lib.hid hWb
      have HGB := Lib.hid hgb
      clear hWb hbb hgb
      go_upto_region 14 with fail
      change Code.wp _ _ _ _ (wr.alloc (.cells #[.string dn, .string da, .int .u64 xu, .int .u64 xv] 106))
      rw [← HWb.out]
      clear HWb b0 b1 b2 b3
      have c3 : Wb.cell? ⟨w.heap.size + 1, 3, none⟩ = some (.string nm) := HXb.out.at_ 3
      have c4 : Wb.cell? ⟨w.heap.size + 1, 4, none⟩ = some (.string at_) := HXb.out.at_ 4
      have d0 : Wb.cell? ⟨wr.heap.size, 0, none⟩ = some (.string dn) := by simp [World.cell?, HGB.out]
      have d1 : Wb.cell? ⟨wr.heap.size, 1, none⟩ = some (.string da) := by simp [World.cell?, HGB.out]
      have d2 : Wb.cell? ⟨wr.heap.size, 2, none⟩ = some (.int .u64 xu) := by simp [World.cell?, HGB.out]
      have d3 : Wb.cell? ⟨wr.heap.size, 3, none⟩ = some (.int .u64 xv) := by simp [World.cell?, HGB.out]
      by_cases hh : dn = nm ∧ da = at_
      · obtain ⟨rfl, rfl⟩ := hh
        have hval : val = dv := by rw [HXX.out, HST.out, if_pos ⟨rfl, rfl⟩]
        rw [← hval] at KF
        clear HXX HST hval
        go_wp2_with fail
        go_at_call 130
        refine (KF.out Wb).mono ?_
        rintro e w2 ⟨s, Az, nz, cz, rfl, hz, hb2⟩
        have HZ := Lib.hid hz
        have HX2 := Lib.hid (HXb.out.call hb2)
        have HR2 := Lib.hid (HRb.out.call hb2)
        clear hb2 hz c3 c4 d0 d1 d2 d3
        obtain ⟨r0, r1, f0, f1⟩ := HR2.out.all
        go_wp2_with fail
        refine bodyPost_ret (v := .agg #[.bool s, .slice Az nz cz]) (by simp [results, Tryz.results100, go_sem, r0, r1]) rfl ⟨s, Az, nz, cz, rfl, HZ.out.storeB r0 _ _, store2 HX2.out.below (Nat.le_refl _) _ _⟩
      · have hval : val = envB (bl.drop (k + 1)) nm at_ := by rw [HXX.out, HST.out, if_neg hh]
        have HVAL := Lib.hid hval
        clear hval HXX HST
        by_cases h1 : dn = nm
        · have h2 : ¬ da = at_ := fun e => hh ⟨h1, e⟩
          subst h1
          have hb2 : (da.toList == at_.toList) = false := by rw [bs_eq]; exact decide_eq_false h2
          clear hh
          go_wp2_with fail
          go_roundw
          case rel => (go_light; exact ⟨k + 1, by omega, by simp, HBB.out, HVAL⟩)
          case measure => simp [intOf]; omega
        · have hb2 : (dn.toList == nm.toList) = false := by rw [bs_eq]; exact decide_eq_false h1
          clear hh
          go_wp2_with fail
          go_roundw
          case rel => (go_light; exact ⟨k + 1, by omega, by simp, HBB.out, HVAL⟩)
          case measure => simp [intOf]; omega
    · have hkI : ¬ (k : Int) < (n2 : Int) := by omega
      have hval : val = 0 := by rw [HXX.out, List.drop_of_length_le (by rw [HL.out]; omega)]; rfl
      have KZ2 : Hid (∀ w, Calls Tryz.prog 119 #[.int .i64 0] w (RetF val w)) := Lib.hid (by rw [hval]; exact ri_of0)
      clear hval HXX
      go_wp2_with fail
      go_at_call 119
      refine (KZ2.out wr).mono ?_
      rintro e w2 ⟨s, Az, nz, cz, rfl, hz, hb2⟩
      have HZ := Lib.hid hz
      have HX2 := Lib.hid (HXk.out.call hb2)
      have HR2 := Lib.hid (HRk.out.call hb2)
      clear hb2 hz
      obtain ⟨r0, r1, f0, f1⟩ := HR2.out.all
      go_wp2_with fail
      refine bodyPost_ret (v := .agg #[.bool s, .slice Az nz cz]) (by simp [results, Tryz.results100, go_sem, r0, r1]) rfl ⟨s, Az, nz, cz, rfl, HZ.out.storeB r0 _ _, store2 HX2.out.below (Nat.le_refl _) _ _⟩
set_option maxRecDepth 100000 in
set_option maxHeartbeats 4000000 in
theorem rf_int_neg (w : World) {A : Option Addr} {n c : Nat} {o : List Nd} {A2 : Option Addr} {n2 c2 : Nat} {bl : List BindN} (hI : RIn w A n c o A2 n2 c2 bl) (i : Nat) (a : Nat) (x : Int) (hi : o[i]? = some (nd 4 a 0)) (KA : ∀ W, Below w.heap.size w W → Calls Tryz.prog 100 #[.slice A n c, .int .i64 (a : Int), .slice A2 n2 c2] W (RetF x W)) :
    Calls Tryz.prog 100 #[.slice A n c, .int .i64 (i : Int), .slice A2 n2 c2] w (RetF (-x) w) := by
  have hin : i < n := by rw [← hI.hn]; exact (List.getElem?_eq_some_iff.1 hi).1
  have hiI : (i : Int) < (n : Int) := by omega
  have hi0 : 0 ≤ (i : Int) := by omega
  obtain ⟨g, e1, l1, q0, q1, q2, q3, q4, q5, q6⟩ := nod_cells hI.hN (k := i) (by rw [hI.hn]; exact hin)
  rw [(List.getElem?_eq_some_iff.1 hi).2] at q0 q1 q2 q3 q4 q5 q6
  simp only [nd] at q0 q1 q2 q3 q4 q5 q6
  subst e1
  have HI := Lib.hid hI
  clear hI hi
  have HKA := Lib.hid KA
  clear KA
  obtain ⟨W, hW⟩ : ∃ W, W = (w.alloc (.cells #[.bool false, .slice none 0 0] 197)).alloc (.cells #[.int .i64 ((4 : Nat) : Int), .int .i64 (a : Int), .int .i64 ((0 : Nat) : Int), .string ⟨#[]⟩, .string ⟨#[]⟩, .int .u64 (hi 0), .int .u64 (lo 0)] 131) := ⟨_, rfl⟩
  have hX : NX w (w.heap.size + 1) (nxs 4 a 0 ⟨#[]⟩ ⟨#[]⟩ (hi 0) (lo 0)) W := by
    rw [hW]
    refine ⟨((Below.refl _ _).alloc (Nat.le_refl _) _).alloc (by simp) _, by omega, by simp, fun j => ?_⟩
    rw [show w.heap.size + 1 = (w.alloc (.cells #[.bool false, .slice none 0 0] 197)).heap.size by simp, World.cell?_alloc_new]
    rfl
  have hR : RC W w.heap.size := by
    rw [hW]
    refine ⟨?_, ?_, ?_, ?_⟩ <;> simp [go_sem]
  have HX := Lib.hid hX
  have HR := Lib.hid hR
  have HW := Lib.hid hW
  clear hX hR hW
  go_enter Tryz.func100, Tryz.ntmps100
  go_upto_region 2 with fail
  change Code.wp _ _ _ _ ((w.alloc (.cells #[.bool false, .slice none 0 0] 197)).alloc (.cells #[.int .i64 ((4 : Nat) : Int), .int .i64 (a : Int), .int .i64 ((0 : Nat) : Int), .string ⟨#[]⟩, .string ⟨#[]⟩, .int .u64 (hi 0), .int .u64 (lo 0)] 131))
  rw [← HW.out]
  clear HW q0 q1 q2 q3 q4 q5 q6
  obtain ⟨r0, r1, f0, f1⟩ := HR.out.all
  have c0 : W.cell? ⟨w.heap.size + 1, 0, none⟩ = some (.int .i64 ((4 : Nat) : Int)) := HX.out.at_ 0
  have c1 : W.cell? ⟨w.heap.size + 1, 1, none⟩ = some (.int .i64 (a : Int)) := HX.out.at_ 1
  go_wp2_with fail
  go_at_call 100
  refine (HKA.out W HX.out.below).mono ?_
  rintro e w2 ⟨s, Az, nz, cz, rfl, hz, hb2⟩
  have KN := Lib.hid (ri_neg w2 s Az cz nz x hz)
  have HX2 := Lib.hid (HX.out.call hb2)
  have HR2 := Lib.hid (HR.out.call hb2)
  clear hb2 hz c0 c1 r0 r1 f0 f1
  go_wp2_with fail
  go_at_call 131
  refine KN.out.mono ?_
  rintro e w3 ⟨s3, A3, n3, c3, rfl, hz3, hb3⟩
  have HZ := Lib.hid hz3
  have HX3 := Lib.hid (HX2.out.call hb3)
  have HR3 := Lib.hid (HR2.out.call hb3)
  clear hb3 hz3
  obtain ⟨r0, r1, f0, f1⟩ := HR3.out.all
  go_wp2_with fail
  refine bodyPost_ret (v := .agg #[.bool s3, .slice A3 n3 c3]) (by simp [results, Tryz.results100, go_sem, r0, r1]) rfl ⟨s3, A3, n3, c3, rfl, HZ.out.storeB r0 _ _, store2 HX3.out.below (Nat.le_refl _) _ _⟩
set_option maxRecDepth 100000 in
set_option maxHeartbeats 4000000 in
theorem rf_int_add (w : World) {A : Option Addr} {n c : Nat} {o : List Nd} {A2 : Option Addr} {n2 c2 : Nat} {bl : List BindN} (hI : RIn w A n c o A2 n2 c2 bl) (i : Nat) (a b : Nat) (x y : Int) (hz : Bd (x + y)) (hi : o[i]? = some (nd 6 a b)) (KA : ∀ W, Below w.heap.size w W → Calls Tryz.prog 100 #[.slice A n c, .int .i64 (a : Int), .slice A2 n2 c2] W (RetF x W)) (KB : ∀ W, Below w.heap.size w W → Calls Tryz.prog 100 #[.slice A n c, .int .i64 (b : Int), .slice A2 n2 c2] W (RetF y W)) :
    Calls Tryz.prog 100 #[.slice A n c, .int .i64 (i : Int), .slice A2 n2 c2] w (RetF (x + y) w) := by
  have hin : i < n := by rw [← hI.hn]; exact (List.getElem?_eq_some_iff.1 hi).1
  have hiI : (i : Int) < (n : Int) := by omega
  have hi0 : 0 ≤ (i : Int) := by omega
  obtain ⟨g, e1, l1, q0, q1, q2, q3, q4, q5, q6⟩ := nod_cells hI.hN (k := i) (by rw [hI.hn]; exact hin)
  rw [(List.getElem?_eq_some_iff.1 hi).2] at q0 q1 q2 q3 q4 q5 q6
  simp only [nd] at q0 q1 q2 q3 q4 q5 q6
  subst e1
  have HI := Lib.hid hI
  clear hI hi
  have HKA := Lib.hid KA
  have HKB := Lib.hid KB
  have HZB := Lib.hid hz
  clear KA KB hz
  obtain ⟨W, hW⟩ : ∃ W, W = (w.alloc (.cells #[.bool false, .slice none 0 0] 197)).alloc (.cells #[.int .i64 ((6 : Nat) : Int), .int .i64 (a : Int), .int .i64 (b : Int), .string ⟨#[]⟩, .string ⟨#[]⟩, .int .u64 (hi 0), .int .u64 (lo 0)] 131) := ⟨_, rfl⟩
  have hX : NX w (w.heap.size + 1) (nxs 6 a b ⟨#[]⟩ ⟨#[]⟩ (hi 0) (lo 0)) W := by
    rw [hW]
    refine ⟨((Below.refl _ _).alloc (Nat.le_refl _) _).alloc (by simp) _, by omega, by simp, fun j => ?_⟩
    rw [show w.heap.size + 1 = (w.alloc (.cells #[.bool false, .slice none 0 0] 197)).heap.size by simp, World.cell?_alloc_new]
    rfl
  have hR : RC W w.heap.size := by
    rw [hW]
    refine ⟨?_, ?_, ?_, ?_⟩ <;> simp [go_sem]
  have HX := Lib.hid hX
  have HR := Lib.hid hR
  have HW := Lib.hid hW
  clear hX hR hW
  go_enter Tryz.func100, Tryz.ntmps100
  go_upto_region 2 with fail
  change Code.wp _ _ _ _ ((w.alloc (.cells #[.bool false, .slice none 0 0] 197)).alloc (.cells #[.int .i64 ((6 : Nat) : Int), .int .i64 (a : Int), .int .i64 (b : Int), .string ⟨#[]⟩, .string ⟨#[]⟩, .int .u64 (hi 0), .int .u64 (lo 0)] 131))
  rw [← HW.out]
  clear HW q0 q1 q2 q3 q4 q5 q6
  obtain ⟨r0, r1, f0, f1⟩ := HR.out.all
  have c0 : W.cell? ⟨w.heap.size + 1, 0, none⟩ = some (.int .i64 ((6 : Nat) : Int)) := HX.out.at_ 0
  go_upto_region 8 with fail
  clear c0
  go_region_held3 (fun w' => NX w (w.heap.size + 1) (nxs 6 a b ⟨#[]⟩ ⟨#[]⟩ (hi 0) (lo 0)) w' ∧ w'.cell? ⟨w.heap.size + 1, 0, none⟩ = some (.int .i64 ((6 : Nat) : Int)) ∧ w'.cell? ⟨w.heap.size + 1, 1, none⟩ = some (.int .i64 (a : Int)) ∧ w'.cell? ⟨w.heap.size + 1, 2, none⟩ = some (.int .i64 (b : Int)))
    (first
      | exact (NX.drew HX.out).all
      | exact (NX.call (And.left (by assumption)) (by assumption)).all
      | exact (NX.set (NX.set (And.left (by assumption)) (Nat.le_refl _) (by omega) _ _) (Nat.le_refl _) (by omega) _ _).all)
    (first
      | (go_at_call 100; (with_reducible refine (HKA.out _ (NX.below (And.left (by assumption)))).mono ?_); (rintro e w2 ⟨s1, A3, n3, c3, rfl, hz1, hb2⟩; have HZ1 := Lib.hid hz1; have HR2 := Lib.hid (HR.out.drew.call hb2); have HX2 := Lib.hid (HX.out.drew.call hb2); clear hz1))
      | (go_at_call 100; (with_reducible refine (HKB.out _ (NX.below (And.left (by assumption)))).mono ?_); (rintro e w3 ⟨s2, A4, n4, c4, rfl, hz2, hb3⟩; have HZ2 := Lib.hid hz2; have HR3 := Lib.hid (HR2.out.call hb3); have HX3 := Lib.hid (HX2.out.call hb3); have HZ3 := Lib.hid (HZ1.out.below hb3); clear hz2))
      | (go_at_call 121; (with_reducible refine (ri_addF _ s1 s2 A3 A4 c3 c4 n3 n4 x y HZB.out HZ3.out HZ2.out).mono ?_); (rintro e w4 ⟨s, Az, nz, cz, rfl, hz, hb4⟩; have HZ := Lib.hid hz; have HX4 := Lib.hid (HX3.out.call hb4); have HR4 := Lib.hid (HR3.out.call hb4); obtain ⟨k0, k1, l0, l1⟩ := HR4.out.all; clear hz)))
  all_goals go_wp2_with fail
  refine bodyPost_ret (v := .agg #[.bool s, .slice Az nz cz]) (by simp [results, Tryz.results100, go_sem, k0, k1]) rfl ⟨s, Az, nz, cz, rfl, HZ.out.storeB k0 _ _, store2 HX4.out.below (Nat.le_refl _) _ _⟩
set_option maxRecDepth 100000 in
set_option maxHeartbeats 4000000 in
theorem rf_int_sub (w : World) {A : Option Addr} {n c : Nat} {o : List Nd} {A2 : Option Addr} {n2 c2 : Nat} {bl : List BindN} (hI : RIn w A n c o A2 n2 c2 bl) (i : Nat) (a b : Nat) (x y : Int) (hz : Bd (x - y)) (hi : o[i]? = some (nd 7 a b)) (KA : ∀ W, Below w.heap.size w W → Calls Tryz.prog 100 #[.slice A n c, .int .i64 (a : Int), .slice A2 n2 c2] W (RetF x W)) (KB : ∀ W, Below w.heap.size w W → Calls Tryz.prog 100 #[.slice A n c, .int .i64 (b : Int), .slice A2 n2 c2] W (RetF y W)) :
    Calls Tryz.prog 100 #[.slice A n c, .int .i64 (i : Int), .slice A2 n2 c2] w (RetF (x - y) w) := by
  have hin : i < n := by rw [← hI.hn]; exact (List.getElem?_eq_some_iff.1 hi).1
  have hiI : (i : Int) < (n : Int) := by omega
  have hi0 : 0 ≤ (i : Int) := by omega
  obtain ⟨g, e1, l1, q0, q1, q2, q3, q4, q5, q6⟩ := nod_cells hI.hN (k := i) (by rw [hI.hn]; exact hin)
  rw [(List.getElem?_eq_some_iff.1 hi).2] at q0 q1 q2 q3 q4 q5 q6
  simp only [nd] at q0 q1 q2 q3 q4 q5 q6
  subst e1
  have HI := Lib.hid hI
  clear hI hi
  have HKA := Lib.hid KA
  have HKB := Lib.hid KB
  have HZB := Lib.hid hz
  clear KA KB hz
  obtain ⟨W, hW⟩ : ∃ W, W = (w.alloc (.cells #[.bool false, .slice none 0 0] 197)).alloc (.cells #[.int .i64 ((7 : Nat) : Int), .int .i64 (a : Int), .int .i64 (b : Int), .string ⟨#[]⟩, .string ⟨#[]⟩, .int .u64 (hi 0), .int .u64 (lo 0)] 131) := ⟨_, rfl⟩
  have hX : NX w (w.heap.size + 1) (nxs 7 a b ⟨#[]⟩ ⟨#[]⟩ (hi 0) (lo 0)) W := by
    rw [hW]
    refine ⟨((Below.refl _ _).alloc (Nat.le_refl _) _).alloc (by simp) _, by omega, by simp, fun j => ?_⟩
    rw [show w.heap.size + 1 = (w.alloc (.cells #[.bool false, .slice none 0 0] 197)).heap.size by simp, World.cell?_alloc_new]
    rfl
  have hR : RC W w.heap.size := by
    rw [hW]
    refine ⟨?_, ?_, ?_, ?_⟩ <;> simp [go_sem]
  have HX := Lib.hid hX
  have HR := Lib.hid hR
  have HW := Lib.hid hW
  clear hX hR hW
  go_enter Tryz.func100, Tryz.ntmps100
  go_upto_region 2 with fail
  change Code.wp _ _ _ _ ((w.alloc (.cells #[.bool false, .slice none 0 0] 197)).alloc (.cells #[.int .i64 ((7 : Nat) : Int), .int .i64 (a : Int), .int .i64 (b : Int), .string ⟨#[]⟩, .string ⟨#[]⟩, .int .u64 (hi 0), .int .u64 (lo 0)] 131))
  rw [← HW.out]
  clear HW q0 q1 q2 q3 q4 q5 q6
  obtain ⟨r0, r1, f0, f1⟩ := HR.out.all
  have c0 : W.cell? ⟨w.heap.size + 1, 0, none⟩ = some (.int .i64 ((7 : Nat) : Int)) := HX.out.at_ 0
  go_upto_region 10 with fail
  clear c0
  go_region_held3 (fun w' => NX w (w.heap.size + 1) (nxs 7 a b ⟨#[]⟩ ⟨#[]⟩ (hi 0) (lo 0)) w' ∧ w'.cell? ⟨w.heap.size + 1, 0, none⟩ = some (.int .i64 ((7 : Nat) : Int)) ∧ w'.cell? ⟨w.heap.size + 1, 1, none⟩ = some (.int .i64 (a : Int)) ∧ w'.cell? ⟨w.heap.size + 1, 2, none⟩ = some (.int .i64 (b : Int)))
    (first
      | exact (NX.drew HX.out).all
      | exact (NX.call (And.left (by assumption)) (by assumption)).all
      | exact (NX.set (NX.set (And.left (by assumption)) (Nat.le_refl _) (by omega) _ _) (Nat.le_refl _) (by omega) _ _).all)
    (first
      | (go_at_call 100; (with_reducible refine (HKA.out _ (NX.below (And.left (by assumption)))).mono ?_); (rintro e w2 ⟨s1, A3, n3, c3, rfl, hz1, hb2⟩; have HZ1 := Lib.hid hz1; have HR2 := Lib.hid (HR.out.drew.call hb2); have HX2 := Lib.hid (HX.out.drew.call hb2); clear hz1))
      | (go_at_call 100; (with_reducible refine (HKB.out _ (NX.below (And.left (by assumption)))).mono ?_); (rintro e w3 ⟨s2, A4, n4, c4, rfl, hz2, hb3⟩; have HZ2 := Lib.hid hz2; have HR3 := Lib.hid (HR2.out.call hb3); have HX3 := Lib.hid (HX2.out.call hb3); have HZ3 := Lib.hid (HZ1.out.below hb3); clear hz2))
      | (go_at_call 129; (with_reducible refine (ri_sub _ s1 s2 A3 A4 c3 c4 n3 n4 x y HZB.out HZ3.out HZ2.out).mono ?_); (rintro e w4 ⟨s, Az, nz, cz, rfl, hz, hb4⟩; have HZ := Lib.hid hz; have HX4 := Lib.hid (HX3.out.call hb4); have HR4 := Lib.hid (HR3.out.call hb4); obtain ⟨k0, k1, l0, l1⟩ := HR4.out.all; clear hz)))
  all_goals go_wp2_with fail
  refine bodyPost_ret (v := .agg #[.bool s, .slice Az nz cz]) (by simp [results, Tryz.results100, go_sem, k0, k1]) rfl ⟨s, Az, nz, cz, rfl, HZ.out.storeB k0 _ _, store2 HX4.out.below (Nat.le_refl _) _ _⟩
set_option maxRecDepth 100000 in
set_option maxHeartbeats 4000000 in
theorem rf_tru_lit (w : World) {A : Option Addr} {n c : Nat} {o : List Nd} {A2 : Option Addr} {n2 c2 : Nat} {bl : List BindN} (hI : RIn w A n c o A2 n2 c2 bl) (i : Nat) (val : Nat) (hv : val ≤ 1) (hi : o[i]? = some ⟨2, 0, 0, ⟨#[]⟩, ⟨#[]⟩, val⟩) :
    Calls Tryz.prog 59 #[.slice A n c, .int .i64 (i : Int), .slice A2 n2 c2] w (RetX (.bool (decide (val = 1))) w) := by
  have hin : i < n := by rw [← hI.hn]; exact (List.getElem?_eq_some_iff.1 hi).1
  have hiI : (i : Int) < (n : Int) := by omega
  have hi0 : 0 ≤ (i : Int) := by omega
  obtain ⟨g, e1, l1, q0, q1, q2, q3, q4, q5, q6⟩ := nod_cells hI.hN (k := i) (by rw [hI.hn]; exact hin)
  rw [(List.getElem?_eq_some_iff.1 hi).2] at q0 q1 q2 q3 q4 q5 q6
  simp only at q0 q1 q2 q3 q4 q5 q6
  subst e1
  have HI := Lib.hid hI
  clear hI hi
  have hq := fun W => eq_valI (hi val) (lo val) 0 0 W
  have hG : Tryz.prog.eqGuardType Tryz.prog.depth 103 = false := by kernel_rfl
  have hval : (!(decide (hi val = 0) && decide (lo val = 0))) = decide (val = 1) := by
    have : val = 0 ∨ val = 1 := by omega
    rcases this with rfl | rfl <;> rfl
  rw [← hval]
  generalize hi val = xu at hq q5 ⊢
  generalize lo val = xv at hq q6 ⊢
  generalize (decide (xu = 0) && decide (xv = 0)) = eb at hq ⊢
  clear hval
  obtain ⟨W, hW⟩ : ∃ W, W = w.alloc (.cells #[.int .i64 ((2 : Nat) : Int), .int .i64 ((0 : Nat) : Int), .int .i64 ((0 : Nat) : Int), .string ⟨#[]⟩, .string ⟨#[]⟩, .int .u64 xu, .int .u64 xv] 131) := ⟨_, rfl⟩
  have hX : NX w w.heap.size (nxs 2 0 0 ⟨#[]⟩ ⟨#[]⟩ xu xv) W := by
    rw [hW]
    refine ⟨(Below.refl _ _).alloc (Nat.le_refl _) _, Nat.le_refl _, by simp, fun j => ?_⟩
    rw [World.cell?_alloc_new]
    rfl
  have HX := Lib.hid hX
  have HW := Lib.hid hW
  clear hX hW
  go_enter Tryz.func59, Tryz.ntmps59
  go_upto_region 2 with fail
  change Code.wp _ _ _ _ (w.alloc (.cells #[.int .i64 ((2 : Nat) : Int), .int .i64 ((0 : Nat) : Int), .int .i64 ((0 : Nat) : Int), .string ⟨#[]⟩, .string ⟨#[]⟩, .int .u64 xu, .int .u64 xv] 131))
  rw [← HW.out]
  clear HW q0 q1 q2 q3 q4 q5 q6
  have c0 : W.cell? ⟨w.heap.size, 0, none⟩ = some (.int .i64 ((2 : Nat) : Int)) := HX.out.at_ 0
  have c1 : W.cell? ⟨w.heap.size, 1, none⟩ = some (.int .i64 ((0 : Nat) : Int)) := HX.out.at_ 1
  have c2 : W.cell? ⟨w.heap.size, 2, none⟩ = some (.int .i64 ((0 : Nat) : Int)) := HX.out.at_ 2
  have c5 : W.cell? ⟨w.heap.size, 5, none⟩ = some (.int .u64 xu) := HX.out.at_ 5
  have c6 : W.cell? ⟨w.heap.size, 6, none⟩ = some (.int .u64 xv) := HX.out.at_ 6
  go_wp2_with fail
  go_ret
  exact ⟨rfl, HX.out.below⟩
set_option maxRecDepth 100000 in
set_option maxHeartbeats 4000000 in
theorem rf_tru_not (w : World) {A : Option Addr} {n c : Nat} {o : List Nd} {A2 : Option Addr} {n2 c2 : Nat} {bl : List BindN} (hI : RIn w A n c o A2 n2 c2 bl) (i : Nat) (a : Nat) (x : Bool) (hi : o[i]? = some (nd 5 a 0)) (KA : ∀ W, Below w.heap.size w W → Calls Tryz.prog 59 #[.slice A n c, .int .i64 (a : Int), .slice A2 n2 c2] W (RetX (.bool x) W)) :
    Calls Tryz.prog 59 #[.slice A n c, .int .i64 (i : Int), .slice A2 n2 c2] w (RetX (.bool (!x)) w) := by
  have hin : i < n := by rw [← hI.hn]; exact (List.getElem?_eq_some_iff.1 hi).1
  have hiI : (i : Int) < (n : Int) := by omega
  have hi0 : 0 ≤ (i : Int) := by omega
  obtain ⟨g, e1, l1, q0, q1, q2, q3, q4, q5, q6⟩ := nod_cells hI.hN (k := i) (by rw [hI.hn]; exact hin)
  rw [(List.getElem?_eq_some_iff.1 hi).2] at q0 q1 q2 q3 q4 q5 q6
  simp only [nd] at q0 q1 q2 q3 q4 q5 q6
  subst e1
  have HI := Lib.hid hI
  clear hI hi
  have HKA := Lib.hid KA
  clear KA
  obtain ⟨W, hW⟩ : ∃ W, W = w.alloc (.cells #[.int .i64 ((5 : Nat) : Int), .int .i64 (a : Int), .int .i64 ((0 : Nat) : Int), .string ⟨#[]⟩, .string ⟨#[]⟩, .int .u64 (hi 0), .int .u64 (lo 0)] 131) := ⟨_, rfl⟩
  have hX : NX w w.heap.size (nxs 5 a 0 ⟨#[]⟩ ⟨#[]⟩ (hi 0) (lo 0)) W := by
    rw [hW]
    refine ⟨(Below.refl _ _).alloc (Nat.le_refl _) _, Nat.le_refl _, by simp, fun j => ?_⟩
    rw [World.cell?_alloc_new]
    rfl
  have HX := Lib.hid hX
  have HW := Lib.hid hW
  clear hX hW
  go_enter Tryz.func59, Tryz.ntmps59
  go_upto_region 2 with fail
  change Code.wp _ _ _ _ (w.alloc (.cells #[.int .i64 ((5 : Nat) : Int), .int .i64 (a : Int), .int .i64 ((0 : Nat) : Int), .string ⟨#[]⟩, .string ⟨#[]⟩, .int .u64 (hi 0), .int .u64 (lo 0)] 131))
  rw [← HW.out]
  clear HW q0 q1 q2 q3 q4 q5 q6
  have c0 : W.cell? ⟨w.heap.size, 0, none⟩ = some (.int .i64 ((5 : Nat) : Int)) := HX.out.at_ 0
  have c1 : W.cell? ⟨w.heap.size, 1, none⟩ = some (.int .i64 (a : Int)) := HX.out.at_ 1
  have c2 : W.cell? ⟨w.heap.size, 2, none⟩ = some (.int .i64 ((0 : Nat) : Int)) := HX.out.at_ 2
  go_wp2_with fail
  go_at_call 59
  refine (HKA.out W HX.out.below).mono ?_
  rintro e w2 ⟨rfl, hb2⟩
  have HX2 := Lib.hid (HX.out.call hb2)
  clear hb2 c0 c1 c2
  go_wp2_with fail
  go_ret
  exact ⟨rfl, HX2.out.below⟩
set_option maxRecDepth 100000 in
set_option maxHeartbeats 4000000 in
theorem rf_tru_and (w : World) {A : Option Addr} {n c : Nat} {o : List Nd} {A2 : Option Addr} {n2 c2 : Nat} {bl : List BindN} (hI : RIn w A n c o A2 n2 c2 bl) (i : Nat) (a b : Nat) (x y : Bool) (hi : o[i]? = some (nd 14 a b)) (KA : ∀ W, Below w.heap.size w W → Calls Tryz.prog 59 #[.slice A n c, .int .i64 (a : Int), .slice A2 n2 c2] W (RetX (.bool x) W)) (KB : ∀ W, Below w.heap.size w W → Calls Tryz.prog 59 #[.slice A n c, .int .i64 (b : Int), .slice A2 n2 c2] W (RetX (.bool y) W)) :
    Calls Tryz.prog 59 #[.slice A n c, .int .i64 (i : Int), .slice A2 n2 c2] w (RetX (.bool (x && y)) w) := by
  have hin : i < n := by rw [← hI.hn]; exact (List.getElem?_eq_some_iff.1 hi).1
  have hiI : (i : Int) < (n : Int) := by omega
  have hi0 : 0 ≤ (i : Int) := by omega
  obtain ⟨g, e1, l1, q0, q1, q2, q3, q4, q5, q6⟩ := nod_cells hI.hN (k := i) (by rw [hI.hn]; exact hin)
  rw [(List.getElem?_eq_some_iff.1 hi).2] at q0 q1 q2 q3 q4 q5 q6
  simp only [nd] at q0 q1 q2 q3 q4 q5 q6
  subst e1
  have HI := Lib.hid hI
  clear hI hi
  have HKA := Lib.hid KA
  have HKB := Lib.hid KB
  clear KA KB
  obtain ⟨W, hW⟩ : ∃ W, W = w.alloc (.cells #[.int .i64 ((14 : Nat) : Int), .int .i64 (a : Int), .int .i64 (b : Int), .string ⟨#[]⟩, .string ⟨#[]⟩, .int .u64 (hi 0), .int .u64 (lo 0)] 131) := ⟨_, rfl⟩
  have hX : NX w w.heap.size (nxs 14 a b ⟨#[]⟩ ⟨#[]⟩ (hi 0) (lo 0)) W := by
    rw [hW]
    refine ⟨(Below.refl _ _).alloc (Nat.le_refl _) _, Nat.le_refl _, by simp, fun j => ?_⟩
    rw [World.cell?_alloc_new]
    rfl
  have HX := Lib.hid hX
  have HW := Lib.hid hW
  clear hX hW
  go_enter Tryz.func59, Tryz.ntmps59
  go_upto_region 2 with fail
  change Code.wp _ _ _ _ (w.alloc (.cells #[.int .i64 ((14 : Nat) : Int), .int .i64 (a : Int), .int .i64 (b : Int), .string ⟨#[]⟩, .string ⟨#[]⟩, .int .u64 (hi 0), .int .u64 (lo 0)] 131))
  rw [← HW.out]
  clear HW q0 q1 q2 q3 q4 q5 q6
  have c0 : W.cell? ⟨w.heap.size, 0, none⟩ = some (.int .i64 ((14 : Nat) : Int)) := HX.out.at_ 0
  have c1 : W.cell? ⟨w.heap.size, 1, none⟩ = some (.int .i64 (a : Int)) := HX.out.at_ 1
  have c2 : W.cell? ⟨w.heap.size, 2, none⟩ = some (.int .i64 (b : Int)) := HX.out.at_ 2
  go_wp2_with fail
  go_at_call 59
  refine (HKA.out W HX.out.below).mono ?_
  rintro e w2 ⟨rfl, hb2⟩
  have HX2 := Lib.hid (HX.out.call hb2)
  clear hb2 c0 c1 c2
  have c2 : w2.cell? ⟨w.heap.size, 2, none⟩ = some (.int .i64 (b : Int)) := HX2.out.at_ 2
  cases x
  · go_wp2_with fail
    go_ret
    exact ⟨rfl, HX2.out.below⟩
  · go_wp2_with fail
    go_at_call 59
    refine (HKB.out w2 HX2.out.below).mono ?_
    rintro e w3 ⟨rfl, hb3⟩
    have HX3 := Lib.hid (HX2.out.call hb3)
    clear hb3 c2
    go_wp2_with fail
    go_ret
    exact ⟨by simp, HX3.out.below⟩
set_option maxRecDepth 100000 in
set_option maxHeartbeats 4000000 in
theorem rf_tru_or (w : World) {A : Option Addr} {n c : Nat} {o : List Nd} {A2 : Option Addr} {n2 c2 : Nat} {bl : List BindN} (hI : RIn w A n c o A2 n2 c2 bl) (i : Nat) (a b : Nat) (x y : Bool) (hi : o[i]? = some (nd 15 a b)) (KA : ∀ W, Below w.heap.size w W → Calls Tryz.prog 59 #[.slice A n c, .int .i64 (a : Int), .slice A2 n2 c2] W (RetX (.bool x) W)) (KB : ∀ W, Below w.heap.size w W → Calls Tryz.prog 59 #[.slice A n c, .int .i64 (b : Int), .slice A2 n2 c2] W (RetX (.bool y) W)) :
    Calls Tryz.prog 59 #[.slice A n c, .int .i64 (i : Int), .slice A2 n2 c2] w (RetX (.bool (x || y)) w) := by
  have hin : i < n := by rw [← hI.hn]; exact (List.getElem?_eq_some_iff.1 hi).1
  have hiI : (i : Int) < (n : Int) := by omega
  have hi0 : 0 ≤ (i : Int) := by omega
  obtain ⟨g, e1, l1, q0, q1, q2, q3, q4, q5, q6⟩ := nod_cells hI.hN (k := i) (by rw [hI.hn]; exact hin)
  rw [(List.getElem?_eq_some_iff.1 hi).2] at q0 q1 q2 q3 q4 q5 q6
  simp only [nd] at q0 q1 q2 q3 q4 q5 q6
  subst e1
  have HI := Lib.hid hI
  clear hI hi
  have HKA := Lib.hid KA
  have HKB := Lib.hid KB
  clear KA KB
  obtain ⟨W, hW⟩ : ∃ W, W = w.alloc (.cells #[.int .i64 ((15 : Nat) : Int), .int .i64 (a : Int), .int .i64 (b : Int), .string ⟨#[]⟩, .string ⟨#[]⟩, .int .u64 (hi 0), .int .u64 (lo 0)] 131) := ⟨_, rfl⟩
  have hX : NX w w.heap.size (nxs 15 a b ⟨#[]⟩ ⟨#[]⟩ (hi 0) (lo 0)) W := by
    rw [hW]
    refine ⟨(Below.refl _ _).alloc (Nat.le_refl _) _, Nat.le_refl _, by simp, fun j => ?_⟩
    rw [World.cell?_alloc_new]
    rfl
  have HX := Lib.hid hX
  have HW := Lib.hid hW
  clear hX hW
  go_enter Tryz.func59, Tryz.ntmps59
  go_upto_region 2 with fail
  change Code.wp _ _ _ _ (w.alloc (.cells #[.int .i64 ((15 : Nat) : Int), .int .i64 (a : Int), .int .i64 (b : Int), .string ⟨#[]⟩, .string ⟨#[]⟩, .int .u64 (hi 0), .int .u64 (lo 0)] 131))
  rw [← HW.out]
  clear HW q0 q1 q2 q3 q4 q5 q6
  have c0 : W.cell? ⟨w.heap.size, 0, none⟩ = some (.int .i64 ((15 : Nat) : Int)) := HX.out.at_ 0
  have c1 : W.cell? ⟨w.heap.size, 1, none⟩ = some (.int .i64 (a : Int)) := HX.out.at_ 1
  have c2 : W.cell? ⟨w.heap.size, 2, none⟩ = some (.int .i64 (b : Int)) := HX.out.at_ 2
  go_wp2_with fail
  go_at_call 59
  refine (HKA.out W HX.out.below).mono ?_
  rintro e w2 ⟨rfl, hb2⟩
  have HX2 := Lib.hid (HX.out.call hb2)
  clear hb2 c0 c1 c2
  have c2 : w2.cell? ⟨w.heap.size, 2, none⟩ = some (.int .i64 (b : Int)) := HX2.out.at_ 2
  cases x
  · go_wp2_with fail
    go_at_call 59
    refine (HKB.out w2 HX2.out.below).mono ?_
    rintro e w3 ⟨rfl, hb3⟩
    have HX3 := Lib.hid (HX2.out.call hb3)
    clear hb3 c2
    go_wp2_with fail
    go_ret
    exact ⟨by simp, HX3.out.below⟩
  · go_wp2_with fail
    go_ret
    exact ⟨rfl, HX2.out.below⟩
set_option maxRecDepth 100000 in
set_option maxHeartbeats 4000000 in
theorem rf_tru_imp (w : World) {A : Option Addr} {n c : Nat} {o : List Nd} {A2 : Option Addr} {n2 c2 : Nat} {bl : List BindN} (hI : RIn w A n c o A2 n2 c2 bl) (i : Nat) (a b : Nat) (x y : Bool) (hi : o[i]? = some (nd 16 a b)) (KA : ∀ W, Below w.heap.size w W → Calls Tryz.prog 59 #[.slice A n c, .int .i64 (a : Int), .slice A2 n2 c2] W (RetX (.bool x) W)) (KB : ∀ W, Below w.heap.size w W → Calls Tryz.prog 59 #[.slice A n c, .int .i64 (b : Int), .slice A2 n2 c2] W (RetX (.bool y) W)) :
    Calls Tryz.prog 59 #[.slice A n c, .int .i64 (i : Int), .slice A2 n2 c2] w (RetX (.bool (!x || y)) w) := by
  have hin : i < n := by rw [← hI.hn]; exact (List.getElem?_eq_some_iff.1 hi).1
  have hiI : (i : Int) < (n : Int) := by omega
  have hi0 : 0 ≤ (i : Int) := by omega
  obtain ⟨g, e1, l1, q0, q1, q2, q3, q4, q5, q6⟩ := nod_cells hI.hN (k := i) (by rw [hI.hn]; exact hin)
  rw [(List.getElem?_eq_some_iff.1 hi).2] at q0 q1 q2 q3 q4 q5 q6
  simp only [nd] at q0 q1 q2 q3 q4 q5 q6
  subst e1
  have HI := Lib.hid hI
  clear hI hi
  have HKA := Lib.hid KA
  have HKB := Lib.hid KB
  clear KA KB
  obtain ⟨W, hW⟩ : ∃ W, W = w.alloc (.cells #[.int .i64 ((16 : Nat) : Int), .int .i64 (a : Int), .int .i64 (b : Int), .string ⟨#[]⟩, .string ⟨#[]⟩, .int .u64 (hi 0), .int .u64 (lo 0)] 131) := ⟨_, rfl⟩
  have hX : NX w w.heap.size (nxs 16 a b ⟨#[]⟩ ⟨#[]⟩ (hi 0) (lo 0)) W := by
    rw [hW]
    refine ⟨(Below.refl _ _).alloc (Nat.le_refl _) _, Nat.le_refl _, by simp, fun j => ?_⟩
    rw [World.cell?_alloc_new]
    rfl
  have HX := Lib.hid hX
  have HW := Lib.hid hW
  clear hX hW
  go_enter Tryz.func59, Tryz.ntmps59
  go_upto_region 2 with fail
  change Code.wp _ _ _ _ (w.alloc (.cells #[.int .i64 ((16 : Nat) : Int), .int .i64 (a : Int), .int .i64 (b : Int), .string ⟨#[]⟩, .string ⟨#[]⟩, .int .u64 (hi 0), .int .u64 (lo 0)] 131))
  rw [← HW.out]
  clear HW q0 q1 q2 q3 q4 q5 q6
  have c0 : W.cell? ⟨w.heap.size, 0, none⟩ = some (.int .i64 ((16 : Nat) : Int)) := HX.out.at_ 0
  have c1 : W.cell? ⟨w.heap.size, 1, none⟩ = some (.int .i64 (a : Int)) := HX.out.at_ 1
  have c2 : W.cell? ⟨w.heap.size, 2, none⟩ = some (.int .i64 (b : Int)) := HX.out.at_ 2
  go_wp2_with fail
  go_at_call 59
  refine (HKA.out W HX.out.below).mono ?_
  rintro e w2 ⟨rfl, hb2⟩
  have HX2 := Lib.hid (HX.out.call hb2)
  clear hb2 c0 c1 c2
  have c2 : w2.cell? ⟨w.heap.size, 2, none⟩ = some (.int .i64 (b : Int)) := HX2.out.at_ 2
  cases x
  · go_wp2_with fail
    go_ret
    exact ⟨rfl, HX2.out.below⟩
  · go_wp2_with fail
    go_at_call 59
    refine (HKB.out w2 HX2.out.below).mono ?_
    rintro e w3 ⟨rfl, hb3⟩
    have HX3 := Lib.hid (HX2.out.call hb3)
    clear hb3 c2
    go_wp2_with fail
    go_ret
    exact ⟨by simp, HX3.out.below⟩
set_option maxRecDepth 100000 in
set_option maxHeartbeats 4000000 in
theorem rf_tru_eqt (w : World) {A : Option Addr} {n c : Nat} {o : List Nd} {A2 : Option Addr} {n2 c2 : Nat} {bl : List BindN} (hI : RIn w A n c o A2 n2 c2 bl) (i : Nat) (a b : Nat) (x y : Bool) (hi : o[i]? = some (nd 8 a b)) (d : Nd) (had : o[a]? = some d) (hnum : numO d.op = false) (KA : ∀ W, Below w.heap.size w W → Calls Tryz.prog 59 #[.slice A n c, .int .i64 (a : Int), .slice A2 n2 c2] W (RetX (.bool x) W)) (KB : ∀ W, Below w.heap.size w W → Calls Tryz.prog 59 #[.slice A n c, .int .i64 (b : Int), .slice A2 n2 c2] W (RetX (.bool y) W)) :
    Calls Tryz.prog 59 #[.slice A n c, .int .i64 (i : Int), .slice A2 n2 c2] w (RetX (.bool (decide (x = y))) w) := by
  have hin : i < n := by rw [← hI.hn]; exact (List.getElem?_eq_some_iff.1 hi).1
  have hiI : (i : Int) < (n : Int) := by omega
  have hi0 : 0 ≤ (i : Int) := by omega
  obtain ⟨g, e1, l1, q0, q1, q2, q3, q4, q5, q6⟩ := nod_cells hI.hN (k := i) (by rw [hI.hn]; exact hin)
  rw [(List.getElem?_eq_some_iff.1 hi).2] at q0 q1 q2 q3 q4 q5 q6
  simp only [nd] at q0 q1 q2 q3 q4 q5 q6
  subst e1
  have HI := Lib.hid hI
  clear hI hi
  have HKA := Lib.hid KA
  have HKB := Lib.hid KB
  clear KA KB
  obtain ⟨W, hW⟩ : ∃ W, W = w.alloc (.cells #[.int .i64 ((8 : Nat) : Int), .int .i64 (a : Int), .int .i64 (b : Int), .string ⟨#[]⟩, .string ⟨#[]⟩, .int .u64 (hi 0), .int .u64 (lo 0)] 131) := ⟨_, rfl⟩
  have hX : NX w w.heap.size (nxs 8 a b ⟨#[]⟩ ⟨#[]⟩ (hi 0) (lo 0)) W := by
    rw [hW]
    refine ⟨(Below.refl _ _).alloc (Nat.le_refl _) _, Nat.le_refl _, by simp, fun j => ?_⟩
    rw [World.cell?_alloc_new]
    rfl
  have HX := Lib.hid hX
  have HW := Lib.hid hW
  clear hX hW
  go_enter Tryz.func59, Tryz.ntmps59
  go_upto_region 2 with fail
  change Code.wp _ _ _ _ (w.alloc (.cells #[.int .i64 ((8 : Nat) : Int), .int .i64 (a : Int), .int .i64 (b : Int), .string ⟨#[]⟩, .string ⟨#[]⟩, .int .u64 (hi 0), .int .u64 (lo 0)] 131))
  rw [← HW.out]
  clear HW q0 q1 q2 q3 q4 q5 q6
  have c0 : W.cell? ⟨w.heap.size, 0, none⟩ = some (.int .i64 ((8 : Nat) : Int)) := HX.out.at_ 0
  have c1 : W.cell? ⟨w.heap.size, 1, none⟩ = some (.int .i64 (a : Int)) := HX.out.at_ 1
  have c2 : W.cell? ⟨w.heap.size, 2, none⟩ = some (.int .i64 (b : Int)) := HX.out.at_ 2
  have han : a < n := by rw [← HI.out.hn]; exact (List.getElem?_eq_some_iff.1 had).1
  have haI : (a : Int) < (n : Int) := by omega
  have ha0 : 0 ≤ (a : Int) := by omega
  have hNW := HI.out.hN.below HX.out.below
  obtain ⟨g', e2, _, p0, p1, p2, p3, p4, p5, p6⟩ := nod_cells hNW (k := a) (by rw [HI.out.hn]; exact han)
  injection e2 with e2
  injection e2 with e2
  subst e2
  rw [(List.getElem?_eq_some_iff.1 had).2] at p0 p1 p2 p3 p4 p5 p6
  have KN := Lib.hid (rf_isnum d.op d.a d.b d.name d.attr (hi d.val) (lo d.val))
  rw [hnum] at KN
  generalize d.op = y0 at p0 KN
  generalize d.a = y1 at p1 KN
  generalize d.b = y2 at p2 KN
  generalize d.name = y3 at p3 KN
  generalize d.attr = y4 at p4 KN
  generalize hi d.val = y5 at p5 KN
  generalize lo d.val = y6 at p6 KN
  clear hNW had hnum
  go_wp2_with fail
  go_at_call 98
  refine (KN.out W).mono ?_
  rintro e w2 ⟨rfl, hb2⟩
  have HX2 := Lib.hid (HX.out.call hb2)
  clear hb2 c0 c1 c2 p0 p1 p2 p3 p4 p5 p6 KN
  go_upto_region 14 with fail
  go_region_held3 (fun w' => NX w w.heap.size (nxs 8 a b ⟨#[]⟩ ⟨#[]⟩ (hi 0) (lo 0)) w' ∧ w'.cell? ⟨w.heap.size, 0, none⟩ = some (.int .i64 ((8 : Nat) : Int)) ∧ w'.cell? ⟨w.heap.size, 1, none⟩ = some (.int .i64 (a : Int)) ∧ w'.cell? ⟨w.heap.size, 2, none⟩ = some (.int .i64 (b : Int)))
    (first
      | exact (NX.drew HX2.out).all
      | exact (NX.call (And.left (by assumption)) (by assumption)).all)
    (first
      | (go_at_call 59; (with_reducible refine (HKA.out _ (NX.below (And.left (by assumption)))).mono ?_); (rintro e w3 ⟨rfl, hb3⟩; have HX3 := Lib.hid (HX2.out.drew.call hb3)))
      | (go_at_call 59; (with_reducible refine (HKB.out _ (NX.below (And.left (by assumption)))).mono ?_); (rintro e w4 ⟨rfl, hb4⟩; have HX4 := Lib.hid (HX3.out.call hb4))))
  all_goals
    try simp only [Exit.then]
    try apply_assumption
  all_goals
    cases x <;> cases y
  all_goals
    go_wp2_with fail
    go_ret
    exact ⟨rfl, HX4.out.below⟩
set_option maxRecDepth 100000 in
set_option maxHeartbeats 4000000 in
theorem rf_tru_net (w : World) {A : Option Addr} {n c : Nat} {o : List Nd} {A2 : Option Addr} {n2 c2 : Nat} {bl : List BindN} (hI : RIn w A n c o A2 n2 c2 bl) (i : Nat) (a b : Nat) (x y : Bool) (hi : o[i]? = some (nd 9 a b)) (d : Nd) (had : o[a]? = some d) (hnum : numO d.op = false) (KA : ∀ W, Below w.heap.size w W → Calls Tryz.prog 59 #[.slice A n c, .int .i64 (a : Int), .slice A2 n2 c2] W (RetX (.bool x) W)) (KB : ∀ W, Below w.heap.size w W → Calls Tryz.prog 59 #[.slice A n c, .int .i64 (b : Int), .slice A2 n2 c2] W (RetX (.bool y) W)) :
    Calls Tryz.prog 59 #[.slice A n c, .int .i64 (i : Int), .slice A2 n2 c2] w (RetX (.bool (!decide (x = y))) w) := by
  have hin : i < n := by rw [← hI.hn]; exact (List.getElem?_eq_some_iff.1 hi).1
  have hiI : (i : Int) < (n : Int) := by omega
  have hi0 : 0 ≤ (i : Int) := by omega
  obtain ⟨g, e1, l1, q0, q1, q2, q3, q4, q5, q6⟩ := nod_cells hI.hN (k := i) (by rw [hI.hn]; exact hin)
  rw [(List.getElem?_eq_some_iff.1 hi).2] at q0 q1 q2 q3 q4 q5 q6
  simp only [nd] at q0 q1 q2 q3 q4 q5 q6
  subst e1
  have HI := Lib.hid hI
  clear hI hi
  have HKA := Lib.hid KA
  have HKB := Lib.hid KB
  clear KA KB
  obtain ⟨W, hW⟩ : ∃ W, W = w.alloc (.cells #[.int .i64 ((9 : Nat) : Int), .int .i64 (a : Int), .int .i64 (b : Int), .string ⟨#[]⟩, .string ⟨#[]⟩, .int .u64 (hi 0), .int .u64 (lo 0)] 131) := ⟨_, rfl⟩
  have hX : NX w w.heap.size (nxs 9 a b ⟨#[]⟩ ⟨#[]⟩ (hi 0) (lo 0)) W := by
    rw [hW]
    refine ⟨(Below.refl _ _).alloc (Nat.le_refl _) _, Nat.le_refl _, by simp, fun j => ?_⟩
    rw [World.cell?_alloc_new]
    rfl
  have HX := Lib.hid hX
  have HW := Lib.hid hW
  clear hX hW
  go_enter Tryz.func59, Tryz.ntmps59
  go_upto_region 2 with fail
  change Code.wp _ _ _ _ (w.alloc (.cells #[.int .i64 ((9 : Nat) : Int), .int .i64 (a : Int), .int .i64 (b : Int), .string ⟨#[]⟩, .string ⟨#[]⟩, .int .u64 (hi 0), .int .u64 (lo 0)] 131))
  rw [← HW.out]
  clear HW q0 q1 q2 q3 q4 q5 q6
  have c0 : W.cell? ⟨w.heap.size, 0, none⟩ = some (.int .i64 ((9 : Nat) : Int)) := HX.out.at_ 0
  have c1 : W.cell? ⟨w.heap.size, 1, none⟩ = some (.int .i64 (a : Int)) := HX.out.at_ 1
  have c2 : W.cell? ⟨w.heap.size, 2, none⟩ = some (.int .i64 (b : Int)) := HX.out.at_ 2
  have han : a < n := by rw [← HI.out.hn]; exact (List.getElem?_eq_some_iff.1 had).1
  have haI : (a : Int) < (n : Int) := by omega
  have ha0 : 0 ≤ (a : Int) := by omega
  have hNW := HI.out.hN.below HX.out.below
  obtain ⟨g', e2, _, p0, p1, p2, p3, p4, p5, p6⟩ := nod_cells hNW (k := a) (by rw [HI.out.hn]; exact han)
  injection e2 with e2
  injection e2 with e2
  subst e2
  rw [(List.getElem?_eq_some_iff.1 had).2] at p0 p1 p2 p3 p4 p5 p6
  have KN := Lib.hid (rf_isnum d.op d.a d.b d.name d.attr (hi d.val) (lo d.val))
  rw [hnum] at KN
  generalize d.op = y0 at p0 KN
  generalize d.a = y1 at p1 KN
  generalize d.b = y2 at p2 KN
  generalize d.name = y3 at p3 KN
  generalize d.attr = y4 at p4 KN
  generalize hi d.val = y5 at p5 KN
  generalize lo d.val = y6 at p6 KN
  clear hNW had hnum
  go_wp2_with fail
  go_at_call 98
  refine (KN.out W).mono ?_
  rintro e w2 ⟨rfl, hb2⟩
  have HX2 := Lib.hid (HX.out.call hb2)
  clear hb2 c0 c1 c2 p0 p1 p2 p3 p4 p5 p6 KN
  go_upto_region 14 with fail
  go_region_held3 (fun w' => NX w w.heap.size (nxs 9 a b ⟨#[]⟩ ⟨#[]⟩ (hi 0) (lo 0)) w' ∧ w'.cell? ⟨w.heap.size, 0, none⟩ = some (.int .i64 ((9 : Nat) : Int)) ∧ w'.cell? ⟨w.heap.size, 1, none⟩ = some (.int .i64 (a : Int)) ∧ w'.cell? ⟨w.heap.size, 2, none⟩ = some (.int .i64 (b : Int)))
    (first
      | exact (NX.drew HX2.out).all
      | exact (NX.call (And.left (by assumption)) (by assumption)).all)
    (first
      | (go_at_call 59; (with_reducible refine (HKA.out _ (NX.below (And.left (by assumption)))).mono ?_); (rintro e w3 ⟨rfl, hb3⟩; have HX3 := Lib.hid (HX2.out.drew.call hb3)))
      | (go_at_call 59; (with_reducible refine (HKB.out _ (NX.below (And.left (by assumption)))).mono ?_); (rintro e w4 ⟨rfl, hb4⟩; have HX4 := Lib.hid (HX3.out.call hb4))))
  all_goals
    try simp only [Exit.then]
    try apply_assumption
  all_goals
    cases x <;> cases y
  all_goals
    go_wp2_with fail
    go_ret
    exact ⟨rfl, HX4.out.below⟩
set_option maxRecDepth 100000 in
set_option maxHeartbeats 4000000 in
theorem rf_tru_c8 (w : World) {A : Option Addr} {n c : Nat} {o : List Nd} {A2 : Option Addr} {n2 c2 : Nat} {bl : List BindN} (hI : RIn w A n c o A2 n2 c2 bl) (i : Nat) (a b : Nat) (x y : Int) (hz : Bd (x - y)) (hi : o[i]? = some (nd 8 a b)) (d : Nd) (had : o[a]? = some d) (hnum : numO d.op = true) (KA : ∀ W, Below w.heap.size w W → Calls Tryz.prog 100 #[.slice A n c, .int .i64 (a : Int), .slice A2 n2 c2] W (RetF x W)) (KB : ∀ W, Below w.heap.size w W → Calls Tryz.prog 100 #[.slice A n c, .int .i64 (b : Int), .slice A2 n2 c2] W (RetF y W)) :
    Calls Tryz.prog 59 #[.slice A n c, .int .i64 (i : Int), .slice A2 n2 c2] w (RetX (.bool (decide (x = y))) w) := by
  have hin : i < n := by rw [← hI.hn]; exact (List.getElem?_eq_some_iff.1 hi).1
  have hiI : (i : Int) < (n : Int) := by omega
  have hi0 : 0 ≤ (i : Int) := by omega
  obtain ⟨g, e1, l1, q0, q1, q2, q3, q4, q5, q6⟩ := nod_cells hI.hN (k := i) (by rw [hI.hn]; exact hin)
  rw [(List.getElem?_eq_some_iff.1 hi).2] at q0 q1 q2 q3 q4 q5 q6
  simp only [nd] at q0 q1 q2 q3 q4 q5 q6
  subst e1
  have HI := Lib.hid hI
  clear hI hi
  have HKA := Lib.hid KA
  have HKB := Lib.hid KB
  clear KA KB
  have HZB := Lib.hid hz
  obtain ⟨sg, hsg⟩ : ∃ t, t = sgn x y := ⟨_, rfl⟩
  have KO : Hid (∀ (w : World) (s1 s2 : Bool) (A1 A2 : Option Addr) (c1 c2 n1 n2 : Nat) (h1 : IntS w s1 A1 n1 c1 x) (h2 : IntS w s2 A2 n2 c2 y), Calls Tryz.prog 99 #[.agg #[.bool s1, .slice A1 n1 c1], .agg #[.bool s2, .slice A2 n2 c2]] w (RetX (.int .i64 sg) w)) := Lib.hid fun w s1 s2 A1 A2 c1 c2 n1 n2 h1 h2 => by
    rw [hsg]
    exact ri_order w s1 s2 A1 A2 c1 c2 n1 n2 x y hz h1 h2
  have hcase : (x < y ∧ sg = -1) ∨ (x = y ∧ sg = 0) ∨ (y < x ∧ sg = 1) := by
    rw [hsg]
    unfold sgn
    by_cases h1 : x = y
    · exact .inr (.inl ⟨h1, if_pos h1⟩)
    · by_cases h2 : x < y
      · exact .inl ⟨h2, by rw [if_neg h1, if_pos h2]⟩
      · exact .inr (.inr ⟨by omega, by rw [if_neg h1, if_neg h2]⟩)
  have HCS := Lib.hid hcase
  clear hz hsg hcase
  obtain ⟨W, hW⟩ : ∃ W, W = w.alloc (.cells #[.int .i64 ((8 : Nat) : Int), .int .i64 (a : Int), .int .i64 (b : Int), .string ⟨#[]⟩, .string ⟨#[]⟩, .int .u64 (hi 0), .int .u64 (lo 0)] 131) := ⟨_, rfl⟩
  have hX : NX w w.heap.size (nxs 8 a b ⟨#[]⟩ ⟨#[]⟩ (hi 0) (lo 0)) W := by
    rw [hW]
    refine ⟨(Below.refl _ _).alloc (Nat.le_refl _) _, Nat.le_refl _, by simp, fun j => ?_⟩
    rw [World.cell?_alloc_new]
    rfl
  have HX := Lib.hid hX
  have HW := Lib.hid hW
  clear hX hW
  go_enter Tryz.func59, Tryz.ntmps59
  go_upto_region 2 with fail
  change Code.wp _ _ _ _ (w.alloc (.cells #[.int .i64 ((8 : Nat) : Int), .int .i64 (a : Int), .int .i64 (b : Int), .string ⟨#[]⟩, .string ⟨#[]⟩, .int .u64 (hi 0), .int .u64 (lo 0)] 131))
  rw [← HW.out]
  clear HW q0 q1 q2 q3 q4 q5 q6
  have c0 : W.cell? ⟨w.heap.size, 0, none⟩ = some (.int .i64 ((8 : Nat) : Int)) := HX.out.at_ 0
  have c1 : W.cell? ⟨w.heap.size, 1, none⟩ = some (.int .i64 (a : Int)) := HX.out.at_ 1
  have c2 : W.cell? ⟨w.heap.size, 2, none⟩ = some (.int .i64 (b : Int)) := HX.out.at_ 2
  have han : a < n := by rw [← HI.out.hn]; exact (List.getElem?_eq_some_iff.1 had).1
  have haI : (a : Int) < (n : Int) := by omega
  have ha0 : 0 ≤ (a : Int) := by omega
  have hNW := HI.out.hN.below HX.out.below
  obtain ⟨g', e2, _, p0, p1, p2, p3, p4, p5, p6⟩ := nod_cells hNW (k := a) (by rw [HI.out.hn]; exact han)
  injection e2 with e2
  injection e2 with e2
  subst e2
  rw [(List.getElem?_eq_some_iff.1 had).2] at p0 p1 p2 p3 p4 p5 p6
  have KN := Lib.hid (rf_isnum d.op d.a d.b d.name d.attr (hi d.val) (lo d.val))
  rw [hnum] at KN
  generalize d.op = y0 at p0 KN
  generalize d.a = y1 at p1 KN
  generalize d.b = y2 at p2 KN
  generalize d.name = y3 at p3 KN
  generalize d.attr = y4 at p4 KN
  generalize hi d.val = y5 at p5 KN
  generalize lo d.val = y6 at p6 KN
  clear hNW had hnum
  go_wp2_with fail
  go_at_call 98
  refine (KN.out W).mono ?_
  rintro e w2 ⟨rfl, hb2⟩
  have HX2 := Lib.hid (HX.out.call hb2)
  clear hb2 c0 c1 c2 p0 p1 p2 p3 p4 p5 p6 KN
  go_upto_region 15 with fail
  go_region_held3 (fun w' => NX w w.heap.size (nxs 8 a b ⟨#[]⟩ ⟨#[]⟩ (hi 0) (lo 0)) w' ∧ w'.cell? ⟨w.heap.size, 0, none⟩ = some (.int .i64 ((8 : Nat) : Int)) ∧ w'.cell? ⟨w.heap.size, 1, none⟩ = some (.int .i64 (a : Int)) ∧ w'.cell? ⟨w.heap.size, 2, none⟩ = some (.int .i64 (b : Int)))
    (first
      | exact (NX.drew HX2.out).all
      | exact (NX.call (And.left (by assumption)) (by assumption)).all)
    (first
      | (go_at_call 100; (with_reducible refine (HKA.out _ (NX.below (And.left (by assumption)))).mono ?_); (rintro e w3 ⟨s1, A3, n3, c3, rfl, hz1, hb3⟩; have HZ1 := Lib.hid hz1; have HX3 := Lib.hid (HX2.out.drew.call hb3); clear hz1))
      | (go_at_call 100; (with_reducible refine (HKB.out _ (NX.below (And.left (by assumption)))).mono ?_); (rintro e w4 ⟨s2, A4, n4, c4, rfl, hz2, hb4⟩; have HZ2 := Lib.hid hz2; have HX4 := Lib.hid (HX3.out.call hb4); have HZ3 := Lib.hid (HZ1.out.below hb4); clear hz2))
      | (go_at_call 99; (with_reducible refine (KO.out _ s1 s2 A3 A4 c3 c4 n3 n4 HZ3.out HZ2.out).mono ?_); (rintro e w5 ⟨rfl, hb5⟩; have HX5 := Lib.hid (HX4.out.call hb5))))
  all_goals
    try simp only [Exit.then]
    try apply_assumption
  all_goals
    have c0 : w5.cell? ⟨w.heap.size, 0, none⟩ = some (.int .i64 ((8 : Nat) : Int)) := HX5.out.at_ 0
    rcases HCS.out with ⟨hlt, rfl⟩ | ⟨heq, rfl⟩ | ⟨hgt, rfl⟩
  · rw [show decide (x = y) = false by exact decide_eq_false (by omega)]
    clear hlt HCS
    go_wp2_with fail
    go_ret
    exact ⟨rfl, HX5.out.below⟩
  · rw [show decide (x = y) = true by exact decide_eq_true (by omega)]
    clear heq HCS
    go_wp2_with fail
    go_ret
    exact ⟨rfl, HX5.out.below⟩
  · rw [show decide (x = y) = false by exact decide_eq_false (by omega)]
    clear hgt HCS
    go_wp2_with fail
    go_ret
    exact ⟨rfl, HX5.out.below⟩
set_option maxRecDepth 100000 in
set_option maxHeartbeats 4000000 in
theorem rf_tru_c9 (w : World) {A : Option Addr} {n c : Nat} {o : List Nd} {A2 : Option Addr} {n2 c2 : Nat} {bl : List BindN} (hI : RIn w A n c o A2 n2 c2 bl) (i : Nat) (a b : Nat) (x y : Int) (hz : Bd (x - y)) (hi : o[i]? = some (nd 9 a b)) (d : Nd) (had : o[a]? = some d) (hnum : numO d.op = true) (KA : ∀ W, Below w.heap.size w W → Calls Tryz.prog 100 #[.slice A n c, .int .i64 (a : Int), .slice A2 n2 c2] W (RetF x W)) (KB : ∀ W, Below w.heap.size w W → Calls Tryz.prog 100 #[.slice A n c, .int .i64 (b : Int), .slice A2 n2 c2] W (RetF y W)) :
    Calls Tryz.prog 59 #[.slice A n c, .int .i64 (i : Int), .slice A2 n2 c2] w (RetX (.bool (decide (x ≠ y))) w) := by
  have hin : i < n := by rw [← hI.hn]; exact (List.getElem?_eq_some_iff.1 hi).1
  have hiI : (i : Int) < (n : Int) := by omega
  have hi0 : 0 ≤ (i : Int) := by omega
  obtain ⟨g, e1, l1, q0, q1, q2, q3, q4, q5, q6⟩ := nod_cells hI.hN (k := i) (by rw [hI.hn]; exact hin)
  rw [(List.getElem?_eq_some_iff.1 hi).2] at q0 q1 q2 q3 q4 q5 q6
  simp only [nd] at q0 q1 q2 q3 q4 q5 q6
  subst e1
  have HI := Lib.hid hI
  clear hI hi
  have HKA := Lib.hid KA
  have HKB := Lib.hid KB
  clear KA KB
  have HZB := Lib.hid hz
  obtain ⟨sg, hsg⟩ : ∃ t, t = sgn x y := ⟨_, rfl⟩
  have KO : Hid (∀ (w : World) (s1 s2 : Bool) (A1 A2 : Option Addr) (c1 c2 n1 n2 : Nat) (h1 : IntS w s1 A1 n1 c1 x) (h2 : IntS w s2 A2 n2 c2 y), Calls Tryz.prog 99 #[.agg #[.bool s1, .slice A1 n1 c1], .agg #[.bool s2, .slice A2 n2 c2]] w (RetX (.int .i64 sg) w)) := Lib.hid fun w s1 s2 A1 A2 c1 c2 n1 n2 h1 h2 => by
    rw [hsg]
    exact ri_order w s1 s2 A1 A2 c1 c2 n1 n2 x y hz h1 h2
  have hcase : (x < y ∧ sg = -1) ∨ (x = y ∧ sg = 0) ∨ (y < x ∧ sg = 1) := by
    rw [hsg]
    unfold sgn
    by_cases h1 : x = y
    · exact .inr (.inl ⟨h1, if_pos h1⟩)
    · by_cases h2 : x < y
      · exact .inl ⟨h2, by rw [if_neg h1, if_pos h2]⟩
      · exact .inr (.inr ⟨by omega, by rw [if_neg h1, if_neg h2]⟩)
  have HCS := Lib.hid hcase
  clear hz hsg hcase
  obtain ⟨W, hW⟩ : ∃ W, W = w.alloc (.cells #[.int .i64 ((9 : Nat) : Int), .int .i64 (a : Int), .int .i64 (b : Int), .string ⟨#[]⟩, .string ⟨#[]⟩, .int .u64 (hi 0), .int .u64 (lo 0)] 131) := ⟨_, rfl⟩
  have hX : NX w w.heap.size (nxs 9 a b ⟨#[]⟩ ⟨#[]⟩ (hi 0) (lo 0)) W := by
    rw [hW]
    refine ⟨(Below.refl _ _).alloc (Nat.le_refl _) _, Nat.le_refl _, by simp, fun j => ?_⟩
    rw [World.cell?_alloc_new]
    rfl
  have HX := Lib.hid hX
  have HW := Lib.hid hW
  clear hX hW
  go_enter Tryz.func59, Tryz.ntmps59
  go_upto_region 2 with fail
  change Code.wp _ _ _ _ (w.alloc (.cells #[.int .i64 ((9 : Nat) : Int), .int .i64 (a : Int), .int .i64 (b : Int), .string ⟨#[]⟩, .string ⟨#[]⟩, .int .u64 (hi 0), .int .u64 (lo 0)] 131))
  rw [← HW.out]
  clear HW q0 q1 q2 q3 q4 q5 q6
  have c0 : W.cell? ⟨w.heap.size, 0, none⟩ = some (.int .i64 ((9 : Nat) : Int)) := HX.out.at_ 0
  have c1 : W.cell? ⟨w.heap.size, 1, none⟩ = some (.int .i64 (a : Int)) := HX.out.at_ 1
  have c2 : W.cell? ⟨w.heap.size, 2, none⟩ = some (.int .i64 (b : Int)) := HX.out.at_ 2
  have han : a < n := by rw [← HI.out.hn]; exact (List.getElem?_eq_some_iff.1 had).1
  have haI : (a : Int) < (n : Int) := by omega
  have ha0 : 0 ≤ (a : Int) := by omega
  have hNW := HI.out.hN.below HX.out.below
  obtain ⟨g', e2, _, p0, p1, p2, p3, p4, p5, p6⟩ := nod_cells hNW (k := a) (by rw [HI.out.hn]; exact han)
  injection e2 with e2
  injection e2 with e2
  subst e2
  rw [(List.getElem?_eq_some_iff.1 had).2] at p0 p1 p2 p3 p4 p5 p6
  have KN := Lib.hid (rf_isnum d.op d.a d.b d.name d.attr (hi d.val) (lo d.val))
  rw [hnum] at KN
  generalize d.op = y0 at p0 KN
  generalize d.a = y1 at p1 KN
  generalize d.b = y2 at p2 KN
  generalize d.name = y3 at p3 KN
  generalize d.attr = y4 at p4 KN
  generalize hi d.val = y5 at p5 KN
  generalize lo d.val = y6 at p6 KN
  clear hNW had hnum
  go_wp2_with fail
  go_at_call 98
  refine (KN.out W).mono ?_
  rintro e w2 ⟨rfl, hb2⟩
  have HX2 := Lib.hid (HX.out.call hb2)
  clear hb2 c0 c1 c2 p0 p1 p2 p3 p4 p5 p6 KN
  go_upto_region 15 with fail
  go_region_held3 (fun w' => NX w w.heap.size (nxs 9 a b ⟨#[]⟩ ⟨#[]⟩ (hi 0) (lo 0)) w' ∧ w'.cell? ⟨w.heap.size, 0, none⟩ = some (.int .i64 ((9 : Nat) : Int)) ∧ w'.cell? ⟨w.heap.size, 1, none⟩ = some (.int .i64 (a : Int)) ∧ w'.cell? ⟨w.heap.size, 2, none⟩ = some (.int .i64 (b : Int)))
    (first
      | exact (NX.drew HX2.out).all
      | exact (NX.call (And.left (by assumption)) (by assumption)).all)
    (first
      | (go_at_call 100; (with_reducible refine (HKA.out _ (NX.below (And.left (by assumption)))).mono ?_); (rintro e w3 ⟨s1, A3, n3, c3, rfl, hz1, hb3⟩; have HZ1 := Lib.hid hz1; have HX3 := Lib.hid (HX2.out.drew.call hb3); clear hz1))
      | (go_at_call 100; (with_reducible refine (HKB.out _ (NX.below (And.left (by assumption)))).mono ?_); (rintro e w4 ⟨s2, A4, n4, c4, rfl, hz2, hb4⟩; have HZ2 := Lib.hid hz2; have HX4 := Lib.hid (HX3.out.call hb4); have HZ3 := Lib.hid (HZ1.out.below hb4); clear hz2))
      | (go_at_call 99; (with_reducible refine (KO.out _ s1 s2 A3 A4 c3 c4 n3 n4 HZ3.out HZ2.out).mono ?_); (rintro e w5 ⟨rfl, hb5⟩; have HX5 := Lib.hid (HX4.out.call hb5))))
  all_goals
    try simp only [Exit.then]
    try apply_assumption
  all_goals
    have c0 : w5.cell? ⟨w.heap.size, 0, none⟩ = some (.int .i64 ((9 : Nat) : Int)) := HX5.out.at_ 0
    rcases HCS.out with ⟨hlt, rfl⟩ | ⟨heq, rfl⟩ | ⟨hgt, rfl⟩
  · rw [show decide (x ≠ y) = true by exact decide_eq_true (by omega)]
    clear hlt HCS
    go_wp2_with fail
    go_ret
    exact ⟨rfl, HX5.out.below⟩
  · rw [show decide (x ≠ y) = false by exact decide_eq_false (by omega)]
    clear heq HCS
    go_wp2_with fail
    go_ret
    exact ⟨rfl, HX5.out.below⟩
  · rw [show decide (x ≠ y) = true by exact decide_eq_true (by omega)]
    clear hgt HCS
    go_wp2_with fail
    go_ret
    exact ⟨rfl, HX5.out.below⟩
set_option maxRecDepth 100000 in
set_option maxHeartbeats 4000000 in
theorem rf_tru_c10 (w : World) {A : Option Addr} {n c : Nat} {o : List Nd} {A2 : Option Addr} {n2 c2 : Nat} {bl : List BindN} (hI : RIn w A n c o A2 n2 c2 bl) (i : Nat) (a b : Nat) (x y : Int) (hz : Bd (x - y)) (hi : o[i]? = some (nd 10 a b)) (d : Nd) (had : o[a]? = some d) (hnum : numO d.op = true) (KA : ∀ W, Below w.heap.size w W → Calls Tryz.prog 100 #[.slice A n c, .int .i64 (a : Int), .slice A2 n2 c2] W (RetF x W)) (KB : ∀ W, Below w.heap.size w W → Calls Tryz.prog 100 #[.slice A n c, .int .i64 (b : Int), .slice A2 n2 c2] W (RetF y W)) :
    Calls Tryz.prog 59 #[.slice A n c, .int .i64 (i : Int), .slice A2 n2 c2] w (RetX (.bool (decide (x < y))) w) := by
  have hin : i < n := by rw [← hI.hn]; exact (List.getElem?_eq_some_iff.1 hi).1
  have hiI : (i : Int) < (n : Int) := by omega
  have hi0 : 0 ≤ (i : Int) := by omega
  obtain ⟨g, e1, l1, q0, q1, q2, q3, q4, q5, q6⟩ := nod_cells hI.hN (k := i) (by rw [hI.hn]; exact hin)
  rw [(List.getElem?_eq_some_iff.1 hi).2] at q0 q1 q2 q3 q4 q5 q6
  simp only [nd] at q0 q1 q2 q3 q4 q5 q6
  subst e1
  have HI := Lib.hid hI
  clear hI hi
  have HKA := Lib.hid KA
  have HKB := Lib.hid KB
  clear KA KB
  have HZB := Lib.hid hz
  obtain ⟨sg, hsg⟩ : ∃ t, t = sgn x y := ⟨_, rfl⟩
  have KO : Hid (∀ (w : World) (s1 s2 : Bool) (A1 A2 : Option Addr) (c1 c2 n1 n2 : Nat) (h1 : IntS w s1 A1 n1 c1 x) (h2 : IntS w s2 A2 n2 c2 y), Calls Tryz.prog 99 #[.agg #[.bool s1, .slice A1 n1 c1], .agg #[.bool s2, .slice A2 n2 c2]] w (RetX (.int .i64 sg) w)) := Lib.hid fun w s1 s2 A1 A2 c1 c2 n1 n2 h1 h2 => by
    rw [hsg]
    exact ri_order w s1 s2 A1 A2 c1 c2 n1 n2 x y hz h1 h2
  have hcase : (x < y ∧ sg = -1) ∨ (x = y ∧ sg = 0) ∨ (y < x ∧ sg = 1) := by
    rw [hsg]
    unfold sgn
    by_cases h1 : x = y
    · exact .inr (.inl ⟨h1, if_pos h1⟩)
    · by_cases h2 : x < y
      · exact .inl ⟨h2, by rw [if_neg h1, if_pos h2]⟩
      · exact .inr (.inr ⟨by omega, by rw [if_neg h1, if_neg h2]⟩)
  have HCS := Lib.hid hcase
  clear hz hsg hcase
  obtain ⟨W, hW⟩ : ∃ W, W = w.alloc (.cells #[.int .i64 ((10 : Nat) : Int), .int .i64 (a : Int), .int .i64 (b : Int), .string ⟨#[]⟩, .string ⟨#[]⟩, .int .u64 (hi 0), .int .u64 (lo 0)] 131) := ⟨_, rfl⟩
  have hX : NX w w.heap.size (nxs 10 a b ⟨#[]⟩ ⟨#[]⟩ (hi 0) (lo 0)) W := by
    rw [hW]
    refine ⟨(Below.refl _ _).alloc (Nat.le_refl _) _, Nat.le_refl _, by simp, fun j => ?_⟩
    rw [World.cell?_alloc_new]
    rfl
  have HX := Lib.hid hX
  have HW := Lib.hid hW
  clear hX hW
  go_enter Tryz.func59, Tryz.ntmps59
  go_upto_region 2 with fail
  change Code.wp _ _ _ _ (w.alloc (.cells #[.int .i64 ((10 : Nat) : Int), .int .i64 (a : Int), .int .i64 (b : Int), .string ⟨#[]⟩, .string ⟨#[]⟩, .int .u64 (hi 0), .int .u64 (lo 0)] 131))
  rw [← HW.out]
  clear HW q0 q1 q2 q3 q4 q5 q6
  have c0 : W.cell? ⟨w.heap.size, 0, none⟩ = some (.int .i64 ((10 : Nat) : Int)) := HX.out.at_ 0
  have c1 : W.cell? ⟨w.heap.size, 1, none⟩ = some (.int .i64 (a : Int)) := HX.out.at_ 1
  have c2 : W.cell? ⟨w.heap.size, 2, none⟩ = some (.int .i64 (b : Int)) := HX.out.at_ 2
  have han : a < n := by rw [← HI.out.hn]; exact (List.getElem?_eq_some_iff.1 had).1
  have haI : (a : Int) < (n : Int) := by omega
  have ha0 : 0 ≤ (a : Int) := by omega
  have hNW := HI.out.hN.below HX.out.below
  obtain ⟨g', e2, _, p0, p1, p2, p3, p4, p5, p6⟩ := nod_cells hNW (k := a) (by rw [HI.out.hn]; exact han)
  injection e2 with e2
  injection e2 with e2
  subst e2
  rw [(List.getElem?_eq_some_iff.1 had).2] at p0 p1 p2 p3 p4 p5 p6
  have KN := Lib.hid (rf_isnum d.op d.a d.b d.name d.attr (hi d.val) (lo d.val))
  rw [hnum] at KN
  generalize d.op = y0 at p0 KN
  generalize d.a = y1 at p1 KN
  generalize d.b = y2 at p2 KN
  generalize d.name = y3 at p3 KN
  generalize d.attr = y4 at p4 KN
  generalize hi d.val = y5 at p5 KN
  generalize lo d.val = y6 at p6 KN
  clear hNW had hnum
  go_wp2_with fail
  go_at_call 98
  refine (KN.out W).mono ?_
  rintro e w2 ⟨rfl, hb2⟩
  have HX2 := Lib.hid (HX.out.call hb2)
  clear hb2 c0 c1 c2 p0 p1 p2 p3 p4 p5 p6 KN
  go_upto_region 15 with fail
  go_region_held3 (fun w' => NX w w.heap.size (nxs 10 a b ⟨#[]⟩ ⟨#[]⟩ (hi 0) (lo 0)) w' ∧ w'.cell? ⟨w.heap.size, 0, none⟩ = some (.int .i64 ((10 : Nat) : Int)) ∧ w'.cell? ⟨w.heap.size, 1, none⟩ = some (.int .i64 (a : Int)) ∧ w'.cell? ⟨w.heap.size, 2, none⟩ = some (.int .i64 (b : Int)))
    (first
      | exact (NX.drew HX2.out).all
      | exact (NX.call (And.left (by assumption)) (by assumption)).all)
    (first
      | (go_at_call 100; (with_reducible refine (HKA.out _ (NX.below (And.left (by assumption)))).mono ?_); (rintro e w3 ⟨s1, A3, n3, c3, rfl, hz1, hb3⟩; have HZ1 := Lib.hid hz1; have HX3 := Lib.hid (HX2.out.drew.call hb3); clear hz1))
      | (go_at_call 100; (with_reducible refine (HKB.out _ (NX.below (And.left (by assumption)))).mono ?_); (rintro e w4 ⟨s2, A4, n4, c4, rfl, hz2, hb4⟩; have HZ2 := Lib.hid hz2; have HX4 := Lib.hid (HX3.out.call hb4); have HZ3 := Lib.hid (HZ1.out.below hb4); clear hz2))
      | (go_at_call 99; (with_reducible refine (KO.out _ s1 s2 A3 A4 c3 c4 n3 n4 HZ3.out HZ2.out).mono ?_); (rintro e w5 ⟨rfl, hb5⟩; have HX5 := Lib.hid (HX4.out.call hb5))))
  all_goals
    try simp only [Exit.then]
    try apply_assumption
  all_goals
    have c0 : w5.cell? ⟨w.heap.size, 0, none⟩ = some (.int .i64 ((10 : Nat) : Int)) := HX5.out.at_ 0
    rcases HCS.out with ⟨hlt, rfl⟩ | ⟨heq, rfl⟩ | ⟨hgt, rfl⟩
  · rw [show decide (x < y) = true by exact decide_eq_true (by omega)]
    clear hlt HCS
    go_wp2_with fail
    go_ret
    exact ⟨rfl, HX5.out.below⟩
  · rw [show decide (x < y) = false by exact decide_eq_false (by omega)]
    clear heq HCS
    go_wp2_with fail
    go_ret
    exact ⟨rfl, HX5.out.below⟩
  · rw [show decide (x < y) = false by exact decide_eq_false (by omega)]
    clear hgt HCS
    go_wp2_with fail
    go_ret
    exact ⟨rfl, HX5.out.below⟩
set_option maxRecDepth 100000 in
set_option maxHeartbeats 4000000 in
theorem rf_tru_c11 (w : World) {A : Option Addr} {n c : Nat} {o : List Nd} {A2 : Option Addr} {n2 c2 : Nat} {bl : List BindN} (hI : RIn w A n c o A2 n2 c2 bl) (i : Nat) (a b : Nat) (x y : Int) (hz : Bd (x - y)) (hi : o[i]? = some (nd 11 a b)) (d : Nd) (had : o[a]? = some d) (hnum : numO d.op = true) (KA : ∀ W, Below w.heap.size w W → Calls Tryz.prog 100 #[.slice A n c, .int .i64 (a : Int), .slice A2 n2 c2] W (RetF x W)) (KB : ∀ W, Below w.heap.size w W → Calls Tryz.prog 100 #[.slice A n c, .int .i64 (b : Int), .slice A2 n2 c2] W (RetF y W)) :
    Calls Tryz.prog 59 #[.slice A n c, .int .i64 (i : Int), .slice A2 n2 c2] w (RetX (.bool (decide (x ≤ y))) w) := by
  have hin : i < n := by rw [← hI.hn]; exact (List.getElem?_eq_some_iff.1 hi).1
  have hiI : (i : Int) < (n : Int) := by omega
  have hi0 : 0 ≤ (i : Int) := by omega
  obtain ⟨g, e1, l1, q0, q1, q2, q3, q4, q5, q6⟩ := nod_cells hI.hN (k := i) (by rw [hI.hn]; exact hin)
  rw [(List.getElem?_eq_some_iff.1 hi).2] at q0 q1 q2 q3 q4 q5 q6
  simp only [nd] at q0 q1 q2 q3 q4 q5 q6
  subst e1
  have HI := Lib.hid hI
  clear hI hi
  have HKA := Lib.hid KA
  have HKB := Lib.hid KB
  clear KA KB
  have HZB := Lib.hid hz
  obtain ⟨sg, hsg⟩ : ∃ t, t = sgn x y := ⟨_, rfl⟩
  have KO : Hid (∀ (w : World) (s1 s2 : Bool) (A1 A2 : Option Addr) (c1 c2 n1 n2 : Nat) (h1 : IntS w s1 A1 n1 c1 x) (h2 : IntS w s2 A2 n2 c2 y), Calls Tryz.prog 99 #[.agg #[.bool s1, .slice A1 n1 c1], .agg #[.bool s2, .slice A2 n2 c2]] w (RetX (.int .i64 sg) w)) := Lib.hid fun w s1 s2 A1 A2 c1 c2 n1 n2 h1 h2 => by
    rw [hsg]
    exact ri_order w s1 s2 A1 A2 c1 c2 n1 n2 x y hz h1 h2
  have hcase : (x < y ∧ sg = -1) ∨ (x = y ∧ sg = 0) ∨ (y < x ∧ sg = 1) := by
    rw [hsg]
    unfold sgn
    by_cases h1 : x = y
    · exact .inr (.inl ⟨h1, if_pos h1⟩)
    · by_cases h2 : x < y
      · exact .inl ⟨h2, by rw [if_neg h1, if_pos h2]⟩
      · exact .inr (.inr ⟨by omega, by rw [if_neg h1, if_neg h2]⟩)
  have HCS := Lib.hid hcase
  clear hz hsg hcase
  obtain ⟨W, hW⟩ : ∃ W, W = w.alloc (.cells #[.int .i64 ((11 : Nat) : Int), .int .i64 (a : Int), .int .i64 (b : Int), .string ⟨#[]⟩, .string ⟨#[]⟩, .int .u64 (hi 0), .int .u64 (lo 0)] 131) := ⟨_, rfl⟩
  have hX : NX w w.heap.size (nxs 11 a b ⟨#[]⟩ ⟨#[]⟩ (hi 0) (lo 0)) W := by
    rw [hW]
    refine ⟨(Below.refl _ _).alloc (Nat.le_refl _) _, Nat.le_refl _, by simp, fun j => ?_⟩
    rw [World.cell?_alloc_new]
    rfl
  have HX := Lib.hid hX
  have HW := Lib.hid hW
  clear hX hW
  go_enter Tryz.func59, Tryz.ntmps59
  go_upto_region 2 with fail
  change Code.wp _ _ _ _ (w.alloc (.cells #[.int .i64 ((11 : Nat) : Int), .int .i64 (a : Int), .int .i64 (b : Int), .string ⟨#[]⟩, .string ⟨#[]⟩, .int .u64 (hi 0), .int .u64 (lo 0)] 131))
  rw [← HW.out]
  clear HW q0 q1 q2 q3 q4 q5 q6
  have c0 : W.cell? ⟨w.heap.size, 0, none⟩ = some (.int .i64 ((11 : Nat) : Int)) := HX.out.at_ 0
  have c1 : W.cell? ⟨w.heap.size, 1, none⟩ = some (.int .i64 (a : Int)) := HX.out.at_ 1
  have c2 : W.cell? ⟨w.heap.size, 2, none⟩ = some (.int .i64 (b : Int)) := HX.out.at_ 2
  have han : a < n := by rw [← HI.out.hn]; exact (List.getElem?_eq_some_iff.1 had).1
  have haI : (a : Int) < (n : Int) := by omega
  have ha0 : 0 ≤ (a : Int) := by omega
  have hNW := HI.out.hN.below HX.out.below
  obtain ⟨g', e2, _, p0, p1, p2, p3, p4, p5, p6⟩ := nod_cells hNW (k := a) (by rw [HI.out.hn]; exact han)
  injection e2 with e2
  injection e2 with e2
  subst e2
  rw [(List.getElem?_eq_some_iff.1 had).2] at p0 p1 p2 p3 p4 p5 p6
  have KN := Lib.hid (rf_isnum d.op d.a d.b d.name d.attr (hi d.val) (lo d.val))
  rw [hnum] at KN
  generalize d.op = y0 at p0 KN
  generalize d.a = y1 at p1 KN
  generalize d.b = y2 at p2 KN
  generalize d.name = y3 at p3 KN
  generalize d.attr = y4 at p4 KN
  generalize hi d.val = y5 at p5 KN
  generalize lo d.val = y6 at p6 KN
  clear hNW had hnum
  go_wp2_with fail
  go_at_call 98
  refine (KN.out W).mono ?_
  rintro e w2 ⟨rfl, hb2⟩
  have HX2 := Lib.hid (HX.out.call hb2)
  clear hb2 c0 c1 c2 p0 p1 p2 p3 p4 p5 p6 KN
  go_upto_region 15 with fail
  go_region_held3 (fun w' => NX w w.heap.size (nxs 11 a b ⟨#[]⟩ ⟨#[]⟩ (hi 0) (lo 0)) w' ∧ w'.cell? ⟨w.heap.size, 0, none⟩ = some (.int .i64 ((11 : Nat) : Int)) ∧ w'.cell? ⟨w.heap.size, 1, none⟩ = some (.int .i64 (a : Int)) ∧ w'.cell? ⟨w.heap.size, 2, none⟩ = some (.int .i64 (b : Int)))
    (first
      | exact (NX.drew HX2.out).all
      | exact (NX.call (And.left (by assumption)) (by assumption)).all)
    (first
      | (go_at_call 100; (with_reducible refine (HKA.out _ (NX.below (And.left (by assumption)))).mono ?_); (rintro e w3 ⟨s1, A3, n3, c3, rfl, hz1, hb3⟩; have HZ1 := Lib.hid hz1; have HX3 := Lib.hid (HX2.out.drew.call hb3); clear hz1))
      | (go_at_call 100; (with_reducible refine (HKB.out _ (NX.below (And.left (by assumption)))).mono ?_); (rintro e w4 ⟨s2, A4, n4, c4, rfl, hz2, hb4⟩; have HZ2 := Lib.hid hz2; have HX4 := Lib.hid (HX3.out.call hb4); have HZ3 := Lib.hid (HZ1.out.below hb4); clear hz2))
      | (go_at_call 99; (with_reducible refine (KO.out _ s1 s2 A3 A4 c3 c4 n3 n4 HZ3.out HZ2.out).mono ?_); (rintro e w5 ⟨rfl, hb5⟩; have HX5 := Lib.hid (HX4.out.call hb5))))
  all_goals
    try simp only [Exit.then]
    try apply_assumption
  all_goals
    have c0 : w5.cell? ⟨w.heap.size, 0, none⟩ = some (.int .i64 ((11 : Nat) : Int)) := HX5.out.at_ 0
    rcases HCS.out with ⟨hlt, rfl⟩ | ⟨heq, rfl⟩ | ⟨hgt, rfl⟩
  · rw [show decide (x ≤ y) = true by exact decide_eq_true (by omega)]
    clear hlt HCS
    go_wp2_with fail
    go_ret
    exact ⟨rfl, HX5.out.below⟩
  · rw [show decide (x ≤ y) = true by exact decide_eq_true (by omega)]
    clear heq HCS
    go_wp2_with fail
    go_ret
    exact ⟨rfl, HX5.out.below⟩
  · rw [show decide (x ≤ y) = false by exact decide_eq_false (by omega)]
    clear hgt HCS
    go_wp2_with fail
    go_ret
    exact ⟨rfl, HX5.out.below⟩
set_option maxRecDepth 100000 in
set_option maxHeartbeats 4000000 in
theorem rf_tru_c12 (w : World) {A : Option Addr} {n c : Nat} {o : List Nd} {A2 : Option Addr} {n2 c2 : Nat} {bl : List BindN} (hI : RIn w A n c o A2 n2 c2 bl) (i : Nat) (a b : Nat) (x y : Int) (hz : Bd (x - y)) (hi : o[i]? = some (nd 12 a b)) (d : Nd) (had : o[a]? = some d) (hnum : numO d.op = true) (KA : ∀ W, Below w.heap.size w W → Calls Tryz.prog 100 #[.slice A n c, .int .i64 (a : Int), .slice A2 n2 c2] W (RetF x W)) (KB : ∀ W, Below w.heap.size w W → Calls Tryz.prog 100 #[.slice A n c, .int .i64 (b : Int), .slice A2 n2 c2] W (RetF y W)) :
    Calls Tryz.prog 59 #[.slice A n c, .int .i64 (i : Int), .slice A2 n2 c2] w (RetX (.bool (decide (y < x))) w) := by
  have hin : i < n := by rw [← hI.hn]; exact (List.getElem?_eq_some_iff.1 hi).1
  have hiI : (i : Int) < (n : Int) := by omega
  have hi0 : 0 ≤ (i : Int) := by omega
  obtain ⟨g, e1, l1, q0, q1, q2, q3, q4, q5, q6⟩ := nod_cells hI.hN (k := i) (by rw [hI.hn]; exact hin)
  rw [(List.getElem?_eq_some_iff.1 hi).2] at q0 q1 q2 q3 q4 q5 q6
  simp only [nd] at q0 q1 q2 q3 q4 q5 q6
  subst e1
  have HI := Lib.hid hI
  clear hI hi
  have HKA := Lib.hid KA
  have HKB := Lib.hid KB
  clear KA KB
  have HZB := Lib.hid hz
  obtain ⟨sg, hsg⟩ : ∃ t, t = sgn x y := ⟨_, rfl⟩
  have KO : Hid (∀ (w : World) (s1 s2 : Bool) (A1 A2 : Option Addr) (c1 c2 n1 n2 : Nat) (h1 : IntS w s1 A1 n1 c1 x) (h2 : IntS w s2 A2 n2 c2 y), Calls Tryz.prog 99 #[.agg #[.bool s1, .slice A1 n1 c1], .agg #[.bool s2, .slice A2 n2 c2]] w (RetX (.int .i64 sg) w)) := Lib.hid fun w s1 s2 A1 A2 c1 c2 n1 n2 h1 h2 => by
    rw [hsg]
    exact ri_order w s1 s2 A1 A2 c1 c2 n1 n2 x y hz h1 h2
  have hcase : (x < y ∧ sg = -1) ∨ (x = y ∧ sg = 0) ∨ (y < x ∧ sg = 1) := by
    rw [hsg]
    unfold sgn
    by_cases h1 : x = y
    · exact .inr (.inl ⟨h1, if_pos h1⟩)
    · by_cases h2 : x < y
      · exact .inl ⟨h2, by rw [if_neg h1, if_pos h2]⟩
      · exact .inr (.inr ⟨by omega, by rw [if_neg h1, if_neg h2]⟩)
  have HCS := Lib.hid hcase
  clear hz hsg hcase
  obtain ⟨W, hW⟩ : ∃ W, W = w.alloc (.cells #[.int .i64 ((12 : Nat) : Int), .int .i64 (a : Int), .int .i64 (b : Int), .string ⟨#[]⟩, .string ⟨#[]⟩, .int .u64 (hi 0), .int .u64 (lo 0)] 131) := ⟨_, rfl⟩
  have hX : NX w w.heap.size (nxs 12 a b ⟨#[]⟩ ⟨#[]⟩ (hi 0) (lo 0)) W := by
    rw [hW]
    refine ⟨(Below.refl _ _).alloc (Nat.le_refl _) _, Nat.le_refl _, by simp, fun j => ?_⟩
    rw [World.cell?_alloc_new]
    rfl
  have HX := Lib.hid hX
  have HW := Lib.hid hW
  clear hX hW
  go_enter Tryz.func59, Tryz.ntmps59
  go_upto_region 2 with fail
  change Code.wp _ _ _ _ (w.alloc (.cells #[.int .i64 ((12 : Nat) : Int), .int .i64 (a : Int), .int .i64 (b : Int), .string ⟨#[]⟩, .string ⟨#[]⟩, .int .u64 (hi 0), .int .u64 (lo 0)] 131))
  rw [← HW.out]
  clear HW q0 q1 q2 q3 q4 q5 q6
  have c0 : W.cell? ⟨w.heap.size, 0, none⟩ = some (.int .i64 ((12 : Nat) : Int)) := HX.out.at_ 0
  have c1 : W.cell? ⟨w.heap.size, 1, none⟩ = some (.int .i64 (a : Int)) := HX.out.at_ 1
  have c2 : W.cell? ⟨w.heap.size, 2, none⟩ = some (.int .i64 (b : Int)) := HX.out.at_ 2
  have han : a < n := by rw [← HI.out.hn]; exact (List.getElem?_eq_some_iff.1 had).1
  have haI : (a : Int) < (n : Int) := by omega
  have ha0 : 0 ≤ (a : Int) := by omega
  have hNW := HI.out.hN.below HX.out.below
  obtain ⟨g', e2, _, p0, p1, p2, p3, p4, p5, p6⟩ := nod_cells hNW (k := a) (by rw [HI.out.hn]; exact han)
  injection e2 with e2
  injection e2 with e2
  subst e2
  rw [(List.getElem?_eq_some_iff.1 had).2] at p0 p1 p2 p3 p4 p5 p6
  have KN := Lib.hid (rf_isnum d.op d.a d.b d.name d.attr (hi d.val) (lo d.val))
  rw [hnum] at KN
  generalize d.op = y0 at p0 KN
  generalize d.a = y1 at p1 KN
  generalize d.b = y2 at p2 KN
  generalize d.name = y3 at p3 KN
  generalize d.attr = y4 at p4 KN
  generalize hi d.val = y5 at p5 KN
  generalize lo d.val = y6 at p6 KN
  clear hNW had hnum
  go_wp2_with fail
  go_at_call 98
  refine (KN.out W).mono ?_
  rintro e w2 ⟨rfl, hb2⟩
  have HX2 := Lib.hid (HX.out.call hb2)
  clear hb2 c0 c1 c2 p0 p1 p2 p3 p4 p5 p6 KN
  go_upto_region 15 with fail
  go_region_held3 (fun w' => NX w w.heap.size (nxs 12 a b ⟨#[]⟩ ⟨#[]⟩ (hi 0) (lo 0)) w' ∧ w'.cell? ⟨w.heap.size, 0, none⟩ = some (.int .i64 ((12 : Nat) : Int)) ∧ w'.cell? ⟨w.heap.size, 1, none⟩ = some (.int .i64 (a : Int)) ∧ w'.cell? ⟨w.heap.size, 2, none⟩ = some (.int .i64 (b : Int)))
    (first
      | exact (NX.drew HX2.out).all
      | exact (NX.call (And.left (by assumption)) (by assumption)).all)
    (first
      | (go_at_call 100; (with_reducible refine (HKA.out _ (NX.below (And.left (by assumption)))).mono ?_); (rintro e w3 ⟨s1, A3, n3, c3, rfl, hz1, hb3⟩; have HZ1 := Lib.hid hz1; have HX3 := Lib.hid (HX2.out.drew.call hb3); clear hz1))
      | (go_at_call 100; (with_reducible refine (HKB.out _ (NX.below (And.left (by assumption)))).mono ?_); (rintro e w4 ⟨s2, A4, n4, c4, rfl, hz2, hb4⟩; have HZ2 := Lib.hid hz2; have HX4 := Lib.hid (HX3.out.call hb4); have HZ3 := Lib.hid (HZ1.out.below hb4); clear hz2))
      | (go_at_call 99; (with_reducible refine (KO.out _ s1 s2 A3 A4 c3 c4 n3 n4 HZ3.out HZ2.out).mono ?_); (rintro e w5 ⟨rfl, hb5⟩; have HX5 := Lib.hid (HX4.out.call hb5))))
  all_goals
    try simp only [Exit.then]
    try apply_assumption
  all_goals
    have c0 : w5.cell? ⟨w.heap.size, 0, none⟩ = some (.int .i64 ((12 : Nat) : Int)) := HX5.out.at_ 0
    rcases HCS.out with ⟨hlt, rfl⟩ | ⟨heq, rfl⟩ | ⟨hgt, rfl⟩
  · rw [show decide (y < x) = false by exact decide_eq_false (by omega)]
    clear hlt HCS
    go_wp2_with fail
    go_ret
    exact ⟨rfl, HX5.out.below⟩
  · rw [show decide (y < x) = false by exact decide_eq_false (by omega)]
    clear heq HCS
    go_wp2_with fail
    go_ret
    exact ⟨rfl, HX5.out.below⟩
  · rw [show decide (y < x) = true by exact decide_eq_true (by omega)]
    clear hgt HCS
    go_wp2_with fail
    go_ret
    exact ⟨rfl, HX5.out.below⟩
set_option maxRecDepth 100000 in
set_option maxHeartbeats 4000000 in
theorem rf_tru_c13 (w : World) {A : Option Addr} {n c : Nat} {o : List Nd} {A2 : Option Addr} {n2 c2 : Nat} {bl : List BindN} (hI : RIn w A n c o A2 n2 c2 bl) (i : Nat) (a b : Nat) (x y : Int) (hz : Bd (x - y)) (hi : o[i]? = some (nd 13 a b)) (d : Nd) (had : o[a]? = some d) (hnum : numO d.op = true) (KA : ∀ W, Below w.heap.size w W → Calls Tryz.prog 100 #[.slice A n c, .int .i64 (a : Int), .slice A2 n2 c2] W (RetF x W)) (KB : ∀ W, Below w.heap.size w W → Calls Tryz.prog 100 #[.slice A n c, .int .i64 (b : Int), .slice A2 n2 c2] W (RetF y W)) :
    Calls Tryz.prog 59 #[.slice A n c, .int .i64 (i : Int), .slice A2 n2 c2] w (RetX (.bool (decide (y ≤ x))) w) := by
  have hin : i < n := by rw [← hI.hn]; exact (List.getElem?_eq_some_iff.1 hi).1
  have hiI : (i : Int) < (n : Int) := by omega
  have hi0 : 0 ≤ (i : Int) := by omega
  obtain ⟨g, e1, l1, q0, q1, q2, q3, q4, q5, q6⟩ := nod_cells hI.hN (k := i) (by rw [hI.hn]; exact hin)
  rw [(List.getElem?_eq_some_iff.1 hi).2] at q0 q1 q2 q3 q4 q5 q6
  simp only [nd] at q0 q1 q2 q3 q4 q5 q6
  subst e1
  have HI := Lib.hid hI
  clear hI hi
  have HKA := Lib.hid KA
  have HKB := Lib.hid KB
  clear KA KB
  have HZB := Lib.hid hz
  obtain ⟨sg, hsg⟩ : ∃ t, t = sgn x y := ⟨_, rfl⟩
  have KO : Hid (∀ (w : World) (s1 s2 : Bool) (A1 A2 : Option Addr) (c1 c2 n1 n2 : Nat) (h1 : IntS w s1 A1 n1 c1 x) (h2 : IntS w s2 A2 n2 c2 y), Calls Tryz.prog 99 #[.agg #[.bool s1, .slice A1 n1 c1], .agg #[.bool s2, .slice A2 n2 c2]] w (RetX (.int .i64 sg) w)) := Lib.hid fun w s1 s2 A1 A2 c1 c2 n1 n2 h1 h2 => by
    rw [hsg]
    exact ri_order w s1 s2 A1 A2 c1 c2 n1 n2 x y hz h1 h2
  have hcase : (x < y ∧ sg = -1) ∨ (x = y ∧ sg = 0) ∨ (y < x ∧ sg = 1) := by
    rw [hsg]
    unfold sgn
    by_cases h1 : x = y
    · exact .inr (.inl ⟨h1, if_pos h1⟩)
    · by_cases h2 : x < y
      · exact .inl ⟨h2, by rw [if_neg h1, if_pos h2]⟩
      · exact .inr (.inr ⟨by omega, by rw [if_neg h1, if_neg h2]⟩)
  have HCS := Lib.hid hcase
  clear hz hsg hcase
  obtain ⟨W, hW⟩ : ∃ W, W = w.alloc (.cells #[.int .i64 ((13 : Nat) : Int), .int .i64 (a : Int), .int .i64 (b : Int), .string ⟨#[]⟩, .string ⟨#[]⟩, .int .u64 (hi 0), .int .u64 (lo 0)] 131) := ⟨_, rfl⟩
  have hX : NX w w.heap.size (nxs 13 a b ⟨#[]⟩ ⟨#[]⟩ (hi 0) (lo 0)) W := by
    rw [hW]
    refine ⟨(Below.refl _ _).alloc (Nat.le_refl _) _, Nat.le_refl _, by simp, fun j => ?_⟩
    rw [World.cell?_alloc_new]
    rfl
  have HX := Lib.hid hX
  have HW := Lib.hid hW
  clear hX hW
  go_enter Tryz.func59, Tryz.ntmps59
  go_upto_region 2 with fail
  change Code.wp _ _ _ _ (w.alloc (.cells #[.int .i64 ((13 : Nat) : Int), .int .i64 (a : Int), .int .i64 (b : Int), .string ⟨#[]⟩, .string ⟨#[]⟩, .int .u64 (hi 0), .int .u64 (lo 0)] 131))
  rw [← HW.out]
  clear HW q0 q1 q2 q3 q4 q5 q6
  have c0 : W.cell? ⟨w.heap.size, 0, none⟩ = some (.int .i64 ((13 : Nat) : Int)) := HX.out.at_ 0
  have c1 : W.cell? ⟨w.heap.size, 1, none⟩ = some (.int .i64 (a : Int)) := HX.out.at_ 1
  have c2 : W.cell? ⟨w.heap.size, 2, none⟩ = some (.int .i64 (b : Int)) := HX.out.at_ 2
  have han : a < n := by rw [← HI.out.hn]; exact (List.getElem?_eq_some_iff.1 had).1
  have haI : (a : Int) < (n : Int) := by omega
  have ha0 : 0 ≤ (a : Int) := by omega
  have hNW := HI.out.hN.below HX.out.below
  obtain ⟨g', e2, _, p0, p1, p2, p3, p4, p5, p6⟩ := nod_cells hNW (k := a) (by rw [HI.out.hn]; exact han)
  injection e2 with e2
  injection e2 with e2
  subst e2
  rw [(List.getElem?_eq_some_iff.1 had).2] at p0 p1 p2 p3 p4 p5 p6
  have KN := Lib.hid (rf_isnum d.op d.a d.b d.name d.attr (hi d.val) (lo d.val))
  rw [hnum] at KN
  generalize d.op = y0 at p0 KN
  generalize d.a = y1 at p1 KN
  generalize d.b = y2 at p2 KN
  generalize d.name = y3 at p3 KN
  generalize d.attr = y4 at p4 KN
  generalize hi d.val = y5 at p5 KN
  generalize lo d.val = y6 at p6 KN
  clear hNW had hnum
  go_wp2_with fail
  go_at_call 98
  refine (KN.out W).mono ?_
  rintro e w2 ⟨rfl, hb2⟩
  have HX2 := Lib.hid (HX.out.call hb2)
  clear hb2 c0 c1 c2 p0 p1 p2 p3 p4 p5 p6 KN
  go_upto_region 15 with fail
  go_region_held3 (fun w' => NX w w.heap.size (nxs 13 a b ⟨#[]⟩ ⟨#[]⟩ (hi 0) (lo 0)) w' ∧ w'.cell? ⟨w.heap.size, 0, none⟩ = some (.int .i64 ((13 : Nat) : Int)) ∧ w'.cell? ⟨w.heap.size, 1, none⟩ = some (.int .i64 (a : Int)) ∧ w'.cell? ⟨w.heap.size, 2, none⟩ = some (.int .i64 (b : Int)))
    (first
      | exact (NX.drew HX2.out).all
      | exact (NX.call (And.left (by assumption)) (by assumption)).all)
    (first
      | (go_at_call 100; (with_reducible refine (HKA.out _ (NX.below (And.left (by assumption)))).mono ?_); (rintro e w3 ⟨s1, A3, n3, c3, rfl, hz1, hb3⟩; have HZ1 := Lib.hid hz1; have HX3 := Lib.hid (HX2.out.drew.call hb3); clear hz1))
      | (go_at_call 100; (with_reducible refine (HKB.out _ (NX.below (And.left (by assumption)))).mono ?_); (rintro e w4 ⟨s2, A4, n4, c4, rfl, hz2, hb4⟩; have HZ2 := Lib.hid hz2; have HX4 := Lib.hid (HX3.out.call hb4); have HZ3 := Lib.hid (HZ1.out.below hb4); clear hz2))
      | (go_at_call 99; (with_reducible refine (KO.out _ s1 s2 A3 A4 c3 c4 n3 n4 HZ3.out HZ2.out).mono ?_); (rintro e w5 ⟨rfl, hb5⟩; have HX5 := Lib.hid (HX4.out.call hb5))))
  all_goals
    try simp only [Exit.then]
    try apply_assumption
  all_goals
    have c0 : w5.cell? ⟨w.heap.size, 0, none⟩ = some (.int .i64 ((13 : Nat) : Int)) := HX5.out.at_ 0
    rcases HCS.out with ⟨hlt, rfl⟩ | ⟨heq, rfl⟩ | ⟨hgt, rfl⟩
  · rw [show decide (y ≤ x) = false by exact decide_eq_false (by omega)]
    clear hlt HCS
    go_wp2_with fail
    go_ret
    exact ⟨rfl, HX5.out.below⟩
  · rw [show decide (y ≤ x) = true by exact decide_eq_true (by omega)]
    clear heq HCS
    go_wp2_with fail
    go_ret
    exact ⟨rfl, HX5.out.below⟩
  · rw [show decide (y ≤ x) = true by exact decide_eq_true (by omega)]
    clear hgt HCS
    go_wp2_with fail
    go_ret
    exact ⟨rfl, HX5.out.below⟩
end
/- Layer 9: the reference's Holds, over trees. -/
section
open Go.RowKit

theorem typO_num {k : Nat} : typO k = 1 ↔ numO k = true := by unfold typO; split <;> simp_all
theorem typO_tru {k : Nat} : typO k = 2 ↔ numO k = false := by unfold typO; split <;> simp_all
section
variable {A : Option Addr} {n c : Nat} {o : List Nd} {A2 : Option Addr} {n2 c2 : Nat} {bl : List BindN}
set_option maxRecDepth 100000 in
theorem rf_int (t : Tr) : ∀ (b : Nat) (w : World), TrIn o t b → t.Ok → t.Wt → t.ty = 1 → (∀ x ∈ o, NdOk x) → RIn w A n c o A2 n2 c2 bl →
    Calls Tryz.prog 100 #[.slice A n c, .int .i64 ((b + t.size - 1 : Nat) : Int), .slice A2 n2 c2] w (RetF (t.mn (envB bl)).int w) := by
  have hE : EnvB (envB bl) := fun a c => envB_lt bl a c
  induction t with
  | leaf d =>
    intro b w hT hk hw hy hS hI
    have hr := hT.root
    have hm := hS d (List.mem_of_getElem? hr)
    obtain ⟨op, da, db, nm, at_, v⟩ := d
    obtain ⟨ha, hb, his⟩ := hk
    simp only at ha hb his
    subst ha hb
    rcases his with ⟨rfl, rfl, rfl, hv⟩ | ⟨rfl, _⟩ | ⟨rfl, rfl, _⟩
    · exact rf_int_num w hI _ v hv hr
    · cases hy
    · exact rf_int_var w hI _ nm at_ hm.nm hm.at_ hr
  | un k t ih =>
    intro b w hT hk hw hy hS hI
    rcases hk.1 with rfl | rfl
    · have h1 := hw.2.1 rfl
      have e := (ty_mn (env := envB bl) t hk.2 hw.1).1 h1
      have h := rf_int_neg w hI _ (b + t.size - 1) (t.mn (envB bl)).int hT.root (fun W hW => ih b W hT.un hk.2 hw.1 h1 hS (hI.below hW))
      have ev : ((Tr.un 4 t).mn (envB bl)).int = -(t.mn (envB bl)).int := by
        show (opMn 4 (t.mn (envB bl)) (.tru false)).int = _
        rw [e]; rfl
      rw [ev]
      exact h
    · cases hy
  | bin k t u ih1 ih2 =>
    intro b w hT hk hw hy hS hI
    have hlt := hT.lt
    have hn := hI.hn
    have hn4 := hI.hn4
    have hss : (Tr.bin k t u).size = t.size + u.size + 1 := rfl
    have h67 : k = 6 ∨ k = 7 := by
      have h1 : numO k = true := typO_num.1 hy
      have h2 := hk.1
      unfold numO at h1
      simp only [Bool.or_eq_true, decide_eq_true_iff] at h1
      omega
    have hty := wt_num hw (by omega)
    have e1 := (ty_mn (env := envB bl) t hk.2.2.1 hw.1).1 hty.1
    have e2 := (ty_mn (env := envB bl) u hk.2.2.2 hw.2.1).1 hty.2
    have hbd := bd_tr hE hk (by omega)
    rcases h67 with rfl | rfl
    · have ev : ((Tr.bin 6 t u).mn (envB bl)).int = (t.mn (envB bl)).int + (u.mn (envB bl)).int := by
        show (opMn 6 (t.mn (envB bl)) (u.mn (envB bl))).int = _
        rw [e1, e2]; rfl
      rw [ev] at hbd ⊢
      exact rf_int_add w hI _ (b + t.size - 1) (b + t.size + u.size - 1) (t.mn (envB bl)).int (u.mn (envB bl)).int hbd hT.root (fun W hW => ih1 b W hT.left hk.2.2.1 hw.1 hty.1 hS (hI.below hW)) (fun W hW => ih2 (b + t.size) W hT.right hk.2.2.2 hw.2.1 hty.2 hS (hI.below hW))
    · have ev : ((Tr.bin 7 t u).mn (envB bl)).int = (t.mn (envB bl)).int - (u.mn (envB bl)).int := by
        show (opMn 7 (t.mn (envB bl)) (u.mn (envB bl))).int = _
        rw [e1, e2]; rfl
      rw [ev] at hbd ⊢
      exact rf_int_sub w hI _ (b + t.size - 1) (b + t.size + u.size - 1) (t.mn (envB bl)).int (u.mn (envB bl)).int hbd hT.root (fun W hW => ih1 b W hT.left hk.2.2.1 hw.1 hty.1 hS (hI.below hW)) (fun W hW => ih2 (b + t.size) W hT.right hk.2.2.2 hw.2.1 hty.2 hS (hI.below hW))
theorem bd_diff (hE : EnvB (envB bl)) {t u : Tr} (ht : t.Ok) (hu : u.Ok) (hs : t.size + u.size ≤ 900) : Bd ((t.mn (envB bl)).int - (u.mn (envB bl)).int) := by
  have h1 := bnd_int (mn_bnd hE t ht)
  have h2 := bnd_int (mn_bnd hE u hu)
  refine bd_of (k := t.size + u.size) ?_ (by omega)
  rw [Nat.add_mul]
  omega
set_option maxRecDepth 100000 in
theorem rf_tru (t : Tr) : ∀ (b : Nat) (w : World), TrIn o t b → t.Ok → t.Wt → t.ty = 2 → (∀ x ∈ o, NdOk x) → RIn w A n c o A2 n2 c2 bl →
    Calls Tryz.prog 59 #[.slice A n c, .int .i64 ((b + t.size - 1 : Nat) : Int), .slice A2 n2 c2] w (RetX (.bool (t.mn (envB bl)).bool) w) := by
  have hE : EnvB (envB bl) := fun a c => envB_lt bl a c
  induction t with
  | leaf d =>
    intro b w hT hk hw hy hS hI
    have hr := hT.root
    obtain ⟨op, da, db, nm, at_, v⟩ := d
    obtain ⟨ha, hb, his⟩ := hk
    simp only at ha hb his
    subst ha hb
    rcases his with ⟨rfl, _⟩ | ⟨rfl, rfl, rfl, hv⟩ | ⟨rfl, _⟩
    · cases hy
    · exact rf_tru_lit w hI _ v hv hr
    · cases hy
  | un k t ih =>
    intro b w hT hk hw hy hS hI
    rcases hk.1 with rfl | rfl
    · cases hy
    · have h1 := hw.2.2 rfl
      have e := (ty_mn (env := envB bl) t hk.2 hw.1).2 h1
      have h := rf_tru_not w hI _ (b + t.size - 1) (t.mn (envB bl)).bool hT.root (fun W hW => ih b W hT.un hk.2 hw.1 h1 hS (hI.below hW))
      have ev : ((Tr.un 5 t).mn (envB bl)).bool = !(t.mn (envB bl)).bool := by
        show (opMn 5 (t.mn (envB bl)) (.tru false)).bool = _
        rw [e]; rfl
      rw [ev]
      exact h
  | bin k t u ih1 ih2 =>
    intro b w hT hk hw hy hS hI
    have hlt := hT.lt
    have hn := hI.hn
    have hn4 := hI.hn4
    have hss : (Tr.bin k t u).size = t.size + u.size + 1 := rfl
    have hk8 : k = 8 ∨ k = 9 ∨ k = 10 ∨ k = 11 ∨ k = 12 ∨ k = 13 ∨ k = 14 ∨ k = 15 ∨ k = 16 := by
      have h1 : numO k = false := typO_tru.1 hy
      have h2 := hk.1
      have h3 := hk.2.1
      unfold numO at h1
      simp only [Bool.or_eq_false_iff, decide_eq_false_iff_not] at h1
      omega
    have hbd := bd_diff hE hk.2.2.1 hk.2.2.2 (by omega)
    have I1 : t.ty = 1 → ∀ W, Below w.heap.size w W → Calls Tryz.prog 100 #[.slice A n c, .int .i64 ((b + t.size - 1 : Nat) : Int), .slice A2 n2 c2] W (RetF (t.mn (envB bl)).int W) := fun h W hW => rf_int t b W hT.left hk.2.2.1 hw.1 h hS (hI.below hW)
    have I2 : u.ty = 1 → ∀ W, Below w.heap.size w W → Calls Tryz.prog 100 #[.slice A n c, .int .i64 ((b + t.size + u.size - 1 : Nat) : Int), .slice A2 n2 c2] W (RetF (u.mn (envB bl)).int W) := fun h W hW => rf_int u (b + t.size) W hT.right hk.2.2.2 hw.2.1 h hS (hI.below hW)
    have T1 : t.ty = 2 → ∀ W, Below w.heap.size w W → Calls Tryz.prog 59 #[.slice A n c, .int .i64 ((b + t.size - 1 : Nat) : Int), .slice A2 n2 c2] W (RetX (.bool (t.mn (envB bl)).bool) W) := fun h W hW => ih1 b W hT.left hk.2.2.1 hw.1 h hS (hI.below hW)
    have T2 : u.ty = 2 → ∀ W, Below w.heap.size w W → Calls Tryz.prog 59 #[.slice A n c, .int .i64 ((b + t.size + u.size - 1 : Nat) : Int), .slice A2 n2 c2] W (RetX (.bool (u.mn (envB bl)).bool) W) := fun h W hW => ih2 (b + t.size) W hT.right hk.2.2.2 hw.2.1 h hS (hI.below hW)
    have N1 := fun h => (ty_mn (env := envB bl) t hk.2.2.1 hw.1).1 h
    have N2 := fun h => (ty_mn (env := envB bl) u hk.2.2.2 hw.2.1).1 h
    have B1 := fun h => (ty_mn (env := envB bl) t hk.2.2.1 hw.1).2 h
    have B2 := fun h => (ty_mn (env := envB bl) u hk.2.2.2 hw.2.1).2 h
    have hra := hT.left.root
    have hoa := t.root_op b
    show Calls _ _ _ _ (RetX (.bool (opMn k (t.mn (envB bl)) (u.mn (envB bl))).bool) w)
    generalize t.mn (envB bl) = x at *
    generalize u.mn (envB bl) = y at *
    rcases hk8 with rfl | rfl | rfl | rfl | rfl | rfl | rfl | rfl | rfl
    · rcases wt_eq hw (by decide) with ⟨h1, h2⟩ | ⟨h1, h2⟩
      · rw [N1 h1, N2 h2] 
        have ev : (opMn 8 (.num x.int) (.num y.int)).bool = decide (x.int = y.int) := by
          show (decide (Mn.num x.int = Mn.num y.int)) = _
          exact decide_eq_decide.2 ⟨fun h => by injection h, fun h => by rw [h]⟩
        rw [ev]
        exact rf_tru_c8 w hI _ (b + t.size - 1) (b + t.size + u.size - 1) x.int y.int hbd hT.root (t.root b) hra (by rw [hoa]; exact typO_num.1 h1) (I1 h1) (I2 h2)
      · rw [B1 h1, B2 h2]
        have ev : (opMn 8 (.tru x.bool) (.tru y.bool)).bool = decide (x.bool = y.bool) := by
          show (decide (Mn.tru x.bool = Mn.tru y.bool)) = _
          rw [decide_eq_decide.2 (⟨fun h => by injection h, fun h => by rw [h]⟩ : Mn.tru x.bool = Mn.tru y.bool ↔ x.bool = y.bool)]
        rw [ev]
        exact rf_tru_eqt w hI _ (b + t.size - 1) (b + t.size + u.size - 1) x.bool y.bool hT.root (t.root b) hra (by rw [hoa]; exact typO_tru.1 h1) (T1 h1) (T2 h2)
    · rcases wt_eq hw (by decide) with ⟨h1, h2⟩ | ⟨h1, h2⟩
      · rw [N1 h1, N2 h2] 
        have ev : (opMn 9 (.num x.int) (.num y.int)).bool = decide (x.int ≠ y.int) := by
          show (!decide (Mn.num x.int = Mn.num y.int)) = _
          rw [← decide_not]; exact decide_eq_decide.2 ⟨fun h => fun e => h (by rw [e]), fun h => fun e => h (by injection e)⟩
        rw [ev]
        exact rf_tru_c9 w hI _ (b + t.size - 1) (b + t.size + u.size - 1) x.int y.int hbd hT.root (t.root b) hra (by rw [hoa]; exact typO_num.1 h1) (I1 h1) (I2 h2)
      · rw [B1 h1, B2 h2]
        have ev : (opMn 9 (.tru x.bool) (.tru y.bool)).bool = !decide (x.bool = y.bool) := by
          show (!decide (Mn.tru x.bool = Mn.tru y.bool)) = _
          rw [decide_eq_decide.2 (⟨fun h => by injection h, fun h => by rw [h]⟩ : Mn.tru x.bool = Mn.tru y.bool ↔ x.bool = y.bool)]
        rw [ev]
        exact rf_tru_net w hI _ (b + t.size - 1) (b + t.size + u.size - 1) x.bool y.bool hT.root (t.root b) hra (by rw [hoa]; exact typO_tru.1 h1) (T1 h1) (T2 h2)
    · obtain ⟨h1, h2⟩ := wt_num hw (by decide)
      rw [N1 h1, N2 h2]
      exact rf_tru_c10 w hI _ (b + t.size - 1) (b + t.size + u.size - 1) x.int y.int hbd hT.root (t.root b) hra (by rw [hoa]; exact typO_num.1 h1) (I1 h1) (I2 h2)
    · obtain ⟨h1, h2⟩ := wt_num hw (by decide)
      rw [N1 h1, N2 h2]
      exact rf_tru_c11 w hI _ (b + t.size - 1) (b + t.size + u.size - 1) x.int y.int hbd hT.root (t.root b) hra (by rw [hoa]; exact typO_num.1 h1) (I1 h1) (I2 h2)
    · obtain ⟨h1, h2⟩ := wt_num hw (by decide)
      rw [N1 h1, N2 h2]
      exact rf_tru_c12 w hI _ (b + t.size - 1) (b + t.size + u.size - 1) x.int y.int hbd hT.root (t.root b) hra (by rw [hoa]; exact typO_num.1 h1) (I1 h1) (I2 h2)
    · obtain ⟨h1, h2⟩ := wt_num hw (by decide)
      rw [N1 h1, N2 h2]
      exact rf_tru_c13 w hI _ (b + t.size - 1) (b + t.size + u.size - 1) x.int y.int hbd hT.root (t.root b) hra (by rw [hoa]; exact typO_num.1 h1) (I1 h1) (I2 h2)
    · obtain ⟨h1, h2⟩ := wt_tru hw (by decide)
      rw [B1 h1, B2 h2]
      exact rf_tru_and w hI _ (b + t.size - 1) (b + t.size + u.size - 1) x.bool y.bool hT.root (T1 h1) (T2 h2)
    · obtain ⟨h1, h2⟩ := wt_tru hw (by decide)
      rw [B1 h1, B2 h2]
      exact rf_tru_or w hI _ (b + t.size - 1) (b + t.size + u.size - 1) x.bool y.bool hT.root (T1 h1) (T2 h2)
    · obtain ⟨h1, h2⟩ := wt_tru hw (by decide)
      rw [B1 h1, B2 h2]
      exact rf_tru_imp w hI _ (b + t.size - 1) (b + t.size + u.size - 1) x.bool y.bool hT.root (T1 h1) (T2 h2)
set_option maxRecDepth 100000 in
set_option maxHeartbeats 2000000 in
theorem rf_Holds (w : World) (s : ByteArray) (vs : List (ByteArray × ByteArray)) (hz : (cmpl s vs).2 = 0) (hS : ∀ x ∈ (cmpl s vs).1, NdOk x) (hI : RIn w A n c (cmpl s vs).1 A2 n2 c2 bl) :
    Calls Tryz.prog 24 #[.slice A n c, .slice A2 n2 c2] w (RetX (.bool (hldN (envB bl) (cmpl s vs).1)) w) := by
  have hE : EnvB (envB bl) := fun a c => envB_lt bl a c
  obtain ⟨t, h1, h2, h3, h4⟩ := cmpl_wt s vs hz
  have hT : TrIn (cmpl s vs).1 t 0 := ⟨[], [], by rw [h4]; simp, rfl⟩
  have hv : hldN (envB bl) (cmpl s vs).1 = (t.mn (envB bl)).bool := by rw [h4]; exact (mns_tree hE t h1).1
  have hl : (cmpl s vs).1.length = t.size := by rw [h4, t.flat_len]
  have hn := hI.hn
  have K := Lib.hid (rf_tru t 0 w hT h1 h2 h3 hS hI)
  rw [hv]
  have hi : 0 + t.size - 1 = n - 1 := by omega
  rw [hi] at K
  have hp := t.pos
  have hn4 := hI.hn4
  have hsub : (n : Int) - 1 = ((n - 1 : Nat) : Int) := by omega
  have hw1 : IntKind.i64.wrap ((n - 1 : Nat) : Int) = ((n - 1 : Nat) : Int) := IntWalk.i64_in _ (by omega)
  generalize (t.mn (envB bl)).bool = r at K
  generalize n - 1 = m at K hsub hw1
  clear hv hl hi hT h1 h2 h3 h4 hS hz hI hp
  go_enter Tryz.func24, Tryz.ntmps24
  go_wp2_with fail
  go_at_call 59
  refine K.out.mono ?_
  rintro e w1 ⟨rfl, hb⟩
  go_wp2_with fail
  go_ret
  exact ⟨rfl, hb⟩
end
end
end Go.Proofs.YtodmkmoglchoeaaGreatDoor
