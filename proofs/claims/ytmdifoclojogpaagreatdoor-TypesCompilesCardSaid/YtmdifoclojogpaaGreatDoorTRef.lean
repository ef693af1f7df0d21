/- Layer 8: the reference's number, node. -/
import Derived.Test.YtmdifoclojogpaaGreatDoorTChk
import Derived.Test.YtmdifoclojogpaaGreatDoorTVars
namespace Go.Proofs.YtmdifoclojogpaaGreatDoor
open Go.RowKit Go.Maps

set_option maxRecDepth 100000 in
set_option maxHeartbeats 4000000 in
theorem tr_number (w : World) (op : Nat) (a b u t : Int) (nm at_ : ByteArray) (h1 : 1 ≤ op) (h17 : op < 17) : Calls Tryz.prog 56 #[.agg #[.int .i64 op, .int .i64 a, .int .i64 b, .string nm, .string at_, .int .u64 u, .int .u64 t]] w (RetX (.bool (numO op)) w) := by
  have hc : op = 1 ∨ op = 3 ∨ op = 4 ∨ op = 6 ∨ op = 7 ∨ (op ≠ 1 ∧ op ≠ 3 ∧ op ≠ 4 ∧ op ≠ 6 ∧ op ≠ 7) := by omega
  rcases hc with rfl | rfl | rfl | rfl | rfl | ⟨n1, n3, n4, n6, n7⟩
  iterate 5
    · go_enter Tryz.func56, Tryz.ntmps56
      go_wp2
      go_ret
      exact ⟨rfl, (Below.refl _ _).alloc (Nat.le_refl _) _⟩
  · have e : numO op = false := by unfold numO; simp [n1, n3, n4, n6, n7]
    have q1 : ((op : Int) == 1) = false := by rw [beq_eq_false_iff_ne]; omega
    have q3 : ((op : Int) == 3) = false := by rw [beq_eq_false_iff_ne]; omega
    have q4 : ((op : Int) == 4) = false := by rw [beq_eq_false_iff_ne]; omega
    have q6 : ((op : Int) == 6) = false := by rw [beq_eq_false_iff_ne]; omega
    have q7 : ((op : Int) == 7) = false := by rw [beq_eq_false_iff_ne]; omega
    have HE := Lib.hid e
    clear e n1 n3 n4 n6 n7
    go_enter Tryz.func56, Tryz.ntmps56
    go_wp2
    go_ret
    exact ⟨by rw [HE.out]; rfl, (Below.refl _ _).alloc (Nat.le_refl _) _⟩
/-- a node's error out of what is known of its operands and of its variable -/
def rE (op : Nat) (x y kn : Bool) : Nat := if op = 3 ∧ kn = false then 6 else if fitO op (if x = true then 1 else 2) (if y = true then 1 else 2) = true then 0 else 12
theorem typAt_num {o : List Nd} {i : Nat} {d : Nd} (h : o[i]? = some d) : typAt o i = if numO d.op = true then 1 else 2 := by
  unfold typAt typO; rw [h]
theorem ndE_r {o : List Nd} {i : Nat} {n da db : Nd} (hn : o[i]? = some n) (ha : o[n.a]? = some da) (hb : o[n.b]? = some db) (vs : List (ByteArray × ByteArray)) : ndE o vs i = rE n.op (numO da.op) (numO db.op) (vin vs n.name n.attr) := by
  unfold ndE rE
  rw [hn]
  simp only
  rw [typAt_num ha, typAt_num hb]
set_option maxRecDepth 100000 in
theorem eqV2 (a b c d : ByteArray) (w : World) : (Op.equalIn 10000 139 (.agg #[.string a, .string b]) (.agg #[.string c, .string d])).run Tryz.prog w = .ok (decide (a = c) && decide (b = d)) w := by
  have hS : Tryz.prog.underlying 139 = some (.struct (Tryz.prog.fieldsOf 139)) := by kernel_rfl
  rw [show (10000 : Nat) = 9999 + 1 from rfl, run_equalIn_agg w 9999 139 _ _ hS (by kernel_rfl)]
  simp only [Program.fieldsOf, Tryz.underlying139]
  clear hS
  by_cases h1 : a = c
  · subst h1
    by_cases h2 : b = d
    · subst h2
      go_simp
    · have h3 : ¬ b.toList = d.toList := fun e => h2 (ByteArray.ext (Array.ext' (by rwa [ByteArray.toList_eq, ByteArray.toList_eq] at e)))
      rw [decide_eq_true rfl, decide_eq_false h2]
      go_simp
  · have h3 : ¬ a.toList = c.toList := fun e => h1 (ByteArray.ext (Array.ext' (by rwa [ByteArray.toList_eq, ByteArray.toList_eq] at e)))
    rw [decide_eq_false h1, Bool.false_and]
    go_simp
/-- node's box, the two nodes -/
structure NdB (w : World) (A : Option Addr) (o : List Nd) (w' : World) (cs : List Value) : Prop where
  below : Below w.heap.size w w'
  size : w.heap.size < w'.heap.size
  c : ∀ j, j < 7 → w'.cell? ⟨w.heap.size, j, none⟩ = cs[j]?
  row : NodR w' A o
theorem NdB.call {w : World} {A : Option Addr} {o : List Nd} {cs : List Value} {w1 w2 : World} (h : NdB w A o w1 cs) (hb : Below w1.heap.size w1 w2) : NdB w A o w2 cs :=
  ⟨h.below.trans (hb.mono (Nat.le_of_lt h.size)), Nat.lt_of_lt_of_le h.size hb.size, fun j hj => by rw [hb.cell (p := ⟨w.heap.size, j, none⟩) h.size]; exact h.c j hj, h.row.below hb⟩
theorem NdB.drew {w : World} {A : Option Addr} {o : List Nd} {cs : List Value} {w1 : World} (h : NdB w A o w1 cs) : NdB w A o w1.drew cs := h.call (Below.refl _ _).drew
theorem NdB.all {w : World} {g : Nat} {o : List Nd} {op a b : Nat} {nm at_ : ByteArray} {u t : Int} {w1 : World} (h : NdB w (some ⟨g, 0, none⟩) o w1 [.int .i64 op, .int .i64 a, .int .i64 b, .string nm, .string at_, .int .u64 u, .int .u64 t]) {da db : Nd} (ha : o[a]? = some da) (hb : o[b]? = some db) : NdB w (some ⟨g, 0, none⟩) o w1 [.int .i64 op, .int .i64 a, .int .i64 b, .string nm, .string at_, .int .u64 u, .int .u64 t] ∧ w1.cell? ⟨w.heap.size, 1, none⟩ = some (.int .i64 a) ∧ w1.cell? ⟨w.heap.size, 2, none⟩ = some (.int .i64 b) ∧
    (w1.cell? ⟨g, a * 7, none⟩ = some (.int .i64 (da.op : Nat)) ∧ w1.cell? ⟨g, a * 7 + 1, none⟩ = some (.int .i64 (da.a : Nat)) ∧ w1.cell? ⟨g, a * 7 + 2, none⟩ = some (.int .i64 (da.b : Nat)) ∧ w1.cell? ⟨g, a * 7 + 3, none⟩ = some (.string da.name) ∧ w1.cell? ⟨g, a * 7 + 4, none⟩ = some (.string da.attr) ∧ w1.cell? ⟨g, a * 7 + 5, none⟩ = some (.int .u64 (hi da.val)) ∧ w1.cell? ⟨g, a * 7 + 6, none⟩ = some (.int .u64 (lo da.val))) ∧
    (w1.cell? ⟨g, b * 7, none⟩ = some (.int .i64 (db.op : Nat)) ∧ w1.cell? ⟨g, b * 7 + 1, none⟩ = some (.int .i64 (db.a : Nat)) ∧ w1.cell? ⟨g, b * 7 + 2, none⟩ = some (.int .i64 (db.b : Nat)) ∧ w1.cell? ⟨g, b * 7 + 3, none⟩ = some (.string db.name) ∧ w1.cell? ⟨g, b * 7 + 4, none⟩ = some (.string db.attr) ∧ w1.cell? ⟨g, b * 7 + 5, none⟩ = some (.int .u64 (hi db.val)) ∧ w1.cell? ⟨g, b * 7 + 6, none⟩ = some (.int .u64 (lo db.val))) := by
  obtain ⟨ha1, ha2⟩ := List.getElem?_eq_some_iff.1 ha
  obtain ⟨hb1, hb2⟩ := List.getElem?_eq_some_iff.1 hb
  obtain ⟨g1, e1, _, p⟩ := nod_cells h.row ha1
  obtain ⟨g2, e2, _, q⟩ := nod_cells h.row hb1
  injection e1 with e1
  injection e1 with e1
  subst e1
  injection e2 with e2
  injection e2 with e2
  subst e2
  rw [ha2] at p
  rw [hb2] at q
  exact ⟨h, h.c 1 (by decide), h.c 2 (by decide), p, q⟩
set_option maxRecDepth 100000 in
set_option maxHeartbeats 16000000 in
theorem tr_node (w : World) (A A2 : Option Addr) (n c n2 c2 : Nat) (o : List Nd) (vs : List (ByteArray × ByteArray)) (hn : o.length = n) (hc : n ≤ c) (h : NodR w A o) (hops : ∀ x ∈ o, 1 ≤ x.op ∧ x.op < 17) (hn2 : vs.length = n2) (hc2 : n2 ≤ c2) (hn24 : n2 ≤ 100000) (h2 : VarR w A2 vs) (op a b : Nat) (nm at_ : ByteArray) (u t : Int) (ho : op < 17) (ho1 : 1 ≤ op) {da db : Nd} (ha : o[a]? = some da) (hb : o[b]? = some db) :
    Calls Tryz.prog 55 #[.slice A n c, .agg #[.int .i64 op, .int .i64 a, .int .i64 b, .string nm, .string at_, .int .u64 u, .int .u64 t], .slice A2 n2 c2] w (RetX (.int .i64 (rE op (numO da.op) (numO db.op) (vin vs nm at_) : Nat)) w) := by
  have K1 : Hid (∀ W, Calls Tryz.prog 56 #[.agg #[.int .i64 da.op, .int .i64 da.a, .int .i64 da.b, .string da.name, .string da.attr, .int .u64 (hi da.val), .int .u64 (lo da.val)]] W (RetX (.bool (numO da.op)) W)) := Lib.hid fun W => tr_number W da.op _ _ _ _ _ _ (hops da (List.mem_of_getElem? ha)).1 (hops da (List.mem_of_getElem? ha)).2
  have K2 : Hid (∀ W, Calls Tryz.prog 56 #[.agg #[.int .i64 db.op, .int .i64 db.a, .int .i64 db.b, .string db.name, .string db.attr, .int .u64 (hi db.val), .int .u64 (lo db.val)]] W (RetX (.bool (numO db.op)) W)) := Lib.hid fun W => tr_number W db.op _ _ _ _ _ _ (hops db (List.mem_of_getElem? hb)).1 (hops db (List.mem_of_getElem? hb)).2
  have han : a < n := by have := (List.getElem?_eq_some_iff.1 ha).1; omega
  have hbn : b < n := by have := (List.getElem?_eq_some_iff.1 hb).1; omega
  obtain ⟨g, e1⟩ : ∃ g, A = some ⟨g, 0, none⟩ := by
    obtain ⟨g, e1, _⟩ := nod_cells h (List.getElem?_eq_some_iff.1 ha).1
    exact ⟨g, e1⟩
  subst e1
  have HX0 : NdB w (some ⟨g, 0, none⟩) o (w.alloc (.cells #[.int .i64 op, .int .i64 a, .int .i64 b, .string nm, .string at_, .int .u64 u, .int .u64 t] 68)) [.int .i64 op, .int .i64 a, .int .i64 b, .string nm, .string at_, .int .u64 u, .int .u64 t] :=
    ⟨(Below.refl _ _).alloc (Nat.le_refl _) _, by simp, fun j hj => by
      rw [World.cell?_alloc_new]
      have : j = 0 ∨ j = 1 ∨ j = 2 ∨ j = 3 ∨ j = 4 ∨ j = 5 ∨ j = 6 := by omega
      rcases this with rfl | rfl | rfl | rfl | rfl | rfl | rfl <;> rfl, h.below ((Below.refl _ _).alloc (Nat.le_refl _) _)⟩
  have HX := Lib.hid HX0
  have HA := Lib.hid ha
  have HB := Lib.hid hb
  have HV := Lib.hid h2
  have HN2 := Lib.hid hn2
  have haI : (a : Int) < (n : Int) := by omega
  have hbI : (b : Int) < (n : Int) := by omega
  have haC : (a : Int) < (c : Int) := by omega
  have hbC : (b : Int) < (c : Int) := by omega
  have ha0 : 0 ≤ (a : Int) := by omega
  have hb0 : 0 ≤ (b : Int) := by omega
  clear HX0 ha hb h2 hn2 h hops hn
  go_enter Tryz.func55, Tryz.ntmps55
  go_upto_region 1 with fail
  generalize w.alloc (.cells #[.int .i64 op, .int .i64 a, .int .i64 b, .string nm, .string at_, .int .u64 u, .int .u64 t] 68) = W at HX ⊢
  go_region_held3 (fun w' => NdB w (some ⟨g, 0, none⟩) o w' [.int .i64 op, .int .i64 a, .int .i64 b, .string nm, .string at_, .int .u64 u, .int .u64 t] ∧ w'.cell? ⟨w.heap.size, 1, none⟩ = some (.int .i64 a) ∧ w'.cell? ⟨w.heap.size, 2, none⟩ = some (.int .i64 b) ∧
    (w'.cell? ⟨g, a * 7, none⟩ = some (.int .i64 (da.op : Nat)) ∧ w'.cell? ⟨g, a * 7 + 1, none⟩ = some (.int .i64 (da.a : Nat)) ∧ w'.cell? ⟨g, a * 7 + 2, none⟩ = some (.int .i64 (da.b : Nat)) ∧ w'.cell? ⟨g, a * 7 + 3, none⟩ = some (.string da.name) ∧ w'.cell? ⟨g, a * 7 + 4, none⟩ = some (.string da.attr) ∧ w'.cell? ⟨g, a * 7 + 5, none⟩ = some (.int .u64 (hi da.val)) ∧ w'.cell? ⟨g, a * 7 + 6, none⟩ = some (.int .u64 (lo da.val))) ∧
    (w'.cell? ⟨g, b * 7, none⟩ = some (.int .i64 (db.op : Nat)) ∧ w'.cell? ⟨g, b * 7 + 1, none⟩ = some (.int .i64 (db.a : Nat)) ∧ w'.cell? ⟨g, b * 7 + 2, none⟩ = some (.int .i64 (db.b : Nat)) ∧ w'.cell? ⟨g, b * 7 + 3, none⟩ = some (.string db.name) ∧ w'.cell? ⟨g, b * 7 + 4, none⟩ = some (.string db.attr) ∧ w'.cell? ⟨g, b * 7 + 5, none⟩ = some (.int .u64 (hi db.val)) ∧ w'.cell? ⟨g, b * 7 + 6, none⟩ = some (.int .u64 (lo db.val))))
    (first
      | exact (NdB.drew HX.out).all HA.out HB.out
      | exact (NdB.call (And.left (by assumption)) (by assumption)).all HA.out HB.out)
    ((go_at_call 56; (first
      | ((with_reducible refine (K1.out _).mono ?_); (rintro e w2 ⟨rfl, hb2⟩))
      | ((with_reducible refine (K2.out _).mono ?_); (rintro e w3 ⟨rfl, hb3⟩)))))
  all_goals
    try simp only [Exit.then]
    try apply_assumption
  have h3 : NdB w (some ⟨g, 0, none⟩) o w3 [.int .i64 op, .int .i64 a, .int .i64 b, .string nm, .string at_, .int .u64 u, .int .u64 t] := And.left (by assumption)
  have c0 : w3.cell? ⟨w.heap.size, 0, none⟩ = some (.int .i64 op) := h3.c 0 (by decide)
  have c3 : w3.cell? ⟨w.heap.size, 3, none⟩ = some (.string nm) := h3.c 3 (by decide)
  have c4 : w3.cell? ⟨w.heap.size, 4, none⟩ = some (.string at_) := h3.c 4 (by decide)
  have hwl := h3.size
  have HBF := Lib.hid h3.below
  have HV3 := Lib.hid (HV.out.below h3.below)
  rename_i hbig
  clear h3 hbig hb2 hb3 K1 K2 HX HV HA HB
  generalize numO da.op = x
  generalize numO db.op = y
  obtain ⟨kn, hkn⟩ : ∃ k, k = vin vs nm at_ := ⟨_, rfl⟩
  rw [← hkn]
  have HKN := Lib.hid hkn
  clear hkn
  have hcls : op = 3 ∨ op = 1 ∨ op = 2 ∨ op = 4 ∨ op = 5 ∨ op = 8 ∨ op = 9 ∨ op = 14 ∨ op = 15 ∨ op = 16 ∨ (6 ≤ op ∧ op ≠ 8 ∧ op ≠ 9 ∧ op < 14) := by omega
  rcases hcls with rfl | rfl | rfl | rfl | rfl | rfl | rfl | rfl | rfl | rfl | hL
  · have hG : Tryz.prog.eqGuardType Tryz.prog.depth 139 = false := by kernel_rfl
    go_wp2_with fail
    go_loopw [32] (fun i w' => ∃ k : Nat, k ≤ n2 ∧ i = .int .i64 k ∧ Below w3.heap.size w3 w' ∧ Hid (vin (vs.take k) nm at_ = false)) (fun i _ => n2 - (intOf i).toNat)
    case atStart => exact ⟨0, by omega, rfl, Below.refl _ _, Lib.hid rfl⟩
    case round =>
      obtain ⟨k, hk, rfl, hb, HVN⟩ := hrel
      have HB := Lib.hid hb
      have hsz := hb.size
      have b3 : wr.cell? ⟨w.heap.size, 3, none⟩ = some (.string nm) := (hb.cell (p := ⟨w.heap.size, 3, none⟩) hwl).trans c3
      have b4 : wr.cell? ⟨w.heap.size, 4, none⟩ = some (.string at_) := (hb.cell (p := ⟨w.heap.size, 4, none⟩) hwl).trans c4
      have hlw : w.heap.size < wr.heap.size := by omega
      by_cases hlt : k < n2
      · have hkI : (k : Int) < (n2 : Int) := by omega
        have hkc : (k : Int) < (c2 : Int) := by omega
        have hk0 : 0 ≤ (k : Int) := by omega
        obtain ⟨v, hv⟩ : ∃ v, vs[k]? = some v := ⟨_, List.getElem?_eq_getElem (by rw [HN2.out]; exact hlt)⟩
        obtain ⟨g2, e2, l2, q⟩ := (HV3.out.below hb).r.resolve_left (fun e => by rw [e] at hv; simp at hv)
        obtain ⟨q0, q1⟩ := q k v hv
        obtain ⟨v1, v2⟩ := v
        simp only at q0 q1
        have hq0 := fun W => eqV2 v1 v2 nm at_ W
        have hst : vin (vs.take (k + 1)) nm at_ = (decide (v1 = nm) && decide (v2 = at_)) := by
          have h1 := HVN.out
          unfold vin at h1 ⊢
          rw [List.take_succ_eq_append_getElem (by rw [HN2.out]; exact hlt), List.any_append, h1, (List.getElem?_eq_some_iff.1 hv).2]
          simp
        have hin : (decide (v1 = nm) && decide (v2 = at_)) = true → vin vs nm at_ = true := fun h => by
          rw [Bool.and_eq_true, decide_eq_true_iff, decide_eq_true_iff] at h
          obtain ⟨rfl, rfl⟩ := h
          rw [vin_iff]
          exact List.mem_of_getElem? hv
        generalize (decide (v1 = nm) && decide (v2 = at_)) = b at hq0 hst hin
        have HST := Lib.hid hst
        have HIN := Lib.hid hin
        clear hv q hst hin hb HVN
        subst e2
        cases b
        · clear HIN
          go_wp2_with fail
          go_roundw
          case rel => (go_light; exact ⟨k + 1, by omega, by simp, HB.out.alloc hsz _, Lib.hid HST.out⟩)
          case measure => simp [intOf]; omega
        · have hkn : kn = true := by rw [HKN.out]; exact HIN.out rfl
          clear HIN HST
          go_wp2_with fail
          go_ret
          exact ⟨by rw [hkn]; simp [rE, fitO], HBF.out.trans ((HB.out.alloc hsz _).mono (by omega))⟩
      · have hkI : ¬ (k : Int) < (n2 : Int) := by omega
        have hkn : kn = false := by rw [HKN.out, ← HVN.out, List.take_of_length_le (by rw [HN2.out]; omega)]
        have HKF := Lib.hid hkn
        clear hb hkn
        go_wp2_with fail
        go_ret
        exact ⟨by rw [HKF.out]; simp [rE], HBF.out.trans (HB.out.mono (by omega))⟩
  iterate 9
    · cases x <;> cases y
      all_goals
        go_wp2_with fail
        go_ret
        exact ⟨by simp [rE, fitO], HBF.out⟩
  · have q1 : ((op : Int) == 1) = false := by rw [beq_eq_false_iff_ne]; omega
    have q2 : ((op : Int) == 2) = false := by rw [beq_eq_false_iff_ne]; omega
    have q3 : ((op : Int) == 3) = false := by rw [beq_eq_false_iff_ne]; omega
    have q4 : ((op : Int) == 4) = false := by rw [beq_eq_false_iff_ne]; omega
    have q5 : ((op : Int) == 5) = false := by rw [beq_eq_false_iff_ne]; omega
    have q8 : ((op : Int) == 8) = false := by rw [beq_eq_false_iff_ne]; omega
    have q9 : ((op : Int) == 9) = false := by rw [beq_eq_false_iff_ne]; omega
    have q14 : ((op : Int) == 14) = false := by rw [beq_eq_false_iff_ne]; omega
    have q15 : ((op : Int) == 15) = false := by rw [beq_eq_false_iff_ne]; omega
    have q16 : ((op : Int) == 16) = false := by rw [beq_eq_false_iff_ne]; omega
    have e : ∀ x y, rE op x y kn = if x = true ∧ y = true then 0 else 12 := fun x y => by
      unfold rE fitO
      rw [if_neg (by omega), if_neg (show ¬ op ≤ 3 by omega), if_neg (show ¬ op = 4 by omega), if_neg (show ¬ op = 5 by omega), if_neg (show ¬ (op = 8 ∨ op = 9) by omega), if_neg (show ¬ 14 ≤ op by omega)]
      cases x <;> cases y <;> rfl
    have HE := Lib.hid e
    clear e hL
    cases x <;> cases y
    all_goals
      go_wp2_with fail
      go_ret
      exact ⟨by rw [HE.out]; rfl, HBF.out⟩
end Go.Proofs.YtmdifoclojogpaaGreatDoor
