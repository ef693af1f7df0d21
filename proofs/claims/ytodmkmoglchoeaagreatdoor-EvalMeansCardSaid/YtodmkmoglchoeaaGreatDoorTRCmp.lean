/- Contracts, joined: TRef, TRChk, TRCmp. -/
import Derived.Test.YtodmkmoglchoeaaGreatDoorTBeg
import Derived.Test.YtodmkmoglchoeaaGreatDoorTVars
namespace Go.Proofs.YtodmkmoglchoeaaGreatDoor
/- Layer 8: the reference's number, node. -/
section
open Go.RowKit Go.Maps

set_option maxRecDepth 100000 in
set_option maxHeartbeats 4000000 in
theorem tr_number (w : World) (op : Nat) (a b u t : Int) (nm at_ : ByteArray) (h1 : 1 ≤ op) (h17 : op < 17) : Calls Tryz.prog 94 #[.agg #[.int .i64 op, .int .i64 a, .int .i64 b, .string nm, .string at_, .int .u64 u, .int .u64 t]] w (RetX (.bool (numO op)) w) := by
  have hc : op = 1 ∨ op = 3 ∨ op = 4 ∨ op = 6 ∨ op = 7 ∨ (op ≠ 1 ∧ op ≠ 3 ∧ op ≠ 4 ∧ op ≠ 6 ∧ op ≠ 7) := by omega
  rcases hc with rfl | rfl | rfl | rfl | rfl | ⟨n1, n3, n4, n6, n7⟩
  iterate 5
    · go_enter Tryz.func94, Tryz.ntmps94
      go_wp2
      go_ret
      exact ⟨rfl, (Below.refl _ _).alloc (Nat.le_refl _) _⟩
  · have e : numO op = false := by unfold numO; simp [n1, n3, n4, n6, n7]
    have q1 : ((op : Int) == 1) = false := by rw [beq_eq_false_iff_ne]; omega
    have q3 : ((op : Int) == 3) = false := by rw [beq_eq_false_iff_ne]; omega
    have q4 : ((op : Int) == 4) = false := by rw [beq_eq_false_iff_ne]; omega
    have q6 : ((op : Int) == 6) = false := by rw [beq_eq_false_iff_ne]; omega
    have q7 : ((op : Int) == 7) = false := by rw [beq_eq_false_iff_ne]; omega
    have HE := Lib.hid e
    clear e n1 n3 n4 n6 n7
    go_enter Tryz.func94, Tryz.ntmps94
    go_wp2
    go_ret
    exact ⟨by rw [HE.out]; rfl, (Below.refl _ _).alloc (Nat.le_refl _) _⟩
/-- a node's error out of what is known of its operands and of its variable -/
def rE (op : Nat) (x y kn : Bool) : Nat := if op = 3 ∧ kn = false then 6 else if fitO op (if x = true then 1 else 2) (if y = true then 1 else 2) = true then 0 else 12
theorem typAt_num {o : List Nd} {i : Nat} {d : Nd} (h : o[i]? = some d) : typAt o i = if numO d.op = true then 1 else 2 := by
  unfold typAt typO; rw [h]
theorem ndE_r {o : List Nd} {i : Nat} {n da db : Nd} (hn : o[i]? = some n) (ha : o[n.a]? = some da) (hb : o[n.b]? = some db) (vs : List (ByteArray × ByteArray)) : ndE o vs i = rE n.op (numO da.op) (numO db.op) (vin vs n.name n.attr) := by
  unfold ndE rE
  rw [hn]
  simp only
  rw [typAt_num ha, typAt_num hb]
set_option maxRecDepth 100000 in
theorem eqV2 (a b c d : ByteArray) (w : World) : (Op.equalIn 10000 120 (.agg #[.string a, .string b]) (.agg #[.string c, .string d])).run Tryz.prog w = .ok (decide (a = c) && decide (b = d)) w := by
  have hS : Tryz.prog.underlying 120 = some (.struct (Tryz.prog.fieldsOf 120)) := by kernel_rfl
  rw [show (10000 : Nat) = 9999 + 1 from rfl, run_equalIn_agg w 9999 120 _ _ hS (by kernel_rfl)]
  simp only [Program.fieldsOf, Tryz.underlying120]
  clear hS
  by_cases h1 : a = c
  · subst h1
    by_cases h2 : b = d
    · subst h2
      go_simp
    · have h3 : ¬ b.toList = d.toList := fun e => h2 (ByteArray.ext (Array.ext' (by rwa [ByteArray.toList_eq, ByteArray.toList_eq] at e)))
      rw [decide_eq_true rfl, decide_eq_false h2]
      go_simp
  · have h3 : ¬ a.toList = c.toList := fun e => h1 (ByteArray.ext (Array.ext' (by rwa [ByteArray.toList_eq, ByteArray.toList_eq] at e)))
    rw [decide_eq_false h1, Bool.false_and]
    go_simp
/-- node's box, the two nodes -/
structure NdB (w : World) (A : Option Addr) (o : List Nd) (w' : World) (cs : List Value) : Prop where
  below : Below w.heap.size w w'
  size : w.heap.size < w'.heap.size
  c : ∀ j, j < 7 → w'.cell? ⟨w.heap.size, j, none⟩ = cs[j]?
  row : NodR w' A o
theorem NdB.call {w : World} {A : Option Addr} {o : List Nd} {cs : List Value} {w1 w2 : World} (h : NdB w A o w1 cs) (hb : Below w1.heap.size w1 w2) : NdB w A o w2 cs :=
  ⟨h.below.trans (hb.mono (Nat.le_of_lt h.size)), Nat.lt_of_lt_of_le h.size hb.size, fun j hj => by rw [hb.cell (p := ⟨w.heap.size, j, none⟩) h.size]; exact h.c j hj, h.row.below hb⟩
theorem NdB.drew {w : World} {A : Option Addr} {o : List Nd} {cs : List Value} {w1 : World} (h : NdB w A o w1 cs) : NdB w A o w1.drew cs := h.call (Below.refl _ _).drew
theorem NdB.all {w : World} {g : Nat} {o : List Nd} {op a b : Nat} {nm at_ : ByteArray} {u t : Int} {w1 : World} (h : NdB w (some ⟨g, 0, none⟩) o w1 [.int .i64 op, .int .i64 a, .int .i64 b, .string nm, .string at_, .int .u64 u, .int .u64 t]) {da db : Nd} (ha : o[a]? = some da) (hb : o[b]? = some db) : NdB w (some ⟨g, 0, none⟩) o w1 [.int .i64 op, .int .i64 a, .int .i64 b, .string nm, .string at_, .int .u64 u, .int .u64 t] ∧ w1.cell? ⟨w.heap.size, 1, none⟩ = some (.int .i64 a) ∧ w1.cell? ⟨w.heap.size, 2, none⟩ = some (.int .i64 b) ∧
    (w1.cell? ⟨g, a * 7, none⟩ = some (.int .i64 (da.op : Nat)) ∧ w1.cell? ⟨g, a * 7 + 1, none⟩ = some (.int .i64 (da.a : Nat)) ∧ w1.cell? ⟨g, a * 7 + 2, none⟩ = some (.int .i64 (da.b : Nat)) ∧ w1.cell? ⟨g, a * 7 + 3, none⟩ = some (.string da.name) ∧ w1.cell? ⟨g, a * 7 + 4, none⟩ = some (.string da.attr) ∧ w1.cell? ⟨g, a * 7 + 5, none⟩ = some (.int .u64 (hi da.val)) ∧ w1.cell? ⟨g, a * 7 + 6, none⟩ = some (.int .u64 (lo da.val))) ∧
    (w1.cell? ⟨g, b * 7, none⟩ = some (.int .i64 (db.op : Nat)) ∧ w1.cell? ⟨g, b * 7 + 1, none⟩ = some (.int .i64 (db.a : Nat)) ∧ w1.cell? ⟨g, b * 7 + 2, none⟩ = some (.int .i64 (db.b : Nat)) ∧ w1.cell? ⟨g, b * 7 + 3, none⟩ = some (.string db.name) ∧ w1.cell? ⟨g, b * 7 + 4, none⟩ = some (.string db.attr) ∧ w1.cell? ⟨g, b * 7 + 5, none⟩ = some (.int .u64 (hi db.val)) ∧ w1.cell? ⟨g, b * 7 + 6, none⟩ = some (.int .u64 (lo db.val))) := by
  obtain ⟨ha1, ha2⟩ := List.getElem?_eq_some_iff.1 ha
  obtain ⟨hb1, hb2⟩ := List.getElem?_eq_some_iff.1 hb
  obtain ⟨g1, e1, _, p⟩ := nod_cells h.row ha1
  obtain ⟨g2, e2, _, q⟩ := nod_cells h.row hb1
  injection e1 with e1
  injection e1 with e1
  subst e1
  injection e2 with e2
  injection e2 with e2
  subst e2
  rw [ha2] at p
  rw [hb2] at q
  exact ⟨h, h.c 1 (by decide), h.c 2 (by decide), p, q⟩
set_option maxRecDepth 100000 in
set_option maxHeartbeats 16000000 in
theorem tr_node (w : World) (A A2 : Option Addr) (n c n2 c2 : Nat) (o : List Nd) (vs : List (ByteArray × ByteArray)) (hn : o.length = n) (hc : n ≤ c) (h : NodR w A o) (hops : ∀ x ∈ o, 1 ≤ x.op ∧ x.op < 17) (hn2 : vs.length = n2) (hc2 : n2 ≤ c2) (hn24 : n2 ≤ 100000) (h2 : VarR w A2 vs) (op a b : Nat) (nm at_ : ByteArray) (u t : Int) (ho : op < 17) (ho1 : 1 ≤ op) {da db : Nd} (ha : o[a]? = some da) (hb : o[b]? = some db) :
    Calls Tryz.prog 93 #[.slice A n c, .agg #[.int .i64 op, .int .i64 a, .int .i64 b, .string nm, .string at_, .int .u64 u, .int .u64 t], .slice A2 n2 c2] w (RetX (.int .i64 (rE op (numO da.op) (numO db.op) (vin vs nm at_) : Nat)) w) := by
  have K1 : Hid (∀ W, Calls Tryz.prog 94 #[.agg #[.int .i64 da.op, .int .i64 da.a, .int .i64 da.b, .string da.name, .string da.attr, .int .u64 (hi da.val), .int .u64 (lo da.val)]] W (RetX (.bool (numO da.op)) W)) := Lib.hid fun W => tr_number W da.op _ _ _ _ _ _ (hops da (List.mem_of_getElem? ha)).1 (hops da (List.mem_of_getElem? ha)).2
  have K2 : Hid (∀ W, Calls Tryz.prog 94 #[.agg #[.int .i64 db.op, .int .i64 db.a, .int .i64 db.b, .string db.name, .string db.attr, .int .u64 (hi db.val), .int .u64 (lo db.val)]] W (RetX (.bool (numO db.op)) W)) := Lib.hid fun W => tr_number W db.op _ _ _ _ _ _ (hops db (List.mem_of_getElem? hb)).1 (hops db (List.mem_of_getElem? hb)).2
  have han : a < n := by have := (List.getElem?_eq_some_iff.1 ha).1; omega
  have hbn : b < n := by have := (List.getElem?_eq_some_iff.1 hb).1; omega
  obtain ⟨g, e1⟩ : ∃ g, A = some ⟨g, 0, none⟩ := by
    obtain ⟨g, e1, _⟩ := nod_cells h (List.getElem?_eq_some_iff.1 ha).1
    exact ⟨g, e1⟩
  subst e1
  have HX0 : NdB w (some ⟨g, 0, none⟩) o (w.alloc (.cells #[.int .i64 op, .int .i64 a, .int .i64 b, .string nm, .string at_, .int .u64 u, .int .u64 t] 131)) [.int .i64 op, .int .i64 a, .int .i64 b, .string nm, .string at_, .int .u64 u, .int .u64 t] :=
    ⟨(Below.refl _ _).alloc (Nat.le_refl _) _, by simp, fun j hj => by
      rw [World.cell?_alloc_new]
      have : j = 0 ∨ j = 1 ∨ j = 2 ∨ j = 3 ∨ j = 4 ∨ j = 5 ∨ j = 6 := by omega
      rcases this with rfl | rfl | rfl | rfl | rfl | rfl | rfl <;> rfl, h.below ((Below.refl _ _).alloc (Nat.le_refl _) _)⟩
  have HX := Lib.hid HX0
  have HA := Lib.hid ha
  have HB := Lib.hid hb
  have HV := Lib.hid h2
  have HN2 := Lib.hid hn2
  have haI : (a : Int) < (n : Int) := by omega
  have hbI : (b : Int) < (n : Int) := by omega
  have haC : (a : Int) < (c : Int) := by omega
  have hbC : (b : Int) < (c : Int) := by omega
  have ha0 : 0 ≤ (a : Int) := by omega
  have hb0 : 0 ≤ (b : Int) := by omega
  clear HX0 ha hb h2 hn2 h hops hn
  go_enter Tryz.func93, Tryz.ntmps93
  go_upto_region 1 with fail
  generalize w.alloc (.cells #[.int .i64 op, .int .i64 a, .int .i64 b, .string nm, .string at_, .int .u64 u, .int .u64 t] 131) = W at HX ⊢
  go_region_held3 (fun w' => NdB w (some ⟨g, 0, none⟩) o w' [.int .i64 op, .int .i64 a, .int .i64 b, .string nm, .string at_, .int .u64 u, .int .u64 t] ∧ w'.cell? ⟨w.heap.size, 1, none⟩ = some (.int .i64 a) ∧ w'.cell? ⟨w.heap.size, 2, none⟩ = some (.int .i64 b) ∧
    (w'.cell? ⟨g, a * 7, none⟩ = some (.int .i64 (da.op : Nat)) ∧ w'.cell? ⟨g, a * 7 + 1, none⟩ = some (.int .i64 (da.a : Nat)) ∧ w'.cell? ⟨g, a * 7 + 2, none⟩ = some (.int .i64 (da.b : Nat)) ∧ w'.cell? ⟨g, a * 7 + 3, none⟩ = some (.string da.name) ∧ w'.cell? ⟨g, a * 7 + 4, none⟩ = some (.string da.attr) ∧ w'.cell? ⟨g, a * 7 + 5, none⟩ = some (.int .u64 (hi da.val)) ∧ w'.cell? ⟨g, a * 7 + 6, none⟩ = some (.int .u64 (lo da.val))) ∧
    (w'.cell? ⟨g, b * 7, none⟩ = some (.int .i64 (db.op : Nat)) ∧ w'.cell? ⟨g, b * 7 + 1, none⟩ = some (.int .i64 (db.a : Nat)) ∧ w'.cell? ⟨g, b * 7 + 2, none⟩ = some (.int .i64 (db.b : Nat)) ∧ w'.cell? ⟨g, b * 7 + 3, none⟩ = some (.string db.name) ∧ w'.cell? ⟨g, b * 7 + 4, none⟩ = some (.string db.attr) ∧ w'.cell? ⟨g, b * 7 + 5, none⟩ = some (.int .u64 (hi db.val)) ∧ w'.cell? ⟨g, b * 7 + 6, none⟩ = some (.int .u64 (lo db.val))))
    (first
      | exact (NdB.drew HX.out).all HA.out HB.out
      | exact (NdB.call (And.left (by assumption)) (by assumption)).all HA.out HB.out)
    ((go_at_call 94; (first
      | ((with_reducible refine (K1.out _).mono ?_); (rintro e w2 ⟨rfl, hb2⟩))
      | ((with_reducible refine (K2.out _).mono ?_); (rintro e w3 ⟨rfl, hb3⟩)))))
  all_goals
    try simp only [Exit.then]
    try apply_assumption
  have h3 : NdB w (some ⟨g, 0, none⟩) o w3 [.int .i64 op, .int .i64 a, .int .i64 b, .string nm, .string at_, .int .u64 u, .int .u64 t] := And.left (by assumption)
  have c0 : w3.cell? ⟨w.heap.size, 0, none⟩ = some (.int .i64 op) := h3.c 0 (by decide)
  have c3 : w3.cell? ⟨w.heap.size, 3, none⟩ = some (.string nm) := h3.c 3 (by decide)
  have c4 : w3.cell? ⟨w.heap.size, 4, none⟩ = some (.string at_) := h3.c 4 (by decide)
  have hwl := h3.size
  have HBF := Lib.hid h3.below
  have HV3 := Lib.hid (HV.out.below h3.below)
  rename_i hbig
  clear h3 hbig hb2 hb3 K1 K2 HX HV HA HB
  generalize numO da.op = x
  generalize numO db.op = y
  obtain ⟨kn, hkn⟩ : ∃ k, k = vin vs nm at_ := ⟨_, rfl⟩
  rw [← hkn]
  have HKN := Lib.hid hkn
  clear hkn
  have hcls : op = 3 ∨ op = 1 ∨ op = 2 ∨ op = 4 ∨ op = 5 ∨ op = 8 ∨ op = 9 ∨ op = 14 ∨ op = 15 ∨ op = 16 ∨ (6 ≤ op ∧ op ≠ 8 ∧ op ≠ 9 ∧ op < 14) := by omega
  rcases hcls with rfl | rfl | rfl | rfl | rfl | rfl | rfl | rfl | rfl | rfl | hL
  · have hG : Tryz.prog.eqGuardType Tryz.prog.depth 120 = false := by kernel_rfl
    go_wp2_with fail
    go_loopw [32] (fun i w' => ∃ k : Nat, k ≤ n2 ∧ i = .int .i64 k ∧ Below w3.heap.size w3 w' ∧ Hid (vin (vs.take k) nm at_ = false)) (fun i _ => n2 - (intOf i).toNat)
    case atStart => exact ⟨0, by omega, rfl, Below.refl _ _, Lib.hid rfl⟩
    case round =>
      obtain ⟨k, hk, rfl, hb, HVN⟩ := hrel
      have HB := Lib.hid hb
      have hsz := hb.size
      have b3 : wr.cell? ⟨w.heap.size, 3, none⟩ = some (.string nm) := (hb.cell (p := ⟨w.heap.size, 3, none⟩) hwl).trans c3
      have b4 : wr.cell? ⟨w.heap.size, 4, none⟩ = some (.string at_) := (hb.cell (p := ⟨w.heap.size, 4, none⟩) hwl).trans c4
      have hlw : w.heap.size < wr.heap.size := by omega
      by_cases hlt : k < n2
      · have hkI : (k : Int) < (n2 : Int) := by omega
        have hkc : (k : Int) < (c2 : Int) := by omega
        have hk0 : 0 ≤ (k : Int) := by omega
        obtain ⟨v, hv⟩ : ∃ v, vs[k]? = some v := ⟨_, List.getElem?_eq_getElem (by rw [HN2.out]; exact hlt)⟩
        obtain ⟨g2, e2, l2, q⟩ := (HV3.out.below hb).r.resolve_left (fun e => by rw [e] at hv; simp at hv)
        obtain ⟨q0, q1⟩ := q k v hv
        obtain ⟨v1, v2⟩ := v
        simp only at q0 q1
        have hq0 := fun W => eqV2 v1 v2 nm at_ W
        have hst : vin (vs.take (k + 1)) nm at_ = (decide (v1 = nm) && decide (v2 = at_)) := by
          have h1 := HVN.out
          unfold vin at h1 ⊢
          rw [List.take_succ_eq_append_getElem (by rw [HN2.out]; exact hlt), List.any_append, h1, (List.getElem?_eq_some_iff.1 hv).2]
          simp
        have hin : (decide (v1 = nm) && decide (v2 = at_)) = true → vin vs nm at_ = true := fun h => by
          rw [Bool.and_eq_true, decide_eq_true_iff, decide_eq_true_iff] at h
          obtain ⟨rfl, rfl⟩ := h
          rw [vin_iff]
          exact List.mem_of_getElem? hv
        generalize (decide (v1 = nm) && decide (v2 = at_)) = b at hq0 hst hin
        have HST := Lib.hid hst
        have HIN := Lib.hid hin
        clear hv q hst hin hb HVN
        subst e2
        cases b
        · clear HIN
          go_wp2_with fail
          go_roundw
          case rel => (go_light; exact ⟨k + 1, by omega, by simp, HB.out.alloc hsz _, Lib.hid HST.out⟩)
          case measure => simp [intOf]; omega
        · have hkn : kn = true := by rw [HKN.out]; exact HIN.out rfl
          clear HIN HST
          go_wp2_with fail
          go_ret
          exact ⟨by rw [hkn]; simp [rE, fitO], HBF.out.trans ((HB.out.alloc hsz _).mono (by omega))⟩
      · have hkI : ¬ (k : Int) < (n2 : Int) := by omega
        have hkn : kn = false := by rw [HKN.out, ← HVN.out, List.take_of_length_le (by rw [HN2.out]; omega)]
        have HKF := Lib.hid hkn
        clear hb hkn
        go_wp2_with fail
        go_ret
        exact ⟨by rw [HKF.out]; simp [rE], HBF.out.trans (HB.out.mono (by omega))⟩
  iterate 9
    · cases x <;> cases y
      all_goals
        go_wp2_with fail
        go_ret
        exact ⟨by simp [rE, fitO], HBF.out⟩
  · have q1 : ((op : Int) == 1) = false := by rw [beq_eq_false_iff_ne]; omega
    have q2 : ((op : Int) == 2) = false := by rw [beq_eq_false_iff_ne]; omega
    have q3 : ((op : Int) == 3) = false := by rw [beq_eq_false_iff_ne]; omega
    have q4 : ((op : Int) == 4) = false := by rw [beq_eq_false_iff_ne]; omega
    have q5 : ((op : Int) == 5) = false := by rw [beq_eq_false_iff_ne]; omega
    have q8 : ((op : Int) == 8) = false := by rw [beq_eq_false_iff_ne]; omega
    have q9 : ((op : Int) == 9) = false := by rw [beq_eq_false_iff_ne]; omega
    have q14 : ((op : Int) == 14) = false := by rw [beq_eq_false_iff_ne]; omega
    have q15 : ((op : Int) == 15) = false := by rw [beq_eq_false_iff_ne]; omega
    have q16 : ((op : Int) == 16) = false := by rw [beq_eq_false_iff_ne]; omega
    have e : ∀ x y, rE op x y kn = if x = true ∧ y = true then 0 else 12 := fun x y => by
      unfold rE fitO
      rw [if_neg (by omega), if_neg (show ¬ op ≤ 3 by omega), if_neg (show ¬ op = 4 by omega), if_neg (show ¬ op = 5 by omega), if_neg (show ¬ (op = 8 ∨ op = 9) by omega), if_neg (show ¬ 14 ≤ op by omega)]
      cases x <;> cases y <;> rfl
    have HE := Lib.hid e
    clear e hL
    cases x <;> cases y
    all_goals
      go_wp2_with fail
      go_ret
      exact ⟨by rw [HE.out]; rfl, HBF.out⟩
end
/- Layer 8: the reference's Check and Compile; the law's vars. -/
section
open Go.RowKit Go.Maps

set_option maxRecDepth 100000 in
set_option maxHeartbeats 8000000 in
theorem tr_Check (w : World) (A A2 : Option Addr) (n c n2 c2 : Nat) (o : List Nd) (vs : List (ByteArray × ByteArray)) (hn : o.length = n) (hc : n ≤ c) (hn4 : n ≤ 100000) (h : NodR w A o) (hT : TrO o) (hn2 : vs.length = n2) (hc2 : n2 ≤ c2) (hn24 : n2 ≤ 100000) (h2 : VarR w A2 vs) :
    Calls Tryz.prog 55 #[.slice A n c, .slice A2 n2 c2] w (RetC (chk o vs) w) := by
  have HR := Lib.hid h
  have HN := Lib.hid hn
  have HT := Lib.hid hT
  have HV := Lib.hid h2
  have HN2 := Lib.hid hn2
  have HOP : Hid (∀ x ∈ o, 1 ≤ x.op ∧ x.op < 17) := Lib.hid fun x hx => by
    obtain ⟨i, hi⟩ := List.mem_iff_getElem?.1 hx
    have := hT.ok i x hi
    omega
  obtain ⟨R, hR⟩ : ∃ R, R = chk o vs := ⟨_, rfl⟩
  rw [← hR]
  have HRR := Lib.hid hR
  clear h hn hT hn2 h2 hR
  go_enter Tryz.func55, Tryz.ntmps55
  go_wp2_with fail
  go_loopw [11] (fun i w' => ∃ k : Nat, k ≤ n ∧ i = .int .i64 k ∧ Below w.heap.size w w' ∧ Hid (chkF (ndE o vs) n (chkEnd o) (n - k) k = R)) (fun i _ => n - (intOf i).toNat)
  case atStart => exact ⟨0, by omega, rfl, Below.refl _ _, Lib.hid (by rw [HRR.out, Nat.sub_zero, ← HN.out]; rfl)⟩
  case round =>
    clear HRR
    obtain ⟨k, hk, rfl, hb, HC⟩ := hrel
    have HB := Lib.hid hb
    have hsz := hb.size
    by_cases hlt : k < n
    · have hkI : (k : Int) < (n : Int) := by omega
      have hkc : (k : Int) < (c : Int) := by omega
      have hk0 : 0 ≤ (k : Int) := by omega
      have hkl : k < o.length := by rw [HN.out]; exact hlt
      obtain ⟨d, hd⟩ : ∃ d, d = o[k]'hkl := ⟨_, rfl⟩
      have hd2 : o[k]? = some d := by rw [List.getElem?_eq_getElem hkl, hd]
      obtain ⟨g, e1, l1, a0, a1, a2, a3, a4, a5, a6⟩ := nod_cells (HR.out.below hb) hkl
      rw [← hd] at a0 a1 a2 a3 a4 a5 a6
      have hrange := HT.out.ok k d hd2
      obtain ⟨da, hda⟩ : ∃ x, o[d.a]? = some x := ⟨_, List.getElem?_eq_getElem hrange.2.2.2.2.1⟩
      obtain ⟨db, hdb⟩ : ∃ x, o[d.b]? = some x := ⟨_, List.getElem?_eq_getElem hrange.2.2.2.2.2⟩
      have KF0 := tr_node (wr.alloc (.cells #[.int .i64 d.op, .int .i64 d.a, .int .i64 d.b, .string d.name, .string d.attr, .int .u64 (hi d.val), .int .u64 (lo d.val)] 131)) A A2 n c n2 c2 o vs HN.out hc (HR.out.below (hb.alloc hsz _)) HOP.out HN2.out hc2 hn24 (HV.out.below (hb.alloc hsz _)) d.op d.a d.b d.name d.attr (hi d.val) (lo d.val) (by omega) (by omega) hda hdb
      rw [← ndE_r hd2 hda hdb vs] at KF0
      have KF := Lib.hid KF0
      obtain ⟨e0, he0⟩ : ∃ e, e = ndE o vs k := ⟨_, rfl⟩
      rw [← he0] at KF
      have HE := Lib.hid he0
      clear KF0 hd hb hd2 hda hdb he0
      subst e1
      go_wp2_with fail
      go_at_call 93
      refine KF.out.mono ?_
      rintro e w5 ⟨rfl, hb5⟩
      have HB5 := Lib.hid ((HB.out.alloc hsz _).trans (hb5.mono (by simp; omega)))
      clear hb5 KF
      by_cases hz : e0 = 0
      · subst hz
        have HC2 : Hid (chkF (ndE o vs) n (chkEnd o) (n - (k + 1)) (k + 1) = R) := Lib.hid (by rw [← chkF_step hlt HE.out.symm]; exact HC.out)
        go_wp2_with fail
        go_roundw
        case rel => (go_light; exact ⟨k + 1, by omega, by simp, HB5.out, HC2⟩)
        case measure => simp [intOf]; omega
      · have hR : R = (k, e0) := by rw [← HC.out, chkF_hit hlt (by rw [← HE.out]; exact hz), ← HE.out]
        have HRR := Lib.hid hR
        have hzI : ((e0 : Int) != 0) = true := by simp; omega
        have hzJ : ¬ (e0 : Int) = 0 := by omega
        clear hR
        go_wp2_with fail
        go_ret2
        exact ⟨by rw [HRR.out]; rfl, HB5.out⟩
    · have hkI : ¬ (k : Int) < (n : Int) := by omega
      obtain rfl : n = k := by omega
      have hRE : R = chkEnd o := by rw [← HC.out, chkF_end]
      have HRE := Lib.hid hRE
      clear hRE HC
      by_cases hn0 : n = 0
      · subst hn0
        have ho : o = [] := List.eq_nil_of_length_eq_zero HN.out
        have hR : R = (0, 12) := by rw [HRE.out, ho]; rfl
        have HRR := Lib.hid hR
        clear hR ho hb
        go_wp2_with fail
        go_ret2
        exact ⟨by rw [HRR.out]; rfl, HB.out⟩
      · have hn0I : ((n : Int) == 0) = false := by rw [beq_eq_false_iff_ne]; omega
        have hn0J : ¬ (n : Int) = 0 := by omega
        obtain ⟨m, hm1⟩ : ∃ m, n = m + 1 := ⟨n - 1, by omega⟩
        have hsub : (n : Int) - 1 = (m : Int) := by omega
        have hmI : (m : Int) < (n : Int) := by omega
        have hmc : (m : Int) < (c : Int) := by omega
        have hm0 : 0 ≤ (m : Int) := by omega
        have hml : m < o.length := by have := HN.out; omega
        obtain ⟨d, hd⟩ : ∃ d, d = o[m]'hml := ⟨_, rfl⟩
        have hd2 : o[m]? = some d := by rw [List.getElem?_eq_getElem hml, hd]
        obtain ⟨g, e1, l1, a0, a1, a2, a3, a4, a5, a6⟩ := nod_cells (HR.out.below hb) hml
        rw [← hd] at a0 a1 a2 a3 a4 a5 a6
        have hrange := HT.out.ok m d hd2
        have KT := Lib.hid (tr_number wr d.op (d.a : Nat) (d.b : Nat) (hi d.val) (lo d.val) d.name d.attr (by omega) (by omega))
        have ht := typAt_num hd2
        obtain ⟨x, hx⟩ : ∃ x, x = numO d.op := ⟨_, rfl⟩
        rw [← hx] at KT ht
        have HTT := Lib.hid ht
        have HM1 := Lib.hid hm1
        clear hd hd2 ht hx hm1 hb hrange
        subst e1
        go_wp2_with fail
        go_at_call 94
        refine KT.out.mono ?_
        rintro e w5 ⟨rfl, hb5⟩
        have HB5 := Lib.hid (HB.out.trans (hb5.mono hsz))
        clear hb5 KT
        cases x
        · have hR : R = (0, 0) := by rw [HRE.out]; unfold chkEnd; rw [HN.out, HM1.out, Nat.add_sub_cancel, HTT.out]; rfl
          have HRR := Lib.hid hR
          clear hR
          go_wp2_with fail
          go_ret2
          exact ⟨by rw [HRR.out]; rfl, HB5.out⟩
        · have hR : R = (m, 12) := by rw [HRE.out]; unfold chkEnd; rw [HN.out, HM1.out, Nat.add_sub_cancel, HTT.out]; rfl
          have HRR := Lib.hid hR
          clear hR
          go_wp2_with fail
          go_ret2
          exact ⟨by rw [HRR.out]; rfl, HB5.out⟩
end
/- Layer 8: the reference's Compile. -/
section
open Go.RowKit Go.Maps

set_option maxRecDepth 100000 in
set_option maxHeartbeats 4000000 in
theorem tr_Compile (w : World) (s : ByteArray) (hs : s.size < 9223372036854775807) (A2 : Option Addr) (n2 c2 : Nat) (vs : List (ByteArray × ByteArray)) (hn2 : vs.length = n2) (hc2 : n2 ≤ c2) (hn24 : n2 ≤ 100000) (h2 : VarR w A2 vs) :
    Calls Tryz.prog 22 #[.string s, .slice A2 n2 c2] w (RetCm (cmpl s vs) (cmpl s vs).1.length w) := by
  have K1 := Lib.hid (lr_scan s hs w)
  have HV := Lib.hid h2
  have HN2 := Lib.hid hn2
  obtain ⟨R, hR⟩ : ∃ R, R = cmpl s vs := ⟨_, rfl⟩
  rw [← hR]
  have HR := Lib.hid hR
  clear h2 hn2 hR
  by_cases h0 : s.size = 0
  · obtain rfl : s = ⟨#[]⟩ := by
      apply ba_ext
      have := bl_len s
      rw [h0] at this
      exact List.eq_nil_of_length_eq_zero this
    have hRe : R = ([⟨2, 0, 0, ⟨#[]⟩, ⟨#[]⟩, 1⟩], 0) := HR.out
    have HRe := Lib.hid hRe
    clear hRe h0 K1 hs
    go_enter Tryz.func22, Tryz.ntmps22
    go_wp2_with fail
    go_ret2
    refine ⟨some ⟨w.heap.size, 0, none⟩, 1, by rw [HRe.out]; rfl, by rw [HRe.out], by rw [HRe.out]; exact Nat.le_refl 1, ?_, (Below.refl _ _).alloc (Nat.le_refl _) _⟩
    rw [HRe.out]
    refine ⟨.inr ⟨w.heap.size, rfl, by simp, fun k hk j hj => ?_⟩⟩
    obtain rfl : k = 0 := by simp at hk; omega
    rw [Nat.zero_mul, Nat.zero_add, World.cell?_alloc_new]
    have : j = 0 ∨ j = 1 ∨ j = 2 ∨ j = 3 ∨ j = 4 ∨ j = 5 ∨ j = 6 := by omega
    have h51 : hi 1 = 0 := by decide
    have l51 : lo 1 = 1 := by decide
    rcases this with rfl | rfl | rfl | rfl | rfl | rfl | rfl <;> first | rfl | (show _ = some (Value.int .u64 (hi 1)); rw [h51]; rfl) | (show _ = some (Value.int .u64 (lo 1)); rw [l51]; rfl)
  · have hse : (s.toList == []) = false := by
      rw [beq_eq_false_iff_ne]
      intro e
      have := bl_len s
      unfold bl at this
      rw [ByteArray.toList_eq] at e
      rw [e] at this
      simp at this; omega
    have hse2 : ¬ s.toList = [] := by simpa using hse
    have hse3 : s.toList.isEmpty = false := by
      cases hh : s.toList
      · exact absurd hh hse2
      · rfl
    have hTok := scan_tokOk s
    have hGood := scan_tokGood s
    have hsl := scan_len s
    obtain ⟨⟨l, ri, rc⟩, hS⟩ : ∃ R, scan s = R := ⟨_, rfl⟩
    have hRe : R = if rc ≠ 0 then ([], rc) else if (parse l).2.2 ≠ 0 then ([], (parse l).2.2) else if (chk (parse l).1 vs).2 ≠ 0 then ([], (chk (parse l).1 vs).2) else ((parse l).1, 0) := by
      rw [HR.out]; unfold cmpl; rw [if_neg h0, hS]
    rw [hS] at K1 hTok hGood hsl
    simp only at hTok hGood hsl
    obtain ⟨n, hn⟩ : ∃ n, n = l.length := ⟨_, rfl⟩
    have HRe := Lib.hid hRe
    have HTok := Lib.hid hTok
    have HGood := Lib.hid hGood
    have hn4 : n ≤ 400 := by omega
    have HN := Lib.hid hn
    clear hRe hTok hGood hS hsl hn HR
    go_enter Tryz.func22, Tryz.ntmps22
    go_wp2_with fail
    go_at_call 53
    refine K1.out.mono ?_
    rintro e w1 ⟨A1, c1, he, hO1, hb1⟩
    have he2 : e = .returned (.tuple #[.slice A1 n c1, .int .i64 (ri : Nat), .int .i64 (rc : Nat)]) := by rw [HN.out]; exact he
    subst he2
    have hc1 : n ≤ c1 := by rw [HN.out]; exact own_le hO1
    have T1 := Lib.hid (tokR_own hO1 rfl)
    have HB1 := Lib.hid hb1
    have h1 := hb1.size
    clear he hO1 hb1 K1
    by_cases hrc : rc = 0
    · subst hrc
      have HTO := Lib.hid (HTok.out rfl)
      have K3 := Lib.hid (rp_Parse w1 A1 n c1 l HN.out.symm hc1 HTO.out T1.out.atB)
      have hTro := parse_tro (HGood.out rfl)
      have hpl := parse_len l
      obtain ⟨⟨o, pi, pc⟩, hP⟩ : ∃ R, parse l = R := ⟨_, rfl⟩
      have hRe : R = if pc ≠ 0 then ([], pc) else if (chk o vs).2 ≠ 0 then ([], (chk o vs).2) else (o, 0) := by
        rw [HRe.out, if_neg (by simp), hP]
      rw [hP] at K3 hTro hpl
      simp only at hTro hpl
      obtain ⟨m, hm⟩ : ∃ m, m = o.length := ⟨_, rfl⟩
      have hm4 : m ≤ 400 := by have := HN.out; omega
      have HM := Lib.hid hm
      have HTr := Lib.hid hTro
      have HRe2 := Lib.hid hRe
      clear hRe HRe hP hTro hpl hm
      go_wp2_with fail
      go_at_call 54
      refine K3.out.mono ?_
      rintro e w3 ⟨A3, c3, he, hl3, hn3, hb3⟩
      have he2 : e = .returned (.tuple #[.slice A3 m c3, .int .i64 (pi : Nat), .int .i64 (pc : Nat)]) := by rw [HM.out]; exact he
      subst he2
      have N3 := Lib.hid hn3
      have hc3 : m ≤ c3 := by rw [HM.out]; exact hl3
      have HB3 := Lib.hid (HB1.out.trans (hb3.mono h1))
      have h3 := HB3.out.size
      clear he hn3 hb3 hl3 K3
      by_cases hpc : pc = 0
      · subst hpc
        have K4 := Lib.hid (tr_Check w3 A3 A2 m c3 n2 c2 o vs HM.out.symm hc3 (by omega) N3.out HTr.out HN2.out hc2 hn24 (HV.out.below HB3.out))
        obtain ⟨⟨ci, cc⟩, hC⟩ : ∃ R, chk o vs = R := ⟨_, rfl⟩
        have hRe : R = if cc ≠ 0 then ([], cc) else (o, 0) := by rw [HRe2.out, if_neg (by simp), hC]
        rw [hC] at K4
        have HRe3 := Lib.hid hRe
        clear hRe HRe2 hC
        go_wp2_with fail
        go_at_call 55
        refine K4.out.mono ?_
        rintro e w4 ⟨he, hb4⟩
        have he2 : e = .returned (.tuple #[.int .i64 (ci : Nat), .int .i64 (cc : Nat)]) := he
        subst he2
        have HB4 := Lib.hid (HB3.out.trans (hb4.mono h3))
        have N4 := Lib.hid (N3.out.below hb4)
        clear he hb4 K4
        by_cases hcc : cc = 0
        · subst hcc
          have hRe : R = (o, 0) := by rw [HRe3.out, if_neg (by simp)]
          have HRe4 := Lib.hid hRe
          clear hRe HRe3
          go_wp2_with fail
          go_ret2
          exact ⟨A3, c3, by rw [HRe4.out, HM.out]; rfl, rfl, by rw [HRe4.out]; show o.length ≤ _; rw [← HM.out]; exact hc3, by rw [HRe4.out]; exact N4.out, HB4.out⟩
        · have hccI : ((cc : Int) != 0) = true := by simp; omega
          have hccJ : ¬ (cc : Int) = 0 := by omega
          have hRe : R = ([], cc) := by rw [HRe3.out, if_pos hcc]
          have HRe4 := Lib.hid hRe
          clear hRe HRe3
          go_wp2_with fail
          go_ret2
          exact ⟨none, 0, by rw [HRe4.out]; rfl, rfl, by rw [HRe4.out]; exact Nat.le_refl 0, by rw [HRe4.out]; exact ⟨.inl rfl⟩, HB4.out⟩
      · have hpcI : ((pc : Int) != 0) = true := by simp; omega
        have hpcJ : ¬ (pc : Int) = 0 := by omega
        have hRe : R = ([], pc) := by rw [HRe2.out, if_pos hpc]
        have HRe4 := Lib.hid hRe
        clear hRe HRe2
        go_wp2_with fail
        go_ret2
        exact ⟨none, 0, by rw [HRe4.out]; rfl, rfl, by rw [HRe4.out]; exact Nat.le_refl 0, by rw [HRe4.out]; exact ⟨.inl rfl⟩, HB3.out⟩
    · have hrcI : ((rc : Int) != 0) = true := by simp; omega
      have hrcJ : ¬ (rc : Int) = 0 := by omega
      have hRe : R = ([], rc) := by rw [HRe.out, if_pos hrc]
      have HRe4 := Lib.hid hRe
      clear hRe HRe
      go_wp2_with fail
      go_ret2
      exact ⟨none, 0, by rw [HRe4.out]; rfl, rfl, by rw [HRe4.out]; exact Nat.le_refl 0, by rw [HRe4.out]; exact ⟨.inl rfl⟩, HB1.out⟩
end
end Go.Proofs.YtodmkmoglchoeaaGreatDoor
