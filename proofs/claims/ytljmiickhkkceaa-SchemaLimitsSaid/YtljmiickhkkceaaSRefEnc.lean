/- The reference's Encode. -/
import Derived.Test.YtljmiickhkkceaaJSRefs
import Derived.Test.YtljmiickhkkceaaSEnc
namespace Go.Proofs.Ytljmiickhkkceaa
open Go.RowKit

section
variable {C X B : Nat} {w : World} {s : WS} {v : Value}
set_option maxRecDepth 100000 in
set_option maxHeartbeats 8000000 in
theorem rencode_any (x : SchemaD) (cs : List Value) (hx : SchemaV w.heap.size w cs x) (hl : (eSchema wayR x ws0).l.length ≤ 3800000) :
    Calls Try.prog 12 #[.agg cs.toArray] w (EncRet (finL (eSchema wayR x ws0)) (finE (eSchema wayR x ws0)) w) := by
  have hx0 := hx
  obtain ⟨sv1, sv2, sv3, sv4, sv5, sv6, sv7, sv8, rfl, q9, q10, q11, q12, q13, q14, q15, q16, q17, q18⟩ := hx
  clear q9 q10 q11 q12 q13 q14 q15 q16
  obtain ⟨wa, ha⟩ : ∃ wa, wa = ((w.alloc (.cells #[sv1, sv2, sv3, sv4, sv5, sv6, sv7, sv8, .int .i64 x.maxBatch, .int .i64 x.budget] 31)).alloc (.cells #[.slice none 0 0, .bool false, .bool false, .bool false] 95)) := ⟨_, rfl⟩
  have za : wa.heap.size = w.heap.size + 2 := by rw [ha]; simp
  have ba : Below w.heap.size w wa := by rw [ha]; exact ((Below.refl _ _).alloc (Nat.le_refl _) _).alloc (by simp) _
  have ca : ∀ i, wa.cell? ⟨w.heap.size, i, none⟩ = #[sv1, sv2, sv3, sv4, sv5, sv6, sv7, sv8, .int .i64 x.maxBatch, .int .i64 x.budget][i]? := fun i => by rw [ha, World.cell?_alloc_past _ _ _ (by simp), World.cell?_alloc_new]
  have cx : ∀ i, wa.cell? ⟨w.heap.size + 1, i, none⟩ = #[Value.slice none 0 0, .bool false, .bool false, .bool false][i]? := fun i => by rw [ha]; exact World.cell?_alloc_at _ _ _ _ (by simp)
  have fx : ∀ i, wa.frozen? ⟨w.heap.size + 1, i, none⟩ = false := fun i => by
    have := World.frozen?_alloc_new (w.alloc (.cells #[sv1, sv2, sv3, sv4, sv5, sv6, sv7, sv8, .int .i64 x.maxBatch, .int .i64 x.budget] 31)) #[.slice none 0 0, .bool false, .bool false, .bool false] 95 i
    rw [ha]
    rwa [World.size_alloc] at this
  have hW : WrAt (w.heap.size + 1) (w.heap.size + 2) wa ws0 (.slice none 0 0) := ⟨cx 0, cx 1, cx 2, cx 3, fx 0, fx 1, fx 2, fx 3, World.ownsRow_nil _ _ _ _, by omega, by omega⟩
  have hL : Loc (w.heap.size + 1) w.heap.size (.slice none 0 0) wa := ⟨by omega, by omega, by simp [Value.ownBlock]⟩
  have hB : ∀ j (h : j < [sv1, sv2, sv3, sv4, sv5, sv6, sv7, sv8, .int .i64 x.maxBatch, .int .i64 x.budget].length), wa.cell? ⟨w.heap.size, j, none⟩ = some ([sv1, sv2, sv3, sv4, sv5, sv6, sv7, sv8, .int .i64 x.maxBatch, .int .i64 x.budget][j]'h) := fun j h => by rw [ca, List.getElem?_toArray]; exact List.getElem?_eq_getElem h
  have hxa := kept_schema _ _ _ _ _ ba hx0
  have hC : w.heap.size ≤ w.heap.size + 1 := Nat.le_succ _
  obtain ⟨ov29, ov30, ov31, ov32, ov33, ov34, ov35, ov36, heq, r21, r22, r23, r24, r25, r26, r27, r28, r19, r20⟩ := hxa
  simp only [List.cons.injEq, and_true] at heq
  obtain ⟨rfl, rfl, rfl, rfl, rfl, rfl, rfl, rfl⟩ := heq
  have hr41 := r21
  obtain ⟨A37, n38, cap39, rfl, HN40, nc42, cm43, _⟩ := r21
  unfold maxLen at cm43
  have HR44 := Lib.hid hr41
  clear hr41
  have hr49 := r22
  obtain ⟨A45, n46, cap47, rfl, HN48, nc50, cm51, _⟩ := r22
  unfold maxLen at cm51
  have HR52 := Lib.hid hr49
  clear hr49
  have hr57 := r23
  obtain ⟨A53, n54, cap55, rfl, HN56, nc58, cm59, _⟩ := r23
  unfold maxLen at cm59
  have HR60 := Lib.hid hr57
  clear hr57
  have hr65 := r24
  obtain ⟨A61, n62, cap63, rfl, HN64, nc66, cm67, _⟩ := r24
  unfold maxLen at cm67
  have HR68 := Lib.hid hr65
  clear hr65
  have hr73 := r25
  obtain ⟨A69, n70, cap71, rfl, HN72, nc74, cm75, _⟩ := r25
  unfold maxLen at cm75
  have HR76 := Lib.hid hr73
  clear hr73
  have hr81 := r26
  obtain ⟨A77, n78, cap79, rfl, HN80, nc82, cm83, _⟩ := r26
  unfold maxLen at cm83
  have HR84 := Lib.hid hr81
  clear hr81
  have hr89 := r27
  obtain ⟨A85, n86, cap87, rfl, HN88, nc90, cm91, _⟩ := r27
  unfold maxLen at cm91
  have HR92 := Lib.hid hr89
  clear hr89
  have hr97 := r28
  obtain ⟨A93, n94, cap95, rfl, HN96, nc98, cm99, _⟩ := r28
  unfold maxLen at cm99
  have HR100 := Lib.hid hr97
  clear hr97
  have HW := Lib.hid hW
  have HG0 := Lib.hid (Gr.refl (w.heap.size + 1) (.slice none 0 0) wa)
  have HL0 := Lib.hid hL
  have HB0 := Lib.hid hB
  have HA := Lib.hid ha
  have HBA := Lib.hid ba
  have HZ := Lib.hid za
  have HX0 := Lib.hid hx0
  clear hW hL hB ha ba za ca cx fx hx0
  have Hb101 : (rList 8 eRef x.refs (rList 6 (eRole wayR) x.roles (rList 12 eStage x.stages (rList 8 (eTable wayR) x.tables (rList 12 (eAction wayR) x.actions (ePacket wayR x (wNum 2 x.budget (wNum 2 x.maxBatch (ws0))))))))).l.length ≤ 3800000 := hl
  have Hb102 : (rList 6 (eRole wayR) x.roles (rList 12 eStage x.stages (rList 8 (eTable wayR) x.tables (rList 12 (eAction wayR) x.actions (ePacket wayR x (wNum 2 x.budget (wNum 2 x.maxBatch (ws0)))))))).l.length ≤ 3800000 := Nat.le_trans ((up_rlist 8 up_ref x.refs) (rList 6 (eRole wayR) x.roles (rList 12 eStage x.stages (rList 8 (eTable wayR) x.tables (rList 12 (eAction wayR) x.actions (ePacket wayR x (wNum 2 x.budget (wNum 2 x.maxBatch (ws0))))))))) Hb101
  have Hb103 : (rList 12 eStage x.stages (rList 8 (eTable wayR) x.tables (rList 12 (eAction wayR) x.actions (ePacket wayR x (wNum 2 x.budget (wNum 2 x.maxBatch (ws0))))))).l.length ≤ 3800000 := Nat.le_trans ((up_rlist 6 up_role x.roles) (rList 12 eStage x.stages (rList 8 (eTable wayR) x.tables (rList 12 (eAction wayR) x.actions (ePacket wayR x (wNum 2 x.budget (wNum 2 x.maxBatch (ws0)))))))) Hb102
  have Hb104 : (rList 8 (eTable wayR) x.tables (rList 12 (eAction wayR) x.actions (ePacket wayR x (wNum 2 x.budget (wNum 2 x.maxBatch (ws0)))))).l.length ≤ 3800000 := Nat.le_trans ((up_rlist 12 up_stage x.stages) (rList 8 (eTable wayR) x.tables (rList 12 (eAction wayR) x.actions (ePacket wayR x (wNum 2 x.budget (wNum 2 x.maxBatch (ws0))))))) Hb103
  have Hb105 : (rList 12 (eAction wayR) x.actions (ePacket wayR x (wNum 2 x.budget (wNum 2 x.maxBatch (ws0))))).l.length ≤ 3800000 := Nat.le_trans ((up_rlist 8 up_table x.tables) (rList 12 (eAction wayR) x.actions (ePacket wayR x (wNum 2 x.budget (wNum 2 x.maxBatch (ws0)))))) Hb104
  have Hb106 : (ePacket wayR x (wNum 2 x.budget (wNum 2 x.maxBatch (ws0)))).l.length ≤ 3800000 := Nat.le_trans ((up_rlist 12 up_action x.actions) (ePacket wayR x (wNum 2 x.budget (wNum 2 x.maxBatch (ws0))))) Hb105
  have HB107 := Lib.hid Hb106
  have HB108 := Lib.hid Hb105
  have HB109 := Lib.hid Hb104
  have HB110 := Lib.hid Hb103
  have HB111 := Lib.hid Hb102
  have HB112 := Lib.hid Hb101
  clear Hb106 Hb105 Hb104 Hb103 Hb102 Hb101
  have HBa : Hid ((ws0).l.length ≤ 3800000) := Lib.hid (by decide)
  have HBb : Hid ((wNum 2 x.maxBatch (ws0)).l.length ≤ 3800000) := Lib.hid (by simp [wNum, ws0, encU_len])
  have HBc : Hid ((wNum 2 x.budget (wNum 2 x.maxBatch (ws0))).l.length ≤ 3800000) := Lib.hid (by simp [wNum, ws0, encU_len])
  clear hl
  obtain ⟨E, hE⟩ : ∃ E, E = finE (eSchema wayR x ws0) := ⟨_, rfl⟩
  obtain ⟨Lr, hLr⟩ : ∃ l, l = finL (eSchema wayR x ws0) := ⟨_, rfl⟩
  rw [← hE, ← hLr]
  have HEE := Lib.hid hE
  have HLL := Lib.hid hLr
  clear hE hLr
  go_enter Try.func12, Try.ntmps12
  go_wp2_with fail
  rw [← HA.out]
  refine (rwnum_any 2 (.inr rfl) x.maxBatch r19 HW.out (by have := HBa.out; omega)).mono ?_
  rintro e w113 ⟨rfl, u114, hv115, hg116⟩
  have HV117 := Lib.hid hv115
  have HG118 := Lib.hid (HG0.out.trans hg116)
  obtain ⟨l119, c120⟩ := hg116.loc HL0.out
  have HL121 := Lib.hid l119
  have HB122 := Lib.hid (fun j (h : j < [.slice A37 n38 cap39, .slice A45 n46 cap47, .slice A53 n54 cap55, .slice A61 n62 cap63, .slice A69 n70 cap71, .slice A77 n78 cap79, .slice A85 n86 cap87, .slice A93 n94 cap95, .int .i64 x.maxBatch, .int .i64 x.budget].length) => (c120 j).trans (HB0.out j h))
  clear l119 c120
  clear hv115 hg116
  have d123 : w113.cell? ⟨w.heap.size, 9, none⟩ = some (.int .i64 x.budget) := HB122.out 9 (by simp)
  go_wp2_with fail
  refine (rwnum_any 2 (.inr rfl) x.budget r20 HV117.out (by have := HBb.out; omega)).mono ?_
  rintro e w124 ⟨rfl, u125, hv126, hg127⟩
  have HV128 := Lib.hid hv126
  have HG129 := Lib.hid (HG118.out.trans hg127)
  obtain ⟨l130, c131⟩ := hg127.loc HL121.out
  have HL132 := Lib.hid l130
  have HB133 := Lib.hid (fun j (h : j < [.slice A37 n38 cap39, .slice A45 n46 cap47, .slice A53 n54 cap55, .slice A61 n62 cap63, .slice A69 n70 cap71, .slice A77 n78 cap79, .slice A85 n86 cap87, .slice A93 n94 cap95, .int .i64 x.maxBatch, .int .i64 x.budget].length) => (c131 j).trans (HB122.out j h))
  clear l130 c131
  clear hv126 hg127
  clear d123
  have d134 : w124.cell? ⟨w.heap.size, 0, none⟩ = some (.slice A37 n38 cap39) := HB133.out 0 (by simp)
  have d135 : w124.cell? ⟨w.heap.size, 1, none⟩ = some (.slice A45 n46 cap47) := HB133.out 1 (by simp)
  have d136 : w124.cell? ⟨w.heap.size, 2, none⟩ = some (.slice A53 n54 cap55) := HB133.out 2 (by simp)
  have d137 : w124.cell? ⟨w.heap.size, 3, none⟩ = some (.slice A61 n62 cap63) := HB133.out 3 (by simp)
  have d138 : w124.cell? ⟨w.heap.size, 4, none⟩ = some (.slice A69 n70 cap71) := HB133.out 4 (by simp)
  have d139 : w124.cell? ⟨w.heap.size, 5, none⟩ = some (.slice A77 n78 cap79) := HB133.out 5 (by simp)
  have d140 : w124.cell? ⟨w.heap.size, 6, none⟩ = some (.slice A85 n86 cap87) := HB133.out 6 (by simp)
  have d141 : w124.cell? ⟨w.heap.size, 7, none⟩ = some (.slice A93 n94 cap95) := HB133.out 7 (by simp)
  have d142 : w124.cell? ⟨w.heap.size, 8, none⟩ = some (.int .i64 x.maxBatch) := HB133.out 8 (by simp)
  have d143 : w124.cell? ⟨w.heap.size, 9, none⟩ = some (.int .i64 x.budget) := HB133.out 9 (by simp)
  go_wp2_with fail
  refine (rwpacket_any x [.slice A37 n38 cap39, .slice A45 n46 cap47, .slice A53 n54 cap55, .slice A61 n62 cap63, .slice A69 n70 cap71, .slice A77 n78 cap79, .slice A85 n86 cap87, .slice A93 n94 cap95, .int .i64 x.maxBatch, .int .i64 x.budget] (kept_schema _ _ _ _ _ (HG129.out.below HW.out hC) ⟨_, _, _, _, _, _, _, _, rfl, HR44.out, HR52.out, HR60.out, HR68.out, HR76.out, HR84.out, HR92.out, HR100.out, r19, r20⟩) hC HV128.out HB107.out).mono ?_
  rintro e w144 ⟨rfl, u145, hv146, hg147⟩
  have HV148 := Lib.hid hv146
  have HG149 := Lib.hid (HG129.out.trans hg147)
  obtain ⟨l150, c151⟩ := hg147.loc HL132.out
  have HL152 := Lib.hid l150
  have HB153 := Lib.hid (fun j (h : j < [.slice A37 n38 cap39, .slice A45 n46 cap47, .slice A53 n54 cap55, .slice A61 n62 cap63, .slice A69 n70 cap71, .slice A77 n78 cap79, .slice A85 n86 cap87, .slice A93 n94 cap95, .int .i64 x.maxBatch, .int .i64 x.budget].length) => (c151 j).trans (HB133.out j h))
  clear l150 c151
  clear hv146 hg147
  clear d134 d135 d136 d137 d138 d139 d140 d141 d142 d143
  have d154 : w144.cell? ⟨w.heap.size, 3, none⟩ = some (.slice A61 n62 cap63) := HB153.out 3 (by simp)
  go_wp2_with fail
  refine (rwcount_any n62 12 (by omega) HV148.out (by have := HB107.out; omega)).mono ?_
  rintro e w155 ⟨rfl, u156, hv157, hg158⟩
  have HV159 := Lib.hid hv157
  have HG160 := Lib.hid (HG149.out.trans hg158)
  obtain ⟨l161, c162⟩ := hg158.loc HL152.out
  have HL163 := Lib.hid l161
  have HB164 := Lib.hid (fun j (h : j < [.slice A37 n38 cap39, .slice A45 n46 cap47, .slice A53 n54 cap55, .slice A61 n62 cap63, .slice A69 n70 cap71, .slice A77 n78 cap79, .slice A85 n86 cap87, .slice A93 n94 cap95, .int .i64 x.maxBatch, .int .i64 x.budget].length) => (c162 j).trans (HB153.out j h))
  clear l161 c162
  clear hv157 hg158
  clear d154
  have d165 : w155.cell? ⟨w.heap.size, 3, none⟩ = some (.slice A61 n62 cap63) := HB164.out 3 (by simp)
  go_wp2_with fail
  clear d165
  have hb166 : ∀ q, q ≤ n62 → (runL (eAction wayR) x.actions (rCount n62 12 (ePacket wayR x (wNum 2 x.budget (wNum 2 x.maxBatch (ws0))))) q).l.length ≤ 3800000 := fun q hq => runL_bound up_action hq (by have h := HB108.out; rw [rList_run, ← HN64.out] at h; exact h)
  have HBq167 := Lib.hid hb166
  clear hb166
  have h0n62 : 0 ≤ (n62 : Int) := by omega
  go_loopw [36] (fun i W => ∃ q : Nat, q ≤ n62 ∧ i = .int .i64 q ∧ ∃ u, WrAt (w.heap.size + 1) (w.heap.size + 2) W (runL (eAction wayR) x.actions (rCount n62 12 (ePacket wayR x (wNum 2 x.budget (wNum 2 x.maxBatch (ws0))))) q) u ∧ Gr (w.heap.size + 1) (.slice none 0 0) wa u W ∧ Loc (w.heap.size + 1) w.heap.size u W ∧ (∀ j (h : j < [.slice A37 n38 cap39, .slice A45 n46 cap47, .slice A53 n54 cap55, .slice A61 n62 cap63, .slice A69 n70 cap71, .slice A77 n78 cap79, .slice A85 n86 cap87, .slice A93 n94 cap95, .int .i64 x.maxBatch, .int .i64 x.budget].length), W.cell? ⟨w.heap.size, j, none⟩ = some ([.slice A37 n38 cap39, .slice A45 n46 cap47, .slice A53 n54 cap55, .slice A61 n62 cap63, .slice A69 n70 cap71, .slice A77 n78 cap79, .slice A85 n86 cap87, .slice A93 n94 cap95, .int .i64 x.maxBatch, .int .i64 x.budget][j]'h))) (fun i _ => n62 - (intOf i).toNat)
  case atStart => exact ⟨0, by omega, rfl, u156, HV159.out, HG160.out, HL163.out, HB164.out⟩
  case round =>
    obtain ⟨W170, hw171⟩ : ∃ x, x = wr := ⟨wr, rfl⟩
    subst hw171
    obtain ⟨q168, hq174, rfl, u169, hV175, hG176, l172, b173⟩ := hrel
    have HV177 := Lib.hid hV175
    have HG178 := Lib.hid hG176
    clear hV175 hG176
    have HL179 := Lib.hid l172
    have HB180 := Lib.hid b173
    clear l172 b173
    by_cases hqnq168 : q168 < n62
    · have hqiq168 : (q168 : Int) < (n62 : Int) := by omega
      have hq0q168 : 0 ≤ (q168 : Int) := by omega
      obtain ⟨eb182, eo183, ar188, y181, hx184, hL185⟩ := row_at HR68.out (q := q168) (by have := HN64.out; omega)
      subst ar188
      obtain ⟨hlt189, _, hc186, ⟨sv190, sv191, rfl, q192, q193, q194, q195, q196⟩⟩ := hL185
      have hr201 := q194
      obtain ⟨A197, n198, cap199, rfl, HN200, nc202, cm203, _⟩ := q194
      unfold maxLen at cm203
      have HR204 := Lib.hid hr201
      clear hr201
      have hr209 := q195
      obtain ⟨A205, n206, cap207, rfl, HN208, nc210, cm211, _⟩ := q195
      unfold maxLen at cm211
      have HR212 := Lib.hid hr209
      clear hr209
      have d213 : W170.cell? ⟨eb182, eo183 + q168 * 5, none⟩ = some (.int .i64 y181.id) := ((HG178.out.below HW.out hC).cell (p := ⟨eb182, eo183 + q168 * 5, none⟩) hlt189).trans (hc186 0 (by simp))
      have d214 : W170.cell? ⟨eb182, eo183 + q168 * 5 + 1, none⟩ = some (.string (strL y181.name)) := ((HG178.out.below HW.out hC).cell (p := ⟨eb182, eo183 + q168 * 5 + 1, none⟩) hlt189).trans (hc186 1 (by simp))
      have d215 : W170.cell? ⟨eb182, eo183 + q168 * 5 + 2, none⟩ = some (.slice A197 n198 cap199) := ((HG178.out.below HW.out hC).cell (p := ⟨eb182, eo183 + q168 * 5 + 2, none⟩) hlt189).trans (hc186 2 (by simp))
      have d216 : W170.cell? ⟨eb182, eo183 + q168 * 5 + 3, none⟩ = some (.slice A205 n206 cap207) := ((HG178.out.below HW.out hC).cell (p := ⟨eb182, eo183 + q168 * 5 + 3, none⟩) hlt189).trans (hc186 3 (by simp))
      have d217 : W170.cell? ⟨eb182, eo183 + q168 * 5 + 4, none⟩ = some (.string (strL y181.restr)) := ((HG178.out.below HW.out hC).cell (p := ⟨eb182, eo183 + q168 * 5 + 4, none⟩) hlt189).trans (hc186 4 (by simp))
      have HX187 := Lib.hid (runL_succ (eAction wayR) (rCount n62 12 (ePacket wayR x (wNum 2 x.budget (wNum 2 x.maxBatch (ws0))))) hx184)
      clear hc186 hx184
      have hb218 := HBq167.out (q168 + 1) (by omega)
      rw [HX187.out] at hb218
      obtain ⟨W219, hE220⟩ : ∃ W2, W2 = W170.alloc (.cells #[.int .i64 y181.id, .string (strL y181.name), .slice A197 n198 cap199, .slice A205 n206 cap207, .string (strL y181.restr)] 60) := ⟨_, rfl⟩
      have hbl222 : Below W170.heap.size W170 W219 := by rw [hE220]; exact (Below.refl _ _).alloc (Nat.le_refl _) _
      have HV223 := Lib.hid (HV177.out.below hbl222)
      have HG224 := Lib.hid (HG178.out.trans (Gr.of_below hbl222))
      have HL225 : Hid (Loc (w.heap.size + 1) W170.heap.size u169 W219) := Lib.hid (by rw [hE220]; exact Loc.new HV177.out _)
      have HB226 : Hid (∀ j (h : j < [.int .i64 y181.id, .string (strL y181.name), .slice A197 n198 cap199, .slice A205 n206 cap207, .string (strL y181.restr)].length), W219.cell? ⟨W170.heap.size, j, none⟩ = some ([.int .i64 y181.id, .string (strL y181.name), .slice A197 n198 cap199, .slice A205 n206 cap207, .string (strL y181.restr)][j]'h)) := Lib.hid (by rw [hE220]; intro j h; rw [World.cell?_alloc_new, List.getElem?_toArray]; exact List.getElem?_eq_getElem h)
      have HL227 : Hid (Loc (w.heap.size + 1) w.heap.size u169 W219) := Lib.hid ((Gr.of_below (X := (w.heap.size + 1)) (v := u169) hbl222).loc HL179.out).1
      have HB228 := Lib.hid (fun j (h : j < [.slice A37 n38 cap39, .slice A45 n46 cap47, .slice A53 n54 cap55, .slice (some ⟨eb182, eo183, none⟩) n62 cap63, .slice A69 n70 cap71, .slice A77 n78 cap79, .slice A85 n86 cap87, .slice A93 n94 cap95, .int .i64 x.maxBatch, .int .i64 x.budget].length) => (((Gr.of_below (X := (w.heap.size + 1)) (v := u169) hbl222).loc HL179.out).2 j).trans (HB180.out j h))
      have HE221 := Lib.hid hE220
      clear hE220 hbl222
      have HBn229 := Lib.hid hb218
      clear hb218
      go_wp2_with fail
      rw [← HE221.out]
      refine (rwaction_any y181 [.int .i64 y181.id, .string (strL y181.name), .slice A197 n198 cap199, .slice A205 n206 cap207, .string (strL y181.restr)] (kept_action _ _ _ _ _ (HG224.out.below HW.out hC) ⟨_, _, rfl, q192, q193, HR204.out, HR212.out, q196⟩) hC HV223.out HBn229.out).mono ?_
      rintro e w230 ⟨rfl, u231, hv232, hg233⟩
      have HV234 := Lib.hid hv232
      have HG235 := Lib.hid (HG224.out.trans hg233)
      obtain ⟨l236, c237⟩ := hg233.loc HL227.out
      have HL238 := Lib.hid l236
      have HB239 := Lib.hid (fun j (h : j < [.slice A37 n38 cap39, .slice A45 n46 cap47, .slice A53 n54 cap55, .slice (some ⟨eb182, eo183, none⟩) n62 cap63, .slice A69 n70 cap71, .slice A77 n78 cap79, .slice A85 n86 cap87, .slice A93 n94 cap95, .int .i64 x.maxBatch, .int .i64 x.budget].length) => (c237 j).trans (HB228.out j h))
      clear l236 c237
      obtain ⟨l240, c241⟩ := hg233.loc HL225.out
      have HL242 := Lib.hid l240
      have HB243 := Lib.hid (fun j (h : j < [.int .i64 y181.id, .string (strL y181.name), .slice A197 n198 cap199, .slice A205 n206 cap207, .string (strL y181.restr)].length) => (c241 j).trans (HB226.out j h))
      clear l240 c241
      clear hv232 hg233
      clear d213 d214 d215 d216 d217
      go_wp2_with fail
      go_roundw
      case rel => exact ⟨q168 + 1, by omega, by simp, u231, by rw [HX187.out]; exact HV234.out, HG235.out, HL238.out, HB239.out⟩
      case measure => simp [intOf]; omega
    · obtain rfl : n62 = q168 := by omega
      have HV244 : Hid (WrAt (w.heap.size + 1) (w.heap.size + 2) W170 (rList 12 (eAction wayR) x.actions (ePacket wayR x (wNum 2 x.budget (wNum 2 x.maxBatch (ws0))))) u169) := Lib.hid (by rw [rList_run, ← HN64.out]; exact HV177.out)
      have d245 : W170.cell? ⟨w.heap.size, 4, none⟩ = some (.slice A69 n70 cap71) := HB180.out 4 (by simp)
      go_wp2_with fail
      refine (rwcount_any n70 8 (by omega) HV244.out (by have := HB108.out; omega)).mono ?_
      rintro e w246 ⟨rfl, u247, hv248, hg249⟩
      have HV250 := Lib.hid hv248
      have HG251 := Lib.hid (HG178.out.trans hg249)
      obtain ⟨l252, c253⟩ := hg249.loc HL179.out
      have HL254 := Lib.hid l252
      have HB255 := Lib.hid (fun j (h : j < [.slice A37 n38 cap39, .slice A45 n46 cap47, .slice A53 n54 cap55, .slice A61 n62 cap63, .slice A69 n70 cap71, .slice A77 n78 cap79, .slice A85 n86 cap87, .slice A93 n94 cap95, .int .i64 x.maxBatch, .int .i64 x.budget].length) => (c253 j).trans (HB180.out j h))
      clear l252 c253
      clear hv248 hg249
      clear d245
      have d256 : w246.cell? ⟨w.heap.size, 4, none⟩ = some (.slice A69 n70 cap71) := HB255.out 4 (by simp)
      go_wp2_with fail
      clear d256
      have hb257 : ∀ q, q ≤ n70 → (runL (eTable wayR) x.tables (rCount n70 8 (rList 12 (eAction wayR) x.actions (ePacket wayR x (wNum 2 x.budget (wNum 2 x.maxBatch (ws0)))))) q).l.length ≤ 3800000 := fun q hq => runL_bound up_table hq (by have h := HB109.out; rw [rList_run, ← HN72.out] at h; exact h)
      have HBq258 := Lib.hid hb257
      clear hb257
      have h0n70 : 0 ≤ (n70 : Int) := by omega
      go_loopw [52] (fun i W => ∃ q : Nat, q ≤ n70 ∧ i = .int .i64 q ∧ ∃ u, WrAt (w.heap.size + 1) (w.heap.size + 2) W (runL (eTable wayR) x.tables (rCount n70 8 (rList 12 (eAction wayR) x.actions (ePacket wayR x (wNum 2 x.budget (wNum 2 x.maxBatch (ws0)))))) q) u ∧ Gr (w.heap.size + 1) (.slice none 0 0) wa u W ∧ Loc (w.heap.size + 1) w.heap.size u W ∧ (∀ j (h : j < [.slice A37 n38 cap39, .slice A45 n46 cap47, .slice A53 n54 cap55, .slice A61 n62 cap63, .slice A69 n70 cap71, .slice A77 n78 cap79, .slice A85 n86 cap87, .slice A93 n94 cap95, .int .i64 x.maxBatch, .int .i64 x.budget].length), W.cell? ⟨w.heap.size, j, none⟩ = some ([.slice A37 n38 cap39, .slice A45 n46 cap47, .slice A53 n54 cap55, .slice A61 n62 cap63, .slice A69 n70 cap71, .slice A77 n78 cap79, .slice A85 n86 cap87, .slice A93 n94 cap95, .int .i64 x.maxBatch, .int .i64 x.budget][j]'h))) (fun i _ => n70 - (intOf i).toNat)
      case atStart => exact ⟨0, by omega, rfl, u247, HV250.out, HG251.out, HL254.out, HB255.out⟩
      case round =>
        obtain ⟨W261, hw262⟩ : ∃ x, x = wr := ⟨wr, rfl⟩
        subst hw262
        obtain ⟨q259, hq265, rfl, u260, hV266, hG267, l263, b264⟩ := hrel
        have HV268 := Lib.hid hV266
        have HG269 := Lib.hid hG267
        clear hV266 hG267
        have HL270 := Lib.hid l263
        have HB271 := Lib.hid b264
        clear l263 b264
        by_cases hqnq259 : q259 < n70
        · have hqiq259 : (q259 : Int) < (n70 : Int) := by omega
          have hq0q259 : 0 ≤ (q259 : Int) := by omega
          obtain ⟨eb273, eo274, ar279, y272, hx275, hL276⟩ := row_at HR76.out (q := q259) (by have := HN72.out; omega)
          subst ar279
          obtain ⟨hlt280, _, hc277, ⟨sv281, sv282, sv283, rfl, q284, q285, q286, q287, q288, q289, q290, q291⟩⟩ := hL276
          have hr296 := q286
          obtain ⟨A292, n293, cap294, rfl, HN295, nc297, cm298, _⟩ := q286
          unfold maxLen at cm298
          have HR299 := Lib.hid hr296
          clear hr296
          have hr304 := q287
          obtain ⟨A300, n301, cap302, rfl, HN303, nc305, cm306, _⟩ := q287
          unfold maxLen at cm306
          have HR307 := Lib.hid hr304
          clear hr304
          have hr312 := q289
          obtain ⟨A308, n309, cap310, rfl, HN311, nc313, cm314, _⟩ := q289
          unfold maxLen at cm314
          have HR315 := Lib.hid hr312
          clear hr312
          have d316 : W261.cell? ⟨eb273, eo274 + q259 * 8, none⟩ = some (.int .i64 y272.id) := ((HG269.out.below HW.out hC).cell (p := ⟨eb273, eo274 + q259 * 8, none⟩) hlt280).trans (hc277 0 (by simp))
          have d317 : W261.cell? ⟨eb273, eo274 + q259 * 8 + 1, none⟩ = some (.string (strL y272.name)) := ((HG269.out.below HW.out hC).cell (p := ⟨eb273, eo274 + q259 * 8 + 1, none⟩) hlt280).trans (hc277 1 (by simp))
          have d318 : W261.cell? ⟨eb273, eo274 + q259 * 8 + 2, none⟩ = some (.slice A292 n293 cap294) := ((HG269.out.below HW.out hC).cell (p := ⟨eb273, eo274 + q259 * 8 + 2, none⟩) hlt280).trans (hc277 2 (by simp))
          have d319 : W261.cell? ⟨eb273, eo274 + q259 * 8 + 3, none⟩ = some (.slice A300 n301 cap302) := ((HG269.out.below HW.out hC).cell (p := ⟨eb273, eo274 + q259 * 8 + 3, none⟩) hlt280).trans (hc277 3 (by simp))
          have d320 : W261.cell? ⟨eb273, eo274 + q259 * 8 + 4, none⟩ = some (.int .i64 y272.dflt) := ((HG269.out.below HW.out hC).cell (p := ⟨eb273, eo274 + q259 * 8 + 4, none⟩) hlt280).trans (hc277 4 (by simp))
          have d321 : W261.cell? ⟨eb273, eo274 + q259 * 8 + 5, none⟩ = some (.slice A308 n309 cap310) := ((HG269.out.below HW.out hC).cell (p := ⟨eb273, eo274 + q259 * 8 + 5, none⟩) hlt280).trans (hc277 5 (by simp))
          have d322 : W261.cell? ⟨eb273, eo274 + q259 * 8 + 6, none⟩ = some (.int .i64 y272.size) := ((HG269.out.below HW.out hC).cell (p := ⟨eb273, eo274 + q259 * 8 + 6, none⟩) hlt280).trans (hc277 6 (by simp))
          have d323 : W261.cell? ⟨eb273, eo274 + q259 * 8 + 7, none⟩ = some (.string (strL y272.restr)) := ((HG269.out.below HW.out hC).cell (p := ⟨eb273, eo274 + q259 * 8 + 7, none⟩) hlt280).trans (hc277 7 (by simp))
          have HX278 := Lib.hid (runL_succ (eTable wayR) (rCount n70 8 (rList 12 (eAction wayR) x.actions (ePacket wayR x (wNum 2 x.budget (wNum 2 x.maxBatch (ws0)))))) hx275)
          clear hc277 hx275
          have hb324 := HBq258.out (q259 + 1) (by omega)
          rw [HX278.out] at hb324
          obtain ⟨W325, hE326⟩ : ∃ W2, W2 = W261.alloc (.cells #[.int .i64 y272.id, .string (strL y272.name), .slice A292 n293 cap294, .slice A300 n301 cap302, .int .i64 y272.dflt, .slice A308 n309 cap310, .int .i64 y272.size, .string (strL y272.restr)] 53) := ⟨_, rfl⟩
          have hbl328 : Below W261.heap.size W261 W325 := by rw [hE326]; exact (Below.refl _ _).alloc (Nat.le_refl _) _
          have HV329 := Lib.hid (HV268.out.below hbl328)
          have HG330 := Lib.hid (HG269.out.trans (Gr.of_below hbl328))
          have HL331 : Hid (Loc (w.heap.size + 1) W261.heap.size u260 W325) := Lib.hid (by rw [hE326]; exact Loc.new HV268.out _)
          have HB332 : Hid (∀ j (h : j < [.int .i64 y272.id, .string (strL y272.name), .slice A292 n293 cap294, .slice A300 n301 cap302, .int .i64 y272.dflt, .slice A308 n309 cap310, .int .i64 y272.size, .string (strL y272.restr)].length), W325.cell? ⟨W261.heap.size, j, none⟩ = some ([.int .i64 y272.id, .string (strL y272.name), .slice A292 n293 cap294, .slice A300 n301 cap302, .int .i64 y272.dflt, .slice A308 n309 cap310, .int .i64 y272.size, .string (strL y272.restr)][j]'h)) := Lib.hid (by rw [hE326]; intro j h; rw [World.cell?_alloc_new, List.getElem?_toArray]; exact List.getElem?_eq_getElem h)
          have HL333 : Hid (Loc (w.heap.size + 1) w.heap.size u260 W325) := Lib.hid ((Gr.of_below (X := (w.heap.size + 1)) (v := u260) hbl328).loc HL270.out).1
          have HB334 := Lib.hid (fun j (h : j < [.slice A37 n38 cap39, .slice A45 n46 cap47, .slice A53 n54 cap55, .slice A61 n62 cap63, .slice (some ⟨eb273, eo274, none⟩) n70 cap71, .slice A77 n78 cap79, .slice A85 n86 cap87, .slice A93 n94 cap95, .int .i64 x.maxBatch, .int .i64 x.budget].length) => (((Gr.of_below (X := (w.heap.size + 1)) (v := u260) hbl328).loc HL270.out).2 j).trans (HB271.out j h))
          have HE327 := Lib.hid hE326
          clear hE326 hbl328
          have HBn335 := Lib.hid hb324
          clear hb324
          go_wp2_with fail
          rw [← HE327.out]
          refine (rwtable_any y272 [.int .i64 y272.id, .string (strL y272.name), .slice A292 n293 cap294, .slice A300 n301 cap302, .int .i64 y272.dflt, .slice A308 n309 cap310, .int .i64 y272.size, .string (strL y272.restr)] (kept_table _ _ _ _ _ (HG330.out.below HW.out hC) ⟨_, _, _, rfl, q284, q285, HR299.out, HR307.out, q288, HR315.out, q290, q291⟩) hC HV329.out HBn335.out).mono ?_
          rintro e w336 ⟨rfl, u337, hv338, hg339⟩
          have HV340 := Lib.hid hv338
          have HG341 := Lib.hid (HG330.out.trans hg339)
          obtain ⟨l342, c343⟩ := hg339.loc HL333.out
          have HL344 := Lib.hid l342
          have HB345 := Lib.hid (fun j (h : j < [.slice A37 n38 cap39, .slice A45 n46 cap47, .slice A53 n54 cap55, .slice A61 n62 cap63, .slice (some ⟨eb273, eo274, none⟩) n70 cap71, .slice A77 n78 cap79, .slice A85 n86 cap87, .slice A93 n94 cap95, .int .i64 x.maxBatch, .int .i64 x.budget].length) => (c343 j).trans (HB334.out j h))
          clear l342 c343
          obtain ⟨l346, c347⟩ := hg339.loc HL331.out
          have HL348 := Lib.hid l346
          have HB349 := Lib.hid (fun j (h : j < [.int .i64 y272.id, .string (strL y272.name), .slice A292 n293 cap294, .slice A300 n301 cap302, .int .i64 y272.dflt, .slice A308 n309 cap310, .int .i64 y272.size, .string (strL y272.restr)].length) => (c347 j).trans (HB332.out j h))
          clear l346 c347
          clear hv338 hg339
          clear d316 d317 d318 d319 d320 d321 d322 d323
          go_wp2_with fail
          go_roundw
          case rel => exact ⟨q259 + 1, by omega, by simp, u337, by rw [HX278.out]; exact HV340.out, HG341.out, HL344.out, HB345.out⟩
          case measure => simp [intOf]; omega
        · obtain rfl : n70 = q259 := by omega
          have HV350 : Hid (WrAt (w.heap.size + 1) (w.heap.size + 2) W261 (rList 8 (eTable wayR) x.tables (rList 12 (eAction wayR) x.actions (ePacket wayR x (wNum 2 x.budget (wNum 2 x.maxBatch (ws0)))))) u260) := Lib.hid (by rw [rList_run, ← HN72.out]; exact HV268.out)
          have d351 : W261.cell? ⟨w.heap.size, 5, none⟩ = some (.slice A77 n78 cap79) := HB271.out 5 (by simp)
          go_wp2_with fail
          refine (rwcount_any n78 12 (by omega) HV350.out (by have := HB109.out; omega)).mono ?_
          rintro e w352 ⟨rfl, u353, hv354, hg355⟩
          have HV356 := Lib.hid hv354
          have HG357 := Lib.hid (HG269.out.trans hg355)
          obtain ⟨l358, c359⟩ := hg355.loc HL270.out
          have HL360 := Lib.hid l358
          have HB361 := Lib.hid (fun j (h : j < [.slice A37 n38 cap39, .slice A45 n46 cap47, .slice A53 n54 cap55, .slice A61 n62 cap63, .slice A69 n70 cap71, .slice A77 n78 cap79, .slice A85 n86 cap87, .slice A93 n94 cap95, .int .i64 x.maxBatch, .int .i64 x.budget].length) => (c359 j).trans (HB271.out j h))
          clear l358 c359
          clear hv354 hg355
          clear d351
          have d362 : w352.cell? ⟨w.heap.size, 5, none⟩ = some (.slice A77 n78 cap79) := HB361.out 5 (by simp)
          go_wp2_with fail
          clear d362
          have hb363 : ∀ q, q ≤ n78 → (runL eStage x.stages (rCount n78 12 (rList 8 (eTable wayR) x.tables (rList 12 (eAction wayR) x.actions (ePacket wayR x (wNum 2 x.budget (wNum 2 x.maxBatch (ws0))))))) q).l.length ≤ 3800000 := fun q hq => runL_bound up_stage hq (by have h := HB110.out; rw [rList_run, ← HN80.out] at h; exact h)
          have HBq364 := Lib.hid hb363
          clear hb363
          have h0n78 : 0 ≤ (n78 : Int) := by omega
          go_loopw [68] (fun i W => ∃ q : Nat, q ≤ n78 ∧ i = .int .i64 q ∧ ∃ u, WrAt (w.heap.size + 1) (w.heap.size + 2) W (runL eStage x.stages (rCount n78 12 (rList 8 (eTable wayR) x.tables (rList 12 (eAction wayR) x.actions (ePacket wayR x (wNum 2 x.budget (wNum 2 x.maxBatch (ws0))))))) q) u ∧ Gr (w.heap.size + 1) (.slice none 0 0) wa u W ∧ Loc (w.heap.size + 1) w.heap.size u W ∧ (∀ j (h : j < [.slice A37 n38 cap39, .slice A45 n46 cap47, .slice A53 n54 cap55, .slice A61 n62 cap63, .slice A69 n70 cap71, .slice A77 n78 cap79, .slice A85 n86 cap87, .slice A93 n94 cap95, .int .i64 x.maxBatch, .int .i64 x.budget].length), W.cell? ⟨w.heap.size, j, none⟩ = some ([.slice A37 n38 cap39, .slice A45 n46 cap47, .slice A53 n54 cap55, .slice A61 n62 cap63, .slice A69 n70 cap71, .slice A77 n78 cap79, .slice A85 n86 cap87, .slice A93 n94 cap95, .int .i64 x.maxBatch, .int .i64 x.budget][j]'h))) (fun i _ => n78 - (intOf i).toNat)
          case atStart => exact ⟨0, by omega, rfl, u353, HV356.out, HG357.out, HL360.out, HB361.out⟩
          case round =>
            obtain ⟨W367, hw368⟩ : ∃ x, x = wr := ⟨wr, rfl⟩
            subst hw368
            obtain ⟨q365, hq371, rfl, u366, hV372, hG373, l369, b370⟩ := hrel
            have HV374 := Lib.hid hV372
            have HG375 := Lib.hid hG373
            clear hV372 hG373
            have HL376 := Lib.hid l369
            have HB377 := Lib.hid b370
            clear l369 b370
            by_cases hqnq365 : q365 < n78
            · have hqiq365 : (q365 : Int) < (n78 : Int) := by omega
              have hq0q365 : 0 ≤ (q365 : Int) := by omega
              obtain ⟨eb379, eo380, ar385, y378, hx381, hL382⟩ := row_at HR84.out (q := q365) (by have := HN80.out; omega)
              subst ar385
              obtain ⟨hlt386, _, hc383, ⟨rfl, q387, q388⟩⟩ := hL382
              have d389 : W367.cell? ⟨eb379, eo380 + q365 * 2, none⟩ = some (.int .i64 y378.table) := ((HG375.out.below HW.out hC).cell (p := ⟨eb379, eo380 + q365 * 2, none⟩) hlt386).trans (hc383 0 (by simp))
              have d390 : W367.cell? ⟨eb379, eo380 + q365 * 2 + 1, none⟩ = some (.int .i64 y378.header) := ((HG375.out.below HW.out hC).cell (p := ⟨eb379, eo380 + q365 * 2 + 1, none⟩) hlt386).trans (hc383 1 (by simp))
              have HX384 := Lib.hid (runL_succ eStage (rCount n78 12 (rList 8 (eTable wayR) x.tables (rList 12 (eAction wayR) x.actions (ePacket wayR x (wNum 2 x.budget (wNum 2 x.maxBatch (ws0))))))) hx381)
              clear hc383 hx381
              have hb391 := HBq364.out (q365 + 1) (by omega)
              rw [HX384.out] at hb391
              obtain ⟨W392, hE393⟩ : ∃ W2, W2 = W367.alloc (.cells #[.int .i64 y378.table, .int .i64 y378.header] 48) := ⟨_, rfl⟩
              have hbl395 : Below W367.heap.size W367 W392 := by rw [hE393]; exact (Below.refl _ _).alloc (Nat.le_refl _) _
              have HV396 := Lib.hid (HV374.out.below hbl395)
              have HG397 := Lib.hid (HG375.out.trans (Gr.of_below hbl395))
              have HL398 : Hid (Loc (w.heap.size + 1) W367.heap.size u366 W392) := Lib.hid (by rw [hE393]; exact Loc.new HV374.out _)
              have HB399 : Hid (∀ j (h : j < [.int .i64 y378.table, .int .i64 y378.header].length), W392.cell? ⟨W367.heap.size, j, none⟩ = some ([.int .i64 y378.table, .int .i64 y378.header][j]'h)) := Lib.hid (by rw [hE393]; intro j h; rw [World.cell?_alloc_new, List.getElem?_toArray]; exact List.getElem?_eq_getElem h)
              have HL400 : Hid (Loc (w.heap.size + 1) w.heap.size u366 W392) := Lib.hid ((Gr.of_below (X := (w.heap.size + 1)) (v := u366) hbl395).loc HL376.out).1
              have HB401 := Lib.hid (fun j (h : j < [.slice A37 n38 cap39, .slice A45 n46 cap47, .slice A53 n54 cap55, .slice A61 n62 cap63, .slice A69 n70 cap71, .slice (some ⟨eb379, eo380, none⟩) n78 cap79, .slice A85 n86 cap87, .slice A93 n94 cap95, .int .i64 x.maxBatch, .int .i64 x.budget].length) => (((Gr.of_below (X := (w.heap.size + 1)) (v := u366) hbl395).loc HL376.out).2 j).trans (HB377.out j h))
              have HE394 := Lib.hid hE393
              clear hE393 hbl395
              have Hb402 : (wNum 2 y378.header (wNum 2 y378.table (runL eStage x.stages (rCount n78 12 (rList 8 (eTable wayR) x.tables (rList 12 (eAction wayR) x.actions (ePacket wayR x (wNum 2 x.budget (wNum 2 x.maxBatch (ws0))))))) q365))).l.length ≤ 3800000 := hb391
              have Hb403 : (wNum 2 y378.table (runL eStage x.stages (rCount n78 12 (rList 8 (eTable wayR) x.tables (rList 12 (eAction wayR) x.actions (ePacket wayR x (wNum 2 x.budget (wNum 2 x.maxBatch (ws0))))))) q365)).l.length ≤ 3800000 := Nat.le_trans ((up_num 2 y378.header) (wNum 2 y378.table (runL eStage x.stages (rCount n78 12 (rList 8 (eTable wayR) x.tables (rList 12 (eAction wayR) x.actions (ePacket wayR x (wNum 2 x.budget (wNum 2 x.maxBatch (ws0))))))) q365))) Hb402
              have Hb404 : (runL eStage x.stages (rCount n78 12 (rList 8 (eTable wayR) x.tables (rList 12 (eAction wayR) x.actions (ePacket wayR x (wNum 2 x.budget (wNum 2 x.maxBatch (ws0))))))) q365).l.length ≤ 3800000 := Nat.le_trans ((up_num 2 y378.table) (runL eStage x.stages (rCount n78 12 (rList 8 (eTable wayR) x.tables (rList 12 (eAction wayR) x.actions (ePacket wayR x (wNum 2 x.budget (wNum 2 x.maxBatch (ws0))))))) q365)) Hb403
              have HB405 := Lib.hid Hb404
              have HB406 := Lib.hid Hb403
              have HB407 := Lib.hid Hb402
              clear Hb404 Hb403 Hb402
              clear hb391
              go_wp2_with fail
              rw [← HE394.out]
              refine (rwnum_any 2 (.inr rfl) y378.table q387 HV396.out (by have := HB405.out; omega)).mono ?_
              rintro e w408 ⟨rfl, u409, hv410, hg411⟩
              have HV412 := Lib.hid hv410
              have HG413 := Lib.hid (HG397.out.trans hg411)
              obtain ⟨l414, c415⟩ := hg411.loc HL400.out
              have HL416 := Lib.hid l414
              have HB417 := Lib.hid (fun j (h : j < [.slice A37 n38 cap39, .slice A45 n46 cap47, .slice A53 n54 cap55, .slice A61 n62 cap63, .slice A69 n70 cap71, .slice (some ⟨eb379, eo380, none⟩) n78 cap79, .slice A85 n86 cap87, .slice A93 n94 cap95, .int .i64 x.maxBatch, .int .i64 x.budget].length) => (c415 j).trans (HB401.out j h))
              clear l414 c415
              obtain ⟨l418, c419⟩ := hg411.loc HL398.out
              have HL420 := Lib.hid l418
              have HB421 := Lib.hid (fun j (h : j < [.int .i64 y378.table, .int .i64 y378.header].length) => (c419 j).trans (HB399.out j h))
              clear l418 c419
              clear hv410 hg411
              have d422 : w408.cell? ⟨W367.heap.size, 1, none⟩ = some (.int .i64 y378.header) := HB421.out 1 (by simp)
              go_wp2_with fail
              refine (rwnum_any 2 (.inr rfl) y378.header q388 HV412.out (by have := HB406.out; omega)).mono ?_
              rintro e w423 ⟨rfl, u424, hv425, hg426⟩
              have HV427 := Lib.hid hv425
              have HG428 := Lib.hid (HG413.out.trans hg426)
              obtain ⟨l429, c430⟩ := hg426.loc HL416.out
              have HL431 := Lib.hid l429
              have HB432 := Lib.hid (fun j (h : j < [.slice A37 n38 cap39, .slice A45 n46 cap47, .slice A53 n54 cap55, .slice A61 n62 cap63, .slice A69 n70 cap71, .slice (some ⟨eb379, eo380, none⟩) n78 cap79, .slice A85 n86 cap87, .slice A93 n94 cap95, .int .i64 x.maxBatch, .int .i64 x.budget].length) => (c430 j).trans (HB417.out j h))
              clear l429 c430
              obtain ⟨l433, c434⟩ := hg426.loc HL420.out
              have HL435 := Lib.hid l433
              have HB436 := Lib.hid (fun j (h : j < [.int .i64 y378.table, .int .i64 y378.header].length) => (c434 j).trans (HB421.out j h))
              clear l433 c434
              clear hv425 hg426
              clear d422
              go_wp2_with fail
              go_roundw
              case rel => exact ⟨q365 + 1, by omega, by simp, u424, by rw [HX384.out]; exact HV427.out, HG428.out, HL431.out, HB432.out⟩
              case measure => simp [intOf]; omega
            · obtain rfl : n78 = q365 := by omega
              have HV437 : Hid (WrAt (w.heap.size + 1) (w.heap.size + 2) W367 (rList 12 eStage x.stages (rList 8 (eTable wayR) x.tables (rList 12 (eAction wayR) x.actions (ePacket wayR x (wNum 2 x.budget (wNum 2 x.maxBatch (ws0))))))) u366) := Lib.hid (by rw [rList_run, ← HN80.out]; exact HV374.out)
              have d438 : W367.cell? ⟨w.heap.size, 6, none⟩ = some (.slice A85 n86 cap87) := HB377.out 6 (by simp)
              go_wp2_with fail
              refine (rwcount_any n86 6 (by omega) HV437.out (by have := HB110.out; omega)).mono ?_
              rintro e w439 ⟨rfl, u440, hv441, hg442⟩
              have HV443 := Lib.hid hv441
              have HG444 := Lib.hid (HG375.out.trans hg442)
              obtain ⟨l445, c446⟩ := hg442.loc HL376.out
              have HL447 := Lib.hid l445
              have HB448 := Lib.hid (fun j (h : j < [.slice A37 n38 cap39, .slice A45 n46 cap47, .slice A53 n54 cap55, .slice A61 n62 cap63, .slice A69 n70 cap71, .slice A77 n78 cap79, .slice A85 n86 cap87, .slice A93 n94 cap95, .int .i64 x.maxBatch, .int .i64 x.budget].length) => (c446 j).trans (HB377.out j h))
              clear l445 c446
              clear hv441 hg442
              clear d438
              have d449 : w439.cell? ⟨w.heap.size, 6, none⟩ = some (.slice A85 n86 cap87) := HB448.out 6 (by simp)
              go_wp2_with fail
              clear d449
              have hb450 : ∀ q, q ≤ n86 → (runL (eRole wayR) x.roles (rCount n86 6 (rList 12 eStage x.stages (rList 8 (eTable wayR) x.tables (rList 12 (eAction wayR) x.actions (ePacket wayR x (wNum 2 x.budget (wNum 2 x.maxBatch (ws0)))))))) q).l.length ≤ 3800000 := fun q hq => runL_bound up_role hq (by have h := HB111.out; rw [rList_run, ← HN88.out] at h; exact h)
              have HBq451 := Lib.hid hb450
              clear hb450
              have h0n86 : 0 ≤ (n86 : Int) := by omega
              go_loopw [89] (fun i W => ∃ q : Nat, q ≤ n86 ∧ i = .int .i64 q ∧ ∃ u, WrAt (w.heap.size + 1) (w.heap.size + 2) W (runL (eRole wayR) x.roles (rCount n86 6 (rList 12 eStage x.stages (rList 8 (eTable wayR) x.tables (rList 12 (eAction wayR) x.actions (ePacket wayR x (wNum 2 x.budget (wNum 2 x.maxBatch (ws0)))))))) q) u ∧ Gr (w.heap.size + 1) (.slice none 0 0) wa u W ∧ Loc (w.heap.size + 1) w.heap.size u W ∧ (∀ j (h : j < [.slice A37 n38 cap39, .slice A45 n46 cap47, .slice A53 n54 cap55, .slice A61 n62 cap63, .slice A69 n70 cap71, .slice A77 n78 cap79, .slice A85 n86 cap87, .slice A93 n94 cap95, .int .i64 x.maxBatch, .int .i64 x.budget].length), W.cell? ⟨w.heap.size, j, none⟩ = some ([.slice A37 n38 cap39, .slice A45 n46 cap47, .slice A53 n54 cap55, .slice A61 n62 cap63, .slice A69 n70 cap71, .slice A77 n78 cap79, .slice A85 n86 cap87, .slice A93 n94 cap95, .int .i64 x.maxBatch, .int .i64 x.budget][j]'h))) (fun i _ => n86 - (intOf i).toNat)
              case atStart => exact ⟨0, by omega, rfl, u440, HV443.out, HG444.out, HL447.out, HB448.out⟩
              case round =>
                obtain ⟨W454, hw455⟩ : ∃ x, x = wr := ⟨wr, rfl⟩
                subst hw455
                obtain ⟨q452, hq458, rfl, u453, hV459, hG460, l456, b457⟩ := hrel
                have HV461 := Lib.hid hV459
                have HG462 := Lib.hid hG460
                clear hV459 hG460
                have HL463 := Lib.hid l456
                have HB464 := Lib.hid b457
                clear l456 b457
                by_cases hqnq452 : q452 < n86
                · have hqiq452 : (q452 : Int) < (n86 : Int) := by omega
                  have hq0q452 : 0 ≤ (q452 : Int) := by omega
                  obtain ⟨eb466, eo467, ar472, y465, hx468, hL469⟩ := row_at HR92.out (q := q452) (by have := HN88.out; omega)
                  subst ar472
                  obtain ⟨hlt473, _, hc470, ⟨sv474, sv475, rfl, q476, q477, q478, q479, q480⟩⟩ := hL469
                  have hr485 := q478
                  obtain ⟨A481, n482, cap483, rfl, HN484, nc486, cm487, _⟩ := q478
                  unfold maxLen at cm487
                  have HR488 := Lib.hid hr485
                  clear hr485
                  have hr493 := q479
                  obtain ⟨A489, n490, cap491, rfl, HN492, nc494, cm495, _⟩ := q479
                  unfold maxLen at cm495
                  have HR496 := Lib.hid hr493
                  clear hr493
                  have d497 : W454.cell? ⟨eb466, eo467 + q452 * 6, none⟩ = some (.int .i64 y465.id) := ((HG462.out.below HW.out hC).cell (p := ⟨eb466, eo467 + q452 * 6, none⟩) hlt473).trans (hc470 0 (by simp))
                  have d498 : W454.cell? ⟨eb466, eo467 + q452 * 6 + 1, none⟩ = some (.string (strL y465.name)) := ((HG462.out.below HW.out hC).cell (p := ⟨eb466, eo467 + q452 * 6 + 1, none⟩) hlt473).trans (hc470 1 (by simp))
                  have d499 : W454.cell? ⟨eb466, eo467 + q452 * 6 + 2, none⟩ = some (.slice A481 n482 cap483) := ((HG462.out.below HW.out hC).cell (p := ⟨eb466, eo467 + q452 * 6 + 2, none⟩) hlt473).trans (hc470 2 (by simp))
                  have d500 : W454.cell? ⟨eb466, eo467 + q452 * 6 + 3, none⟩ = some (.slice A489 n490 cap491) := ((HG462.out.below HW.out hC).cell (p := ⟨eb466, eo467 + q452 * 6 + 3, none⟩) hlt473).trans (hc470 3 (by simp))
                  have d501 : W454.cell? ⟨eb466, eo467 + q452 * 6 + 4, none⟩ = some (.int .i64 y465.quota) := ((HG462.out.below HW.out hC).cell (p := ⟨eb466, eo467 + q452 * 6 + 4, none⟩) hlt473).trans (hc470 4 (by simp))
                  have d502 : W454.cell? ⟨eb466, eo467 + q452 * 6 + 5, none⟩ = some (.bool y465.audit) := ((HG462.out.below HW.out hC).cell (p := ⟨eb466, eo467 + q452 * 6 + 5, none⟩) hlt473).trans (hc470 5 (by simp))
                  have HX471 := Lib.hid (runL_succ (eRole wayR) (rCount n86 6 (rList 12 eStage x.stages (rList 8 (eTable wayR) x.tables (rList 12 (eAction wayR) x.actions (ePacket wayR x (wNum 2 x.budget (wNum 2 x.maxBatch (ws0)))))))) hx468)
                  clear hc470 hx468
                  have hb503 := HBq451.out (q452 + 1) (by omega)
                  rw [HX471.out] at hb503
                  obtain ⟨W504, hE505⟩ : ∃ W2, W2 = W454.alloc (.cells #[.int .i64 y465.id, .string (strL y465.name), .slice A481 n482 cap483, .slice A489 n490 cap491, .int .i64 y465.quota, .bool y465.audit] 77) := ⟨_, rfl⟩
                  have hbl507 : Below W454.heap.size W454 W504 := by rw [hE505]; exact (Below.refl _ _).alloc (Nat.le_refl _) _
                  have HV508 := Lib.hid (HV461.out.below hbl507)
                  have HG509 := Lib.hid (HG462.out.trans (Gr.of_below hbl507))
                  have HL510 : Hid (Loc (w.heap.size + 1) W454.heap.size u453 W504) := Lib.hid (by rw [hE505]; exact Loc.new HV461.out _)
                  have HB511 : Hid (∀ j (h : j < [.int .i64 y465.id, .string (strL y465.name), .slice A481 n482 cap483, .slice A489 n490 cap491, .int .i64 y465.quota, .bool y465.audit].length), W504.cell? ⟨W454.heap.size, j, none⟩ = some ([.int .i64 y465.id, .string (strL y465.name), .slice A481 n482 cap483, .slice A489 n490 cap491, .int .i64 y465.quota, .bool y465.audit][j]'h)) := Lib.hid (by rw [hE505]; intro j h; rw [World.cell?_alloc_new, List.getElem?_toArray]; exact List.getElem?_eq_getElem h)
                  have HL512 : Hid (Loc (w.heap.size + 1) w.heap.size u453 W504) := Lib.hid ((Gr.of_below (X := (w.heap.size + 1)) (v := u453) hbl507).loc HL463.out).1
                  have HB513 := Lib.hid (fun j (h : j < [.slice A37 n38 cap39, .slice A45 n46 cap47, .slice A53 n54 cap55, .slice A61 n62 cap63, .slice A69 n70 cap71, .slice A77 n78 cap79, .slice (some ⟨eb466, eo467, none⟩) n86 cap87, .slice A93 n94 cap95, .int .i64 x.maxBatch, .int .i64 x.budget].length) => (((Gr.of_below (X := (w.heap.size + 1)) (v := u453) hbl507).loc HL463.out).2 j).trans (HB464.out j h))
                  have HE506 := Lib.hid hE505
                  clear hE505 hbl507
                  have HBn514 := Lib.hid hb503
                  clear hb503
                  go_wp2_with fail
                  rw [← HE506.out]
                  refine (rwrole_any y465 [.int .i64 y465.id, .string (strL y465.name), .slice A481 n482 cap483, .slice A489 n490 cap491, .int .i64 y465.quota, .bool y465.audit] (kept_role _ _ _ _ _ (HG509.out.below HW.out hC) ⟨_, _, rfl, q476, q477, HR488.out, HR496.out, q480⟩) hC HV508.out HBn514.out).mono ?_
                  rintro e w515 ⟨rfl, u516, hv517, hg518⟩
                  have HV519 := Lib.hid hv517
                  have HG520 := Lib.hid (HG509.out.trans hg518)
                  obtain ⟨l521, c522⟩ := hg518.loc HL512.out
                  have HL523 := Lib.hid l521
                  have HB524 := Lib.hid (fun j (h : j < [.slice A37 n38 cap39, .slice A45 n46 cap47, .slice A53 n54 cap55, .slice A61 n62 cap63, .slice A69 n70 cap71, .slice A77 n78 cap79, .slice (some ⟨eb466, eo467, none⟩) n86 cap87, .slice A93 n94 cap95, .int .i64 x.maxBatch, .int .i64 x.budget].length) => (c522 j).trans (HB513.out j h))
                  clear l521 c522
                  obtain ⟨l525, c526⟩ := hg518.loc HL510.out
                  have HL527 := Lib.hid l525
                  have HB528 := Lib.hid (fun j (h : j < [.int .i64 y465.id, .string (strL y465.name), .slice A481 n482 cap483, .slice A489 n490 cap491, .int .i64 y465.quota, .bool y465.audit].length) => (c526 j).trans (HB511.out j h))
                  clear l525 c526
                  clear hv517 hg518
                  clear d497 d498 d499 d500 d501 d502
                  go_wp2_with fail
                  go_roundw
                  case rel => exact ⟨q452 + 1, by omega, by simp, u516, by rw [HX471.out]; exact HV519.out, HG520.out, HL523.out, HB524.out⟩
                  case measure => simp [intOf]; omega
                · obtain rfl : n86 = q452 := by omega
                  have HV529 : Hid (WrAt (w.heap.size + 1) (w.heap.size + 2) W454 (rList 6 (eRole wayR) x.roles (rList 12 eStage x.stages (rList 8 (eTable wayR) x.tables (rList 12 (eAction wayR) x.actions (ePacket wayR x (wNum 2 x.budget (wNum 2 x.maxBatch (ws0)))))))) u453) := Lib.hid (by rw [rList_run, ← HN88.out]; exact HV461.out)
                  have d530 : W454.cell? ⟨w.heap.size, 7, none⟩ = some (.slice A93 n94 cap95) := HB464.out 7 (by simp)
                  go_wp2_with fail
                  refine (rwcount_any n94 8 (by omega) HV529.out (by have := HB111.out; omega)).mono ?_
                  rintro e w531 ⟨rfl, u532, hv533, hg534⟩
                  have HV535 := Lib.hid hv533
                  have HG536 := Lib.hid (HG462.out.trans hg534)
                  obtain ⟨l537, c538⟩ := hg534.loc HL463.out
                  have HL539 := Lib.hid l537
                  have HB540 := Lib.hid (fun j (h : j < [.slice A37 n38 cap39, .slice A45 n46 cap47, .slice A53 n54 cap55, .slice A61 n62 cap63, .slice A69 n70 cap71, .slice A77 n78 cap79, .slice A85 n86 cap87, .slice A93 n94 cap95, .int .i64 x.maxBatch, .int .i64 x.budget].length) => (c538 j).trans (HB464.out j h))
                  clear l537 c538
                  clear hv533 hg534
                  clear d530
                  have d541 : w531.cell? ⟨w.heap.size, 7, none⟩ = some (.slice A93 n94 cap95) := HB540.out 7 (by simp)
                  go_wp2_with fail
                  clear d541
                  have hb542 : ∀ q, q ≤ n94 → (runL eRef x.refs (rCount n94 8 (rList 6 (eRole wayR) x.roles (rList 12 eStage x.stages (rList 8 (eTable wayR) x.tables (rList 12 (eAction wayR) x.actions (ePacket wayR x (wNum 2 x.budget (wNum 2 x.maxBatch (ws0))))))))) q).l.length ≤ 3800000 := fun q hq => runL_bound up_ref hq (by have h := HB112.out; rw [rList_run, ← HN96.out] at h; exact h)
                  have HBq543 := Lib.hid hb542
                  clear hb542
                  have h0n94 : 0 ≤ (n94 : Int) := by omega
                  go_loopw [105] (fun i W => ∃ q : Nat, q ≤ n94 ∧ i = .int .i64 q ∧ ∃ u, WrAt (w.heap.size + 1) (w.heap.size + 2) W (runL eRef x.refs (rCount n94 8 (rList 6 (eRole wayR) x.roles (rList 12 eStage x.stages (rList 8 (eTable wayR) x.tables (rList 12 (eAction wayR) x.actions (ePacket wayR x (wNum 2 x.budget (wNum 2 x.maxBatch (ws0))))))))) q) u ∧ Gr (w.heap.size + 1) (.slice none 0 0) wa u W ∧ Loc (w.heap.size + 1) w.heap.size u W ∧ (∀ j (h : j < [.slice A37 n38 cap39, .slice A45 n46 cap47, .slice A53 n54 cap55, .slice A61 n62 cap63, .slice A69 n70 cap71, .slice A77 n78 cap79, .slice A85 n86 cap87, .slice A93 n94 cap95, .int .i64 x.maxBatch, .int .i64 x.budget].length), W.cell? ⟨w.heap.size, j, none⟩ = some ([.slice A37 n38 cap39, .slice A45 n46 cap47, .slice A53 n54 cap55, .slice A61 n62 cap63, .slice A69 n70 cap71, .slice A77 n78 cap79, .slice A85 n86 cap87, .slice A93 n94 cap95, .int .i64 x.maxBatch, .int .i64 x.budget][j]'h))) (fun i _ => n94 - (intOf i).toNat)
                  case atStart => exact ⟨0, by omega, rfl, u532, HV535.out, HG536.out, HL539.out, HB540.out⟩
                  case round =>
                    obtain ⟨W546, hw547⟩ : ∃ x, x = wr := ⟨wr, rfl⟩
                    subst hw547
                    obtain ⟨q544, hq550, rfl, u545, hV551, hG552, l548, b549⟩ := hrel
                    have HV553 := Lib.hid hV551
                    have HG554 := Lib.hid hG552
                    clear hV551 hG552
                    have HL555 := Lib.hid l548
                    have HB556 := Lib.hid b549
                    clear l548 b549
                    by_cases hqnq544 : q544 < n94
                    · have hqiq544 : (q544 : Int) < (n94 : Int) := by omega
                      have hq0q544 : 0 ≤ (q544 : Int) := by omega
                      obtain ⟨eb558, eo559, ar564, y557, hx560, hL561⟩ := row_at HR100.out (q := q544) (by have := HN96.out; omega)
                      subst ar564
                      obtain ⟨hlt565, _, hc562, ⟨rfl, q566, q567, q568, q569, q570, q571⟩⟩ := hL561
                      have d572 : W546.cell? ⟨eb558, eo559 + q544 * 6, none⟩ = some (.int .i64 y557.table) := ((HG554.out.below HW.out hC).cell (p := ⟨eb558, eo559 + q544 * 6, none⟩) hlt565).trans (hc562 0 (by simp))
                      have d573 : W546.cell? ⟨eb558, eo559 + q544 * 6 + 1, none⟩ = some (.int .i64 y557.key) := ((HG554.out.below HW.out hC).cell (p := ⟨eb558, eo559 + q544 * 6 + 1, none⟩) hlt565).trans (hc562 1 (by simp))
                      have d574 : W546.cell? ⟨eb558, eo559 + q544 * 6 + 2, none⟩ = some (.int .i64 y557.action) := ((HG554.out.below HW.out hC).cell (p := ⟨eb558, eo559 + q544 * 6 + 2, none⟩) hlt565).trans (hc562 2 (by simp))
                      have d575 : W546.cell? ⟨eb558, eo559 + q544 * 6 + 3, none⟩ = some (.int .i64 y557.param) := ((HG554.out.below HW.out hC).cell (p := ⟨eb558, eo559 + q544 * 6 + 3, none⟩) hlt565).trans (hc562 3 (by simp))
                      have d576 : W546.cell? ⟨eb558, eo559 + q544 * 6 + 4, none⟩ = some (.int .i64 y557.toTable) := ((HG554.out.below HW.out hC).cell (p := ⟨eb558, eo559 + q544 * 6 + 4, none⟩) hlt565).trans (hc562 4 (by simp))
                      have d577 : W546.cell? ⟨eb558, eo559 + q544 * 6 + 5, none⟩ = some (.int .i64 y557.toKey) := ((HG554.out.below HW.out hC).cell (p := ⟨eb558, eo559 + q544 * 6 + 5, none⟩) hlt565).trans (hc562 5 (by simp))
                      have HX563 := Lib.hid (runL_succ eRef (rCount n94 8 (rList 6 (eRole wayR) x.roles (rList 12 eStage x.stages (rList 8 (eTable wayR) x.tables (rList 12 (eAction wayR) x.actions (ePacket wayR x (wNum 2 x.budget (wNum 2 x.maxBatch (ws0))))))))) hx560)
                      clear hc562 hx560
                      have hb578 := HBq543.out (q544 + 1) (by omega)
                      rw [HX563.out] at hb578
                      obtain ⟨W579, hE580⟩ : ∃ W2, W2 = W546.alloc (.cells #[.int .i64 y557.table, .int .i64 y557.key, .int .i64 y557.action, .int .i64 y557.param, .int .i64 y557.toTable, .int .i64 y557.toKey] 72) := ⟨_, rfl⟩
                      have hbl582 : Below W546.heap.size W546 W579 := by rw [hE580]; exact (Below.refl _ _).alloc (Nat.le_refl _) _
                      have HV583 := Lib.hid (HV553.out.below hbl582)
                      have HG584 := Lib.hid (HG554.out.trans (Gr.of_below hbl582))
                      have HL585 : Hid (Loc (w.heap.size + 1) W546.heap.size u545 W579) := Lib.hid (by rw [hE580]; exact Loc.new HV553.out _)
                      have HB586 : Hid (∀ j (h : j < [.int .i64 y557.table, .int .i64 y557.key, .int .i64 y557.action, .int .i64 y557.param, .int .i64 y557.toTable, .int .i64 y557.toKey].length), W579.cell? ⟨W546.heap.size, j, none⟩ = some ([.int .i64 y557.table, .int .i64 y557.key, .int .i64 y557.action, .int .i64 y557.param, .int .i64 y557.toTable, .int .i64 y557.toKey][j]'h)) := Lib.hid (by rw [hE580]; intro j h; rw [World.cell?_alloc_new, List.getElem?_toArray]; exact List.getElem?_eq_getElem h)
                      have HL587 : Hid (Loc (w.heap.size + 1) w.heap.size u545 W579) := Lib.hid ((Gr.of_below (X := (w.heap.size + 1)) (v := u545) hbl582).loc HL555.out).1
                      have HB588 := Lib.hid (fun j (h : j < [.slice A37 n38 cap39, .slice A45 n46 cap47, .slice A53 n54 cap55, .slice A61 n62 cap63, .slice A69 n70 cap71, .slice A77 n78 cap79, .slice A85 n86 cap87, .slice (some ⟨eb558, eo559, none⟩) n94 cap95, .int .i64 x.maxBatch, .int .i64 x.budget].length) => (((Gr.of_below (X := (w.heap.size + 1)) (v := u545) hbl582).loc HL555.out).2 j).trans (HB556.out j h))
                      have HE581 := Lib.hid hE580
                      clear hE580 hbl582
                      have Hb589 : (wNum 1 y557.toKey (wNum 2 y557.toTable (wNum 1 y557.param (wNum 2 y557.action (wNum 1 y557.key (wNum 2 y557.table (runL eRef x.refs (rCount n94 8 (rList 6 (eRole wayR) x.roles (rList 12 eStage x.stages (rList 8 (eTable wayR) x.tables (rList 12 (eAction wayR) x.actions (ePacket wayR x (wNum 2 x.budget (wNum 2 x.maxBatch (ws0))))))))) q544))))))).l.length ≤ 3800000 := hb578
                      have Hb590 : (wNum 2 y557.toTable (wNum 1 y557.param (wNum 2 y557.action (wNum 1 y557.key (wNum 2 y557.table (runL eRef x.refs (rCount n94 8 (rList 6 (eRole wayR) x.roles (rList 12 eStage x.stages (rList 8 (eTable wayR) x.tables (rList 12 (eAction wayR) x.actions (ePacket wayR x (wNum 2 x.budget (wNum 2 x.maxBatch (ws0))))))))) q544)))))).l.length ≤ 3800000 := Nat.le_trans ((up_num 1 y557.toKey) (wNum 2 y557.toTable (wNum 1 y557.param (wNum 2 y557.action (wNum 1 y557.key (wNum 2 y557.table (runL eRef x.refs (rCount n94 8 (rList 6 (eRole wayR) x.roles (rList 12 eStage x.stages (rList 8 (eTable wayR) x.tables (rList 12 (eAction wayR) x.actions (ePacket wayR x (wNum 2 x.budget (wNum 2 x.maxBatch (ws0))))))))) q544))))))) Hb589
                      have Hb591 : (wNum 1 y557.param (wNum 2 y557.action (wNum 1 y557.key (wNum 2 y557.table (runL eRef x.refs (rCount n94 8 (rList 6 (eRole wayR) x.roles (rList 12 eStage x.stages (rList 8 (eTable wayR) x.tables (rList 12 (eAction wayR) x.actions (ePacket wayR x (wNum 2 x.budget (wNum 2 x.maxBatch (ws0))))))))) q544))))).l.length ≤ 3800000 := Nat.le_trans ((up_num 2 y557.toTable) (wNum 1 y557.param (wNum 2 y557.action (wNum 1 y557.key (wNum 2 y557.table (runL eRef x.refs (rCount n94 8 (rList 6 (eRole wayR) x.roles (rList 12 eStage x.stages (rList 8 (eTable wayR) x.tables (rList 12 (eAction wayR) x.actions (ePacket wayR x (wNum 2 x.budget (wNum 2 x.maxBatch (ws0))))))))) q544)))))) Hb590
                      have Hb592 : (wNum 2 y557.action (wNum 1 y557.key (wNum 2 y557.table (runL eRef x.refs (rCount n94 8 (rList 6 (eRole wayR) x.roles (rList 12 eStage x.stages (rList 8 (eTable wayR) x.tables (rList 12 (eAction wayR) x.actions (ePacket wayR x (wNum 2 x.budget (wNum 2 x.maxBatch (ws0))))))))) q544)))).l.length ≤ 3800000 := Nat.le_trans ((up_num 1 y557.param) (wNum 2 y557.action (wNum 1 y557.key (wNum 2 y557.table (runL eRef x.refs (rCount n94 8 (rList 6 (eRole wayR) x.roles (rList 12 eStage x.stages (rList 8 (eTable wayR) x.tables (rList 12 (eAction wayR) x.actions (ePacket wayR x (wNum 2 x.budget (wNum 2 x.maxBatch (ws0))))))))) q544))))) Hb591
                      have Hb593 : (wNum 1 y557.key (wNum 2 y557.table (runL eRef x.refs (rCount n94 8 (rList 6 (eRole wayR) x.roles (rList 12 eStage x.stages (rList 8 (eTable wayR) x.tables (rList 12 (eAction wayR) x.actions (ePacket wayR x (wNum 2 x.budget (wNum 2 x.maxBatch (ws0))))))))) q544))).l.length ≤ 3800000 := Nat.le_trans ((up_num 2 y557.action) (wNum 1 y557.key (wNum 2 y557.table (runL eRef x.refs (rCount n94 8 (rList 6 (eRole wayR) x.roles (rList 12 eStage x.stages (rList 8 (eTable wayR) x.tables (rList 12 (eAction wayR) x.actions (ePacket wayR x (wNum 2 x.budget (wNum 2 x.maxBatch (ws0))))))))) q544)))) Hb592
                      have Hb594 : (wNum 2 y557.table (runL eRef x.refs (rCount n94 8 (rList 6 (eRole wayR) x.roles (rList 12 eStage x.stages (rList 8 (eTable wayR) x.tables (rList 12 (eAction wayR) x.actions (ePacket wayR x (wNum 2 x.budget (wNum 2 x.maxBatch (ws0))))))))) q544)).l.length ≤ 3800000 := Nat.le_trans ((up_num 1 y557.key) (wNum 2 y557.table (runL eRef x.refs (rCount n94 8 (rList 6 (eRole wayR) x.roles (rList 12 eStage x.stages (rList 8 (eTable wayR) x.tables (rList 12 (eAction wayR) x.actions (ePacket wayR x (wNum 2 x.budget (wNum 2 x.maxBatch (ws0))))))))) q544))) Hb593
                      have Hb595 : (runL eRef x.refs (rCount n94 8 (rList 6 (eRole wayR) x.roles (rList 12 eStage x.stages (rList 8 (eTable wayR) x.tables (rList 12 (eAction wayR) x.actions (ePacket wayR x (wNum 2 x.budget (wNum 2 x.maxBatch (ws0))))))))) q544).l.length ≤ 3800000 := Nat.le_trans ((up_num 2 y557.table) (runL eRef x.refs (rCount n94 8 (rList 6 (eRole wayR) x.roles (rList 12 eStage x.stages (rList 8 (eTable wayR) x.tables (rList 12 (eAction wayR) x.actions (ePacket wayR x (wNum 2 x.budget (wNum 2 x.maxBatch (ws0))))))))) q544)) Hb594
                      have HB596 := Lib.hid Hb595
                      have HB597 := Lib.hid Hb594
                      have HB598 := Lib.hid Hb593
                      have HB599 := Lib.hid Hb592
                      have HB600 := Lib.hid Hb591
                      have HB601 := Lib.hid Hb590
                      have HB602 := Lib.hid Hb589
                      clear Hb595 Hb594 Hb593 Hb592 Hb591 Hb590 Hb589
                      clear hb578
                      go_wp2_with fail
                      rw [← HE581.out]
                      refine (rwnum_any 2 (.inr rfl) y557.table q566 HV583.out (by have := HB596.out; omega)).mono ?_
                      rintro e w603 ⟨rfl, u604, hv605, hg606⟩
                      have HV607 := Lib.hid hv605
                      have HG608 := Lib.hid (HG584.out.trans hg606)
                      obtain ⟨l609, c610⟩ := hg606.loc HL587.out
                      have HL611 := Lib.hid l609
                      have HB612 := Lib.hid (fun j (h : j < [.slice A37 n38 cap39, .slice A45 n46 cap47, .slice A53 n54 cap55, .slice A61 n62 cap63, .slice A69 n70 cap71, .slice A77 n78 cap79, .slice A85 n86 cap87, .slice (some ⟨eb558, eo559, none⟩) n94 cap95, .int .i64 x.maxBatch, .int .i64 x.budget].length) => (c610 j).trans (HB588.out j h))
                      clear l609 c610
                      obtain ⟨l613, c614⟩ := hg606.loc HL585.out
                      have HL615 := Lib.hid l613
                      have HB616 := Lib.hid (fun j (h : j < [.int .i64 y557.table, .int .i64 y557.key, .int .i64 y557.action, .int .i64 y557.param, .int .i64 y557.toTable, .int .i64 y557.toKey].length) => (c614 j).trans (HB586.out j h))
                      clear l613 c614
                      clear hv605 hg606
                      have d617 : w603.cell? ⟨W546.heap.size, 1, none⟩ = some (.int .i64 y557.key) := HB616.out 1 (by simp)
                      go_wp2_with fail
                      refine (rwnum_any 1 (.inl rfl) y557.key q567 HV607.out (by have := HB597.out; omega)).mono ?_
                      rintro e w618 ⟨rfl, u619, hv620, hg621⟩
                      have HV622 := Lib.hid hv620
                      have HG623 := Lib.hid (HG608.out.trans hg621)
                      obtain ⟨l624, c625⟩ := hg621.loc HL611.out
                      have HL626 := Lib.hid l624
                      have HB627 := Lib.hid (fun j (h : j < [.slice A37 n38 cap39, .slice A45 n46 cap47, .slice A53 n54 cap55, .slice A61 n62 cap63, .slice A69 n70 cap71, .slice A77 n78 cap79, .slice A85 n86 cap87, .slice (some ⟨eb558, eo559, none⟩) n94 cap95, .int .i64 x.maxBatch, .int .i64 x.budget].length) => (c625 j).trans (HB612.out j h))
                      clear l624 c625
                      obtain ⟨l628, c629⟩ := hg621.loc HL615.out
                      have HL630 := Lib.hid l628
                      have HB631 := Lib.hid (fun j (h : j < [.int .i64 y557.table, .int .i64 y557.key, .int .i64 y557.action, .int .i64 y557.param, .int .i64 y557.toTable, .int .i64 y557.toKey].length) => (c629 j).trans (HB616.out j h))
                      clear l628 c629
                      clear hv620 hg621
                      clear d617
                      have d632 : w618.cell? ⟨W546.heap.size, 2, none⟩ = some (.int .i64 y557.action) := HB631.out 2 (by simp)
                      go_wp2_with fail
                      refine (rwnum_any 2 (.inr rfl) y557.action q568 HV622.out (by have := HB598.out; omega)).mono ?_
                      rintro e w633 ⟨rfl, u634, hv635, hg636⟩
                      have HV637 := Lib.hid hv635
                      have HG638 := Lib.hid (HG623.out.trans hg636)
                      obtain ⟨l639, c640⟩ := hg636.loc HL626.out
                      have HL641 := Lib.hid l639
                      have HB642 := Lib.hid (fun j (h : j < [.slice A37 n38 cap39, .slice A45 n46 cap47, .slice A53 n54 cap55, .slice A61 n62 cap63, .slice A69 n70 cap71, .slice A77 n78 cap79, .slice A85 n86 cap87, .slice (some ⟨eb558, eo559, none⟩) n94 cap95, .int .i64 x.maxBatch, .int .i64 x.budget].length) => (c640 j).trans (HB627.out j h))
                      clear l639 c640
                      obtain ⟨l643, c644⟩ := hg636.loc HL630.out
                      have HL645 := Lib.hid l643
                      have HB646 := Lib.hid (fun j (h : j < [.int .i64 y557.table, .int .i64 y557.key, .int .i64 y557.action, .int .i64 y557.param, .int .i64 y557.toTable, .int .i64 y557.toKey].length) => (c644 j).trans (HB631.out j h))
                      clear l643 c644
                      clear hv635 hg636
                      clear d632
                      have d647 : w633.cell? ⟨W546.heap.size, 3, none⟩ = some (.int .i64 y557.param) := HB646.out 3 (by simp)
                      go_wp2_with fail
                      refine (rwnum_any 1 (.inl rfl) y557.param q569 HV637.out (by have := HB599.out; omega)).mono ?_
                      rintro e w648 ⟨rfl, u649, hv650, hg651⟩
                      have HV652 := Lib.hid hv650
                      have HG653 := Lib.hid (HG638.out.trans hg651)
                      obtain ⟨l654, c655⟩ := hg651.loc HL641.out
                      have HL656 := Lib.hid l654
                      have HB657 := Lib.hid (fun j (h : j < [.slice A37 n38 cap39, .slice A45 n46 cap47, .slice A53 n54 cap55, .slice A61 n62 cap63, .slice A69 n70 cap71, .slice A77 n78 cap79, .slice A85 n86 cap87, .slice (some ⟨eb558, eo559, none⟩) n94 cap95, .int .i64 x.maxBatch, .int .i64 x.budget].length) => (c655 j).trans (HB642.out j h))
                      clear l654 c655
                      obtain ⟨l658, c659⟩ := hg651.loc HL645.out
                      have HL660 := Lib.hid l658
                      have HB661 := Lib.hid (fun j (h : j < [.int .i64 y557.table, .int .i64 y557.key, .int .i64 y557.action, .int .i64 y557.param, .int .i64 y557.toTable, .int .i64 y557.toKey].length) => (c659 j).trans (HB646.out j h))
                      clear l658 c659
                      clear hv650 hg651
                      clear d647
                      have d662 : w648.cell? ⟨W546.heap.size, 4, none⟩ = some (.int .i64 y557.toTable) := HB661.out 4 (by simp)
                      go_wp2_with fail
                      refine (rwnum_any 2 (.inr rfl) y557.toTable q570 HV652.out (by have := HB600.out; omega)).mono ?_
                      rintro e w663 ⟨rfl, u664, hv665, hg666⟩
                      have HV667 := Lib.hid hv665
                      have HG668 := Lib.hid (HG653.out.trans hg666)
                      obtain ⟨l669, c670⟩ := hg666.loc HL656.out
                      have HL671 := Lib.hid l669
                      have HB672 := Lib.hid (fun j (h : j < [.slice A37 n38 cap39, .slice A45 n46 cap47, .slice A53 n54 cap55, .slice A61 n62 cap63, .slice A69 n70 cap71, .slice A77 n78 cap79, .slice A85 n86 cap87, .slice (some ⟨eb558, eo559, none⟩) n94 cap95, .int .i64 x.maxBatch, .int .i64 x.budget].length) => (c670 j).trans (HB657.out j h))
                      clear l669 c670
                      obtain ⟨l673, c674⟩ := hg666.loc HL660.out
                      have HL675 := Lib.hid l673
                      have HB676 := Lib.hid (fun j (h : j < [.int .i64 y557.table, .int .i64 y557.key, .int .i64 y557.action, .int .i64 y557.param, .int .i64 y557.toTable, .int .i64 y557.toKey].length) => (c674 j).trans (HB661.out j h))
                      clear l673 c674
                      clear hv665 hg666
                      clear d662
                      have d677 : w663.cell? ⟨W546.heap.size, 5, none⟩ = some (.int .i64 y557.toKey) := HB676.out 5 (by simp)
                      go_wp2_with fail
                      refine (rwnum_any 1 (.inl rfl) y557.toKey q571 HV667.out (by have := HB601.out; omega)).mono ?_
                      rintro e w678 ⟨rfl, u679, hv680, hg681⟩
                      have HV682 := Lib.hid hv680
                      have HG683 := Lib.hid (HG668.out.trans hg681)
                      obtain ⟨l684, c685⟩ := hg681.loc HL671.out
                      have HL686 := Lib.hid l684
                      have HB687 := Lib.hid (fun j (h : j < [.slice A37 n38 cap39, .slice A45 n46 cap47, .slice A53 n54 cap55, .slice A61 n62 cap63, .slice A69 n70 cap71, .slice A77 n78 cap79, .slice A85 n86 cap87, .slice (some ⟨eb558, eo559, none⟩) n94 cap95, .int .i64 x.maxBatch, .int .i64 x.budget].length) => (c685 j).trans (HB672.out j h))
                      clear l684 c685
                      obtain ⟨l688, c689⟩ := hg681.loc HL675.out
                      have HL690 := Lib.hid l688
                      have HB691 := Lib.hid (fun j (h : j < [.int .i64 y557.table, .int .i64 y557.key, .int .i64 y557.action, .int .i64 y557.param, .int .i64 y557.toTable, .int .i64 y557.toKey].length) => (c689 j).trans (HB676.out j h))
                      clear l688 c689
                      clear hv680 hg681
                      clear d677
                      go_wp2_with fail
                      go_roundw
                      case rel => exact ⟨q544 + 1, by omega, by simp, u679, by rw [HX563.out]; exact HV682.out, HG683.out, HL686.out, HB687.out⟩
                      case measure => simp [intOf]; omega
                    · obtain rfl : n94 = q544 := by omega
                      have HV692 : Hid (WrAt (w.heap.size + 1) (w.heap.size + 2) W546 (rList 8 eRef x.refs (rList 6 (eRole wayR) x.roles (rList 12 eStage x.stages (rList 8 (eTable wayR) x.tables (rList 12 (eAction wayR) x.actions (ePacket wayR x (wNum 2 x.budget (wNum 2 x.maxBatch (ws0))))))))) u545) := Lib.hid (by rw [rList_run, ← HN96.out]; exact HV553.out)
                      have HE : Hid (WrAt (w.heap.size + 1) (w.heap.size + 2) W546 (eSchema wayR x ws0) u545) := HV692
                      have HF : Hid (Below w.heap.size w W546) := Lib.hid (HBA.out.trans (HG554.out.below HW.out hC))
                      obtain ⟨st, hst⟩ : ∃ st, st = (eSchema wayR x ws0) := ⟨_, rfl⟩
                      rw [← hst] at HE
                      have HST := Lib.hid hst
                      obtain ⟨l, long, strange, outside⟩ := st
                      clear hst
                      have g0 := HE.out.c0
                      have g1 := HE.out.c1
                      have g2 := HE.out.c2
                      have g3 := HE.out.c3
                      obtain ⟨fA, fn, fcap, hu, hfn⟩ := own_len HE.out.own
                      subst hu
                      simp only at g1 g2 g3 hfn
                      subst hfn
                      cases long
                      · cases strange
                        · cases outside
                          · by_cases hlen : 8000 < l.length
                            · skip
                              have hfe : E = 3 := by rw [HEE.out, ← HST.out]; simp [finE, hlen]
                              have hfl : Lr = [] := by rw [HLL.out, ← HST.out]; simp [finL, finE, hlen]
                              subst hfe hfl
                              go_wp2_with fail
                              go_ret2
                              exact ⟨_, rfl, World.ownsRow_nil _ _ _ _, HF.out⟩
                            · skip
                              have hfe : E = 0 := by rw [HEE.out, ← HST.out]; simp [finE, hlen]
                              have hfl : Lr = l := by rw [HLL.out, ← HST.out]; simp [finL, finE, hlen]
                              subst hfe hfl
                              go_wp2_with fail
                              go_ret2
                              exact ⟨_, rfl, HE.out.own.base (by omega), HF.out⟩
                          · skip
                            have hfe : E = 4 := by rw [HEE.out, ← HST.out]; simp [finE]
                            have hfl : Lr = [] := by rw [HLL.out, ← HST.out]; simp [finL, finE]
                            subst hfe hfl
                            go_wp2_with fail
                            go_ret2
                            exact ⟨_, rfl, World.ownsRow_nil _ _ _ _, HF.out⟩
                        · skip
                          have hfe : E = 2 := by rw [HEE.out, ← HST.out]; simp [finE]
                          have hfl : Lr = [] := by rw [HLL.out, ← HST.out]; simp [finL, finE]
                          subst hfe hfl
                          go_wp2_with fail
                          go_ret2
                          exact ⟨_, rfl, World.ownsRow_nil _ _ _ _, HF.out⟩
                      · skip
                        have hfe : E = 3 := by rw [HEE.out, ← HST.out]; simp [finE]
                        have hfl : Lr = [] := by rw [HLL.out, ← HST.out]; simp [finL, finE]
                        subst hfe hfl
                        go_wp2_with fail
                        go_ret2
                        exact ⟨_, rfl, World.ownsRow_nil _ _ _ _, HF.out⟩
end
end Go.Proofs.Ytljmiickhkkceaa
