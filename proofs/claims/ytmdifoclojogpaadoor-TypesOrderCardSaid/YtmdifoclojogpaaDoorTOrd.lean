/- TypesOrder, its walk. -/
import Derived.Test.YtmdifoclojogpaaDoorTBeg
import Derived.Test.YtmdifoclojogpaaDoorYSen
import Derived.Test.YtmdifoclojogpaaDoorYNew
import Derived.Deep.AppendSrc
namespace Go.Proofs.YtmdifoclojogpaaDoor
open Go.RowKit Go.Maps

set_option maxRecDepth 100000 in
set_option maxHeartbeats 2000000 in
theorem cs_modE (x n : Nat) (hx : x ≤ 1000000) (h1 : 1 ≤ n) (h2 : n ≤ 100000) (w : World) : Calls Tryd.prog 11 #[.int .i64 (x : Int), .int .i64 (n : Int)] w fun e w' => e = .returned (.int .i64 ((x % n : Nat) : Int)) ∧ w = w' := by
  obtain ⟨t, ht⟩ : ∃ t, t = x % n := ⟨_, rfl⟩
  have htn : t < n := by rw [ht]; exact Nat.mod_lt _ (by omega)
  have hm1 : (x : Int).tmod (n : Int) = (t : Int) := by rw [Int.tmod_eq_emod_of_nonneg (by omega), ht]; omega
  have hm1b : (x : Int) % (n : Int) = (t : Int) := by rw [ht]; omega
  have hw : IntKind.i64.wrap ((t : Int) + (n : Int)) = (t : Int) + (n : Int) := IntWalk.i64_in _ (by omega)
  have hm2b : ((t : Int) + (n : Int)) % (n : Int) = (t : Int) := by rw [Int.add_emod_right, Int.emod_eq_of_lt (by omega) (by omega)]
  have hm2 : ((t : Int) + (n : Int)).tmod (n : Int) = (t : Int) := by rw [Int.tmod_eq_emod_of_nonneg (by omega)]; exact hm2b
  have hn1 : ¬ (n : Int) < 1 := by omega
  have hn0 : ¬ (n : Int) = 0 := by omega
  have hn0N : ¬ n = 0 := by omega
  rw [← ht]
  clear ht
  go_enter Tryd.func11, Tryd.ntmps11
  go_wp2
  go_ret
  exact ⟨by first | rfl | (simp only [hm1, hm2, hw]; done) | (simp [hm1, hm2, hm1b, hm2b]; done), rfl⟩
def dflV : ByteArray × ByteArray := (⟨#[]⟩, ⟨#[]⟩)
/-- v turned by r, done for the first k places -/
def mixV (vs : List (ByteArray × ByteArray)) (r n k : Nat) : List (ByteArray × ByteArray) := (List.range n).map fun i => if i < k then vs.getD ((i + r) % n) dflV else vs.getD i dflV
theorem mix_len (vs : List (ByteArray × ByteArray)) (r n k : Nat) : (mixV vs r n k).length = n := by simp [mixV]
theorem mix_zero (vs : List (ByteArray × ByteArray)) (r n : Nat) (hn : vs.length = n) : mixV vs r n 0 = vs := by
  refine List.ext_getElem (by rw [mix_len, hn]) fun i h1 h2 => ?_
  simp only [mixV, List.getElem_map, List.getElem_range, Nat.not_lt_zero, if_false]
  rw [List.getD_eq_getElem?_getD, List.getElem?_eq_getElem h2]; rfl
theorem mix_set (vs : List (ByteArray × ByteArray)) (r n k : Nat) (v : ByteArray × ByteArray) (hv : vs.getD ((k + r) % n) dflV = v) : (mixV vs r n k).set k v = mixV vs r n (k + 1) := by
  refine List.ext_getElem (by rw [List.length_set, mix_len, mix_len]) fun i h1 h2 => ?_
  rw [List.getElem_set]
  simp only [mixV, List.getElem_map, List.getElem_range]
  by_cases e : k = i
  · subst e; rw [if_pos rfl, if_pos (by omega), hv]
  · rw [if_neg e]
    by_cases e2 : i < k
    · rw [if_pos e2, if_pos (by omega)]
    · rw [if_neg e2, if_neg (by omega)]
theorem mix_mem (vs : List (ByteArray × ByteArray)) (r n : Nat) (hn : vs.length = n) (v : ByteArray × ByteArray) : v ∈ mixV vs r n n ↔ v ∈ vs := by
  constructor
  · intro h
    obtain ⟨i, hi, rfl⟩ := List.mem_map.1 h
    have hi2 := List.mem_range.1 hi
    have hlt : (i + r) % n < vs.length := by rw [hn]; exact Nat.mod_lt _ (by omega)
    rw [if_pos hi2, List.getD_eq_getElem?_getD, List.getElem?_eq_getElem hlt]
    exact List.getElem_mem hlt
  · intro h
    obtain ⟨j, hj⟩ := List.mem_iff_getElem?.1 h
    obtain ⟨hj1, hj2⟩ := List.getElem?_eq_some_iff.1 hj
    have hjn : j < n := by omega
    refine List.mem_map.2 ⟨(j + (n - r % n)) % n, List.mem_range.2 (Nat.mod_lt _ (by omega)), ?_⟩
    rw [if_pos (Nat.mod_lt _ (by omega))]
    have e : ((j + (n - r % n)) % n + r) % n = j := by
      have h1 : r % n < n := Nat.mod_lt _ (by omega)
      rw [Nat.mod_add_mod]
      have h2 : j + (n - r % n) + r = j + n * (1 + r / n) := by
        have := Nat.div_add_mod r n
        rw [Nat.mul_add, Nat.mul_one]
        omega
      rw [h2, Nat.add_mul_mod_self_left, Nat.mod_eq_of_lt hjn]
    rw [e, List.getD_eq_getElem?_getD, hj]; rfl
theorem vcells_set (l : List (ByteArray × ByteArray)) (k : Nat) (hk : k < l.length) (v : ByteArray × ByteArray) : ((vcells l).set (k * 2) (.string v.1)).set (k * 2 + 1) (.string v.2) = vcells (l.set k v) := by
  refine List.ext_getElem? fun i => ?_
  have hlen := vcells_len l
  have hlen2 := vcells_len (l.set k v)
  rw [List.length_set] at hlen2
  rcases Nat.lt_or_ge i (l.length * 2) with hi | hi
  · have e0 : i / 2 * 2 + i % 2 = i := by omega
    have e1 := vcells_at l (i / 2) (i % 2) (by omega) (by omega)
    have e2 := vcells_at (l.set k v) (i / 2) (i % 2) (by rw [List.length_set]; omega) (by omega)
    rw [e0] at e1 e2
    rw [e2, List.getElem_set]
    by_cases h1 : i = k * 2 + 1
    · rw [if_pos (show k = i / 2 by omega), show i % 2 = 1 by omega]
      subst h1
      rw [List.getElem?_set_self (by rw [List.length_set]; omega)]; rfl
    · rw [List.getElem?_set_ne (by omega)]
      by_cases h2 : i = k * 2
      · rw [if_pos (show k = i / 2 by omega), show i % 2 = 0 by omega]
        subst h2
        rw [List.getElem?_set_self (by omega)]; rfl
      · rw [List.getElem?_set_ne (by omega), if_neg (by omega), e1]
  · rw [List.getElem?_eq_none (by rw [List.length_set, List.length_set]; omega), List.getElem?_eq_none (by omega)]
theorem varS_mix {vs : List (ByteArray × ByteArray)} (h : VarS vs) (r n : Nat) (hn : vs.length = n) : VarS (mixV vs r n n) := fun v hv => h v ((mix_mem vs r n hn v).1 hv)
theorem vin_eq {vs us : List (ByteArray × ByteArray)} (h : ∀ v, v ∈ vs ↔ v ∈ us) (a c : ByteArray) : vin vs a c = vin us a c := by
  cases hh : vin us a c
  · cases h2 : vin vs a c
    · rfl
    · rw [vin_iff, h, ← vin_iff, hh] at h2; cases h2
  · rw [vin_iff] at hh ⊢; exact (h _).2 hh
set_option maxRecDepth 100000 in
theorem app_noneV (A3 : Option Addr) (n c3 : Nat) (hn : n = 0) (W : World) (b : Nat) : (Builtin.append_ #[54, 54] 54 #[.slice (some ⟨b, 0, none⟩) 0 0, .slice A3 n c3]).run Tryd.prog W = .ok (.slice (some ⟨b, 0, none⟩) n 0) W := by
  obtain ⟨i0, hi0, _⟩ := info_varT
  subst hn
  cases A3 with
  | none => exact run_append_room_src W 54 54 54 74 i0 Tryd.underlying54 hi0 b 0 0 0 _ 0 [] (Src.ofNil W Tryd.underlying54 c3) (by omega) (fun j hj => by simp at hj) (fun j hj => by simp at hj)
  | some a => exact run_append_room_src W 54 54 54 74 i0 Tryd.underlying54 hi0 b 0 0 0 _ 0 [] (Src.ofSlice W Tryd.underlying54 a 0 c3 [] (by simp) (fun j u hj => by simp at hj) (fun u hu => by simp at hu)) (by omega) (fun j hj => by simp at hj) (fun j hj => by simp at hj)
theorem wpList_append_runV {P : Program} (w : World) {ops : Array Oper} {rest : List Oper} {o : Oper} {a : Act} {Q : Exit → Act → World → Prop}
    (hg : o.guard = none) (s x : Operand) (t : TypeId) (hop : o.op = Op.call { callee := Callee.builtin Builtin.append, args := #[s, x], argTypes := #[t, t] }) (v : Value) (w' : World)
    (hrun : (Builtin.append_ #[t, t] o.type #[a.eval s, a.eval x]).run P w = .ok v w') (hK : wpList P ops Q rest (a.put o.dst v) w') : wpList P ops Q (o :: rest) a w := by
  refine wpList_plain hg fun K hK' => ?_
  unfold Oper.wp
  simp [execOp, hop, resolve, invoke, builtin, hrun, Result.andThen]
  exact hK' _ _ hK
theorem varR_flat {w : World} {A : Option Addr} {vs : List (ByteArray × ByteArray)} (h : VarR w A vs) (hp : 0 < vs.length) : ∃ g, A = some ⟨g, 0, none⟩ ∧ g < w.heap.size ∧ ∀ j u, (vcells vs)[j]? = some u → w.cell? ⟨g, j, none⟩ = some u := by
  obtain ⟨g, h1, h2, q⟩ := h.r.resolve_left (fun e => by rw [e] at hp; simp at hp)
  refine ⟨g, h1, h2, fun j u hj => ?_⟩
  have hl := (List.getElem?_eq_some_iff.1 hj).1
  rw [vcells_len] at hl
  have e1 := vcells_at vs (j / 2) (j % 2) (by omega) (by omega)
  have e3 : j / 2 * 2 + j % 2 = j := by omega
  obtain ⟨q0, q1⟩ := q (j / 2) _ (List.getElem?_eq_getElem (by omega))
  rw [e3, hj] at e1
  have : j % 2 = 0 ∨ j % 2 = 1 := by omega
  rcases this with h | h
  · rw [h] at e1 e3
    rw [show j = j / 2 * 2 by omega, q0]
    exact e1.symm
  · rw [h] at e1
    rw [show j = j / 2 * 2 + 1 by omega, q1]
    exact e1.symm
theorem vcells_one (l : List (ByteArray × ByteArray)) : ∀ u ∈ vcells l, u.oneCell' = true := by
  intro u hu
  unfold vcells at hu
  obtain ⟨t, _, ht⟩ := List.mem_flatMap.1 hu
  exact vcell_one t u ht
set_option maxRecDepth 100000 in
set_option maxHeartbeats 16000000 in
theorem tord_any (w : World) (A : Option Addr) (D n0 cap : Nat) (l : List Nat) (nx tx : Int) (hr : ReadsL w D A l) (hD : l ≠ [] → D < w.heap.size) (hl : l.length = n0) (hn : n0 ≤ cap) (hcap : cap ≤ maxLen) (hs : Small l) (hy : Syms w) (hy2 : SymY w) (hy3 : TypY w) :
    Calls Tryd.prog 8 #[.slice A n0 cap, .int .i64 nx, .int .i64 tx] w (RetX (.bool true) w) := by
  have KN1 := Lib.hid (nw_lim 60 (by decide) hr hD hl hn hcap hs w (Below.refl _ _))
  have HY := Lib.hid hy
  have HY2 := Lib.hid hy2
  have HY3 := Lib.hid hy3
  have hlt1 := hy2.lt
  have hlt2 := hy3.lt
  obtain ⟨i0, hi0, hz0, hy1, hy2'⟩ := info_varT
  have HI := Lib.hid hi0
  have HZ := Lib.hid hz0
  have HS1 := Lib.hid hy1
  have HS2 := Lib.hid hy2'
  clear hr hD hl hn hcap hs hy hy2 hy3 hi0 hz0 hy1 hy2'
  go_enter Tryd.func8, Tryd.ntmps8
  go_wp2_with fail
  go_at_call 9
  refine KN1.out.mono ?_
  rintro e w1 ⟨Da, la, rfl, hb1, hc1⟩
  have HB1 := Lib.hid hb1
  have HC1 := Lib.hid hc1
  clear hb1 hc1 KN1
  go_wp2_with fail
  go_at_call 10
  refine (cs_sentence (B := w.heap.size) (K := w.heap.size) (Nat.le_refl _) true 4 (by decide) _ w1 HC1.out).mono ?_
  rintro e w2 ⟨p, hp, rfl, hb2, _, _⟩
  have HB2 := Lib.hid (HB1.out.trans hb2)
  have hps : p.size ≤ 60000 := Nat.le_trans hp (sB_le 4 (by decide))
  clear hb2 hp HC1 HB1
  have h2 := HB2.out.size
  go_wp2_with fail
  go_at_call 23
  refine (ty_some nx w2).mono ?_
  rintro e w3 ⟨vs, A3, c3, n, rfl, hn, hc3, hn6, hvs, hvr, hb3⟩
  have HB3 := Lib.hid (HB2.out.trans (hb3.mono h2))
  have HN : Hid (vs.length = n) := Lib.hid hn.symm
  have HVS := Lib.hid hvs
  have HVR := Lib.hid hvr
  have h3 := HB3.out.size
  clear hb3 hn hvs hvr HB2
  obtain ⟨m, hm⟩ : ∃ m : Nat, m = max n 1 := ⟨_, rfl⟩
  have hmax : max (n : Int) 1 = (m : Int) := by omega
  have hm1 : 1 ≤ m := by omega
  have hm6 : m ≤ 6 := by omega
  clear hm
  go_wp2_with fail
  go_at_call 11
  refine (cs_modN tx m hm1 (by omega) _).mono ?_
  rintro e w4 ⟨r, hr, rfl, rfl⟩
  clear hmax
  obtain ⟨B, hB⟩ : ∃ B, B = w3.heap.size := ⟨_, rfl⟩
  have HNC : Hid (n = 0 ∨ 0 < n) := Lib.hid (by omega)
  rcases HNC.out with hn0 | hnp
  · have hap := app_noneV A3 n c3 hn0
    have HO : Hid ((w3.alloc (.cells #[] 74)).ownsRow w3.heap.size 74 2 (.slice (some ⟨w3.heap.size, 0, none⟩) n 0) n (vcells vs)) := Lib.hid (by
      have hve : vs = [] := List.eq_nil_of_length_eq_zero (by rw [HN.out]; exact hn0)
      rw [hve, hn0]
      exact World.ownsRow_lit (base := w3.heap.size) (size := 2) w3 #[] 0 (Nat.le_refl _) (by decide) rfl)
    have HB10 : Hid (Below w3.heap.size w3 (w3.alloc (.cells #[] 74))) := Lib.hid ((Below.refl _ _).alloc (Nat.le_refl _) _)
    have HN0 := Lib.hid hn0
    clear hn0
    go_wp2_with (at_builtin; (refine wpList_append_runV _ rfl (.tmp 27) (.tmp 28) 54 rfl _ _ (hap _ _) ?_))
    rw [← hB] at HO
    generalize w3.alloc (.cells #[] 74) = w10 at HO HB10 ⊢
    obtain ⟨g9, hg9⟩ : ∃ g, g = w3.heap.size := ⟨_, rfl⟩
    obtain ⟨cap9, hcap9⟩ : ∃ g : Nat, g = 0 := ⟨_, rfl⟩
    rw [← hg9]
    have HO2 : Hid (w10.ownsRow B 74 2 (.slice (some ⟨g9, 0, none⟩) n cap9) n (vcells vs)) := Lib.hid (by rw [hg9, hcap9, ← hB]; exact HO.out)
    clear HO
    have HO := HO2
    clear HO2
    rw [show Value.slice (some ⟨g9, 0, none⟩) n 0 = Value.slice (some ⟨g9, 0, none⟩) n cap9 by rw [hcap9]]
    have HBq := Lib.hid hB
    clear hg9 hcap9 hap hB
    go_wp2_with fail
    go_loopw [32] (fun i w' => ∃ k : Nat, k ≤ n ∧ i = .int .i64 k ∧ Below w3.heap.size w3 w' ∧ w'.ownsRow B 74 2 (.slice (some ⟨g9, 0, none⟩) n cap9) n (vcells (mixV vs r n k))) (fun i _ => n - (intOf i).toNat)
    case atStart => exact ⟨0, by omega, rfl, HB10.out, by rw [mix_zero _ _ _ HN.out]; exact HO.out⟩
    case round =>
      clear HB10 HO
      obtain ⟨k, hk, rfl, hb, ho⟩ := hrel
      have hvr := HVR.out.below hb
      have HB := Lib.hid hb
      have HOK := Lib.hid ho
      have hsz := hb.size
      by_cases hlt : k < n
      · have hkI : (k : Int) < (n : Int) := by omega
        have hkc : (k : Int) < (cap9 : Int) := by have := own_le ho; omega
        have hk0 : 0 ≤ (k : Int) := by omega
        obtain ⟨q, hq⟩ : ∃ q, q = (k + r) % n := ⟨_, rfl⟩
        have hqn : q < n := by rw [hq]; exact Nat.mod_lt _ (by omega)
        have hqI : (q : Int) < (n : Int) := by omega
        have hqc : (q : Int) < (c3 : Int) := by omega
        have hq0 : 0 ≤ (q : Int) := by omega
        have KM0 := cs_modE (k + r) n (by omega) (by omega) (by omega) wr
        rw [← hq, Int.natCast_add] at KM0
        have KM := Lib.hid KM0
        have hwp : IntKind.i64.wrap ((k : Int) + (r : Int)) = (k : Int) + (r : Int) := IntWalk.i64_in _ (by omega)
        obtain ⟨v, hv⟩ : ∃ v, vs[q]? = some v := ⟨_, List.getElem?_eq_getElem (by rw [HN.out]; exact hqn)⟩
        obtain ⟨ga, e1, l1, qq⟩ := hvr.r.resolve_left (fun e => by rw [e] at hv; simp at hv)
        obtain ⟨q0, q1⟩ := qq q v hv
        have HV : Hid (vs.getD ((k + r) % n) dflV = v) := Lib.hid (by rw [← hq, List.getD_eq_getElem?_getD, hv]; rfl)
        have hml : k < (mixV vs r n k).length := by rw [mix_len]; exact hlt
        have x0 := vcells_at (mixV vs r n k) k 0 hml (by decide)
        have x1 := vcells_at (mixV vs r n k) k 1 hml (by decide)
        rw [Nat.add_zero] at x0
        have d0 := ho.cellAt (k * 2) (by omega)
        have d1 := ho.cellAt (k * 2 + 1) (by omega)
        have f0 := ho.frozenAt (k * 2)
        have f1 := ho.frozenAt (k * 2 + 1)
        rw [x0] at d0
        rw [x1] at d1
        generalize (mixV vs r n k)[k]'hml = dd at d0 d1
        have d0' : wr.cell? ⟨g9, k * 2, none⟩ = some (.string dd.1) := d0
        have d1' : wr.cell? ⟨g9, k * 2 + 1, none⟩ = some (.string dd.2) := d1
        have HG9 : Hid (w3.heap.size ≤ g9) := Lib.hid (by have h1 := HBq.out; have h2 : B ≤ g9 := own_block_ge ho rfl; omega)
        obtain ⟨v1, v2⟩ := v
        simp only at q0 q1
        subst e1
        clear qq hv KM0 x0 x1 d0 d1 hb hvr ho hq hml
        go_wp2_with fail
        go_at_call 11
        refine KM.out.mono ?_
        rintro e w5 ⟨rfl, rfl⟩
        clear KM hwp
        go_wp2_with fail
        go_roundw
        case rel =>
          go_light
          have hge := HG9.out
          refine ⟨k + 1, by omega, by simp, (HB.out.setCell (by show _ ≤ g9; omega) _).setCell (by show _ ≤ g9; omega) _, ?_⟩
          have h5 := ((HOK.out.stored (k * 2) (.string v1)).1.stored (k * 2 + 1) (.string v2)).1
          rw [vcells_set (mixV vs r n k) k (by rw [mix_len]; exact hlt) (v1, v2), mix_set _ _ _ _ _ HV.out] at h5
          exact h5
        case measure => simp [intOf]; omega
      · have hkI : ¬ (k : Int) < (n : Int) := by omega
        obtain rfl : n = k := by omega
        obtain ⟨ws, hws⟩ : ∃ ws, ws = mixV vs r n n := ⟨_, rfl⟩
        rw [← hws] at HOK
        have HWL : Hid (ws.length = n) := Lib.hid (by rw [hws, mix_len])
        have HWS : Hid (VarS ws) := Lib.hid (by rw [hws]; exact varS_mix HVS.out r n HN.out)
        have hvin : ∀ a c, vin ws a c = vin vs a c := by rw [hws]; exact vin_eq (mix_mem vs r n HN.out)
        obtain ⟨⟨oa, e0⟩, hE⟩ : ∃ R, cmpl p vs = R := ⟨_, rfl⟩
        have hE2 : cmpl p ws = (oa, e0) := by rw [cmpl_congr p hvin, hE]
        obtain ⟨⟨ob, e2⟩, hE3⟩ : ∃ R, cmpl p (ws ++ [(⟨#[120]⟩, ⟨#[]⟩)]) = R := ⟨_, rfl⟩
        have he2 : e0 = 0 → e2 = 0 := fun h => by
          have := cmpl_more p (vs := ws) (us := ws ++ [(⟨#[120]⟩, ⟨#[]⟩)]) (fun a c hh => by rw [vin_iff] at hh ⊢; exact List.mem_append_left _ hh) (by rw [hE2]; exact h)
          rw [hE3] at this; exact this
        have HE2 := Lib.hid he2
        have HBK := Lib.hid (HB3.out.trans (hb.mono h3))
        have hk1 := HBK.out.size
        have KA0 := ty_Compile wr p (by omega) A3 n c3 vs HN.out hc3 (by omega) hvr HVS.out (HY.out.below HBK.out HY.out.lt) (HY2.out.below HBK.out hlt1) (HY3.out.below HBK.out hlt2)
        rw [hE] at KA0
        have KA := Lib.hid KA0
        have hcapn := own_le ho
        clear KA0 hws he2 hvin hE hb hvr ho
        go_wp2_with fail
        go_at_call 24
        refine KA.out.mono ?_
        rintro e w5 ⟨Aa, ca, he, _, _, _, hb5⟩
        have he2 : e = .returned (.tuple #[.slice Aa oa.length ca, .int .i64 (e0 : Nat)]) := he
        subst he2
        have HB5 := Lib.hid (HBK.out.trans (hb5.mono hk1))
        have HO5 := Lib.hid (own_below2 HOK.out hb5)
        have h5 := HB5.out.size
        have hw5 : w3.heap.size ≤ w5.heap.size := Nat.le_trans hsz hb5.size
        have KB0 := ty_Compile w5 p (by omega) (some ⟨g9, 0, none⟩) n cap9 ws HWL.out hcapn (by omega) (varR_own HO5.out HWL.out) HWS.out (HY.out.below HB5.out HY.out.lt) (HY2.out.below HB5.out hlt1) (HY3.out.below HB5.out hlt2)
        rw [hE2] at KB0
        have KB := Lib.hid KB0
        clear he hb5 KA KB0 hE2 HOK HB
        go_wp2_with fail
        go_at_call 24
        refine KB.out.mono ?_
        rintro e w6 ⟨Ab, cb, he, _, _, _, hb6⟩
        have he2 : e = .returned (.tuple #[.slice Ab oa.length cb, .int .i64 (e0 : Nat)]) := he
        subst he2
        have HB6 := Lib.hid (HB5.out.trans (hb6.mono h5))
        have HO6 := Lib.hid (own_below2 HO5.out hb6)
        have h6 := HB6.out.size
        have hw6 : w3.heap.size ≤ w6.heap.size := Nat.le_trans hw5 hb6.size
        have hBw6 : B ≤ w6.heap.size := by have := HBq.out; omega
        clear he hb6 KB HO5 HB5
        go_wp2_with (at_builtin; (refine wpList_append_own _ rfl (.tmp 62) (.tmp 64) 54 rfl B 74 i0 _ 2 32 Tryd.underlying54 HI.out HZ.out HS1.out HS2.out rfl (by decide) _ n _ rfl (World.ownsRow.alloc HO6.out _) ⟨w6.heap.size, 0, none⟩ 1 1 (vcell (⟨#[120]⟩, ⟨#[]⟩)) rfl rfl (World.news_of_block (cs := (vcell (⟨#[120]⟩, ⟨#[]⟩)).toArray) (t := 74) (fr := (0, 0)) (heap_alloc_new w6 _)) (vcell_one _) (by unfold maxLen; omega) (by omega) (by simp; omega) ?_; intro v7 w7 hO7 hg7 hi7; clear hi7; obtain ⟨A7, cap7, rfl⟩ := own_shapeV hO7; have HO7 := Lib.hid hO7; have HG7 := Lib.hid hg7; clear hO7 hg7))
        have HB7 : Hid (Below w.heap.size w w7) := Lib.hid ((HB6.out.alloc h6 _).grown HG7.out (by simp; omega) (fun k e => by have e2 : some g9 = some k := e; injection e2 with e2; have h1 := HBq.out; have h2 : B ≤ g9 := own_block_ge HO6.out rfl; omega))
        have hvl : (ws ++ [((⟨#[120]⟩ : ByteArray), (⟨#[]⟩ : ByteArray))]).length = n + 1 := by rw [List.length_append, HWL.out]; rfl
        have KC0 := ty_Compile w7 p (by omega) A7 (n + 1) cap7 (ws ++ [(⟨#[120]⟩, ⟨#[]⟩)]) hvl (own_le HO7.out) (by omega) (varR_own (by rw [vcells_snoc]; exact HO7.out) hvl) (fun v hv => by
          rcases List.mem_append.1 hv with hv | hv
          · exact HWS.out v hv
          · obtain rfl : v = (⟨#[120]⟩, ⟨#[]⟩) := by simpa using hv
            exact ⟨by decide, by decide⟩) (HY.out.below HB7.out HY.out.lt) (HY2.out.below HB7.out hlt1) (HY3.out.below HB7.out hlt2)
        rw [hE3] at KC0
        have KC := Lib.hid KC0
        clear KC0 hE3 hvl HG7 HO6
        go_at_call 24
        refine KC.out.mono ?_
        rintro e w8 ⟨Ac, cc, he, _, _, _, hb8⟩
        have he2 : e = .returned (.tuple #[.slice Ac ob.length cc, .int .i64 (e2 : Nat)]) := he
        subst he2
        have HB8 := Lib.hid (HB7.out.trans (hb8.mono HB7.out.size))
        clear he hb8 KC HO7
        by_cases hz : e0 = 0
        · have hz2 := HE2.out hz
          subst hz hz2
          clear HE2
          go_wp2_with fail
          go_at_call 21
          refine (ty_begun _ (HY.out.below HB8.out HY.out.lt) (HY2.out.below HB8.out hlt1) (HY3.out.below HB8.out hlt2)).mono ?_
          rintro e wz ⟨rfl, hbz⟩
          have HBZ := Lib.hid (HB8.out.trans (hbz.mono HB8.out.size))
          clear hbz
          go_wp2_with fail
          go_ret
          exact ⟨by first | rfl | simp, HBZ.out⟩
        · have hzI : ((e0 : Int) != 0) = true := by simp; omega
          have hzJ : ¬ (e0 : Int) = 0 := by omega
          clear HE2
          go_wp2_with fail
          go_at_call 21
          refine (ty_begun _ (HY.out.below HB8.out HY.out.lt) (HY2.out.below HB8.out hlt1) (HY3.out.below HB8.out hlt2)).mono ?_
          rintro e wz ⟨rfl, hbz⟩
          have HBZ := Lib.hid (HB8.out.trans (hbz.mono HB8.out.size))
          clear hbz
          go_wp2_with fail
          go_ret
          exact ⟨by first | rfl | simp, HBZ.out⟩
  · obtain ⟨g3, rfl, hg3, hcs⟩ := varR_flat HVR.out (by rw [HN.out]; exact hnp)
    have HCS := Lib.hid hcs
    clear hcs
    go_wp2_with (at_builtin; (refine wpList_append_own _ rfl (.tmp 27) (.tmp 28) 54 rfl w3.heap.size 74 i0 _ 2 32 Tryd.underlying54 HI.out HZ.out HS1.out HS2.out rfl (by decide) _ 0 [] rfl (World.ownsRow_lit (base := w3.heap.size) (size := 2) w3 #[] 0 (Nat.le_refl _) (by decide) rfl) ⟨g3, 0, none⟩ n c3 (vcells vs) rfl (by rw [vcells_len, HN.out]) (fun j u hj => by rw [Addr.add_lit, Nat.zero_add]; exact (((Below.refl _ w3).alloc (Nat.le_refl _) _).cell (p := ⟨g3, j, none⟩) hg3).trans (HCS.out j u hj)) (vcells_one vs) (by unfold maxLen; omega) (by omega) (by simp) ?_; intro v10 w10 hO10 hg10 hi10; clear hi10; rw [Nat.zero_add, List.nil_append] at hO10; obtain ⟨A10, cap9, rfl⟩ := own_shapeV hO10; have HO := Lib.hid hO10; have HG10 := Lib.hid hg10; clear hO10 hg10))
    rw [← hB] at HO
    obtain ⟨g9, cc9, hvv, hge9, hl9⟩ := HO.out.form hnp
    injection hvv with e1 e2 e3
    subst e1
    have HB10 : Hid (Below w3.heap.size w3 w10) := Lib.hid (((Below.refl _ w3).alloc (Nat.le_refl _) (.cells #[] 74)).grown HG10.out (by simp) (fun k e => by have e2 : some w3.heap.size = some k := e; injection e2 with e2; omega))
    obtain ⟨A3, hA3⟩ : ∃ A : Option Addr, A = some ⟨g3, 0, none⟩ := ⟨_, rfl⟩
    rw [← hA3]
    rw [← hA3] at HVR
    have HBq := Lib.hid hB
    clear hA3 HG10 HCS hge9 hl9 e2 e3 hB
    go_wp2_with fail
    go_loopw [32] (fun i w' => ∃ k : Nat, k ≤ n ∧ i = .int .i64 k ∧ Below w3.heap.size w3 w' ∧ w'.ownsRow B 74 2 (.slice (some ⟨g9, 0, none⟩) n cap9) n (vcells (mixV vs r n k))) (fun i _ => n - (intOf i).toNat)
    case atStart => exact ⟨0, by omega, rfl, HB10.out, by rw [mix_zero _ _ _ HN.out]; exact HO.out⟩
    case round =>
      clear HB10 HO
      obtain ⟨k, hk, rfl, hb, ho⟩ := hrel
      have hvr := HVR.out.below hb
      have HB := Lib.hid hb
      have HOK := Lib.hid ho
      have hsz := hb.size
      by_cases hlt : k < n
      · have hkI : (k : Int) < (n : Int) := by omega
        have hkc : (k : Int) < (cap9 : Int) := by have := own_le ho; omega
        have hk0 : 0 ≤ (k : Int) := by omega
        obtain ⟨q, hq⟩ : ∃ q, q = (k + r) % n := ⟨_, rfl⟩
        have hqn : q < n := by rw [hq]; exact Nat.mod_lt _ (by omega)
        have hqI : (q : Int) < (n : Int) := by omega
        have hqc : (q : Int) < (c3 : Int) := by omega
        have hq0 : 0 ≤ (q : Int) := by omega
        have KM0 := cs_modE (k + r) n (by omega) (by omega) (by omega) wr
        rw [← hq, Int.natCast_add] at KM0
        have KM := Lib.hid KM0
        have hwp : IntKind.i64.wrap ((k : Int) + (r : Int)) = (k : Int) + (r : Int) := IntWalk.i64_in _ (by omega)
        obtain ⟨v, hv⟩ : ∃ v, vs[q]? = some v := ⟨_, List.getElem?_eq_getElem (by rw [HN.out]; exact hqn)⟩
        obtain ⟨ga, e1, l1, qq⟩ := hvr.r.resolve_left (fun e => by rw [e] at hv; simp at hv)
        obtain ⟨q0, q1⟩ := qq q v hv
        have HV : Hid (vs.getD ((k + r) % n) dflV = v) := Lib.hid (by rw [← hq, List.getD_eq_getElem?_getD, hv]; rfl)
        have hml : k < (mixV vs r n k).length := by rw [mix_len]; exact hlt
        have x0 := vcells_at (mixV vs r n k) k 0 hml (by decide)
        have x1 := vcells_at (mixV vs r n k) k 1 hml (by decide)
        rw [Nat.add_zero] at x0
        have d0 := ho.cellAt (k * 2) (by omega)
        have d1 := ho.cellAt (k * 2 + 1) (by omega)
        have f0 := ho.frozenAt (k * 2)
        have f1 := ho.frozenAt (k * 2 + 1)
        rw [x0] at d0
        rw [x1] at d1
        generalize (mixV vs r n k)[k]'hml = dd at d0 d1
        have d0' : wr.cell? ⟨g9, k * 2, none⟩ = some (.string dd.1) := d0
        have d1' : wr.cell? ⟨g9, k * 2 + 1, none⟩ = some (.string dd.2) := d1
        have HG9 : Hid (w3.heap.size ≤ g9) := Lib.hid (by have h1 := HBq.out; have h2 : B ≤ g9 := own_block_ge ho rfl; omega)
        obtain ⟨v1, v2⟩ := v
        simp only at q0 q1
        subst e1
        clear qq hv KM0 x0 x1 d0 d1 hb hvr ho hq hml
        go_wp2_with fail
        go_at_call 11
        refine KM.out.mono ?_
        rintro e w5 ⟨rfl, rfl⟩
        clear KM hwp
        go_wp2_with fail
        go_roundw
        case rel =>
          go_light
          have hge := HG9.out
          refine ⟨k + 1, by omega, by simp, (HB.out.setCell (by show _ ≤ g9; omega) _).setCell (by show _ ≤ g9; omega) _, ?_⟩
          have h5 := ((HOK.out.stored (k * 2) (.string v1)).1.stored (k * 2 + 1) (.string v2)).1
          rw [vcells_set (mixV vs r n k) k (by rw [mix_len]; exact hlt) (v1, v2), mix_set _ _ _ _ _ HV.out] at h5
          exact h5
        case measure => simp [intOf]; omega
      · have hkI : ¬ (k : Int) < (n : Int) := by omega
        obtain rfl : n = k := by omega
        obtain ⟨ws, hws⟩ : ∃ ws, ws = mixV vs r n n := ⟨_, rfl⟩
        rw [← hws] at HOK
        have HWL : Hid (ws.length = n) := Lib.hid (by rw [hws, mix_len])
        have HWS : Hid (VarS ws) := Lib.hid (by rw [hws]; exact varS_mix HVS.out r n HN.out)
        have hvin : ∀ a c, vin ws a c = vin vs a c := by rw [hws]; exact vin_eq (mix_mem vs r n HN.out)
        obtain ⟨⟨oa, e0⟩, hE⟩ : ∃ R, cmpl p vs = R := ⟨_, rfl⟩
        have hE2 : cmpl p ws = (oa, e0) := by rw [cmpl_congr p hvin, hE]
        obtain ⟨⟨ob, e2⟩, hE3⟩ : ∃ R, cmpl p (ws ++ [(⟨#[120]⟩, ⟨#[]⟩)]) = R := ⟨_, rfl⟩
        have he2 : e0 = 0 → e2 = 0 := fun h => by
          have := cmpl_more p (vs := ws) (us := ws ++ [(⟨#[120]⟩, ⟨#[]⟩)]) (fun a c hh => by rw [vin_iff] at hh ⊢; exact List.mem_append_left _ hh) (by rw [hE2]; exact h)
          rw [hE3] at this; exact this
        have HE2 := Lib.hid he2
        have HBK := Lib.hid (HB3.out.trans (hb.mono h3))
        have hk1 := HBK.out.size
        have KA0 := ty_Compile wr p (by omega) A3 n c3 vs HN.out hc3 (by omega) hvr HVS.out (HY.out.below HBK.out HY.out.lt) (HY2.out.below HBK.out hlt1) (HY3.out.below HBK.out hlt2)
        rw [hE] at KA0
        have KA := Lib.hid KA0
        have hcapn := own_le ho
        clear KA0 hws he2 hvin hE hb hvr ho
        go_wp2_with fail
        go_at_call 24
        refine KA.out.mono ?_
        rintro e w5 ⟨Aa, ca, he, _, _, _, hb5⟩
        have he2 : e = .returned (.tuple #[.slice Aa oa.length ca, .int .i64 (e0 : Nat)]) := he
        subst he2
        have HB5 := Lib.hid (HBK.out.trans (hb5.mono hk1))
        have HO5 := Lib.hid (own_below2 HOK.out hb5)
        have h5 := HB5.out.size
        have hw5 : w3.heap.size ≤ w5.heap.size := Nat.le_trans hsz hb5.size
        have KB0 := ty_Compile w5 p (by omega) (some ⟨g9, 0, none⟩) n cap9 ws HWL.out hcapn (by omega) (varR_own HO5.out HWL.out) HWS.out (HY.out.below HB5.out HY.out.lt) (HY2.out.below HB5.out hlt1) (HY3.out.below HB5.out hlt2)
        rw [hE2] at KB0
        have KB := Lib.hid KB0
        clear he hb5 KA KB0 hE2 HOK HB
        go_wp2_with fail
        go_at_call 24
        refine KB.out.mono ?_
        rintro e w6 ⟨Ab, cb, he, _, _, _, hb6⟩
        have he2 : e = .returned (.tuple #[.slice Ab oa.length cb, .int .i64 (e0 : Nat)]) := he
        subst he2
        have HB6 := Lib.hid (HB5.out.trans (hb6.mono h5))
        have HO6 := Lib.hid (own_below2 HO5.out hb6)
        have h6 := HB6.out.size
        have hw6 : w3.heap.size ≤ w6.heap.size := Nat.le_trans hw5 hb6.size
        have hBw6 : B ≤ w6.heap.size := by have := HBq.out; omega
        clear he hb6 KB HO5 HB5
        go_wp2_with (at_builtin; (refine wpList_append_own _ rfl (.tmp 62) (.tmp 64) 54 rfl B 74 i0 _ 2 32 Tryd.underlying54 HI.out HZ.out HS1.out HS2.out rfl (by decide) _ n _ rfl (World.ownsRow.alloc HO6.out _) ⟨w6.heap.size, 0, none⟩ 1 1 (vcell (⟨#[120]⟩, ⟨#[]⟩)) rfl rfl (World.news_of_block (cs := (vcell (⟨#[120]⟩, ⟨#[]⟩)).toArray) (t := 74) (fr := (0, 0)) (heap_alloc_new w6 _)) (vcell_one _) (by unfold maxLen; omega) (by omega) (by simp; omega) ?_; intro v7 w7 hO7 hg7 hi7; clear hi7; obtain ⟨A7, cap7, rfl⟩ := own_shapeV hO7; have HO7 := Lib.hid hO7; have HG7 := Lib.hid hg7; clear hO7 hg7))
        have HB7 : Hid (Below w.heap.size w w7) := Lib.hid ((HB6.out.alloc h6 _).grown HG7.out (by simp; omega) (fun k e => by have e2 : some g9 = some k := e; injection e2 with e2; have h1 := HBq.out; have h2 : B ≤ g9 := own_block_ge HO6.out rfl; omega))
        have hvl : (ws ++ [((⟨#[120]⟩ : ByteArray), (⟨#[]⟩ : ByteArray))]).length = n + 1 := by rw [List.length_append, HWL.out]; rfl
        have KC0 := ty_Compile w7 p (by omega) A7 (n + 1) cap7 (ws ++ [(⟨#[120]⟩, ⟨#[]⟩)]) hvl (own_le HO7.out) (by omega) (varR_own (by rw [vcells_snoc]; exact HO7.out) hvl) (fun v hv => by
          rcases List.mem_append.1 hv with hv | hv
          · exact HWS.out v hv
          · obtain rfl : v = (⟨#[120]⟩, ⟨#[]⟩) := by simpa using hv
            exact ⟨by decide, by decide⟩) (HY.out.below HB7.out HY.out.lt) (HY2.out.below HB7.out hlt1) (HY3.out.below HB7.out hlt2)
        rw [hE3] at KC0
        have KC := Lib.hid KC0
        clear KC0 hE3 hvl HG7 HO6
        go_at_call 24
        refine KC.out.mono ?_
        rintro e w8 ⟨Ac, cc, he, _, _, _, hb8⟩
        have he2 : e = .returned (.tuple #[.slice Ac ob.length cc, .int .i64 (e2 : Nat)]) := he
        subst he2
        have HB8 := Lib.hid (HB7.out.trans (hb8.mono HB7.out.size))
        clear he hb8 KC HO7
        by_cases hz : e0 = 0
        · have hz2 := HE2.out hz
          subst hz hz2
          clear HE2
          go_wp2_with fail
          go_at_call 21
          refine (ty_begun _ (HY.out.below HB8.out HY.out.lt) (HY2.out.below HB8.out hlt1) (HY3.out.below HB8.out hlt2)).mono ?_
          rintro e wz ⟨rfl, hbz⟩
          have HBZ := Lib.hid (HB8.out.trans (hbz.mono HB8.out.size))
          clear hbz
          go_wp2_with fail
          go_ret
          exact ⟨by first | rfl | simp, HBZ.out⟩
        · have hzI : ((e0 : Int) != 0) = true := by simp; omega
          have hzJ : ¬ (e0 : Int) = 0 := by omega
          clear HE2
          go_wp2_with fail
          go_at_call 21
          refine (ty_begun _ (HY.out.below HB8.out HY.out.lt) (HY2.out.below HB8.out hlt1) (HY3.out.below HB8.out hlt2)).mono ?_
          rintro e wz ⟨rfl, hbz⟩
          have HBZ := Lib.hid (HB8.out.trans (hbz.mono HB8.out.size))
          clear hbz
          go_wp2_with fail
          go_ret
          exact ⟨by first | rfl | simp, HBZ.out⟩
end Go.Proofs.YtmdifoclojogpaaDoor
