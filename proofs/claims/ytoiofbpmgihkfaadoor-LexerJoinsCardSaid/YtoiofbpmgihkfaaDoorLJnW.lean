/- LexerJoins: Join, and the law's walk. -/
import Derived.Test.YtoiofbpmgihkfaaDoorLBld2
import Derived.Test.YtoiofbpmgihkfaaDoorLPlcW
namespace Go.Proofs.YtoiofbpmgihkfaaDoor
open Go.RowKit

theorem jnL_take (l : List Tok) (k : Nat) (hk : k < l.length) : jnL (l.take (k + 1)) = (if k = 0 then [] else jnL (l.take k) ++ [32]) ++ bl (l[k]'hk).text := by
  rw [List.take_succ_eq_append_getElem hk, jnL_snoc]
  by_cases h : k = 0
  · subst h; rw [List.take_zero, if_pos rfl, if_pos rfl, List.nil_append]
  · rw [if_neg h, if_neg (by intro e; have := congrArg List.length e; rw [List.length_take, Nat.min_eq_left (by omega)] at this; exact h this)]
    simp
theorem jnL_len (l : List Tok) (h : ∀ t ∈ l, t.text.size ≤ 400) : ∀ k, k ≤ l.length → (jnL (l.take k)).length ≤ k * 401 := by
  intro k
  induction k with
  | zero => intro _; rw [List.take_zero]; exact Nat.le_refl _
  | succ k ih =>
    intro hk
    have h1 := ih (by omega)
    rw [jnL_take l k hk, List.length_append, bl_len]
    have h2 := h _ (List.getElem_mem hk)
    by_cases h0 : k = 0
    · rw [if_pos h0]; simp; omega
    · rw [if_neg h0, List.length_append]; simp; omega
set_option maxRecDepth 100000 in
set_option maxHeartbeats 4000000 in
theorem lx_join (w : World) (l : List Tok) (n cap : Nat) (A : Option Addr) (hn : l.length = n) (_hc : n ≤ cap) (hn4 : n ≤ 400) (ht : ∀ t ∈ l, t.text.size ≤ 400) (h : TokR w A l) :
    Calls Tryd.prog 18 #[.slice A n cap] w (RetX (.string (jn l)) w) := by
  have H := Lib.hid h
  have HN := Lib.hid hn
  have HT := Lib.hid ht
  have HL := Lib.hid (jnL_len l ht)
  clear h hn ht
  go_enter Tryd.func18, Tryd.ntmps18
  have HS0 : Hid (BIs w.heap.size w.heap.size 0 2 75 [] (w.alloc (.cells #[.pointer none, .slice none 0 0] 75))) := Lib.hid (.inl ⟨Nat.le_refl _, by unfold World.shape?; rw [heap_alloc_new]; rfl, by decide, World.cell?_alloc_new .., ⟨none, 0, World.cell?_alloc_new .., World.ownsRow_nil _ _ _ _, by simp [Value.ownBlock], fun _ => ⟨rfl, rfl⟩⟩, fun i => World.frozen?_alloc_new ..⟩)
  have HB0 : Hid (Below w.heap.size w (w.alloc (.cells #[.pointer none, .slice none 0 0] 75))) := Lib.hid ((Below.refl _ _).alloc (Nat.le_refl _) _)
  have hlies : liesAt Tryd.prog Tryd.prog.depth 75 (2 / Tryd.prog.cellsOf 75) 0 75 1 = true := by kernel_rfl
  have hT : 75 ≠ 5 := by decide
  have HLI := Lib.hid hlies
  have HTT := Lib.hid hT
  clear hlies hT
  go_wp2_with fail
  obtain ⟨b, hb⟩ : ∃ b, b = w.heap.size := ⟨_, rfl⟩
  rw [← hb] at HS0 HB0 ⊢
  have HBB := Lib.hid hb
  clear hb
  go_loopw [8] (fun i w' => ∃ k : Nat, k ≤ n ∧ i = .int .i64 k ∧ Below b w w' ∧ b < w'.heap.size ∧ BIs b b 0 2 75 (jnL (l.take k)) w') (fun i _ => n - (intOf i).toNat)
  case atStart => exact ⟨0, by omega, rfl, HB0.out, by have := HBB.out; simp; omega, HS0.out⟩
  case round =>
    clear HS0 HB0
    obtain ⟨k, hk, rfl, hB, hbs, hI⟩ := hrel
    have HB := Lib.hid hB
    have HI := Lib.hid hI
    clear hB hI
    by_cases hkn : k < n
    · have hkI : (k : Int) < (n : Int) := by omega
      have hkl : k < l.length := by rw [HN.out]; exact hkn
      have r1 := H.out.below (by rw [← HBB.out]; exact HB.out)
      obtain ⟨g1, e1, l1, q1⟩ := r1.r.resolve_left (fun e => by rw [e] at hkl; simp at hkl)
      subst e1
      obtain ⟨a0, a1, a2⟩ := q1 k hkl
      have hjn := jnL_take l k hkl
      have hts := HT.out _ (List.getElem_mem hkl)
      have hln := HL.out k (by omega)
      generalize (l[k]'hkl) = tk at a0 a1 a2 hjn hts
      obtain ⟨kd, hkd⟩ : ∃ x : Nat, x = tk.kind := ⟨_, rfl⟩
      obtain ⟨tx, htx⟩ : ∃ x : ByteArray, x = tk.text := ⟨_, rfl⟩
      obtain ⟨ta, hta⟩ : ∃ x : Nat, x = tk.at_ := ⟨_, rfl⟩
      rw [← hkd] at a0
      rw [← htx] at a1 hjn hts
      rw [← hta] at a2
      have HJN := Lib.hid hjn
      have hl16 : (jnL (l.take k)).length ≤ 160400 := by omega
      have HLN := Lib.hid hl16
      clear hkd htx hta q1 r1 hjn hln hl16
      have q1 : (wr.alloc (.cells #[.int .i64 (kd : Int), .string tx, .int .i64 (ta : Int)] 39)).cell? ⟨wr.heap.size, 1, none⟩ = some (.string tx) := by rw [World.cell?_alloc_new]; rfl
      have hblk : (wr.alloc (.cells #[.int .i64 (kd : Int), .string tx, .int .i64 (ta : Int)] 39)).heap[wr.heap.size]? = some (.cells #[.int .i64 (kd : Int), .string tx, .int .i64 (ta : Int)] 39 (0, 0)) := heap_alloc_new ..
      have hbx : wr.heap.size ≠ b := by omega
      have HBK := Lib.hid hblk
      have HB2 := Lib.hid (HB.out.alloc (by omega) (.cells #[.int .i64 (kd : Int), .string tx, .int .i64 (ta : Int)] 39))
      have HI2 := Lib.hid (HI.out.kept ((Below.refl _ wr).alloc (Nat.le_refl _) (.cells #[.int .i64 (kd : Int), .string tx, .int .i64 (ta : Int)] 39)))
      have hbs2 : b < (wr.alloc (.cells #[.int .i64 (kd : Int), .string tx, .int .i64 (ta : Int)] 39)).heap.size := by simp; omega
      clear hblk HB HI hbs
      go_upto_region 5 with (fail)
      generalize wr.alloc (.cells #[.int .i64 (kd : Int), .string tx, .int .i64 (ta : Int)] 39) = WB at q1 HBK HB2 HI2 hbs2 ⊢
      generalize wr.heap.size = bx at q1 HBK hbx ⊢
      by_cases h0 : k = 0
      · subst h0
        have hjn2 : jnL (l.take 1) = [] ++ bl tx := by have := HJN.out; rw [if_pos rfl] at this; exact this
        have HJ2 := Lib.hid hjn2
        have HI3 : Hid (BIs b b 0 2 75 [] WB) := Lib.hid (by have := HI2.out; rw [List.take_zero] at this; exact this)
        clear hjn2 HI2 HJN
        go_wp2_with (go_at_call 33; refine (b_string HI3.out HLI.out HTT.out tx (by omega) (by simp)).mono ?_; rintro e w5 ⟨rfl, hi5, hk5⟩; have HI5 := Lib.hid hi5; have HB5 := Lib.hid (HB2.out.trans hk5.below); have hbs5 : b < w5.heap.size := (by have := hk5.below.size; omega); clear hi5 hk5)
        go_roundw
        case rel => (go_light; exact ⟨1, by omega, by simp, HB5.out, hbs5, by rw [HJ2.out]; exact HI5.out⟩)
        case measure => simp [intOf]; omega
      · have h0I : (0 : Int) < (k : Int) := by omega
        have hjn2 : jnL (l.take (k + 1)) = (jnL (l.take k) ++ [UInt8.ofNat 32]) ++ bl tx := by have := HJN.out; rw [if_neg h0] at this; exact this
        have HJ2 := Lib.hid hjn2
        clear hjn2 HJN
        go_wp2_with (first
          | (go_at_call 32; refine (b_byte HI2.out HLI.out HTT.out 32 (by decide) (by have := HLN.out; omega)).mono ?_; rintro e w4 ⟨rfl, hi4, hk4⟩; have HI4 := Lib.hid hi4; have HB4 := Lib.hid (HB2.out.trans hk4.below); have hbs4 : b < w4.heap.size := (by have := hk4.below.size; omega); have q4 : w4.cell? ⟨bx, 1, none⟩ = some (.string tx) := (by have := hk4.kept bx _ HBK.out (fun e => hbx (by injection e)) (fun c fz e => by injection e with _ e; exact absurd e (by decide)); simp only [World.cell?, this]; rfl); clear hi4 hk4)
          | (go_at_call 33; refine (b_string HI4.out HLI.out HTT.out tx (by omega) (by have := HLN.out; simp; omega)).mono ?_; rintro e w5 ⟨rfl, hi5, hk5⟩; have HI5 := Lib.hid hi5; have HB5 := Lib.hid (HB4.out.trans hk5.below); have hbs5 : b < w5.heap.size := (by have := hk5.below.size; omega); clear hi5 hk5))
        go_roundw
        case rel => (go_light; exact ⟨k + 1, by omega, by simp, HB5.out, hbs5, by rw [HJ2.out]; exact HI5.out⟩)
        case measure => simp [intOf]; omega
    · have hkI : ¬ (k : Int) < (n : Int) := by omega
      have hkn2 : l.take k = l := List.take_of_length_le (by rw [HN.out]; omega)
      have HIF : Hid (BIs b b 0 2 75 (jnL l) wr) := Lib.hid (by have := HI.out; rw [hkn2] at this; exact this)
      have hln : (jnL l).length ≤ 100000000 := by have := HL.out n (by rw [HN.out]; exact Nat.le_refl _); rw [List.take_of_length_le (by rw [HN.out]; exact Nat.le_refl _)] at this; omega
      have HLN := Lib.hid hln
      clear hkn2 hln HI
      go_wp2_with (go_at_call 34; refine (b_text HIF.out HLN.out).mono ?_; rintro e w5 ⟨rfl, hb5⟩; have HB5 := Lib.hid (HB.out.trans hb5); clear hb5)
      go_ret
      exact ⟨rfl, by rw [← HBB.out]; exact HB5.out⟩
theorem kt_at {l l' : List Tok} (h : l'.map kt = l.map kt) (k : Nat) (h1 : k < l.length) (h2 : k < l'.length) : (l'[k]'h2).kind = (l[k]'h1).kind ∧ (l'[k]'h2).text = (l[k]'h1).text := by
  have e := congrArg (fun x => x[k]?) h
  simp only [List.getElem?_map, List.getElem?_eq_getElem h1, List.getElem?_eq_getElem h2, Option.map_some, kt] at e
  injection e with e
  injection e with e1 e2
  exact ⟨e1, e2⟩
set_option maxRecDepth 100000 in
set_option maxHeartbeats 8000000 in
theorem lj_any (w : World) (A : Option Addr) (D n cap : Nat) (l : List Nat) (hr : ReadsL w D A l) (hD : l ≠ [] → D < w.heap.size) (hl : l.length = n) (hn : n ≤ cap) (hcap : cap ≤ maxLen) (hs : Small l) (hy : Syms w) :
    Calls Tryd.prog 5 #[.slice A n cap] w (RetX (.bool true) w) := by
  have KN := Lib.hid (conew_lim 40 (by decide) A D n cap l w hr hD hl hn hcap hs)
  have HY := Lib.hid hy
  clear hr hD hl hn hcap hs hy
  go_enter Tryd.func5, Tryd.ntmps5
  go_wp2_with fail
  go_at_call 11
  refine KN.out.mono ?_
  rintro e w1 ⟨rfl, hb1, hlt1, hc1⟩
  have HB1 := Lib.hid hb1
  have HC1 := Lib.hid hc1
  clear hb1 hc1 KN
  go_wp2_with fail
  go_at_call 12
  refine (cs_pieces w1 w.heap.size (Nat.le_refl _) HC1.out).mono ?_
  rintro e w2 ⟨p, hp, rfl, hb2⟩
  have HB2 := Lib.hid (HB1.out.trans hb2)
  have HP := Lib.hid hp
  clear hb2 hp HC1 HB1 hlt1
  have hts : p.size < 9223372036854775807 := by have := HP.out; omega
  obtain ⟨R, hR⟩ : ∃ R, scan p = R := ⟨_, rfl⟩
  obtain ⟨⟨tl, ri, rc⟩, hRR⟩ : ∃ x : List Tok × Nat × Nat, R = x := ⟨_, rfl⟩
  subst hRR
  have hyr := HY.out.below HB2.out HY.out.lt
  have K1 := lx_scan p hts w2 hyr
  rw [hR] at K1
  have KK1 := Lib.hid K1
  obtain ⟨nn, hnn⟩ : ∃ nn, tl.length = nn := ⟨_, rfl⟩
  have HNN := Lib.hid hnn
  have hnn4 : nn ≤ 400 := by have := scan_len p; rw [hR] at this; rw [← hnn]; exact this
  have HR := Lib.hid hR
  have h2 := HB2.out.size
  clear K1 hR hyr hts
  go_wp2_with fail
  go_at_call 14
  refine KK1.out.mono ?_
  rintro e w6 ⟨A6, c6, he, hO6, hb6⟩
  have he2 : e = .returned (.tuple #[.slice A6 nn c6, .int .i64 (ri : Nat), .int .i64 (rc : Nat)]) := by rw [← hnn]; exact he
  subst he2
  have hc6 : nn ≤ c6 := by
    have := own_le hO6
    rw [← hnn]; exact this
  have T6 := Lib.hid (tokR_own hO6 rfl)
  have HB6 := Lib.hid (HB2.out.trans (hb6.mono h2))
  have hyr := HY.out.below HB6.out HY.out.lt
  have HY6 := Lib.hid hyr
  have h6 := HB6.out.size
  clear he hO6 hb6 KK1 hyr HY hnn
  by_cases h0 : rc = 0
  · subst h0
    have HPL : Hid (∀ t ∈ tl, t.text.size ≤ 400) := Lib.hid (by
      have h := scan_plcd p (by rw [HR.out])
      rw [HR.out] at h
      intro t ht
      have h1 := (h.fit t ht).1
      have h2 := HP.out
      omega)
    have HG : Hid (∀ t ∈ tl, GoodTok t) := Lib.hid (by have h := scan_good p; rw [HR.out] at h; exact h)
    have HL := Lib.hid (jnL_len tl HPL.out)
    clear HR
    obtain ⟨y, hy⟩ : ∃ y, y = jn tl := ⟨_, rfl⟩
    have hys : y.size ≤ 160400 := by
      have h1 := HL.out nn (by rw [HNN.out]; exact Nat.le_refl _)
      rw [List.take_of_length_le (by rw [HNN.out]; exact Nat.le_refl _)] at h1
      rw [hy, ← bl_len, bl_jn]; omega
    have KJ : Hid (Calls Tryd.prog 18 #[.slice A6 nn c6] w6 (RetX (.string y) w6)) := Lib.hid (by rw [hy]; exact lx_join w6 tl nn c6 A6 HNN.out hc6 hnn4 HPL.out T6.out)
    have HJ := Lib.hid hy
    clear hy HL
    go_wp2_with fail
    go_at_call 18
    refine KJ.out.mono ?_
    rintro e w7 ⟨rfl, hb7⟩
    have T7 := Lib.hid (T6.out.below hb7)
    have HB7 := Lib.hid (HB6.out.trans (hb7.mono h6))
    have HY7 := Lib.hid (HY6.out.below hb7 HY6.out.lt)
    have h7 := HB7.out.size
    clear hb7 KJ HB6 HY6 T6
    obtain ⟨R, hR⟩ : ∃ R, scan y = R := ⟨_, rfl⟩
    obtain ⟨⟨ml, mi, mc⟩, hRR⟩ : ∃ x : List Tok × Nat × Nat, R = x := ⟨_, rfl⟩
    subst hRR
    have K1 := lx_scan y (by omega) w7 HY7.out
    rw [hR] at K1
    have KK1 := Lib.hid K1
    obtain ⟨mn, hmn⟩ : ∃ mn, ml.length = mn := ⟨_, rfl⟩
    have HMN := Lib.hid hmn
    have HR := Lib.hid hR
    clear K1 hR
    go_wp2_with fail
    go_at_call 14
    refine KK1.out.mono ?_
    rintro e w8 ⟨A8, c8, he, hO8, hb8⟩
    have he2 : e = .returned (.tuple #[.slice A8 mn c8, .int .i64 (mi : Nat), .int .i64 (mc : Nat)]) := by rw [← hmn]; exact he
    subst he2
    have hc8 : mn ≤ c8 := by
      have := own_le hO8
      rw [← hmn]; exact this
    have T8 := Lib.hid (tokR_own hO8 rfl)
    have T78 := Lib.hid (T7.out.below hb8)
    have HB8 := Lib.hid (HB7.out.trans (hb8.mono h7))
    have HY8 := Lib.hid (HY7.out.below hb8 HY7.out.lt)
    have h8 := HB8.out.size
    clear he hO8 hb8 KK1 hmn HB7 HY7 T7
    by_cases h400 : 400 < y.size
    · have h400I : (400 : Int) < (y.size : Int) := by omega
      have hmc : mc = 3 := by
        have h := HR.out
        unfold scan at h
        rw [if_pos h400] at h
        injection h with _ h
        injection h with _ h
        exact h.symm
      subst hmc
      go_wp2_with (go_at_call 17; refine (lx_begun _ HY8.out).mono ?_; rintro e w9 ⟨rfl, hb9⟩; have HB9 := Lib.hid (HB8.out.trans (hb9.mono h8)); clear hb9)
      go_ret
      exact ⟨by first | rfl | simp, HB9.out⟩
    · have h400I : ¬ (400 : Int) < (y.size : Int) := by omega
      have hsc : mc = 0 ∧ ml.map kt = tl.map kt := by
        obtain ⟨l', e1, e2⟩ := jn_scan tl HG.out (by rw [← HJ.out]; omega)
        rw [← HJ.out, HR.out] at e1
        injection e1 with e3 e4
        injection e4 with _ e5
        rw [e3]
        exact ⟨e5, e2⟩
      obtain ⟨hmc, hkt⟩ := hsc
      subst hmc
      have hmn2 : mn = nn := by
        have := congrArg List.length hkt
        rw [List.length_map, List.length_map, HMN.out, HNN.out] at this
        exact this
      subst hmn2
      have HKT := Lib.hid hkt
      clear hkt HR HG
      go_wp2
      go_loopw [51] (fun i w' => ∃ k : Nat, k ≤ mn ∧ i = .int .i64 k ∧ Below w8.heap.size w8 w') (fun i _ => mn - (intOf i).toNat)
      case atStart => exact ⟨0, by omega, rfl, Below.refl _ _⟩
      case round =>
        obtain ⟨k, hk, rfl, hB⟩ := hrel
        have HB := Lib.hid hB
        clear hB
        by_cases hkn : k < mn
        · have hkI : (k : Int) < (mn : Int) := by omega
          have hk1 : k < tl.length := by rw [HNN.out]; exact hkn
          have hk2 : k < ml.length := by rw [HMN.out]; exact hkn
          have r1 := T78.out.below HB.out
          have r2 := T8.out.below HB.out
          obtain ⟨g1, e1, l1, q1⟩ := r1.r.resolve_left (fun e => by rw [e] at hk1; simp at hk1)
          obtain ⟨g2, e2, l2, q2⟩ := r2.r.resolve_left (fun e => by rw [e] at hk2; simp at hk2)
          subst e1 e2
          obtain ⟨a0, a1, _⟩ := q1 k hk1
          obtain ⟨b0, b1, _⟩ := q2 k hk2
          obtain ⟨f1, f2⟩ := kt_at HKT.out k hk1 hk2
          rw [f1] at b0
          rw [f2] at b1
          generalize (tl[k]'hk1) = tk at a0 a1 b0 b1
          obtain ⟨kd, hkd⟩ : ∃ x : Nat, x = tk.kind := ⟨_, rfl⟩
          obtain ⟨tx, htx⟩ : ∃ x : ByteArray, x = tk.text := ⟨_, rfl⟩
          rw [← hkd] at a0 b0
          rw [← htx] at a1 b1
          clear hkd htx q1 q2 r1 r2 f1 f2
          go_wp2
          go_quiet (fail)
          go_wp2
          go_roundw
          case rel => (go_light; exact ⟨k + 1, by omega, by simp, below_drewN HB.out _⟩)
          case measure => simp [intOf]; omega
        · have hkI : ¬ (k : Int) < (mn : Int) := by omega
          have HBF := Lib.hid (HB8.out.trans (HB.out.mono h8))
          have HYR := Lib.hid (HY8.out.below HB.out HY8.out.lt)
          go_wp2_with (go_at_call 17; refine (lx_begun _ HYR.out).mono ?_; rintro e w9 ⟨rfl, hb9⟩; have HB9 := Lib.hid (HBF.out.trans (hb9.mono HBF.out.size)); clear hb9)
          go_ret
          exact ⟨by first | rfl | simp, HB9.out⟩
  · have h0I : ((rc : Int) == 0) = false := by rw [beq_eq_false_iff_ne]; omega
    go_wp2_with (go_at_call 17; refine (lx_begun _ HY6.out).mono ?_; rintro e w8 ⟨rfl, hb8⟩; have HB8 := Lib.hid (HB6.out.trans (hb8.mono h6)); clear hb8)
    go_ret
    exact ⟨by first | rfl | simp, HB8.out⟩
end Go.Proofs.YtoiofbpmgihkfaaDoor
