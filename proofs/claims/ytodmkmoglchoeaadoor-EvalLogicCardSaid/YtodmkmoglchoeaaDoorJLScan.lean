/- Contracts, joined: LScan, LBeg. -/
import Derived.Test.YtodmkmoglchoeaaDoorJLTok
import Derived.Test.YtodmkmoglchoeaaDoorNLitR
import Derived.Deep.CutRange
import Derived.Scope
import Derived.WalkMore
import Derived.Deep.DeepCutAuto
namespace Go.Proofs.YtodmkmoglchoeaaDoor
/- Package lexer: Scan. -/
section
open Go.RowKit

structure Tok where
  kind : Nat
  text : ByteArray
  at_ : Nat
def symL : List ByteArray := [⟨#[38, 38]⟩, ⟨#[124, 124]⟩, ⟨#[45, 62]⟩, ⟨#[61, 61]⟩, ⟨#[33, 61]⟩, ⟨#[60, 61]⟩, ⟨#[62, 61]⟩, ⟨#[58, 58]⟩, ⟨#[40]⟩, ⟨#[41]⟩, ⟨#[33]⟩, ⟨#[60]⟩, ⟨#[62]⟩, ⟨#[43]⟩, ⟨#[45]⟩]
def symK (i : Nat) : ByteArray := symL.getD i ⟨#[]⟩
def symV (i : Nat) : Value := .string (symK i)
theorem sym_size : ∀ i, i < 15 → 1 ≤ (symK i).size ∧ (symK i).size ≤ 2 := by decide
theorem sym_drop (k : Nat) (h : k < 15) : symL.drop k = symK k :: symL.drop (k + 1) := by
  have hl : k < symL.length := h
  rw [List.drop_eq_getElem_cons hl]
  unfold symK
  rw [List.getD_eq_getElem?_getD, List.getElem?_eq_getElem hl]
  rfl
/-- the first symbol at a place -/
def symAt (s : ByteArray) (a : Nat) : Option ByteArray := symL.find? fun x => hpB (s.extract a s.size) x
def nextTok (s : ByteArray) (a : Nat) : Option Tok :=
  if 0 < wrun s a then
    if kindN (s.extract a (a + wrun s a)) ≠ 0 then some ⟨kindN (s.extract a (a + wrun s a)), s.extract a (a + wrun s a), a⟩ else none
  else (symAt s a).map fun x => ⟨3, x, a⟩
def scanN (s : ByteArray) : Nat → Nat → List Tok → List Tok × Nat × Nat
  | 0, _, l => (l, 0, 0)
  | f + 1, a, l => if a < s.size then
      if bt s a = 32 then scanN s f (a + 1) l
      else match nextTok s a with
        | some t => scanN s f (a + t.text.size) (l ++ [t])
        | none => ([], a, 10)
    else (l, 0, 0)
def scan (s : ByteArray) : List Tok × Nat × Nat := if 400 < s.size then ([], 0, 3) else scanN s s.size 0 []
theorem scanN_end (s : ByteArray) (f : Nat) (l : List Tok) : scanN s f s.size l = (l, 0, 0) := by
  cases f with
  | zero => rfl
  | succ f => rw [scanN, if_neg (by omega)]
/-- the cells of tokens -/
def tcell (t : Tok) : List Value := [.int .i64 t.kind, .string t.text, .int .i64 t.at_]
def tcells (l : List Tok) : List Value := l.flatMap tcell
theorem tcells_snoc (l : List Tok) (t : Tok) : tcells (l ++ [t]) = tcells l ++ tcell t := by simp [tcells]
/-- the table of symbols in memory -/
structure Syms (w : World) : Prop where
  lt : 0 < w.heap.size
  c : ∀ i, i < 15 → w.cell? ⟨0, i, none⟩ = some (symV i)
theorem Syms.below {B : Nat} {w w' : World} (h : Syms w) (hb : Below B w w') (hB : 0 < B) : Syms w' := ⟨Nat.lt_of_lt_of_le h.lt hb.size, fun i hi => by rw [hb.cell (p := ⟨0, i, none⟩) hB]; exact h.c i hi⟩
theorem Syms.range {w : World} (h : Syms w) : w.rangeAt 0 0 (rowL 15 symV) := fun j v hv => by
  have hj : j < 15 := by have := (List.getElem?_eq_some_iff.1 hv).1; rwa [rowL_len] at this
  rw [rowL_get 15 symV j hj] at hv
  rw [Nat.zero_add, h.c j hj, hv]
set_option maxRecDepth 100000 in
theorem index_sym (i : Nat) (h : i < 15) (w : World) :
    (Instr.index 156 (.agg (rowA 15 symV)) (.int .i64 (i : Int))).run Tryd.prog w = .ok (.string (symK i)) w := by
  have hs : (sizeOf 9).run Tryd.prog w = .ok 1 w := by kernel_rfl
  have ha : (isAgg 9).run Tryd.prog w = .ok false w := by kernel_rfl
  have hi : (0 : Int) ≤ (i : Int) ∧ (i : Int) < ((15 : Nat) : Int) := by omega
  simp only [Instr.index, asIntOf, Sem.run_bind, Sem.run_pure, Result.andThen, run_underlying Tryd.underlying156]
  rw [if_pos hi]
  simp only [part, Sem.run_bind, ha, hs, Result.andThen, Int.toNat_natCast, Nat.mul_one, rowA_get 15 symV i h]
  rfl
theorem info_syms : (Tryd.prog.info? 156).map (·.size) = some 15 := by kernel_rfl
/-- Scan's end -/
def RetScan (R : List Tok × Nat × Nat) (w : World) (e : Ending) (w' : World) : Prop := ∃ A cap, e = .returned (.tuple #[.slice A R.1.length cap, .int .i64 (R.2.1 : Nat), .int .i64 (R.2.2 : Nat)]) ∧ w'.ownsRow w.heap.size 154 3 (.slice A R.1.length cap) R.1.length (tcells R.1) ∧ Below w.heap.size w w'
/-- Scan's state -/
structure LexAt (w : World) (toks : List Tok) (v : Value) (w' : World) : Prop where
  below : Below w.heap.size w w'
  own : w'.ownsRow w.heap.size 154 3 v toks.length (tcells toks)
theorem LexAt.call {w w1 w2 : World} {toks : List Tok} {v : Value} (h : LexAt w toks v w1) (hb : Below w1.heap.size w1 w2) : LexAt w toks v w2 :=
  ⟨h.below.trans (hb.mono h.below.size), own_below2 h.own hb⟩
theorem LexAt.app {w W W2 : World} {toks : List Tok} {t : Tok} {v v' : Value} (h : LexAt w toks v W) (o : Obj) (hO : W2.ownsRow w.heap.size 154 3 v' (toks.length + 1) (tcells toks ++ tcell t)) (hg : (W.alloc o).grownBy W2 v.ownBlock) : LexAt w (toks ++ [t]) v' W2 := by
  refine ⟨(h.below.alloc h.below.size o).grown hg (Nat.le_trans h.below.size (by simp)) (fun k hk => own_block_ge h.own hk), ?_⟩
  rw [List.length_append, tcells_snoc]
  exact hO
theorem tcell_one (t : Tok) : ∀ u ∈ tcell t, u.oneCell' = true := by
  intro u hu
  simp only [tcell, List.mem_cons, List.not_mem_nil, or_false] at hu
  rcases hu with rfl | rfl | rfl <;> rfl
set_option maxRecDepth 100000 in
set_option maxHeartbeats 8000000 in
theorem lx_scan (s : ByteArray) (hs : s.size < 9223372036854775807) (w : World) (hy : Syms w) : Calls Tryd.prog 33 #[.string s] w (RetScan (scan s) w) := by
  by_cases h400 : 400 < s.size
  · have h1 : (400 : Int) < (s.size : Int) := by omega
    have e : scan s = ([], 0, 3) := by unfold scan; rw [if_pos h400]
    rw [e]
    clear e
    go_enter Tryd.func33, Tryd.ntmps33
    go_wp2
    refine wp_scope_straight ?_
    go_wp2
    refine bodyPost_ret (v := .tuple #[.slice none 0 0, .int .i64 0, .int .i64 3]) (by simp [results, Tryd.results33, go_sem]) rfl ⟨none, 0, rfl, World.ownsRow_nil _ _ _ _, Below.refl _ _⟩
  · obtain ⟨R, hR⟩ : ∃ R, R = scanN s s.size 0 [] := ⟨_, rfl⟩
    have e : scan s = R := by unfold scan; rw [if_neg h400, hR]
    rw [e]
    have HY := Lib.hid hy
    have HR := Lib.hid hR
    have h1 : ¬ (400 : Int) < (s.size : Int) := by omega
    obtain ⟨i0, hi0⟩ : ∃ i, Tryd.prog.info? 154 = some i := Option.isSome_iff_exists.1 (by kernel_rfl)
    have hz0 : i0.zero = some (.agg #[.int .i64 0, .string ⟨#[]⟩, .int .i64 0]) := by
      have : (Tryd.prog.info? 154).map (·.zero) = some (some (.agg #[.int .i64 0, .string ⟨#[]⟩, .int .i64 0])) := by kernel_rfl
      rw [hi0] at this; simpa using this
    have hy1 : i0.size = 3 := by
      have : (Tryd.prog.info? 154).map (·.size) = some 3 := by kernel_rfl
      rw [hi0] at this; simpa using this
    have hy2 : i0.bytes = 32 := by
      have : (Tryd.prog.info? 154).map (·.bytes) = some 32 := by kernel_rfl
      rw [hi0] at this; simpa using this
    have HI := Lib.hid hi0
    have HZ := Lib.hid hz0
    have HY1 := Lib.hid hy1
    have HY2 := Lib.hid hy2
    clear hi0 hz0 hy1 hy2 e hR hy
    go_enter Tryd.func33, Tryd.ntmps33
    go_wp2
    refine wp_scope_straight ?_
    go_wp2
    go_step3
    go_wp2
    go_loopw [5, 6] (fun v i w' => ∃ (a f : Nat) (toks : List Tok), a ≤ s.size ∧ s.size ≤ f + a ∧ toks.length ≤ a ∧ i = .int .i64 a ∧ Hid (scanN s f a toks = R) ∧ LexAt w toks v w') (fun _ i _ => s.size - (intOf i).toNat)
    case atStart => exact ⟨0, s.size, [], by omega, by omega, by simp, rfl, Lib.hid HR.out.symm, Below.refl _ _, World.ownsRow_nil _ _ _ _⟩
    case round =>
      obtain ⟨a, f, toks, ha, hf, hta, rfl, HS, hL⟩ := hrel
      obtain ⟨A, cap, rfl⟩ := own_form2 hL.own
      have HL := Lib.hid hL
      clear hL
      by_cases hlt : a < s.size
      · have h2 : (a : Int) < (s.size : Int) := by omega
        obtain ⟨f1, rfl⟩ : ∃ f1, f = f1 + 1 := ⟨f - 1, by omega⟩
        obtain ⟨c, hc⟩ : ∃ c, bt s a = c := ⟨_, rfl⟩
        have hbyte : (s[a]'hlt).toNat = c := by rw [bt_at, hc]
        have HC := Lib.hid hc
        clear hc
        by_cases hsp : c = 32
        · have hS2 : scanN s f1 (a + 1) toks = R := by
            have h := HS.out
            rw [scanN, if_pos hlt, HC.out, if_pos hsp] at h
            exact h
          have HS2 := Lib.hid hS2
          subst hsp
          clear hS2
          go_wp2
          go_roundw
          case rel => (go_light; exact ⟨a + 1, f1, toks, by omega, by omega, by omega, by simp, HS2, HL.out⟩)
          case measure => simp [intOf]; omega
        · have hspI : ((c : Int) == 32) = false := by rw [beq_eq_false_iff_ne]; omega
          have hS2 : (match nextTok s a with | some t => scanN s f1 (a + t.text.size) (toks ++ [t]) | none => (([] : List Tok), a, 10)) = R := by
            have h := HS.out
            rw [scanN, if_pos hlt, HC.out, if_neg hsp] at h
            exact h
          have HS2 := Lib.hid hS2
          obtain ⟨n, hn⟩ : ∃ n, wrun s a = n := ⟨_, rfl⟩
          have hle := wrun_le s a ha
          rw [hn] at hle
          have KW : Hid (∀ W, Calls Tryd.prog 47 #[.string s, .int .i64 a] W fun e w' => e = .returned (.string (s.extract a (a + n))) ∧ W = w') := Lib.hid fun W => by rw [← hn]; exact lx_wordAt s a ha hs W
          obtain ⟨x, hx⟩ : ∃ x, s.extract a (a + n) = x := ⟨_, rfl⟩
          have hxs : x.size = n := by rw [← hx, ByteArray.size_extract]; omega
          rw [hx] at KW
          have HN := Lib.hid hn
          have HX := Lib.hid hx
          have hxe : x.toList.isEmpty = !(decide (0 < n)) := by
            have h := toList_nil x
            rw [hxs] at h
            rw [← h]
            cases x.toList <;> rfl
          have hs1 : s.size ≤ 400 := by omega
          clear hS2 hn hx hsp
          by_cases hn0 : 0 < n
          · rw [decide_eq_true hn0, Bool.not_true] at hxe
            obtain ⟨k, hk⟩ : ∃ k, kindN x = k := ⟨_, rfl⟩
            have KK : Hid (∀ W, Calls Tryd.prog 48 #[.string x] W (RetKB (k : Nat) (decide (k ≠ 0)) W)) := Lib.hid fun W => by rw [← hk]; exact lx_kindOf x (by omega) (by omega) W
            have HK := Lib.hid hk
            clear hk
            by_cases hk0 : k = 0
            · have hR2 : R = ([], a, 10) := by
                rw [← HS2.out]; unfold nextTok; rw [HN.out, if_pos hn0, HX.out, HK.out, if_neg (by simp [hk0])]
              have HR2 := Lib.hid hR2
              subst hk0
              clear hR2
              go_wp2_with (first
                | (go_at_call 47; refine (KW.out _).mono ?_; rintro e w1 ⟨rfl, rfl⟩)
                | (go_at_call 48; refine (KK.out _).mono ?_; rintro e w2 ⟨rfl, hb2⟩))
              refine bodyPost_ret (v := .tuple #[.slice none 0 0, .int .i64 a, .int .i64 10]) (by simp [results, Tryd.results33, go_sem]) rfl ?_
              rw [HR2.out]
              exact ⟨none, 0, rfl, World.ownsRow_nil _ _ _ _, (HL.out.call hb2).below⟩
            · have hkd : decide (k ≠ 0) = true := by simp [hk0]
              rw [hkd] at KK
              have hS3 : scanN s f1 (a + n) (toks ++ [⟨k, x, a⟩]) = R := by
                rw [← HS2.out]; unfold nextTok; rw [HN.out, if_pos hn0, HX.out, HK.out, if_pos (by simpa using hk0)]
                simp only [hxs]
              have HS3 := Lib.hid hS3
              have KT : Hid (∀ W, Calls Tryd.prog 49 #[.int .i64 (k : Nat), .string x, .int .i64 (a : Nat)] W (RetX (.agg #[.int .i64 (k : Nat), .string x, .int .i64 (a : Nat)]) W)) := Lib.hid fun W => lx_token k x a (by omega) W
              have hwr : IntKind.i64.wrap ((a : Int) + (n : Int)) = (a : Int) + (n : Int) := IntWalk.i64_in _ (by omega)
              clear hS3 hkd hk0
              go_wp2_with (first
                | (go_at_call 47; refine (KW.out _).mono ?_; rintro e w1 ⟨rfl, rfl⟩)
                | (go_at_call 48; refine (KK.out _).mono ?_; rintro e w2 ⟨rfl, hb2⟩; have HL2 := Lib.hid (HL.out.call hb2); clear hb2)
                | (go_at_call 49; refine (KT.out _).mono ?_; rintro e w3 ⟨rfl, hb3⟩; have HL3 := Lib.hid (HL2.out.call hb3); clear hb3)
                | (at_builtin; (refine wpList_append_own _ rfl (.tmp 38) (.tmp 43) 106 rfl w.heap.size 154 i0 _ 3 32 Tryd.underlying106 HI.out HZ.out HY1.out HY2.out rfl (by decide) _ toks.length _ rfl (World.ownsRow.alloc HL3.out.own _) ⟨w3.heap.size, 0, none⟩ 1 1 (tcell ⟨k, x, a⟩) rfl rfl (World.news_of_block (cs := (tcell ⟨k, x, a⟩).toArray) (t := 154) (fr := (0, 0)) (heap_alloc_new w3 _)) (tcell_one _) (by unfold maxLen; omega) (by omega) (by have := HL3.out.below.size; simp; omega) ?_; intro v4 w4 hO4 hg4 hi4; clear hi4; obtain ⟨A4, cap4, rfl⟩ := own_form2 hO4; have HL4 := Lib.hid (HL3.out.app _ hO4 hg4); clear hO4 hg4)))
              go_roundw
              case rel => (go_light; exact ⟨a + n, f1, toks ++ [⟨k, x, a⟩], by omega, by omega, by rw [List.length_append]; simp; omega, by simp, HS3, HL4.out⟩)
              case measure => simp [intOf]; omega
          · rw [decide_eq_false hn0, Bool.not_false] at hxe
            have hS3 : (match symAt s a with | some y => scanN s f1 (a + y.size) (toks ++ [⟨3, y, a⟩]) | none => (([] : List Tok), a, 10)) = R := by
              rw [← HS2.out]; unfold nextTok; rw [HN.out, if_neg hn0]
              cases symAt s a <;> rfl
            have HS3 := Lib.hid hS3
            have HYr := Lib.hid (HY.out.below HL.out.below HY.out.lt)
            have hai : (a : Int) ≤ (s.size : Int) := by omega
            obtain ⟨t, ht⟩ : ∃ t, s.extract a s.size = t := ⟨_, rfl⟩
            have HT := Lib.hid ht
            obtain ⟨w6, h6⟩ : ∃ q, q = wr := ⟨wr, rfl⟩
            subst h6
            have c0 := HYr.out.c 0 (by decide)
            have c1 := HYr.out.c 1 (by decide)
            have c2 := HYr.out.c 2 (by decide)
            have c3 := HYr.out.c 3 (by decide)
            have c4 := HYr.out.c 4 (by decide)
            have c5 := HYr.out.c 5 (by decide)
            have c6 := HYr.out.c 6 (by decide)
            have c7 := HYr.out.c 7 (by decide)
            have c8 := HYr.out.c 8 (by decide)
            have c9 := HYr.out.c 9 (by decide)
            have c10 := HYr.out.c 10 (by decide)
            have c11 := HYr.out.c 11 (by decide)
            have c12 := HYr.out.c 12 (by decide)
            have c13 := HYr.out.c 13 (by decide)
            have c14 := HYr.out.c 14 (by decide)
            clear hS3 hxs
            go_wp2_with (first
              | (go_at_call 47; refine (KW.out _).mono ?_; rintro e w1 ⟨rfl, rfl⟩))
            go_loopw [5, 6, 50] (fun v i j w' => ∃ k : Nat, k ≤ 15 ∧ v = .slice A toks.length cap ∧ i = .int .i64 a ∧ j = .int .i64 k ∧ Hid ((symL.drop k).find? (fun x => hpB (s.extract a s.size) x) = symAt s a) ∧ w' = w6) (fun _ _ j _ => 15 - (intOf j).toNat)
            case atStart => exact ⟨0, by omega, rfl, rfl, rfl, Lib.hid rfl, rfl⟩
            case round =>
              obtain ⟨k, hk, rfl, rfl, rfl, HF, rfl⟩ := hrel
              by_cases hk15 : k < 15
              · have hkI : (k : Int) < 15 := by omega
                obtain ⟨y, hy⟩ : ∃ y, symK k = y := ⟨_, rfl⟩
                have hix : (Instr.index 156 (.agg #[symV 0, symV 1, symV 2, symV 3, symV 4, symV 5, symV 6, symV 7, symV 8, symV 9, symV 10, symV 11, symV 12, symV 13, symV 14]) (.int .i64 (k : Int))).run Tryd.prog wr = .ok (.string y) wr := by rw [← hy]; exact index_sym k hk15 wr
                have hys : 1 ≤ y.size ∧ y.size ≤ 2 := by rw [← hy]; exact sym_size k hk15
                obtain ⟨b, hb⟩ : ∃ b, hpB t y = b := ⟨_, rfl⟩
                have KH : Hid (∀ W, Calls Tryd.prog 50 #[.string t, .string y] W fun e w' => e = .returned (.bool b) ∧ W = w') := Lib.hid fun W => by rw [← hb]; exact st_has2 t y W
                have hdr := HF.out
                rw [sym_drop k hk15, List.find?_cons, HT.out, hy, hb] at hdr
                have HDR := Lib.hid hdr
                have HBb := Lib.hid hb
                clear hdr hb hy
                clear c0 c1 c2 c3 c4 c5 c6 c7 c8 c9 c10 c11 c12 c13 c14
                cases b
                · have HDR2 : Hid ((symL.drop (k + 1)).find? (fun x => hpB (s.extract a s.size) x) = symAt s a) := Lib.hid (by have h := HDR.out; rw [← HT.out] at h; exact h)
                  go_wp2_with (go_at_call 50; (try rw [ht]); refine (KH.out _).mono ?_; rintro e w1 ⟨rfl, rfl⟩)
                  go_roundw
                  case rel => (go_light; exact ⟨k + 1, by omega, rfl, rfl, by simp, HDR2, by trivial⟩)
                  case measure => simp [intOf]; omega
                · have hsy : symAt s a = some y := by have h := HDR.out; simpa using h.symm
                  have hS4 : scanN s f1 (a + y.size) (toks ++ [⟨3, y, a⟩]) = R := by have h := HS3.out; rw [hsy] at h; exact h
                  have HS4 := Lib.hid hS4
                  have hyle : a + y.size ≤ s.size := by
                    have h := HBb.out
                    unfold hpB at h
                    rw [Bool.and_eq_true, decide_eq_true_iff, ← HT.out, ByteArray.size_extract] at h
                    omega
                  have KT : Hid (∀ W, Calls Tryd.prog 49 #[.int .i64 3, .string y, .int .i64 (a : Nat)] W (RetX (.agg #[.int .i64 3, .string y, .int .i64 (a : Nat)]) W)) := Lib.hid fun W => lx_token 3 y a (by omega) W
                  have hwr : IntKind.i64.wrap ((a : Int) + (y.size : Int)) = (a : Int) + (y.size : Int) := IntWalk.i64_in _ (by omega)
                  clear hsy hS4
                  go_wp2_with (first
                    | (go_at_call 50; (try rw [ht]); refine (KH.out _).mono ?_; rintro e w1 ⟨rfl, rfl⟩)
                    | (go_at_call 49; refine (KT.out _).mono ?_; rintro e w3 ⟨rfl, hb3⟩; have HL3 := Lib.hid (HL.out.call hb3); clear hb3)
                    | (at_builtin; (refine wpList_append_own _ rfl (.tmp 58) (.tmp 62) 106 rfl w.heap.size 154 i0 _ 3 32 Tryd.underlying106 HI.out HZ.out HY1.out HY2.out rfl (by decide) _ toks.length _ rfl (World.ownsRow.alloc HL3.out.own _) ⟨w3.heap.size, 0, none⟩ 1 1 (tcell ⟨3, y, a⟩) rfl rfl (World.news_of_block (cs := (tcell ⟨3, y, a⟩).toArray) (t := 154) (fr := (0, 0)) (heap_alloc_new w3 _)) (tcell_one _) (by unfold maxLen; omega) (by omega) (by have := HL3.out.below.size; simp; omega) ?_; intro v4 w4 hO4 hg4 hi4; clear hi4; obtain ⟨A4, cap4, rfl⟩ := own_form2 hO4; have HL4 := Lib.hid (HL3.out.app _ hO4 hg4); clear hO4 hg4)))
                  go_roundw
                  case rel => (go_light; exact ⟨a + y.size, f1, toks ++ [⟨3, y, a⟩], by omega, by omega, by rw [List.length_append]; simp; omega, by simp, HS4, HL4.out⟩)
                  case measure => simp [intOf]; omega
              · have hkI : ¬ (k : Int) < 15 := by omega
                have hsy : symAt s a = none := by
                  have h := HF.out
                  rw [List.drop_eq_nil_of_le (show symL.length ≤ k by show 15 ≤ k; omega)] at h
                  exact h.symm
                have hR2 : R = ([], a, 10) := by have h := HS3.out; rw [hsy] at h; exact h.symm
                have HR2 := Lib.hid hR2
                clear hsy hR2
                go_wp2
                refine bodyPost_ret (v := .tuple #[.slice none 0 0, .int .i64 a, .int .i64 10]) (by simp [results, Tryd.results33, go_sem]) rfl ?_
                rw [HR2.out]
                exact ⟨none, 0, rfl, World.ownsRow_nil _ _ _ _, HL.out.below⟩
      · have e : a = s.size := by omega
        have hR2 : R = (toks, 0, 0) := by rw [← HS.out, e]; exact scanN_end s f toks
        have HR2 := Lib.hid hR2
        have h2 : ¬ (a : Int) < (s.size : Int) := by omega
        clear hR2 e
        go_wp2
        refine bodyPost_ret (v := .tuple #[.slice A toks.length cap, .int .i64 0, .int .i64 0]) (by simp [results, Tryd.results33, go_sem]) rfl ?_
        rw [HR2.out]
        exact ⟨A, cap, rfl, HL.out.own, HL.out.below⟩
end
/- The sanity check of layer 6; Mod; a text of parentheses. -/
section
open Go.RowKit

/-- the chapter's example -/
def exS : ByteArray := ⟨#[97, 58, 58, 109, 97, 115, 107, 33, 61, 48, 120, 49, 102]⟩
def exL : List Tok := [⟨2, ⟨#[97]⟩, 0⟩, ⟨3, ⟨#[58, 58]⟩, 1⟩, ⟨2, ⟨#[109, 97, 115, 107]⟩, 3⟩, ⟨3, ⟨#[33, 61]⟩, 7⟩, ⟨1, ⟨#[48, 120, 49, 102]⟩, 9⟩]
set_option maxRecDepth 100000 in
theorem ex_scan : scan exS = (exL, 0, 0) := by kernel_rfl
/-- Mod at 3 -/
def md (n : Int) : Nat := ((n.tmod 3 + 3).tmod 3).toNat
theorem tm3 (n : Int) : -2 ≤ n.tmod 3 ∧ n.tmod 3 ≤ 2 := by
  have h1 := Int.tmod_lt_of_pos n (show (0 : Int) < 3 by decide)
  have h2 : -3 < n.tmod 3 := by
    have := Int.lt_tmod_of_pos n (show (0 : Int) < 3 by decide)
    omega
  omega
theorem md_lt (n : Int) : md n < 3 := by
  have h := tm3 n
  unfold md
  have := Int.tmod_lt_of_pos (n.tmod 3 + 3) (show (0 : Int) < 3 by decide)
  omega
theorem pr_dl0 (ns : List Int) : ∀ (s : ByteArray), (ns.foldl (fun r n => r.push (UInt8.ofNat n.toNat)) s).data.toList = s.data.toList ++ ns.map fun n => UInt8.ofNat n.toNat := by
  induction ns with
  | nil => intro s; simp
  | cons x t ih => intro s; rw [List.foldl_cons, ih]; simp
theorem pr_dl (ns : List Int) : (strN ns).data.toList = ns.map fun n => UInt8.ofNat n.toNat := by
  unfold strN; rw [pr_dl0]; rfl
theorem pr_get (s : ByteArray) (i : Nat) (h : i < s.size) : s.data.toList[i]? = some (s[i]'h) := by
  rw [Array.getElem?_toList, Array.getElem?_eq_getElem h]; rfl
theorem pr_len (l : List Int) : (strN l).size = l.length := by
  rw [ByteArray.size, ← Array.length_toList, pr_dl, List.length_map]
theorem pr_snoc (l : List Int) (x : Int) : strN (l ++ [x]) = strN l ++ strN [x] := by
  apply ByteArray.ext
  apply Array.ext'
  rw [ByteArray.data_append, Array.toList_append, pr_dl, pr_dl, pr_dl, List.map_append]
/-- n parentheses -/
def par (n : Nat) : ByteArray := strN (List.replicate n 40)
theorem par_size (n : Nat) : (par n).size = n := by unfold par; rw [pr_len]; simp
theorem par_succ (n : Nat) : par (n + 1) = par n ++ ⟨#[40]⟩ := by
  unfold par
  rw [List.replicate_succ', pr_snoc]
  rfl
theorem bt_of (s : ByteArray) (i : Nat) (b : UInt8) (h : s.data.toList[i]? = some b) : bt s i = b.toNat := by
  have hi : i < s.size := by
    have := (List.getElem?_eq_some_iff.1 h).1
    rwa [Array.length_toList] at this
  rw [pr_get s i hi] at h
  injection h with h
  rw [← bt_at s i hi, h]
theorem par_bt (n a : Nat) (h : a < n) : bt (par n) a = 40 := by
  have e : (par n).data.toList[a]? = some (UInt8.ofNat (40 : Int).toNat) := by
    unfold par; rw [pr_dl]; simp [h]
  rw [bt_of _ _ _ e]; rfl
theorem bt_ext (s : ByteArray) (a : Nat) (h : a < s.size) : bt (s.extract a s.size) 0 = bt s a := by
  have e : (s.extract a s.size).data.toList[0]? = some (s[a]'h) := by
    rw [ByteArray.data_extract, Array.toList_extract, List.extract_eq_take_drop, List.getElem?_take_of_lt (by omega), List.getElem?_drop, Nat.add_zero, pr_get s a h]
  rw [bt_of _ _ _ e, bt_at]
theorem hp_head (t p : ByteArray) (hp : 0 < p.size) (h : hpB t p = true) : bt t 0 = bt p 0 := by
  unfold hpB at h
  rw [Bool.and_eq_true, decide_eq_true_iff, beq_iff_eq, ByteArray.toList_eq, ByteArray.toList_eq] at h
  have h0 : 0 < t.size := by omega
  have e : p.data.toList[0]? = some (t[0]'h0) := by
    rw [← h.2, ByteArray.data_extract, Array.toList_extract, List.extract_eq_take_drop, List.getElem?_take_of_lt (by omega), List.getElem?_drop, Nat.add_zero, pr_get t 0 h0]
  rw [bt_of _ _ _ e, bt_at]
theorem hp_par (t : ByteArray) (h : 0 < t.size) (h40 : bt t 0 = 40) : hpB t ⟨#[40]⟩ = true := by
  unfold hpB
  rw [Bool.and_eq_true, decide_eq_true_iff, beq_iff_eq, ByteArray.toList_eq, ByteArray.toList_eq]
  refine ⟨h, ?_⟩
  rw [ByteArray.data_extract, Array.toList_extract, List.extract_eq_take_drop]
  have e := pr_get t 0 h
  have e2 : t[0]'h = 40 := by
    have := bt_at t 0 h
    rw [h40] at this
    exact UInt8.toNat_inj.1 this
  rw [e2] at e
  cases hl : t.data.toList with
  | nil => rw [hl] at e; cases e
  | cons b r =>
    rw [hl] at e
    simp at e
    subst e
    rfl
theorem par_sym (n a : Nat) (h : a < n) : symAt (par n) a = some ⟨#[40]⟩ := by
  have hs : a < (par n).size := by rw [par_size]; exact h
  have h40 : bt ((par n).extract a (par n).size) 0 = 40 := by rw [bt_ext _ _ hs, par_bt n a h]
  have hz : 0 < ((par n).extract a (par n).size).size := by rw [ByteArray.size_extract]; omega
  unfold symAt
  generalize (par n).extract a (par n).size = t at h40 hz ⊢
  have hno : ∀ p : ByteArray, 0 < p.size → bt p 0 ≠ 40 → hpB t p = false := fun p hp hne => by
    cases hb : hpB t p
    · rfl
    · exact absurd ((hp_head t p hp hb).symm.trans h40) hne
  have hyes := hp_par t hz h40
  unfold symL
  rw [List.find?_cons, hno _ (by decide) (by decide), List.find?_cons, hno _ (by decide) (by decide), List.find?_cons, hno _ (by decide) (by decide), List.find?_cons, hno _ (by decide) (by decide), List.find?_cons, hno _ (by decide) (by decide), List.find?_cons, hno _ (by decide) (by decide), List.find?_cons, hno _ (by decide) (by decide), List.find?_cons, hno _ (by decide) (by decide), List.find?_cons, hyes]
theorem par_scanN (n : Nat) : ∀ (f a : Nat) (l : List Tok), a ≤ n → n ≤ f + a → ∃ l', scanN (par n) f a l = (l', 0, 0) ∧ l'.length = l.length + (n - a) := by
  intro f
  induction f with
  | zero => intro a l ha hf; exact ⟨l, rfl, by omega⟩
  | succ f ih =>
    intro a l ha hf
    by_cases h : a < n
    · have hw : wrun (par n) a = 0 := wrun_stop _ _ (fun h2 => by have := h2.2; rw [par_bt n a h] at this; revert this; decide)
      have hn : nextTok (par n) a = some ⟨3, ⟨#[40]⟩, a⟩ := by
        unfold nextTok; rw [hw, if_neg (by decide), par_sym n a h]; rfl
      obtain ⟨l', h1, h2⟩ := ih (a + 1) (l ++ [⟨3, ⟨#[40]⟩, a⟩]) (by omega) (by omega)
      refine ⟨l', ?_, by rw [h2, List.length_append]; simp; omega⟩
      rw [scanN, if_pos (by rw [par_size]; exact h), par_bt n a h, if_neg (by decide), hn]
      exact h1
    · refine ⟨l, ?_, by omega⟩
      rw [scanN, if_neg (by rw [par_size]; exact h)]
theorem par_scan (n : Nat) (h : n ≤ 400) : ∃ l, scan (par n) = (l, 0, 0) ∧ l.length = n := by
  unfold scan
  rw [par_size, if_neg (by omega)]
  obtain ⟨l, h1, h2⟩ := par_scanN n n 0 [] (by omega) (by omega)
  exact ⟨l, h1, by simpa using h2⟩
end
end Go.Proofs.YtodmkmoglchoeaaDoor
