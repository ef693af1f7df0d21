/- NumberLiterals, its walk. -/
import Derived.Test.YtbacclhnbecojaaNValsW
import Derived.Test.YtbacclhnbecojaaNLitR
import Derived.Lib.ConvBytes
namespace Go.Proofs.Ytbacclhnbecojaa
open Go.RowKit

/-- the byte of a hexadecimal digit -/
def hexd (d : Nat) : Nat := if d < 10 then 48 + d else 87 + d
/-- the first k hexadecimal digits of v -/
def hexL (v k : Nat) : List Int := (List.range k).map fun j => ((hexd (v / 16 ^ (31 - j) % 16) : Nat) : Int)
theorem hexL_succ (v k : Nat) : hexL v (k + 1) = hexL v k ++ [((hexd (v / 16 ^ (31 - k) % 16) : Nat) : Int)] := by
  unfold hexL; rw [List.range_succ, List.map_append]; rfl
theorem hexL_len (v k : Nat) : (hexL v k).length = k := by simp [hexL]
/-- the table of digits -/
def HXC : ByteArray := ⟨#[48, 49, 50, 51, 52, 53, 54, 55, 56, 57, 97, 98, 99, 100, 101, 102]⟩
theorem hxc_lit : HXC = ⟨#[48, 49, 50, 51, 52, 53, 54, 55, 56, 57, 97, 98, 99, 100, 101, 102]⟩ := rfl
theorem hxc_size : HXC.size = 16 := rfl
theorem hxc_at : ∀ d, (h : d < 16) → (HXC[d]'h).toNat = hexd d := by decide +kernel
theorem mask63 : ∀ i : Nat, i ≤ 124 → bits .and .i64 (i : Int) 63 = ((i % 64 : Nat) : Int) := by
  intro i hi
  have h : ∀ j : Fin 125, bits .and .i64 ((j.1 : Nat) : Int) 63 = ((j.1 % 64 : Nat) : Int) := by decide +kernel
  exact h ⟨i, by omega⟩
theorem and15 (x : Nat) (h : x < 18446744073709551616) : bits .and .u64 (x : Int) 15 = ((x % 16 : Nat) : Int) := by
  have h1 := u64_and_nat x 15 h (by decide)
  rw [show (15 : Nat) = 2 ^ 4 - 1 from rfl, Nat.and_two_pow_sub_one_eq_mod] at h1
  exact h1
theorem mask255 (n : Int) : ∃ r : Nat, r < 256 ∧ bits .and .i64 n 255 = (r : Int) := by
  have h1 : (BitVec.ofInt 64 255).toNat = 2 ^ 8 - 1 := by decide
  refine ⟨(BitVec.ofInt 64 n).toNat % 2 ^ 8, Nat.mod_lt _ (by decide), ?_⟩
  show IntKind.i64.wrap ((BitVec.ofInt 64 n &&& BitVec.ofInt 64 255).toNat : Nat) = _
  rw [BitVec.toNat_and, h1, Nat.and_two_pow_sub_one_eq_mod, IntKind.wrap_i64]
  have : (BitVec.ofInt 64 n).toNat % 2 ^ 8 < 256 := Nat.mod_lt _ (by decide)
  omega
theorem tl_len (v : Nat) (hv : v < 2 ^ 128) : 1 ≤ (tl v).length ∧ (tl v).length ≤ 39 := by
  have hd : (dg v).length ≤ 39 := by
    by_cases h : v = 0
    · subst h; rw [dg_lo (by decide)]; decide
    · rw [← cd_dg h]; exact cd_len (by omega)
  have hp := dg_pos v
  have e : (v : Int).natAbs = v := by omega
  rw [tl_eq, if_neg (by omega), List.append_nil, List.length_reverse, tb_len, e]
  omega
/-- nine texts in memory -/
def Nine (w : World) (B : Nat) (Sx : Nat → ByteArray) : Prop := B < w.heap.size ∧ ∀ j, j < 9 → w.cell? ⟨B, j, none⟩ = some (.string (Sx j))
theorem Nine.call {w w' : World} {B : Nat} {Sx : Nat → ByteArray} (h : Nine w B Sx) (hb : Below w.heap.size w w') : Nine w' B Sx := ⟨Nat.lt_of_lt_of_le h.1 hb.size, fun j hj => by rw [hb.cell (p := ⟨B, j, none⟩) h.1]; exact h.2 j hj⟩
theorem Nine.drew {w : World} {B : Nat} {Sx : Nat → ByteArray} (h : Nine w B Sx) : Nine w.drew B Sx := h
/-- '[]byte(s)' of any text -/
theorem conv_sb (w : World) (s : ByteArray) : ∃ cap W, (convert 9 56 (.string s)).run Try.prog w = .ok (.slice (some ⟨w.heap.size, 0, none⟩) s.size cap) W ∧
    (∀ i, i < s.size → W.cell? ⟨w.heap.size, i, none⟩ = some (.int .u8 (bt s i : Nat))) ∧ (∀ i, i < s.size → W.frozen? ⟨w.heap.size, i, none⟩ = false) ∧ Below w.heap.size w W ∧ w.heap.size < W.heap.size ∧ s.size ≤ cap := by
  refine ⟨grownCap w s.size 0 5, Go.Lib.bytesWorld w 5 s, Go.Lib.run_convert_string_bytes w 9 56 5 s Try.underlying9 Try.underlying56 Try.underlying5, fun i hi => ?_, fun i hi => ?_, ?_, ?_, ?_⟩
  · rw [Go.Lib.bytesWorld_cell w _ _ i hi, ← bt_at s i hi]
    have : s.data.toList.getD i 0 = s[i]'hi := by
      rw [List.getD_eq_getElem?_getD, Array.getElem?_toList, Array.getElem?_eq_getElem hi]; rfl
    rw [this]
  · have h := Go.Lib.bytesWorld_at_new w 5 s
    have hsz : s.size ≤ (Go.Lib.bytesCells w 5 s).size := by unfold Go.Lib.bytesCells; rw [Array.size_append, Array.size_map]; exact Nat.le_add_right _ _
    unfold World.frozen?
    simp only [h]
    simp
    omega
  · exact ⟨rfl, rfl, rfl, by rw [Go.Lib.bytesWorld_size]; omega, fun k hk => Go.Lib.bytesWorld_at_old w _ _ k hk⟩
  · rw [Go.Lib.bytesWorld_size]; omega
  · exact grownCap_ge w s.size 0 5
theorem strN_dl0 (ns : List Int) : ∀ (s : ByteArray), (ns.foldl (fun r n => r.push (UInt8.ofNat n.toNat)) s).data.toList = s.data.toList ++ ns.map fun n => UInt8.ofNat n.toNat := by
  induction ns with
  | nil => intro s; simp
  | cons x t ih => intro s; rw [List.foldl_cons, ih]; simp
theorem strN_dl (ns : List Int) : (strN ns).data.toList = ns.map fun n => UInt8.ofNat n.toNat := by
  unfold strN; rw [strN_dl0]; rfl
theorem dget (s : ByteArray) (i : Nat) (h : i < s.size) : s.data.toList[i]? = some (s[i]'h) := by
  rw [Array.getElem?_toList, Array.getElem?_eq_getElem h]; rfl
/-- the law's world within a round of its loop -/
structure LitW (w : World) (B : Nat) (Sx : Nat → ByteArray) (X Y : Nat) (z : Int) (s : Bool) (A : Option Addr) (n c : Nat) (x0v x1v : Value) (w' : World) : Prop where
  below : Below w.heap.size w w'
  two : Two w' w.heap.size x0v x1v
  nine : Nine w' B Sx
  lx : X < w'.heap.size
  ra : RowAt w' X 6 (wV z)
  bx : BoxI w' Y s A n c z
theorem LitW.call {w w1 w2 : World} {B : Nat} {Sx : Nat → ByteArray} {X Y : Nat} {z : Int} {s : Bool} {A : Option Addr} {n c : Nat} {x0v x1v : Value} (h : LitW w B Sx X Y z s A n c x0v x1v w1) (hb : Below w1.heap.size w1 w2) : LitW w B Sx X Y z s A n c x0v x1v w2 :=
  ⟨h.below.trans (hb.mono h.below.size), h.two.call hb, h.nine.call hb, Nat.lt_of_lt_of_le h.lx hb.size, h.ra.below hb h.lx, h.bx.call hb⟩
theorem LitW.drew {w w1 : World} {B : Nat} {Sx : Nat → ByteArray} {X Y : Nat} {z : Int} {s : Bool} {A : Option Addr} {n c : Nat} {x0v x1v : Value} (h : LitW w B Sx X Y z s A n c x0v x1v w1) : LitW w B Sx X Y z s A n c x0v x1v w1.drew := ⟨h.below.drew, h.two.drew, h.nine.drew, h.lx, h.ra.drew, h.bx.drew⟩
theorem LitW.all {w w' : World} {B : Nat} {Sx : Nat → ByteArray} {X Y : Nat} {z : Int} {s : Bool} {A : Option Addr} {n c : Nat} {x0v x1v : Value} (h : LitW w B Sx X Y z s A n c x0v x1v w') : LitW w B Sx X Y z s A n c x0v x1v w' ∧ w'.cell? ⟨X, 0, none⟩ = some (.int .u32 (wd z 0)) ∧ w'.cell? ⟨X, 1, none⟩ = some (.int .u32 (wd z 1)) ∧ w'.cell? ⟨X, 2, none⟩ = some (.int .u32 (wd z 2)) ∧ w'.cell? ⟨X, 3, none⟩ = some (.int .u32 (wd z 3)) ∧ w'.cell? ⟨X, 4, none⟩ = some (.int .u32 (wd z 4)) ∧ w'.cell? ⟨X, 5, none⟩ = some (.int .u32 (wd z 5)) ∧ w'.cell? ⟨Y, 0, none⟩ = some (.bool s) ∧ w'.cell? ⟨Y, 1, none⟩ = some (.slice A n c) := ⟨h, h.ra.cell 0 (by decide), h.ra.cell 1 (by decide), h.ra.cell 2 (by decide), h.ra.cell 3 (by decide), h.ra.cell 4 (by decide), h.ra.cell 5 (by decide), h.bx.c0, h.bx.c1⟩
/-- .. and behind the loop -/
structure FinW (w : World) (X : Nat) (z : Int) (x0v x1v : Value) (w' : World) : Prop where
  below : Below w.heap.size w w'
  lx : X < w'.heap.size
  ra : RowAt w' X 6 (wV z)
  two : Two w' w.heap.size x0v x1v
theorem FinW.call {w w1 w2 : World} {X : Nat} {z : Int} {x0v x1v : Value} (h : FinW w X z x0v x1v w1) (hb : Below w1.heap.size w1 w2) : FinW w X z x0v x1v w2 :=
  ⟨h.below.trans (hb.mono h.below.size), Nat.lt_of_lt_of_le h.lx hb.size, h.ra.below hb h.lx, h.two.call hb⟩
theorem FinW.drew {w w1 : World} {X : Nat} {z : Int} {x0v x1v : Value} (h : FinW w X z x0v x1v w1) : FinW w X z x0v x1v w1.drew := ⟨h.below.drew, h.lx, h.ra.drew, h.two.drew⟩
theorem FinW.all {w w' : World} {X : Nat} {z : Int} {x0v x1v : Value} (h : FinW w X z x0v x1v w') : FinW w X z x0v x1v w' ∧ w'.cell? ⟨X, 0, none⟩ = some (.int .u32 (wd z 0)) ∧ w'.cell? ⟨X, 1, none⟩ = some (.int .u32 (wd z 1)) ∧ w'.cell? ⟨X, 2, none⟩ = some (.int .u32 (wd z 2)) ∧ w'.cell? ⟨X, 3, none⟩ = some (.int .u32 (wd z 3)) ∧ w'.cell? ⟨X, 4, none⟩ = some (.int .u32 (wd z 4)) ∧ w'.cell? ⟨X, 5, none⟩ = some (.int .u32 (wd z 5)) ∧ w'.cell? ⟨w.heap.size, 0, none⟩ = some x0v ∧ w'.cell? ⟨w.heap.size, 1, none⟩ = some x1v := ⟨h, h.ra.cell 0 (by decide), h.ra.cell 1 (by decide), h.ra.cell 2 (by decide), h.ra.cell 3 (by decide), h.ra.cell 4 (by decide), h.ra.cell 5 (by decide), h.two.c0, h.two.c1⟩
theorem hex_x0 (l : List Int) : hpB (strN ([48, 120] ++ l)) x0 = true := by
  unfold hpB
  have hs : (strN ([48, 120] ++ l)).size = l.length + 2 := by rw [strN_len]; simp
  rw [show x0.size = 2 from rfl, decide_eq_true (by omega), Bool.true_and, beq_iff_eq, x0_list, ByteArray.toList_eq, ByteArray.data_extract]
  have e : (strN ([48, 120] ++ l)).data.toList = [48, 120] ++ l.map fun n => UInt8.ofNat n.toNat := by
    rw [strN_dl]; rfl
  apply List.ext_getElem?
  intro i
  rw [Array.toList_extract, e]
  simp [List.extract]
theorem hex_bt (l : List Int) (hl : ∀ x ∈ l, 0 ≤ x ∧ x < 256) (i : Nat) (hi : i < l.length) : ((bt ((strN ([48, 120] ++ l)).extract 2 (strN ([48, 120] ++ l)).size) i : Nat) : Int) = l[i]'hi := by
  have hs : (strN ([48, 120] ++ l)).size = l.length + 2 := by rw [strN_len]; simp
  have e : (strN ([48, 120] ++ l)).data.toList = [48, 120] ++ l.map fun n => UInt8.ofNat n.toNat := by
    rw [strN_dl]; rfl
  have hz : i < ((strN ([48, 120] ++ l)).extract 2 (strN ([48, 120] ++ l)).size).size := by rw [ext_all, hs]; omega
  rw [← bt_at _ _ hz]
  have e2 : ((strN ([48, 120] ++ l)).extract 2 (strN ([48, 120] ++ l)).size).data.toList[i]? = some (UInt8.ofNat (l[i]'hi).toNat) := by
    rw [ByteArray.data_extract, Array.toList_extract, e]
    have hs2 : (strN (48 :: 120 :: l)).size = l.length + 2 := hs
    simp [List.extract, hs2, hi]
  have e3 := dget _ i hz
  rw [e3] at e2
  injection e2 with e2
  rw [e2]
  have h := hl _ (List.getElem_mem hi)
  rw [UInt8.toNat_ofNat', Nat.mod_eq_of_lt (by omega)]
  omega
theorem hexd_dg (d : Nat) (h : d < 16) : dgN (hexd d) = d ∧ hexd d < 256 := by
  unfold dgN hexd
  split <;> (constructor <;> (try (split <;> (try split) <;> omega)) <;> omega)
theorem hexL_lt (v k : Nat) : ∀ x ∈ hexL v k, 0 ≤ x ∧ x < 256 := by
  intro x hx
  unfold hexL at hx
  rw [List.mem_map] at hx
  obtain ⟨j, _, rfl⟩ := hx
  have := (hexd_dg (v / 16 ^ (31 - j) % 16) (Nat.mod_lt _ (by decide))).2
  omega
theorem hexL_get (v k i : Nat) (hi : i < (hexL v k).length) : (hexL v k)[i]'hi = ((hexd (v / 16 ^ (31 - i) % 16) : Nat) : Int) := by
  simp only [hexL, List.getElem_map, List.getElem_range]
theorem hex_pv (v : Nat) (hv : v < 2 ^ 128) (g : Nat → Nat) (hg : ∀ i, i < 32 → g i = hexd (v / 16 ^ (31 - i) % 16)) : ∀ k, k ≤ 32 → pv 16 g k = some (v / 16 ^ (32 - k)) := by
  intro k
  induction k with
  | zero => intro _; rw [pv, Nat.div_eq_of_lt (by exact hv)]
  | succ k ih =>
    intro hk
    have h := ih (by omega)
    have hd := (hexd_dg (v / 16 ^ (31 - k) % 16) (Nat.mod_lt _ (by decide))).1
    have e : v / 16 ^ (32 - k) * 16 + v / 16 ^ (31 - k) % 16 = v / 16 ^ (32 - (k + 1)) := by
      rw [show 32 - k = (31 - k) + 1 by omega, show 32 - (k + 1) = 31 - k by omega, Nat.pow_succ, ← Nat.div_div_eq_div_mul]
      omega
    rw [pv_step h (by rw [hg k (by omega), hd]; exact Nat.mod_lt _ (by decide)) (by
      rw [hg k (by omega), hd, e]; exact Nat.lt_of_le_of_lt (Nat.div_le_self _ _) hv), hg k (by omega), hd, e]
theorem hex_lit (v : Nat) (hv : v < 2 ^ 128) : litV (strN ([48, 120] ++ hexL v 32)) = some v := by
  have hs : (strN ([48, 120] ++ hexL v 32)).size = 34 := by rw [strN_len]; simp [hexL_len]
  have he : ((strN ([48, 120] ++ hexL v 32)).extract 2 (strN ([48, 120] ++ hexL v 32)).size).size = 32 := by rw [ext_all, hs]
  unfold litV litS litB
  rw [if_pos (hex_x0 _), if_pos (hex_x0 _), if_pos (by rw [he]; decide), he]
  have h := hex_pv v hv (bt ((strN ([48, 120] ++ hexL v 32)).extract 2 (strN ([48, 120] ++ hexL v 32)).size)) (fun i hi => by
    have h1 := hex_bt (hexL v 32) (hexL_lt v 32) i (by rw [hexL_len]; exact hi)
    rw [hexL_get] at h1
    omega) 32 (Nat.le_refl _)
  rw [h]; simp

theorem hex_word (v : Nat) : ∀ k, k ≤ 31 → (if 64 ≤ 4 * (31 - k) then v / 18446744073709551616 / 2 ^ (4 * (31 - k) % 64) % 16 else v % 18446744073709551616 / 2 ^ (4 * (31 - k) % 64) % 16) = v / 16 ^ (31 - k) % 16 := by
  intro k hk
  have h : k = 0 ∨ k = 1 ∨ k = 2 ∨ k = 3 ∨ k = 4 ∨ k = 5 ∨ k = 6 ∨ k = 7 ∨ k = 8 ∨ k = 9 ∨ k = 10 ∨ k = 11 ∨ k = 12 ∨ k = 13 ∨ k = 14 ∨ k = 15 ∨ k = 16 ∨ k = 17 ∨ k = 18 ∨ k = 19 ∨ k = 20 ∨ k = 21 ∨ k = 22 ∨ k = 23 ∨ k = 24 ∨ k = 25 ∨ k = 26 ∨ k = 27 ∨ k = 28 ∨ k = 29 ∨ k = 30 ∨ k = 31 := by omega
  rcases h with rfl | rfl | rfl | rfl | rfl | rfl | rfl | rfl | rfl | rfl | rfl | rfl | rfl | rfl | rfl | rfl | rfl | rfl | rfl | rfl | rfl | rfl | rfl | rfl | rfl | rfl | rfl | rfl | rfl | rfl | rfl | rfl
  · show v / 18446744073709551616 / 1152921504606846976 % 16 = v / 21267647932558653966460912964485513216 % 16
    omega
  · show v / 18446744073709551616 / 72057594037927936 % 16 = v / 1329227995784915872903807060280344576 % 16
    omega
  · show v / 18446744073709551616 / 4503599627370496 % 16 = v / 83076749736557242056487941267521536 % 16
    omega
  · show v / 18446744073709551616 / 281474976710656 % 16 = v / 5192296858534827628530496329220096 % 16
    omega
  · show v / 18446744073709551616 / 17592186044416 % 16 = v / 324518553658426726783156020576256 % 16
    omega
  · show v / 18446744073709551616 / 1099511627776 % 16 = v / 20282409603651670423947251286016 % 16
    omega
  · show v / 18446744073709551616 / 68719476736 % 16 = v / 1267650600228229401496703205376 % 16
    omega
  · show v / 18446744073709551616 / 4294967296 % 16 = v / 79228162514264337593543950336 % 16
    omega
  · show v / 18446744073709551616 / 268435456 % 16 = v / 4951760157141521099596496896 % 16
    omega
  · show v / 18446744073709551616 / 16777216 % 16 = v / 309485009821345068724781056 % 16
    omega
  · show v / 18446744073709551616 / 1048576 % 16 = v / 19342813113834066795298816 % 16
    omega
  · show v / 18446744073709551616 / 65536 % 16 = v / 1208925819614629174706176 % 16
    omega
  · show v / 18446744073709551616 / 4096 % 16 = v / 75557863725914323419136 % 16
    omega
  · show v / 18446744073709551616 / 256 % 16 = v / 4722366482869645213696 % 16
    omega
  · show v / 18446744073709551616 / 16 % 16 = v / 295147905179352825856 % 16
    omega
  · show v / 18446744073709551616 / 1 % 16 = v / 18446744073709551616 % 16
    omega
  · show v % 18446744073709551616 / 1152921504606846976 % 16 = v / 1152921504606846976 % 16
    omega
  · show v % 18446744073709551616 / 72057594037927936 % 16 = v / 72057594037927936 % 16
    omega
  · show v % 18446744073709551616 / 4503599627370496 % 16 = v / 4503599627370496 % 16
    omega
  · show v % 18446744073709551616 / 281474976710656 % 16 = v / 281474976710656 % 16
    omega
  · show v % 18446744073709551616 / 17592186044416 % 16 = v / 17592186044416 % 16
    omega
  · show v % 18446744073709551616 / 1099511627776 % 16 = v / 1099511627776 % 16
    omega
  · show v % 18446744073709551616 / 68719476736 % 16 = v / 68719476736 % 16
    omega
  · show v % 18446744073709551616 / 4294967296 % 16 = v / 4294967296 % 16
    omega
  · show v % 18446744073709551616 / 268435456 % 16 = v / 268435456 % 16
    omega
  · show v % 18446744073709551616 / 16777216 % 16 = v / 16777216 % 16
    omega
  · show v % 18446744073709551616 / 1048576 % 16 = v / 1048576 % 16
    omega
  · show v % 18446744073709551616 / 65536 % 16 = v / 65536 % 16
    omega
  · show v % 18446744073709551616 / 4096 % 16 = v / 4096 % 16
    omega
  · show v % 18446744073709551616 / 256 % 16 = v / 256 % 16
    omega
  · show v % 18446744073709551616 / 16 % 16 = v / 16 % 16
    omega
  · show v % 18446744073709551616 / 1 % 16 = v / 1 % 16
    omega
set_option maxRecDepth 100000 in
set_option maxHeartbeats 16000000 in
theorem nlits_any (w : World) (s : ByteArray) (v zeros : Nat) (at_ : Int) (by_ : Nat) (hv : v < 2 ^ 128) (hz : zeros < 256) (hb : by_ < 256) (ha0 : -9223372036854775808 ≤ at_) (ha1 : at_ ≤ 9223372036854775807) :
    Calls Try.prog 6 #[.string s, .agg #[.int .u64 (hi v), .int .u64 (lo v)], .int .u8 zeros, .int .i64 at_, .int .u8 by_] w (RetX (.bool true) w) := by
  obtain ⟨T, hT⟩ : ∃ x, x = strN (tl v) := ⟨_, rfl⟩
  have hTl : 1 ≤ T.size ∧ T.size ≤ 39 := by rw [hT, strN_len]; exact tl_len v hv
  have KF : Hid (∀ W, Calls Try.prog 24 #[.agg #[.int .u64 (hi v), .int .u64 (lo v)]] W (RetN v W)) := Lib.hid fun W => nn_from v hv W
  have KT : Hid (∀ W, Calls Try.prog 9 #[.agg #[.int .u32 (wd v 0), .int .u32 (wd v 1), .int .u32 (wd v 2), .int .u32 (wd v 3), .int .u32 (wd v 4), .int .u32 (wd v 5)]] W (RetX (.string T) W)) := Lib.hid fun W => by rw [hT]; exact nn_text v (by omega) (by omega) W
  obtain ⟨n, hn⟩ : ∃ n : Nat, n = min s.size 50 := ⟨_, rfl⟩
  have hmin : min (s.size : Int) 50 = (n : Int) := by omega
  have hn1 : (n : Int) ≤ (s.size : Int) := by omega
  have HN : Hid ((s.extract 0 n).size ≤ 50) := Lib.hid (by rw [ByteArray.size_extract]; omega)
  have HV := Lib.hid hv
  have HL1 := Lib.hid hTl.1
  have HL2 := Lib.hid hTl.2
  have HA := Lib.hid (And.intro ha0 ha1)
  have HZ := Lib.hid hz
  have HBY := Lib.hid hb
  clear hT hTl hn ha0 ha1 hz hb hv
  go_enter Try.func6, Try.ntmps6
  go_wp2_with (first
    | (go_at_call 24; refine (KF.out _).mono ?_; rintro e w1 ⟨rfl, hb1⟩)
    | (go_at_call 9; refine (KT.out _).mono ?_; rintro e w2 ⟨rfl, hb2⟩))
  obtain ⟨s1, hs1⟩ : ∃ x, x = s.extract 0 n := ⟨_, rfl⟩
  have HT2 := Lib.hid (((Two.new w (.int .u64 (hi v)) (.int .u64 (lo v)) 48).call hb1).call hb2)
  have HB2 : Hid (Below w.heap.size w w2) := Lib.hid ((((Below.refl _ _).alloc (by simp) _).trans (hb1.mono (by simp))).trans (hb2.mono (by have := hb1.size; simp at this; omega)))
  have HS1 : Hid (s1.size ≤ 50) := Lib.hid (by rw [hs1]; exact HN.out)
  rw [← hs1]
  clear hs1 HN hb1 hb2 hmin hn1
  rw [← hxc_lit]
  go_loopw [12, 13] (fun h i w' => ∃ k : Nat, k ≤ 32 ∧ i = .int .i64 (124 - 4 * (k : Int)) ∧ h = .string (strN ([48, 120] ++ hexL v k)) ∧ Below w.heap.size w w' ∧ Two w' w.heap.size (.int .u64 (hi v)) (.int .u64 (lo v))) (fun _ i _ => (intOf i + 4).toNat)
  case atStart => exact ⟨0, by omega, rfl, rfl, HB2.out, HT2.out⟩
  case round =>
    clear HB2 HT2
    obtain ⟨k, hk, rfl, rfl, hB, hT2⟩ := hrel
    have HB := Lib.hid hB
    have HT2 := Lib.hid hT2
    have hsz := hB.size
    clear hB hT2
    obtain ⟨hx, hhx⟩ : ∃ x, strN ([48, 120] ++ hexL v k) = x := ⟨_, rfl⟩
    have hxl : hx.size = k + 2 := by rw [← hhx, strN_len, List.length_append, hexL_len]; simp; omega
    rw [hhx]
    have HHX := Lib.hid hhx
    clear hhx
    by_cases hk32 : k < 32
    · obtain ⟨i, hiq⟩ : ∃ i : Nat, i = 4 * (31 - k) := ⟨_, rfl⟩
      have ei : 124 - 4 * (k : Int) = (i : Int) := by omega
      obtain ⟨c, hc⟩ : ∃ c, c = i % 64 := ⟨_, rfl⟩
      have hb63 : bits .and .i64 (i : Int) 63 = (c : Int) := by rw [hc]; exact mask63 i (by omega)
      have hw : IntKind.u64.wrap (c : Int) = (c : Int) := IntWalk.u64_in _ (by omega)
      have hm : min c 64 = c := by omega
      obtain ⟨x, hx1⟩ : ∃ x : Nat, x = v % 18446744073709551616 / 2 ^ c := ⟨_, rfl⟩
      obtain ⟨y, hy1⟩ : ∃ y : Nat, y = v / 18446744073709551616 / 2 ^ c := ⟨_, rfl⟩
      have hv := HV.out
      have hlo : lo v / 2 ^ c = (x : Int) := by unfold lo; rw [hx1]; simp
      have hhi : hi v / 2 ^ c = (y : Int) := by unfold hi; rw [hy1, Nat.mod_eq_of_lt (by omega)]; simp
      have hxb : x < 18446744073709551616 := by rw [hx1]; exact Nat.lt_of_le_of_lt (Nat.div_le_self _ _) (by omega)
      have hyb : y < 18446744073709551616 := by rw [hy1]; exact Nat.lt_of_le_of_lt (Nat.div_le_self _ _) (by omega)
      have hax := and15 x hxb
      have hay := and15 y hyb
      have hword := hex_word v k (by omega)
      rw [← hiq, ← hc, ← hx1, ← hy1] at hword
      obtain ⟨d, hd⟩ : ∃ d, d = v / 16 ^ (31 - k) % 16 := ⟨_, rfl⟩
      rw [← hd] at hword
      have hd16 : d < 16 := by rw [hd]; exact Nat.mod_lt _ (by decide)
      have HD := Lib.hid hd
      have hdI : (d : Int) < (HXC.size : Int) := by rw [hxc_size]; omega
      have hdN : d < HXC.size := by rw [hxc_size]; exact hd16
      obtain ⟨e, he⟩ : ∃ e, e = hexd d := ⟨_, rfl⟩
      have hat : (HXC[d]'hdN).toNat = e := by rw [he]; exact hxc_at d hd16
      have HE := Lib.hid he
      have he256 : e < 256 := by rw [he]; exact (hexd_dg d hd16).2
      have c0 := HT2.out.c0
      have c1 := HT2.out.c1
      have hcat : ¬ 9223372036854775807 < hx.size + (strN [(e : Int)]).size := by rw [hxl, strN_len]; simp; omega
      have kc : (convert 56 9 (.slice (some ⟨wr.heap.size, 0, none⟩) 1 1)).run Try.prog (wr.alloc (.cells #[.int .u8 (e : Int)] 5)) = .ok (.string (strN [(e : Int)])) (wr.alloc (.cells #[.int .u8 (e : Int)] 5)) :=
        conv_row (base := 0) [(e : Int)] (World.ownsRow_lit wr #[.int .u8 (e : Int)] 1 (Nat.zero_le _) (by decide) rfl) (by omega)
      rw [ei]
      have hi0 : (0 : Int) ≤ (i : Int) := by omega
      have hgo : ∀ W2, W2 = wr.alloc (.cells #[.int .u8 (e : Int)] 5) → (∃ k' : Nat, k' ≤ 32 ∧ Value.int .i64 ((i : Int) - 4) = .int .i64 (124 - 4 * (k' : Int)) ∧ Value.string (hx ++ strN [(e : Int)]) = .string (strN ([48, 120] ++ hexL v k')) ∧ Below w.heap.size w W2 ∧ Two W2 w.heap.size (.int .u64 (hi v)) (.int .u64 (lo v))) := by
        rintro W2 rfl
        refine ⟨k + 1, by omega, by congr 1; omega, ?_, HB.out.alloc hsz _, HT2.out.alloc _⟩
        rw [hexL_succ, ← List.append_assoc, strN_snoc, HHX.out, ← HD.out, ← HE.out]
      have HGO := Lib.hid hgo
      have hmes : i ≤ 124 := by omega
      clear hgo hd he hiq hx1 hy1 hv hxb hyb ei hc
      by_cases h64 : 64 ≤ i
      · rw [if_pos h64] at hword
        rw [hword] at hay
        have h64I : (64 : Int) ≤ (i : Int) := by omega
        clear hax hlo hxl
        go_wp2
        go_roundw
        case rel => (go_light; exact HGO.out _ rfl)
        case measure => simp [intOf]; omega
      · rw [if_neg h64] at hword
        rw [hword] at hax
        have h64I : ¬ (64 : Int) ≤ (i : Int) := by omega
        clear hay hhi hxl
        go_wp2
        go_roundw
        case rel => (go_light; exact HGO.out _ rfl)
        case measure => simp [intOf]; omega
    · obtain rfl : k = 32 := by omega
      have ei : 124 - 4 * ((32 : Nat) : Int) = -4 := by decide
      rw [ei]
      have HLIT : Hid (litV hx = some v) := Lib.hid (by rw [← HHX.out]; exact hex_lit v HV.out)
      clear HHX ei
      obtain ⟨m, hm⟩ : ∃ m : Nat, m = zeros % 20 := ⟨_, rfl⟩
      have em : (zeros : Int) % 20 = (m : Int) := by omega
      have ew : wrap64 (zeros : Int) = (zeros : Int) := by unfold wrap64; have := HZ.out; omega
      have em2 : (zeros : Int).tmod 20 = (m : Int) := by rw [Int.tmod_eq_emod_of_nonneg (by omega)]; omega
      have hm20 : m < 20 := by omega
      have hx34 : hx.size = 34 := by omega
      clear hm hxl hk hk32
      go_wp2
      go_loopw [15, 16] (fun l i w' => ∃ (k : Nat) (Lg : ByteArray), k ≤ m ∧ i = .int .i64 k ∧ l = .string Lg ∧ Lg.size = k ∧ Below w.heap.size w w' ∧ Two w' w.heap.size (.int .u64 (hi v)) (.int .u64 (lo v))) (fun _ i _ => m - (intOf i).toNat)
      case atStart => exact ⟨0, ⟨#[]⟩, by omega, rfl, rfl, rfl, HB.out, HT2.out⟩
      case round =>
        clear HB HT2
        obtain ⟨k, Lg, hk, rfl, rfl, hlg, hB, hT2⟩ := hrel
        have HB := Lib.hid hB
        have HT2 := Lib.hid hT2
        have hsz := hB.size
        have HLG := Lib.hid hlg
        clear hB hT2
        by_cases hkm : k < m
        · have hkI : (k : Int) < (m : Int) := by omega
          have hcat : ¬ 9223372036854775807 < Lg.size + 1 := by omega
          clear hlg
          go_wp2
          go_roundw
          case rel => (go_light; exact ⟨k + 1, _, by omega, by simp, rfl, by rw [ByteArray.size_append, HLG.out]; rfl, HB.out, HT2.out⟩)
          case measure => simp [intOf]; omega
        · have hkI : ¬ (k : Int) < (m : Int) := by omega
          have hT1 := HL1.out
          have hT39 := HL2.out
          obtain ⟨x, hxx⟩ : ∃ x, x = (Lg ++ T).size := ⟨_, rfl⟩
          have hxv : x = k + T.size := by rw [hxx, ByteArray.size_append, hlg]
          have hc1 : ¬ 9223372036854775807 < Lg.size + T.size := by omega
          obtain ⟨cap, W1, hcv, hcel, hfro, hbW, hltW, hcap⟩ := conv_sb wr (Lg ++ T)
          rw [← hxx] at hcv hcel hfro hcap
          have HBW := Lib.hid hbW
          have HCEL := Lib.hid hcel
          have HFRO := Lib.hid hfro
          have hx1 : (0 : Int) < (x : Int) := by omega
          have hx0 : ¬ x = 0 := by omega
          have hx0N : 0 < x := by omega
          have hx0I : ¬ (x : Int) = 0 := by omega
          obtain ⟨r, hr256, hand⟩ := mask255 at_
          obtain ⟨j, hj⟩ : ∃ j : Nat, j = r % x := ⟨_, rfl⟩
          have hjx : j < x := by rw [hj]; exact Nat.mod_lt _ (by omega)
          have hjI : (j : Int) < (x : Int) := by omega
          have hmod : (r : Int) % (x : Int) = (j : Int) := by rw [hj]; simp
          have hmod2 : (r : Int).tmod (x : Int) = (j : Int) := by rw [Int.tmod_eq_emod_of_nonneg (by omega)]; exact hmod
          have hcj := hcel j hjx
          have hfj := hfro j hjx
          obtain ⟨b, hb⟩ : ∃ b, b = bt (Lg ++ T) j := ⟨_, rfl⟩
          rw [← hb] at hcj
          have hb256 : b < 256 := by rw [hb]; exact bt_lt _ _
          obtain ⟨y, hy⟩ : ∃ y, y = b ^^^ by_ := ⟨_, rfl⟩
          have hxor : bits .xor .u8 (b : Int) (by_ : Int) = (y : Int) := by rw [hy]; exact u8_xor_nat b by_ hb256 HBY.out
          have hy256 : y < 256 := by rw [hy]; exact Nat.xor_lt_two_pow (n := 8) hb256 HBY.out
          have HXV := Lib.hid hxv
          have hx60 : x ≤ 60 := by omega
          have HXX := Lib.hid hxx
          clear hbW hcel hfro hj hb hy hxv hlg hxx
          have hcx : x ≤ cap := hcap
          go_upto_region 19 with fail
          have hwl := HT2.out.lt
          have t2 : Two (W1.setCell ⟨wr.heap.size, j, none⟩ (.int .u8 (y : Int))) w.heap.size (.int .u64 (hi v)) (.int .u64 (lo v)) := by
            have t1 := HT2.out.call HBW.out
            exact ⟨by rw [World.size_setCell]; exact t1.lt, by rw [World.cell?_setCell_far _ _ _ _ (by simp; omega)]; exact t1.c0, by rw [World.cell?_setCell_far _ _ _ _ (by simp; omega)]; exact t1.c1⟩
          have b2 : Below w.heap.size w (W1.setCell ⟨wr.heap.size, j, none⟩ (.int .u8 (y : Int))) := (HB.out.trans (HBW.out.mono hsz)).setCell (by simp; omega) _
          have r2 : ReadsB (W1.setCell ⟨wr.heap.size, j, none⟩ (.int .u8 (y : Int))) (some ⟨wr.heap.size, 0, none⟩) x (fun i => if i = j then y else bt (Lg ++ T) i) := by
            refine .inr ⟨wr.heap.size, 0, rfl, by rw [World.size_setCell]; exact hltW, fun i hi2 => ?_, fun i _ => ?_⟩
            · rw [Nat.zero_add]
              by_cases e : i = j
              · subst e
                dsimp only
                rw [if_pos rfl, World.cell?_setCell_same' _ _ _ (by rw [hcj]; rfl)]
              · dsimp only
                rw [if_neg e, World.cell?_setCell_other _ _ _ _ (by intro h; injection h with _ h2 _; exact e h2.symm)]
                exact HCEL.out i hi2
            · show (if i = j then y else bt (Lg ++ T) i) < 256
              split
              · exact hy256
              · exact bt_lt _ _
          obtain ⟨bd, hbd⟩ : ∃ bd, bd = strG x (fun i => if i = j then y else bt (Lg ++ T) i) := ⟨_, rfl⟩
          have hbs : bd.size = x := by rw [hbd]; unfold strG; rw [strN_len]; simp
          have kc := conv_reads (cap := cap) r2 (by omega)
          rw [← hbd] at kc
          have HBD := Lib.hid hbs
          have hc2 : ¬ 9223372036854775807 < 2 + s1.size := by have := HS1.out; omega
          have hc3 : ¬ 9223372036854775807 < T.size + 1 := by omega
          have hc4 : ¬ 9223372036854775807 < T.size + T.size := by omega
          obtain ⟨Sx, hSx⟩ : ∃ Sx : Nat → ByteArray, Sx = fun j => ([s1, T, Lg ++ T, hx, ⟨#[48, 120]⟩ ++ s1, T ++ ⟨#[48]⟩, T ++ T, bd, ⟨#[]⟩] : List ByteArray).getD j ⟨#[]⟩ := ⟨_, rfl⟩
          have HSZ : Hid (∀ j, (Sx j).size < 9223372036854775807) := Lib.hid fun j => by
            have e1 := HS1.out
            have hall : ∀ t ∈ ([s1, T, Lg ++ T, hx, ⟨#[48, 120]⟩ ++ s1, T ++ ⟨#[48]⟩, T ++ T, bd, ⟨#[]⟩] : List ByteArray), t.size < 9223372036854775807 := by
              intro t ht
              simp only [List.mem_cons, List.not_mem_nil, or_false] at ht
              rcases ht with rfl | rfl | rfl | rfl | rfl | rfl | rfl | rfl | rfl
              · omega
              · omega
              · have := HLG.out; rw [ByteArray.size_append]; omega
              · omega
              · rw [ByteArray.size_append]; show 2 + _ < _; omega
              · rw [ByteArray.size_append]; show _ + 1 < _; omega
              · rw [ByteArray.size_append]; omega
              · omega
              · decide
            rw [hSx]
            dsimp only
            rw [List.getD_eq_getElem?_getD]
            cases h : ([s1, T, Lg ++ T, hx, ⟨#[48, 120]⟩ ++ s1, T ++ ⟨#[48]⟩, T ++ T, bd, ⟨#[]⟩] : List ByteArray)[j]? with
            | none => decide
            | some t => exact hall t (List.mem_of_getElem? h)
          clear hbd hbs r2 hcj hfj hxor hand hmod hmod2 hcv hT1 em em2 ew
          generalize W1.setCell ⟨wr.heap.size, j, none⟩ (.int .u8 (y : Int)) = W2 at kc t2 b2 ⊢
          have z2 := b2.size
          have hnine : Nine (W2.alloc (.cells #[.string s1, .string T, .string (Lg ++ T), .string hx, .string (⟨#[48, 120]⟩ ++ s1), .string (T ++ ⟨#[48]⟩), .string (T ++ T), .string bd, .string ⟨#[]⟩] 9)) W2.heap.size Sx := by
            refine ⟨by simp, fun j hj => ?_⟩
            have hj9 : j = 0 ∨ j = 1 ∨ j = 2 ∨ j = 3 ∨ j = 4 ∨ j = 5 ∨ j = 6 ∨ j = 7 ∨ j = 8 := by omega
            rw [hSx, World.cell?_alloc_new]
            rcases hj9 with rfl | rfl | rfl | rfl | rfl | rfl | rfl | rfl | rfl <;> rfl
          have HN9 := Lib.hid hnine
          have HT9 := Lib.hid (t2.alloc (.cells #[.string s1, .string T, .string (Lg ++ T), .string hx, .string (⟨#[48, 120]⟩ ++ s1), .string (T ++ ⟨#[48]⟩), .string (T ++ T), .string bd, .string ⟨#[]⟩] 9))
          have HB9 := Lib.hid (b2.alloc z2 (.cells #[.string s1, .string T, .string (Lg ++ T), .string hx, .string (⟨#[48, 120]⟩ ++ s1), .string (T ++ ⟨#[48]⟩), .string (T ++ T), .string bd, .string ⟨#[]⟩] 9))
          clear hnine hSx t2 b2 HB HT2 HBW HCEL HFRO
          go_upto_region 20 with fail
          generalize W2.heap.size = B9 at HN9 ⊢
          generalize W2.alloc (.cells #[.string s1, .string T, .string (Lg ++ T), .string hx, .string (⟨#[48, 120]⟩ ++ s1), .string (T ++ ⟨#[48]⟩), .string (T ++ T), .string bd, .string ⟨#[]⟩] 9) = W3 at HN9 HT9 HB9 ⊢
          clear kc HBD hc1 hc2 hc3 hc4 hx0 hx1 hx0N hx0I hjx hjI hy256 hb256 hr256 hltW hcap hcx hkm hkI hsz hwl z2 hT39 HXV HXX HLG hx60
          go_loopw [103] (fun i w' => ∃ k : Nat, k ≤ 9 ∧ i = .int .i64 k ∧ Below w.heap.size w w' ∧ Two w' w.heap.size (.int .u64 (hi v)) (.int .u64 (lo v)) ∧ Nine w' B9 Sx) (fun i _ => 9 - (intOf i).toNat)
          case atStart => exact ⟨0, by omega, rfl, HB9.out, HT9.out, HN9.out⟩
          case round =>
            clear HN9 HT9 HB9
            obtain ⟨k, hk, rfl, hB, hT2, hN⟩ := hrel
            have HB := Lib.hid hB
            have HT2 := Lib.hid hT2
            have HN := Lib.hid hN
            have hsz := hB.size
            clear hB hT2 hN
            by_cases hk9 : k < 9
            · have hkI : (k : Int) < 9 := by omega
              obtain ⟨t, ht⟩ : ∃ t, t = Sx k := ⟨_, rfl⟩
              have hcell : wr.cell? ⟨B9, k, none⟩ = some (.string t) := by rw [ht]; exact HN.out.2 k hk9
              have hts : t.size < 9223372036854775807 := by rw [ht]; exact HSZ.out k
              obtain ⟨z, hz⟩ : ∃ z : Int, z = (((litV t).getD 0 : Nat) : Int) := ⟨_, rfl⟩
              obtain ⟨o, ho⟩ : ∃ o, o = (litV t).isSome := ⟨_, rfl⟩
              have KP : Hid (∀ W, Calls Try.prog 25 #[.string t] W (RetNB z o W)) := Lib.hid fun W => by rw [hz, ho]; exact nn_literal t hts W
              have KR : Hid (∀ W, Calls Try.prog 26 #[.string t] W (RetFB z o W)) := Lib.hid fun W => by rw [hz, ho]; exact ri_literal t hts W
              have hzb : 0 ≤ z ∧ z < 340282366920938463463374607431768211456 := by
                rw [hz]
                cases hl : litV t with
                | none => exact ⟨by simp, by simp⟩
                | some a =>
                  have h1 : a < 340282366920938463463374607431768211456 := by
                    unfold litV at hl; split at hl
                    · exact pv_lt hl
                    · cases hl
                  simp only [Option.getD_some]; omega
              obtain ⟨U, hU⟩ : ∃ U, U = strN (tl z) := ⟨_, rfl⟩
              have KTn : Hid (∀ W, Calls Try.prog 9 #[.agg #[.int .u32 (wd z 0), .int .u32 (wd z 1), .int .u32 (wd z 2), .int .u32 (wd z 3), .int .u32 (wd z 4), .int .u32 (wd z 5)]] W (RetX (.string U) W)) := Lib.hid fun W => by rw [hU]; exact nn_text z (by omega) (by omega) W
              have KTr : Hid (∀ W s A n c, IntS W s A n c z → Calls Try.prog 10 #[.agg #[.bool s, .slice A n c]] W (RetX (.string U) W)) := Lib.hid fun W s A n c h => by rw [hU]; exact ri_text W s A n c z h
              clear ht hz ho hzb hU hts
              go_wp2_with fail
              go_at_call 25
              refine (KP.out _).mono ?_
              rintro e w4 ⟨rfl, hb4⟩
              have HB4 := Lib.hid (HB.out.trans (hb4.mono hsz))
              have HT4 := Lib.hid (HT2.out.call hb4)
              have HN4 := Lib.hid (HN.out.call hb4)
              have hs4 := HB4.out.size
              clear hb4 hcell
              go_wp2_with fail
              go_at_call 26
              refine (KR.out _).mono ?_
              rintro e w5 ⟨s5, A5, n5, c5, rfl, hI5, hb5⟩
              have al4 : Below w4.heap.size w4 (w4.alloc (.cells #[.int .u32 (wd z 0), .int .u32 (wd z 1), .int .u32 (wd z 2), .int .u32 (wd z 3), .int .u32 (wd z 4), .int .u32 (wd z 5)] 27)) := (Below.refl _ _).alloc (by simp) _
              have al5 : Below w5.heap.size w5 (w5.alloc (.cells #[.bool s5, .slice A5 n5 c5] 30)) := (Below.refl _ _).alloc (by simp) _
              have s5a : w4.heap.size + 1 ≤ w5.heap.size := by have := hb5.size; simpa using this
              have ra := (((RowAt.new w4 6 (wV z) 27).below hb5 (by simp)).below al5 (by omega))
              have bb : Below w.heap.size w (w5.alloc (.cells #[.bool s5, .slice A5 n5 c5] 30)) := ((HB4.out.trans (al4.mono hs4)).trans (hb5.mono (by simp; omega))).trans (al5.mono (by omega))
              have HW := Lib.hid (show LitW w B9 Sx w4.heap.size w5.heap.size z s5 A5 n5 c5 (.int .u64 (hi v)) (.int .u64 (lo v)) (w5.alloc (.cells #[.bool s5, .slice A5 n5 c5] 30)) from ⟨bb, ((HT4.out.call al4).call hb5).call al5, ((HN4.out.call al4).call hb5).call al5, by simp; omega, ra, BoxI.new hI5⟩)
              clear al4 al5 ra bb hb5 hI5 HB HT2 HN HB4 HT4 HN4 KP KR
              go_upto_region 24 with fail
              generalize w4.heap.size = X9 at HW ⊢
              generalize w5.heap.size = Y9 at HW ⊢
              generalize w5.alloc (.cells #[.bool s5, .slice A5 n5 c5] 30) = W5 at HW ⊢
              have hI0 := HW.out.drew.bx.v
              cases o
              · have HV5 := Lib.hid HW.out.drew
                refine wp_region_noPanic ?_
                refine wp_region_held_drew (S := fun w' => LitW w B9 Sx X9 Y9 z s5 A5 n5 c5 (.int .u64 (hi v)) (.int .u64 (lo v)) w' ∧ w'.cell? ⟨X9, 0, none⟩ = some (.int .u32 (wd z 0)) ∧ w'.cell? ⟨X9, 1, none⟩ = some (.int .u32 (wd z 1)) ∧ w'.cell? ⟨X9, 2, none⟩ = some (.int .u32 (wd z 2)) ∧ w'.cell? ⟨X9, 3, none⟩ = some (.int .u32 (wd z 3)) ∧ w'.cell? ⟨X9, 4, none⟩ = some (.int .u32 (wd z 4)) ∧ w'.cell? ⟨X9, 5, none⟩ = some (.int .u32 (wd z 5)) ∧ w'.cell? ⟨Y9, 0, none⟩ = some (.bool s5) ∧ w'.cell? ⟨Y9, 1, none⟩ = some (.slice A5 n5 c5)) (by kernel_rfl) (LitW.drew HW.out).all (fun hHeld => ?_)
                refine wpAnyH_take (i := 0) (oi := ({ dst := some 117, op := Op.move (Operand.tmp 21), type := _, pos := "law.go:80", after := _, guard := none } : Oper)) (v := ?_) rfl (by kernel_rfl) (by kernel_rfl) (by kernel_rfl) (fun _ _ _ h => h) (Or.inl ⟨by rfl, ?_⟩) hHeld ?_
                rotate_left
                · (intro w1 hSw; (try dsimp only at hSw); go_simp; all_goals with_reducible rfl)
                (try simp only [Act.put, List.setIfInBounds_toArray, List.set_cons_zero, List.set_cons_succ])
                refine wpAnyH_take (i := 1) (oi := ({ dst := some 118, op := Op.move (Operand.tmp 23), type := _, pos := "law.go:80", after := _, guard := none } : Oper)) (v := ?_) rfl (by kernel_rfl) (by kernel_rfl) (by kernel_rfl) (fun _ _ _ h => h) (Or.inl ⟨by rfl, ?_⟩) hHeld ?_
                rotate_left
                · (intro w1 hSw; (try dsimp only at hSw); go_simp; all_goals with_reducible rfl)
                (try simp only [Act.put, List.setIfInBounds_toArray, List.set_cons_zero, List.set_cons_succ])
                refine wpAnyH_take (i := 2) (oi := ({ dst := some 119, op := Op.binOp BinOp.neq 4 (Operand.tmp 117) (Operand.tmp 118) 4, type := _, pos := "law.go:80", after := _, guard := none } : Oper)) (v := ?_) rfl (by kernel_rfl) (by kernel_rfl) (by kernel_rfl) (fun _ _ _ h => h) (Or.inl ⟨by rfl, ?_⟩) hHeld ?_
                rotate_left
                · (intro w1 hSw; (try dsimp only at hSw); go_simp; all_goals with_reducible rfl)
                (try simp only [Act.put, List.setIfInBounds_toArray, List.set_cons_zero, List.set_cons_succ])
                refine wpAnyH_take (i := 3) (oi := ({ dst := some 120, op := Op.move (Operand.tmp 119), type := _, pos := "law.go:80", after := _, guard := none } : Oper)) (v := ?_) rfl (by kernel_rfl) (by kernel_rfl) (by kernel_rfl) (fun _ _ _ h => h) (Or.inl ⟨by rfl, ?_⟩) hHeld ?_
                rotate_left
                · (intro w1 hSw; (try dsimp only at hSw); go_simp; all_goals with_reducible rfl)
                (try simp only [Act.put, List.setIfInBounds_toArray, List.set_cons_zero, List.set_cons_succ])
                refine wpAnyH_take (i := 4) (oi := ({ dst := some 121, op := Op.move (Operand.tmp 21), type := _, pos := "law.go:80", after := _, guard := some (3, false) } : Oper)) (v := ?_) rfl (by kernel_rfl) (by kernel_rfl) (by kernel_rfl) (fun _ _ _ h => h) (Or.inl ⟨by rfl, ?_⟩) hHeld ?_
                rotate_left
                · (intro w1 hSw; (try dsimp only at hSw); go_simp; all_goals with_reducible rfl)
                (try simp only [Act.put, List.setIfInBounds_toArray, List.set_cons_zero, List.set_cons_succ])
                refine wpAnyH_take (i := 5) (oi := ({ dst := some 122, op := Op.move (Operand.tmp 121), type := _, pos := "law.go:80", after := _, guard := some (3, false) } : Oper)) (v := ?_) rfl (by kernel_rfl) (by kernel_rfl) (by kernel_rfl) (fun _ _ _ h => h) (Or.inl ⟨by rfl, ?_⟩) hHeld ?_
                rotate_left
                · (intro w1 hSw; (try dsimp only at hSw); go_simp; all_goals with_reducible rfl)
                (try simp only [Act.put, List.setIfInBounds_toArray, List.set_cons_zero, List.set_cons_succ])
                refine wpAnyH_take (i := 6) (oi := ({ dst := some 123, op := Op.load 27 (Operand.tmp 20), type := _, pos := "law.go:80", after := _, guard := some (5, true) } : Oper)) (v := undef) rfl (by kernel_rfl) (by kernel_rfl) (by kernel_rfl) (fun _ _ _ h => h) (Or.inr ⟨by rfl, rfl⟩) hHeld ?_
                (try simp only [Act.put, List.setIfInBounds_toArray, List.set_cons_zero, List.set_cons_succ])
                refine wpAnyH_take (i := 7) (oi := ({ dst := some 124, op := Op.call { callee := Callee.value (Operand.func 9), args := #[Operand.tmp 123], argTypes := _ }, type := _, pos := "law.go:80", after := _, guard := some (5, true) } : Oper)) (v := undef) rfl (by kernel_rfl) (by kernel_rfl) (by kernel_rfl) (fun _ _ _ h => h) (Or.inr ⟨by rfl, rfl⟩) hHeld ?_
                (try simp only [Act.put, List.setIfInBounds_toArray, List.set_cons_zero, List.set_cons_succ])
                refine wpAnyH_take (i := 8) (oi := ({ dst := some 125, op := Op.load 30 (Operand.tmp 22), type := _, pos := "law.go:80", after := _, guard := some (5, true) } : Oper)) (v := undef) rfl (by kernel_rfl) (by kernel_rfl) (by kernel_rfl) (fun _ _ _ h => h) (Or.inr ⟨by rfl, rfl⟩) hHeld ?_
                (try simp only [Act.put, List.setIfInBounds_toArray, List.set_cons_zero, List.set_cons_succ])
                refine wpAnyH_take (i := 9) (oi := ({ dst := some 126, op := Op.call { callee := Callee.value (Operand.func 10), args := #[Operand.tmp 125], argTypes := _ }, type := _, pos := "law.go:80", after := _, guard := some (5, true) } : Oper)) (v := undef) rfl (by kernel_rfl) (by kernel_rfl) (by kernel_rfl) (fun _ _ _ h => h) (Or.inr ⟨by rfl, rfl⟩) hHeld ?_
                (try simp only [Act.put, List.setIfInBounds_toArray, List.set_cons_zero, List.set_cons_succ])
                refine wpAnyH_take (i := 10) (oi := ({ dst := some 127, op := Op.binOp BinOp.neq 9 (Operand.tmp 124) (Operand.tmp 126) 9, type := _, pos := "law.go:80", after := _, guard := some (5, true) } : Oper)) (v := undef) rfl (by kernel_rfl) (by kernel_rfl) (by kernel_rfl) (fun _ _ _ h => h) (Or.inr ⟨by rfl, rfl⟩) hHeld ?_
                (try simp only [Act.put, List.setIfInBounds_toArray, List.set_cons_zero, List.set_cons_succ])
                refine wpAnyH_take (i := 11) (oi := ({ dst := some 128, op := Op.pick (Operand.tmp 122) (Operand.tmp 127) (Operand.const (Value.bool false)), type := _, pos := "law.go:80", after := _, guard := some (3, false) } : Oper)) (v := ?_) rfl (by kernel_rfl) (by kernel_rfl) (by kernel_rfl) (fun _ _ _ h => h) (Or.inl ⟨by rfl, ?_⟩) hHeld ?_
                rotate_left
                · (intro w1 hSw; (try dsimp only at hSw); go_simp; all_goals with_reducible rfl)
                (try simp only [Act.put, List.setIfInBounds_toArray, List.set_cons_zero, List.set_cons_succ])
                refine wpAnyH_take (i := 12) (oi := ({ dst := some 129, op := Op.pick (Operand.tmp 120) (Operand.const (Value.bool true)) (Operand.tmp 128), type := _, pos := "law.go:80", after := _, guard := none } : Oper)) (v := ?_) rfl (by kernel_rfl) (by kernel_rfl) (by kernel_rfl) (fun _ _ _ h => h) (Or.inl ⟨by rfl, ?_⟩) hHeld ?_
                rotate_left
                · (intro w1 hSw; (try dsimp only at hSw); go_simp; all_goals with_reducible rfl)
                (try simp only [Act.put, List.setIfInBounds_toArray, List.set_cons_zero, List.set_cons_succ])
                refine wpAnyH_done (by kernel_rfl) ?_ _
                refine NoPanic.normal ?_
                clear HW hI0 KTn KTr
                go_wp2
                go_roundw
                case rel => (go_light; exact ⟨k + 1, by omega, by simp, HV5.out.below, HV5.out.two, HV5.out.nine⟩)
                case measure => simp [intOf]; omega
              · refine wp_region_noPanic ?_
                refine wp_region_held_drew (S := fun w' => LitW w B9 Sx X9 Y9 z s5 A5 n5 c5 (.int .u64 (hi v)) (.int .u64 (lo v)) w' ∧ w'.cell? ⟨X9, 0, none⟩ = some (.int .u32 (wd z 0)) ∧ w'.cell? ⟨X9, 1, none⟩ = some (.int .u32 (wd z 1)) ∧ w'.cell? ⟨X9, 2, none⟩ = some (.int .u32 (wd z 2)) ∧ w'.cell? ⟨X9, 3, none⟩ = some (.int .u32 (wd z 3)) ∧ w'.cell? ⟨X9, 4, none⟩ = some (.int .u32 (wd z 4)) ∧ w'.cell? ⟨X9, 5, none⟩ = some (.int .u32 (wd z 5)) ∧ w'.cell? ⟨Y9, 0, none⟩ = some (.bool s5) ∧ w'.cell? ⟨Y9, 1, none⟩ = some (.slice A5 n5 c5)) (by kernel_rfl) (LitW.drew HW.out).all (fun hHeld => ?_)
                refine wpAnyH_take (i := 0) (oi := ({ dst := some 117, op := Op.move (Operand.tmp 21), type := _, pos := "law.go:80", after := _, guard := none } : Oper)) (v := ?_) rfl (by kernel_rfl) (by kernel_rfl) (by kernel_rfl) (fun _ _ _ h => h) (Or.inl ⟨by rfl, ?_⟩) hHeld ?_
                rotate_left
                · (intro w1 hSw; (try dsimp only at hSw); go_simp; all_goals with_reducible rfl)
                (try simp only [Act.put, List.setIfInBounds_toArray, List.set_cons_zero, List.set_cons_succ])
                refine wpAnyH_take (i := 1) (oi := ({ dst := some 118, op := Op.move (Operand.tmp 23), type := _, pos := "law.go:80", after := _, guard := none } : Oper)) (v := ?_) rfl (by kernel_rfl) (by kernel_rfl) (by kernel_rfl) (fun _ _ _ h => h) (Or.inl ⟨by rfl, ?_⟩) hHeld ?_
                rotate_left
                · (intro w1 hSw; (try dsimp only at hSw); go_simp; all_goals with_reducible rfl)
                (try simp only [Act.put, List.setIfInBounds_toArray, List.set_cons_zero, List.set_cons_succ])
                refine wpAnyH_take (i := 2) (oi := ({ dst := some 119, op := Op.binOp BinOp.neq 4 (Operand.tmp 117) (Operand.tmp 118) 4, type := _, pos := "law.go:80", after := _, guard := none } : Oper)) (v := ?_) rfl (by kernel_rfl) (by kernel_rfl) (by kernel_rfl) (fun _ _ _ h => h) (Or.inl ⟨by rfl, ?_⟩) hHeld ?_
                rotate_left
                · (intro w1 hSw; (try dsimp only at hSw); go_simp; all_goals with_reducible rfl)
                (try simp only [Act.put, List.setIfInBounds_toArray, List.set_cons_zero, List.set_cons_succ])
                refine wpAnyH_take (i := 3) (oi := ({ dst := some 120, op := Op.move (Operand.tmp 119), type := _, pos := "law.go:80", after := _, guard := none } : Oper)) (v := ?_) rfl (by kernel_rfl) (by kernel_rfl) (by kernel_rfl) (fun _ _ _ h => h) (Or.inl ⟨by rfl, ?_⟩) hHeld ?_
                rotate_left
                · (intro w1 hSw; (try dsimp only at hSw); go_simp; all_goals with_reducible rfl)
                (try simp only [Act.put, List.setIfInBounds_toArray, List.set_cons_zero, List.set_cons_succ])
                refine wpAnyH_take (i := 4) (oi := ({ dst := some 121, op := Op.move (Operand.tmp 21), type := _, pos := "law.go:80", after := _, guard := some (3, false) } : Oper)) (v := ?_) rfl (by kernel_rfl) (by kernel_rfl) (by kernel_rfl) (fun _ _ _ h => h) (Or.inl ⟨by rfl, ?_⟩) hHeld ?_
                rotate_left
                · (intro w1 hSw; (try dsimp only at hSw); go_simp; all_goals with_reducible rfl)
                (try simp only [Act.put, List.setIfInBounds_toArray, List.set_cons_zero, List.set_cons_succ])
                refine wpAnyH_take (i := 5) (oi := ({ dst := some 122, op := Op.move (Operand.tmp 121), type := _, pos := "law.go:80", after := _, guard := some (3, false) } : Oper)) (v := ?_) rfl (by kernel_rfl) (by kernel_rfl) (by kernel_rfl) (fun _ _ _ h => h) (Or.inl ⟨by rfl, ?_⟩) hHeld ?_
                rotate_left
                · (intro w1 hSw; (try dsimp only at hSw); go_simp; all_goals with_reducible rfl)
                (try simp only [Act.put, List.setIfInBounds_toArray, List.set_cons_zero, List.set_cons_succ])
                refine wpAnyH_take (i := 6) (oi := ({ dst := some 123, op := Op.load 27 (Operand.tmp 20), type := _, pos := "law.go:80", after := _, guard := some (5, true) } : Oper)) (v := ?_) rfl (by kernel_rfl) (by kernel_rfl) (by kernel_rfl) (fun _ _ _ h => h) (Or.inl ⟨by rfl, ?_⟩) hHeld ?_
                rotate_left
                · (intro w1 hSw; (try dsimp only at hSw); go_simp; all_goals with_reducible rfl)
                (try simp only [Act.put, List.setIfInBounds_toArray, List.set_cons_zero, List.set_cons_succ])
                refine wpAnyH_take (i := 8) (oi := ({ dst := some 125, op := Op.load 30 (Operand.tmp 22), type := _, pos := "law.go:80", after := _, guard := some (5, true) } : Oper)) (v := ?_) rfl (by kernel_rfl) (by kernel_rfl) (by kernel_rfl) (fun _ _ _ h => h) (Or.inl ⟨by rfl, ?_⟩) hHeld ?_
                rotate_left
                · (intro w1 hSw; (try dsimp only at hSw); go_simp; all_goals with_reducible rfl)
                (try simp only [Act.put, List.setIfInBounds_toArray, List.set_cons_zero, List.set_cons_succ])
                refine wpAnyH_ready (rs := [7]) (by kernel_rfl) (by simp) ?_
                refine AllReadyH.cons (o := ({ dst := some 124, op := Op.call { callee := Callee.value (Operand.func 9), args := #[Operand.tmp 123], argTypes := _ }, type := _, pos := "law.go:80", after := _, guard := some (5, true) } : Oper)) rfl (fun K hK => ?_) AllReadyH.nil
                go_simp
                go_wp2_with (go_at_call 9; refine (KTn.out _).mono ?_; rintro e w6 ⟨rfl, hw6⟩)
                refine hK.out _ _ ?_ (fun hHeld2 => ?_)
                · exact (LitW.call (And.left hHeld) (by assumption)).all
                clear hK K hHeld
                have hHeld := hHeld2
                clear hHeld2
                (try simp only [Act.put, List.setIfInBounds_toArray, List.set_cons_zero, List.set_cons_succ])
                refine wpAnyH_ready (rs := [9]) (by kernel_rfl) (by simp) ?_
                refine AllReadyH.cons (o := ({ dst := some 126, op := Op.call { callee := Callee.value (Operand.func 10), args := #[Operand.tmp 125], argTypes := _ }, type := _, pos := "law.go:80", after := _, guard := some (5, true) } : Oper)) rfl (fun K hK => ?_) AllReadyH.nil
                go_simp
                go_wp2_with (go_at_call 10; refine (KTr.out _ _ _ _ _ ?_).mono ?_; (focus ((repeat (first | assumption | refine IntS.below ?_ (by assumption))); done)); rintro e w7 ⟨rfl, hw7⟩; have HV5 := Lib.hid (LitW.call (And.left hHeld) hw7))
                refine hK.out _ _ ?_ (fun hHeld2 => ?_)
                · exact (LitW.call (And.left hHeld) (by assumption)).all
                clear hK K hHeld
                have hHeld := hHeld2
                clear hHeld2
                (try simp only [Act.put, List.setIfInBounds_toArray, List.set_cons_zero, List.set_cons_succ])
                refine wpAnyH_take (i := 10) (oi := ({ dst := some 127, op := Op.binOp BinOp.neq 9 (Operand.tmp 124) (Operand.tmp 126) 9, type := _, pos := "law.go:80", after := _, guard := some (5, true) } : Oper)) (v := ?_) rfl (by kernel_rfl) (by kernel_rfl) (by kernel_rfl) (fun _ _ _ h => h) (Or.inl ⟨by rfl, ?_⟩) hHeld ?_
                rotate_left
                · (intro w1 hSw; (try dsimp only at hSw); go_simp; all_goals with_reducible rfl)
                (try simp only [Act.put, List.setIfInBounds_toArray, List.set_cons_zero, List.set_cons_succ])
                refine wpAnyH_take (i := 11) (oi := ({ dst := some 128, op := Op.pick (Operand.tmp 122) (Operand.tmp 127) (Operand.const (Value.bool false)), type := _, pos := "law.go:80", after := _, guard := some (3, false) } : Oper)) (v := ?_) rfl (by kernel_rfl) (by kernel_rfl) (by kernel_rfl) (fun _ _ _ h => h) (Or.inl ⟨by rfl, ?_⟩) hHeld ?_
                rotate_left
                · (intro w1 hSw; (try dsimp only at hSw); go_simp; all_goals with_reducible rfl)
                (try simp only [Act.put, List.setIfInBounds_toArray, List.set_cons_zero, List.set_cons_succ])
                refine wpAnyH_take (i := 12) (oi := ({ dst := some 129, op := Op.pick (Operand.tmp 120) (Operand.const (Value.bool true)) (Operand.tmp 128), type := _, pos := "law.go:80", after := _, guard := none } : Oper)) (v := ?_) rfl (by kernel_rfl) (by kernel_rfl) (by kernel_rfl) (fun _ _ _ h => h) (Or.inl ⟨by rfl, ?_⟩) hHeld ?_
                rotate_left
                · (intro w1 hSw; (try dsimp only at hSw); go_simp; all_goals with_reducible rfl)
                (try simp only [Act.put, List.setIfInBounds_toArray, List.set_cons_zero, List.set_cons_succ])
                refine wpAnyH_done (by kernel_rfl) ?_ _
                refine NoPanic.normal ?_
                clear HW hI0 KTn KTr
                go_wp2
                go_roundw
                case rel => (go_light; exact ⟨k + 1, by omega, by simp, HV5.out.below, HV5.out.two, HV5.out.nine⟩)
                case measure => simp [intOf]; omega
            · obtain rfl : k = 9 := by omega
              have KH : Hid (∀ W, Calls Try.prog 25 #[.string hx] W (RetNB v true W)) := Lib.hid fun W => by
                have h := nn_literal hx (by omega) W
                rw [HLIT.out] at h
                exact h
              clear HN
              go_wp2_with fail
              go_at_call 25
              refine (KH.out _).mono ?_
              rintro e w4 ⟨rfl, hb4⟩
              have HB4 := Lib.hid (HB.out.trans (hb4.mono hsz))
              have hs4 := HB4.out.size
              have HT4 := Lib.hid (HT2.out.call hb4)
              have ra := RowAt.new w4 6 (wV v) 27
              have HW := Lib.hid (show OrdW w w4.heap.size w4.heap.size v v (w4.alloc (.cells #[.int .u32 (wd v 0), .int .u32 (wd v 1), .int .u32 (wd v 2), .int .u32 (wd v 3), .int .u32 (wd v 4), .int .u32 (wd v 5)] 27)) from ⟨HB4.out.alloc hs4 _, by simp, by simp, ra, ra⟩)
              have HT5 := Lib.hid (HT4.out.alloc (.cells #[.int .u32 (wd v 0), .int .u32 (wd v 1), .int .u32 (wd v 2), .int .u32 (wd v 3), .int .u32 (wd v 4), .int .u32 (wd v 5)] 27))
              clear hb4 ra HB HT2 HB4 HT4 KH
              go_upto_region 28 with fail
              generalize w4.heap.size = X9 at HW ⊢
              generalize w4.alloc (.cells #[.int .u32 (wd v 0), .int .u32 (wd v 1), .int .u32 (wd v 2), .int .u32 (wd v 3), .int .u32 (wd v 4), .int .u32 (wd v 5)] 27) = W4 at HW HT5 ⊢
              have hEq := eqi_six v v (by have := HV.out; unfold Rg; omega) (by have := HV.out; unfold Rg; omega) true (by simp)
              have hg : Try.prog.eqGuardType Try.prog.depth 27 = false := by kernel_rfl
              go_region_held3 (fun w' => FinW w X9 v (.int .u64 (hi v)) (.int .u64 (lo v)) w' ∧ w'.cell? ⟨X9, 0, none⟩ = some (.int .u32 (wd v 0)) ∧ w'.cell? ⟨X9, 1, none⟩ = some (.int .u32 (wd v 1)) ∧ w'.cell? ⟨X9, 2, none⟩ = some (.int .u32 (wd v 2)) ∧ w'.cell? ⟨X9, 3, none⟩ = some (.int .u32 (wd v 3)) ∧ w'.cell? ⟨X9, 4, none⟩ = some (.int .u32 (wd v 4)) ∧ w'.cell? ⟨X9, 5, none⟩ = some (.int .u32 (wd v 5)) ∧ w'.cell? ⟨w.heap.size, 0, none⟩ = some (.int .u64 (hi v)) ∧ w'.cell? ⟨w.heap.size, 1, none⟩ = some (.int .u64 (lo v)))
                (first
                  | exact (FinW.drew ⟨HW.out.below, HW.out.lx, HW.out.ra, HT5.out⟩).all
                  | exact (FinW.call (And.left (by assumption)) (by assumption)).all)
                (first
                  | (go_at_call 24; refine (KF.out _).mono ?_; rintro e w6 ⟨rfl, hw6⟩)
                  | (go_at_call 17; refine (nb_begun _).mono ?_; rintro e w7 ⟨rfl, hw7⟩; have HF := Lib.hid ((FinW.call (And.left (by assumption)) hw7).below)))
              all_goals go_wp2
              all_goals go_ret
              all_goals exact ⟨by first | rfl | simp, HF.out⟩
end Go.Proofs.Ytbacclhnbecojaa
