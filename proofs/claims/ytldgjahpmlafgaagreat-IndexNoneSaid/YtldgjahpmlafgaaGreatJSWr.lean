/- Contracts, joined: SPure, SMem, SText, SWr, SWr2, SCod, SListP. -/
import Derived.Test.YtldgjahpmlafgaaGreatJWrite
import Derived.StillTailTactics
import Derived.Deep.RegionHeld3
namespace Go.Proofs.YtldgjahpmlafgaaGreat
/- Schemas as data, and their encoding: as the program writes it, and as the reference writes it. -/
section
open Go.RowKit

structure FieldD where
  id : Int
  name : List Nat
  bits : Int
structure HeaderD where
  id : Int
  name : List Nat
  fields : List Int
structure CaseD where
  val : Nat
  mask : Nat
  next : Int
structure StateD where
  id : Int
  header : Int
  select : Int
  cases : List CaseD
  dflt : Int
structure ParamD where
  name : List Nat
  bits : Int
structure PrimD where
  op : Int
  dst : Int
  kind : Int
  n : Int
  val : Nat
structure ActionD where
  id : Int
  name : List Nat
  params : List ParamD
  body : List PrimD
  restr : List Nat
structure KeyD where
  name : List Nat
  field : Int
  kind : Int
structure TableD where
  id : Int
  name : List Nat
  keys : List KeyD
  actions : List Int
  dflt : Int
  args : List Nat
  size : Int
  restr : List Nat
structure StageD where
  table : Int
  header : Int
structure GrantD where
  table : Int
  read : Bool
  write : Bool
  keys : List Bool
structure RoleD where
  id : Int
  name : List Nat
  grants : List GrantD
  actions : List Int
  quota : Int
  audit : Bool
structure RefD where
  table : Int
  key : Int
  action : Int
  param : Int
  toTable : Int
  toKey : Int
structure SchemaD where
  fields : List FieldD
  headers : List HeaderD
  states : List StateD
  actions : List ActionD
  tables : List TableD
  stages : List StageD
  roles : List RoleD
  refs : List RefD
  maxBatch : Int
  budget : Int

/-- What a writer holds: its bytes, and whether a list is too long, a text is strange, a number is out of range. -/
structure WS where
  l : List Nat
  long : Bool
  strange : Bool
  outside : Bool
def ws0 : WS := ⟨[], false, false, false⟩
/-- The number n doesn't fit k bytes. -/
def outR (k : Nat) (n : Int) : Bool := decide (n < 0 ∨ 2 ^ (8 * k) ≤ n)
def wAdd (x : List Nat) (s : WS) : WS := { s with l := s.l ++ x }
def wNum (k : Nat) (n : Int) (s : WS) : WS := { s with outside := s.outside || outR k n, l := s.l ++ encU n k }
def wTruth (b : Bool) (s : WS) : WS := wAdd [if b = true then 1 else 0] s
def wVal (a : Nat) (s : WS) : WS := wAdd (if a < 2 ^ 128 then encU (nb a) 1 ++ blW a else []) s
def pText (most : Nat) (t : List Nat) (s : WS) : WS :=
  if most < t.length then { s with long := true } else { s with strange := s.strange || !plain t, l := s.l ++ (encU t.length 2 ++ t) }
def rText (most : Nat) (t : List Nat) (s : WS) : WS :=
  { s with long := s.long || decide (most < t.length), strange := s.strange || !plain t, l := s.l ++ (encU (min t.length 65535 : Nat) 2 ++ t.take 65535) }
def pList {α : Type} (most : Nat) (f : α → WS → WS) (xs : List α) (s : WS) : WS :=
  if most < xs.length then { s with long := true } else xs.foldl (fun s x => f x s) (wAdd (encU xs.length 2) s)
def rCount (n most : Nat) (s : WS) : WS := { s with long := s.long || decide (most < n), l := s.l ++ encU n 2 }
def rList {α : Type} (most : Nat) (f : α → WS → WS) (xs : List α) (s : WS) : WS := xs.foldl (fun s x => f x s) (rCount xs.length most s)

/-- The two ways of writing: how a text is written, and a list. -/
structure Way where
  text : Nat → List Nat → WS → WS
  list : {α : Type} → Nat → (α → WS → WS) → List α → WS → WS
def wayP : Way := ⟨pText, pList⟩
def wayR : Way := ⟨rText, rList⟩
section
variable (W : Way)
def eField (x : FieldD) (s : WS) : WS := wNum 1 x.bits (W.text 24 x.name (wNum 2 x.id s))
def eHeader (x : HeaderD) (s : WS) : WS := W.list 32 (wNum 2) x.fields (W.text 24 x.name (wNum 2 x.id s))
def eCase (x : CaseD) (s : WS) : WS := wNum 2 x.next (wVal x.mask (wVal x.val s))
def eState (x : StateD) (s : WS) : WS := wNum 2 x.dflt (W.list 6 eCase x.cases (wNum 2 x.select (wNum 2 x.header (wNum 2 x.id s))))
def eParam (x : ParamD) (s : WS) : WS := wNum 1 x.bits (W.text 24 x.name s)
def ePrim (x : PrimD) (s : WS) : WS := wVal x.val (wNum 2 x.n (wNum 1 x.kind (wNum 2 x.dst (wNum 1 x.op s))))
def eAction (x : ActionD) (s : WS) : WS := W.text 400 x.restr (W.list 12 ePrim x.body (W.list 4 (eParam W) x.params (W.text 24 x.name (wNum 2 x.id s))))
def eKey (x : KeyD) (s : WS) : WS := wNum 1 x.kind (wNum 2 x.field (W.text 24 x.name s))
def eTable (x : TableD) (s : WS) : WS :=
  W.text 400 x.restr (wNum 2 x.size (W.list 4 wVal x.args (wNum 2 x.dflt (W.list 12 (wNum 2) x.actions (W.list 4 (eKey W) x.keys (W.text 24 x.name (wNum 2 x.id s)))))))
def eStage (x : StageD) (s : WS) : WS := wNum 2 x.header (wNum 2 x.table s)
def eGrant (x : GrantD) (s : WS) : WS := W.list 4 wTruth x.keys (wTruth x.write (wTruth x.read (wNum 2 x.table s)))
def eRole (x : RoleD) (s : WS) : WS := wTruth x.audit (wNum 2 x.quota (W.list 12 (wNum 2) x.actions (W.list 8 (eGrant W) x.grants (W.text 24 x.name (wNum 2 x.id s)))))
def eRef (x : RefD) (s : WS) : WS := wNum 1 x.toKey (wNum 2 x.toTable (wNum 1 x.param (wNum 2 x.action (wNum 1 x.key (wNum 2 x.table s)))))
def eSchema (x : SchemaD) (s : WS) : WS :=
  W.list 8 eRef x.refs (W.list 6 (eRole W) x.roles (W.list 12 eStage x.stages (W.list 8 (eTable W) x.tables (W.list 12 (eAction W) x.actions (W.list 12 (eState W) x.states
    (W.list 8 (eHeader W) x.headers (W.list 32 (eField W) x.fields (wNum 2 x.budget (wNum 2 x.maxBatch s)))))))))
end

/-- Two writers that agree but for the bytes of what is too long. -/
def Rel (a b : WS) : Prop := a.long = b.long ∧ (b.long = false → a = b)
structure Sim (f g : WS → WS) : Prop where
  rel : ∀ a b, Rel a b → Rel (f a) (g b)
  lf : ∀ a : WS, a.long = true → (f a).long = true
  lg : ∀ b : WS, b.long = true → (g b).long = true
theorem Rel.of_long {a b : WS} (h : a.long = true) (k : b.long = true) : Rel a b := ⟨h.trans k.symm, fun e => by rw [k] at e; cases e⟩
theorem Rel.refl (a : WS) : Rel a a := ⟨rfl, fun _ => rfl⟩
theorem Sim.comp {f g f2 g2 : WS → WS} (h : Sim f g) (k : Sim f2 g2) : Sim (fun s => f2 (f s)) (fun s => g2 (g s)) :=
  ⟨fun _ _ r => k.rel _ _ (h.rel _ _ r), fun _ l => k.lf _ (h.lf _ l), fun _ l => k.lg _ (h.lg _ l)⟩
theorem Sim.same (f : WS → WS) (h : ∀ s, (f s).long = s.long) : Sim f f :=
  ⟨fun _ _ r => ⟨by rw [h, h]; exact r.1, fun e => by rw [h] at e; rw [r.2 e]⟩, fun _ l => by rw [h]; exact l, fun _ l => by rw [h]; exact l⟩
theorem sim_num (k : Nat) (n : Int) : Sim (wNum k n) (wNum k n) := .same _ fun _ => rfl
theorem sim_truth (b : Bool) : Sim (wTruth b) (wTruth b) := .same _ fun _ => rfl
theorem sim_val (a : Nat) : Sim (wVal a) (wVal a) := .same _ fun _ => rfl
theorem sim_text (most : Nat) (hm : most ≤ 65535) (t : List Nat) : Sim (pText most t) (rText most t) := by
  refine ⟨fun a b r => ?_, fun a l => ?_, fun a l => ?_⟩
  · by_cases h : most < t.length
    · exact .of_long (by simp [pText, h]) (by simp [rText, h])
    · cases hb : b.long
      · obtain rfl := r.2 hb
        refine ⟨by simp [pText, rText, h], fun _ => ?_⟩
        have h1 : min t.length 65535 = t.length := by omega
        have h2 : t.take 65535 = t := List.take_of_length_le (by omega)
        simp [pText, rText, h, h1, h2]
      · exact .of_long (by simp [pText, h, r.1, hb]) (by simp [rText, hb])
  · simp only [pText]; split <;> simp [l]
  · simp [rText, l]
theorem foldl_lg {α : Type} (f : α → WS → WS) (hf : ∀ x s, s.long = true → (f x s).long = true) : ∀ (xs : List α) (s : WS), s.long = true → (xs.foldl (fun s x => f x s) s).long = true
  | [], _, h => h
  | x :: xs, s, h => foldl_lg f hf xs _ (hf x s h)
theorem foldl_rel {α : Type} (f g : α → WS → WS) (hs : ∀ x, Sim (f x) (g x)) : ∀ (xs : List α) (a b : WS), Rel a b → Rel (xs.foldl (fun s x => f x s) a) (xs.foldl (fun s x => g x s) b)
  | [], _, _, h => h
  | x :: xs, _, _, h => foldl_rel f g hs xs _ _ ((hs x).rel _ _ h)
theorem sim_list {α : Type} (most : Nat) (f g : α → WS → WS) (hs : ∀ x, Sim (f x) (g x)) (xs : List α) : Sim (pList most f xs) (rList most g xs) := by
  refine ⟨fun a b r => ?_, fun a l => ?_, fun a l => ?_⟩
  · by_cases h : most < xs.length
    · exact .of_long (by simp [pList, h]) (foldl_lg g (fun x => (hs x).lg) xs _ (by simp [rCount, h]))
    · simp only [pList, h, if_false, rList]
      refine foldl_rel f g hs xs _ _ ?_
      cases hb : b.long
      · obtain rfl := r.2 hb
        exact ⟨by simp [wAdd, rCount, h], fun _ => by simp [wAdd, rCount, h]⟩
      · exact .of_long (by simp [wAdd, r.1, hb]) (by simp [rCount, hb])
  · simp only [pList]; split
    · rfl
    · exact foldl_lg f (fun x => (hs x).lf) xs _ (by simpa [wAdd] using l)
  · exact foldl_lg g (fun x => (hs x).lg) xs _ (by simp [rCount, l])
theorem sim_field (x : FieldD) : Sim (eField wayP x) (eField wayR x) := ((sim_num _ _).comp (sim_text _ (by decide) _)).comp (sim_num _ _)
theorem sim_header (x : HeaderD) : Sim (eHeader wayP x) (eHeader wayR x) := ((sim_num _ _).comp (sim_text _ (by decide) _)).comp (sim_list _ _ _ (sim_num 2) _)
theorem sim_case (x : CaseD) : Sim (eCase x) (eCase x) := .same _ fun _ => rfl
theorem sim_state (x : StateD) : Sim (eState wayP x) (eState wayR x) := ((((sim_num _ _).comp (sim_num _ _)).comp (sim_num _ _)).comp (sim_list _ _ _ sim_case _)).comp (sim_num _ _)
theorem sim_param (x : ParamD) : Sim (eParam wayP x) (eParam wayR x) := (sim_text _ (by decide) _).comp (sim_num _ _)
theorem sim_prim (x : PrimD) : Sim (ePrim x) (ePrim x) := .same _ fun _ => rfl
theorem sim_action (x : ActionD) : Sim (eAction wayP x) (eAction wayR x) :=
  ((((sim_num _ _).comp (sim_text _ (by decide) _)).comp (sim_list _ _ _ sim_param _)).comp (sim_list _ _ _ sim_prim _)).comp (sim_text _ (by decide) _)
theorem sim_key (x : KeyD) : Sim (eKey wayP x) (eKey wayR x) := ((sim_text _ (by decide) _).comp (sim_num _ _)).comp (sim_num _ _)
theorem sim_table (x : TableD) : Sim (eTable wayP x) (eTable wayR x) :=
  (((((((sim_num _ _).comp (sim_text _ (by decide) _)).comp (sim_list _ _ _ sim_key _)).comp (sim_list _ _ _ (sim_num 2) _)).comp (sim_num _ _)).comp (sim_list _ _ _ sim_val _)).comp (sim_num _ _)).comp (sim_text _ (by decide) _)
theorem sim_stage (x : StageD) : Sim (eStage x) (eStage x) := .same _ fun _ => rfl
theorem sim_grant (x : GrantD) : Sim (eGrant wayP x) (eGrant wayR x) := (((sim_num _ _).comp (sim_truth _)).comp (sim_truth _)).comp (sim_list _ _ _ sim_truth _)
theorem sim_role (x : RoleD) : Sim (eRole wayP x) (eRole wayR x) :=
  (((((sim_num _ _).comp (sim_text _ (by decide) _)).comp (sim_list _ _ _ sim_grant _)).comp (sim_list _ _ _ (sim_num 2) _)).comp (sim_num _ _)).comp (sim_truth _)
theorem sim_ref (x : RefD) : Sim (eRef x) (eRef x) := .same _ fun _ => rfl
theorem sim_schema (x : SchemaD) : Sim (eSchema wayP x) (eSchema wayR x) :=
  (((((((((sim_num _ _).comp (sim_num _ _)).comp (sim_list _ _ _ sim_field _)).comp (sim_list _ _ _ sim_header _)).comp (sim_list _ _ _ sim_state _)).comp (sim_list _ _ _ sim_action _)).comp (sim_list _ _ _ sim_table _)).comp
    (sim_list _ _ _ sim_stage _)).comp (sim_list _ _ _ sim_role _)).comp (sim_list _ _ _ sim_ref _)

/-- What Encode returns: the bytes and the error. -/
def finE (s : WS) : Int := if s.long = true then 3 else if s.strange = true then 2 else if s.outside = true then 4 else if 8000 < s.l.length then 3 else 0
def finL (s : WS) : List Nat := if finE s = 0 then s.l else []
theorem Rel.fin {a b : WS} (h : Rel a b) : finE a = finE b ∧ finL a = finL b := by
  cases hb : b.long
  · rw [h.2 hb]; exact ⟨rfl, rfl⟩
  · have ha := h.1.trans hb
    simp [finE, finL, ha, hb]
theorem enc_agree (x : SchemaD) : finE (eSchema wayP x ws0) = finE (eSchema wayR x ws0) ∧ finL (eSchema wayP x ws0) = finL (eSchema wayR x ws0) := ((sim_schema x).rel _ _ (.refl _)).fin
end
/- Schemas in memory: what cells hold; what a frame keeps. -/
section
open Go.RowKit

def I64 (x : Int) : Prop := -9223372036854775808 ≤ x ∧ x ≤ 9223372036854775807
/-- A text that a string holds. -/
def Txt (l : List Nat) : Prop := Small l ∧ l.length ≤ 9223372036854775807
/-- What a list of cells holds: all that it leads to lies below block B. -/
abbrev CellP (α : Type) := Nat → World → List Value → α → Prop
def CellsAt (w : World) (b o : Nat) (cs : List Value) : Prop := ∀ j (h : j < cs.length), w.cell? ⟨b, o + j, none⟩ = some cs[j]
/-- x lies in block b, below B, from cell o on. -/
def Lies {α : Type} (P : CellP α) (B : Nat) (w : World) (b o : Nat) (x : α) : Prop := b < B ∧ ∃ cs, CellsAt w b o cs ∧ P B w cs x
/-- The slice v holds the elements xs, each of sz cells. -/
def RowV {α : Type} (sz : Nat) (P : CellP α) (B : Nat) (w : World) (v : Value) (xs : List α) : Prop :=
  ∃ A n cap, v = .slice A n cap ∧ Hid (n = xs.length) ∧ n ≤ cap ∧ cap ≤ maxLen ∧ (xs = [] ∨ ∃ b o, A = some ⟨b, o, none⟩ ∧ ∀ i x, xs[i]? = some x → Lies P B w b (o + i * sz) x)
/-- A cell that holds such a slice. -/
def SlV {α : Type} (sz : Nat) (P : CellP α) : CellP (List α) := fun B w cs xs => ∃ v, cs = [v] ∧ RowV sz P B w v xs
def I64V : CellP Int := fun _ _ cs x => cs = [.int .i64 x] ∧ I64 x
def BoolV : CellP Bool := fun _ _ cs x => cs = [.bool x]
def TxtV : CellP (List Nat) := fun _ _ cs x => cs = [.string (strL x)] ∧ Txt x
def ValV : CellP Nat := fun _ _ cs x => cs = [.int .u64 (hi x), .int .u64 (lo x)] ∧ x < 2 ^ 128
def FieldV : CellP FieldD := fun _ _ cs x => cs = [.int .i64 x.id, .string (strL x.name), .int .i64 x.bits] ∧ I64 x.id ∧ Txt x.name ∧ I64 x.bits
def HeaderV : CellP HeaderD := fun B w cs x => ∃ v, cs = [.int .i64 x.id, .string (strL x.name), v] ∧ I64 x.id ∧ Txt x.name ∧ RowV 1 I64V B w v x.fields
def CaseV : CellP CaseD := fun _ _ cs x => cs = [.int .u64 (hi x.val), .int .u64 (lo x.val), .int .u64 (hi x.mask), .int .u64 (lo x.mask), .int .i64 x.next] ∧ x.val < 2 ^ 128 ∧ x.mask < 2 ^ 128 ∧ I64 x.next
def StateV : CellP StateD := fun B w cs x => ∃ v, cs = [.int .i64 x.id, .int .i64 x.header, .int .i64 x.select, v, .int .i64 x.dflt] ∧ I64 x.id ∧ I64 x.header ∧ I64 x.select ∧ RowV 5 CaseV B w v x.cases ∧ I64 x.dflt
def ParamV : CellP ParamD := fun _ _ cs x => cs = [.string (strL x.name), .int .i64 x.bits] ∧ Txt x.name ∧ I64 x.bits
def PrimV : CellP PrimD := fun _ _ cs x => cs = [.int .i64 x.op, .int .i64 x.dst, .int .i64 x.kind, .int .i64 x.n, .int .u64 (hi x.val), .int .u64 (lo x.val)] ∧ I64 x.op ∧ I64 x.dst ∧ I64 x.kind ∧ I64 x.n ∧ x.val < 2 ^ 128
def ActionV : CellP ActionD := fun B w cs x => ∃ v u, cs = [.int .i64 x.id, .string (strL x.name), v, u, .string (strL x.restr)] ∧ I64 x.id ∧ Txt x.name ∧ RowV 2 ParamV B w v x.params ∧ RowV 6 PrimV B w u x.body ∧ Txt x.restr
def KeyV : CellP KeyD := fun _ _ cs x => cs = [.string (strL x.name), .int .i64 x.field, .int .i64 x.kind] ∧ Txt x.name ∧ I64 x.field ∧ I64 x.kind
def TableV : CellP TableD := fun B w cs x => ∃ v u t, cs = [.int .i64 x.id, .string (strL x.name), v, u, .int .i64 x.dflt, t, .int .i64 x.size, .string (strL x.restr)] ∧ I64 x.id ∧ Txt x.name ∧ RowV 3 KeyV B w v x.keys ∧ RowV 1 I64V B w u x.actions ∧
  I64 x.dflt ∧ RowV 2 ValV B w t x.args ∧ I64 x.size ∧ Txt x.restr
def StageV : CellP StageD := fun _ _ cs x => cs = [.int .i64 x.table, .int .i64 x.header] ∧ I64 x.table ∧ I64 x.header
def GrantV : CellP GrantD := fun B w cs x => ∃ v, cs = [.int .i64 x.table, .bool x.read, .bool x.write, v] ∧ I64 x.table ∧ RowV 1 BoolV B w v x.keys
def RoleV : CellP RoleD := fun B w cs x => ∃ v u, cs = [.int .i64 x.id, .string (strL x.name), v, u, .int .i64 x.quota, .bool x.audit] ∧ I64 x.id ∧ Txt x.name ∧ RowV 4 GrantV B w v x.grants ∧ RowV 1 I64V B w u x.actions ∧ I64 x.quota
def RefV : CellP RefD := fun _ _ cs x => cs = [.int .i64 x.table, .int .i64 x.key, .int .i64 x.action, .int .i64 x.param, .int .i64 x.toTable, .int .i64 x.toKey] ∧ I64 x.table ∧ I64 x.key ∧ I64 x.action ∧ I64 x.param ∧ I64 x.toTable ∧ I64 x.toKey
def SchemaV : CellP SchemaD := fun B w cs x => ∃ v0 v1 v2 v3 v4 v5 v6 v7, cs = [v0, v1, v2, v3, v4, v5, v6, v7, .int .i64 x.maxBatch, .int .i64 x.budget] ∧ RowV 3 FieldV B w v0 x.fields ∧ RowV 3 HeaderV B w v1 x.headers ∧ RowV 5 StateV B w v2 x.states ∧
  RowV 5 ActionV B w v3 x.actions ∧ RowV 8 TableV B w v4 x.tables ∧ RowV 2 StageV B w v5 x.stages ∧ RowV 6 RoleV B w v6 x.roles ∧ RowV 6 RefV B w v7 x.refs ∧ I64 x.maxBatch ∧ I64 x.budget

/-- What a frame keeps: it holds in a world that is the same below block B. -/
def KeptP {α : Type} (P : CellP α) : Prop := ∀ B w w' cs x, Below B w w' → P B w cs x → P B w' cs x
theorem CellsAt.below {B : Nat} {w w' : World} (h : Below B w w') {b o : Nat} {cs : List Value} (hb : b < B) (hc : CellsAt w b o cs) : CellsAt w' b o cs := fun j hj => (h.cell (p := ⟨b, o + j, none⟩) hb).trans (hc j hj)
theorem Lies.below {α : Type} {P : CellP α} (hP : KeptP P) {B : Nat} {w w' : World} (h : Below B w w') {b o : Nat} {x : α} (hl : Lies P B w b o x) : Lies P B w' b o x := by
  obtain ⟨hb, cs, hc, hp⟩ := hl
  exact ⟨hb, cs, hc.below h hb, hP _ _ _ _ _ h hp⟩
theorem RowV.below {α : Type} {P : CellP α} (hP : KeptP P) {sz B : Nat} {w w' : World} (h : Below B w w') {v : Value} {xs : List α} (hr : RowV sz P B w v xs) : RowV sz P B w' v xs := by
  obtain ⟨A, n, cap, e1, e2, e3, e4, e5⟩ := hr
  exact ⟨A, n, cap, e1, e2, e3, e4, e5.imp id fun ⟨b, o, e6, e7⟩ => ⟨b, o, e6, fun i x hx => (e7 i x hx).below hP h⟩⟩
theorem kept_sl {α : Type} {P : CellP α} (hP : KeptP P) (sz : Nat) : KeptP (SlV sz P) := fun _ _ _ _ _ h ⟨v, e, r⟩ => ⟨v, e, r.below hP h⟩
theorem kept_int : KeptP I64V := fun _ _ _ _ _ _ h => h
theorem kept_bool : KeptP BoolV := fun _ _ _ _ _ _ h => h
theorem kept_txt : KeptP TxtV := fun _ _ _ _ _ _ h => h
theorem kept_val : KeptP ValV := fun _ _ _ _ _ _ h => h
theorem kept_field : KeptP FieldV := fun _ _ _ _ _ _ h => h
theorem kept_header : KeptP HeaderV := fun _ _ _ _ _ hb ⟨v, e, h1, h2, h3⟩ => ⟨v, e, h1, h2, h3.below kept_int hb⟩
theorem kept_case : KeptP CaseV := fun _ _ _ _ _ _ h => h
theorem kept_state : KeptP StateV := fun _ _ _ _ _ hb ⟨v, e, h1, h2, h3, h4, h5⟩ => ⟨v, e, h1, h2, h3, h4.below kept_case hb, h5⟩
theorem kept_param : KeptP ParamV := fun _ _ _ _ _ _ h => h
theorem kept_prim : KeptP PrimV := fun _ _ _ _ _ _ h => h
theorem kept_action : KeptP ActionV := fun _ _ _ _ _ hb ⟨v, u, e, h1, h2, h3, h4, h5⟩ => ⟨v, u, e, h1, h2, h3.below kept_param hb, h4.below kept_prim hb, h5⟩
theorem kept_key : KeptP KeyV := fun _ _ _ _ _ _ h => h
theorem kept_table : KeptP TableV := fun _ _ _ _ _ hb ⟨v, u, t, e, h1, h2, h3, h4, h5, h6, h7⟩ => ⟨v, u, t, e, h1, h2, h3.below kept_key hb, h4.below kept_int hb, h5, h6.below kept_val hb, h7⟩
theorem kept_stage : KeptP StageV := fun _ _ _ _ _ _ h => h
theorem kept_grant : KeptP GrantV := fun _ _ _ _ _ hb ⟨v, e, h1, h2⟩ => ⟨v, e, h1, h2.below kept_bool hb⟩
theorem kept_role : KeptP RoleV := fun _ _ _ _ _ hb ⟨v, u, e, h1, h2, h3, h4, h5⟩ => ⟨v, u, e, h1, h2, h3.below kept_grant hb, h4.below kept_int hb, h5⟩
theorem kept_ref : KeptP RefV := fun _ _ _ _ _ _ h => h
theorem kept_schema : KeptP SchemaV := fun _ _ _ _ _ hb ⟨v0, v1, v2, v3, v4, v5, v6, v7, e, h0, h1, h2, h3, h4, h5, h6, h7, h8⟩ =>
  ⟨v0, v1, v2, v3, v4, v5, v6, v7, e, h0.below kept_field hb, h1.below kept_header hb, h2.below kept_state hb, h3.below kept_action hb, h4.below kept_table hb, h5.below kept_stage hb, h6.below kept_role hb, h7.below kept_ref hb, h8⟩

/-- A part of a struct: the cells from the k-th on. -/
theorem CellsAt.part {w : World} {b o : Nat} {pre cs post : List Value} (h : CellsAt w b o (pre ++ cs ++ post)) : CellsAt w b (o + pre.length) cs := fun j hj => by
  have := h (pre.length + j) (by simp; omega)
  rw [Nat.add_assoc, this]
  simp [hj]
theorem Lies.part {α β : Type} {P : CellP α} {B : Nat} {w : World} {b o : Nat} {x : α} (hl : Lies P B w b o x) {Q : CellP β} {y : β} (k : Nat)
    (h : ∀ cs, P B w cs x → ∃ pre c post, cs = pre ++ c ++ post ∧ pre.length = k ∧ Q B w c y) : Lies Q B w b (o + k) y := by
  obtain ⟨hb, cs, hc, hp⟩ := hl
  obtain ⟨pre, c, post, rfl, rfl, hq⟩ := h cs hp
  exact ⟨hb, c, hc.part, hq⟩
theorem CellsAt.one {w : World} {b o : Nat} {v : Value} (h : CellsAt w b o [v]) : w.cell? ⟨b, o, none⟩ = some v := h 0 (by simp)

/-- Nothing below block B is changed but block X. -/
structure Fr (X B : Nat) (w w' : World) : Prop where
  os : w'.os = w.os
  tape : w'.tape = w.tape
  output : w'.output = w.output
  size : w.heap.size ≤ w'.heap.size
  block : ∀ k, k < B → k ≠ X → w'.heap[k]? = w.heap[k]?
theorem Fr.refl (X B : Nat) (w : World) : Fr X B w w := ⟨rfl, rfl, rfl, Nat.le_refl _, fun _ _ _ => rfl⟩
theorem Fr.trans {X B : Nat} {a b c : World} (h : Fr X B a b) (k : Fr X B b c) : Fr X B a c :=
  ⟨k.os.trans h.os, k.tape.trans h.tape, k.output.trans h.output, Nat.le_trans h.size k.size, fun i hi hx => (k.block i hi hx).trans (h.block i hi hx)⟩
theorem Fr.drew {X B : Nat} {a w : World} (h : Fr X B a w) : Fr X B a w.drew := ⟨h.os, h.tape, h.output, h.size, h.block⟩
theorem Fr.below {X B C : Nat} {a w : World} (h : Fr X B a w) (hC : C ≤ X) (hX : X < B) : Below C a w := ⟨h.os, h.tape, h.output, h.size, fun k hk => h.block k (by omega) (by omega)⟩
theorem Fr.of_below {X B : Nat} {a w : World} (h : Below B a w) : Fr X B a w := ⟨h.os, h.tape, h.output, h.size, fun k hk _ => h.block k hk⟩
theorem Fr.cell {X B : Nat} {w w' : World} (h : Fr X B w w') {k i : Nat} (hk : k < B) (hx : k ≠ X) : w'.cell? ⟨k, i, none⟩ = w.cell? ⟨k, i, none⟩ := World.cell?_of_block (w := w) (h.block k hk hx)
theorem Fr.set {X B : Nat} {a w : World} (h : Fr X B a w) (i : Nat) (v : Value) : Fr X B a (w.setCell ⟨X, i, none⟩ v) :=
  h.trans ⟨rfl, rfl, rfl, by simp [World.setCell], fun k _ hx => Below.heap_setCell _ _ _ _ (by simpa using hx)⟩
theorem Fr.grown {X B : Nat} {a w w' : World} {v : Value} (h : Fr X B a w) (hg : w.grownBy w' v.ownBlock) (hB : B ≤ w.heap.size) (hv : ∀ k, v.ownBlock = some k → B ≤ k) : Fr X B a w' :=
  h.trans ⟨hg.os, hg.tape, hg.output, hg.size, fun k hk _ => hg.block k (by omega) (fun e => by have := hv k e.symm; omega)⟩

/-- The writer in block X: its row is its own, not below block B. -/
structure WrAt (X B : Nat) (w : World) (s : WS) (v : Value) : Prop where
  c0 : w.cell? ⟨X, 0, none⟩ = some v
  c1 : w.cell? ⟨X, 1, none⟩ = some (.bool s.long)
  c2 : w.cell? ⟨X, 2, none⟩ = some (.bool s.strange)
  c3 : w.cell? ⟨X, 3, none⟩ = some (.bool s.outside)
  f0 : w.frozen? ⟨X, 0, none⟩ = false
  f1 : w.frozen? ⟨X, 1, none⟩ = false
  f2 : w.frozen? ⟨X, 2, none⟩ = false
  f3 : w.frozen? ⟨X, 3, none⟩ = false
  own : Own w B v s.l
  lt : X < B
  size : B ≤ w.heap.size
/-- The call returns nothing, and the writer holds s. -/
def Wrote (X B : Nat) (s : WS) (w : World) (e : Ending) (w' : World) : Prop := e = .returned (.tuple #[]) ∧ (∃ v, WrAt X B w' s v) ∧ Fr X B w w'
theorem WrAt.drew {X B : Nat} {w : World} {s : WS} {v : Value} (h : WrAt X B w s v) : WrAt X B w.drew s v := ⟨h.c0, h.c1, h.c2, h.c3, h.f0, h.f1, h.f2, h.f3, World.ownsRow.drew h.own, h.lt, h.size⟩
theorem WrAt.below {X B : Nat} {w w' : World} {s : WS} {v : Value} (h : WrAt X B w s v) (hb : Below w.heap.size w w') : WrAt X B w' s v := by
  have hX : X < w.heap.size := Nat.lt_of_lt_of_le h.lt h.size
  have hc : ∀ i, w'.cell? ⟨X, i, none⟩ = w.cell? ⟨X, i, none⟩ := fun i => hb.cell hX
  have hf : ∀ i, w'.frozen? ⟨X, i, none⟩ = w.frozen? ⟨X, i, none⟩ := fun i => hb.frozen hX
  exact ⟨(hc 0).trans h.c0, (hc 1).trans h.c1, (hc 2).trans h.c2, (hc 3).trans h.c3, (hf 0).trans h.f0, (hf 1).trans h.f1, (hf 2).trans h.f2, (hf 3).trans h.f3, h.own.below hb, h.lt, Nat.le_trans h.size hb.size⟩
theorem own_setX {X B : Nat} {w : World} {v u : Value} {l : List Nat} (h : Own w B v l) (hX : X < B) (i : Nat) : Own (w.setCell ⟨X, i, none⟩ u) B v l :=
  h.kept (grown_set w X i u) (by
    cases e : v.ownBlock with
    | none => exact .inl rfl
    | some k => exact .inr fun e2 => by have := (World.ownsRow.lt h k e).1; injection e2 with e2; omega)
theorem own_past {w : World} {B : Nat} {v : Value} {l : List Nat} (h : Own w B v l) : ∀ k, v.ownBlock = some k → B ≤ k := fun k e => (World.ownsRow.lt h k e).1
end
/- Texts of bytes from 32 to 126: the program and the reference. -/
section
open Go.RowKit

set_option maxRecDepth 100000 in
theorem strL_at (l : List Nat) (hs : Small l) (j : Nat) (h : j < (strL l).size) : ((strL l)[j]'h).toNat = l.getD j 0 := by
  have hj : j < l.length := by rwa [strL_size] at h
  have e : (strL l)[j]'h = UInt8.ofNat (l.getD j 0) := by
    have h1 : (strL l).data.toList[j]? = some (UInt8.ofNat (l.getD j 0)) := by
      rw [strL_data, List.getElem?_map, List.getD_eq_getElem?_getD, List.getElem?_eq_getElem hj]
      rfl
    rw [Array.getElem?_toList] at h1
    exact (Array.getElem?_eq_some_iff.1 h1).2
  rw [e]
  exact (UInt8.toNat_ofNat' ..).trans (Nat.mod_eq_of_lt (hs.getD j))
end
/- The methods of the program's writer. -/
section
open Go.RowKit

theorem own_shape {w : World} {B : Nat} {v : Value} {l : List Nat} (h : Own w B v l) : ∃ A n cap, v = .slice A n cap := by
  rcases h.2 with ⟨rfl, _⟩ | ⟨g, cap, cur, rfl, _⟩
  · exact ⟨_, _, _, rfl⟩
  · exact ⟨_, _, _, rfl⟩
section
variable {X B : Nat} {w : World} {s : WS} {v : Value}
theorem WrAt.app {w1 : World} {v1 : Value} {x : List Nat} (hW : WrAt X B w s v) (hO : Own w1 B v1 (s.l ++ x)) (hg : w.grownBy w1 v.ownBlock) :
    WrAt X B (w1.setCell ⟨X, 0, none⟩ v1) (wAdd x s) v1 ∧ Fr X B w (w1.setCell ⟨X, 0, none⟩ v1) ∧ w1.cell? ⟨X, 0, none⟩ = some v ∧ w1.frozen? ⟨X, 0, none⟩ = false := by
  have hX : X < w.heap.size := Nat.lt_of_lt_of_le hW.lt hW.size
  have hr : some X ≠ v.ownBlock := fun e => by have := own_past hW.own X e.symm; have := hW.lt; omega
  have hc : ∀ i, w1.cell? ⟨X, i, none⟩ = w.cell? ⟨X, i, none⟩ := fun i => cell_kept hg hX hr
  have hf : ∀ i, w1.frozen? ⟨X, i, none⟩ = w.frozen? ⟨X, i, none⟩ := fun i => frozen_kept hg hX hr
  have hs : ∀ i, 0 < i → (w1.setCell ⟨X, 0, none⟩ v1).cell? ⟨X, i, none⟩ = w.cell? ⟨X, i, none⟩ := fun i h => by
    rw [set_other _ _ _ _ _ (by omega)]; exact hc i
  have hz : ∀ i, (w1.setCell ⟨X, 0, none⟩ v1).frozen? ⟨X, i, none⟩ = w.frozen? ⟨X, i, none⟩ := fun i => by rw [set_froz]; exact hf i
  refine ⟨⟨set_same _ ((hc 0).trans hW.c0), (hs 1 (by omega)).trans hW.c1, (hs 2 (by omega)).trans hW.c2, (hs 3 (by omega)).trans hW.c3, (hz 0).trans hW.f0, (hz 1).trans hW.f1, (hz 2).trans hW.f2, (hz 3).trans hW.f3,
    own_setX hO hW.lt 0, hW.lt, ?_⟩, ((Fr.refl X B w).grown hg hW.size (own_past hW.own)).set 0 v1, (hc 0).trans hW.c0, (hf 0).trans hW.f0⟩
  have := hg.size
  have := hW.size
  simp [World.setCell]
  omega
/-- A flag of the writer is set. -/
theorem WrAt.flag (hW : WrAt X B w s v) (i : Nat) (s' : WS) (hl : s'.l = s.l)
    (h : i = 1 ∧ s' = { s with long := true } ∨ i = 2 ∧ s' = { s with strange := true } ∨ i = 3 ∧ s' = { s with outside := true }) :
    WrAt X B (w.setCell ⟨X, i, none⟩ (.bool true)) s' v ∧ Fr X B w (w.setCell ⟨X, i, none⟩ (.bool true)) := by
  have hz : ∀ j, (w.setCell ⟨X, i, none⟩ (.bool true)).frozen? ⟨X, j, none⟩ = w.frozen? ⟨X, j, none⟩ := fun j => set_froz _ _ _ _ _
  have ho : ∀ j, i ≠ j → (w.setCell ⟨X, i, none⟩ (.bool true)).cell? ⟨X, j, none⟩ = w.cell? ⟨X, j, none⟩ := fun j h => set_other _ _ _ _ _ h
  have hsz : (w.setCell ⟨X, i, none⟩ (.bool true)).heap.size = w.heap.size := by simp [World.setCell]
  have hown : Own (w.setCell ⟨X, i, none⟩ (.bool true)) B v s'.l := by rw [hl]; exact own_setX hW.own hW.lt i
  refine ⟨?_, (Fr.refl X B w).set i _⟩
  rcases h with ⟨rfl, rfl⟩ | ⟨rfl, rfl⟩ | ⟨rfl, rfl⟩
  · exact ⟨(ho 0 (by decide)).trans hW.c0, set_same _ hW.c1, (ho 2 (by decide)).trans hW.c2, (ho 3 (by decide)).trans hW.c3, (hz 0).trans hW.f0, (hz 1).trans hW.f1, (hz 2).trans hW.f2, (hz 3).trans hW.f3, hown, hW.lt, by rw [hsz]; exact hW.size⟩
  · exact ⟨(ho 0 (by decide)).trans hW.c0, (ho 1 (by decide)).trans hW.c1, set_same _ hW.c2, (ho 3 (by decide)).trans hW.c3, (hz 0).trans hW.f0, (hz 1).trans hW.f1, (hz 2).trans hW.f2, (hz 3).trans hW.f3, hown, hW.lt, by rw [hsz]; exact hW.size⟩
  · exact ⟨(ho 0 (by decide)).trans hW.c0, (ho 1 (by decide)).trans hW.c1, (ho 2 (by decide)).trans hW.c2, set_same _ hW.c3, (hz 0).trans hW.f0, (hz 1).trans hW.f1, (hz 2).trans hW.f2, (hz 3).trans hW.f3, hown, hW.lt, by rw [hsz]; exact hW.size⟩
end
end
/- The methods of the program's writer: numbers, lengths and texts. -/
section
open Go.RowKit

theorem num_in {k : Nat} {n : Int} {s : WS} (h : outR k n = false) : wAdd ([] ++ encU n k) s = wNum k n s := by simp [wAdd, wNum, h]
theorem num_out {k : Nat} {n : Int} {s : WS} (h : outR k n = true) : wAdd ([] ++ encU n k) { s with outside := true } = wNum k n s := by simp [wAdd, wNum, h]
section
variable {X B : Nat} {w : World} {s : WS} {v : Value}
/-- The call returns m, and the writer holds s. -/
def WroteI (X B : Nat) (s : WS) (m : Int) (w : World) (e : Ending) (w' : World) : Prop := e = .returned (.int .i64 m) ∧ (∃ v, WrAt X B w' s v) ∧ Fr X B w w'
end
end
/- The codec that writes: its closures. -/
section
open Go.RowKit

section
variable {C K Y X B : Nat} {w : World} {s : WS} {b o : Nat}
end
end
/- Lists that are written: how far the writer is behind the first elements. -/
section
open Go.RowKit

def runL {α : Type} (f : α → WS → WS) (xs : List α) (s : WS) (q : Nat) : WS := (xs.take q).foldl (fun s x => f x s) s
theorem runL_succ {α : Type} (f : α → WS → WS) {xs : List α} (s : WS) {q : Nat} {x : α} (h : xs[q]? = some x) : runL f xs s (q + 1) = f x (runL f xs s q) := by
  have hq : q < xs.length := (List.getElem?_eq_some_iff.1 h).1
  have e : xs.take (q + 1) = xs.take q ++ [x] := by
    rw [List.take_add_one, h]; rfl
  rw [runL, e, List.foldl_append]
  rfl
theorem runL_zero {α : Type} (f : α → WS → WS) (xs : List α) (s : WS) : runL f xs s 0 = s := rfl
theorem runL_all {α : Type} (f : α → WS → WS) (xs : List α) (s : WS) : runL f xs s xs.length = xs.foldl (fun s x => f x s) s := by rw [runL, List.take_length]
/-- An element adds at most G bytes. -/
def Adds {α : Type} (f : α → WS → WS) (G : Nat) : Prop := ∀ x s, (f x s).l.length ≤ s.l.length + G
theorem runL_len {α : Type} {f : α → WS → WS} {G : Nat} (hG : Adds f G) (xs : List α) (s : WS) : ∀ q, (runL f xs s q).l.length ≤ s.l.length + q * G
  | 0 => by simp [runL_zero]
  | q + 1 => by
    have ih := runL_len hG xs s q
    cases h : xs[q]? with
    | none =>
      have e : runL f xs s (q + 1) = runL f xs s q := by
        rw [runL, runL, List.take_of_length_le (by have := List.getElem?_eq_none_iff.1 h; omega), List.take_of_length_le (by have := List.getElem?_eq_none_iff.1 h; omega)]
      rw [e, Nat.add_mul]; omega
    | some x =>
      rw [runL_succ f s h, Nat.add_mul]
      have := hG x (runL f xs s q)
      omega
theorem pList_in {α : Type} {most : Nat} {f : α → WS → WS} {xs : List α} {s : WS} (h : xs.length ≤ most) : pList most f xs s = runL f xs (wAdd ([] ++ encU xs.length 2) s) xs.length := by
  rw [runL_all, pList, if_neg (by omega)]; rfl
theorem pList_over {α : Type} {most : Nat} {f : α → WS → WS} {xs : List α} {s : WS} (h : most < xs.length) : pList most f xs s = { s with long := true } := by
  rw [pList, if_pos h]
theorem wAdd_len (x : List Nat) (s : WS) : (wAdd x s).l.length = s.l.length + x.length := by simp [wAdd]
theorem adds_list {α : Type} {f : α → WS → WS} {G : Nat} (hG : Adds f G) (most : Nat) : Adds (pList most f) (2 + most * G) := fun xs s => by
  by_cases h : most < xs.length
  · rw [pList_over h]; simp
  · rw [pList_in (by omega)]
    have h1 := runL_len hG xs (wAdd ([] ++ encU xs.length 2) s) xs.length
    have h2 : xs.length * G ≤ most * G := Nat.mul_le_mul_right _ (by omega)
    have h3 : (wAdd ([] ++ encU xs.length 2) s).l.length = s.l.length + 2 := by simp [wAdd_len, encU_len]
    omega
theorem Adds.comp {α : Type} {f g : α → WS → WS} {a b : Nat} (h : Adds f a) (k : Adds g b) : Adds (fun x s => g x (f x s)) (a + b) := fun x s => by
  have := h x s
  have := k x (f x s)
  dsimp only
  omega
theorem adds_of {α β : Type} {f : β → WS → WS} {G : Nat} (h : Adds f G) (p : α → β) : Adds (fun x s => f (p x) s) G := fun x s => h (p x) s
theorem adds_num (k : Nat) : Adds (wNum k) k := fun x s => by simp [wNum, encU_len]
theorem adds_truth : Adds wTruth 1 := fun x s => by simp [wTruth, wAdd]
theorem adds_val : Adds wVal 17 := fun x s => by
  unfold wVal
  rw [wAdd_len]
  split
  · rename_i h
    have := nb_le x h
    rw [List.length_append, encU_len, blW_len]
    omega
  · simp
theorem adds_text (most : Nat) : Adds (pText most) (2 + most) := fun x s => by
  unfold pText
  split
  · simp
  · simp [encU_len]; omega
/-- What lies in the list xs at place q. -/
theorem row_at {α : Type} {sz : Nat} {P : CellP α} {B : Nat} {w : World} {A : Option Addr} {n cap q : Nat} {xs : List α} (h : RowV sz P B w (.slice A n cap) xs) (hq : q < xs.length) :
    ∃ b o, A = some ⟨b, o, none⟩ ∧ ∃ x, xs[q]? = some x ∧ Lies P B w b (o + q * sz) x := by
  obtain ⟨A', n', cap', e1, e2, e3, e4, e5⟩ := h
  injection e1 with e1 _ _
  subst e1
  rcases e5 with rfl | ⟨b, o, e6, e7⟩
  · simp at hq
  · exact ⟨b, o, e6, xs[q], List.getElem?_eq_getElem hq, e7 q _ (List.getElem?_eq_getElem hq)⟩
end
end Go.Proofs.YtldgjahpmlafgaaGreat
