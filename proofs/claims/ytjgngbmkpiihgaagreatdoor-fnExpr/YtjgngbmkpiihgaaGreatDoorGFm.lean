import Derived.Test.YtjgngbmkpiihgaaGreatDoorGSb
/- Forms as data: what is a valid form, and its canonical text. No walk in this text. -/
namespace Go.Proofs.YtjgngbmkpiihgaaGreatDoor
open Go

/-- A text is among these. -/
def memB (x : ByteArray) (l : List ByteArray) : Bool := l.any fun y => decide (y = x)
theorem memB_iff (x : ByteArray) (l : List ByteArray) : memB x l = true ↔ x ∈ l := by
  unfold memB
  rw [List.any_eq_true]
  exact ⟨fun ⟨y, hy, e⟩ => by rw [← of_decide_eq_true e]; exact hy, fun h => ⟨x, h, decide_eq_true rfl⟩⟩
theorem memB_no {x : ByteArray} {l : List ByteArray} (h : ¬ x ∈ l) : memB x l = false := by
  cases e : memB x l
  · rfl
  · exact absurd ((memB_iff x l).1 e) h
structure Rl where
  nm : ByteArray
  lb : Int
structure Fl where
  nm : ByteArray
  ty : Int
  lb : Int
  bys : List Int
  is : List Nx
  wh : List Nx
  va : List Nx
  sy : ByteArray
  mu : List Nx
structure Fm where
  labels : List ByteArray
  below : List (Int × Int)
  roles : List Rl
  fields : List Fl
def noRl : Rl := ⟨⟨#[]⟩, 0⟩

def noNx : Nx := ⟨0, ⟨0, 0, ⟨#[]⟩⟩, ⟨#[]⟩⟩
/-- A list of nodes as a function of the place. -/
def nf (l : List Nx) (k : Nat) : Nx := l.getD k noNx
theorem nf_get (l : List Nx) (k : Nat) (h : k < l.length) : nf l k = l[k] := by unfold nf; rw [List.getD_eq_getElem?_getD, List.getElem?_eq_getElem h]; rfl
def vxL (l : List Nx) : Bool := vxB (nf l) l.length
/-- The printed text of a rule. -/
def txL (l : List Nx) : ByteArray := (top (nf l) l.length).t
def ruleOk (l : List Nx) : Bool := decide (l.length = 0) || vxL l
def knows (names : List ByteArray) (l : List Nx) : Bool := l.all fun n => !decide (n.op = 1) || memB n.nm names
def namesOk (l : List ByteArray) : Bool := l.all goodN && decide l.Nodup
def inR (n : Nat) (x : Int) : Bool := decide (0 ≤ x ∧ x < n)
def bysOk (nr : Nat) (l : List Int) : Bool := l.all (inR nr) && decide l.Nodup
def fieldOk (nl nr : Nat) (f : Fl) : Bool :=
  decide (1 ≤ f.ty ∧ f.ty ≤ 3) && decide (-1 ≤ f.lb ∧ f.lb < nl) && bysOk nr f.bys && decide (f.is.length = 0 ∨ f.bys.length = 0) && okText f.sy && decide (f.va.length ≠ 0 ∨ f.sy.size = 0) && ruleOk f.is && ruleOk f.wh && ruleOk f.va && ruleOk f.mu
def fieldKnows (names : List ByteArray) (f : Fl) : Bool := knows names f.is && knows names f.wh && knows names f.va && knows names f.mu
def fNames (f : Fm) : List ByteArray := f.fields.map (·.nm)
def rNames (f : Fm) : List ByteArray := f.roles.map (·.nm)

def sb (s : ByteArray) : List UInt8 := s.data.toList
def labAt (ls : List ByteArray) (i : Int) : ByteArray := ls.getD i.toNat ⟨#[]⟩
def rolAt (rs : List Rl) (i : Int) : Rl := rs.getD i.toNat noRl
def tLab (x : ByteArray) : List UInt8 := [108, 97, 98, 101, 108, 32] ++ sb x ++ [59, 10]
def tBel (ls : List ByteArray) (p : Int × Int) : List UInt8 := [98, 101, 108, 111, 119, 32] ++ sb (labAt ls p.1) ++ [32] ++ sb (labAt ls p.2) ++ [59, 10]
def tRol (ls : List ByteArray) (r : Rl) : List UInt8 := [114, 111, 108, 101, 32] ++ sb r.nm ++ [32, 97, 116, 32] ++ sb (labAt ls r.lb) ++ [59, 10]
/-- A rule behind its word, with a space ahead of both. -/
def tRule (word : List UInt8) (l : List Nx) : List UInt8 := if l.length = 0 then [] else [32] ++ word ++ [32] ++ sb (txL l)
def wIs : List UInt8 := [105, 115]
def wWhen : List UInt8 := [119, 104, 101, 110]
def wValid : List UInt8 := [118, 97, 108, 105, 100]
def wMust : List UInt8 := [109, 117, 115, 116]
def tyName (t : Int) : List UInt8 := if t = 1 then [105, 110, 116] else if t = 2 then [98, 111, 111, 108] else [116, 101, 120, 116]
def tBy (rs : List Rl) (i : Int) : List UInt8 := [32, 98, 121, 32] ++ sb (rolAt rs i).nm
def tSays (f : Fl) : List UInt8 := if f.va.length = 0 then [] else [32, 115, 97, 121, 115, 32, 34] ++ sb f.sy ++ [34]
def tFldA (fm : Fm) (f : Fl) : List UInt8 := [102, 105, 101, 108, 100, 32] ++ sb f.nm ++ [32] ++ tyName f.ty ++ [32, 97, 116, 32] ++ (if f.lb < 0 then [97, 117, 116, 111] else sb (labAt fm.labels f.lb))
def tFld (fm : Fm) (f : Fl) : List UInt8 := tFldA fm f ++ f.bys.flatMap (tBy fm.roles) ++ tRule wIs f.is ++ tRule wWhen f.wh ++ tRule wValid f.va ++ tSays f ++ tRule wMust f.mu ++ [59, 10]
/-- The canonical text. -/
def cT (f : Fm) : List UInt8 := f.labels.flatMap tLab ++ f.below.flatMap (tBel f.labels) ++ f.roles.flatMap (tRol f.labels) ++ f.fields.flatMap (tFld f)

/-- All clauses but the last. -/
def vfA (f : Fm) : Bool :=
  decide (f.labels.length ≤ 32 ∧ f.below.length ≤ 256 ∧ f.roles.length ≤ 64 ∧ f.fields.length ≤ 200) && namesOk f.labels && namesOk (rNames f) && namesOk (fNames f)
    && (f.below.all fun p => inR f.labels.length p.1 && inR f.labels.length p.2) && (f.roles.all fun r => inR f.labels.length r.lb)
    && (f.fields.all fun d => fieldOk f.labels.length f.roles.length d && fieldKnows (fNames f) d)
/-- A valid form. -/
def vfB (f : Fm) : Bool := vfA f && decide ((cT f).length ≤ 30000)

theorem goodN_size {s : ByteArray} (h : goodN s = true) : s.size ≤ 16 := by
  simp only [goodN, Bool.and_eq_true, decide_eq_true_eq] at h; omega
theorem txL_size {l : List Nx} (h : vxL l = true) : (txL l).size ≤ 4000 := ((vxB_iff _ _).1 h).2.2.2.2.2.2
theorem sb_len (s : ByteArray) : (sb s).length = s.size := by simp [sb]
theorem labAt_size {ls : List ByteArray} {i : Int} (h : namesOk ls = true) : (labAt ls i).size ≤ 16 := by
  unfold labAt
  rw [List.getD_eq_getElem?_getD]
  cases hh : ls[i.toNat]? with
  | none => exact Nat.zero_le _
  | some x =>
    simp only [namesOk, Bool.and_eq_true, List.all_eq_true] at h
    exact goodN_size (h.1 x (List.mem_of_getElem? hh))
theorem ruleOk_size {l : List Nx} {word : List UInt8} (h : ruleOk l = true) (hw : word.length ≤ 5) : (tRule word l).length ≤ 4010 := by
  unfold tRule
  split
  · simp
  · rename_i hl
    simp only [ruleOk, Bool.or_eq_true, decide_eq_true_eq] at h
    have := txL_size (h.resolve_left hl)
    simp only [List.length_append, List.length_cons, List.length_nil, sb_len]
    omega
theorem flatMap_len {α : Type} (l : List α) (g : α → List UInt8) (c : Nat) (h : ∀ x, x ∈ l → (g x).length ≤ c) : (l.flatMap g).length ≤ c * l.length := by
  induction l with
  | nil => simp
  | cons x r ih =>
    have h1 := h x List.mem_cons_self
    have h2 := ih fun y hy => h y (List.mem_cons_of_mem _ hy)
    simp only [List.flatMap_cons, List.length_append, List.length_cons, Nat.mul_add, Nat.mul_one]
    omega
end Go.Proofs.YtjgngbmkpiihgaaGreatDoor

/- Forms in memory. -/
namespace Go.Proofs.YtjgngbmkpiihgaaGreatDoor
open Go Go.RowKit

/-- A slice of texts. -/
def Strs (w : World) (a : Option Addr) (l : List ByteArray) : Prop := ∀ k (h : k < l.length), ∃ b o, a = some ⟨b, o, none⟩ ∧ b < w.heap.size ∧ w.cell? ⟨b, o + k, none⟩ = some (.string l[k])
theorem Strs.mono {w w' : World} {a : Option Addr} {l : List ByteArray} (h : Strs w a l) (hb : Below w.heap.size w w') : Strs w' a l := fun k hk => by
  obtain ⟨b, o, e, hl, hc⟩ := h k hk
  exact ⟨b, o, e, Nat.lt_of_lt_of_le hl hb.size, (hb.cell hl).trans hc⟩
/-- A slice of pairs. -/
def Prs (w : World) (a : Option Addr) (l : List (Int × Int)) : Prop := ∀ k (h : k < l.length), ∃ b o, a = some ⟨b, o, none⟩ ∧ b < w.heap.size ∧ w.cell? ⟨b, o + k * 2, none⟩ = some (.int .i64 l[k].1) ∧ w.cell? ⟨b, o + k * 2 + 1, none⟩ = some (.int .i64 l[k].2)
theorem Prs.mono {w w' : World} {a : Option Addr} {l : List (Int × Int)} (h : Prs w a l) (hb : Below w.heap.size w w') : Prs w' a l := fun k hk => by
  obtain ⟨b, o, e, hl, hc, hd⟩ := h k hk
  exact ⟨b, o, e, Nat.lt_of_lt_of_le hl hb.size, (hb.cell hl).trans hc, (hb.cell hl).trans hd⟩
/-- A slice of roles. -/
def Rls (w : World) (a : Option Addr) (l : List Rl) : Prop := ∀ k (h : k < l.length), ∃ b o, a = some ⟨b, o, none⟩ ∧ b < w.heap.size ∧ w.cell? ⟨b, o + k * 2, none⟩ = some (.string l[k].nm) ∧ w.cell? ⟨b, o + k * 2 + 1, none⟩ = some (.int .i64 l[k].lb)
theorem Rls.mono {w w' : World} {a : Option Addr} {l : List Rl} (h : Rls w a l) (hb : Below w.heap.size w w') : Rls w' a l := fun k hk => by
  obtain ⟨b, o, e, hl, hc, hd⟩ := h k hk
  exact ⟨b, o, e, Nat.lt_of_lt_of_le hl hb.size, (hb.cell hl).trans hc, (hb.cell hl).trans hd⟩
/-- A slice of integers, as a list. -/
def IntL (w : World) (a : Option Addr) (l : List Int) : Prop := Ints w a l.length (fun k => l.getD k 0)
theorem IntL.mono {w w' : World} {a : Option Addr} {l : List Int} (h : IntL w a l) (hb : Below w.heap.size w w') : IntL w' a l := Ints.mono h hb
/-- A slice of nodes, as a list. -/
def NodL (w : World) (a : Option Addr) (l : List Nx) : Prop := Nods w a l.length (nf l)
theorem NodL.mono {w w' : World} {a : Option Addr} {l : List Nx} (h : NodL w a l) (hb : Below w.heap.size w w') : NodL w' a l := Nods.mono h hb

/-- Where the slices of a field lie. -/
structure FA where
  b : Option Addr
  bc : Nat
  i : Option Addr
  ic : Nat
  h : Option Addr
  hc : Nat
  v : Option Addr
  vc : Nat
  u : Option Addr
  uc : Nat
structure FSl (w : World) (f : Fl) (A : FA) : Prop where
  b : IntL w A.b f.bys
  i : NodL w A.i f.is
  h : NodL w A.h f.wh
  v : NodL w A.v f.va
  u : NodL w A.u f.mu
theorem FSl.mono {w w' : World} {f : Fl} {A : FA} (h : FSl w f A) (hb : Below w.heap.size w w') : FSl w' f A := ⟨h.b.mono hb, h.i.mono hb, h.h.mono hb, h.v.mono hb, h.u.mono hb⟩
/-- The cells of a field. -/
def fCs (f : Fl) (A : FA) : List Value := [.string f.nm, .int .i64 f.ty, .int .i64 f.lb, .slice A.b f.bys.length A.bc, .slice A.i f.is.length A.ic, .slice A.h f.wh.length A.hc, .slice A.v f.va.length A.vc, .string f.sy, .slice A.u f.mu.length A.uc]
def fV (f : Fl) (A : FA) : Value := .agg #[.string f.nm, .int .i64 f.ty, .int .i64 f.lb, .slice A.b f.bys.length A.bc, .slice A.i f.is.length A.ic, .slice A.h f.wh.length A.hc, .slice A.v f.va.length A.vc, .string f.sy, .slice A.u f.mu.length A.uc]
def FCel (w : World) (b o : Nat) (f : Fl) (A : FA) : Prop := b < w.heap.size ∧ w.cell? ⟨b, o, none⟩ = some (.string f.nm) ∧ w.cell? ⟨b, o + 1, none⟩ = some (.int .i64 f.ty) ∧ w.cell? ⟨b, o + 2, none⟩ = some (.int .i64 f.lb) ∧ w.cell? ⟨b, o + 3, none⟩ = some (.slice A.b f.bys.length A.bc) ∧ w.cell? ⟨b, o + 4, none⟩ = some (.slice A.i f.is.length A.ic) ∧ w.cell? ⟨b, o + 5, none⟩ = some (.slice A.h f.wh.length A.hc) ∧ w.cell? ⟨b, o + 6, none⟩ = some (.slice A.v f.va.length A.vc) ∧ w.cell? ⟨b, o + 7, none⟩ = some (.string f.sy) ∧ w.cell? ⟨b, o + 8, none⟩ = some (.slice A.u f.mu.length A.uc)
theorem FCel.mono {w w' : World} {b o : Nat} {f : Fl} {A : FA} (h : FCel w b o f A) (hb : Below w.heap.size w w') : FCel w' b o f A :=
  ⟨Nat.lt_of_lt_of_le h.1 hb.size, (hb.cell h.1).trans h.2.1, (hb.cell h.1).trans h.2.2.1, (hb.cell h.1).trans h.2.2.2.1, (hb.cell h.1).trans h.2.2.2.2.1, (hb.cell h.1).trans h.2.2.2.2.2.1, (hb.cell h.1).trans h.2.2.2.2.2.2.1, (hb.cell h.1).trans h.2.2.2.2.2.2.2.1, (hb.cell h.1).trans h.2.2.2.2.2.2.2.2.1, (hb.cell h.1).trans h.2.2.2.2.2.2.2.2.2⟩
theorem nine {w : World} {b : Nat} {t : TypeId} {v0 v1 v2 v3 v4 v5 v6 v7 v8 : Value} (h : Blk w b t [v0, v1, v2, v3, v4, v5, v6, v7, v8]) :
    w.cell? ⟨b, 0, none⟩ = some v0 ∧ w.cell? ⟨b, 1, none⟩ = some v1 ∧ w.cell? ⟨b, 2, none⟩ = some v2 ∧ w.cell? ⟨b, 3, none⟩ = some v3 ∧ w.cell? ⟨b, 4, none⟩ = some v4 ∧ w.cell? ⟨b, 5, none⟩ = some v5 ∧ w.cell? ⟨b, 6, none⟩ = some v6 ∧ w.cell? ⟨b, 7, none⟩ = some v7 ∧ w.cell? ⟨b, 8, none⟩ = some v8 := ⟨h.cell 0, h.cell 1, h.cell 2, h.cell 3, h.cell 4, h.cell 5, h.cell 6, h.cell 7, h.cell 8⟩
/-- A slice of fields. -/
def Flds (w : World) (a : Option Addr) (l : List Fl) (A : Nat → FA) : Prop := ∀ k (h : k < l.length), ∃ b o, a = some ⟨b, o, none⟩ ∧ FCel w b (o + k * 9) l[k] (A k) ∧ FSl w l[k] (A k)
theorem Flds.mono {w w' : World} {a : Option Addr} {l : List Fl} {A : Nat → FA} (h : Flds w a l A) (hb : Below w.heap.size w w') : Flds w' a l A := fun k hk => by
  obtain ⟨b, o, e, hc, hs⟩ := h k hk
  exact ⟨b, o, e, hc.mono hb, hs.mono hb⟩
/-- Where the slices of a form lie. -/
structure MA where
  l : Option Addr
  lc : Nat
  p : Option Addr
  pc : Nat
  r : Option Addr
  rc : Nat
  f : Option Addr
  fc : Nat
  fa : Nat → FA
def mV (m : Fm) (A : MA) : Value := .agg #[.slice A.l m.labels.length A.lc, .slice A.p m.below.length A.pc, .slice A.r m.roles.length A.rc, .slice A.f m.fields.length A.fc]
structure MSl (w : World) (m : Fm) (A : MA) : Prop where
  l : Strs w A.l m.labels
  p : Prs w A.p m.below
  r : Rls w A.r m.roles
  f : Flds w A.f m.fields A.fa
theorem MSl.mono {w w' : World} {m : Fm} {A : MA} (h : MSl w m A) (hb : Below w.heap.size w w') : MSl w' m A := ⟨h.l.mono hb, h.p.mono hb, h.r.mono hb, h.f.mono hb⟩
theorem quad {w : World} {b : Nat} {t : TypeId} {v0 v1 v2 v3 : Value} (h : Blk w b t [v0, v1, v2, v3]) :
    w.cell? ⟨b, 0, none⟩ = some v0 ∧ w.cell? ⟨b, 1, none⟩ = some v1 ∧ w.cell? ⟨b, 2, none⟩ = some v2 ∧ w.cell? ⟨b, 3, none⟩ = some v3 := ⟨h.cell 0, h.cell 1, h.cell 2, h.cell 3⟩

def mxI : Nat := 9223372036854775807
/-- What can be reckoned with in a field and in a form. -/
structure FitF (f : Fl) : Prop where
  nm : f.nm.size ≤ 9223372036854775807
  sy : f.sy.size ≤ 9223372036854775807
  bl : f.bys.length ≤ 9223372036854775807
  il : f.is.length ≤ 9223372036854775807
  hl : f.wh.length ≤ 9223372036854775807
  vl : f.va.length ≤ 9223372036854775807
  ul : f.mu.length ≤ 9223372036854775807
  i : ∀ k, k < f.is.length → Fit (nf f.is k)
  h : ∀ k, k < f.wh.length → Fit (nf f.wh k)
  v : ∀ k, k < f.va.length → Fit (nf f.va k)
  u : ∀ k, k < f.mu.length → Fit (nf f.mu k)
structure FitM (m : Fm) : Prop where
  ll : m.labels.length ≤ 9223372036854775807
  pl : m.below.length ≤ 9223372036854775807
  rl : m.roles.length ≤ 9223372036854775807
  fl : m.fields.length ≤ 9223372036854775807
  l : ∀ x, x ∈ m.labels → x.size ≤ 9223372036854775807
  r : ∀ x, x ∈ m.roles → x.nm.size ≤ 9223372036854775807
  f : ∀ x, x ∈ m.fields → FitF x
end Go.Proofs.YtjgngbmkpiihgaaGreatDoor
