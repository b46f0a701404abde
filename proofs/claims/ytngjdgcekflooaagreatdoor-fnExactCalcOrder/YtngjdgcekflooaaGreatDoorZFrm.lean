import Derived.Test.YtngjdgcekflooaaGreatDoorZFmM
/- Forms in memory. -/
namespace Go.Proofs.YtngjdgcekflooaaGreatDoor
open Go Go.RowKit

/-- A slice of texts. -/
def Strs (w : World) (a : Option Addr) (l : List ByteArray) : Prop := ∀ k (h : k < l.length), ∃ b o, a = some ⟨b, o, none⟩ ∧ b < w.heap.size ∧ w.cell? ⟨b, o + k, none⟩ = some (.string l[k])
theorem Strs.mono {w w' : World} {a : Option Addr} {l : List ByteArray} (h : Strs w a l) (hb : Below w.heap.size w w') : Strs w' a l := fun k hk => by
  obtain ⟨b, o, e, hl, hc⟩ := h k hk
  exact ⟨b, o, e, Nat.lt_of_lt_of_le hl hb.size, (hb.cell hl).trans hc⟩
/-- A slice of pairs. -/
def Prs (w : World) (a : Option Addr) (l : List (Int × Int)) : Prop := ∀ k (h : k < l.length), ∃ b o, a = some ⟨b, o, none⟩ ∧ b < w.heap.size ∧ w.cell? ⟨b, o + k * 2, none⟩ = some (.int .i64 l[k].1) ∧ w.cell? ⟨b, o + k * 2 + 1, none⟩ = some (.int .i64 l[k].2)
theorem Prs.mono {w w' : World} {a : Option Addr} {l : List (Int × Int)} (h : Prs w a l) (hb : Below w.heap.size w w') : Prs w' a l := fun k hk => by
  obtain ⟨b, o, e, hl, hc, hd⟩ := h k hk
  exact ⟨b, o, e, Nat.lt_of_lt_of_le hl hb.size, (hb.cell hl).trans hc, (hb.cell hl).trans hd⟩
/-- A slice of roles. -/
def Rls (w : World) (a : Option Addr) (l : List Rl) : Prop := ∀ k (h : k < l.length), ∃ b o, a = some ⟨b, o, none⟩ ∧ b < w.heap.size ∧ w.cell? ⟨b, o + k * 2, none⟩ = some (.string l[k].nm) ∧ w.cell? ⟨b, o + k * 2 + 1, none⟩ = some (.int .i64 l[k].lb)
theorem Rls.mono {w w' : World} {a : Option Addr} {l : List Rl} (h : Rls w a l) (hb : Below w.heap.size w w') : Rls w' a l := fun k hk => by
  obtain ⟨b, o, e, hl, hc, hd⟩ := h k hk
  exact ⟨b, o, e, Nat.lt_of_lt_of_le hl hb.size, (hb.cell hl).trans hc, (hb.cell hl).trans hd⟩
/-- A slice of integers, as a list. -/
def IntL (w : World) (a : Option Addr) (l : List Int) : Prop := Ints w a l.length (fun k => l.getD k 0)
theorem IntL.mono {w w' : World} {a : Option Addr} {l : List Int} (h : IntL w a l) (hb : Below w.heap.size w w') : IntL w' a l := Ints.mono h hb
/-- A slice of nodes, as a list. -/
def NodL (w : World) (a : Option Addr) (l : List Nx) : Prop := Nods w a l.length (nf l)
theorem NodL.mono {w w' : World} {a : Option Addr} {l : List Nx} (h : NodL w a l) (hb : Below w.heap.size w w') : NodL w' a l := Nods.mono h hb

/-- Where the slices of a field lie. -/
structure FA where
  b : Option Addr
  bc : Nat
  i : Option Addr
  ic : Nat
  h : Option Addr
  hc : Nat
  v : Option Addr
  vc : Nat
  u : Option Addr
  uc : Nat
structure FSl (w : World) (f : Fl) (A : FA) : Prop where
  b : IntL w A.b f.bys
  i : NodL w A.i f.is
  h : NodL w A.h f.wh
  v : NodL w A.v f.va
  u : NodL w A.u f.mu
theorem FSl.mono {w w' : World} {f : Fl} {A : FA} (h : FSl w f A) (hb : Below w.heap.size w w') : FSl w' f A := ⟨h.b.mono hb, h.i.mono hb, h.h.mono hb, h.v.mono hb, h.u.mono hb⟩
/-- The cells of a field. -/
def fCs (f : Fl) (A : FA) : List Value := [.string f.nm, .int .i64 f.ty, .int .i64 f.lb, .slice A.b f.bys.length A.bc, .slice A.i f.is.length A.ic, .slice A.h f.wh.length A.hc, .slice A.v f.va.length A.vc, .string f.sy, .slice A.u f.mu.length A.uc]
def fV (f : Fl) (A : FA) : Value := .agg #[.string f.nm, .int .i64 f.ty, .int .i64 f.lb, .slice A.b f.bys.length A.bc, .slice A.i f.is.length A.ic, .slice A.h f.wh.length A.hc, .slice A.v f.va.length A.vc, .string f.sy, .slice A.u f.mu.length A.uc]
def FCel (w : World) (b o : Nat) (f : Fl) (A : FA) : Prop := b < w.heap.size ∧ w.cell? ⟨b, o, none⟩ = some (.string f.nm) ∧ w.cell? ⟨b, o + 1, none⟩ = some (.int .i64 f.ty) ∧ w.cell? ⟨b, o + 2, none⟩ = some (.int .i64 f.lb) ∧ w.cell? ⟨b, o + 3, none⟩ = some (.slice A.b f.bys.length A.bc) ∧ w.cell? ⟨b, o + 4, none⟩ = some (.slice A.i f.is.length A.ic) ∧ w.cell? ⟨b, o + 5, none⟩ = some (.slice A.h f.wh.length A.hc) ∧ w.cell? ⟨b, o + 6, none⟩ = some (.slice A.v f.va.length A.vc) ∧ w.cell? ⟨b, o + 7, none⟩ = some (.string f.sy) ∧ w.cell? ⟨b, o + 8, none⟩ = some (.slice A.u f.mu.length A.uc)
theorem FCel.mono {w w' : World} {b o : Nat} {f : Fl} {A : FA} (h : FCel w b o f A) (hb : Below w.heap.size w w') : FCel w' b o f A :=
  ⟨Nat.lt_of_lt_of_le h.1 hb.size, (hb.cell h.1).trans h.2.1, (hb.cell h.1).trans h.2.2.1, (hb.cell h.1).trans h.2.2.2.1, (hb.cell h.1).trans h.2.2.2.2.1, (hb.cell h.1).trans h.2.2.2.2.2.1, (hb.cell h.1).trans h.2.2.2.2.2.2.1, (hb.cell h.1).trans h.2.2.2.2.2.2.2.1, (hb.cell h.1).trans h.2.2.2.2.2.2.2.2.1, (hb.cell h.1).trans h.2.2.2.2.2.2.2.2.2⟩
theorem nine {w : World} {b : Nat} {t : TypeId} {v0 v1 v2 v3 v4 v5 v6 v7 v8 : Value} (h : Blk w b t [v0, v1, v2, v3, v4, v5, v6, v7, v8]) :
    w.cell? ⟨b, 0, none⟩ = some v0 ∧ w.cell? ⟨b, 1, none⟩ = some v1 ∧ w.cell? ⟨b, 2, none⟩ = some v2 ∧ w.cell? ⟨b, 3, none⟩ = some v3 ∧ w.cell? ⟨b, 4, none⟩ = some v4 ∧ w.cell? ⟨b, 5, none⟩ = some v5 ∧ w.cell? ⟨b, 6, none⟩ = some v6 ∧ w.cell? ⟨b, 7, none⟩ = some v7 ∧ w.cell? ⟨b, 8, none⟩ = some v8 := ⟨h.cell 0, h.cell 1, h.cell 2, h.cell 3, h.cell 4, h.cell 5, h.cell 6, h.cell 7, h.cell 8⟩
/-- A slice of fields. -/
def Flds (w : World) (a : Option Addr) (l : List Fl) (A : Nat → FA) : Prop := ∀ k (h : k < l.length), ∃ b o, a = some ⟨b, o, none⟩ ∧ FCel w b (o + k * 9) l[k] (A k) ∧ FSl w l[k] (A k)
theorem Flds.mono {w w' : World} {a : Option Addr} {l : List Fl} {A : Nat → FA} (h : Flds w a l A) (hb : Below w.heap.size w w') : Flds w' a l A := fun k hk => by
  obtain ⟨b, o, e, hc, hs⟩ := h k hk
  exact ⟨b, o, e, hc.mono hb, hs.mono hb⟩
/-- Where the slices of a form lie. -/
structure MA where
  l : Option Addr
  lc : Nat
  p : Option Addr
  pc : Nat
  r : Option Addr
  rc : Nat
  f : Option Addr
  fc : Nat
  fa : Nat → FA
def mV (m : Fm) (A : MA) : Value := .agg #[.slice A.l m.labels.length A.lc, .slice A.p m.below.length A.pc, .slice A.r m.roles.length A.rc, .slice A.f m.fields.length A.fc]
structure MSl (w : World) (m : Fm) (A : MA) : Prop where
  l : Strs w A.l m.labels
  p : Prs w A.p m.below
  r : Rls w A.r m.roles
  f : Flds w A.f m.fields A.fa
theorem MSl.mono {w w' : World} {m : Fm} {A : MA} (h : MSl w m A) (hb : Below w.heap.size w w') : MSl w' m A := ⟨h.l.mono hb, h.p.mono hb, h.r.mono hb, h.f.mono hb⟩
theorem quad {w : World} {b : Nat} {t : TypeId} {v0 v1 v2 v3 : Value} (h : Blk w b t [v0, v1, v2, v3]) :
    w.cell? ⟨b, 0, none⟩ = some v0 ∧ w.cell? ⟨b, 1, none⟩ = some v1 ∧ w.cell? ⟨b, 2, none⟩ = some v2 ∧ w.cell? ⟨b, 3, none⟩ = some v3 := ⟨h.cell 0, h.cell 1, h.cell 2, h.cell 3⟩

def mxI : Nat := 9223372036854775807
/-- What can be reckoned with in a field and in a form. -/
structure FitF (f : Fl) : Prop where
  nm : f.nm.size ≤ 9223372036854775807
  sy : f.sy.size ≤ 9223372036854775807
  bl : f.bys.length ≤ 9223372036854775807
  il : f.is.length ≤ 9223372036854775807
  hl : f.wh.length ≤ 9223372036854775807
  vl : f.va.length ≤ 9223372036854775807
  ul : f.mu.length ≤ 9223372036854775807
  i : ∀ k, k < f.is.length → Fit (nf f.is k)
  h : ∀ k, k < f.wh.length → Fit (nf f.wh k)
  v : ∀ k, k < f.va.length → Fit (nf f.va k)
  u : ∀ k, k < f.mu.length → Fit (nf f.mu k)
structure FitM (m : Fm) : Prop where
  ll : m.labels.length ≤ 9223372036854775807
  pl : m.below.length ≤ 9223372036854775807
  rl : m.roles.length ≤ 9223372036854775807
  fl : m.fields.length ≤ 9223372036854775807
  l : ∀ x, x ∈ m.labels → x.size ≤ 9223372036854775807
  r : ∀ x, x ∈ m.roles → x.nm.size ≤ 9223372036854775807
  f : ∀ x, x ∈ m.fields → FitF x
end Go.Proofs.YtngjdgcekflooaaGreatDoor
