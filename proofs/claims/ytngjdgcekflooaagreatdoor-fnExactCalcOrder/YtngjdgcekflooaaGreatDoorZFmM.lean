import Derived.Test.YtngjdgcekflooaaGreatDoorGSb
/- Forms as data: what is a valid form, and its canonical text. No walk in this text. -/
namespace Go.Proofs.YtngjdgcekflooaaGreatDoor
open Go

/-- A text is among these. -/
def memB (x : ByteArray) (l : List ByteArray) : Bool := l.any fun y => decide (y = x)
theorem memB_iff (x : ByteArray) (l : List ByteArray) : memB x l = true ↔ x ∈ l := by
  unfold memB
  rw [List.any_eq_true]
  exact ⟨fun ⟨y, hy, e⟩ => by rw [← of_decide_eq_true e]; exact hy, fun h => ⟨x, h, decide_eq_true rfl⟩⟩
theorem memB_no {x : ByteArray} {l : List ByteArray} (h : ¬ x ∈ l) : memB x l = false := by
  cases e : memB x l
  · rfl
  · exact absurd ((memB_iff x l).1 e) h
structure Rl where
  nm : ByteArray
  lb : Int
structure Fl where
  nm : ByteArray
  ty : Int
  lb : Int
  bys : List Int
  is : List Nx
  wh : List Nx
  va : List Nx
  sy : ByteArray
  mu : List Nx
structure Fm where
  labels : List ByteArray
  below : List (Int × Int)
  roles : List Rl
  fields : List Fl
def noRl : Rl := ⟨⟨#[]⟩, 0⟩

def noNx : Nx := ⟨0, ⟨0, 0, ⟨#[]⟩⟩, ⟨#[]⟩⟩
/-- A list of nodes as a function of the place. -/
def nf (l : List Nx) (k : Nat) : Nx := l.getD k noNx
theorem nf_get (l : List Nx) (k : Nat) (h : k < l.length) : nf l k = l[k] := by unfold nf; rw [List.getD_eq_getElem?_getD, List.getElem?_eq_getElem h]; rfl
def vxL (l : List Nx) : Bool := vxB (nf l) l.length
/-- The printed text of a rule. -/
def txL (l : List Nx) : ByteArray := (top (nf l) l.length).t
def ruleOk (l : List Nx) : Bool := decide (l.length = 0) || vxL l
def knows (names : List ByteArray) (l : List Nx) : Bool := l.all fun n => !decide (n.op = 1) || memB n.nm names
def namesOk (l : List ByteArray) : Bool := l.all goodN && decide l.Nodup
def inR (n : Nat) (x : Int) : Bool := decide (0 ≤ x ∧ x < n)
def bysOk (nr : Nat) (l : List Int) : Bool := l.all (inR nr) && decide l.Nodup
def fieldOk (nl nr : Nat) (f : Fl) : Bool :=
  decide (1 ≤ f.ty ∧ f.ty ≤ 3) && decide (-1 ≤ f.lb ∧ f.lb < nl) && bysOk nr f.bys && decide (f.is.length = 0 ∨ f.bys.length = 0) && okText f.sy && decide (f.va.length ≠ 0 ∨ f.sy.size = 0) && ruleOk f.is && ruleOk f.wh && ruleOk f.va && ruleOk f.mu
def fieldKnows (names : List ByteArray) (f : Fl) : Bool := knows names f.is && knows names f.wh && knows names f.va && knows names f.mu
def fNames (f : Fm) : List ByteArray := f.fields.map (·.nm)
def rNames (f : Fm) : List ByteArray := f.roles.map (·.nm)

def sb (s : ByteArray) : List UInt8 := s.data.toList
def labAt (ls : List ByteArray) (i : Int) : ByteArray := ls.getD i.toNat ⟨#[]⟩
def rolAt (rs : List Rl) (i : Int) : Rl := rs.getD i.toNat noRl
def tLab (x : ByteArray) : List UInt8 := [108, 97, 98, 101, 108, 32] ++ sb x ++ [59, 10]
def tBel (ls : List ByteArray) (p : Int × Int) : List UInt8 := [98, 101, 108, 111, 119, 32] ++ sb (labAt ls p.1) ++ [32] ++ sb (labAt ls p.2) ++ [59, 10]
def tRol (ls : List ByteArray) (r : Rl) : List UInt8 := [114, 111, 108, 101, 32] ++ sb r.nm ++ [32, 97, 116, 32] ++ sb (labAt ls r.lb) ++ [59, 10]
/-- A rule behind its word, with a space ahead of both. -/
def tRule (word : List UInt8) (l : List Nx) : List UInt8 := if l.length = 0 then [] else [32] ++ word ++ [32] ++ sb (txL l)
def wIs : List UInt8 := [105, 115]
def wWhen : List UInt8 := [119, 104, 101, 110]
def wValid : List UInt8 := [118, 97, 108, 105, 100]
def wMust : List UInt8 := [109, 117, 115, 116]
def tyName (t : Int) : List UInt8 := if t = 1 then [105, 110, 116] else if t = 2 then [98, 111, 111, 108] else [116, 101, 120, 116]
def tBy (rs : List Rl) (i : Int) : List UInt8 := [32, 98, 121, 32] ++ sb (rolAt rs i).nm
def tSays (f : Fl) : List UInt8 := if f.va.length = 0 then [] else [32, 115, 97, 121, 115, 32, 34] ++ sb f.sy ++ [34]
def tFldA (fm : Fm) (f : Fl) : List UInt8 := [102, 105, 101, 108, 100, 32] ++ sb f.nm ++ [32] ++ tyName f.ty ++ [32, 97, 116, 32] ++ (if f.lb < 0 then [97, 117, 116, 111] else sb (labAt fm.labels f.lb))
def tFld (fm : Fm) (f : Fl) : List UInt8 := tFldA fm f ++ f.bys.flatMap (tBy fm.roles) ++ tRule wIs f.is ++ tRule wWhen f.wh ++ tRule wValid f.va ++ tSays f ++ tRule wMust f.mu ++ [59, 10]
/-- The canonical text. -/
def cT (f : Fm) : List UInt8 := f.labels.flatMap tLab ++ f.below.flatMap (tBel f.labels) ++ f.roles.flatMap (tRol f.labels) ++ f.fields.flatMap (tFld f)

/-- All clauses but the last. -/
def vfA (f : Fm) : Bool :=
  decide (f.labels.length ≤ 32 ∧ f.below.length ≤ 256 ∧ f.roles.length ≤ 64 ∧ f.fields.length ≤ 200) && namesOk f.labels && namesOk (rNames f) && namesOk (fNames f)
    && (f.below.all fun p => inR f.labels.length p.1 && inR f.labels.length p.2) && (f.roles.all fun r => inR f.labels.length r.lb)
    && (f.fields.all fun d => fieldOk f.labels.length f.roles.length d && fieldKnows (fNames f) d)
/-- A valid form. -/
def vfB (f : Fm) : Bool := vfA f && decide ((cT f).length ≤ 30000)

theorem goodN_size {s : ByteArray} (h : goodN s = true) : s.size ≤ 16 := by
  simp only [goodN, Bool.and_eq_true, decide_eq_true_eq] at h; omega
theorem txL_size {l : List Nx} (h : vxL l = true) : (txL l).size ≤ 4000 := ((vxB_iff _ _).1 h).2.2.2.2.2.2
theorem sb_len (s : ByteArray) : (sb s).length = s.size := by simp [sb]
theorem labAt_size {ls : List ByteArray} {i : Int} (h : namesOk ls = true) : (labAt ls i).size ≤ 16 := by
  unfold labAt
  rw [List.getD_eq_getElem?_getD]
  cases hh : ls[i.toNat]? with
  | none => exact Nat.zero_le _
  | some x =>
    simp only [namesOk, Bool.and_eq_true, List.all_eq_true] at h
    exact goodN_size (h.1 x (List.mem_of_getElem? hh))
theorem ruleOk_size {l : List Nx} {word : List UInt8} (h : ruleOk l = true) (hw : word.length ≤ 5) : (tRule word l).length ≤ 4010 := by
  unfold tRule
  split
  · simp
  · rename_i hl
    simp only [ruleOk, Bool.or_eq_true, decide_eq_true_eq] at h
    have := txL_size (h.resolve_left hl)
    simp only [List.length_append, List.length_cons, List.length_nil, sb_len]
    omega
theorem flatMap_len {α : Type} (l : List α) (g : α → List UInt8) (c : Nat) (h : ∀ x, x ∈ l → (g x).length ≤ c) : (l.flatMap g).length ≤ c * l.length := by
  induction l with
  | nil => simp
  | cons x r ih =>
    have h1 := h x List.mem_cons_self
    have h2 := ih fun y hy => h y (List.mem_cons_of_mem _ hy)
    simp only [List.flatMap_cons, List.length_append, List.length_cons, Nat.mul_add, Nat.mul_one]
    omega
end Go.Proofs.YtngjdgcekflooaaGreatDoor
