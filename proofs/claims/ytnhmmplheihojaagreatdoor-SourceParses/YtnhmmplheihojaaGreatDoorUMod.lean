/- Chapter 11: texts, lines, words, and what a text says: the mathematics. -/
import Derived.Test.YtnhmmplheihojaaGreatDoorGChk
namespace Go.Proofs.YtnhmmplheihojaaGreatDoor
namespace U

/-- bytes as a string -/
def ba (l : List UInt8) : ByteArray := ⟨l.toArray⟩
theorem ba_data (l : List UInt8) : (ba l).data.toList = l := by simp [ba]
theorem ba_of (s : ByteArray) : ba s.data.toList = s := by cases s; simp [ba]
theorem ba_inj {a b : List UInt8} (h : ba a = ba b) : a = b := by have := congrArg (fun s : ByteArray => s.data.toList) h; simpa [ba] using this
theorem ba_size (l : List UInt8) : (ba l).size = l.length := by simp [ba, ByteArray.size]
theorem ba_eq (a b : List UInt8) : (ba a = ba b) = (a = b) := propext ⟨ba_inj, fun h => by rw [h]⟩

def isBl (b : UInt8) : Bool := b == 32 || b == 9
/-- The words of a text behind what is gathered of one. -/
def wordsA : List UInt8 → List UInt8 → List (List UInt8)
  | cur, [] => if cur.isEmpty then [] else [cur]
  | cur, b :: r => if isBl b then (if cur.isEmpty then wordsA [] r else cur :: wordsA [] r) else wordsA (cur ++ [b]) r
def words (s : List UInt8) : List (List UInt8) := wordsA [] s
/-- A text ahead of the first of a sign. -/
def ahead (c : UInt8) : List UInt8 → List UInt8
  | [] => []
  | b :: r => if b = c then [] else b :: ahead c r
/-- A text cut at all of a sign. -/
def splitOn (c : UInt8) : List UInt8 → List (List UInt8)
  | [] => [[]]
  | b :: r => if b = c then [] :: splitOn c r else match splitOn c r with
    | h :: t => (b :: h) :: t
    | [] => [[b]]
/-- a line's words -/
def wordsOf (l : List UInt8) : List (List UInt8) := words (ahead 35 l)

/-- is a word a name? -/
def nmL (l : List UInt8) : Bool := decide (1 ≤ l.length) && decide (l.length ≤ 40) && l.all Gr.inNm
def digB (b : UInt8) : Bool := decide (48 ≤ b.toNat) && decide (b.toNat ≤ 57)
/-- The number that digits make, none if it is too great or opens with a 0 that it may not. -/
def numL : Bool → Nat → List UInt8 → Option Nat
  | _, n, [] => some n
  | f, n, b :: r => if digB b = true ∧ (f = true ∨ n ≠ 0) ∧ n * 10 + (b.toNat - 48) ≤ 4611686018427387903 then numL false (n * 10 + (b.toNat - 48)) r else none
def num (l : List UInt8) : Option Nat := if l = [] then none else numL true 0 l

/-- a node as a text says it: its numbers, its lists -/
structure Pn where
  nm : List UInt8
  la : Int
  bu : Int
  cl : Int
  be : Int
  bs : Int
  ca : Int
  ji : Int
  nl : List Int
  al : List Int
/-- a line of needs (kind 0) or after (kind 1) -/
structure Mn where
  place : Nat
  node : Nat
  kind : Nat
  names : List (List UInt8)
/-- a plan that is being read -/
structure Dr where
  nm : List UInt8
  dl : Int
  nds : List Pn
  place : Nat
  places : List Nat
  hn : Bool
  ha : Bool
  ms : List Mn
def Dr.new : Dr := ⟨[], 0, [], 0, [], false, false, []⟩

/-- a line whose words are taken: those that are left, and whether one did not fit -/
abbrev Ln : Type := List (List UInt8) × Bool
def hd (ws : List (List UInt8)) : List UInt8 := ws.headD []
def tkName (s : List (List UInt8) × Bool) : List UInt8 × Ln := (hd s.1, (s.1.tail, s.2 || !nmL (hd s.1)))
def tkNum (kw : List UInt8) (s : List (List UInt8) × Bool) : Int × Ln := (((num (hd s.1.tail)).getD 0 : Nat), (s.1.tail.tail, s.2 || !decide (hd s.1 = kw) || (num (hd s.1.tail)).isNone))
def fits (s : List (List UInt8) × Bool) : Bool := !s.2 && s.1.isEmpty
/-- what may be left out -/
def tkOpt (kw : List UInt8) (z : Int) (s : List (List UInt8) × Bool) : Int × Ln := if hd s.1 = kw then tkNum kw s else (z, s)

def kwPlan : List UInt8 := [112, 108, 97, 110]
def kwNode : List UInt8 := [110, 111, 100, 101]
def kwNeeds : List UInt8 := [110, 101, 101, 100, 115]
def kwAfter : List UInt8 := [97, 102, 116, 101, 114]
def kwDead : List UInt8 := [100, 101, 97, 100, 108, 105, 110, 101]
def kwLane : List UInt8 := [108, 97, 110, 101]
def kwBudget : List UInt8 := [98, 117, 100, 103, 101, 116]
def kwClose : List UInt8 := [99, 108, 111, 115, 101]
def kwBeat : List UInt8 := [98, 101, 97, 116]
def kwBack : List UInt8 := [98, 97, 99, 107, 111, 102, 102]
def kwTo : List UInt8 := [116, 111]
def kwJit : List UInt8 := [106, 105, 116, 116, 101, 114]

def begin_ (d : Dr) (place : Nat) (ws : List (List UInt8)) : Option Dr :=
  let a := tkName (ws, false)
  let b := tkNum kwDead a.2
  if fits b.2 = true ∧ d.place = 0 then some { d with nm := a.1, dl := b.1, place := place } else none
/-- a node's line: what is read of it, and what is left -/
def rdNode (ws : List (List UInt8)) : Pn × Ln :=
  let a := tkName (ws, false)
  let b := tkNum kwLane a.2
  let c := tkNum kwBudget b.2
  let e := tkNum kwClose c.2
  let f := tkOpt kwBeat 0 e.2
  let g := tkOpt kwBack 1 f.2
  let h := if hd f.2.1 = kwBack then tkNum kwTo g.2 else (1, g.2)
  let i := tkOpt kwJit 0 h.2
  (⟨a.1, b.1, c.1, e.1, f.1, g.1, h.1, i.1, [], []⟩, i.2)
def addNode (d : Dr) (place : Nat) (ws : List (List UInt8)) : Option Dr :=
  if fits (rdNode ws).2 = true ∧ d.place ≠ 0 then some { d with nds := d.nds ++ [(rdNode ws).1], places := d.places ++ [place], hn := false, ha := false } else none
def addMen (kind : Nat) (d : Dr) (place : Nat) (ws : List (List UInt8)) : Option Dr :=
  if d.nds ≠ [] ∧ (if kind = 0 then d.hn else d.ha) = false ∧ ws ≠ [] ∧ ws.all nmL = true then
    some { d with hn := if kind = 0 then true else d.hn, ha := if kind = 0 then d.ha else true, ms := d.ms ++ [⟨place, d.nds.length - 1, kind, ws⟩] } else none
/-- a line that says something -/
def doLine (d : Dr) (place : Nat) (f : List UInt8) (ws : List (List UInt8)) : Option Dr :=
  if f = kwPlan then begin_ d place ws else if f = kwNode then addNode d place ws else if f = kwNeeds then addMen 0 d place ws else if f = kwAfter then addMen 1 d place ws else none
def step (d : Dr) (place : Nat) (ws : List (List UInt8)) : Option Dr := match ws with
  | [] => some d
  | f :: r => doLine d place f r
/-- the first line that is none, or all that was read -/
def readL : Nat → List (List UInt8) → Dr → Nat ⊕ Dr
  | _, [], d => .inr d
  | p, l :: r, d => match step d p (wordsOf l) with
    | none => .inl p
    | some d' => readL (p + 1) r d'

/-- which node a name means -/
def idx (nds : List Pn) (n : List UInt8) : Option Nat := nds.findIdx? fun x => x.nm == n
/-- the nodes that names mean, rising, each once -/
def edg (nds : List Pn) (names : List (List UInt8)) : Option (List Int) :=
  if names.all (fun n => (idx nds n).isSome) then some (((List.range nds.length).filter fun i => names.any fun n => idx nds n == some i).map fun (i : Nat) => (i : Int)) else none
def setEdge (nds : List Pn) (m : Mn) (l : List Int) : List Pn :=
  nds.modify m.node fun x => if m.kind = 0 then { x with nl := l } else { x with al := l }
def layE : List Mn → List Pn → Nat ⊕ List Pn
  | [], nds => .inr nds
  | m :: r, nds => match edg nds m.names with
    | none => .inl m.place
    | some l => layE r (setEdge nds m l)
/-- a node without places in memory -/
def no (x : Pn) : Gr.No := ⟨⟨ba x.nm, x.la, x.bu, x.cl, x.be, x.bs, x.ca, x.ji, (none, 0, 0), (none, 0, 0)⟩, x.nl, x.al⟩
/-- a plan as a text says it -/
structure Pl where
  nm : List UInt8
  dl : Int
  nds : List Pn
/-- what Check says of what was read -/
noncomputable def judge (d : Dr) (nds : List Pn) (c : Nat × Nat) : (Nat × Nat) ⊕ Pl :=
  if c.2 = 0 then .inr ⟨d.nm, d.dl, nds⟩ else if c.1 = 0 then .inl (d.place, c.2) else .inl (d.places.getD (c.1 - 1) 0, c.2)
/-- what Parse answers: the line and the error, or a plan -/
noncomputable def parse (s : List UInt8) : (Nat × Nat) ⊕ Pl :=
  if 65536 < s.length then .inl (0, 110) else
  match readL 1 (splitOn 10 s) Dr.new with
  | .inl p => .inl (p, 111)
  | .inr d => if d.place = 0 then .inl (0, 111) else
    match layE d.ms d.nds with
    | .inl p => .inl (p, 112)
    | .inr nds => judge d nds (Gr.chk (ba d.nm) d.dl (nds.map no))
end U
end Go.Proofs.YtnhmmplheihojaaGreatDoor
