/- Chapter 8's laws: a script that came in; filled. -/
import Derived.Test.YtdokpaljlpfcjaaQStp
namespace Go.Proofs.Ytdokpaljlpfcjaa
namespace Qu
open Go.RowKit

/-- a step: which, what, thing -/
abbrev Sp := Int × Int × Int
def Sp.In (x : Sp) : Prop := (-9223372036854775808 ≤ x.1 ∧ x.1 ≤ 9223372036854775807) ∧ (-9223372036854775808 ≤ x.2.1 ∧ x.2.1 ≤ 9223372036854775807) ∧ (-9223372036854775808 ≤ x.2.2 ∧ x.2.2 ≤ 9223372036854775807)

/-- a script in memory, in blocks below B -/
structure RdQ (B : Nat) (w : World) (a : Option Addr) (n : Nat) (l : List Sp) : Prop where
  len : n = l.length
  few : l.length ≤ 8796093022208
  inn : ∀ x ∈ l, Sp.In x
  rd : ∀ j x, l[j]? = some x → ∃ g off, a = some ⟨g, off, none⟩ ∧ g < B ∧ w.cell? ⟨g, off + j * 3, none⟩ = some (.int .i64 x.1) ∧ w.cell? ⟨g, off + j * 3 + 1, none⟩ = some (.int .i64 x.2.1) ∧ w.cell? ⟨g, off + j * 3 + 2, none⟩ = some (.int .i64 x.2.2)
theorem RdQ.keep {B n : Nat} {w w' : World} {a : Option Addr} {l : List Sp} (h : RdQ B w a n l) {T : Nat → Prop} (hk : Keep T w w') (hT : ∀ k, k < B → ¬ T k) : RdQ B w' a n l :=
  ⟨h.len, h.few, h.inn, fun j x hj => by
    obtain ⟨g, off, e1, e2, e3, e4, e5⟩ := h.rd j x hj
    exact ⟨g, off, e1, e2, hk.cell e3 (hT g e2), hk.cell e4 (hT g e2), hk.cell e5 (hT g e2)⟩⟩

/-- a step on a state; a script -/
def stQ (s : St Int) (x : Sp) : St Int := stS s (pickV x.2.1 8) x.2.2
def runQ (s : St Int) (l : List Sp) : St Int := l.foldl stQ s

theorem remove_last (s : St Int) (k : Int) : (s.remove k).last = s.last := by unfold St.remove; split <;> rfl
theorem pushed_last (s : St Int) (k : Int) : (s.pushed k).last ≤ s.last + 1 := by
  unfold St.pushed
  split
  · omega
  · split
    · omega
    · exact Nat.le_refl _
theorem stS_last (s : St Int) (q k : Int) : (stS s q k).last ≤ s.last + 1 := by
  unfold stS
  split
  · exact pushed_last s k
  · split
    · show s.last ≤ _; omega
    · split
      · rw [remove_last]; omega
      · omega
theorem runQ_snoc (s : St Int) (l : List Sp) (x : Sp) : runQ s (l ++ [x]) = stQ (runQ s l) x := by simp [runQ]
theorem runQ_last (l : List Sp) : ∀ s : St Int, (runQ s l).last ≤ s.last + l.length := by
  induction l with
  | nil => exact fun s => Nat.le_refl _
  | cons x l ih =>
    intro s
    have := ih (stQ s x)
    have h2 := stS_last s (pickV x.2.1 8) x.2.2
    have h3 : runQ s (x :: l) = runQ (stQ s x) l := rfl
    have h4 : (stQ s x).last = (stS s (pickV x.2.1 8) x.2.2).last := rfl
    rw [h3]
    simp only [List.length_cons]
    omega

theorem QAt.low {α : Type} [DecidableEq α] {K : Kd α} {S : Nat → Prop} {w : World} {P : Nat} {s : St α} (h : QAt K S w P s) : QAt K (fun k => S k ∧ k < w.heap.size) w P s := by
  obtain ⟨h0, h1, m, v, h2⟩ := h
  refine ⟨h0, h1, m, v, h2.blk, h2.mp, ?_, ⟨h2.sp, h2.ltP⟩, ⟨h2.sm, h2.ltm⟩⟩
  rcases h2.row with h | ⟨g, off, cap, e1, e2, ⟨cs, e3⟩, e4⟩
  · exact .inl h
  · exact .inr ⟨g, off, cap, e1, ⟨e2, lt_blk e3⟩, ⟨cs, e3⟩, e4⟩

/-- a queue that lies in blocks from B on -/
def Own (B : Nat) (w : World) (P : Nat) (s : St Int) : Prop := QAt KI (fun k => B ≤ k ∧ k < w.heap.size) w P s
theorem Own.of {B : Nat} {w : World} {P : Nat} {s : St Int} {S : Nat → Prop} (h : QAt KI S w P s) (hS : ∀ k, S k → B ≤ k) : Own B w P s := h.low.mono fun k e => ⟨hS k e.1, e.2⟩
theorem Own.new {B : Nat} {w w' : World} {P : Nat} {s : St Int} (h : Own B w P s) (hk : Keep (fun _ => False) w w') : Own B w' P s := Own.of (QAt.new h hk) fun _ e => e.1
theorem Own.stay {B : Nat} {w w' : World} {P : Nat} {s : St Int} (h : Own B w P s) {T : Nat → Prop} (hk : Keep T w w') (hT : ∀ k, B ≤ k → k < w.heap.size → ¬ T k) : Own B w' P s := Own.of (QAt.stay h hk fun k _ e => hT k e.1 e.2) fun _ e => e.1

/-- what a step does to a queue of one's own -/
def Stepd (B : Nat) (w : World) (P : Nat) (s : St Int) (x : Sp) (e : Ending) (w' : World) : Prop :=
  ∃ a c, e = .returned (.agg #[.int .i64 (stC s (pickV x.2.1 8) x.2.2 : Nat), .int .i64 (stN s (pickV x.2.1 8) x.2.2 : Nat), .bool (stB s (pickV x.2.1 8)), .int .i64 (stK s (pickV x.2.1 8)), .slice a ((stL s (pickV x.2.1 8)).length * 2) c]) ∧ Own B w' P (stQ s x) ∧ Keep (fun k => B ≤ k) w w'
theorem step_any {B P : Nat} {s : St Int} (x : Sp) (w : World) (h : Own B w P s) (hB : B ≤ w.heap.size) (hx : Sp.In x) (hlast : s.last < 9007199254740990) :
    Calls Try.prog 9 #[.pointer (some ⟨P, 0, none⟩), .agg #[.int .i64 x.1, .int .i64 x.2.1, .int .i64 x.2.2]] w (Stepd B w P s x) := by
  refine (stepped_any x.1 x.2.1 x.2.2 w h (fun i e => e.2) hx.2.1.1 hx.2.1.2 hx.2.2.1 hx.2.2.2 hlast).mono ?_
  rintro e w' ⟨a, c, rfl, _, h1, k1⟩
  exact ⟨a, c, rfl, Own.of h1 fun k e => e.elim (fun e => e.1) fun e => Nat.le_trans hB e, k1.mono fun k e => e.1⟩

end Qu
end Go.Proofs.Ytdokpaljlpfcjaa
