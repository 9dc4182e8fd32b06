/- Chapter 8's laws: a script that came in; filled. -/
import Derived.Test.YtobmnkoohgkiiaaQStp
namespace Go.Proofs.Ytobmnkoohgkiiaa
namespace Qu
open Go.RowKit

/-- a step: which, what, thing -/
abbrev Sp := Int × Int × Int
def Sp.In (x : Sp) : Prop := (-9223372036854775808 ≤ x.1 ∧ x.1 ≤ 9223372036854775807) ∧ (-9223372036854775808 ≤ x.2.1 ∧ x.2.1 ≤ 9223372036854775807) ∧ (-9223372036854775808 ≤ x.2.2 ∧ x.2.2 ≤ 9223372036854775807)

/-- a script in memory, in blocks below B -/
structure RdQ (B : Nat) (w : World) (a : Option Addr) (n : Nat) (l : List Sp) : Prop where
  len : n = l.length
  few : l.length ≤ 8796093022208
  inn : ∀ x ∈ l, Sp.In x
  rd : ∀ j x, l[j]? = some x → ∃ g off, a = some ⟨g, off, none⟩ ∧ g < B ∧ w.cell? ⟨g, off + j * 3, none⟩ = some (.int .i64 x.1) ∧ w.cell? ⟨g, off + j * 3 + 1, none⟩ = some (.int .i64 x.2.1) ∧ w.cell? ⟨g, off + j * 3 + 2, none⟩ = some (.int .i64 x.2.2)
theorem RdQ.keep {B n : Nat} {w w' : World} {a : Option Addr} {l : List Sp} (h : RdQ B w a n l) {T : Nat → Prop} (hk : Keep T w w') (hT : ∀ k, k < B → ¬ T k) : RdQ B w' a n l :=
  ⟨h.len, h.few, h.inn, fun j x hj => by
    obtain ⟨g, off, e1, e2, e3, e4, e5⟩ := h.rd j x hj
    exact ⟨g, off, e1, e2, hk.cell e3 (hT g e2), hk.cell e4 (hT g e2), hk.cell e5 (hT g e2)⟩⟩

/-- a step on a state; a script -/
def stQ (s : St Int) (x : Sp) : St Int := stS s (pickV x.2.1 8) x.2.2
def runQ (s : St Int) (l : List Sp) : St Int := l.foldl stQ s

theorem remove_last (s : St Int) (k : Int) : (s.remove k).last = s.last := by unfold St.remove; split <;> rfl
theorem pushed_last (s : St Int) (k : Int) : (s.pushed k).last ≤ s.last + 1 := by
  unfold St.pushed
  split
  · omega
  · split
    · omega
    · exact Nat.le_refl _
theorem stS_last (s : St Int) (q k : Int) : (stS s q k).last ≤ s.last + 1 := by
  unfold stS
  split
  · exact pushed_last s k
  · split
    · show s.last ≤ _; omega
    · split
      · rw [remove_last]; omega
      · omega
theorem runQ_snoc (s : St Int) (l : List Sp) (x : Sp) : runQ s (l ++ [x]) = stQ (runQ s l) x := by simp [runQ]
theorem runQ_last (l : List Sp) : ∀ s : St Int, (runQ s l).last ≤ s.last + l.length := by
  induction l with
  | nil => exact fun s => Nat.le_refl _
  | cons x l ih =>
    intro s
    have := ih (stQ s x)
    have h2 := stS_last s (pickV x.2.1 8) x.2.2
    have h3 : runQ s (x :: l) = runQ (stQ s x) l := rfl
    have h4 : (stQ s x).last = (stS s (pickV x.2.1 8) x.2.2).last := rfl
    rw [h3]
    simp only [List.length_cons]
    omega

theorem QAt.low {α : Type} [DecidableEq α] {K : Kd α} {S : Nat → Prop} {w : World} {P : Nat} {s : St α} (h : QAt K S w P s) : QAt K (fun k => S k ∧ k < w.heap.size) w P s := by
  obtain ⟨h0, h1, m, v, h2⟩ := h
  refine ⟨h0, h1, m, v, h2.blk, h2.mp, ?_, ⟨h2.sp, h2.ltP⟩, ⟨h2.sm, h2.ltm⟩⟩
  rcases h2.row with h | ⟨g, off, cap, e1, e2, ⟨cs, e3⟩, e4⟩
  · exact .inl h
  · exact .inr ⟨g, off, cap, e1, ⟨e2, lt_blk e3⟩, ⟨cs, e3⟩, e4⟩

/-- a queue that lies in blocks from B on -/
def Own (B : Nat) (w : World) (P : Nat) (s : St Int) : Prop := QAt KI (fun k => B ≤ k ∧ k < w.heap.size) w P s
theorem Own.of {B : Nat} {w : World} {P : Nat} {s : St Int} {S : Nat → Prop} (h : QAt KI S w P s) (hS : ∀ k, S k → B ≤ k) : Own B w P s := h.low.mono fun k e => ⟨hS k e.1, e.2⟩
theorem Own.new {B : Nat} {w w' : World} {P : Nat} {s : St Int} (h : Own B w P s) (hk : Keep (fun _ => False) w w') : Own B w' P s := Own.of (QAt.new h hk) fun _ e => e.1
theorem Own.stay {B : Nat} {w w' : World} {P : Nat} {s : St Int} (h : Own B w P s) {T : Nat → Prop} (hk : Keep T w w') (hT : ∀ k, B ≤ k → k < w.heap.size → ¬ T k) : Own B w' P s := Own.of (QAt.stay h hk fun k _ e => hT k e.1 e.2) fun _ e => e.1

/-- what a step does to a queue of one's own -/
def Stepd (B : Nat) (w : World) (P : Nat) (s : St Int) (x : Sp) (e : Ending) (w' : World) : Prop :=
  ∃ a c, e = .returned (.agg #[.int .i64 (stC s (pickV x.2.1 8) x.2.2 : Nat), .int .i64 (stN s (pickV x.2.1 8) x.2.2 : Nat), .bool (stB s (pickV x.2.1 8)), .int .i64 (stK s (pickV x.2.1 8)), .slice a ((stL s (pickV x.2.1 8)).length * 2) c]) ∧ Own B w' P (stQ s x) ∧ Keep (fun k => B ≤ k) w w'
theorem step_any {B P : Nat} {s : St Int} (x : Sp) (w : World) (h : Own B w P s) (hB : B ≤ w.heap.size) (hx : Sp.In x) (hlast : s.last < 9007199254740990) :
    Calls Try.prog 10 #[.pointer (some ⟨P, 0, none⟩), .agg #[.int .i64 x.1, .int .i64 x.2.1, .int .i64 x.2.2]] w (Stepd B w P s x) := by
  refine (stepped_any x.1 x.2.1 x.2.2 w h (fun i e => e.2) hx.2.1.1 hx.2.1.2 hx.2.2.1 hx.2.2.2 hlast).mono ?_
  rintro e w' ⟨a, c, rfl, _, h1, k1⟩
  exact ⟨a, c, rfl, Own.of h1 fun k e => e.elim (fun e => e.1) fun e => Nat.le_trans hB e, k1.mono fun k e => e.1⟩

set_option maxRecDepth 100000 in
set_option maxHeartbeats 4000000 in
theorem filled_any (c : Int) (a : Option Addr) (n cc : Nat) (l : List Sp) (w : World) (h1 : -9223372036854775808 ≤ c) (h2 : c ≤ 9223372036854775807) (hl : RdQ w.heap.size w a n l) :
    Calls Try.prog 15 #[.int .i64 c, .slice a n cc] w fun e w' => ∃ P n0, e = .returned (.pointer (some ⟨P, 0, none⟩)) ∧ 1 ≤ n0 ∧ n0 ≤ 65536 ∧ Own w.heap.size w' P (runQ (fresh n0) l) ∧ Keep (fun _ => False) w w' := by
  have HL := hide hl
  have hn := hl.len
  have hfew := hl.few
  have BR := hide (brought_any c h1 h2 w)
  clear hl h1 h2
  go_enter Try.func15, Try.ntmps15
  go_wp2_with fail
  go_at_call 7
  refine BR.out.mono ?_
  rintro e w1 ⟨⟨n0, g1, g2, rfl⟩, rfl⟩
  go_wp2_with fail
  go_at_call 6
  refine (newI n0 w1 g1 g2).mono ?_
  rintro e w2 ⟨P, rfl, q2, k2⟩
  have H2 := hide (Own.of (B := w1.heap.size) q2 fun k e => e)
  have K2 := hide k2
  have G := hide (And.intro g1 g2)
  clear q2 k2 BR g1 g2
  go_wp2
  go_loopw [7] (fun s7 wr => ∃ i : Nat, s7 = .int .i64 (i : Nat) ∧ i ≤ n ∧ Hid (Own w1.heap.size wr P (runQ (fresh n0) (l.take i)) ∧ Keep (fun _ => False) w1 wr)) (fun s7 _ => n - (intOf s7).toNat)
  case atStart => exact ⟨0, rfl, Nat.zero_le _, by rw [List.take_zero]; exact ⟨H2.out, K2.out⟩⟩
  case round =>
    obtain ⟨i, rfl, hi, HI⟩ := hrel
    by_cases hlt : i < n
    · obtain ⟨x, hx⟩ : ∃ x, l[i]? = some x := ⟨l[i]'(by omega), by simp⟩
      obtain ⟨g, off, rfl, _, e0, e1, e2⟩ := (HL.out.keep HI.out.2 (fun _ _ f => f)).rd i x hx
      have hxi := HL.out.inn x (List.mem_of_getElem? hx)
      have hla := runQ_last (l.take i) (fresh n0)
      have hl0 : (fresh (α := Int) n0).last = 0 := rfl
      have hll : (l.take i).length ≤ i := by rw [List.length_take]; exact Nat.min_le_left _ _
      have hnext : runQ (fresh n0) (l.take (i + 1)) = stQ (runQ (fresh n0) (l.take i)) x := by rw [List.take_add_one, hx]; exact runQ_snoc _ _ _
      have ST := hide (step_any x wr HI.out.1 HI.out.2.size hxi (by omega))
      have HN := hide hnext
      obtain ⟨x0, x1, x2⟩ := x
      simp only at e0 e1 e2 ST
      clear hx hxi hla hl0 hll hnext
      go_wp2_with fail
      go_at_call 10
      refine ST.out.mono ?_
      rintro e w4 ⟨a4, c4, rfl, q4, k4⟩
      have H4 : Hid (Own w1.heap.size w4 P (runQ (fresh n0) (l.take (i + 1))) ∧ Keep (fun _ => False) w1 w4) := ⟨by rw [HN.out]; exact q4, HI.out.2.trans k4 fun k e => .inr e⟩
      clear q4 k4 ST
      go_wp2
      go_roundw
      · exact ⟨i + 1, rfl, by omega, H4.out⟩
      · show n - ((i : Int) + 1).toNat < n - (i : Int).toNat
        omega
    · obtain rfl : i = n := by omega
      have H5 : Hid (Own w1.heap.size wr P (runQ (fresh n0) l) ∧ Keep (fun _ => False) w1 wr) := by have := HI.out; rw [hn, List.take_length] at this; exact this
      go_wp2
      go_ret
      exact ⟨P, n0, rfl, G.out.1, G.out.2, H5.out.1, H5.out.2⟩

end Qu
end Go.Proofs.Ytobmnkoohgkiiaa
