import Derived.Test.YtecbbnmdjflbpaaGreatDoorUMod
import Derived.Test.YtecbbnmdjflbpaaGreatDoorUOwn
import Derived.Laws.BytesArg
import Derived.Laws.OwnMore
/- SourceWide: the mathematics: each blank of a text as two. -/
namespace Go.Proofs.YtecbbnmdjflbpaaGreatDoor
namespace U

/-- each blank as two others -/
def wid (c1 c2 : UInt8) : List UInt8 → List UInt8
  | [] => []
  | b :: r => if isBl b then c1 :: c2 :: wid c1 c2 r else b :: wid c1 c2 r
section
variable {c1 c2 : UInt8}
theorem wid_words (h1 : isBl c1 = true) (h2 : isBl c2 = true) : ∀ (r cur : List UInt8), wordsA cur (wid c1 c2 r) = wordsA cur r
  | [], _ => rfl
  | b :: r, cur => by
    unfold wid
    cases hb : isBl b with
    | false =>
      simp only [Bool.false_eq_true, if_false]
      unfold wordsA
      rw [hb]
      simp only [Bool.false_eq_true, if_false]
      exact wid_words h1 h2 r _
    | true =>
      simp only [if_true]
      have e : ∀ cur, wordsA cur (c1 :: c2 :: wid c1 c2 r) = if cur.isEmpty then wordsA [] r else cur :: wordsA [] r := fun cur => by
        rw [wordsA, h1]
        simp only [if_true]
        have e2 : wordsA [] (c2 :: wid c1 c2 r) = wordsA [] r := by
          rw [wordsA, h2]
          simp only [if_true]
          exact wid_words h1 h2 r []
        rw [e2]
      rw [e, wordsA, hb]
      simp only [if_true]
theorem bl_ne {b c : UInt8} (h : isBl b = true) (hc : isBl c = false) : b ≠ c := fun e => by rw [e, hc] at h; cases h
theorem wid_ahead (h1 : isBl c1 = true) (h2 : isBl c2 = true) : ∀ l : List UInt8, ahead 35 (wid c1 c2 l) = wid c1 c2 (ahead 35 l)
  | [] => rfl
  | b :: r => by
    unfold wid
    cases hb : isBl b with
    | false =>
      simp only [Bool.false_eq_true, if_false]
      rw [ahead, ahead]
      by_cases e : b = 35
      · rw [if_pos e, if_pos e]
      · rw [if_neg e, if_neg e, wid_ahead h1 h2 r]
        show _ = (if isBl b then c1 :: c2 :: wid c1 c2 (ahead 35 r) else b :: wid c1 c2 (ahead 35 r))
        rw [hb]
        rfl
    | true =>
      simp only [if_true]
      rw [ahead, if_neg (bl_ne h1 rfl), ahead, if_neg (bl_ne h2 rfl), ahead, if_neg (bl_ne hb rfl), wid_ahead h1 h2 r]
      show _ = (if isBl b then c1 :: c2 :: wid c1 c2 (ahead 35 r) else b :: wid c1 c2 (ahead 35 r))
      rw [hb]
      rfl
theorem wid_of (h1 : isBl c1 = true) (h2 : isBl c2 = true) (l : List UInt8) : wordsOf (wid c1 c2 l) = wordsOf l := by
  unfold wordsOf words
  rw [wid_ahead h1 h2]
  exact wid_words h1 h2 _ _
theorem split_some (c : UInt8) : ∀ l, splitOn c l ≠ []
  | [] => by simp [splitOn]
  | b :: r => by
    unfold splitOn
    split
    · simp
    · split <;> simp
theorem wid_split (h1 : isBl c1 = true) (h2 : isBl c2 = true) : ∀ l : List UInt8, splitOn 10 (wid c1 c2 l) = (splitOn 10 l).map (wid c1 c2)
  | [] => rfl
  | b :: r => by
    have ih := wid_split h1 h2 r
    unfold wid
    cases hb : isBl b with
    | false =>
      simp only [Bool.false_eq_true, if_false]
      rw [splitOn, splitOn]
      by_cases e : b = 10
      · rw [if_pos e, if_pos e, ih]
        rfl
      · rw [if_neg e, if_neg e, ih]
        cases hs : splitOn 10 r with
        | nil => exact absurd hs (split_some 10 r)
        | cons x t =>
          simp only [List.map_cons]
          rw [wid, hb]
          rfl
    | true =>
      simp only [if_true]
      rw [splitOn, if_neg (bl_ne h1 rfl), splitOn, if_neg (bl_ne h2 rfl), splitOn, if_neg (bl_ne hb rfl), ih]
      cases hs : splitOn 10 r with
      | nil => exact absurd hs (split_some 10 r)
      | cons x t =>
        simp only [List.map_cons]
        rw [wid, hb]
        rfl
theorem wid_read (h1 : isBl c1 = true) (h2 : isBl c2 = true) : ∀ (ls : List (List UInt8)) (p : Nat) (d : Dr), readL p (ls.map (wid c1 c2)) d = readL p ls d
  | [], _, _ => rfl
  | l :: ls, p, d => by
    rw [List.map_cons, readL, readL, wid_of h1 h2]
    cases step d p (wordsOf l) with
    | none => rfl
    | some d' => exact wid_read h1 h2 ls (p + 1) d'
theorem wid_parse (h1 : isBl c1 = true) (h2 : isBl c2 = true) {s : List UInt8} (hs : s.length ≤ 65536) (hw : (wid c1 c2 s).length ≤ 65536) : parse (wid c1 c2 s) = parse s := by
  unfold parse
  rw [if_neg (by omega), if_neg (by omega), wid_split h1 h2, wid_read h1 h2]
theorem wid_len (s : List UInt8) : s.length ≤ (wid c1 c2 s).length := by
  induction s with
  | nil => exact Nat.le_refl _
  | cons b r ih =>
    unfold wid
    split
    · simp only [List.length_cons]; omega
    · simp only [List.length_cons]; omega
theorem wid_snoc (s : List UInt8) (b : UInt8) : wid c1 c2 (s ++ [b]) = wid c1 c2 s ++ (if isBl b then [c1, c2] else [b]) := by
  induction s with
  | nil =>
    show wid c1 c2 [b] = _
    unfold wid
    cases isBl b <;> rfl
  | cons a r ih =>
    rw [List.cons_append, wid, wid, ih]
    cases isBl a <;> simp
end
end U
end Go.Proofs.YtecbbnmdjflbpaaGreatDoor

/- SourceWide: rows of bytes of the call's own. -/
namespace Go.Proofs.YtecbbnmdjflbpaaGreatDoor
namespace U
open Go.RowKit

/-- bytes as cells -/
def b8 (l : List UInt8) : List Value := l.map fun b => Value.int .u8 (b.toNat : Int)
theorem b8_len (l : List UInt8) : (b8 l).length = l.length := by simp [b8]
theorem b8_snoc (l : List UInt8) (b : UInt8) : b8 (l ++ [b]) = b8 l ++ [.int .u8 (b.toNat : Int)] := by simp [b8]
theorem info_u8 : (Tryz.prog.info? 5).map (fun i => (i.zero, i.size, i.bytes)) = some (some (.int .u8 0), 1, 1) := by kernel_rfl
/-- a byte more behind a row of the call's own -/
theorem wp_append8 {w : World} {ops : Array Oper} {rest : List Oper} {o : Oper} {a : Act} {Q : Exit → Act → World → Prop} (hgd : o.guard = none) (s x : Operand)
    (ho : o.op = .call { callee := .builtin .append, args := #[s, x], argTypes := #[23, 23] })
    (base : Nat) (v : Value) (l : List UInt8) (n : Nat) (hn0 : n = l.length) (hs : a.eval s = v) (hown : w.ownsRow base 5 1 v n (b8 l)) (ad : Addr) (z : Int) (y : UInt8) (hz : z = (y.toNat : Int)) (hx : a.eval x = .slice (some ad) 1 1) (hc : w.cell? ad = some (.int .u8 z)) (hn : n + 1 ≤ 17592186044416) (hbase : base ≤ w.heap.size)
    (h : ∀ v' w', w'.ownsRow base 5 1 v' (n + 1) (b8 (l ++ [y])) → Keep (fun k => v.ownBlock = some k) w w' → wpList Tryz.prog ops Q rest (a.put o.dst v') w') : wpList Tryz.prog ops Q (o :: rest) a w := by
  subst hz
  obtain ⟨i0, hi, hz0, hz1, hz2⟩ := info_parts info_u8
  refine wpList_append_own2 hgd s x 23 ho base 5 i0 (.int .u8 0) 1 1 Tryz.underlying23 hi hz0 hz1 hz2 rfl (by decide) v n (b8 l) hs hown ad 1 1 [.int .u8 (y.toNat : Int)] hx rfl (fun j u hu => ?_) (fun u hu => by rw [List.mem_singleton.1 hu]; rfl) (by unfold maxLen; omega) (by omega) hbase ?_
  · cases j with
    | zero =>
      have : u = .int .u8 (y.toNat : Int) := by simpa using hu.symm
      subst this
      simpa [Addr.add] using hc
    | succ j => simp at hu
  · intro v' w' h1 h2 _
    rw [← b8_snoc] at h1
    exact h v' w' h1 (Keep.grown h2 fun k e => e)
/-- a row that is not empty -/
theorem own8_form {w : World} {base : Nat} {v : Value} {n : Nat} {xs : List Value} (h : w.ownsRow base 5 1 v n xs) (hn : n ≠ 0) : ∃ g c, v = .slice (some ⟨g, 0, none⟩) n c ∧ base ≤ g := by
  rcases h.2 with ⟨_, e⟩ | ⟨g, cap, cur, e, hg, _⟩
  · exact absurd e hn
  · exact ⟨g, cap, e, hg⟩
/-- the last one of a row is set -/
theorem own8_last {w : World} {base g c : Nat} {l : List UInt8} {y : UInt8} (h : w.ownsRow base 5 1 (.slice (some ⟨g, 0, none⟩) (l.length + 1) c) (l.length + 1) (b8 (l ++ [y]))) (z : UInt8) :
    (w.setCell ⟨g, l.length, none⟩ (.int .u8 (z.toNat : Int))).ownsRow base 5 1 (.slice (some ⟨g, 0, none⟩) (l.length + 1) c) (l.length + 1) (b8 (l ++ [z])) := by
  have := (h.stored l.length (.int .u8 (z.toNat : Int))).1
  have e : (b8 (l ++ [y])).set l.length (.int .u8 (z.toNat : Int)) = b8 (l ++ [z]) := by
    rw [b8_snoc, b8_snoc, List.set_append, if_neg (by rw [b8_len]; omega), b8_len, Nat.sub_self]
    rfl
  rw [e] at this
  exact this
theorem own8_cell {w : World} {base g c : Nat} {l : List UInt8} {y : UInt8} (h : w.ownsRow base 5 1 (.slice (some ⟨g, 0, none⟩) (l.length + 1) c) (l.length + 1) (b8 (l ++ [y]))) : w.cell? ⟨g, l.length, none⟩ = some (.int .u8 (y.toNat : Int)) := by
  rw [h.cellAt l.length (by omega), b8_snoc, List.getElem?_append_right (by rw [b8_len]; omega), b8_len, Nat.sub_self]
  rfl
theorem nums_ba (l : List UInt8) : strOfNums (l.map fun b => (b.toNat : Int)) = ba l := by
  unfold strOfNums ba
  rw [List.map_map]
  congr 2
  refine (List.map_congr_left fun b _ => ?_).trans (List.map_id l)
  simp
set_option maxRecDepth 100000 in
/-- a row as a string -/
theorem conv8 {w : World} {base : Nat} {a : Option Addr} {c n : Nat} {l : List UInt8} (hn : n = l.length) (h : w.ownsRow base 5 1 (.slice a n c) n (b8 l)) : (convert 23 9 (.slice a n c)).run Tryz.prog w = .ok (.string (ba l)) w := by
  rcases h.2 with ⟨e1, e2⟩ | ⟨g, cap, cur, e1, e2, e3, e4⟩
  · have hl : l = [] := List.eq_nil_of_length_eq_zero (by omega)
    subst hl
    injection e1 with e1 e1' e1''
    subst e1 e2 e1''
    exact run_convert_bytes_nil w 23 5 Tryz.underlying23 Tryz.underlying5 0 0 9 Tryz.underlying9
  · injection e1 with e1 e1' e1''
    subst e1
    rw [← nums_ba]
    refine run_convert_bytes_arg w 23 5 Tryz.underlying23 Tryz.underlying5 g 0 n c (l.map fun b => (b.toNat : Int)) (by simp [hn]) (fun i hi => ?_) 9 Tryz.underlying9
    rw [Nat.zero_add, h.cellAt i (by omega)]
    have hil : i < l.length := by omega
    unfold b8
    rw [List.getElem?_map, List.getD_eq_getElem?_getD, List.getElem?_map, List.getElem?_eq_getElem hil]
    rfl
end U
end Go.Proofs.YtecbbnmdjflbpaaGreatDoor
