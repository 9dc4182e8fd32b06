/- DiskSpoils: the mathematics. -/
import Derived.Test.YtejbacgkipbmeaaDTrn
namespace Go.Proofs.Ytejbacgkipbmeaa
open Go.RowKit Go.Lib

theorem flip_out {l : List Nat} {i : Nat} (m : Nat) (h : l.length ≤ i) : flip l i m = l := by unfold flip; exact List.set_eq_of_length_le h
theorem flip_flip {l : List Nat} {i : Nat} (m : Nat) (h : i < l.length) : flip (flip l i m) i m = l := by
  unfold flip
  rw [List.set_set]
  have e : (l.set i (l.getD i 0 ^^^ m)).getD i 0 = l.getD i 0 ^^^ m := by simp [List.getD, h]
  rw [e, Nat.xor_assoc, Nat.xor_self, Nat.xor_zero]
  have e2 : l.getD i 0 = l[i] := by simp [List.getD, h]
  rw [e2]
  exact List.set_getElem_self h
/-- another list of segments: each is turned -/
theorem lst_turn {s t : St} {q : Stp} {L : List (Int × List Nat)} (h : ∀ k, t.there k = (s.there k).map fun b => turn1 q b k) (l : Lst s L) : Lst t (turnL q L) := by
  refine ⟨?_, fun k b => ?_⟩
  · have e : (turnL q L).map Prod.fst = L.map Prod.fst := by unfold turnL; rw [List.map_map]; rfl
    rw [e]; exact l.1
  · rw [h]
    unfold turnL
    simp only [List.mem_map, Option.map_eq_some_iff]
    constructor
    · rintro ⟨⟨k', b'⟩, hx, e⟩
      injection e with e1 e2
      simp only at e1 e2
      subst e1
      exact ⟨b', (l.2 _ b').1 hx, e2⟩
    · rintro ⟨b', hb, e⟩
      exact ⟨(k, b'), (l.2 k b').2 hb, by rw [e]⟩
theorem upd_slf (f : Int → Option (List Nat)) (k : Int) (v : Option (List Nat)) : upd f k v k = v := by simp [upd]
theorem upd_oth (f : Int → Option (List Nat)) (k : Int) (v : Option (List Nat)) {j : Int} (h : j ≠ k) : upd f k v j = f j := by simp [upd, h]
theorem turn1_other {q : Stp} {b : List Nat} {k : Int} (h : k ≠ q.seg) : turn1 q b k = b := by unfold turn1; rw [if_neg fun e => h e.1]
theorem turn1_here {q : Stp} {b : List Nat} (h0 : 0 ≤ q.n) : turn1 q b q.seg = flip b q.n.toNat q.mask := by
  unfold turn1
  by_cases h : q.n < (b.length : Int)
  · rw [if_pos ⟨rfl, h0, h⟩]
  · rw [if_neg fun e => h e.2.2, flip_out _ (by omega)]
/-- a disk whose one byte is turned, in both views -/
theorem turn_there {s : St} {q : Stp} (h0 : 0 ≤ q.n) (k : Int) : (s.turn q.seg q.n.toNat q.mask).there k = (s.there k).map fun b => turn1 q b k := by
  show upd s.there q.seg _ k = _
  by_cases e : k = q.seg
  · subst e
    rw [upd_slf]
    congr 1
    funext b
    exact (turn1_here h0).symm
  · rw [upd_oth _ _ _ e]
    cases s.there k with
    | none => rfl
    | some b => show some b = some (turn1 q b k); rw [turn1_other e]
theorem turn_safe {s : St} {q : Stp} (h0 : 0 ≤ q.n) (k : Int) : (s.turn q.seg q.n.toNat q.mask).safe k = (s.safe k).map fun b => turn1 q b k := by
  show upd s.safe q.seg _ k = _
  by_cases e : k = q.seg
  · subst e
    rw [upd_slf]
    congr 1
    funext b
    exact (turn1_here h0).symm
  · rw [upd_oth _ _ _ e]
    cases s.safe k with
    | none => rfl
    | some b => show some b = some (turn1 q b k); rw [turn1_other e]
theorem turn1_len (q : Stp) (b : List Nat) (k : Int) : (turn1 q b k).length = b.length := by
  unfold turn1
  split
  · exact flip_length _ _ _
  · rfl
theorem turn1_take {q : Stp} {l m : List Nat} {k : Int} (h0 : 0 ≤ q.n) (h : l.take m.length = m) : (turn1 q l k).take m.length = turn1 q m k := by
  by_cases e : k = q.seg
  · subst e
    rw [turn1_here h0, turn1_here h0]
    exact flip_take l m _ _ h
  · rw [turn1_other e, turn1_other e]; exact h
/-- the hardest loss of power, behind that -/
theorem crash_turn {s t t1 : St} {q : Stp} {n : Nat} (g : Good n s) (h0 : 0 ≤ q.n) (h : Crash s [] t) (h1 : Crash (s.turn q.seg q.n.toNat q.mask) [] t1) (k : Int) : t1.there k = (t.there k).map fun b => turn1 q b k := by
  obtain ⟨os, _, _, e⟩ := h.ex
  obtain ⟨os1, _, _, e1⟩ := h1.ex
  rw [e, e1, turn_there h0, turn_safe h0, show fateN [] (os.idxOf k) = 0 from rfl, show fateN [] (os1.idxOf k) = 0 from rfl]
  cases ht : s.there k with
  | none => rfl
  | some l =>
    cases hs : s.safe k with
    | none => rfl
    | some m =>
      have hp := (g.pre k l m ht hs).2
      show some ((turn1 q l k).take ((turn1 q m k).length + 0)) = some (turn1 q (l.take (m.length + 0)) k)
      rw [turn1_len, Nat.add_zero, hp, turn1_take h0 hp]
theorem spoil_no_ {s : St} {q : Stp} (hd : s.down = false) (h : (∀ b, s.there q.seg ≠ some b) ∨ ∃ b, s.there q.seg = some b ∧ (q.n < 0 ∨ (b.length : Int) ≤ q.n)) : s.spoil q.seg q.n q.mask = (if s.there q.seg = none then 53 else 55, s) := by
  unfold St.spoil
  rw [hd]
  rcases h with h | ⟨b, hb, h⟩
  · cases ht : s.there q.seg with
    | none => rfl
    | some b => exact absurd ht (h b)
  · rw [hb]
    simp only [Bool.false_eq_true, if_false]
    rw [if_pos h]
    rfl
theorem spoil_yes {s : St} {q : Stp} {b : List Nat} (hd : s.down = false) (hb : s.there q.seg = some b) (h1 : 0 ≤ q.n) (h2 : q.n < (b.length : Int)) : s.spoil q.seg q.n q.mask = (0, s.turn q.seg q.n.toNat q.mask) := by
  unfold St.spoil
  rw [hd, hb]
  simp only [Bool.false_eq_true, if_false]
  rw [if_neg (by omega)]
theorem turn_turn {s : St} {q : Stp} {b : List Nat} (hb : s.there q.seg = some b) (h1 : 0 ≤ q.n) (h2 : q.n < (b.length : Int)) : ((s.turn q.seg q.n.toNat q.mask).turn q.seg q.n.toNat q.mask).there = s.there := by
  funext k
  rw [turn_there h1, turn_there h1, Option.map_map]
  by_cases e : k = q.seg
  · subst e
    rw [hb]
    show some (turn1 q (turn1 q b q.seg) q.seg) = some b
    rw [turn1_here h1, turn1_here h1, flip_flip _ (by omega)]
  · cases s.there k with
    | none => rfl
    | some x =>
      show some (turn1 q (turn1 q x k) k) = some x
      rw [turn1_other e, turn1_other e]
theorem Lst.len2 {n : Nat} {s : St} (g : Good n s) {L : List (Int × List Nat)} (l : Lst s L) : ∀ x ∈ L, x.2.length ≤ 67108864 := fun x hx => by
  obtain ⟨k, b⟩ := x
  have h := (l.2 k b).1 hx
  exact g.len k b (by unfold St.held; rw [h])
theorem Lst.get {s : St} {L : List (Int × List Nat)} (l : Lst s L) {k : Int} {b : List Nat} (h : (k, b) ∈ L) : s.there k = some b := (l.2 k b).1 h
theorem Lst.none_ {s : St} {L : List (Int × List Nat)} (l : Lst s L) {k : Int} (h : ∀ b, (k, b) ∉ L) : ∀ b, s.there k ≠ some b := fun b e => h b ((l.2 k b).2 e)
end Go.Proofs.Ytejbacgkipbmeaa
