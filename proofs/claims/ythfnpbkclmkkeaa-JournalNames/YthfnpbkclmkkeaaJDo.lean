/- Package journal: what each call does, as mathematics; fits, remove, free. -/
import Derived.Test.YthfnpbkclmkkeaaJPair
namespace Go.Proofs.Ythfnpbkclmkkeaa
open Go.RowKit Go.Lib

namespace J
/-- is there room? -/
def fits (s : St) (n : Nat) : Int := if s.down then 56 else if s.room < n then 54 else 0
/-- the number of a segment to be made -/
def nextSeg (ks : List Int) : Int := match ks.getLast? with | none => 1 | some k => k + 1
def freeCode (s : St) (ks : List Int) : Int := if s.down then 56 else if 1099511627776 < nextSeg ks then 61 else 0
/-- a segment made -/
def start (j : Jr) (s : St) (seg : Nat) (pieces : List (List Nat)) : Int × Jr × St :=
  if fits s ((headOf seg j.held.next ++ pieces.flatten).length + 64) ≠ 0 then (fits s ((headOf seg j.held.next ++ pieces.flatten).length + 64), j, s)
  else if (s.create seg).1 ≠ 0 then ((s.create seg).1, j, (s.create seg).2)
  else if ((s.create seg).2.append seg (headOf seg j.held.next ++ pieces.flatten)).1 ≠ 0 then (((s.create seg).2.append seg (headOf seg j.held.next ++ pieces.flatten)).1, j, ((s.create seg).2.append seg (headOf seg j.held.next ++ pieces.flatten)).2)
  else (0, ⟨j.held, seg, (headOf seg j.held.next ++ pieces.flatten).length⟩, ((s.create seg).2.append seg (headOf seg j.held.next ++ pieces.flatten)).2)
/-- a record behind what the current segment has -/
def extend (j : Jr) (s : St) (record : List Nat) : Int × Jr × St :=
  if fits s record.length ≠ 0 then (fits s record.length, j, s)
  else if (s.append j.current record).1 ≠ 0 then ((s.append j.current record).1, j, (s.append j.current record).2)
  else (0, ⟨j.held, j.current, j.size + record.length⟩, (s.append j.current record).2)
def place (j : Jr) (s : St) (ks : List Int) (record : List Nat) : Int × Jr × St :=
  if j.current ≠ 0 ∧ j.size + record.length ≤ 65536 then extend j s record
  else if freeCode s ks ≠ 0 then (freeCode s ks, j, s)
  else if j.held.begun = true then start j s (nextSeg ks).toNat [record]
  else start j s (nextSeg ks).toNat [pieceOf 2 j.held.next [], record]
def append (j : Jr) (s : St) (ks : List Int) (b : List Nat) : Int × Jr × St :=
  if 1048576 < b.length then (60, j, s)
  else if 1099511627776 < j.held.next then (61, j, s)
  else if (place j s ks (pieceOf 1 j.held.next b)).1 ≠ 0 then place j s ks (pieceOf 1 j.held.next b)
  else (0, ⟨⟨true, j.held.image, j.held.records ++ [b], j.held.next + 1⟩, (place j s ks (pieceOf 1 j.held.next b)).2.1.current, (place j s ks (pieceOf 1 j.held.next b)).2.1.size⟩, (place j s ks (pieceOf 1 j.held.next b)).2.2)
def snapshot (j : Jr) (s : St) (ks : List Int) (b : List Nat) : Int × Jr × St :=
  if 8388608 < b.length then (60, j, s)
  else if freeCode s ks ≠ 0 then (freeCode s ks, j, s)
  else
    let r := start j s (nextSeg ks).toNat [pieceOf 2 j.held.next b]
    if r.1 ≠ 0 then r
    else if r.2.2.sync.1 ≠ 0 then (r.2.2.sync.1, r.2.1, r.2.2.sync.2)
    else if (removes ks r.2.2.sync.2).1 ≠ 0 then ((removes ks r.2.2.sync.2).1, r.2.1, (removes ks r.2.2.sync.2).2)
    else (0, ⟨⟨true, b, [], j.held.next⟩, r.2.1.current, r.2.1.size⟩, (removes ks r.2.2.sync.2).2)
/-- the segments that are there -/
def Keys (s : St) (ks : List Int) : Prop := ks.Pairwise (· < ·) ∧ ∀ k, k ∈ ks ↔ s.there k ≠ none
end J

/-- what a call on a journal leaves -/
def JDid (X : Nat → Prop) (w : World) (P d : Nat) (r : Int × J.Jr × St) (e : Ending) (w' : World) : Prop := e = .returned (.int .i64 r.1) ∧ JD X w' P d r.2.1 r.2.2 ∧ Keep X w w'

theorem JD.c0 {X : Nat → Prop} {w : World} {P d : Nat} {j : J.Jr} {s : St} (h : JD X w P d j s) : w.cell? ⟨P, 0, none⟩ = some (.pointer (some ⟨d, 0, none⟩)) := by
  obtain ⟨R, S, ⟨vi, vr, xs, h⟩, _⟩ := h
  exact cell_blk h.blk 0 rfl
theorem JD.c1 {X : Nat → Prop} {w : World} {P d : Nat} {j : J.Jr} {s : St} (h : JD X w P d j s) : w.cell? ⟨P, 1, none⟩ = some (.bool j.held.begun) := by
  obtain ⟨R, S, ⟨vi, vr, xs, h⟩, _⟩ := h
  exact cell_blk h.blk 1 rfl
theorem JD.c4 {X : Nat → Prop} {w : World} {P d : Nat} {j : J.Jr} {s : St} (h : JD X w P d j s) : w.cell? ⟨P, 4, none⟩ = some (.int .i64 (j.held.next : Nat)) := by
  obtain ⟨R, S, ⟨vi, vr, xs, h⟩, _⟩ := h
  exact cell_blk h.blk 4 rfl
theorem JD.c5 {X : Nat → Prop} {w : World} {P d : Nat} {j : J.Jr} {s : St} (h : JD X w P d j s) : w.cell? ⟨P, 5, none⟩ = some (.int .i64 (j.current : Nat)) := by
  obtain ⟨R, S, ⟨vi, vr, xs, h⟩, _⟩ := h
  exact cell_blk h.blk 5 rfl
theorem JD.c6 {X : Nat → Prop} {w : World} {P d : Nat} {j : J.Jr} {s : St} (h : JD X w P d j s) : w.cell? ⟨P, 6, none⟩ = some (.int .i64 (j.size : Nat)) := by
  obtain ⟨R, S, ⟨vi, vr, xs, h⟩, _⟩ := h
  exact cell_blk h.blk 6 rfl
theorem JD.fz {X : Nat → Prop} {w : World} {P d : Nat} {j : J.Jr} {s : St} (h : JD X w P d j s) (k : Nat) : w.frozen? ⟨P, k, none⟩ = false := by
  obtain ⟨R, S, ⟨vi, vr, xs, h⟩, _⟩ := h
  exact frozen_blk h.blk k

theorem jfits_any (X : Nat → Prop) (w : World) (P d : Nat) (j : J.Jr) (s : St) (n : Nat) (h : JD X w P d j s) (ok : Ok s) :
    Calls Try.prog 61 #[.pointer (some ⟨P, 0, none⟩), .int .i64 (n : Nat)] w fun e w' => e = .returned (.int .i64 (J.fits s n)) ∧ Keep (fun _ => False) w w' := by
  have c0 := h.c0
  obtain ⟨R, S, hj, hd, _, _⟩ := h
  have HR := hide (Room_any S w d s hd ok)
  have hk : ∀ n, Keep (fun _ => False) w (w.drewN n) := fun n => ⟨rfl, rfl, rfl, Nat.le_refl _, fun _ _ _ => rfl⟩
  have HKd := hide hk
  clear hj hd ok hk
  cases hdn : s.down with
  | true =>
    have HX : Hid (J.fits s n = 56) := by show _ = _; unfold J.fits; rw [hdn]; rfl
    have HR' : Hid (Calls Try.prog 38 #[.pointer (some ⟨d, 0, none⟩)] w fun e w' => e = .returned (.tuple #[.int .i64 0, .int .i64 56]) ∧ ∃ n, w' = w.drewN n) := by have := HR.out; rw [hdn] at this; exact this
    clear HR hdn
    go_enter Try.func61, Try.ntmps61
    go_wp2_with (go_at_call 38; refine HR'.out.mono ?_; rintro e w1 ⟨rfl, n1, rfl⟩)
    go_ret
    exact ⟨by rw [HX.out]; rfl, HKd.out _⟩
  | false =>
    have HR' : Hid (Calls Try.prog 38 #[.pointer (some ⟨d, 0, none⟩)] w fun e w' => e = .returned (.tuple #[.int .i64 (s.room : Nat), .int .i64 0]) ∧ ∃ n, w' = w.drewN n) := by have := HR.out; rw [hdn] at this; exact this
    by_cases hf : s.room < n
    · have HX : Hid (J.fits s n = 54) := by show _ = _; unfold J.fits; rw [hdn, if_neg (by decide), if_pos hf]
      have hf' : (s.room : Int) < n := by omega
      clear HR hdn hf
      go_enter Try.func61, Try.ntmps61
      go_wp2_with (go_at_call 38; refine HR'.out.mono ?_; rintro e w1 ⟨rfl, n1, rfl⟩)
      go_ret
      exact ⟨by rw [HX.out]; rfl, HKd.out _⟩
    · have HX : Hid (J.fits s n = 0) := by show _ = _; unfold J.fits; rw [hdn, if_neg (by decide), if_neg hf]
      have hf' : ¬ (s.room : Int) < n := by omega
      clear HR hdn hf
      go_enter Try.func61, Try.ntmps61
      go_wp2_with (go_at_call 38; refine HR'.out.mono ?_; rintro e w1 ⟨rfl, n1, rfl⟩)
      go_ret
      exact ⟨by rw [HX.out]; rfl, HKd.out _⟩

/-- what free answers -/
def FreeAs (w : World) (s : St) (e : Ending) (w' : World) : Prop :=
  ∃ a c ks, (s.down = false → J.Keys s ks) ∧ Keep (fun _ => False) w w' ∧ ((J.freeCode s ks ≠ 0 ∧ e = .returned (.tuple #[.int .i64 0, .slice none 0 0, .int .i64 (J.freeCode s ks)])) ∨
    (J.freeCode s ks = 0 ∧ e = .returned (.tuple #[.int .i64 (J.nextSeg ks), .slice a ks.length c, .int .i64 0]) ∧ w'.ownsRow w.heap.size 3 1 (.slice a ks.length c) ks.length (ks.map (Value.int .i64)) ∧ 1 ≤ J.nextSeg ks ∧ J.nextSeg ks ≤ 1099511627776))

theorem keys_seg {s : St} {ks : List Int} (h : J.Keys s ks) (ok : Ok s) : ∀ k ∈ ks, 1 ≤ k ∧ k ≤ 1099511627776 := fun k hk => ok.seg k (by
  have := (h.2 k).1 hk
  intro e
  rw [held_iff] at e
  exact this e.1)
theorem keys_len {s : St} {ks : List Int} (h : J.Keys s ks) (ok : Ok s) : ks.length ≤ 1099511627776 := keys_bound (h.1.imp fun h => by omega) fun x hx => by have := keys_seg h ok x hx; omega

set_option maxRecDepth 10000 in
theorem free_any (X : Nat → Prop) (w : World) (P d : Nat) (j : J.Jr) (s : St) (h : JD X w P d j s) (ok : Ok s) :
    Calls Try.prog 44 #[.pointer (some ⟨P, 0, none⟩)] w (FreeAs w s) := by
  have c0 := h.c0
  obtain ⟨R, S, hj, hd, _, _⟩ := h
  have HL := hide (list_any S w d s hd ok)
  have HOk := hide ok
  clear hj hd ok
  cases hdn : s.down with
  | true =>
    have HX : Hid (∀ ks, J.freeCode s ks = 56) := fun ks => by unfold J.freeCode; rw [hdn]; rfl
    have HD := hide hdn
    have HL' : Hid (Calls Try.prog 29 #[.pointer (some ⟨d, 0, none⟩)] w fun e w' => ∃ a n c, e = .returned (.tuple #[.slice a n c, .int .i64 56]) ∧ Keep (fun _ => False) w w') := HL.out.mono fun e w' ⟨v, ks, e1, _, _, ho, hk⟩ => by
      obtain ⟨a, c, hv⟩ := ownsRow_shape ho
      subst hv
      rw [HD.out] at e1
      exact ⟨a, _, c, e1, hk⟩
    clear HL hdn
    go_enter Try.func44, Try.ntmps44
    go_wp2_with (go_at_call 29; refine HL'.out.mono ?_; rintro e w1 ⟨a, n, c, rfl, hk⟩)
    go_ret3
    exact ⟨none, 0, [], (fun e => by rw [HD.out] at e; cases e), hk, .inl ⟨by rw [HX.out]; decide, by rw [HX.out]; rfl⟩⟩
  | false =>
    have HD := hide hdn
    have HL' : Hid (Calls Try.prog 29 #[.pointer (some ⟨d, 0, none⟩)] w fun e w' => ∃ a c n, ∃ ks : List Int, n = ks.length ∧ e = .returned (.tuple #[.slice a n c, .int .i64 0]) ∧ J.Keys s ks ∧ w'.ownsRow w.heap.size 3 1 (.slice a n c) n (ks.map (Value.int .i64)) ∧ Keep (fun _ => False) w w') := HL.out.mono fun e w' ⟨v, ks, e1, e2, e3, ho, hk⟩ => by
      obtain ⟨a, c, hv⟩ := ownsRow_shape ho
      subst hv
      rw [HD.out] at e1
      exact ⟨a, c, _, ks, rfl, e1, ⟨e2, fun k => by rw [e3 k]; simp [HD.out]⟩, ho, hk⟩
    clear HL hdn
    go_enter Try.func44, Try.ntmps44
    go_upto_region 5 with (
      go_at_call 29
      refine HL'.out.mono ?_
      rintro e w1 ⟨a, c, n, ks, hn, rfl, hks, ho, hk⟩
      have HN := hide hn
      have HKs := hide hks
      have HO := hide ho
      have HK := hide hk
      clear hn hks ho hk)
    have hnb : n ≤ 1099511627776 := by rw [HN.out]; exact keys_len HKs.out HOk.out
    rcases Nat.eq_zero_or_pos n with hn0 | hn0
    · have hks0 : ks = [] := List.eq_nil_of_length_eq_zero (by rw [← HN.out]; exact hn0)
      have HF : Hid (FreeAs w s (.returned (.tuple #[.int .i64 1, .slice a n c, .int .i64 0])) w1) := by
        refine ⟨a, c, ks, fun _ => HKs.out, HK.out, .inr ⟨?_, ?_, ?_, ?_⟩⟩
        · unfold J.freeCode; rw [HD.out, hks0]; decide
        · rw [← HN.out, hks0]; rfl
        · rw [← HN.out]; exact HO.out
        · rw [hks0]; decide
      clear hks0
      subst hn0
      go_wp2
      go_ret3
      exact HF.out
    · have hlast : ks.getLast? = some (ks[n - 1]'(by rw [← HN.out]; omega)) := by
        rw [List.getLast?_eq_getElem?, show ks.length - 1 = n - 1 by rw [HN.out], List.getElem?_eq_getElem]
      obtain ⟨g, rfl, _, hcell⟩ := ownsRow_ints HO.out (n - 1) (by rw [← HN.out]; omega)
      have hsg := keys_seg HKs.out HOk.out _ (List.getElem_mem (l := ks) (n := n - 1) (by rw [← HN.out]; omega))
      have hns : J.nextSeg ks = ks[n - 1]'(by rw [← HN.out]; omega) + 1 := by unfold J.nextSeg; rw [hlast]
      generalize hkl : ks[n - 1]'(by rw [← HN.out]; omega) = kl at *
      have HNs := hide hns
      clear hlast hkl hns
      have hi : wrap64 ((n : Int) - 1) = ((n - 1 : Nat) : Int) := by rw [wrap_id (by omega) (by omega)]; omega
      have HI := hide hi
      clear hi
      have hlt1 : ((n - 1 : Nat) : Int) < n := by omega
      have hlt0 : (0 : Int) ≤ ((n - 1 : Nat) : Int) := by omega
      have hgt : (n : Int) > 0 := by omega
      by_cases hmx : kl + 1 > 1099511627776
      · have HF : Hid (FreeAs w s (.returned (.tuple #[.int .i64 0, .slice none 0 0, .int .i64 61])) w1) := by
          have hfc : J.freeCode s ks = 61 := by unfold J.freeCode; rw [HD.out, if_neg (by decide), if_pos (by rw [HNs.out]; omega)]
          exact ⟨none, 0, ks, fun _ => HKs.out, HK.out, .inl ⟨by rw [hfc]; decide, by rw [hfc]⟩⟩
        have hi := HI.out
        go_wp2
        go_ret3
        exact HF.out
      · have HF : Hid (FreeAs w s (.returned (.tuple #[.int .i64 (kl + 1), .slice (some ⟨g, 0, none⟩) n c, .int .i64 0])) w1) := by
          have hfc : J.freeCode s ks = 0 := by unfold J.freeCode; rw [HD.out, if_neg (by decide), if_neg (by rw [HNs.out]; omega)]
          refine ⟨_, c, ks, fun _ => HKs.out, HK.out, .inr ⟨hfc, by rw [HNs.out, HN.out], ?_, by rw [HNs.out]; omega, by rw [HNs.out]; omega⟩⟩
          rw [← HN.out]; exact HO.out
        have hi := HI.out
        go_wp2
        go_ret3
        exact HF.out

end Go.Proofs.Ythfnpbkclmkkeaa
