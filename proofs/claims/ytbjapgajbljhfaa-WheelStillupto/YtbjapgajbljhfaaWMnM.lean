/- WheelMany: the mathematics; a wheel's own blocks alone. -/
import Derived.Test.YtbjapgajbljhfaaWAwk
namespace Go.Proofs.Ytbjapgajbljhfaa
namespace Wh
open Go.RowKit

/-- a wheel, with no other blocks than its own -/
theorem WAt.exact {tw te : TypeId} {S : Nat → Prop} {w : World} {P : Nat} {s : St} (h : WAt tw te S w P s) : ∃ S1 : Nat → Prop, WAt tw te S1 w P s ∧ (∀ k, S1 k → k < w.heap.size) ∧ ∀ k, S1 k → S k := by
  obtain ⟨h0, m, at_, h⟩ := h
  exact ⟨Own P m at_ s, ⟨h0, m, at_, h.wb, h.lnk, h.mp, h.inj, h.ent, fun id hid => .inr (.inr ⟨id, hid, rfl⟩), .inl rfl, .inr (.inl rfl)⟩, h.own_lt, h.sub⟩

theorem del_length {s : St} (h : Ok s) {id : Nat} (hm : id ∈ s.ids) : (s.del id).ids.length + 1 = s.ids.length := by
  obtain ⟨xs, ys, e⟩ := List.append_of_mem hm
  have hnd : (xs ++ id :: ys).Nodup := e ▸ sorted_nodup h.srt
  show (s.ids.filter (· != id)).length + 1 = _
  rw [e, filter_ne_mid hnd]
  simp
  omega

/-- so many scheduled, half of them cancelled -/
structure Many (i : Nat) (s : St) : Prop where
  last : s.last = i
  par : ∀ id ∈ s.ids, id % 2 = 1 → id = i
  what : ∀ id ∈ s.ids, s.what id = .int .i64 ((id : Int) - 1)
  len : s.ids.length = i - i / 2
  top : i % 2 = 1 → i ∈ s.ids
theorem many_fresh : Many 0 (fresh 0) := ⟨rfl, fun _ h => by (cases h), fun _ h => by (cases h), rfl, fun h => by omega⟩
theorem Many.add {i : Nat} {s : St} (h : Many i s) (hok : Ok s) (hi : i % 2 = 0) (d : Nat) : Many (i + 1) (s.add d (.int .i64 (i : Nat))) := by
  obtain ⟨h1, h2, h3, h4, h5⟩ := h
  refine ⟨by simp [St.add, h1], fun id hid ho => ?_, fun id hid => ?_, ?_, fun _ => by simp [St.add, h1]⟩
  · rcases List.mem_append.1 hid with hm | hm
    · have := h2 id hm ho; omega
    · simpa [h1] using hm
  · rcases List.mem_append.1 hid with hm | hm
    · have hne := hok.new_ne hm
      simp only [St.add, updV, if_neg hne]
      exact h3 id hm
    · obtain rfl : id = s.last + 1 := by simpa using hm
      simp only [St.add, updV, if_pos]
      rw [h1]
      congr 1
      omega
  · simp [St.add, h4]; omega
theorem Many.addDel {i : Nat} {s : St} (h : Many i s) (hok : Ok s) (hi : i % 2 = 1) {d : Nat} (hok2 : Ok (s.add d (.int .i64 (i : Nat)))) : i ∈ (s.add d (.int .i64 (i : Nat))).ids ∧ Many (i + 1) ((s.add d (.int .i64 (i : Nat))).del i) := by
  obtain ⟨h1, h2, h3, h4, h5⟩ := h
  have hmem : i ∈ (s.add d (.int .i64 (i : Nat))).ids := List.mem_append.2 (.inl (h5 hi))
  refine ⟨hmem, by simp [St.add, St.del, h1], fun id hid ho => ?_, fun id hid => ?_, ?_, fun h => by omega⟩
  · obtain ⟨hm, hne⟩ := List.mem_filter.1 hid
    simp at hne
    rcases List.mem_append.1 hm with hm | hm
    · exact absurd (h2 id hm ho) hne
    · simpa [h1] using hm
  · obtain ⟨hm, hne⟩ := List.mem_filter.1 hid
    rcases List.mem_append.1 hm with hm | hm
    · have hne := hok.new_ne hm
      simp only [St.add, St.del, updV, if_neg hne]
      exact h3 id hm
    · obtain rfl : id = s.last + 1 := by simpa using hm
      simp only [St.add, St.del, updV, if_pos]
      rw [h1]
      congr 1
      omega
  · have := del_length hok2 hmem
    have h6 : (s.add d (.int .i64 (i : Nat))).ids.length = s.ids.length + 1 := by simp [St.add]
    omega

/-- what is still to come, behind the one that came last -/
structure Left (n : Nat) (lid ldue : Nat) (s : St) : Prop where
  par : ∀ id ∈ s.ids, id % 2 = 1 → id = n
  what : ∀ id ∈ s.ids, s.what id = .int .i64 ((id : Int) - 1)
  bef : ∀ id ∈ s.ids, ldue < s.due id ∨ ldue = s.due id ∧ lid < id
theorem Left.start {n : Nat} {s : St} (h : Many n s) (hok : Ok s) : Left n 0 0 s := ⟨h.par, h.what, fun id hid => by have := hok.inn id hid; omega⟩
theorem Left.took {n lid ldue id to : Nat} {s s' : St} (h : Left n lid ldue s) (hok : Ok s) (hn : NextSome s to id s') : Left n id (s.due id) s' ∧ s'.ids.length + 1 = s.ids.length ∧ s'.last = s.last := by
  obtain ⟨h1, h2, h3, rfl⟩ := hn
  refine ⟨⟨fun j hj => h.par j (List.mem_filter.1 hj).1, fun j hj => h.what j (List.mem_filter.1 hj).1, fun j hj => ?_⟩, del_length hok h1, rfl⟩
  obtain ⟨a, b⟩ := List.mem_filter.1 hj
  exact h3 j a (by simpa using b)

end Wh
end Go.Proofs.Ytbjapgajbljhfaa
