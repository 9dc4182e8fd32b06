/- WheelFinds: the mathematics. -/
import Derived.Test.YtbjapgajbljhfaaWCnM
import Derived.Test.YtbjapgajbljhfaaWLsd
namespace Go.Proofs.Ytbjapgajbljhfaa
namespace Wh
open Go.RowKit

theorem Adv.all {s : St} (hok : Ok s) {ys : List Nat} (h : Adv s M ys) : (∀ id, id ∈ ys ↔ id ∈ s.ids) ∧ ys.length = s.ids.length := by
  have hm : ∀ id, id ∈ ys ↔ id ∈ s.ids := fun id => by
    rw [h.mem]
    exact ⟨fun a => a.1, fun a => ⟨a, (hok.inn id a).2.2.2⟩⟩
  exact ⟨hm, ((List.perm_ext_iff_of_nodup h.nodup (sorted_nodup hok.srt)).2 hm).length_eq⟩

/-- between two rounds of the second loop: those below k are out -/
structure FndI (z cur : St) (k : Nat) : Prop where
  now_ : cur.now = z.now
  last : cur.last = z.last
  due : cur.due = z.due
  what : cur.what = z.what
  ids : ∀ id, id ∈ cur.ids ↔ id ∈ z.ids ∧ k ≤ id
theorem FndI.start (z : St) : FndI z z 0 := ⟨rfl, rfl, rfl, rfl, fun _ => ⟨fun h => ⟨h, Nat.zero_le _⟩, fun h => h.1⟩⟩
theorem FndI.skip {z cur : St} {k : Nat} (h : FndI z cur k) (hk : k ∉ cur.ids) : FndI z cur (k + 1) := ⟨h.now_, h.last, h.due, h.what, fun id => by
  rw [h.ids]
  refine ⟨fun ⟨a, b⟩ => ⟨a, ?_⟩, fun ⟨a, b⟩ => ⟨a, by omega⟩⟩
  rcases Nat.lt_or_ge k id with c | c
  · exact c
  · exact absurd ((h.ids k).2 ⟨(show id = k by omega) ▸ a, Nat.le_refl _⟩) hk⟩
theorem FndI.del {z cur : St} {k : Nat} (h : FndI z cur k) : FndI z (cur.del k) (k + 1) := ⟨h.now_, h.last, h.due, h.what, fun id => by
  show id ∈ cur.ids.filter _ ↔ _
  rw [List.mem_filter, h.ids]
  simp only [bne_iff_ne, ne_eq]
  exact ⟨fun ⟨⟨a, b⟩, c⟩ => ⟨a, by omega⟩, fun ⟨a, b⟩ => ⟨⟨a, by omega⟩, by omega⟩⟩⟩
theorem FndI.typed {z cur : St} {k : Nat} (h : FndI z cur k) (ht : ∀ id ∈ z.ids, ∃ y1, z.what id = .int .i64 y1) : ∀ id ∈ cur.ids, ∃ y1, cur.what id = .int .i64 y1 := fun id hid => by
  rw [h.what]
  exact ht id ((h.ids id).1 hid).1
theorem FndI.none {z cur : St} {k : Nat} (h : FndI z cur k) (hz : ∀ id ∈ z.ids, id < k) : cur.ids.length = 0 := by
  have : cur.ids = [] := List.eq_nil_iff_forall_not_mem.2 fun id hid => by
    have := (h.ids id).1 hid
    have := hz id this.1
    omega
  rw [this]; rfl

end Wh
end Go.Proofs.Ytbjapgajbljhfaa
