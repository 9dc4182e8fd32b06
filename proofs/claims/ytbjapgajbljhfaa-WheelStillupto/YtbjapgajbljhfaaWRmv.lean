/- Package wheel: a timer taken away: out of its row and out of the map. -/
import Derived.Test.YtbjapgajbljhfaaWRem
namespace Go.Proofs.Ytbjapgajbljhfaa
namespace Wh
open Go.RowKit

theorem sorted_nodup {l : List Nat} (h : l.Pairwise (· < ·)) : l.Nodup := h.imp fun h => by omega
theorem Ok.rows1 {s : St} (h : Ok s) : Rows1 s.row s :=
  ⟨fun _ _ _ hid => (mem_row.1 hid).1, fun l i l' i' z h1 h2 => by
    obtain ⟨_, a, b⟩ := mem_row.1 h1
    obtain ⟨_, c, d⟩ := mem_row.1 h2
    subst a; subst c
    exact ⟨rfl, by omega⟩, fun l i => sorted_nodup (h.srt.filter _)⟩

theorem filter_ne_mid {xs ys : List Nat} {id : Nat} (h : (xs ++ id :: ys).Nodup) : (xs ++ id :: ys).filter (· != id) = xs ++ ys := by
  obtain ⟨dx, dy, dxy⟩ := List.nodup_append.1 h
  obtain ⟨diy, dyy⟩ := List.nodup_cons.1 dy
  rw [List.filter_append, List.filter_cons]
  have h1 : xs.filter (· != id) = xs := List.filter_eq_self.2 fun a ha => by simp; exact fun e => dxy a ha id (by simp) e
  have h2 : ys.filter (· != id) = ys := List.filter_eq_self.2 fun a ha => by simp; exact fun e => diy (e ▸ ha)
  simp [h1, h2]

theorem Ok.del_put {s : St} (h : Ok s) {l i id : Nat} {xs ys : List Nat} (hrow : s.row l i = xs ++ id :: ys) : put2 s.row l i (xs ++ ys) = (s.del id).row := by
  funext l' i'
  rw [del_row]
  by_cases hc : l' = l ∧ i' = i
  · obtain ⟨rfl, rfl⟩ := hc
    rw [put2_same, hrow, filter_ne_mid (hrow ▸ h.rows1.nd l' i')]
  · rw [put2_other _ _ hc]
    symm
    refine List.filter_eq_self.2 fun a ha => ?_
    simp
    intro e
    subst e
    exact hc (h.rows1.dis _ _ _ _ a ha (by rw [hrow]; simp))

/-- a wheel behind a remove: the map is struck -/
theorem WIn.struck {tw te : TypeId} {S : Nat → Prop} {w w' : World} {P m : Nat} {at_ : Nat → Nat} {row : Nat → Nat → List Nat} {s : St} {id : Nat} (h : WIn tw te S w P m at_ row s) (hr : ∀ l i a, a ∈ row l i → a ∈ s.ids) {f : Int → Option Value} (hf : ∀ k v, f k = some v ↔ ∃ id, id ∈ s.ids ∧ k = ((id : Nat) : Int) ∧ v = ptr at_ (some id))
    (hm : MapIs w' m (upd f (id : Int) none)) (hk : Keep (fun k => k = m) w w') : WIn tw te S w' P m at_ row (s.del id) where
  wb := by
    obtain ⟨cs, h1, h2⟩ := h.wb
    exact ⟨cs, hk.blk h1 h.ePm, h2⟩
  lnk l i xs ys a e := hk.blk (h.lnk l i xs ys a e) (h.eem (hr l i a (by rw [e]; simp)))
  mp := by
    refine ⟨_, hm, fun k v => ?_⟩
    by_cases hc : k = (id : Int)
    · subst hc
      rw [upd_same]
      refine ⟨(fun e => by cases e), fun ⟨j, h1, h2, h3⟩ => ?_⟩
      obtain ⟨_, h4⟩ := List.mem_filter.1 h1
      simp at h4
      omega
    · rw [upd_other f _ hc, hf]
      refine ⟨fun ⟨j, h1, h2, h3⟩ => ⟨j, List.mem_filter.2 ⟨h1, by simp; omega⟩, h2, h3⟩, fun ⟨j, h1, h2, h3⟩ => ⟨j, (List.mem_filter.1 h1).1, h2, h3⟩⟩
  inj a ha b hb e := h.inj a (List.mem_filter.1 ha).1 b (List.mem_filter.1 hb).1 e
  ent a ha := by
    obtain ⟨cs, h1⟩ := h.ent a (List.mem_filter.1 ha).1
    exact ⟨cs, hk.blk h1 (h.eem (List.mem_filter.1 ha).1)⟩
  own a ha := h.own a (List.mem_filter.1 ha).1
  sp := h.sp
  sm := h.sm

/-- the blocks of a wheel -/
def Own (P m : Nat) (at_ : Nat → Nat) (s : St) (k : Nat) : Prop := k = P ∨ k = m ∨ ∃ z ∈ s.ids, k = at_ z
theorem WIn.sub {tw te : TypeId} {S : Nat → Prop} {w : World} {P m : Nat} {at_ : Nat → Nat} {row : Nat → Nat → List Nat} {s : St} (h : WIn tw te S w P m at_ row s) : ∀ k, Own P m at_ s k → S k := fun k e => by
  rcases e with e | e | ⟨z, hz, e⟩
  · rw [e]; exact h.sp
  · rw [e]; exact h.sm
  · rw [e]; exact h.own z hz
theorem WIn.own_lt {tw te : TypeId} {S : Nat → Prop} {w : World} {P m : Nat} {at_ : Nat → Nat} {row : Nat → Nat → List Nat} {s : St} (h : WIn tw te S w P m at_ row s) : ∀ k, Own P m at_ s k → k < w.heap.size := fun k e => by
  rcases e with e | e | ⟨z, hz, e⟩
  · rw [e]; exact h.ltP
  · rw [e]; exact h.ltm
  · rw [e]; exact h.lte hz

/-- what a remove leaves -/
def Gone (tw te : TypeId) (S : Nat → Prop) (w : World) (P m : Nat) (at_ : Nat → Nat) (s : St) (id : Nat) (w' : World) : Prop :=
  WIn tw te S w' P m at_ (s.del id).row (s.del id) ∧ (∃ b e, Ent te w' at_ s id b e) ∧ Keep (Own P m at_ s) w w'

theorem mapTI : Try.prog.underlying 68 = some (.map 3 69) := Try.underlying68

set_option maxRecDepth 100000 in
set_option maxHeartbeats 4000000 in
theorem rmvI {S : Nat → Prop} {P m : Nat} {at_ : Nat → Nat} {s : St} (id : Nat) (w : World) (hok : Ok s) (h : WIn 75 80 S w P m at_ s.row s) (hid : id ∈ s.ids) (hlast : s.last < 2 ^ 62) :
    Calls Try.prog 28 #[.pointer (some ⟨P, 0, none⟩), .pointer (some ⟨at_ id, 0, none⟩)] w fun e w' => e = .returned (.tuple #[]) ∧
      Gone 75 80 S w P m at_ s id w' := by
  obtain ⟨b1, b2, b3, b4⟩ := hok.inn id hid
  obtain ⟨xs, ys, hrow⟩ := List.append_of_mem (hok.place hid)
  have hl := lev_lt b4 hok.nowM
  have hi := dg_lt (s.due id) (lev s.now (s.due id))
  have e1 := (h.lnk _ _ _ _ _ hrow).c1
  have H := hide h
  have HO := hide hok
  have HR := hide hrow
  clear h hok hrow
  go_enter Try.func28, Try.ntmps28
  go_wp2_with (first
    | (go_at_call 35; refine (placeI (s.due id) _ H.out HO.out.nowM b4).mono ?_; rintro e w1 ⟨rfl, k1⟩; have K1 := hide k1; clear k1 e1)
    | (go_at_call 27; refine (slotI P _ _ _ hl hi).mono ?_; rintro e w2 ⟨rfl, k2⟩; have K2 := hide (K1.out.more k2); have H2 := hide (H.out.stay K2.out (fun _ _ _ h => h) HO.out.rows1.sub); clear k2 K1)
    | (go_at_call 47; refine (sremI _ _ id xs ys _ H2.out HO.out.rows1 hl hi HR.out).mono ?_; rintro e w3 ⟨rfl, R3⟩
       have R3 := hide R3
       obtain ⟨f, mf, hf⟩ := R3.out.1.mp
       have HF := hide hf
       obtain ⟨w4, hrun, m4, k4, s4⟩ := (mf.of_blk (w' := w3.drew) rfl).drop mapTI (k := (id : Int)) (by omega) (by omega) 0
       have c2 := R3.out.1.cmap
       have i0 := R3.out.2.1.c0
       have M4 := hide m4
       have K4 := hide k4
       clear hf mf m4 k4 s4))
  go_region
  go_end0
  obtain ⟨r1, r2, r3, _⟩ := R3.out
  have hsub : ∀ l i a, a ∈ put2 s.row (lev s.now (s.due id)) (dg (s.due id) (lev s.now (s.due id))) (xs ++ ys) l i → a ∈ s.ids := fun l i a ha => by
    rw [HO.out.del_put HR.out] at ha
    exact (List.mem_filter.1 (mem_row.1 ha).1).1
  refine ⟨rfl, ?_, ⟨_, _, Ent.keep (w := w3.drew) r2 K4.out (r1.eem hid)⟩, ?_⟩
  · have := r1.drew.struck (id := id) hsub HF.out M4.out K4.out
    rwa [HO.out.del_put HR.out] at this
  · exact ((K2.out.mono fun _ e => e.elim).more (r3.mono fun k e => by
      rcases e with rfl | ⟨z, hz, rfl⟩
      · exact .inl rfl
      · exact .inr (.inr ⟨z, (mem_row.1 hz).1, rfl⟩))).more ((Keep.drew _ _).more (K4.out.mono fun k e => .inr (.inl e)))
theorem mapTS : Try.prog.underlying 88 = some (.map 3 89) := Try.underlying88

set_option maxRecDepth 100000 in
set_option maxHeartbeats 4000000 in
theorem rmvS {S : Nat → Prop} {P m : Nat} {at_ : Nat → Nat} {s : St} (id : Nat) (w : World) (hok : Ok s) (h : WIn 95 97 S w P m at_ s.row s) (hid : id ∈ s.ids) (hlast : s.last < 2 ^ 62) :
    Calls Try.prog 42 #[.pointer (some ⟨P, 0, none⟩), .pointer (some ⟨at_ id, 0, none⟩)] w fun e w' => e = .returned (.tuple #[]) ∧
      Gone 95 97 S w P m at_ s id w' := by
  obtain ⟨b1, b2, b3, b4⟩ := hok.inn id hid
  obtain ⟨xs, ys, hrow⟩ := List.append_of_mem (hok.place hid)
  have hl := lev_lt b4 hok.nowM
  have hi := dg_lt (s.due id) (lev s.now (s.due id))
  have e1 := (h.lnk _ _ _ _ _ hrow).c1
  have H := hide h
  have HO := hide hok
  have HR := hide hrow
  clear h hok hrow
  go_enter Try.func42, Try.ntmps42
  go_wp2_with (first
    | (go_at_call 39; refine (placeS (s.due id) _ H.out HO.out.nowM b4).mono ?_; rintro e w1 ⟨rfl, k1⟩; have K1 := hide k1; clear k1 e1)
    | (go_at_call 38; refine (slotS P _ _ _ hl hi).mono ?_; rintro e w2 ⟨rfl, k2⟩; have K2 := hide (K1.out.more k2); have H2 := hide (H.out.stay K2.out (fun _ _ _ h => h) HO.out.rows1.sub); clear k2 K1)
    | (go_at_call 53; refine (sremS _ _ id xs ys _ H2.out HO.out.rows1 hl hi HR.out).mono ?_; rintro e w3 ⟨rfl, R3⟩
       have R3 := hide R3
       obtain ⟨f, mf, hf⟩ := R3.out.1.mp
       have HF := hide hf
       obtain ⟨w4, hrun, m4, k4, s4⟩ := (mf.of_blk (w' := w3.drew) rfl).drop mapTS (k := (id : Int)) (by omega) (by omega) 0
       have c2 := R3.out.1.cmap
       have i0 := R3.out.2.1.c0
       have M4 := hide m4
       have K4 := hide k4
       clear hf mf m4 k4 s4))
  go_region
  go_end0
  obtain ⟨r1, r2, r3, _⟩ := R3.out
  have hsub : ∀ l i a, a ∈ put2 s.row (lev s.now (s.due id)) (dg (s.due id) (lev s.now (s.due id))) (xs ++ ys) l i → a ∈ s.ids := fun l i a ha => by
    rw [HO.out.del_put HR.out] at ha
    exact (List.mem_filter.1 (mem_row.1 ha).1).1
  refine ⟨rfl, ?_, ⟨_, _, Ent.keep (w := w3.drew) r2 K4.out (r1.eem hid)⟩, ?_⟩
  · have := r1.drew.struck (id := id) hsub HF.out M4.out K4.out
    rwa [HO.out.del_put HR.out] at this
  · exact ((K2.out.mono fun _ e => e.elim).more (r3.mono fun k e => by
      rcases e with rfl | ⟨z, hz, rfl⟩
      · exact .inl rfl
      · exact .inr (.inr ⟨z, (mem_row.1 hz).1, rfl⟩))).more ((Keep.drew _ _).more (K4.out.mono fun k e => .inr (.inl e)))

end Wh
end Go.Proofs.Ytbjapgajbljhfaa
