/- Package wheel: Schedule. -/
import Derived.Test.YtbjapgajbljhfaaWNew
namespace Go.Proofs.Ytbjapgajbljhfaa
namespace Wh
open Go.RowKit

def upat (at_ : Nat → Nat) (k v : Nat) (j : Nat) : Nat := if j = k then v else at_ j
theorem ptr_upat {at_ : Nat → Nat} {k v : Nat} {o : Option Nat} (h : ∀ j, o = some j → j ≠ k) : ptr (upat at_ k v) o = ptr at_ o := by
  cases o with
  | none => rfl
  | some j => simp [ptr, upat, h j rfl]

theorem ok_segs {s : St} (hok : Ok s) (hl : s.last < 1099511627776) {at_ : Nat → Nat} {f : Int → Option Value} (hf : ∀ k v, f k = some v ↔ ∃ id, id ∈ s.ids ∧ k = ((id : Nat) : Int) ∧ v = ptr at_ (some id)) : Segs f := by
  intro k hk
  cases e : f k with
  | none => exact absurd e hk
  | some v =>
    obtain ⟨id, h1, h2, _⟩ := (hf k v).1 e
    have := hok.inn id h1
    omega

/-- a wheel to which an entry came that stands in no row yet -/
theorem sched_in {tw te : TypeId} (ht : te ≠ tw) {S : Nat → Prop} {w w1 w2 w3 : World} {P m : Nat} {at_ : Nat → Nat} {s : St} {d E : Nat} {x : Value} {q : Int} (hq : q = ((s.last + 1 : Nat) : Int)) (hok : Ok s) (h : WIn tw te S w P m at_ s.row s) {f : Int → Option Value}
    (hf : ∀ k v, f k = some v ↔ ∃ id, id ∈ s.ids ∧ k = ((id : Nat) : Int) ∧ v = ptr at_ (some id))
    (h1 : w1 = w.setCell ⟨P, 1, none⟩ (.int .i64 q)) (hE : E = w.heap.size) (h2 : w2.heap = (w1.alloc (.cells #[.int .i64 q, .int .i64 (d : Nat), x, .pointer none, .pointer none] te)).heap)
    (hm : MapIs w3 m (upd f q (some (.pointer (some ⟨E, 0, none⟩))))) (hk : Keep (fun k => k = m) w2 w3) :
    WIn tw te (fun k => S k ∨ w.heap.size ≤ k) w3 P m (upat at_ (s.last + 1) E) s.row (s.add d x) ∧ Ent te w3 (upat at_ (s.last + 1) E) (s.add d x) (s.last + 1) (.pointer none) (.pointer none) ∧ Rows1 s.row (s.add d x) ∧ (∀ l i, s.last + 1 ∉ s.row l i) := by
  subst hq h1 hE
  have hnr : ∀ l i, s.last + 1 ∉ s.row l i := fun l i hm => hok.new_ne (mem_row.1 hm).1 rfl
  have hkw : Keep (fun k => k = P) w (w.setCell ⟨P, 1, none⟩ (.int .i64 ((s.last + 1 : Nat) : Int))) := keep_cell _ _ _ _
  have hold : ∀ {k : Nat} {o : Obj}, w.heap[k]? = some o → k ≠ P → k ≠ m → w3.heap[k]? = some o := fun {k o} ho hp hm' => by
    refine hk.blk ?_ hm'
    rw [h2]
    have a1 := hkw.blk ho hp
    exact (Below.heap_alloc _ _ _ (Array.getElem?_eq_some_iff.1 a1).1).trans a1
  have hsz : (w.setCell ⟨P, 1, none⟩ (.int .i64 ((s.last + 1 : Nat) : Int))).heap.size = w.heap.size := by simp [World.setCell]
  have hnew : w3.heap[w.heap.size]? = some (.cells #[.int .i64 ((s.last + 1 : Nat) : Int), .int .i64 (d : Nat), x, .pointer none, .pointer none] te (0, 0)) := by
    refine hk.blk ?_ (by have := h.ltm; omega)
    rw [h2, ← hsz]
    exact heap_alloc_new _ _
  have hin : ∀ a ∈ s.ids, upat at_ (s.last + 1) w.heap.size a = at_ a := fun a ha => by simp [upat, hok.new_ne ha]
  have hself : upat at_ (s.last + 1) w.heap.size (s.last + 1) = w.heap.size := by simp [upat]
  have hpt : ∀ l i (o : Option Nat), (∀ j, o = some j → j ∈ s.row l i) → ptr (upat at_ (s.last + 1) w.heap.size) o = ptr at_ o := fun l i o ho => ptr_upat fun j e => hok.new_ne (mem_row.1 (ho j e)).1
  have hdue : ∀ a ∈ s.ids, (s.add d x).due a = s.due a ∧ (s.add d x).what a = s.what a := fun a ha => by simp [St.add, updN, updV, hok.new_ne ha]
  have hmem : ∀ a, a ∈ (s.add d x).ids ↔ a ∈ s.ids ∨ a = s.last + 1 := fun a => by simp [St.add]
  refine ⟨⟨?_, ?_, ⟨_, hm, ?_⟩, ?_, ?_, ?_, .inl h.sp, .inl h.sm⟩, ?_, ⟨?_, hok.rows1.dis, hok.rows1.nd⟩, hnr⟩
  · obtain ⟨cs, b1, b2⟩ := h.wb
    have hs := b2.1
    have b3 := set_blk b1 1 (.int .i64 ((s.last + 1 : Nat) : Int))
    refine ⟨cs.setIfInBounds 1 (.int .i64 ((s.last + 1 : Nat) : Int)), hk.blk ?_ h.ePm, ⟨by simp [hs], ?_, ?_, ?_, fun l i hl hi => ?_⟩⟩
    · rw [h2]; exact (Below.heap_alloc _ _ _ (Array.getElem?_eq_some_iff.1 b3).1).trans b3
    · rw [set_get _ _ _ _ (by omega), if_neg (by decide)]; exact b2.2.1
    · rw [set_get _ _ _ _ (by omega), if_pos rfl]; rfl
    · rw [set_get _ _ _ _ (by omega), if_neg (by decide)]; exact b2.2.2.2.1
    · rw [set_get _ _ _ _ (by omega), set_get _ _ _ _ (by omega), if_neg (by unfold so; omega), if_neg (by unfold so; omega)]
      rw [hpt l i _ (fun j e => List.mem_of_mem_head? e), hpt l i _ (fun j e => List.mem_of_getLast? e)]
      exact b2.2.2.2.2 l i hl hi
  · intro l i xs ys a e
    have ha : a ∈ s.row l i := by rw [e]; simp
    have hs := (mem_row.1 ha).1
    have h3 := hold (h.lnk l i xs ys a e) (h.eeP ht hs) (h.eem hs)
    unfold Ent ecells
    rw [hin a hs, (hdue a hs).1, (hdue a hs).2, hpt l i _ (fun j e' => by rw [e]; simp [List.mem_of_getLast? e']), hpt l i _ (fun j e' => by rw [e]; simp [List.mem_of_mem_head? e'])]
    exact h3
  · intro k v
    by_cases hc : k = ((s.last + 1 : Nat) : Int)
    · subst hc
      rw [upd_same]
      constructor
      · intro e
        injection e with e
        subst e
        exact ⟨s.last + 1, (hmem _).2 (.inr rfl), rfl, by simp [ptr, hself]⟩
      · rintro ⟨j, h1, h2, h3⟩
        have : j = s.last + 1 := by omega
        subst this
        rw [h3]; simp [ptr, hself]
    · rw [upd_other _ _ hc, hf]
      constructor
      · rintro ⟨j, h1, h2, h3⟩
        exact ⟨j, (hmem _).2 (.inl h1), h2, by rw [h3]; simp [ptr, hin j h1]⟩
      · rintro ⟨j, h1, h2, h3⟩
        rcases (hmem _).1 h1 with h1 | h1
        · exact ⟨j, h1, h2, by rw [h3]; simp [ptr, hin j h1]⟩
        · subst h1; exact absurd h2 hc
  · intro a ha b hb e
    rcases (hmem _).1 ha with ha | rfl <;> rcases (hmem _).1 hb with hb | rfl
    · rw [hin a ha, hin b hb] at e; exact h.inj a ha b hb e
    · rw [hin a ha, hself] at e; have := h.lte ha; omega
    · rw [hin b hb, hself] at e; have := h.lte hb; omega
    · rfl
  · intro a ha
    rcases (hmem _).1 ha with ha | rfl
    · rw [hin a ha]
      obtain ⟨cs, b1⟩ := h.ent a ha
      exact ⟨cs, hold b1 (h.eeP ht ha) (h.eem ha)⟩
    · rw [hself]; exact ⟨_, hnew⟩
  · intro a ha
    rcases (hmem _).1 ha with ha | rfl
    · rw [hin a ha]; exact .inl (h.own a ha)
    · rw [hself]; exact .inr (Nat.le_refl _)
  · unfold Ent ecells
    rw [hself, show (s.add d x).due (s.last + 1) = d by simp [St.add, updN], show (s.add d x).what (s.last + 1) = x by simp [St.add, updV]]
    exact hnew
  · exact fun l i a ha => (hmem _).2 (.inl (mem_row.1 ha).1)

theorem Ok.add_put {s : St} (h : Ok s) (d : Nat) (x : Value) : put2 s.row (lev s.now d) (dg d (lev s.now d)) (s.row (lev s.now d) (dg d (lev s.now d)) ++ [s.last + 1]) = (s.add d x).row := by
  funext l i
  rw [h.add_row]
  by_cases hc : l = lev s.now d ∧ i = dg d (lev s.now d)
  · obtain ⟨rfl, rfl⟩ := hc
    rw [put2_same, if_pos ⟨rfl, rfl⟩]
  · rw [put2_other _ _ hc, if_neg (fun ⟨a, b⟩ => hc ⟨a.symm, by subst a; exact b.symm⟩), List.append_nil]

/-- what Schedule leaves -/
def Sched (tw te : TypeId) (S : Nat → Prop) (w : World) (P : Nat) (s : St) (d : Nat) (x : Value) (w' : World) : Prop :=
  WAt tw te (fun k => S k ∨ w.heap.size ≤ k) w' P (s.add d x) ∧ Keep S w w'

set_option maxRecDepth 100000 in
set_option maxHeartbeats 4000000 in
theorem schedI {S : Nat → Prop} {P : Nat} {s : St} (d : Nat) (x : Value) (hx : ∃ y1, x = .int .i64 y1) (w : World) (h : WAt 75 80 S w P s) (hd1 : s.now ≤ d) (hd2 : d ≤ M) (hlast : s.last < 1099511627776) :
    Calls Try.prog 14 #[.pointer (some ⟨P, 0, none⟩), .int .i64 d, x] w fun e w' => e = .returned (.tuple #[.int .i64 ((s.last + 1 : Nat) : Int), .int .i64 0]) ∧
      Sched 75 80 S w P s d x w' := by
  obtain ⟨y1, rfl⟩ := hx
  obtain ⟨hok, m, at_, h⟩ := h
  have hdec : decide ((s.now : Int) ≤ (d : Int) ∧ (d : Int) ≤ 4611686018427387904) = true := by unfold M at hd2; simp; omega
  have hcq : ((s.last + 1 : Nat) : Int) = (s.last : Int) + 1 := by omega
  have hl := lev_lt hd2 hok.nowM
  have hi := dg_lt d (lev s.now d)
  have H := hide h
  have HO := hide hok
  clear h hok
  rw [hcq]
  go_enter Try.func14, Try.ntmps14
  go_wp2_with (go_at_call 24; refine (aheadI d _ H.out).mono ?_; rw [hdec]; rintro e w1 ⟨rfl, k1⟩
               have K1 := hide k1
               have H1 := hide (H.out.stay k1 (fun _ _ _ h => h) HO.out.rows1.sub)
               have c1 := H1.out.clast
               have c2 := H1.out.cmap
               have f1 := H1.out.fz 1
               have hltP := H1.out.ltP
               obtain ⟨f, mf, hf⟩ := H1.out.mp
               have HF := hide hf
               obtain ⟨W, hW⟩ : ∃ W, W = ((w1.setCell ⟨P, 1, none⟩ (.int .i64 ((s.last : Int) + 1))).alloc (.cells #[.int .i64 ((s.last : Int) + 1), .int .i64 (d : Int), .int .i64 y1, .pointer none, .pointer none] 80)).drew := ⟨_, rfl⟩
               have kW : Keep (fun k => k = P) w1 W := by rw [hW]; exact ((keep_cell _ _ _ _).more (Keep.alloc _ _ _)).more (Keep.drew _ _)
               obtain ⟨w3, hst, m3, k3, s3⟩ := (mf.keep kW (Ne.symm H1.out.ePm)).store mapTI (k := (s.last : Int) + 1) (by omega) (by omega) (ok_segs HO.out hlast hf) (.pointer (some ⟨w1.heap.size, 0, none⟩))
               have M3 := hide m3
               have K3 := hide k3
               have HW := hide hW
               rw [hW] at hst
               clear k1 m3 k3 s3 kW hW hf mf)
  go_region
  have hat : upat at_ (s.last + 1) w1.heap.size (s.last + 1) = w1.heap.size := by simp [upat]
  have I3 := hide (sched_in (by decide) hcq.symm HO.out H1.out HF.out rfl rfl (by rw [HW.out]; rfl) M3.out K3.out)
  have KA := hide (((K1.out.mono (T := S) fun _ e => e.elim).more ((keep_cell w1 P 1 _).mono (T := S) fun k e => by subst e; exact H1.out.sp)).more (((Keep.alloc S _ _).more (Keep.drew _ _)).more (Keep.mono (T := S) (by have := K3.out; rw [HW.out] at this; exact this) fun k e => by subst e; exact H1.out.sm)))
  go_wp2_with (first
    | (go_at_call 35
       have PL : Calls Try.prog 35 #[.pointer (some ⟨P, 0, none⟩), .int .i64 d] w3 fun e w' => e = .returned (.agg #[.int .i64 (lev s.now d : Nat), .int .i64 (dg d (lev s.now d) : Nat)]) ∧ Keep (fun _ => False) w3 w' := placeI (s := s.add d (.int .i64 y1)) d w3 I3.out.1 HO.out.nowM hd2
       refine PL.mono ?_
       clear PL
       rintro e w4 ⟨rfl, k4⟩; have K4 := hide k4; clear k4)
    | (go_at_call 27; refine (slotI P _ _ _ hl hi).mono ?_; rintro e w5 ⟨rfl, k5⟩; have K5 := hide (K4.out.more k5); clear k5 K4)
    | (go_at_call 36
       have AD := addI (lev s.now d) (dg d (lev s.now d)) (s.last + 1) (.pointer none) (.pointer none) w5 (I3.out.1.stay K5.out (fun _ _ _ h => h) I3.out.2.2.1.sub) I3.out.2.2.1 hl hi (by simp [St.add]) I3.out.2.2.2 (I3.out.2.1.keep K5.out fun h => h)
       rw [hat] at AD
       refine AD.mono ?_
       clear AD
       rintro e w6 ⟨rfl, A6⟩
       have A6 := hide A6
       have z0 : w6.cell? ⟨w1.heap.size, 0, none⟩ = some (.int .i64 ((s.last : Int) + 1)) := by
         have := (A6.out.1.lnk _ _ _ [] (s.last + 1) (put2_same _ _ _ _)).c0
         rw [hat] at this
         exact this))
  go_ret2
  refine ⟨rfl, ⟨HO.out.add hd1 hd2 _, m, upat at_ (s.last + 1) w1.heap.size, ?_⟩, ?_⟩
  · have := A6.out.1
    rw [HO.out.add_put d _] at this
    exact ⟨this.wb, this.lnk, this.mp, this.inj, this.ent, fun a ha => (this.own a ha).imp (fun x => x) fun h => Nat.le_trans K1.out.size h, .inl H.out.sp, .inl H.out.sm⟩
  · refine KA.out.trans (T := fun k => S k ∨ w1.heap.size ≤ k) ((K5.out.mono fun _ e => e.elim).more (A6.out.2.mono fun k e => ?_)) fun k e => e.imp (fun x => x) fun h => Nat.le_trans K1.out.size h
    rcases e with rfl | rfl | ⟨z, hz, rfl⟩
    · exact .inl H1.out.sp
    · rw [hat]; exact .inr (Nat.le_refl _)
    · exact I3.out.1.own z (I3.out.2.2.1.sub _ _ _ hz)
set_option maxRecDepth 100000 in
set_option maxHeartbeats 4000000 in
theorem schedS {S : Nat → Prop} {P : Nat} {s : St} (d : Nat) (x : Value) (hx : ∃ y1, x = .string y1) (w : World) (h : WAt 95 97 S w P s) (hd1 : s.now ≤ d) (hd2 : d ≤ M) (hlast : s.last < 1099511627776) :
    Calls Try.prog 20 #[.pointer (some ⟨P, 0, none⟩), .int .i64 d, x] w fun e w' => e = .returned (.tuple #[.int .i64 ((s.last + 1 : Nat) : Int), .int .i64 0]) ∧
      Sched 95 97 S w P s d x w' := by
  obtain ⟨y1, rfl⟩ := hx
  obtain ⟨hok, m, at_, h⟩ := h
  have hdec : decide ((s.now : Int) ≤ (d : Int) ∧ (d : Int) ≤ 4611686018427387904) = true := by unfold M at hd2; simp; omega
  have hcq : ((s.last + 1 : Nat) : Int) = (s.last : Int) + 1 := by omega
  have hl := lev_lt hd2 hok.nowM
  have hi := dg_lt d (lev s.now d)
  have H := hide h
  have HO := hide hok
  clear h hok
  rw [hcq]
  go_enter Try.func20, Try.ntmps20
  go_wp2_with (go_at_call 37; refine (aheadS d _ H.out).mono ?_; rw [hdec]; rintro e w1 ⟨rfl, k1⟩
               have K1 := hide k1
               have H1 := hide (H.out.stay k1 (fun _ _ _ h => h) HO.out.rows1.sub)
               have c1 := H1.out.clast
               have c2 := H1.out.cmap
               have f1 := H1.out.fz 1
               have hltP := H1.out.ltP
               obtain ⟨f, mf, hf⟩ := H1.out.mp
               have HF := hide hf
               obtain ⟨W, hW⟩ : ∃ W, W = ((w1.setCell ⟨P, 1, none⟩ (.int .i64 ((s.last : Int) + 1))).alloc (.cells #[.int .i64 ((s.last : Int) + 1), .int .i64 (d : Int), .string y1, .pointer none, .pointer none] 97)).drew := ⟨_, rfl⟩
               have kW : Keep (fun k => k = P) w1 W := by rw [hW]; exact ((keep_cell _ _ _ _).more (Keep.alloc _ _ _)).more (Keep.drew _ _)
               obtain ⟨w3, hst, m3, k3, s3⟩ := (mf.keep kW (Ne.symm H1.out.ePm)).store mapTS (k := (s.last : Int) + 1) (by omega) (by omega) (ok_segs HO.out hlast hf) (.pointer (some ⟨w1.heap.size, 0, none⟩))
               have M3 := hide m3
               have K3 := hide k3
               have HW := hide hW
               rw [hW] at hst
               clear k1 m3 k3 s3 kW hW hf mf)
  go_region
  have hat : upat at_ (s.last + 1) w1.heap.size (s.last + 1) = w1.heap.size := by simp [upat]
  have I3 := hide (sched_in (by decide) hcq.symm HO.out H1.out HF.out rfl rfl (by rw [HW.out]; rfl) M3.out K3.out)
  have KA := hide (((K1.out.mono (T := S) fun _ e => e.elim).more ((keep_cell w1 P 1 _).mono (T := S) fun k e => by subst e; exact H1.out.sp)).more (((Keep.alloc S _ _).more (Keep.drew _ _)).more (Keep.mono (T := S) (by have := K3.out; rw [HW.out] at this; exact this) fun k e => by subst e; exact H1.out.sm)))
  go_wp2_with (first
    | (go_at_call 39
       have PL : Calls Try.prog 39 #[.pointer (some ⟨P, 0, none⟩), .int .i64 d] w3 fun e w' => e = .returned (.agg #[.int .i64 (lev s.now d : Nat), .int .i64 (dg d (lev s.now d) : Nat)]) ∧ Keep (fun _ => False) w3 w' := placeS (s := s.add d (.string y1)) d w3 I3.out.1 HO.out.nowM hd2
       refine PL.mono ?_
       clear PL
       rintro e w4 ⟨rfl, k4⟩; have K4 := hide k4; clear k4)
    | (go_at_call 38; refine (slotS P _ _ _ hl hi).mono ?_; rintro e w5 ⟨rfl, k5⟩; have K5 := hide (K4.out.more k5); clear k5 K4)
    | (go_at_call 40
       have AD := addS (lev s.now d) (dg d (lev s.now d)) (s.last + 1) (.pointer none) (.pointer none) w5 (I3.out.1.stay K5.out (fun _ _ _ h => h) I3.out.2.2.1.sub) I3.out.2.2.1 hl hi (by simp [St.add]) I3.out.2.2.2 (I3.out.2.1.keep K5.out fun h => h)
       rw [hat] at AD
       refine AD.mono ?_
       clear AD
       rintro e w6 ⟨rfl, A6⟩
       have A6 := hide A6
       have z0 : w6.cell? ⟨w1.heap.size, 0, none⟩ = some (.int .i64 ((s.last : Int) + 1)) := by
         have := (A6.out.1.lnk _ _ _ [] (s.last + 1) (put2_same _ _ _ _)).c0
         rw [hat] at this
         exact this))
  go_ret2
  refine ⟨rfl, ⟨HO.out.add hd1 hd2 _, m, upat at_ (s.last + 1) w1.heap.size, ?_⟩, ?_⟩
  · have := A6.out.1
    rw [HO.out.add_put d _] at this
    exact ⟨this.wb, this.lnk, this.mp, this.inj, this.ent, fun a ha => (this.own a ha).imp (fun x => x) fun h => Nat.le_trans K1.out.size h, .inl H.out.sp, .inl H.out.sm⟩
  · refine KA.out.trans (T := fun k => S k ∨ w1.heap.size ≤ k) ((K5.out.mono fun _ e => e.elim).more (A6.out.2.mono fun k e => ?_)) fun k e => e.imp (fun x => x) fun h => Nat.le_trans K1.out.size h
    rcases e with rfl | rfl | ⟨z, hz, rfl⟩
    · exact .inl H1.out.sp
    · rw [hat]; exact .inr (Nat.le_refl _)
    · exact I3.out.1.own z (I3.out.2.2.1.sub _ _ _ hz)

end Wh
end Go.Proofs.Ytbjapgajbljhfaa
