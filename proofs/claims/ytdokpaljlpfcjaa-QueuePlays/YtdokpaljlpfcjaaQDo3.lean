/- Chapter 8's laws: the document's queue: Pop. -/
import Derived.Test.YtdokpaljlpfcjaaQDo2
namespace Go.Proofs.Ytdokpaljlpfcjaa
namespace Qu
open Go.RowKit

/-- where a slice begins that is cut at lo -/
def slO (cap lo : Nat) : Nat := if cap = lo then 0 else lo * 2
theorem slice_lo_run (g n cap lo : Nat) (h1 : lo ≤ n) (_h2 : n ≤ cap) (w : World) : (Instr.slice 47 (.slice (some ⟨g, 0, none⟩) n cap) (some (.int .i64 (lo : Int))) none none).run Try.prog w = .ok (.slice (some ⟨g, slO cap lo, none⟩) (n - lo) (cap - lo)) w := by
  have h : (Instr.slice 47 (.slice (some ⟨g, 0, none⟩) n cap) (some (.int .i64 (lo : Int))) none none).run Try.prog w = .ok (.slice (if cap = lo then some ⟨g, 0, none⟩ else some ⟨g, lo * 2, none⟩) (n - lo) (cap - lo)) w := by go_simp
  rw [h]
  unfold slO
  split <;> rfl
theorem Src.cut {w : World} {B g cap n : Nat} {r : List (Nat × Int)} (h : w.ownsRow B 76 2 (.slice (some ⟨g, 0, none⟩) n cap) n (itm r)) (hn : n = r.length) (hc : n ≤ cap) (i c : Nat) (hi : i ≤ n) : Src w (.slice (some ⟨g, slO cap i, none⟩) (n - i) c) (n - i) (itm (r.drop i)) := by
  by_cases e : i < n
  · have : slO cap i = i * 2 := by unfold slO; rw [if_neg (by omega)]
    rw [this]
    exact Src.tail h hn i c hi
  · have h0 : r.drop i = [] := List.drop_of_length_le (by omega)
    rw [h0]
    have h1 : n - i = 0 := by omega
    rw [h1]
    exact .inr ⟨g, _, c, rfl, rfl, fun j u hu => by cases hu⟩
/-- a queue of the document's with a new row -/
theorem DqIn.put {S : Nat → Prop} {w w1 w2 : World} {P : Nat} {v v' : Value} {s t : St Int} (h : DqIn S w P v s) (k1 : Keep (fun _ => False) w w1) (hrow : w1.ownsRow 0 76 2 v' t.row.length (itm t.row)) (hn : ∀ k, v'.ownBlock = some k → w.heap.size ≤ k) (hp : t.places = s.places) (hl : t.last = s.last) (hw : w2 = w1.setCell ⟨P, 2, none⟩ v') :
    Dq (fun i => S i ∨ w.heap.size ≤ i) w2 P t ∧ Keep S w w2 := by
  have b1 := k1.blk h.blk fun f => f
  have hP : P < w.heap.size := (Array.getElem?_eq_some_iff.1 h.blk).1
  subst hw
  refine ⟨⟨v', ?_, ownsRow_kp hrow (keep_cell w1 P 2 v') fun g e (e' : g = P) => ?_, .inl h.sp, fun k e => .inr (hn k e)⟩, (k1.mono fun _ f => f.elim).more (Keep.setCell _ (show S P from h.sp) _)⟩
  · rw [set_blk b1 2 v', hp, hl]
    rfl
  · have := hn g e
    omega
set_option maxRecDepth 100000 in
set_option maxHeartbeats 1000000 in
theorem refPop_any {S : Nat → Prop} {P : Nat} {s : St Int} (w : World) (h : Dq S w P s) (hlen : s.row.length ≤ 65536) :
    Calls Try.prog 29 #[.pointer (some ⟨P, 0, none⟩)] w fun e w' => e = .returned (.tuple #[.string (frT s), .bool (!s.row.isEmpty)]) ∧ Dq (fun i => S i ∨ w.heap.size ≤ i) w' P (s.take 0) ∧ Keep S w w' := by
  have HF := hide (refFront_any w h hlen)
  have HQ := hide h
  obtain ⟨v, h⟩ := h
  have c2 := cell_blk h.blk 2 (v := v) rfl
  cases hr : s.row with
  | nil =>
    have e0 : s.take 0 = s := by cases s; simp only at hr; subst hr; rfl
    rw [hr] at HF
    rw [e0]
    clear h c2 hlen e0
    go_enter Try.func29, Try.ntmps29
    go_wp2_with (go_at_call 31; refine HF.out.mono ?_; rintro e w1 ⟨rfl, hw⟩; have hw := hw.symm; subst hw)
    go_ret2
    exact ⟨rfl, HQ.out.mono fun i e => .inl e, Keep.refl _ _⟩
  | cons e0 r0 =>
    rw [hr] at HF
    obtain ⟨g, cap, hv, _, _⟩ := h.at_ (i := 0) (n := e0.1) (k := e0.2) (by rw [hr]; rfl)
    subst hv
    obtain ⟨a', c', e, _, hcap⟩ := ownsRow_sh h.row
    injection e with ea _ ec
    subst ea ec
    obtain ⟨m, hm⟩ : ∃ m, s.row.length = m := ⟨_, rfl⟩
    have hm0 : 1 ≤ m := by rw [← hm, hr]; simp
    have hrow := h.row
    rw [hm] at c2 hrow hcap
    have ka : Keep (fun _ => False) w (w.alloc (.cells #[] 76)) := Keep.alloc _ _ _
    have hsl := slice_lo_run g m cap 1 hm0 hcap
    simp only [Int.natCast_one] at hsl
    obtain ⟨v', w2, hrun, ho2, k2, nb⟩ := app_run (own_emptyI w) (Src.cut (ownsRow_kp hrow ka fun _ _ f => f) hm.symm hcap 1 (cap - 1) hm0) (itm_one _) (by omega) 47
    obtain ⟨va, vc, hv', _⟩ := ownsRow_sh ho2
    subst hv'
    have hnew : ∀ k, (Value.slice va (0 + (m - 1)) vc).ownBlock = some k → w.heap.size ≤ k := fun k e => by
      rcases nb with e' | e'
      · rw [e'] at e
        have e : some w.heap.size = some k := e
        injection e with e
        omega
      · rw [e'] at e
        injection e with e
        have := ka.size
        omega
    have k12 : Keep (fun _ => False) w w2 := ⟨k2.os.trans ka.os, k2.tape.trans ka.tape, k2.output.trans ka.output, Nat.le_trans ka.size k2.size, fun k hk _ => (k2.block k (Nat.lt_of_lt_of_le hk ka.size) (fun (e : some w.heap.size = some k) => by injection e with e; omega)).trans (ka.block k hk fun f => f)⟩
    have e1 : itm (s.take 0).row = itm (s.row.drop 1) := by show itm (s.row.eraseIdx 0) = _; rw [hr]; rfl
    have HP := hide (h.put (t := s.take 0) k12 (by rw [e1]; have e2 : (s.take 0).row.length = 0 + (m - 1) := (by show (s.row.eraseIdx 0).length = _; rw [hr]; rw [hr] at hm; simp at hm ⊢; omega); rw [e2]; simpa using ho2) hnew rfl rfl rfl)
    have b2 := k12.blk h.blk fun f => f
    have f2 := frozen_blk b2 2
    have d2 := cell_blk b2 2 (v := .slice (some ⟨g, 0, none⟩) s.row.length cap) rfl
    have c2a := ka.cell c2 fun f => f
    have HR := hide hrun
    clear h hrow hm hr hrun ho2 k2 nb hnew k12 e1 b2
    go_enter Try.func29, Try.ntmps29
    go_wp2_with (first
      | (go_at_call 31; refine HF.out.mono ?_; rintro e w1 ⟨rfl, hw⟩; have hw := hw.symm; subst hw)
      | (at_builtin; refine Lib.wpList_append_run _ rfl _ _ _ _ rfl _ _ rfl rfl _ _ HR.out ?_))
    go_ret2
    have hp := HP.out
    rw [Nat.zero_add] at hp
    exact ⟨rfl, hp⟩
end Qu
end Go.Proofs.Ytdokpaljlpfcjaa
