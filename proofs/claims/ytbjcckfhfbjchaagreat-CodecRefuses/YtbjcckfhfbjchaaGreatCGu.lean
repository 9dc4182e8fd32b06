/- Codec: contracts for the laws' walks (written by cgu_gen.py). -/
import Derived.Test.YtbjcckfhfbjchaaGreatCGt
import Derived.Test.YtbjcckfhfbjchaaGreatCGr
import Derived.Test.YtbjcckfhfbjchaaGreatCEy
namespace Go.Proofs.YtbjcckfhfbjchaaGreat
namespace Cd
open Go.RowKit Go.Deep

theorem rd_front {w : World} {a : Option Addr} {n m : Nat} {l : List Nat} (h : Rd w a n l) (hm : m ≤ n) : Rd w a m (l.take m) := by
  obtain ⟨r1, r2, r3, r4⟩ := h
  refine ⟨by rw [List.length_take]; omega, by omega, fun d hd => r3 d (List.mem_of_mem_take hd), ?_⟩
  rcases r4 with r4 | ⟨b, off, e, hc⟩
  · exact .inl (by omega)
  · refine .inr ⟨b, off, e, fun i hi => ?_⟩
    rw [hc i (by omega), List.getD_eq_getElem?_getD, List.getD_eq_getElem?_getD, List.getElem?_take, if_pos hi]
theorem slice_front (a : Option Addr) (n m c : Nat) (h : m ≤ c) (w : World) :
    (Instr.slice 24 (.slice a n c) none (some (.int .i64 (m : Int))) none).run Tryz.prog w = .ok (.slice a m c) w := by
  have h2 : ¬ (m : Int) < 0 := by omega
  have h3 : ¬ (c : Int) < (m : Int) := by omega
  have h : (Instr.slice 24 (.slice a n c) none (some (.int .i64 (m : Int))) none).run Tryz.prog w = .ok (.slice (if c = 0 then a else a.map (·.add 0)) m c) w := by go_simp
  rw [h]
  cases a <;> simp [add0]
/-- what a put gives: a row of bytes that were not there -/
def OutB (L : List Nat) (n : Nat) (w w' : World) (en : Ending) : Prop := ∃ a c, en = .returned (.tuple #[.slice a n c, .int .i64 0]) ∧ Rd w' a n L ∧ (a = none → c = 0) ∧ n ≤ c ∧ Below w.heap.size w w'
theorem opB_out {d : Ov} {n : Nat} (hk : OvK d) (hn : (opBs d).length = n) (w : World) (v : Value) (h : OvV d w v) : Calls Tryz.prog 11 #[v] w fun en w' => OutB (opBs d) n w w' en := by
  have := opS_ok hk.ok
  refine (opBytes_good h hk).mono ?_
  rintro e w' ⟨x, rfl, ho, hb, hf⟩
  obtain ⟨a, c, rfl, hr, h0, hc, -⟩ := ownsRow_rd ho hf (by omega)
  rw [hn] at hr hc ⊢
  exact ⟨a, c, rfl, hr, h0, hc, hb⟩
theorem plB_out {d : Pv} {n : Nat} (hk : PvK d) (hm : may d = true) (hn : (plBs d).length = n) (w : World) (v : Value) (h : PlV d w v) : Calls Tryz.prog 12 #[v] w fun en w' => OutB (plBs d) n w w' en := by
  have := plS_ok hm
  refine (planBytes_good h hk hm).mono ?_
  rintro e w' ⟨x, rfl, ho, hb, hf⟩
  obtain ⟨a, c, rfl, hr, h0, hc, -⟩ := ownsRow_rd ho hf (by omega)
  rw [hn] at hr hc ⊢
  exact ⟨a, c, rfl, hr, h0, hc, hb⟩
theorem rop_back {d : Ov} (hk : OvK d) (a : Option Addr) (n c : Nat) (w : World) (h : Rd w a n (opBs d)) (h0 : a = none → c = 0) :
    Calls Tryz.prog 14 #[.slice a n c] w fun en w' => ∃ v, en = .returned (.tuple #[v, .int .i64 0]) ∧ OvV d w' v ∧ Below w.heap.size w w' := by
  obtain ⟨h1, h2⟩ := op_back hk.ok
  refine (codecReadOp_any a n c (opBs d) w h h0).mono ?_
  rintro e w' ⟨v, rfl, -, hv, -, hb⟩
  have hv := hv h1
  rw [h2] at hv
  rw [if_pos h1]
  exact ⟨v, rfl, hv, hb⟩
theorem rpl_back {d : Pv} (hm : may d = true) (a : Option Addr) (n c : Nat) (w : World) (h : Rd w a n (plBs d)) (h0 : a = none → c = 0) :
    Calls Tryz.prog 15 #[.slice a n c] w fun en w' => ∃ v, en = .returned (.tuple #[v, .int .i64 0]) ∧ PlV d w' v ∧ Below w.heap.size w w' := by
  obtain ⟨h1, h2⟩ := pl_back hm
  refine (ReadPlan_any a n c (plBs d) w h h0).mono ?_
  rintro e w' ⟨v, rfl, -, hv, -, hb⟩
  have hv : PlV (planVal (newR (plBs d))) w' v := hv h1
  rw [h2] at hv
  rw [if_pos h1]
  exact ⟨v, rfl, hv, hb⟩
theorem rop_no {l : List Nat} (hl : opE l ≠ 0) (a : Option Addr) (n c : Nat) (w : World) (h : Rd w a n l) (h0 : a = none → c = 0) :
    Calls Tryz.prog 14 #[.slice a n c] w fun en w' => en = .returned (.tuple #[.agg #[.int .i64 0, .string ⟨#[]⟩, .int .i64 0, .slice none 0 0, .string ⟨#[]⟩, .int .i64 0, .int .i64 0, .int .i64 0, .slice none 0 0, .int .i64 0, .int .u64 0, .int .i64 0], .int .i64 121]) ∧ Below w.heap.size w w' := by
  refine (codecReadOp_any a n c l w h h0).mono ?_
  rintro e w' ⟨v, rfl, -, -, hv, hb⟩
  obtain rfl := hv hl
  rw [if_neg hl]
  exact ⟨rfl, hb⟩
theorem rpl_no {l : List Nat} (hl : planE l ≠ 0) (a : Option Addr) (n c : Nat) (w : World) (h : Rd w a n l) (h0 : a = none → c = 0) :
    Calls Tryz.prog 15 #[.slice a n c] w fun en w' => en = .returned (.tuple #[.agg #[.string ⟨#[]⟩, .int .i64 0, .slice none 0 0], .int .i64 120]) ∧ Below w.heap.size w w' := by
  refine (ReadPlan_any a n c l w h h0).mono ?_
  rintro e w' ⟨v, rfl, -, -, hv, hb⟩
  obtain rfl := hv hl
  rw [if_neg hl]
  exact ⟨rfl, hb⟩
theorem like_same {d : Ov} (hk : OvK d) (w : World) (u v : Value) (h : OvV d w u) (g : OvV d w v) :
    Calls Tryz.prog 16 #[u, v] w fun en w' => en = .returned (.bool true) ∧ Below w.heap.size w w' := by
  refine (like_val h hk g hk).mono ?_
  rintro e w' ⟨⟨b, rfl, hb⟩, k⟩
  obtain rfl := hb.2 rfl
  exact ⟨rfl, k.below (Nat.le_refl _) (fun _ f => f.elim)⟩
theorem alike_same {d : Pv} (hk : PvK d) (w : World) (u v : Value) (h : PlV d w u) (g : PlV d w v) :
    Calls Tryz.prog 17 #[u, v] w fun en w' => en = .returned (.bool true) ∧ Below w.heap.size w w' := by
  refine (alike_val h hk g hk).mono ?_
  rintro e w' ⟨⟨b, rfl, hb⟩, k⟩
  obtain rfl := hb.2 rfl
  exact ⟨rfl, k.below (Nat.le_refl _) (fun _ f => f.elim)⟩
end Cd
end Go.Proofs.YtbjcckfhfbjchaaGreat
