/- Package journal: lay: parts behind one another, in new memory. -/
import Derived.Test.YthfnpbkclmkkeaaJNum
import Derived.Test.YthfnpbkclmkkeaaDLay
import Derived.Laws.MakeOwn
namespace Go.Proofs.Ythfnpbkclmkkeaa
open Go.RowKit Go.Lib

/-- a value that reads as bytes -/
def RdV (w : World) (v : Value) (l : List Nat) : Prop := ∃ a n c, v = .slice a n c ∧ Rd w a n l ∧ (a = none → c = 0)
/-- what a list of lists of bytes reads -/
def RdL (w : World) (a : Option Addr) (n : Nat) (ps : List (List Nat)) : Prop :=
  n = ps.length ∧ n < 281474976710656 ∧ (n = 0 ∨ ∃ g off, a = some ⟨g, off, none⟩ ∧ ∀ j (h : j < ps.length), ∃ v, w.cell? ⟨g, off + j, none⟩ = some v ∧ RdV w v ps[j])

theorem RdV.stay {w w' : World} {v : Value} {l : List Nat} {S : Nat → Prop} (h : RdV w v l) (hk : Keep S w w') (hS : ∀ b, v.ownBlock = some b → ¬ S b) : RdV w' v l := by
  obtain ⟨a, n, c, rfl, h1, h2⟩ := h
  exact ⟨a, n, c, rfl, h1.stay hk fun b off e => hS b (by rw [e]; rfl), h2⟩
theorem RdV.keep {w w' : World} {v : Value} {l : List Nat} (h : RdV w v l) (hk : Keep (fun _ => False) w w') : RdV w' v l := h.stay hk fun _ _ f => f
theorem RdL.keep {w w' : World} {a : Option Addr} {n : Nat} {ps : List (List Nat)} (h : RdL w a n ps) (hk : Keep (fun _ => False) w w') : RdL w' a n ps := by
  obtain ⟨h1, h2, h3⟩ := h
  refine ⟨h1, h2, ?_⟩
  rcases h3 with h3 | ⟨g, off, rfl, h3⟩
  · exact .inl h3
  · refine .inr ⟨g, off, rfl, fun j hj => ?_⟩
    obtain ⟨v, e1, e2⟩ := h3 j hj
    exact ⟨v, hk.cell e1 fun f => f, e2.keep hk⟩
theorem Row.rdV {w : World} {v : Value} {l : List Nat} (h : Row w v l) (hs : l.length < 281474976710656) : RdV w v l := by
  obtain ⟨a, c, rfl, h1, h2, _⟩ := h.rd hs
  exact ⟨a, _, c, rfl, h1, h2⟩

/-- what is laid: a row of new memory -/
def LaidJ (w : World) (l : List Nat) (e : Ending) (w' : World) : Prop :=
  ∃ v, e = .returned v ∧ Row w' v l ∧ Keep (fun _ => False) w w' ∧ ∀ g, v.ownBlock = some g → w.heap.size ≤ g

theorem flatten_snoc (ps : List (List Nat)) (q : Nat) (h : q < ps.length) : (ps.take (q + 1)).flatten = (ps.take q).flatten ++ ps[q] := by
  rw [List.take_succ_eq_append_getElem h, List.flatten_append]; simp
theorem flatten_le (ps : List (List Nat)) (q : Nat) : (ps.take q).flatten.length ≤ ps.flatten.length := by
  conv => rhs; rw [← List.take_append_drop q ps, List.flatten_append, List.length_append]
  omega

set_option maxHeartbeats 2000000 in
set_option maxRecDepth 10000 in
theorem jlay_any (a : Option Addr) (n c : Nat) (ps : List (List Nat)) (w : World) (h : RdL w a n ps) (hs : ps.flatten.length ≤ 70368744177664) :
    Calls Try.prog 43 #[.slice a n c] w (LaidJ w ps.flatten) := by
  obtain ⟨i0, hi, hz0, hz1, hz2⟩ := info_parts info_u8
  obtain ⟨hn, hb, h⟩ := h
  have HN := hide hn
  have HH := hide h
  have HS := hide hs
  have HI := hide (And.intro hi (And.intro hz0 (And.intro hz1 hz2)))
  clear hn h hs hi hz0 hz1 hz2
  go_enter Try.func43, Try.ntmps43
  go_wp2
  go_loop [3, 11] (fun r iv => ∃ q : Nat, q ≤ n ∧ iv = .int .i64 (q : Nat) ∧ r = .int .i64 ((ps.take q).flatten.length : Nat)) (fun _ iv => n - (RowKit.intOf iv).toNat)
  case atStart => exact ⟨0, Nat.zero_le _, rfl, rfl⟩
  case round =>
    obtain ⟨q, hq, rfl, rfl⟩ := hrel
    by_cases hlt : q < n
    · have hqp : q < ps.length := by have := HN.out; omega
      obtain ⟨g, off, rfl, hrow⟩ := HH.out.resolve_left (by omega)
      obtain ⟨v, hc, av, nv, cv, rfl, hrd, h0⟩ := hrow q hqp
      have hfl := flatten_le ps q
      have hsn := flatten_snoc ps q hqp
      have hfl2 := flatten_le ps (q + 1)
      have hnv := hrd.1
      have HSn : Hid ((ps.take (q + 1)).flatten.length = (ps.take q).flatten.length + nv) := by show _ = _; rw [hsn, List.length_append, hnv]
      have hss := HS.out
      have hbd : (ps.take q).flatten.length + nv ≤ 70368744177664 := by have := HSn.out; omega
      have HRd := hide hrd
      generalize (ps.take q).flatten.length = z at *
      clear hrow hfl hsn hfl2 hnv hss hrd h0
      go_wp2
      exact ⟨⟨q + 1, by omega, by simp, by rw [HSn.out]; simp⟩, by simp [RowKit.intOf]; omega⟩
    · obtain rfl : q = n := by omega
      obtain ⟨z, hz⟩ : ∃ z, z = ps.flatten.length := ⟨_, rfl⟩
      have hzs : z ≤ 70368744177664 := by rw [hz]; exact HS.out
      have htk : (ps.take q).flatten.length = z := by rw [hz, List.take_of_length_le (by have := HN.out; omega)]
      rw [htk]
      obtain ⟨w1, hmk, hown, hgr⟩ := run_make_own (P := Try.prog) w w.heap.size 32 5 i0 (.int .u8 0) 1 Try.underlying32 HI.out.1 HI.out.2.1 HI.out.2.2.1 .i64 .i64 z (by rw [HI.out.2.2.2]; omega) (by unfold maxLen; omega) (Nat.le_refl _)
      have HOwn := hide hown
      have HK1 : Hid (Keep (fun _ => False) w w1) := Keep.grown hgr fun k e => by cases e
      have HZ := hide hz
      clear hown hgr hz htk
      go_wp2
      go_loopw [6, 24] (fun v iv wr => ∃ q' : Nat, q' ≤ q ∧ iv = .int .i64 (q' : Nat) ∧ wr.ownsRow w.heap.size 5 1 v (ps.take q').flatten.length (B8 (ps.take q').flatten) ∧ Hid (Keep (fun _ => False) w wr ∧ ∀ d ∈ (ps.take q').flatten, d < 256)) (fun _ iv _ => q - (RowKit.intOf iv).toNat)
      case atStart => exact ⟨0, Nat.zero_le _, rfl, HOwn.out, HK1.out, fun d hd => by cases hd⟩
      case round =>
        obtain ⟨q', hq', rfl, hrow, HL⟩ := hrel
        by_cases hlt' : q' < q
        · have hqp : q' < ps.length := by have := HN.out; omega
          obtain ⟨g, off, rfl, hrows⟩ := HH.out.resolve_left (by omega)
          obtain ⟨v, hc0, av, nv, cv, rfl, hrd, h0⟩ := hrows q' hqp
          have hc : wr.cell? ⟨g, off + q', none⟩ = some (.slice av nv cv) := HL.out.1.cell hc0 fun f => f
          have hrd' : Rd wr av nv ps[q'] := hrd.stay (S := fun _ => False) HL.out.1 fun _ _ _ f => f
          have hfl2 := flatten_le ps (q' + 1)
          have hsn := flatten_snoc ps q' hqp
          have hll : (ps.take (q' + 1)).flatten.length = (ps.take q').flatten.length + nv := by rw [hsn, List.length_append, hrd.1]
          have hbd : (ps.take q').flatten.length + nv ≤ 70368744177664 := by have := HZ.out; omega
          have HSn := hide hsn
          have HRd := hide hrd'
          have H0 := hide h0
          have HBd := hide hbd
          have HRw := hide hrow
          clear hrows hc0 hfl2 hll hbd hsn hrd hrd' h0 hrow
          go_wp2_with (at_builtin; refine wpList_append_rd rfl _ _ rfl _ (ps.take q').flatten w.heap.size rfl HRw.out av nv cv _ rfl HRd.out H0.out (by have := HBd.out; omega) HL.out.1.size ?_; intro v' w2 hown' hgr' hnb)
          have HK2 : Hid (Keep (fun _ => False) w w2) := HL.out.1.grownNew hgr' fun k e => .inr (HRw.out.lt k e).1
          have HD2 : Hid (∀ d ∈ (ps.take (q' + 1)).flatten, d < 256) := by
            intro d hd
            rw [HSn.out] at hd
            exact (List.mem_append.1 hd).elim (HL.out.2 d) (HRd.out.2.2.1 d)
          rw [← HSn.out] at hown'
          refine ⟨⟨q' + 1, by omega, by simp, hown', HK2.out, HD2.out⟩, by simp [RowKit.intOf]; omega⟩
        · obtain rfl : q' = q := by omega
          go_wp2
          go_ret
          have htk : ps.take q' = ps := List.take_of_length_le (by have := HN.out; omega)
          rw [htk] at hrow
          refine ⟨_, rfl, ⟨ownsRow_base hrow (Nat.zero_le _), ?_⟩, HL.out.1, fun g hg => (hrow.lt g hg).1⟩
          have := HL.out.2
          rw [htk] at this
          exact this

end Go.Proofs.Ythfnpbkclmkkeaa
