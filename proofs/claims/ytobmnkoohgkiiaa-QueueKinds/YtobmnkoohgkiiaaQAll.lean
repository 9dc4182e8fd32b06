/- Package queue: All, and what it goes through. -/
import Derived.Test.YtobmnkoohgkiiaaQPus
import Derived.Test.YtobmnkoohgkiiaaWRng
namespace Go.Proofs.Ytobmnkoohgkiiaa
namespace Qu
open Go.RowKit
attribute [local go_sem] Oper.semAt_some

theorem RowAt.ofOwns {α : Type} {K : Kd α} {w : World} {base : Nat} {v : Value} {r : List (Nat × α)} (h : w.ownsRow base K.te (K.c + 1) v r.length (flat K r)) : RowAt K (fun i => base ≤ i) w v r := by
  rcases h.2 with ⟨e1, e2⟩ | ⟨g, cap, cur, e1, e2, e3, e4, e5, e6, e7⟩
  · exact .inl ⟨e1, List.eq_nil_of_length_eq_zero e2⟩
  · refine .inr ⟨g, 0, cap, e1, e2, ⟨cur, e3⟩, e4, e5, fun j u hu => ?_, there_blk e3 (by omega)⟩
    rw [← e7, List.getElem?_take] at hu
    split at hu
    · rw [Nat.zero_add]; exact cell_blk e3 j (by simpa using hu)
    · cases hu

abbrev TI := Int
abbrev TS := ByteArray

set_option maxRecDepth 100000 in
set_option maxHeartbeats 4000000 in
theorem cloneI {S : Nat → Prop} {v : Value} {r : List (Nat × _)} (w : World) (h : RowAt KI S w v r) (hl : r.length ≤ 65536) :
    Calls Try.prog 41 #[v] w fun e w' => ∃ a c, e = .returned (.slice a r.length c) ∧ RowAt KI (fun i => w.heap.size ≤ i) w' (.slice a r.length c) r ∧ Keep (fun _ => False) w w' := by
  rcases h with ⟨rfl, rfl⟩ | ⟨g, off, cap, rfl, _, _, hc, _, hra, _⟩
  · have hq := fun w => Lib.run_eql_slice_nil (P := Try.prog) w 64 91 none 0 0 0 0 Try.underlying64
    go_enter Try.func41, Try.ntmps41
    go_wp2
    go_ret
    exact ⟨none, 0, rfl, .inl ⟨rfl, rfl⟩, Keep.refl _ _⟩
  · have hq := fun w => Lib.run_eql_slice_nil (P := Try.prog) w 64 91 (some ⟨g, off, none⟩) r.length cap 0 0 Try.underlying64
    obtain ⟨i0, hi0, hz0, hz1, hz2⟩ := info_parts infoI
    have HI := hide (And.intro hi0 (And.intro hz0 (And.intro hz1 hz2)))
    have HR := hide hra
    clear hi0 hz0 hz1 hz2 hra
    go_enter Try.func41, Try.ntmps41
    go_wp2_with (at_builtin; refine wpList_append_own _ rfl _ _ 64 rfl w.heap.size 91 i0 (.agg #[.int .i64 0, .int .i64 0]) 2 _ Try.underlying64 HI.out.1 HI.out.2.1 HI.out.2.2.1 HI.out.2.2.2 rfl (by decide) _ _ _ rfl (World.ownsRow_made w #[] 0 (Nat.le_refl _) (Nat.zero_le _) rfl) ⟨g, off, none⟩ r.length cap (flat KI r) rfl ?qc1 ?qc2 ?qc3 ?qc4 ?qc5 ?qc6 ?_)
    case qc1 => exact flat_length okI.cln r
    case qc2 =>
      intro j u hj
      rw [Addr.add_mid]
      exact (Keep.alloc (fun _ => False) w _).cell (HR.out j u hj) fun f => f
    case qc3 => exact flat_one okI r
    case qc4 => unfold maxLen; omega
    case qc5 => omega
    case qc6 => simp
    intro v' w1 hown hgrow hnil
    have hown2 : w1.ownsRow w.heap.size KI.te (KI.c + 1) v' r.length (flat KI r) := by
      have h2 : w1.ownsRow w.heap.size 91 2 v' r.length (flat KI r) := by simpa using hown
      exact h2
    obtain ⟨a', c', rfl⟩ := ownsRow_shape hown2
    have HO := hide hown2
    have HG := hide hgrow
    clear hown hown2 hgrow hnil
    go_wp2
    go_ret
    exact ⟨a', c', rfl, RowAt.ofOwns HO.out, (Keep.alloc _ _ _).grownNew HG.out fun k hk => .inr (by simp [Value.ownBlock] at hk; omega)⟩

/-- what All answers -/
def AllsI (w : World) (r : List (Nat × TI)) (e : Ending) (w' : World) : Prop :=
  ∃ B a c, e = .returned (.func (.func 42) #[] #[.pointer (some ⟨B, 0, none⟩)]) ∧ w.heap.size ≤ B ∧ w'.heap[B]? = some (.cells #[.slice a r.length c] 64 (0, 0)) ∧ RowAt KI (fun i => w.heap.size ≤ i) w' (.slice a r.length c) r ∧ Keep (fun _ => False) w w'

set_option maxRecDepth 100000 in
set_option maxHeartbeats 4000000 in
theorem allI {S : Nat → Prop} {P m : Nat} {v : Value} {s : St _} (w : World) (h : QIn KI S w P m v s) (hl : s.row.length ≤ 65536) :
    Calls Try.prog 17 #[.pointer (some ⟨P, 0, none⟩)] w (AllsI w s.row) := by
  have CL := hide (cloneI w h.row hl)
  have c3 := h.c3
  obtain ⟨a, cap, rfl, hc, _⟩ := h.row.shape
  clear h
  go_enter Try.func17, Try.ntmps17
  go_wp2_with (go_at_call 41; refine CL.out.mono ?_; rintro e w1 ⟨a1, c1, rfl, r1, k1⟩; have R1 := hide r1; have K1 := hide k1; clear r1 k1)
  go_ret
  have kb : Keep (fun _ => False) w1 (w1.alloc (.cells #[.slice a1 s.row.length c1] 64)) := Keep.alloc _ _ _
  exact ⟨w1.heap.size, a1, c1, rfl, K1.out.size, heap_alloc_new _ _, R1.out.far kb (fun _ _ f => f), K1.out.more kb⟩
set_option maxRecDepth 100000 in
set_option maxHeartbeats 4000000 in
theorem cloneS {S : Nat → Prop} {v : Value} {r : List (Nat × _)} (w : World) (h : RowAt KS S w v r) (hl : r.length ≤ 65536) :
    Calls Try.prog 43 #[v] w fun e w' => ∃ a c, e = .returned (.slice a r.length c) ∧ RowAt KS (fun i => w.heap.size ≤ i) w' (.slice a r.length c) r ∧ Keep (fun _ => False) w w' := by
  rcases h with ⟨rfl, rfl⟩ | ⟨g, off, cap, rfl, _, _, hc, _, hra, _⟩
  · have hq := fun w => Lib.run_eql_slice_nil (P := Try.prog) w 68 95 none 0 0 0 0 Try.underlying68
    go_enter Try.func43, Try.ntmps43
    go_wp2
    go_ret
    exact ⟨none, 0, rfl, .inl ⟨rfl, rfl⟩, Keep.refl _ _⟩
  · have hq := fun w => Lib.run_eql_slice_nil (P := Try.prog) w 68 95 (some ⟨g, off, none⟩) r.length cap 0 0 Try.underlying68
    obtain ⟨i0, hi0, hz0, hz1, hz2⟩ := info_parts infoS
    have HI := hide (And.intro hi0 (And.intro hz0 (And.intro hz1 hz2)))
    have HR := hide hra
    clear hi0 hz0 hz1 hz2 hra
    go_enter Try.func43, Try.ntmps43
    go_wp2_with (at_builtin; refine wpList_append_own _ rfl _ _ 68 rfl w.heap.size 95 i0 (.agg #[.int .i64 0, .string ⟨#[]⟩]) 2 _ Try.underlying68 HI.out.1 HI.out.2.1 HI.out.2.2.1 HI.out.2.2.2 rfl (by decide) _ _ _ rfl (World.ownsRow_made w #[] 0 (Nat.le_refl _) (Nat.zero_le _) rfl) ⟨g, off, none⟩ r.length cap (flat KS r) rfl ?qc1 ?qc2 ?qc3 ?qc4 ?qc5 ?qc6 ?_)
    case qc1 => exact flat_length okS.cln r
    case qc2 =>
      intro j u hj
      rw [Addr.add_mid]
      exact (Keep.alloc (fun _ => False) w _).cell (HR.out j u hj) fun f => f
    case qc3 => exact flat_one okS r
    case qc4 => unfold maxLen; omega
    case qc5 => omega
    case qc6 => simp
    intro v' w1 hown hgrow hnil
    have hown2 : w1.ownsRow w.heap.size KS.te (KS.c + 1) v' r.length (flat KS r) := by
      have h2 : w1.ownsRow w.heap.size 95 2 v' r.length (flat KS r) := by simpa using hown
      exact h2
    obtain ⟨a', c', rfl⟩ := ownsRow_shape hown2
    have HO := hide hown2
    have HG := hide hgrow
    clear hown hown2 hgrow hnil
    go_wp2
    go_ret
    exact ⟨a', c', rfl, RowAt.ofOwns HO.out, (Keep.alloc _ _ _).grownNew HG.out fun k hk => .inr (by simp [Value.ownBlock] at hk; omega)⟩

/-- what All answers -/
def AllsS (w : World) (r : List (Nat × TS)) (e : Ending) (w' : World) : Prop :=
  ∃ B a c, e = .returned (.func (.func 44) #[] #[.pointer (some ⟨B, 0, none⟩)]) ∧ w.heap.size ≤ B ∧ w'.heap[B]? = some (.cells #[.slice a r.length c] 68 (0, 0)) ∧ RowAt KS (fun i => w.heap.size ≤ i) w' (.slice a r.length c) r ∧ Keep (fun _ => False) w w'

set_option maxRecDepth 100000 in
set_option maxHeartbeats 4000000 in
theorem allS {S : Nat → Prop} {P m : Nat} {v : Value} {s : St _} (w : World) (h : QIn KS S w P m v s) (hl : s.row.length ≤ 65536) :
    Calls Try.prog 19 #[.pointer (some ⟨P, 0, none⟩)] w (AllsS w s.row) := by
  have CL := hide (cloneS w h.row hl)
  have c3 := h.c3
  obtain ⟨a, cap, rfl, hc, _⟩ := h.row.shape
  clear h
  go_enter Try.func19, Try.ntmps19
  go_wp2_with (go_at_call 43; refine CL.out.mono ?_; rintro e w1 ⟨a1, c1, rfl, r1, k1⟩; have R1 := hide r1; have K1 := hide k1; clear r1 k1)
  go_ret
  have kb : Keep (fun _ => False) w1 (w1.alloc (.cells #[.slice a1 s.row.length c1] 68)) := Keep.alloc _ _ _
  exact ⟨w1.heap.size, a1, c1, rfl, K1.out.size, heap_alloc_new _ _, R1.out.far kb (fun _ _ f => f), K1.out.more kb⟩

end Qu
end Go.Proofs.Ytobmnkoohgkiiaa
