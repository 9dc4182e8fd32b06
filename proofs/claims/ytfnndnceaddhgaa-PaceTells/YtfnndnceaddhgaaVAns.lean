/- The law's answered. -/
import Derived.Test.YtfnndnceaddhgaaVBdd
import Derived.Test.YtfnndnceaddhgaaVRfJ
import Derived.Laws.Rows
namespace Go.Proofs.Ytfnndnceaddhgaa
open Go.RowKit

def V.Ak.In (q : V.Ak) : Prop := V.i64 q.kind ∧ V.i64 q.k ∧ V.i64 q.run ∧ V.i64 q.node ∧ V.i64 q.att

set_option maxRecDepth 100000 in
set_option maxHeartbeats 4000000 in
theorem answered_0 (q : V.Ak) (qs : List V.Nd) (w : World) (hP : V.pk q.kind 4 = 0) (hI : V.Ak.In q) (hqs : RdN w q.sl.1 q.sl.2.1 qs) (hsm : q.sl.2.1 ≤ 1172812402926) :
    Calls Try.prog 12 #[.agg q.row.toArray] w fun e w' => e = .returned (.bool true) ∧ Below w.heap.size w w' := by
  have PK := hide (fun w => pick_any q.kind 4 hI.1.1 hI.1.2 (by decide) (by decide) w)
  rw [hP] at PK
  have BD := hide (fun w h => bounded_any q qs w h hsm)
  clear hP
  obtain ⟨kd, bs, ms, kk, lu, rn, no, att, nd, nm, dl, ⟨sa, sn, sc⟩, gap, ahead⟩ := q
  obtain ⟨i0, i1, i2, i3, i4⟩ := hI
  simp only at i0 i1 i2 i3 i4
  have DA := hide (fun w => delay_all bs ms kk i1.2 w)
  have DB := hide (fun w => rdelay_all bs ms kk i1.2 w)
  obtain ⟨nq, la, bu, cl, be, ba, ca, ji, ⟨ne1, ne2, ne3⟩, ⟨af1, af2, af3⟩⟩ := nd
  simp only [V.Ak.row, V.Nd.row, List.cons_append, List.nil_append] at *
  generalize V.delI bs ms kk = rd_ at *
  obtain ⟨dt, dc⟩ := rd_
  have X0 := hide (show (w.alloc (.cells #[.int .i64 kd, .int .i64 bs, .int .i64 ms, .int .i64 kk, .int .u64 (lu : Int), .int .i64 rn, .int .i64 no, .int .i64 att, .string nq, .int .i64 la, .int .i64 bu, .int .i64 cl, .int .i64 be, .int .i64 ba, .int .i64 ca, .int .i64 ji, .slice ne1 ne2 ne3, .slice af1 af2 af3, .string nm, .int .i64 dl, .slice sa sn sc, .int .i64 gap, .int .i64 ahead] 36)).heap[w.heap.size]? = some (.cells #[.int .i64 kd, .int .i64 bs, .int .i64 ms, .int .i64 kk, .int .u64 (lu : Int), .int .i64 rn, .int .i64 no, .int .i64 att, .string nq, .int .i64 la, .int .i64 bu, .int .i64 cl, .int .i64 be, .int .i64 ba, .int .i64 ca, .int .i64 ji, .slice ne1 ne2 ne3, .slice af1 af2 af3, .string nm, .int .i64 dl, .slice sa sn sc, .int .i64 gap, .int .i64 ahead] 36 (0, 0)) from heap_alloc_new _ _)
  have K0 := hide ((Below.refl w.heap.size w).alloc (Nat.le_refl _) (.cells #[.int .i64 kd, .int .i64 bs, .int .i64 ms, .int .i64 kk, .int .u64 (lu : Int), .int .i64 rn, .int .i64 no, .int .i64 att, .string nq, .int .i64 la, .int .i64 bu, .int .i64 cl, .int .i64 be, .int .i64 ba, .int .i64 ca, .int .i64 ji, .slice ne1 ne2 ne3, .slice af1 af2 af3, .string nm, .int .i64 dl, .slice sa sn sc, .int .i64 gap, .int .i64 ahead] 36))
  have Q0 := hide (hqs.keep ((Below.refl w.heap.size w).alloc (Nat.le_refl _) (.cells #[.int .i64 kd, .int .i64 bs, .int .i64 ms, .int .i64 kk, .int .u64 (lu : Int), .int .i64 rn, .int .i64 no, .int .i64 att, .string nq, .int .i64 la, .int .i64 bu, .int .i64 cl, .int .i64 be, .int .i64 ba, .int .i64 ca, .int .i64 ji, .slice ne1 ne2 ne3, .slice af1 af2 af3, .string nm, .int .i64 dl, .slice sa sn sc, .int .i64 gap, .int .i64 ahead] 36)))
  have Z0 := hide (show (w.alloc (.cells #[.int .i64 kd, .int .i64 bs, .int .i64 ms, .int .i64 kk, .int .u64 (lu : Int), .int .i64 rn, .int .i64 no, .int .i64 att, .string nq, .int .i64 la, .int .i64 bu, .int .i64 cl, .int .i64 be, .int .i64 ba, .int .i64 ca, .int .i64 ji, .slice ne1 ne2 ne3, .slice af1 af2 af3, .string nm, .int .i64 dl, .slice sa sn sc, .int .i64 gap, .int .i64 ahead] 36)).heap.size = w.heap.size + 1 by simp)
  clear hqs
  go_enter Try.func12, Try.ntmps12
  go_wp2_with fail
  go_at_call 14
  refine (PK.out _).mono ?_
  rintro e w1 ⟨rfl, hw1⟩
  subst hw1
  generalize w.alloc (.cells #[.int .i64 kd, .int .i64 bs, .int .i64 ms, .int .i64 kk, .int .u64 (lu : Int), .int .i64 rn, .int .i64 no, .int .i64 att, .string nq, .int .i64 la, .int .i64 bu, .int .i64 cl, .int .i64 be, .int .i64 ba, .int .i64 ca, .int .i64 ji, .slice ne1 ne2 ne3, .slice af1 af2 af3, .string nm, .int .i64 dl, .slice sa sn sc, .int .i64 gap, .int .i64 ahead] 36) = w1 at *
  have c1 := cell_blk X0.out 1 (v := .int .i64 bs) rfl
  have c2 := cell_blk X0.out 2 (v := .int .i64 ms) rfl
  have c3 := cell_blk X0.out 3 (v := .int .i64 kk) rfl
  go_wp2_with fail
  go_at_call 15
  refine (DA.out _).mono ?_
  rintro e w2 ⟨rfl, rfl⟩
  go_wp2_with fail
  go_at_call 19
  refine (DB.out _).mono ?_
  rintro e w2 ⟨rfl, rfl⟩
  go_wp2_with fail
  go_ret
  exact ⟨rfl, K0.out⟩

set_option maxRecDepth 100000 in
set_option maxHeartbeats 4000000 in
theorem answered_1 (q : V.Ak) (qs : List V.Nd) (w : World) (hP : V.pk q.kind 4 = 1) (hI : V.Ak.In q) (hqs : RdN w q.sl.1 q.sl.2.1 qs) (hsm : q.sl.2.1 ≤ 1172812402926) :
    Calls Try.prog 12 #[.agg q.row.toArray] w fun e w' => e = .returned (.bool true) ∧ Below w.heap.size w w' := by
  have PK := hide (fun w => pick_any q.kind 4 hI.1.1 hI.1.2 (by decide) (by decide) w)
  rw [hP] at PK
  have BD := hide (fun w h => bounded_any q qs w h hsm)
  clear hP
  obtain ⟨kd, bs, ms, kk, lu, rn, no, att, nd, nm, dl, ⟨sa, sn, sc⟩, gap, ahead⟩ := q
  obtain ⟨i0, i1, i2, i3, i4⟩ := hI
  simp only at i0 i1 i2 i3 i4
  have JA := hide (fun w => jitter_all lu rn no att ms i2.2 i3.2 i4.2 w)
  have JB := hide (fun w => rjitter_all lu rn no att ms i2.2 i3.2 i4.2 w)
  obtain ⟨nq, la, bu, cl, be, ba, ca, ji, ⟨ne1, ne2, ne3⟩, ⟨af1, af2, af3⟩⟩ := nd
  simp only [V.Ak.row, V.Nd.row, List.cons_append, List.nil_append] at *
  generalize V.jitI lu rn no att ms = rj_ at *
  obtain ⟨jt, jc⟩ := rj_
  have X0 := hide (show (w.alloc (.cells #[.int .i64 kd, .int .i64 bs, .int .i64 ms, .int .i64 kk, .int .u64 (lu : Int), .int .i64 rn, .int .i64 no, .int .i64 att, .string nq, .int .i64 la, .int .i64 bu, .int .i64 cl, .int .i64 be, .int .i64 ba, .int .i64 ca, .int .i64 ji, .slice ne1 ne2 ne3, .slice af1 af2 af3, .string nm, .int .i64 dl, .slice sa sn sc, .int .i64 gap, .int .i64 ahead] 36)).heap[w.heap.size]? = some (.cells #[.int .i64 kd, .int .i64 bs, .int .i64 ms, .int .i64 kk, .int .u64 (lu : Int), .int .i64 rn, .int .i64 no, .int .i64 att, .string nq, .int .i64 la, .int .i64 bu, .int .i64 cl, .int .i64 be, .int .i64 ba, .int .i64 ca, .int .i64 ji, .slice ne1 ne2 ne3, .slice af1 af2 af3, .string nm, .int .i64 dl, .slice sa sn sc, .int .i64 gap, .int .i64 ahead] 36 (0, 0)) from heap_alloc_new _ _)
  have K0 := hide ((Below.refl w.heap.size w).alloc (Nat.le_refl _) (.cells #[.int .i64 kd, .int .i64 bs, .int .i64 ms, .int .i64 kk, .int .u64 (lu : Int), .int .i64 rn, .int .i64 no, .int .i64 att, .string nq, .int .i64 la, .int .i64 bu, .int .i64 cl, .int .i64 be, .int .i64 ba, .int .i64 ca, .int .i64 ji, .slice ne1 ne2 ne3, .slice af1 af2 af3, .string nm, .int .i64 dl, .slice sa sn sc, .int .i64 gap, .int .i64 ahead] 36))
  have Q0 := hide (hqs.keep ((Below.refl w.heap.size w).alloc (Nat.le_refl _) (.cells #[.int .i64 kd, .int .i64 bs, .int .i64 ms, .int .i64 kk, .int .u64 (lu : Int), .int .i64 rn, .int .i64 no, .int .i64 att, .string nq, .int .i64 la, .int .i64 bu, .int .i64 cl, .int .i64 be, .int .i64 ba, .int .i64 ca, .int .i64 ji, .slice ne1 ne2 ne3, .slice af1 af2 af3, .string nm, .int .i64 dl, .slice sa sn sc, .int .i64 gap, .int .i64 ahead] 36)))
  have Z0 := hide (show (w.alloc (.cells #[.int .i64 kd, .int .i64 bs, .int .i64 ms, .int .i64 kk, .int .u64 (lu : Int), .int .i64 rn, .int .i64 no, .int .i64 att, .string nq, .int .i64 la, .int .i64 bu, .int .i64 cl, .int .i64 be, .int .i64 ba, .int .i64 ca, .int .i64 ji, .slice ne1 ne2 ne3, .slice af1 af2 af3, .string nm, .int .i64 dl, .slice sa sn sc, .int .i64 gap, .int .i64 ahead] 36)).heap.size = w.heap.size + 1 by simp)
  clear hqs
  go_enter Try.func12, Try.ntmps12
  go_wp2_with fail
  go_at_call 14
  refine (PK.out _).mono ?_
  rintro e w1 ⟨rfl, hw1⟩
  subst hw1
  generalize w.alloc (.cells #[.int .i64 kd, .int .i64 bs, .int .i64 ms, .int .i64 kk, .int .u64 (lu : Int), .int .i64 rn, .int .i64 no, .int .i64 att, .string nq, .int .i64 la, .int .i64 bu, .int .i64 cl, .int .i64 be, .int .i64 ba, .int .i64 ca, .int .i64 ji, .slice ne1 ne2 ne3, .slice af1 af2 af3, .string nm, .int .i64 dl, .slice sa sn sc, .int .i64 gap, .int .i64 ahead] 36) = w1 at *
  have c2 := cell_blk X0.out 2 (v := .int .i64 ms) rfl
  have c4 := cell_blk X0.out 4 (v := .int .u64 (lu : Int)) rfl
  have c5 := cell_blk X0.out 5 (v := .int .i64 rn) rfl
  have c6 := cell_blk X0.out 6 (v := .int .i64 no) rfl
  have c7 := cell_blk X0.out 7 (v := .int .i64 att) rfl
  go_wp2_with fail
  go_at_call 16
  refine (JA.out _).mono ?_
  rintro e w2 ⟨rfl, hb2⟩
  have X2 := hide ((hb2.block w.heap.size (by have := Z0.out; omega)).trans X0.out)
  have K2 := hide (K0.out.trans (hb2.mono K0.out.size))
  clear hb2 c2 c4 c5 c6 c7
  have c2 := cell_blk X2.out 2 (v := .int .i64 ms) rfl
  have c4 := cell_blk X2.out 4 (v := .int .u64 (lu : Int)) rfl
  have c5 := cell_blk X2.out 5 (v := .int .i64 rn) rfl
  have c6 := cell_blk X2.out 6 (v := .int .i64 no) rfl
  have c7 := cell_blk X2.out 7 (v := .int .i64 att) rfl
  go_wp2_with fail
  go_at_call 20
  refine (JB.out _).mono ?_
  rintro e w3 ⟨rfl, rfl⟩
  go_wp2_with fail
  go_ret
  exact ⟨rfl, K2.out⟩
end Go.Proofs.Ytfnndnceaddhgaa
