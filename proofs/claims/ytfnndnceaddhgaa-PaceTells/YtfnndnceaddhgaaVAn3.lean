/- The law's answered. -/
import Derived.Test.YtfnndnceaddhgaaVAns
import Derived.Test.YtfnndnceaddhgaaVRfJ
import Derived.Laws.Rows
namespace Go.Proofs.Ytfnndnceaddhgaa
open Go.RowKit


set_option maxRecDepth 100000 in
set_option maxHeartbeats 4000000 in
theorem answered_3 (q : V.Ak) (qs : List V.Nd) (w : World) (hP : V.pk q.kind 4 = 3) (hI : V.Ak.In q) (hqs : RdN w q.sl.1 q.sl.2.1 qs) (hsm : q.sl.2.1 ≤ 1172812402926) :
    Calls Try.prog 12 #[.agg q.row.toArray] w fun e w' => e = .returned (.bool true) ∧ Below w.heap.size w w' := by
  have PK := hide (fun w => pick_any q.kind 4 hI.1.1 hI.1.2 (by decide) (by decide) w)
  rw [hP] at PK
  have BD := hide (fun w h => bounded_any q qs w h hsm)
  clear hP
  obtain ⟨kd, bs, ms, kk, lu, rn, no, att, nd, nm, dl, ⟨sa, sn, sc⟩, gap, ahead⟩ := q
  obtain ⟨i0, i1, i2, i3, i4⟩ := hI
  simp only at i0 i1 i2 i3 i4
  obtain ⟨nq, la, bu, cl, be, ba, ca, ji, ⟨ne1, ne2, ne3⟩, ⟨af1, af2, af3⟩⟩ := nd
  simp only [V.Ak.row, V.Nd.row, List.cons_append, List.nil_append] at *
  have X0 := hide (show (w.alloc (.cells #[.int .i64 kd, .int .i64 bs, .int .i64 ms, .int .i64 kk, .int .u64 (lu : Int), .int .i64 rn, .int .i64 no, .int .i64 att, .string nq, .int .i64 la, .int .i64 bu, .int .i64 cl, .int .i64 be, .int .i64 ba, .int .i64 ca, .int .i64 ji, .slice ne1 ne2 ne3, .slice af1 af2 af3, .string nm, .int .i64 dl, .slice sa sn sc, .int .i64 gap, .int .i64 ahead] 36)).heap[w.heap.size]? = some (.cells #[.int .i64 kd, .int .i64 bs, .int .i64 ms, .int .i64 kk, .int .u64 (lu : Int), .int .i64 rn, .int .i64 no, .int .i64 att, .string nq, .int .i64 la, .int .i64 bu, .int .i64 cl, .int .i64 be, .int .i64 ba, .int .i64 ca, .int .i64 ji, .slice ne1 ne2 ne3, .slice af1 af2 af3, .string nm, .int .i64 dl, .slice sa sn sc, .int .i64 gap, .int .i64 ahead] 36 (0, 0)) from heap_alloc_new _ _)
  have K0 := hide ((Below.refl w.heap.size w).alloc (Nat.le_refl _) (.cells #[.int .i64 kd, .int .i64 bs, .int .i64 ms, .int .i64 kk, .int .u64 (lu : Int), .int .i64 rn, .int .i64 no, .int .i64 att, .string nq, .int .i64 la, .int .i64 bu, .int .i64 cl, .int .i64 be, .int .i64 ba, .int .i64 ca, .int .i64 ji, .slice ne1 ne2 ne3, .slice af1 af2 af3, .string nm, .int .i64 dl, .slice sa sn sc, .int .i64 gap, .int .i64 ahead] 36))
  have Q0 := hide (hqs.keep ((Below.refl w.heap.size w).alloc (Nat.le_refl _) (.cells #[.int .i64 kd, .int .i64 bs, .int .i64 ms, .int .i64 kk, .int .u64 (lu : Int), .int .i64 rn, .int .i64 no, .int .i64 att, .string nq, .int .i64 la, .int .i64 bu, .int .i64 cl, .int .i64 be, .int .i64 ba, .int .i64 ca, .int .i64 ji, .slice ne1 ne2 ne3, .slice af1 af2 af3, .string nm, .int .i64 dl, .slice sa sn sc, .int .i64 gap, .int .i64 ahead] 36)))
  have Z0 := hide (show (w.alloc (.cells #[.int .i64 kd, .int .i64 bs, .int .i64 ms, .int .i64 kk, .int .u64 (lu : Int), .int .i64 rn, .int .i64 no, .int .i64 att, .string nq, .int .i64 la, .int .i64 bu, .int .i64 cl, .int .i64 be, .int .i64 ba, .int .i64 ca, .int .i64 ji, .slice ne1 ne2 ne3, .slice af1 af2 af3, .string nm, .int .i64 dl, .slice sa sn sc, .int .i64 gap, .int .i64 ahead] 36)).heap.size = w.heap.size + 1 by simp)
  clear hqs
  go_enter Try.func12, Try.ntmps12
  go_wp2_with fail
  go_at_call 14
  refine (PK.out _).mono ?_
  rintro e w1 ⟨rfl, hw1⟩
  subst hw1
  generalize w.alloc (.cells #[.int .i64 kd, .int .i64 bs, .int .i64 ms, .int .i64 kk, .int .u64 (lu : Int), .int .i64 rn, .int .i64 no, .int .i64 att, .string nq, .int .i64 la, .int .i64 bu, .int .i64 cl, .int .i64 be, .int .i64 ba, .int .i64 ca, .int .i64 ji, .slice ne1 ne2 ne3, .slice af1 af2 af3, .string nm, .int .i64 dl, .slice sa sn sc, .int .i64 gap, .int .i64 ahead] 36) = w1 at *

  generalize hcs : (#[.int .i64 kd, .int .i64 bs, .int .i64 ms, .int .i64 kk, .int .u64 (lu : Int), .int .i64 rn, .int .i64 no, .int .i64 att, .string nq, .int .i64 la, .int .i64 bu, .int .i64 cl, .int .i64 be, .int .i64 ba, .int .i64 ca, .int .i64 ji, .slice ne1 ne2 ne3, .slice af1 af2 af3, .string nm, .int .i64 dl, .slice sa sn sc, .int .i64 gap, .int .i64 ahead] : Array Value) = cs at *
  have HI3 := hide (show (Try.prog.info? 36).map (·.size) = some cs.size by rw [← hcs]; kernel_rfl)
  clear hcs
  go_wp2_with (refine wpList_load_row rfl 36 _ rfl w.heap.size rfl 36 cs (0, 0) _ X0.out Try.underlying36 rfl HI3.out ?_)
  go_at_call 23
  refine (BD.out _ Q0.out).mono ?_
  rintro e w2 ⟨rfl, hb2⟩
  have K2 := hide (K0.out.trans (hb2.mono K0.out.size))
  clear hb2
  go_wp2_with fail
  go_ret
  exact ⟨rfl, K2.out⟩
end Go.Proofs.Ytfnndnceaddhgaa
