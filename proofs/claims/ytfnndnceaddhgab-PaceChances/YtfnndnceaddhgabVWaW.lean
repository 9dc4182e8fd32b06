/- PaceWaits: the walk. -/
import Derived.Test.YtfnndnceaddhgabVCas
namespace Go.Proofs.Ytfnndnceaddhgab
open Go.RowKit

/-- a node, in memory -/
structure NodeAt (w : World) (B o : Nat) (q : V.Nd) : Prop where
  row : ∀ j v, q.row[j]? = some v → w.cell? ⟨B, o + j, none⟩ = some v
  lt : B < w.heap.size
theorem NodeAt.keep {w w' : World} {B o : Nat} {q : V.Nd} (h : NodeAt w B o q) (b : Below w.heap.size w w') : NodeAt w' B o q :=
  ⟨fun j v hv => by rw [b.cell (p := ⟨B, o + j, none⟩) h.lt]; exact h.row j v hv, Nat.lt_of_lt_of_le h.lt b.size⟩
theorem NodeAt.new (w : World) (q : V.Nd) (t : TypeId) : NodeAt (w.alloc (.cells q.row.toArray t)) w.heap.size 0 q :=
  ⟨fun j v hv => by rw [Nat.zero_add, World.cell?_alloc_mark]; simpa using hv, by simp⟩
theorem NodeAt.all {w : World} {B o : Nat} {q : V.Nd} (h : NodeAt w B o q) : w.cell? ⟨B, o, none⟩ = some (.string q.nm) ∧ w.cell? ⟨B, o + 1, none⟩ = some (.int .i64 q.la) ∧ w.cell? ⟨B, o + 2, none⟩ = some (.int .i64 q.bu) ∧ w.cell? ⟨B, o + 3, none⟩ = some (.int .i64 q.cl) ∧ w.cell? ⟨B, o + 4, none⟩ = some (.int .i64 q.be) ∧ w.cell? ⟨B, o + 5, none⟩ = some (.int .i64 q.ba) ∧ w.cell? ⟨B, o + 6, none⟩ = some (.int .i64 q.ca) ∧ w.cell? ⟨B, o + 7, none⟩ = some (.int .i64 q.ji) ∧ w.cell? ⟨B, o + 8, none⟩ = some (.slice q.ne.1 q.ne.2.1 q.ne.2.2) ∧ w.cell? ⟨B, o + 9, none⟩ = some (.slice q.af.1 q.af.2.1 q.af.2.2) :=
  ⟨h.row 0 _ rfl, h.row 1 _ rfl, h.row 2 _ rfl, h.row 3 _ rfl, h.row 4 _ rfl, h.row 5 _ rfl, h.row 6 _ rfl, h.row 7 _ rfl, h.row 8 _ rfl, h.row 9 _ rfl⟩

set_option maxHeartbeats 2000000 in
theorem waits_walk (q : V.Nd) (l : Nat) (r n a m : Int) (w : World) (hr : V.i64 r) (hn : V.i64 n) (ha : V.i64 a) :
    Calls Try.prog 5 #[.agg q.row.toArray, .agg #[.int .u64 (l : Int), .int .i64 r, .int .i64 n, .int .i64 a, .int .i64 m]] w fun e w' => e = .returned (.bool true) ∧ Below w.heap.size w w' := by
  have W0 := hide (fun w => wait_all q l r n a hr.2 hn.2 ha.2 w)
  have HW := hide (show V.waitI q.ba q.ca q.ji l r n a = (if (V.delI q.ba q.ca a).2 = 0 then (if (V.jitI l r n a q.ji).2 = 0 then ((V.delI q.ba q.ca a).1 + (V.jitI l r n a q.ji).1, 0) else (0, 90)) else (0, 90)) from rfl)
  have N0 := NodeAt.new w q 36
  obtain ⟨nm, la, bu, cl, be, ba, ca, ji, ⟨ne1, ne2, ne3⟩, ⟨af1, af2, af3⟩⟩ := q
  have D := hide (fun w => delay_all ba ca a ha.2 w)
  have J := hide (fun w => jitter_all l r n a ji hr.2 hn.2 ha.2 w)
  have d1 := V.delI_cases ba ca a
  have j1 := V.jitI_cases l r n a ji
  simp only [V.Nd.row] at *
  generalize V.waitI ba ca ji l r n a = R at *
  generalize V.delI ba ca a = d at *
  generalize V.jitI l r n a ji = j at *
  obtain ⟨dt, dc⟩ := d
  obtain ⟨jt, jc⟩ := j
  obtain ⟨rt, rc⟩ := R
  simp only [Prod.mk.injEq] at d1 j1
  have C0 := CaseAt.new (w.alloc (.cells #[.string nm, .int .i64 la, .int .i64 bu, .int .i64 cl, .int .i64 be, .int .i64 ba, .int .i64 ca, .int .i64 ji, .slice ne1 ne2 ne3, .slice af1 af2 af3] 36)) l r n a m 24
  have KW := hide (((Below.refl w.heap.size w).alloc (Nat.le_refl _) (.cells #[.string nm, .int .i64 la, .int .i64 bu, .int .i64 cl, .int .i64 be, .int .i64 ba, .int .i64 ca, .int .i64 ji, .slice ne1 ne2 ne3, .slice af1 af2 af3] 36)).alloc (by simp) (.cells #[.int .u64 (l : Int), .int .i64 r, .int .i64 n, .int .i64 a, .int .i64 m] 24))
  rw [show (w.alloc (.cells #[.string nm, .int .i64 la, .int .i64 bu, .int .i64 cl, .int .i64 be, .int .i64 ba, .int .i64 ca, .int .i64 ji, .slice ne1 ne2 ne3, .slice af1 af2 af3] 36)).heap.size = w.heap.size + 1 by simp] at C0
  have N1 := hide (N0.keep ((Below.refl _ _).alloc (Nat.le_refl _) (.cells #[.int .u64 (l : Int), .int .i64 r, .int .i64 n, .int .i64 a, .int .i64 m] 24)))
  have C1 := hide C0
  clear N0 C0
  go_enter Try.func5, Try.ntmps5
  go_wp2_with fail
  go_at_call 13
  refine (W0.out _).mono ?_
  rintro e w2 ⟨rfl, hb2⟩
  have K2 := hide (KW.out.trans (hb2.mono KW.out.size))
  have N2 := hide (N1.out.keep hb2)
  have C2 := hide (C1.out.keep hb2)
  clear hb2 KW N1 C1
  obtain ⟨c0, c1, c2, c3, c4, lt⟩ := C2.out
  obtain ⟨n0, n1, n2, n3, n4, n5, n6, n7, n8, n9⟩ := N2.out.all
  simp only [Nat.zero_add] at n1 n2 n3 n4 n5 n6 n7 n8 n9
  have hz := K2.out.size
  go_wp2_with fail
  go_at_call 14
  refine (D.out _).mono ?_
  rintro e w3 ⟨rfl, rfl⟩
  go_wp2_with fail
  go_at_call 10
  refine (J.out _).mono ?_
  rintro e w4 ⟨rfl, hb4⟩
  have K4 := hide (K2.out.trans (hb4.mono hz))
  clear hb4 K2 N2 C2 c0 c1 c2 c3 c4 lt n0 n1 n2 n3 n4 n5 n6 n7 n8 n9 hz D J W0
  have hz := K4.out.size
  rcases d1 with ⟨rfl, d2⟩ | ⟨rfl, rfl⟩
  · rcases j1 with ⟨rfl, j2⟩ | ⟨rfl, rfl⟩
    · have := HW.out
      simp only [if_true, Prod.mk.injEq] at this
      obtain ⟨rfl, rfl⟩ := this
      clear HW
      go_wp2_with fail
      go_at_call 7
      refine (known_any _).mono ?_
      rintro e w5 ⟨rfl, hb5⟩
      have K5 := hide (K4.out.trans (hb5.mono hz))
      clear hb5 K4
      have hle : (dt : Int) ≤ (dt : Int) + (jt : Int) := by omega
      go_wp2_with fail
      go_ret
      exact ⟨rfl, K5.out⟩
    · have := HW.out
      simp only [if_true] at this
      obtain ⟨rfl, rfl⟩ := this
      clear HW
      go_wp2_with fail
      go_at_call 7
      refine (known_any _).mono ?_
      rintro e w5 ⟨rfl, hb5⟩
      have K5 := hide (K4.out.trans (hb5.mono hz))
      clear hb5 K4
      go_wp2_with fail
      go_ret
      exact ⟨rfl, K5.out⟩
  · have := HW.out
    simp at this
    obtain ⟨rfl, rfl⟩ := this
    clear HW
    go_wp2_with fail
    go_at_call 7
    refine (known_any _).mono ?_
    rintro e w5 ⟨rfl, hb5⟩
    have K5 := hide (K4.out.trans (hb5.mono hz))
    clear hb5 K4
    go_wp2_with fail
    go_ret
    exact ⟨rfl, K5.out⟩
end Go.Proofs.Ytfnndnceaddhgab
