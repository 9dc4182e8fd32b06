/- Codec: the document's sameNode (written by ces_gen.py out of GSmN.lean). -/
import Derived.Test.YtbjcckfhfbjchaaGreatCEz
namespace Go.Proofs.YtbjcckfhfbjchaaGreat
namespace Cd
open Go.RowKit Go.Deep Gr

def Alk (x y : No) : Prop := x.nl = y.nl ∧ x.al = y.al ∧ x.q.nm = y.q.nm ∧ x.q.la = y.q.la ∧ x.q.bu = y.q.bu ∧ x.q.cl = y.q.cl ∧ x.q.be = y.q.be ∧ x.q.ba = y.q.ba ∧ x.q.ca = y.q.ca ∧ x.q.ji = y.q.ji
theorem bytes_ne {a b : ByteArray} (h : ¬ a = b) : (a.toList == b.toList) = false := by
  rw [beq_eq_false_iff_ne]
  intro e
  rw [ByteArray.toList_eq, ByteArray.toList_eq] at e
  exact h (ByteArray.ext (Array.toList_inj.1 e))
def SmE (P : Prop) (e : Ending) : Prop := ∃ b : Bool, e = .returned (.bool b) ∧ (b = true ↔ P)
set_option maxRecDepth 100000 in
set_option maxHeartbeats 20000000 in
theorem node12_any (x y : No) (B C : Nat) (w : World) (h1 : RdZ B w x.q.ne x.nl ∧ RdZ B w x.q.af x.al) (h2 : RdZ C w y.q.ne y.nl ∧ RdZ C w y.q.af y.al) :
    Calls Tryz.prog 38 #[.agg x.q.row.toArray, .agg y.q.row.toArray] w fun e w' => SmE (Alk x y) e ∧ Keep (fun _ => False) w w' := by
  obtain ⟨⟨nm, la, bu, cl, be, ba, ca, ji, ⟨ne1, ne2, ne3⟩, ⟨af1, af2, af3⟩⟩, nl, al⟩ := x
  obtain ⟨⟨nm', la', bu', cl', be', ba', ca', ji', ⟨ne1', ne2', ne3'⟩, ⟨af1', af2', af3'⟩⟩, nl', al'⟩ := y
  simp only at h1 h2
  show Calls Tryz.prog 38 #[.agg #[.string nm, .int .i64 la, .int .i64 bu, .int .i64 cl, .int .i64 be, .int .i64 ba, .int .i64 ca, .int .i64 ji, .slice ne1 ne2 ne3, .slice af1 af2 af3], .agg #[.string nm', .int .i64 la', .int .i64 bu', .int .i64 cl', .int .i64 be', .int .i64 ba', .int .i64 ca', .int .i64 ji', .slice ne1' ne2' ne3', .slice af1' af2' af3']] w _
  have K1 := Keep.alloc (fun _ => False) w (.cells #[.string nm, .int .i64 la, .int .i64 bu, .int .i64 cl, .int .i64 be, .int .i64 ba, .int .i64 ca, .int .i64 ji, .slice ne1 ne2 ne3, .slice af1 af2 af3] 57)
  have K2 := Keep.alloc (fun _ => False) (w.alloc (.cells #[.string nm, .int .i64 la, .int .i64 bu, .int .i64 cl, .int .i64 be, .int .i64 ba, .int .i64 ca, .int .i64 ji, .slice ne1 ne2 ne3, .slice af1 af2 af3] 57)) (.cells #[.string nm', .int .i64 la', .int .i64 bu', .int .i64 cl', .int .i64 be', .int .i64 ba', .int .i64 ca', .int .i64 ji', .slice ne1' ne2' ne3', .slice af1' af2' af3'] 57)
  have hs1 : (w.alloc (.cells #[.string nm, .int .i64 la, .int .i64 bu, .int .i64 cl, .int .i64 be, .int .i64 ba, .int .i64 ca, .int .i64 ji, .slice ne1 ne2 ne3, .slice af1 af2 af3] 57)).heap.size = w.heap.size + 1 := by simp
  have hb1 := K2.blk (heap_alloc_new w (.cells #[.string nm, .int .i64 la, .int .i64 bu, .int .i64 cl, .int .i64 be, .int .i64 ba, .int .i64 ca, .int .i64 ji, .slice ne1 ne2 ne3, .slice af1 af2 af3] 57)) (fun f => f)
  have hb2 := heap_alloc_new (w.alloc (.cells #[.string nm, .int .i64 la, .int .i64 bu, .int .i64 cl, .int .i64 be, .int .i64 ba, .int .i64 ca, .int .i64 ji, .slice ne1 ne2 ne3, .slice af1 af2 af3] 57)) (.cells #[.string nm', .int .i64 la', .int .i64 bu', .int .i64 cl', .int .i64 be', .int .i64 ba', .int .i64 ca', .int .i64 ji', .slice ne1' ne2' ne3', .slice af1' af2' af3'] 57)
  rw [hs1] at hb2
  have HB1 := hide hb1
  have HB2 := hide hb2
  have KK := hide (K1.more K2)
  have S1 := hide (ints12_any (ne1, ne2, ne3) (ne1', ne2', ne3') nl nl' _ _ _ (h1.1.new (K1.more K2)) (h2.1.new (K1.more K2)))
  have S2 := hide (fun W k => ints12_any (af1, af2, af3) (af1', af2', af3') al al' _ _ W ((h1.2.new (K1.more K2)).new k) ((h2.2.new (K1.more K2)).new k))
  have HA : Hid (Alk ⟨⟨nm, la, bu, cl, be, ba, ca, ji, ⟨ne1, ne2, ne3⟩, ⟨af1, af2, af3⟩⟩, nl, al⟩ ⟨⟨nm', la', bu', cl', be', ba', ca', ji', ⟨ne1', ne2', ne3'⟩, ⟨af1', af2', af3'⟩⟩, nl', al'⟩ ↔ nl = nl' ∧ al = al' ∧ nm = nm' ∧ la = la' ∧ bu = bu' ∧ cl = cl' ∧ be = be' ∧ ba = ba' ∧ ca = ca' ∧ ji = ji') := Iff.rfl
  generalize Alk ⟨⟨nm, la, bu, cl, be, ba, ca, ji, ⟨ne1, ne2, ne3⟩, ⟨af1, af2, af3⟩⟩, nl, al⟩ ⟨⟨nm', la', bu', cl', be', ba', ca', ji', ⟨ne1', ne2', ne3'⟩, ⟨af1', af2', af3'⟩⟩, nl', al'⟩ = P at *
  clear K1 K2 hb1 hb2 hs1 h1 h2
  go_enter Tryz.func38, Tryz.ntmps38
  have HC : Hid (∀ W, Keep (fun _ => False) ((w.alloc (.cells #[.string nm, .int .i64 la, .int .i64 bu, .int .i64 cl, .int .i64 be, .int .i64 ba, .int .i64 ca, .int .i64 ji, .slice ne1 ne2 ne3, .slice af1 af2 af3] 57)).alloc (.cells #[.string nm', .int .i64 la', .int .i64 bu', .int .i64 cl', .int .i64 be', .int .i64 ba', .int .i64 ca', .int .i64 ji', .slice ne1' ne2' ne3', .slice af1' af2' af3'] 57)) W → (W.cell? ⟨w.heap.size, 0, none⟩ = some (.string nm) ∧ W.cell? ⟨w.heap.size, 1, none⟩ = some (.int .i64 la) ∧ W.cell? ⟨w.heap.size, 2, none⟩ = some (.int .i64 bu) ∧ W.cell? ⟨w.heap.size, 3, none⟩ = some (.int .i64 cl) ∧ W.cell? ⟨w.heap.size, 4, none⟩ = some (.int .i64 be) ∧ W.cell? ⟨w.heap.size, 5, none⟩ = some (.int .i64 ba) ∧ W.cell? ⟨w.heap.size, 6, none⟩ = some (.int .i64 ca) ∧ W.cell? ⟨w.heap.size, 7, none⟩ = some (.int .i64 ji) ∧ W.cell? ⟨w.heap.size, 8, none⟩ = some (.slice ne1 ne2 ne3) ∧ W.cell? ⟨w.heap.size, 9, none⟩ = some (.slice af1 af2 af3)) ∧ W.cell? ⟨w.heap.size + 1, 0, none⟩ = some (.string nm') ∧ W.cell? ⟨w.heap.size + 1, 1, none⟩ = some (.int .i64 la') ∧ W.cell? ⟨w.heap.size + 1, 2, none⟩ = some (.int .i64 bu') ∧ W.cell? ⟨w.heap.size + 1, 3, none⟩ = some (.int .i64 cl') ∧ W.cell? ⟨w.heap.size + 1, 4, none⟩ = some (.int .i64 be') ∧ W.cell? ⟨w.heap.size + 1, 5, none⟩ = some (.int .i64 ba') ∧ W.cell? ⟨w.heap.size + 1, 6, none⟩ = some (.int .i64 ca') ∧ W.cell? ⟨w.heap.size + 1, 7, none⟩ = some (.int .i64 ji') ∧ W.cell? ⟨w.heap.size + 1, 8, none⟩ = some (.slice ne1' ne2' ne3') ∧ W.cell? ⟨w.heap.size + 1, 9, none⟩ = some (.slice af1' af2' af3')) := fun W k =>
    ⟨⟨cell_blk (k.blk HB1.out (fun h => h)) 0 rfl, cell_blk (k.blk HB1.out (fun h => h)) 1 rfl, cell_blk (k.blk HB1.out (fun h => h)) 2 rfl, cell_blk (k.blk HB1.out (fun h => h)) 3 rfl, cell_blk (k.blk HB1.out (fun h => h)) 4 rfl, cell_blk (k.blk HB1.out (fun h => h)) 5 rfl, cell_blk (k.blk HB1.out (fun h => h)) 6 rfl, cell_blk (k.blk HB1.out (fun h => h)) 7 rfl, cell_blk (k.blk HB1.out (fun h => h)) 8 rfl, cell_blk (k.blk HB1.out (fun h => h)) 9 rfl⟩, cell_blk (k.blk HB2.out (fun h => h)) 0 rfl, cell_blk (k.blk HB2.out (fun h => h)) 1 rfl, cell_blk (k.blk HB2.out (fun h => h)) 2 rfl, cell_blk (k.blk HB2.out (fun h => h)) 3 rfl, cell_blk (k.blk HB2.out (fun h => h)) 4 rfl, cell_blk (k.blk HB2.out (fun h => h)) 5 rfl, cell_blk (k.blk HB2.out (fun h => h)) 6 rfl, cell_blk (k.blk HB2.out (fun h => h)) 7 rfl, cell_blk (k.blk HB2.out (fun h => h)) 8 rfl, cell_blk (k.blk HB2.out (fun h => h)) 9 rfl⟩
  obtain ⟨⟨n0, n1, n2, n3, n4, n5, n6, n7, n8, n9⟩, m0, m1, m2, m3, m4, m5, m6, m7, m8, m9⟩ := HC.out _ (Keep.refl _ _)
  by_cases d : nm = nm'
  case neg =>
    have d' := bytes_ne d
    have HA0 : Hid (false = true ↔ P) := ⟨fun e => (by cases e), fun e => absurd (HA.out.1 e) fun h => d h.2.2.1⟩
    clear d HA
    go_wp2_with fail
    go_ret
    exact ⟨⟨false, rfl, HA0.out⟩, KK.out⟩
  subst d
  by_cases d : la = la'
  case neg =>
    have d' := (show (la != la') = true by simpa using d)
    have HA0 : Hid (false = true ↔ P) := ⟨fun e => (by cases e), fun e => absurd (HA.out.1 e) fun h => d h.2.2.2.1⟩
    clear d HA
    go_wp2_with fail
    go_ret
    exact ⟨⟨false, rfl, HA0.out⟩, KK.out⟩
  subst d
  by_cases d : bu = bu'
  case neg =>
    have d' := (show (bu != bu') = true by simpa using d)
    have HA0 : Hid (false = true ↔ P) := ⟨fun e => (by cases e), fun e => absurd (HA.out.1 e) fun h => d h.2.2.2.2.1⟩
    clear d HA
    go_wp2_with fail
    go_ret
    exact ⟨⟨false, rfl, HA0.out⟩, KK.out⟩
  subst d
  by_cases d : cl = cl'
  case neg =>
    have d' := (show (cl != cl') = true by simpa using d)
    have HA0 : Hid (false = true ↔ P) := ⟨fun e => (by cases e), fun e => absurd (HA.out.1 e) fun h => d h.2.2.2.2.2.1⟩
    clear d HA
    go_wp2_with fail
    go_ret
    exact ⟨⟨false, rfl, HA0.out⟩, KK.out⟩
  subst d
  by_cases d : be = be'
  case neg =>
    have d' := (show (be != be') = true by simpa using d)
    have HA0 : Hid (false = true ↔ P) := ⟨fun e => (by cases e), fun e => absurd (HA.out.1 e) fun h => d h.2.2.2.2.2.2.1⟩
    clear d HA
    go_wp2_with fail
    go_ret
    exact ⟨⟨false, rfl, HA0.out⟩, KK.out⟩
  subst d
  by_cases d : ba = ba'
  case neg =>
    have d' := (show (ba != ba') = true by simpa using d)
    have HA0 : Hid (false = true ↔ P) := ⟨fun e => (by cases e), fun e => absurd (HA.out.1 e) fun h => d h.2.2.2.2.2.2.2.1⟩
    clear d HA
    go_wp2_with fail
    go_ret
    exact ⟨⟨false, rfl, HA0.out⟩, KK.out⟩
  subst d
  by_cases d : ca = ca'
  case neg =>
    have d' := (show (ca != ca') = true by simpa using d)
    have HA0 : Hid (false = true ↔ P) := ⟨fun e => (by cases e), fun e => absurd (HA.out.1 e) fun h => d h.2.2.2.2.2.2.2.2.1⟩
    clear d HA
    go_wp2_with fail
    go_ret
    exact ⟨⟨false, rfl, HA0.out⟩, KK.out⟩
  subst d
  by_cases d : ji = ji'
  case neg =>
    have d' := (show (ji != ji') = true by simpa using d)
    have HA0 : Hid (false = true ↔ P) := ⟨fun e => (by cases e), fun e => absurd (HA.out.1 e) fun h => d h.2.2.2.2.2.2.2.2.2⟩
    clear d HA
    go_wp2_with fail
    go_ret
    exact ⟨⟨false, rfl, HA0.out⟩, KK.out⟩
  subst d
  have HQ1 : Hid ((decide (nl = nl') = true) ↔ nl = nl') := by show _ ↔ _; simp
  generalize decide (nl = nl') = q1 at *
  go_wp2_with fail
  go_at_call 75
  refine S1.out.mono ?_
  rintro e w5 ⟨rfl, k5⟩
  have K5 := hide (KK.out.more k5)
  have S2' := hide (S2.out w5 k5)
  clear n0 n1 n2 n3 n4 n5 n6 n7 n8 n9 m0 m1 m2 m3 m4 m5 m6 m7 m8 m9
  obtain ⟨⟨_, _, _, _, _, _, _, _, _, n9⟩, _, _, _, _, _, _, _, _, _, m9⟩ := HC.out w5 k5
  clear S1 S2 k5
  cases q1
  case false =>
    have HA0 : Hid (false = true ↔ P) := ⟨fun e => (by cases e), fun e => absurd (HQ1.out.2 (HA.out.1 e).1) (by decide)⟩
    clear HA HQ1
    go_wp2_with fail
    go_ret
    exact ⟨⟨false, rfl, HA0.out⟩, K5.out⟩
  have HQ2 : Hid ((decide (al = al') = true) ↔ al = al') := by show _ ↔ _; simp
  generalize decide (al = al') = q2 at *
  go_wp2_with fail
  go_at_call 75
  refine S2'.out.mono ?_
  rintro e w6 ⟨rfl, k6⟩
  have K6 := hide (K5.out.more k6)
  have HA0 : Hid (q2 = true ↔ P) := ⟨fun e => HA.out.2 ⟨HQ1.out.1 (by trivial), HQ2.out.1 e, by trivial, by trivial, by trivial, by trivial, by trivial, by trivial, by trivial, by trivial⟩, fun e => HQ2.out.2 (HA.out.1 e).2.1⟩
  clear HA HQ1 HQ2 k6
  go_wp2_with fail
  go_ret
  exact ⟨⟨q2, rfl, HA0.out⟩, K6.out⟩
end Cd
end Go.Proofs.YtbjcckfhfbjchaaGreat
