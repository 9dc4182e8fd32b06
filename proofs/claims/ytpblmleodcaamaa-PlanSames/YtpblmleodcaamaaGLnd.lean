/- lend: a plan with lists of its own. -/
import Derived.Test.YtpblmleodcaamaaGLnJ
import Derived.Test.YtpblmleodcaamaaRLst
import Derived.Test.YtpblmleodcaamaaGWaM
import Derived.Deep.Cut
import Derived.Laws.ResultCell
import Derived.Laws.Rows
namespace Go.Proofs.Ytpblmleodcaamaa
namespace Gr
open Go.RowKit

set_option maxRecDepth 100000 in
set_option maxHeartbeats 40000000 in
theorem lend_full (nm : ByteArray) (dl : Int) (s : Option Addr × Nat × Nat) (xs : List No) (B : Nat) (w : World) (hP : RdP B w s xs) (hB : B ≤ w.heap.size) (hes : xs.length + edges xs ≤ 20000) :
    Calls Try.prog 9 #[.agg #[.string nm, .int .i64 dl, .slice s.1 s.2.1 s.2.2]] w (LdF nm dl s.2.1 xs w) := by
  obtain ⟨a, n, c⟩ := s
  have HN : Hid (n = xs.length) := hP.1
  have hn : n ≤ 20000 := by have := HN.out; omega
  obtain ⟨w1, hw1⟩ : ∃ w1, w1 = (w.alloc (.cells #[.string nm, .int .i64 dl, .slice a n c] 24)).alloc (.cells #[.string ⟨#[]⟩, .int .i64 0, .slice none 0 0, .slice none 0 0, .slice none 0 0, .slice none 0 0] 29) := ⟨_, rfl⟩
  have hmk := made_nodes w1 n hn
  have hsz1 : w1.heap.size = w.heap.size + 1 + 1 := by rw [hw1]; simp
  have k1 : Keep (fun _ => False) w w1 := by rw [hw1]; exact (Keep.alloc _ _ _).more (Keep.alloc _ _ _)
  have bp : w1.heap[w.heap.size]? = some (.cells #[.string nm, .int .i64 dl, .slice a n c] 24 (0, 0)) := by rw [hw1]; exact (Keep.alloc (fun _ => False) _ _).blk (heap_alloc_new w _) fun f => f
  rw [hsz1, hw1] at hmk
  have HW1 := hide hw1
  have HSZ := hide hsz1
  clear hw1 hsz1
  go_enter Try.func9, Try.ntmps9
  go_wp2_with fail
  obtain ⟨w0, hw0⟩ : ∃ w0, w0 = (((w.alloc (.cells #[.string nm, .int .i64 dl, .slice a n c] 24)).alloc (.cells #[.string ⟨#[]⟩, .int .i64 0, .slice none 0 0, .slice none 0 0, .slice none 0 0, .slice none 0 0] 29)).alloc (.cells (madeCells (zN 0).row.toArray ((n + 3) * 10)) 44)).alloc (.cells #[.string ⟨#[]⟩, .int .i64 0, .slice none 0 0, .slice (some ⟨w.heap.size + 1 + 1, 0, none⟩) (n + 3) (n + 3), .slice none 0 0, .slice none 0 0] 29) := ⟨_, rfl⟩
  rw [← hw0]
  rw [← HW1.out] at hw0
  have kk : Keep (fun _ => False) w1 w0 := by rw [hw0]; exact (Keep.alloc _ _ _).more (Keep.alloc _ _ _)
  have I0 : LdI w nm dl a n c xs B w0 0 [] (.slice none 0 0) (.slice none 0 0) 0 0 (noteN []) (noteA []) := by
    refine ⟨rfl, ⟨_, ?_, flat_made (n + 3)⟩, (fun k x y _ hy => by simp at hy), ?_, ?_, kk.blk bp fun f => f, World.ownsRow_nil _ _ _ _, World.ownsRow_nil _ _ _ _, (fun k e => by cases e), (hP.new k1).new kk, ?_, k1.more kk, fun y hy => by cases hy⟩
    · rw [hw0]
      refine (Keep.alloc (fun _ => False) _ _).blk ?_ fun f => f
      have := heap_alloc_new w1 (.cells (madeCells (zN 0).row.toArray ((n + 3) * 10)) 44)
      rwa [HSZ.out] at this
    · rw [hw0]
      have := heap_alloc_new (w1.alloc (.cells (madeCells (zN 0).row.toArray ((n + 3) * 10)) 44)) (.cells #[.string ⟨#[]⟩, .int .i64 0, .slice none 0 0, .slice (some ⟨w.heap.size + 1 + 1, 0, none⟩) (n + 3) (n + 3), .slice none 0 0, .slice none 0 0] 29)
      rwa [World.size_alloc, HSZ.out] at this
    · refine kk.blk ?_ fun f => f
      rw [HW1.out]
      have := heap_alloc_new (w.alloc (.cells #[.string nm, .int .i64 dl, .slice a n c] 24)) (.cells #[.string ⟨#[]⟩, .int .i64 0, .slice none 0 0, .slice none 0 0, .slice none 0 0, .slice none 0 0] 29)
      rwa [World.size_alloc] at this
    · rw [hw0]; simp; have := HSZ.out; omega
  have HI0 := hide I0
  clear I0 kk hw0 bp k1 HW1 HSZ hmk hP
  go_loopw [4] (fun iv wr => ∃ i : Nat, iv = .int .i64 (i : Nat) ∧ i ≤ n ∧ Hid (∃ ys v1 v2, LdI w nm dl a n c xs B wr i ys v1 v2 i i (noteN ys) (noteA ys))) (fun iv _ => n - (intOf iv).toNat)
  case atStart => exact ⟨0, rfl, Nat.zero_le _, [], _, _, HI0.out⟩
  case round => as_aux_lemma =>
    obtain ⟨i, rfl, hi, HD⟩ := hrel
    obtain ⟨ys, v1, v2, I⟩ := HD.out
    have p2 := cell_blk I.bp 2 (v := .slice a n c) rfl
    by_cases hlt : i < n
    · as_aux_lemma =>
      obtain ⟨g, off, x, ha, hg, hx, hN, hz1, hz2⟩ := I.rd.at hlt
      have ha : a = some ⟨g, off, none⟩ := ha
      subst ha
      have hxm := List.mem_of_getElem? hx
      have hed : x.nl.length + x.al.length ≤ 20000 := by have := edges_ge hxm; omega
      have HX := hide hx
      obtain ⟨n0, n1, n2, n3, n4, n5, n6, n7, n8, n9⟩ := hN.all
      have LE1 := hide (lent_any _ _ _ wr hz1 (by omega))
      have LE2 := hide (fun w' (k : Keep (fun _ => False) wr w') => lent_any _ _ _ w' (hz2.new k) (by omega))
      have NK := hide hN
      have HI := hide I
      have HNE : Hid (x.q.ne.2.1 = x.nl.length) := hz1.1
      have HAF : Hid (x.q.af.2.1 = x.al.length) := hz2.1
      clear I HD hx hxm hN hz1 hz2 n0 n1 n2 n3 n4 n5 n6 n7 n9
      go_wp2_with fail
      go_at_call 24
      refine LE1.out.mono ?_
      rintro e w2 ⟨g1, rfl, hg1, ho1, k2⟩
      have I2 := hide (HI.out.new k2)
      have HG1 : Hid (w.heap.size ≤ g1) := by show _ ≤ _; have := HI.out.sz; omega
      have p2 := cell_blk I2.out.bp 2 (v := .slice (some ⟨g, off, none⟩) n c) rfl
      obtain ⟨n0, n1, n2, n3, n4, n5, n6, n7, n8', n9⟩ := (NK.out.keep k2 fun f => f).all
      have LE2' := hide (LE2.out w2 k2)
      have O1 := hide ho1
      have NK2 := hide (NK.out.keep k2 fun f => f)
      clear k2 ho1 n0 n1 n2 n3 n4 n5 n6 n7 n8 n8' LE1 LE2 HI NK
      go_wp2_with fail
      go_at_call 24
      refine LE2'.out.mono ?_
      rintro e w3 ⟨g2, rfl, hg2, ho2, k3⟩
      have I3 := hide (I2.out.new k3)
      have HG2 : Hid (w.heap.size ≤ g2) := by show _ ≤ _; have := I2.out.sz; omega
      have O13 := hide (O1.out.keep k3 fun f => f)
      have O2 := hide ho2
      have NK3 := hide (NK2.out.keep k3 fun f => f)
      clear k3 ho2 n9 p2 LE2' I2 O1 NK2
      -- the needs are noted
      have ol1 := I3.out.o1
      obtain ⟨u1, u3, hv1⟩ := ownsRow_shape ol1
      subst hv1
      have kA := Keep.alloc (fun _ => False) w3 (.cells #[.slice (some ⟨g1, 0, none⟩) (x.nl.length + 20) (x.nl.length + 20)] 34)
      have IA := hide (I3.out.new kA)
      have OLA := hide (ownsRow_new ol1 kA)
      have CA := hide (cell_one w3 (.slice (some ⟨g1, 0, none⟩) (x.nl.length + 20) (x.nl.length + 20)) 34)
      have O1A := hide (O13.out.keep kA fun f => f)
      have O2A := hide (O2.out.keep kA fun f => f)
      have NKA := hide (NK3.out.keep kA fun f => f)
      have hszA : w.heap.size + 4 ≤ (w3.alloc (.cells #[.slice (some ⟨g1, 0, none⟩) (x.nl.length + 20) (x.nl.length + 20)] 34)).heap.size := IA.out.sz
      have cx4 := cell_blk I3.out.bx 4 (v := .slice u1 i u3) rfl
      have cx4A := cell_blk IA.out.bx 4 (v := .slice u1 i u3) rfl
      have fx4 := frozen_blk IA.out.bx 4
      clear kA ol1 O13 O2 NK3 I3
      go_upto_region 8 with (at_builtin; go_must (refine wp_appendL rfl _ _ rfl (w.heap.size + 4) (.slice u1 i u3) i (noteN ys) rfl OLA.out ⟨w3.heap.size, 0, none⟩ _ _ _ rfl CA.out (by omega) hszA ?_); intro v4 w4 o4 k4 b4; obtain ⟨u4, u6, hv4⟩ := ownsRow_shape o4; subst hv4; have hb4 := k4.blk IA.out.bx (fun e => by have := ownsRow_from OLA.out e; omega); have s4 := cell_blk hb4 4 (v := .slice u1 i u3) rfl; have fz4 := frozen_blk hb4 4; have O4 := hide o4; have K4 := hide k4; have B4 := hide b4; clear o4 k4 b4 hb4)
      have I5 := hide (IA.out.app1 hB O4.out K4.out B4.out)
      have hfA := fun j e => ownsRow_from OLA.out (k := j) e
      have htA := fun j (e : (Value.slice u1 i u3).ownBlock = some j) => ownsRow_typ OLA.out (by decide) e
      have hb4 := K4.out.blk IA.out.bx (fun e => by have := hfA _ e; omega)
      have hto : ∀ j, j = w.heap.size + 1 + 1 + 1 → ∀ cs, w4.heap[j]? ≠ some (.cells cs 3 (0, 0)) := fun j e cs hc => by
        rw [e, hb4] at hc
        injection hc with hc
        injection hc with _ hc
        revert hc
        decide
      have kS := keep_cell w4 (w.heap.size + 1 + 1 + 1) 4 (.slice u4 (i + 1) u6)
      have O15 := hide ((O1A.out.typ K4.out htA).typ kS hto)
      have O25 := hide ((O2A.out.typ K4.out htA).typ kS hto)
      have NK5 := hide ((NKA.out.keep K4.out fun e => by have := hfA _ e; omega).keep kS (by omega))
      generalize w4.setCell ⟨w.heap.size + 1 + 1 + 1, 4, none⟩ (.slice u4 (i + 1) u6) = w5 at *
      clear hb4 hto kS hfA htA s4 fz4 cx4 cx4A fx4 O4 K4 B4 O1A O2A NKA IA OLA CA hszA
      -- the afters are noted
      have ol2 := I5.out.o2
      obtain ⟨t1, t3, hv2⟩ := ownsRow_shape ol2
      subst hv2
      have kA := Keep.alloc (fun _ => False) w5 (.cells #[.slice (some ⟨g2, 0, none⟩) (x.al.length + 20) (x.al.length + 20)] 34)
      have IA := hide (I5.out.new kA)
      have OLA := hide (ownsRow_new ol2 kA)
      have CA := hide (cell_one w5 (.slice (some ⟨g2, 0, none⟩) (x.al.length + 20) (x.al.length + 20)) 34)
      have O1A := hide (O15.out.keep kA fun f => f)
      have O2A := hide (O25.out.keep kA fun f => f)
      have NKA := hide (NK5.out.keep kA fun f => f)
      have hszA : w.heap.size + 4 ≤ (w5.alloc (.cells #[.slice (some ⟨g2, 0, none⟩) (x.al.length + 20) (x.al.length + 20)] 34)).heap.size := IA.out.sz
      have cx5 := cell_blk I5.out.bx 5 (v := .slice t1 i t3) rfl
      have cx5A := cell_blk IA.out.bx 5 (v := .slice t1 i t3) rfl
      clear kA ol2 O15 O25 NK5 I5
      go_upto_region 9 with (at_builtin; go_must (refine wp_appendL rfl _ _ rfl (w.heap.size + 4) (.slice t1 i t3) i (noteA ys) rfl OLA.out ⟨w5.heap.size, 0, none⟩ _ _ _ rfl CA.out (by omega) hszA ?_); intro v6 w6 o6 k6 b6; obtain ⟨t4, t6, hv6⟩ := ownsRow_shape o6; subst hv6; have hb6 := k6.blk IA.out.bx (fun e => by have := ownsRow_from OLA.out e; omega); have s6 := cell_blk hb6 5 (v := .slice t1 i t3) rfl; have fz6 := frozen_blk hb6 5; have O6 := hide o6; have K6 := hide k6; have B6 := hide b6; clear o6 k6 b6 hb6)
      have I7 := hide (IA.out.app2 hB O6.out K6.out B6.out)
      have hfA := fun j e => ownsRow_from OLA.out (k := j) e
      have htA := fun j (e : (Value.slice t1 i t3).ownBlock = some j) => ownsRow_typ OLA.out (by decide) e
      have hb6 := K6.out.blk IA.out.bx (fun e => by have := hfA _ e; omega)
      have hto : ∀ j, j = w.heap.size + 1 + 1 + 1 → ∀ cs, w6.heap[j]? ≠ some (.cells cs 3 (0, 0)) := fun j e cs hc => by
        rw [e, hb6] at hc
        injection hc with hc
        injection hc with _ hc
        revert hc
        decide
      have kS := keep_cell w6 (w.heap.size + 1 + 1 + 1) 5 (.slice t4 (i + 1) t6)
      have O17 := hide ((O1A.out.typ K6.out htA).typ kS hto)
      have O27 := hide ((O2A.out.typ K6.out htA).typ kS hto)
      have NK7 := hide ((NKA.out.keep K6.out fun e => by have := hfA _ e; omega).keep kS (by omega))
      generalize w6.setCell ⟨w.heap.size + 1 + 1 + 1, 5, none⟩ (.slice t4 (i + 1) t6) = w7 at *
      clear hb6 hto kS hfA htA s6 fz6 cx5 cx5A O6 K6 B6 O1A O2A NKA IA OLA CA hszA
      have hgG : ¬ (g = w.heap.size + 1 + 1) := by omega
      have p2 := cell_blk I7.out.bp 2 (v := .slice (some ⟨g, off, none⟩) n c) rfl
      have x3 := cell_blk I7.out.bx 3 (v := .slice (some ⟨w.heap.size + 1 + 1, 0, none⟩) (n + 3) (n + 3)) rfl
      have HPL : Hid (i < (ys.map (·.q) ++ List.replicate (n + 3 - i) (zN 0)).length) := by show i < _; simp [I7.out.len]; omega
      obtain ⟨n0, n1, n2, n3, n4, n5, n6, n7, n8, n9⟩ := NK7.out.all
      have hin3 : i < n + 3 := by omega
      have hin4 : (i : Int) < (n : Int) + 3 := by omega
      have THR := hide (rows_there (I7.out.new (Keep.drew (fun _ => False) w7)).rows HPL.out)
      refine RL.wp_region_held_last (S := fun wx => wx.cell? ⟨w.heap.size + 1 + 1 + 1, 3, none⟩ = some (.slice (some ⟨w.heap.size + 1 + 1, 0, none⟩) (n + 3) (n + 3)) ∧ wx.cell? ⟨w.heap.size, 2, none⟩ = some (.slice (some ⟨g, off, none⟩) n c) ∧ wx.cell? ⟨g, off + i * 10, none⟩ = some (.string x.q.nm) ∧ wx.cell? ⟨g, off + i * 10 + 1, none⟩ = some (.int .i64 x.q.la) ∧ wx.cell? ⟨g, off + i * 10 + 2, none⟩ = some (.int .i64 x.q.bu) ∧ wx.cell? ⟨g, off + i * 10 + 3, none⟩ = some (.int .i64 x.q.cl) ∧ wx.cell? ⟨g, off + i * 10 + 4, none⟩ = some (.int .i64 x.q.be) ∧ wx.cell? ⟨g, off + i * 10 + 5, none⟩ = some (.int .i64 x.q.ba) ∧ wx.cell? ⟨g, off + i * 10 + 6, none⟩ = some (.int .i64 x.q.ca) ∧ wx.cell? ⟨g, off + i * 10 + 7, none⟩ = some (.int .i64 x.q.ji) ∧ wx.cell? ⟨g, off + i * 10 + 8, none⟩ = some (.slice x.q.ne.1 x.q.ne.2.1 x.q.ne.2.2) ∧ wx.cell? ⟨g, off + i * 10 + 9, none⟩ = some (.slice x.q.af.1 x.q.af.2.1 x.q.af.2.2)) rfl (by kernel_rfl) (by kernel_rfl) ⟨x3, p2, n0, n1, n2, n3, n4, n5, n6, n7, n8, n9⟩ (fun hHeld => ?_)
      change wpAnyH _ _ _ _ _ 10 (Array.replicate 10 false) _ _
      simp only [List.dropLast, List.getLast, List.cons_append, List.nil_append, RL.still]
      refine wpAnyH_take (i := 0) (oi := _) (v := ?_) rfl (by kernel_rfl) (by kernel_rfl) (by kernel_rfl) (fun _ _ _ h => h) (Or.inl ⟨by rfl, ?_⟩) (by assumption) ?_
      rotate_left
      · (intro w hSw; (try dsimp only at hSw); go_simp)
        all_goals with_reducible rfl
      go_simp
      refine wpAnyH_take (i := 1) (oi := _) (v := ?_) rfl (by kernel_rfl) (by kernel_rfl) (by kernel_rfl) (fun _ _ _ h => h) (Or.inl ⟨by rfl, ?_⟩) (by assumption) ?_
      rotate_left
      · (intro w hSw; (try dsimp only at hSw); go_simp)
        all_goals with_reducible rfl
      go_simp
      refine wpAnyH_take (i := 2) (oi := _) (v := ?_) rfl (by kernel_rfl) (by kernel_rfl) (by kernel_rfl) (fun _ _ _ h => h) (Or.inl ⟨by rfl, ?_⟩) (by assumption) ?_
      rotate_left
      · (intro w hSw; (try dsimp only at hSw); go_simp)
        all_goals with_reducible rfl
      go_simp
      refine wpAnyH_take (i := 3) (oi := _) (v := ?_) rfl (by kernel_rfl) (by kernel_rfl) (by kernel_rfl) (fun _ _ _ h => h) (Or.inl ⟨by rfl, ?_⟩) (by assumption) ?_
      rotate_left
      · (intro w hSw; (try dsimp only at hSw); go_simp)
        all_goals with_reducible rfl
      go_simp
      refine wpAnyH_take (i := 4) (oi := _) (v := ?_) rfl (by kernel_rfl) (by kernel_rfl) (by kernel_rfl) (fun _ _ _ h => h) (Or.inl ⟨by rfl, ?_⟩) (by assumption) ?_
      rotate_left
      · (intro w hSw; (try dsimp only at hSw); go_simp)
        all_goals with_reducible rfl
      go_simp
      refine wpAnyH_take (i := 5) (oi := _) (v := ?_) rfl (by kernel_rfl) (by kernel_rfl) (by kernel_rfl) (fun _ _ _ h => h) (Or.inl ⟨by rfl, ?_⟩) (by assumption) ?_
      rotate_left
      · (intro w hSw; (try dsimp only at hSw); go_simp)
        all_goals with_reducible rfl
      go_simp
      refine wpAnyH_take (i := 6) (oi := _) (v := ?_) rfl (by kernel_rfl) (by kernel_rfl) (by kernel_rfl) (fun _ _ _ h => h) (Or.inl ⟨by rfl, ?_⟩) (by assumption) ?_
      rotate_left
      · (intro w hSw; (try dsimp only at hSw); go_simp)
        all_goals with_reducible rfl
      go_simp
      refine wpAnyH_take (i := 7) (oi := _) (v := ?_) rfl (by kernel_rfl) (by kernel_rfl) (by kernel_rfl) (fun _ _ _ h => h) (Or.inl ⟨by rfl, ?_⟩) (by assumption) ?_
      rotate_left
      · (intro w hSw; (try dsimp only at hSw); go_simp)
        all_goals with_reducible rfl
      go_simp
      refine wpAnyH_take (i := 8) (oi := _) (v := ?_) rfl (by kernel_rfl) (by kernel_rfl) (by kernel_rfl) (fun _ _ _ h => h) (Or.inl ⟨by rfl, ?_⟩) (by assumption) ?_
      rotate_left
      · (intro w hSw; (try dsimp only at hSw); go_simp)
        all_goals with_reducible rfl
      go_simp
      refine wpAnyH_take (i := 9) (oi := _) (v := ?_) rfl (by kernel_rfl) (by kernel_rfl) (by kernel_rfl) (fun _ _ _ h => h) (Or.inl ⟨by rfl, ?_⟩) (by assumption) ?_
      rotate_left
      · (intro w hSw; (try dsimp only at hSw); go_simp)
        all_goals with_reducible rfl
      go_simp
      refine wpAnyH_done (by kernel_rfl) ?_ _
      simp only [RL.endQ]
      refine wp_store_mid 44 _ _ rfl (w.heap.size + 1 + 1) (i * 10) x.q.row.toArray (by rfl) (by rfl) THR.out (by rw [info_node10]; rfl) (row_one x.q) ?_
      rw [putR_eq]
      dsimp only [Act.put]
      have I7d := I7.out.new (Keep.drew (fun _ => False) w7)
      have R8 := hide (I7d.rows.put i x.q HPL.out)
      obtain ⟨po, ps, pb⟩ := putR_other (w.heap.size + 1 + 1) x.q.row w7.drew (i * 10)
      have K8 : Hid (Keep (fun j => j = w.heap.size + 1 + 1) w7 (putR w7.drew (w.heap.size + 1 + 1) (i * 10) x.q.row)) := by
        have b := pb 0 (Nat.zero_le _)
        exact (Keep.drew (fun j => j = w.heap.size + 1 + 1) w7).more ⟨b.os, b.tape, b.output, by rw [ps]; exact Nat.le_refl _, fun j _ hn => po j hn⟩
      clear hHeld n0 n1 n2 n3 n4 n5 n6 n7 n8 n9 x3 p2 po ps pb I7d THR
      show _
      generalize putR w7.drew (w.heap.size + 1 + 1) (i * 10) x.q.row = w8 at *
      have x3 := cell_blk (K8.out.blk I7.out.bx (by omega)) 3 (v := .slice (some ⟨w.heap.size + 1 + 1, 0, none⟩) (n + 3) (n + 3)) rfl
      have p2 := cell_blk (K8.out.blk I7.out.bp (by omega)) 2 (v := .slice (some ⟨g, off, none⟩) n c) rfl
      have n8 := (NK7.out.keep K8.out hgG).all.2.2.2.2.2.2.2.2.1
      rw [HNE.out] at n8
      have hsi : ((ys.map (·.q) ++ List.replicate (n + 3 - i) (zN 0)).set i x.q)[i]? = some x.q := List.getElem?_set_self HPL.out
      have HSI := hide hsi
      have hc8 := (R8.out.node i x.q hsi).all.2.2.2.2.2.2.2.2.1
      have f8 := R8.out.froz (i * 10 + 8)
      have hln20 : (x.nl.length : Int) ≤ (x.nl.length : Int) + 20 := by omega
      clear hsi
      go_upto_region 10 with fail
      as_aux_lemma =>
      refine RL.wp_region_held_last (S := fun wx => wx.cell? ⟨w.heap.size + 1 + 1 + 1, 3, none⟩ = some (.slice (some ⟨w.heap.size + 1 + 1, 0, none⟩) (n + 3) (n + 3)) ∧ wx.cell? ⟨w.heap.size, 2, none⟩ = some (.slice (some ⟨g, off, none⟩) n c) ∧ wx.cell? ⟨g, off + i * 10 + 8, none⟩ = some (.slice x.q.ne.1 x.nl.length x.q.ne.2.2)) rfl (by kernel_rfl) (by kernel_rfl) ⟨x3, p2, n8⟩ (fun hHeld => ?_)
      change wpAnyH _ _ _ _ _ 15 (Array.replicate 15 false) _ _
      simp only [List.dropLast, List.getLast, List.cons_append, List.nil_append, RL.still]
      refine wpAnyH_take (i := 0) (oi := _) (v := ?_) rfl (by kernel_rfl) (by kernel_rfl) (by kernel_rfl) (fun _ _ _ h => h) (Or.inl ⟨by rfl, ?_⟩) (by assumption) ?_
      rotate_left
      · (intro w hSw; (try dsimp only at hSw); go_simp)
        all_goals with_reducible rfl
      go_simp
      refine wpAnyH_take (i := 1) (oi := _) (v := ?_) rfl (by kernel_rfl) (by kernel_rfl) (by kernel_rfl) (fun _ _ _ h => h) (Or.inl ⟨by rfl, ?_⟩) (by assumption) ?_
      rotate_left
      · (intro w hSw; (try dsimp only at hSw); go_simp)
        all_goals with_reducible rfl
      go_simp
      refine wpAnyH_take (i := 2) (oi := _) (v := ?_) rfl (by kernel_rfl) (by kernel_rfl) (by kernel_rfl) (fun _ _ _ h => h) (Or.inl ⟨by rfl, ?_⟩) (by assumption) ?_
      rotate_left
      · (intro w hSw; (try dsimp only at hSw); go_simp)
        all_goals with_reducible rfl
      go_simp
      refine wpAnyH_take (i := 3) (oi := _) (v := ?_) rfl (by kernel_rfl) (by kernel_rfl) (by kernel_rfl) (fun _ _ _ h => h) (Or.inl ⟨by rfl, ?_⟩) (by assumption) ?_
      rotate_left
      · (intro w hSw; (try dsimp only at hSw); go_simp)
        all_goals with_reducible rfl
      go_simp
      refine wpAnyH_take (i := 4) (oi := _) (v := ?_) rfl (by kernel_rfl) (by kernel_rfl) (by kernel_rfl) (fun _ _ _ h => h) (Or.inl ⟨by rfl, ?_⟩) (by assumption) ?_
      rotate_left
      · (intro w hSw; (try dsimp only at hSw); go_simp)
        all_goals with_reducible rfl
      go_simp
      refine wpAnyH_take (i := 5) (oi := _) (v := ?_) rfl (by kernel_rfl) (by kernel_rfl) (by kernel_rfl) (fun _ _ _ h => h) (Or.inl ⟨by rfl, ?_⟩) (by assumption) ?_
      rotate_left
      · (intro w hSw; (try dsimp only at hSw); go_simp)
        all_goals with_reducible rfl
      go_simp
      refine wpAnyH_take (i := 6) (oi := _) (v := ?_) rfl (by kernel_rfl) (by kernel_rfl) (by kernel_rfl) (fun _ _ _ h => h) (Or.inl ⟨by rfl, ?_⟩) (by assumption) ?_
      rotate_left
      · (intro w hSw; (try dsimp only at hSw); go_simp)
        all_goals with_reducible rfl
      go_simp
      refine wpAnyH_take (i := 7) (oi := _) (v := ?_) rfl (by kernel_rfl) (by kernel_rfl) (by kernel_rfl) (fun _ _ _ h => h) (Or.inl ⟨by rfl, ?_⟩) (by assumption) ?_
      rotate_left
      · (intro w hSw; (try dsimp only at hSw); go_simp)
        all_goals with_reducible rfl
      go_simp
      refine wpAnyH_take (i := 8) (oi := _) (v := ?_) rfl (by kernel_rfl) (by kernel_rfl) (by kernel_rfl) (fun _ _ _ h => h) (Or.inl ⟨by rfl, ?_⟩) (by assumption) ?_
      rotate_left
      · (intro w hSw; (try dsimp only at hSw); go_simp)
        all_goals with_reducible rfl
      go_simp
      refine wpAnyH_take (i := 9) (oi := _) (v := ?_) rfl (by kernel_rfl) (by kernel_rfl) (by kernel_rfl) (fun _ _ _ h => h) (Or.inl ⟨by rfl, ?_⟩) (by assumption) ?_
      rotate_left
      · (intro w hSw; (try dsimp only at hSw); go_simp)
        all_goals with_reducible rfl
      go_simp
      refine wpAnyH_take (i := 10) (oi := _) (v := ?_) rfl (by kernel_rfl) (by kernel_rfl) (by kernel_rfl) (fun _ _ _ h => h) (Or.inl ⟨by rfl, ?_⟩) (by assumption) ?_
      rotate_left
      · (intro w hSw; (try dsimp only at hSw); go_simp)
        all_goals with_reducible rfl
      go_simp
      refine wpAnyH_take (i := 11) (oi := _) (v := ?_) rfl (by kernel_rfl) (by kernel_rfl) (by kernel_rfl) (fun _ _ _ h => h) (Or.inl ⟨by rfl, ?_⟩) (by assumption) ?_
      rotate_left
      · (intro w hSw; (try dsimp only at hSw); go_simp)
        all_goals with_reducible rfl
      go_simp
      refine wpAnyH_take (i := 12) (oi := _) (v := ?_) rfl (by kernel_rfl) (by kernel_rfl) (by kernel_rfl) (fun _ _ _ h => h) (Or.inl ⟨by rfl, ?_⟩) (by assumption) ?_
      rotate_left
      · (intro w hSw; (try dsimp only at hSw); go_simp)
        all_goals with_reducible rfl
      go_simp
      refine wpAnyH_take (i := 13) (oi := _) (v := ?_) rfl (by kernel_rfl) (by kernel_rfl) (by kernel_rfl) (fun _ _ _ h => h) (Or.inl ⟨by rfl, ?_⟩) (by assumption) ?_
      rotate_left
      · (intro w hSw; (try dsimp only at hSw); go_simp)
        all_goals with_reducible rfl
      go_simp
      refine wpAnyH_take (i := 14) (oi := _) (v := ?_) rfl (by kernel_rfl) (by kernel_rfl) (by kernel_rfl) (fun _ _ _ h => h) (Or.inl ⟨by rfl, ?_⟩) (by assumption) ?_
      rotate_left
      · (intro w hSw; (try dsimp only at hSw); go_simp)
        all_goals with_reducible rfl
      go_simp
      refine wpAnyH_done (by kernel_rfl) ?_ _
      simp only [RL.endQ]
      unfold Oper.wp
      go_simp
      have R9 := hide ((R8.out.set1 HSI.out 8 (by decide) ({ x.q with ne := (some ⟨g1, 0, none⟩, x.nl.length, x.nl.length + 20) } : Nd) (.slice (some ⟨g1, 0, none⟩) x.nl.length (x.nl.length + 20)) rfl).new (Keep.drew (fun _ => False) _) (fun f => f))
      have K9 : Hid (Keep (fun j => j = w.heap.size + 1 + 1) w7 (w8.setCell ⟨w.heap.size + 1 + 1, i * 10 + 8, none⟩ (.slice (some ⟨g1, 0, none⟩) x.nl.length (x.nl.length + 20))).drew) := (K8.out.more ((keep_cell w8 (w.heap.size + 1 + 1) (i * 10 + 8) (.slice (some ⟨g1, 0, none⟩) x.nl.length (x.nl.length + 20))).mono fun _ h => h)).more (Keep.drew _ _)
      clear hHeld x3 p2 n8 hc8 f8 R8 K8 hln20
      generalize (w8.setCell ⟨w.heap.size + 1 + 1, i * 10 + 8, none⟩ (.slice (some ⟨g1, 0, none⟩) x.nl.length (x.nl.length + 20))).drew = w9 at *
      have x3 := cell_blk (K9.out.blk I7.out.bx (by omega)) 3 (v := .slice (some ⟨w.heap.size + 1 + 1, 0, none⟩) (n + 3) (n + 3)) rfl
      have p2 := cell_blk (K9.out.blk I7.out.bp (by omega)) 2 (v := .slice (some ⟨g, off, none⟩) n c) rfl
      have n9 := (NK7.out.keep K9.out hgG).all.2.2.2.2.2.2.2.2.2
      rw [HAF.out] at n9
      have hsi : (((ys.map (·.q) ++ List.replicate (n + 3 - i) (zN 0)).set i x.q).set i ({ x.q with ne := (some ⟨g1, 0, none⟩, x.nl.length, x.nl.length + 20) } : Nd))[i]? = some ({ x.q with ne := (some ⟨g1, 0, none⟩, x.nl.length, x.nl.length + 20) } : Nd) := List.getElem?_set_self (by rw [List.length_set]; exact HPL.out)
      have HSJ := hide hsi
      have hc9 := (R9.out.node i _ hsi).all.2.2.2.2.2.2.2.2.2
      simp only at hc9
      have f9 := R9.out.froz (i * 10 + 9)
      have hln20 : (x.al.length : Int) ≤ (x.al.length : Int) + 20 := by omega
      clear hsi
      go_upto_region 11 with fail
      as_aux_lemma =>
      refine RL.wp_region_held_last (S := fun wx => wx.cell? ⟨w.heap.size + 1 + 1 + 1, 3, none⟩ = some (.slice (some ⟨w.heap.size + 1 + 1, 0, none⟩) (n + 3) (n + 3)) ∧ wx.cell? ⟨w.heap.size, 2, none⟩ = some (.slice (some ⟨g, off, none⟩) n c) ∧ wx.cell? ⟨g, off + i * 10 + 9, none⟩ = some (.slice x.q.af.1 x.al.length x.q.af.2.2)) rfl (by kernel_rfl) (by kernel_rfl) ⟨x3, p2, n9⟩ (fun hHeld => ?_)
      change wpAnyH _ _ _ _ _ 15 (Array.replicate 15 false) _ _
      simp only [List.dropLast, List.getLast, List.cons_append, List.nil_append, RL.still]
      refine wpAnyH_take (i := 0) (oi := _) (v := ?_) rfl (by kernel_rfl) (by kernel_rfl) (by kernel_rfl) (fun _ _ _ h => h) (Or.inl ⟨by rfl, ?_⟩) (by assumption) ?_
      rotate_left
      · (intro w hSw; (try dsimp only at hSw); go_simp)
        all_goals with_reducible rfl
      go_simp
      refine wpAnyH_take (i := 1) (oi := _) (v := ?_) rfl (by kernel_rfl) (by kernel_rfl) (by kernel_rfl) (fun _ _ _ h => h) (Or.inl ⟨by rfl, ?_⟩) (by assumption) ?_
      rotate_left
      · (intro w hSw; (try dsimp only at hSw); go_simp)
        all_goals with_reducible rfl
      go_simp
      refine wpAnyH_take (i := 2) (oi := _) (v := ?_) rfl (by kernel_rfl) (by kernel_rfl) (by kernel_rfl) (fun _ _ _ h => h) (Or.inl ⟨by rfl, ?_⟩) (by assumption) ?_
      rotate_left
      · (intro w hSw; (try dsimp only at hSw); go_simp)
        all_goals with_reducible rfl
      go_simp
      refine wpAnyH_take (i := 3) (oi := _) (v := ?_) rfl (by kernel_rfl) (by kernel_rfl) (by kernel_rfl) (fun _ _ _ h => h) (Or.inl ⟨by rfl, ?_⟩) (by assumption) ?_
      rotate_left
      · (intro w hSw; (try dsimp only at hSw); go_simp)
        all_goals with_reducible rfl
      go_simp
      refine wpAnyH_take (i := 4) (oi := _) (v := ?_) rfl (by kernel_rfl) (by kernel_rfl) (by kernel_rfl) (fun _ _ _ h => h) (Or.inl ⟨by rfl, ?_⟩) (by assumption) ?_
      rotate_left
      · (intro w hSw; (try dsimp only at hSw); go_simp)
        all_goals with_reducible rfl
      go_simp
      refine wpAnyH_take (i := 5) (oi := _) (v := ?_) rfl (by kernel_rfl) (by kernel_rfl) (by kernel_rfl) (fun _ _ _ h => h) (Or.inl ⟨by rfl, ?_⟩) (by assumption) ?_
      rotate_left
      · (intro w hSw; (try dsimp only at hSw); go_simp)
        all_goals with_reducible rfl
      go_simp
      refine wpAnyH_take (i := 6) (oi := _) (v := ?_) rfl (by kernel_rfl) (by kernel_rfl) (by kernel_rfl) (fun _ _ _ h => h) (Or.inl ⟨by rfl, ?_⟩) (by assumption) ?_
      rotate_left
      · (intro w hSw; (try dsimp only at hSw); go_simp)
        all_goals with_reducible rfl
      go_simp
      refine wpAnyH_take (i := 7) (oi := _) (v := ?_) rfl (by kernel_rfl) (by kernel_rfl) (by kernel_rfl) (fun _ _ _ h => h) (Or.inl ⟨by rfl, ?_⟩) (by assumption) ?_
      rotate_left
      · (intro w hSw; (try dsimp only at hSw); go_simp)
        all_goals with_reducible rfl
      go_simp
      refine wpAnyH_take (i := 8) (oi := _) (v := ?_) rfl (by kernel_rfl) (by kernel_rfl) (by kernel_rfl) (fun _ _ _ h => h) (Or.inl ⟨by rfl, ?_⟩) (by assumption) ?_
      rotate_left
      · (intro w hSw; (try dsimp only at hSw); go_simp)
        all_goals with_reducible rfl
      go_simp
      refine wpAnyH_take (i := 9) (oi := _) (v := ?_) rfl (by kernel_rfl) (by kernel_rfl) (by kernel_rfl) (fun _ _ _ h => h) (Or.inl ⟨by rfl, ?_⟩) (by assumption) ?_
      rotate_left
      · (intro w hSw; (try dsimp only at hSw); go_simp)
        all_goals with_reducible rfl
      go_simp
      refine wpAnyH_take (i := 10) (oi := _) (v := ?_) rfl (by kernel_rfl) (by kernel_rfl) (by kernel_rfl) (fun _ _ _ h => h) (Or.inl ⟨by rfl, ?_⟩) (by assumption) ?_
      rotate_left
      · (intro w hSw; (try dsimp only at hSw); go_simp)
        all_goals with_reducible rfl
      go_simp
      refine wpAnyH_take (i := 11) (oi := _) (v := ?_) rfl (by kernel_rfl) (by kernel_rfl) (by kernel_rfl) (fun _ _ _ h => h) (Or.inl ⟨by rfl, ?_⟩) (by assumption) ?_
      rotate_left
      · (intro w hSw; (try dsimp only at hSw); go_simp)
        all_goals with_reducible rfl
      go_simp
      refine wpAnyH_take (i := 12) (oi := _) (v := ?_) rfl (by kernel_rfl) (by kernel_rfl) (by kernel_rfl) (fun _ _ _ h => h) (Or.inl ⟨by rfl, ?_⟩) (by assumption) ?_
      rotate_left
      · (intro w hSw; (try dsimp only at hSw); go_simp)
        all_goals with_reducible rfl
      go_simp
      refine wpAnyH_take (i := 13) (oi := _) (v := ?_) rfl (by kernel_rfl) (by kernel_rfl) (by kernel_rfl) (fun _ _ _ h => h) (Or.inl ⟨by rfl, ?_⟩) (by assumption) ?_
      rotate_left
      · (intro w hSw; (try dsimp only at hSw); go_simp)
        all_goals with_reducible rfl
      go_simp
      refine wpAnyH_take (i := 14) (oi := _) (v := ?_) rfl (by kernel_rfl) (by kernel_rfl) (by kernel_rfl) (fun _ _ _ h => h) (Or.inl ⟨by rfl, ?_⟩) (by assumption) ?_
      rotate_left
      · (intro w hSw; (try dsimp only at hSw); go_simp)
        all_goals with_reducible rfl
      go_simp
      refine wpAnyH_done (by kernel_rfl) ?_ _
      simp only [RL.endQ]
      unfold Oper.wp
      go_simp
      have R10 := hide ((R9.out.set1 HSJ.out 9 (by decide) ({ x.q with ne := (some ⟨g1, 0, none⟩, x.nl.length, x.nl.length + 20), af := (some ⟨g2, 0, none⟩, x.al.length, x.al.length + 20) } : Nd) (.slice (some ⟨g2, 0, none⟩) x.al.length (x.al.length + 20)) rfl).new (Keep.drew (fun _ => False) _) (fun f => f))
      have K10 : Hid (Keep (fun j => j = w.heap.size + 1 + 1) w7 (w9.setCell ⟨w.heap.size + 1 + 1, i * 10 + 9, none⟩ (.slice (some ⟨g2, 0, none⟩) x.al.length (x.al.length + 20))).drew) := (K9.out.more ((keep_cell w9 (w.heap.size + 1 + 1) (i * 10 + 9) (.slice (some ⟨g2, 0, none⟩) x.al.length (x.al.length + 20))).mono fun _ h => h)).more (Keep.drew _ _)
      clear hHeld x3 p2 n9 hc9 f9 R9 K9 hln20
      generalize (w9.setCell ⟨w.heap.size + 1 + 1, i * 10 + 9, none⟩ (.slice (some ⟨g2, 0, none⟩) x.al.length (x.al.length + 20))).drew = w10 at *
      have hty := rows_typ I7.out.rows
      have I11 := hide (I7.out.node hB K10.out (y := ⟨({ x.q with ne := (some ⟨g1, 0, none⟩, x.nl.length, x.nl.length + 20), af := (some ⟨g2, 0, none⟩, x.al.length, x.al.length + 20) } : Nd), x.nl, x.al⟩) (by have := R10.out; rwa [List.set_set, List.set_set] at this) hlt HX.out ⟨rfl, rfl, rfl, ⟨g1, rfl, O17.out.typ K10.out hty⟩, ⟨g2, rfl, O27.out.typ K10.out hty⟩⟩ ⟨g1, g2, rfl, rfl, HG1.out, HG2.out⟩)
      clear R10 K10 hty I7 O17 O27 NK7 HSI HSJ HPL hgG hin3 hin4
      go_wp2_with fail
      go_roundw
      · exact ⟨i + 1, rfl, by omega, ys ++ [⟨({ x.q with ne := (some ⟨g1, 0, none⟩, x.nl.length, x.nl.length + 20), af := (some ⟨g2, 0, none⟩, x.al.length, x.al.length + 20) } : Nd), x.nl, x.al⟩], .slice u4 (i + 1) u6, .slice t4 (i + 1) t6, by have := I11.out; simpa [noteN, noteA] using this⟩
      · show n - ((i : Int) + 1).toNat < n - (i : Int).toNat
        omega
    · as_aux_lemma =>
      obtain rfl : i = n := by omega
      have J0 := hide I.all
      clear I HD hlt hi
      go_wp2_with fail
      clear p2
      go_loopw [7] (fun v7 wr => ∃ (j : Nat) (ms : List Nd), v7 = .int .i64 ((i + j : Nat)) ∧ j ≤ 3 ∧ Hid (ms = List.replicate j mkN ++ List.replicate (3 - j) (zN 0) ∧ LdJ w nm dl a i c xs ys v1 v2 ms (noteN ys) (noteA ys) wr)) (fun v7 _ => i + 3 - (intOf v7).toNat)
      case atStart => exact ⟨0, _, rfl, Nat.zero_le _, rfl, J0.out⟩
      case round => as_aux_lemma =>
        clear J0
        obtain ⟨j, ms, rfl, hj, JJ⟩ := hrel
        have HMS := hide JJ.out.1
        have J := hide JJ.out.2
        clear JJ
        have x3 := cell_blk J.out.bx 3 (v := .slice (some ⟨w.heap.size + 1 + 1, 0, none⟩) (i + 3) (i + 3)) rfl
        by_cases hlt : j < 3
        · as_aux_lemma =>
          have THR := hide (rows_there J.out.rows (i := i + j) (by simp [J.out.len, J.out.ml]; omega))
          have hlt4 : ((i + j : Nat) : Int) < (i : Int) + 3 := by omega
          have hlt5 : i + j < i + 3 := by omega
          go_upto_region 15 with fail
          go_wp2_with (with_reducible refine wpList_store_mid rfl 44 _ _ rfl _ _ _ rfl rfl ?_ ?_ ?_ ?_)
          case refine_1 => exact THR.out
          case refine_2 => rw [info_node10]; rfl
          case refine_3 => exact row_one (⟨⟨#[109, 97, 114, 107]⟩, 0, 0, 0, 0, 0, 0, 0, (none, 0, 0), (none, 0, 0)⟩ : Nd)
          case roundEnd =>
            refine ⟨⟨j + 1, ms.set j (⟨⟨#[109, 97, 114, 107]⟩, 0, 0, 0, 0, 0, 0, 0, (none, 0, 0), (none, 0, 0)⟩ : Nd), by rw [show ((i + (j + 1) : Nat) : Int) = (i : Int) + j + 1 by omega], by omega, ?_⟩, ?_⟩
            · rw [putR_eq]
              exact ⟨by rw [HMS.out]; exact marks_step hlt, J.out.put hlt (⟨⟨#[109, 97, 114, 107]⟩, 0, 0, 0, 0, 0, 0, 0, (none, 0, 0), (none, 0, 0)⟩ : Nd)⟩
            · show i + 3 - ((i : Int) + j + 1).toNat < i + 3 - (((i + j : Nat) : Int)).toNat
              omega
        · as_aux_lemma =>
          obtain rfl : j = 3 := by omega
          have p0 := cell_blk J.out.bp 0 (v := .string nm) rfl
          have p1 := cell_blk J.out.bp 1 (v := .int .i64 dl) rfl
          have p2 := cell_blk J.out.bp 2 (v := .slice a i c) rfl
          have hle3 : (i : Int) ≤ (i : Int) + 3 := by omega
          have kd := Keep.drew (fun _ => False) wr
          have BXD := hide (kd.blk J.out.bx (fun f => f))
          have THR := hide (blk_there (o := 0) (n := 3) BXD.out (by show (3 : Nat) ≤ 6; decide))
          go_upto_region 16 with fail
          as_aux_lemma =>
          refine RL.wp_region_held_last (S := fun wx => wx.cell? ⟨w.heap.size, 0, none⟩ = some (.string nm) ∧ wx.cell? ⟨w.heap.size, 1, none⟩ = some (.int .i64 dl) ∧ wx.cell? ⟨w.heap.size, 2, none⟩ = some (.slice a i c) ∧ wx.cell? ⟨w.heap.size + 1 + 1 + 1, 3, none⟩ = some (.slice (some ⟨w.heap.size + 1 + 1, 0, none⟩) (i + 3) (i + 3))) rfl (by kernel_rfl) (by kernel_rfl) ⟨p0, p1, p2, x3⟩ (fun hHeld => ?_)
          change wpAnyH _ _ _ _ _ 13 (Array.replicate 13 false) _ _
          simp only [List.dropLast, List.getLast, List.cons_append, List.nil_append, RL.still]
          refine wpAnyH_take (i := 0) (oi := _) (v := ?_) rfl (by kernel_rfl) (by kernel_rfl) (by kernel_rfl) (fun _ _ _ h => h) (Or.inl ⟨by rfl, ?_⟩) (by assumption) ?_
          rotate_left
          · (intro w hSw; (try dsimp only at hSw); go_simp)
            all_goals with_reducible rfl
          go_simp
          refine wpAnyH_take (i := 1) (oi := _) (v := ?_) rfl (by kernel_rfl) (by kernel_rfl) (by kernel_rfl) (fun _ _ _ h => h) (Or.inl ⟨by rfl, ?_⟩) (by assumption) ?_
          rotate_left
          · (intro w hSw; (try dsimp only at hSw); go_simp)
            all_goals with_reducible rfl
          go_simp
          refine wpAnyH_take (i := 2) (oi := _) (v := ?_) rfl (by kernel_rfl) (by kernel_rfl) (by kernel_rfl) (fun _ _ _ h => h) (Or.inl ⟨by rfl, ?_⟩) (by assumption) ?_
          rotate_left
          · (intro w hSw; (try dsimp only at hSw); go_simp)
            all_goals with_reducible rfl
          go_simp
          refine wpAnyH_take (i := 3) (oi := _) (v := ?_) rfl (by kernel_rfl) (by kernel_rfl) (by kernel_rfl) (fun _ _ _ h => h) (Or.inl ⟨by rfl, ?_⟩) (by assumption) ?_
          rotate_left
          · (intro w hSw; (try dsimp only at hSw); go_simp)
            all_goals with_reducible rfl
          go_simp
          refine wpAnyH_take (i := 4) (oi := _) (v := ?_) rfl (by kernel_rfl) (by kernel_rfl) (by kernel_rfl) (fun _ _ _ h => h) (Or.inl ⟨by rfl, ?_⟩) (by assumption) ?_
          rotate_left
          · (intro w hSw; (try dsimp only at hSw); go_simp)
            all_goals with_reducible rfl
          go_simp
          refine wpAnyH_take (i := 5) (oi := _) (v := ?_) rfl (by kernel_rfl) (by kernel_rfl) (by kernel_rfl) (fun _ _ _ h => h) (Or.inl ⟨by rfl, ?_⟩) (by assumption) ?_
          rotate_left
          · (intro w hSw; (try dsimp only at hSw); go_simp)
            all_goals with_reducible rfl
          go_simp
          refine wpAnyH_take (i := 6) (oi := _) (v := ?_) rfl (by kernel_rfl) (by kernel_rfl) (by kernel_rfl) (fun _ _ _ h => h) (Or.inl ⟨by rfl, ?_⟩) (by assumption) ?_
          rotate_left
          · (intro w hSw; (try dsimp only at hSw); go_simp)
            all_goals with_reducible rfl
          go_simp
          refine wpAnyH_take (i := 7) (oi := _) (v := ?_) rfl (by kernel_rfl) (by kernel_rfl) (by kernel_rfl) (fun _ _ _ h => h) (Or.inl ⟨by rfl, ?_⟩) (by assumption) ?_
          rotate_left
          · (intro w hSw; (try dsimp only at hSw); go_simp)
            all_goals with_reducible rfl
          go_simp
          refine wpAnyH_take (i := 8) (oi := _) (v := ?_) rfl (by kernel_rfl) (by kernel_rfl) (by kernel_rfl) (fun _ _ _ h => h) (Or.inl ⟨by rfl, ?_⟩) (by assumption) ?_
          rotate_left
          · (intro w hSw; (try dsimp only at hSw); go_simp)
            all_goals with_reducible rfl
          go_simp
          refine wpAnyH_take (i := 9) (oi := _) (v := ?_) rfl (by kernel_rfl) (by kernel_rfl) (by kernel_rfl) (fun _ _ _ h => h) (Or.inl ⟨by rfl, ?_⟩) (by assumption) ?_
          rotate_left
          · (intro w hSw; (try dsimp only at hSw); go_simp)
            all_goals with_reducible rfl
          go_simp
          refine wpAnyH_take (i := 10) (oi := _) (v := ?_) rfl (by kernel_rfl) (by kernel_rfl) (by kernel_rfl) (fun _ _ _ h => h) (Or.inl ⟨by rfl, ?_⟩) (by assumption) ?_
          rotate_left
          · (intro w hSw; (try dsimp only at hSw); go_simp)
            all_goals with_reducible rfl
          go_simp
          refine wpAnyH_take (i := 11) (oi := _) (v := ?_) rfl (by kernel_rfl) (by kernel_rfl) (by kernel_rfl) (fun _ _ _ h => h) (Or.inl ⟨by rfl, ?_⟩) (by assumption) ?_
          rotate_left
          · (intro w hSw; (try dsimp only at hSw); go_simp)
            all_goals with_reducible rfl
          go_simp
          refine wpAnyH_take (i := 12) (oi := _) (v := ?_) rfl (by kernel_rfl) (by kernel_rfl) (by kernel_rfl) (fun _ _ _ h => h) (Or.inl ⟨by rfl, ?_⟩) (by assumption) ?_
          rotate_left
          · (intro w hSw; (try dsimp only at hSw); go_simp)
            all_goals with_reducible rfl
          go_simp
          refine wpAnyH_done (by kernel_rfl) ?_ _
          simp only [RL.endQ]
          refine wp_store_mid 24 _ _ rfl (w.heap.size + 1 + 1 + 1) 0 #[.string nm, .int .i64 dl, .slice (some ⟨w.heap.size + 1 + 1, 0, none⟩) i (i + 3)] (by rfl) (by rfl) THR.out (by rw [info_plan3]; rfl) (one3 _ _ _ _ _) ?_
          dsimp only [Act.put]
          have hE := (set_blk (set_blk (set_blk BXD.out 0 (.string nm)) 1 (.int .i64 dl)) 2 (.slice (some ⟨w.heap.size + 1 + 1, 0, none⟩) i (i + 3))).trans rfl
          have kk : Keep (fun k => k = w.heap.size + 1 + 1 + 1) wr (((wr.drew.setCell ⟨w.heap.size + 1 + 1 + 1, 0, none⟩ (.string nm)).setCell ⟨w.heap.size + 1 + 1 + 1, 1, none⟩ (.int .i64 dl)).setCell ⟨w.heap.size + 1 + 1 + 1, 2, none⟩ (.slice (some ⟨w.heap.size + 1 + 1, 0, none⟩) i (i + 3))) := (((Keep.drew _ wr).more (keep_cell _ _ 0 _)).more (keep_cell _ _ 1 _)).more (keep_cell _ _ 2 _)
          change Exit.then _ _ Exit.normal _ (((wr.drew.setCell ⟨w.heap.size + 1 + 1 + 1, 0, none⟩ (.string nm)).setCell ⟨w.heap.size + 1 + 1 + 1, 1, none⟩ (.int .i64 dl)).setCell ⟨w.heap.size + 1 + 1 + 1, 2, none⟩ (.slice (some ⟨w.heap.size + 1 + 1, 0, none⟩) i (i + 3)))
          have HE := hide hE
          have KK := hide kk
          clear hHeld p0 p1 p2 x3 kd BXD THR hE kk hle3
          generalize ((wr.drew.setCell ⟨w.heap.size + 1 + 1 + 1, 0, none⟩ (.string nm)).setCell ⟨w.heap.size + 1 + 1 + 1, 1, none⟩ (.int .i64 dl)).setCell ⟨w.heap.size + 1 + 1 + 1, 2, none⟩ (.slice (some ⟨w.heap.size + 1 + 1, 0, none⟩) i (i + 3)) = w11 at *
          have BR := hide (KK.out.blk J.out.br (by omega))
          have THR := hide (blk_there (o := 0) (n := 6) BR.out (by show (6 : Nat) ≤ 6; decide))
          have e0 := cell_blk HE.out 0 (v := .string nm) rfl
          have e1 := cell_blk HE.out 1 (v := .int .i64 dl) rfl
          have e2 := cell_blk HE.out 2 (v := .slice (some ⟨w.heap.size + 1 + 1, 0, none⟩) i (i + 3)) rfl
          have e3 := cell_blk HE.out 3 (v := .slice (some ⟨w.heap.size + 1 + 1, 0, none⟩) (i + 3) (i + 3)) rfl
          have e4 := cell_blk HE.out 4 (v := v1) rfl
          have e5 := cell_blk HE.out 5 (v := v2) rfl
          go_upto_region 17 with fail
          as_aux_lemma =>
          go_wp2_with (with_reducible refine wpList_store_mid rfl 29 _ _ rfl _ _ _ rfl rfl ?_ ?_ ?_ ?_)
          case refine_1 => exact THR.out
          case refine_2 => rw [info_loan]; rfl
          case refine_3 => exact one6 _ _ _ _ _ _ _ _ _ (by obtain ⟨_, _, _, e⟩ := J.out.one.1; rw [e]; rfl) (by obtain ⟨_, _, _, e⟩ := J.out.one.2; rw [e]; rfl)
          case refine_4 =>
            have hF : (w11.setCells (w.heap.size + 1) 0 [.string nm, .int .i64 dl, .slice (some ⟨w.heap.size + 1 + 1, 0, none⟩) i (i + 3), .slice (some ⟨w.heap.size + 1 + 1, 0, none⟩) (i + 3) (i + 3), v1, v2]).heap[w.heap.size + 1]? = some (.cells [.string nm, .int .i64 dl, .slice (some ⟨w.heap.size + 1 + 1, 0, none⟩) i (i + 3), .slice (some ⟨w.heap.size + 1 + 1, 0, none⟩) (i + 3) (i + 3), v1, v2].toArray 29 (0, 0)) := (set_blk (set_blk (set_blk (set_blk (set_blk (set_blk BR.out 0 (.string nm)) 1 (.int .i64 dl)) 2 (.slice (some ⟨w.heap.size + 1 + 1, 0, none⟩) i (i + 3))) 3 (.slice (some ⟨w.heap.size + 1 + 1, 0, none⟩) (i + 3) (i + 3))) 4 v1) 5 v2).trans rfl
            have kF : Keep (fun k => k = w.heap.size + 1) w11 (w11.setCells (w.heap.size + 1) 0 [.string nm, .int .i64 dl, .slice (some ⟨w.heap.size + 1 + 1, 0, none⟩) i (i + 3), .slice (some ⟨w.heap.size + 1 + 1, 0, none⟩) (i + 3) (i + 3), v1, v2]) := (((((keep_cell _ _ 0 _).more (keep_cell _ _ 1 _)).more (keep_cell _ _ 2 _)).more (keep_cell _ _ 3 _)).more (keep_cell _ _ 4 _)).more (keep_cell _ _ 5 _)
            have ht1 : ∀ k, k = w.heap.size + 1 + 1 + 1 → ∀ cs, wr.heap[k]? ≠ some (.cells cs 3 (0, 0)) := fun k hk cs hh => by
              rw [hk, J.out.bx] at hh
              injection hh with hh
              injection hh with _ hh
              exact absurd hh (by decide)
            have ht2 : ∀ k, k = w.heap.size + 1 → ∀ cs, w11.heap[k]? ≠ some (.cells cs 3 (0, 0)) := fun k hk cs hh => by
              rw [hk, BR.out] at hh
              injection hh with hh
              injection hh with _ hh
              exact absurd hh (by decide)
            refine bodyPost_ret (res_loan rfl _ _ (w.heap.size + 1) _ _ _ _ _ _ rfl hF) rfl ?_
            have hms : ms = List.replicate 3 mkN := by rw [HMS.out]; rfl
            have hge1 := fun k e => own_ge J.out.o1 (k := k) e
            have hge2 := fun k e => own_ge J.out.o2 (k := k) e
            refine ⟨w.heap.size + 1 + 1, ys, v1, v2, rfl, ⟨J.out.len, by rw [← hms]; exact (J.out.rows.new KK.out (by omega)).new kF (by omega), (J.out.lts.keep KK.out ht1).keep kF ht2, ownsRow_keep (ownsRow_keep J.out.o1 KK.out fun k e1 e2 => by have := hge1 k e2; omega) kF (fun k e1 e2 => by have := hge1 k e2; omega), ownsRow_keep (ownsRow_keep J.out.o2 KK.out fun k e1 e2 => by have := hge2 k e2; omega) kF (fun k e1 e2 => by have := hge2 k e2; omega), J.out.fr, by omega⟩, (J.out.kp.trans KK.out fun k e => .inr (by omega)).trans kF fun k e => .inr (by omega)⟩
end Gr
end Go.Proofs.Ytpblmleodcaamaa
