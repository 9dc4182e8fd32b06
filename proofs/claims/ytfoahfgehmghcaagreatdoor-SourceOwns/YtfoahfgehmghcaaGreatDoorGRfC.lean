import Derived.Test.YtfoahfgehmghcaaGreatDoorGRfA
import Derived.Test.YtfoahfgehmghcaaGreatDoorGRfN
import Derived.Test.YtfoahfgehmghcaaGreatDoorGRfF
import Derived.Deep.RegionHeld3
import Derived.Deep.Cut
import Derived.Test.YtfoahfgehmghcaaGreatDoorUMod
import Derived.Laws.MakeOwn
/- The document's Check (escapementref10): edges, node. -/
namespace Go.Proofs.YtfoahfgehmghcaaGreatDoor
namespace Gr
open Go.RowKit

theorem bytes_ne {a b : ByteArray} (h : ¬ a = b) : (a.toList == b.toList) = false := by
  rw [beq_eq_false_iff_ne]
  intro e
  rw [ByteArray.toList_eq, ByteArray.toList_eq] at e
  exact h (ByteArray.ext (Array.toList_inj.1 e))
theorem any_comm (a b : List Int) : (b.any fun e => a.contains e) = (a.any fun e => b.contains e) := by
  rw [Bool.eq_iff_iff]
  simp only [List.any_eq_true, List.contains_iff_mem]
  constructor <;> (rintro ⟨x, h1, h2⟩; exact ⟨x, h2, h1⟩)
set_option maxRecDepth 100000 in
set_option maxHeartbeats 4000000 in
theorem refEdges_any (nm : ByteArray) (dl : Int) (s : Option Addr × Nat × Nat) (xs : List No) (B : Nat) (w : World) (hP : RdP B w s xs) (i : Nat) (x : No) (hx : xs[i]? = some x) :
    Calls Tryz.prog 62 #[.agg #[.string nm, .int .i64 dl, .slice s.1 s.2.1 s.2.2], .int .i64 (i : Nat)] w fun e w' => e = .returned (.bool (eOk x i xs.length)) ∧ Keep (fun _ => False) w w' := by
  obtain ⟨a, n, c⟩ := s
  have hn : n = xs.length := hP.1
  have hi : i < n := by rw [hn]; exact (List.getElem?_eq_some_iff.1 hx).1
  rw [← hn]
  have hnb : n ≤ 1172812402926 := hP.2.1
  obtain ⟨g, off, x', ha, hg, hx', hnd, hz1, hz2⟩ := hP.at (i := i) hi
  obtain rfl : x' = x := by rw [hx] at hx'; exact (Option.some.inj hx').symm
  have ha : a = some ⟨g, off, none⟩ := ha
  subst ha
  clear hP hx hx' hn
  have K1 := Keep.alloc (fun _ => False) w (.cells #[.string nm, .int .i64 dl, .slice (some ⟨g, off, none⟩) n c] 24)
  have hb1 := heap_alloc_new w (.cells #[.string nm, .int .i64 dl, .slice (some ⟨g, off, none⟩) n c] 24)
  have hs1 : (w.alloc (.cells #[.string nm, .int .i64 dl, .slice (some ⟨g, off, none⟩) n c] 24)).heap.size = w.heap.size + 1 := by simp
  have hnd1 := hnd.keep K1 (fun h => h)
  obtain ⟨⟨nmx, la, bu, cl, be, ba, ca, ji, ⟨ne1, ne2, ne3⟩, ⟨af1, af2, af3⟩⟩, nl, al⟩ := x'
  obtain ⟨n0, n1, n2, n3, n4, n5, n6, n7, n8, n9⟩ := hnd1.all
  simp only at n0 n1 n2 n3 n4 n5 n6 n7 n8 n9 hz1 hz2
  have K2 := Keep.alloc (fun _ => False) (w.alloc (.cells #[.string nm, .int .i64 dl, .slice (some ⟨g, off, none⟩) n c] 24)) (.cells #[.string nmx, .int .i64 la, .int .i64 bu, .int .i64 cl, .int .i64 be, .int .i64 ba, .int .i64 ca, .int .i64 ji, .slice ne1 ne2 ne3, .slice af1 af2 af3] 32)
  have hb2 := heap_alloc_new (w.alloc (.cells #[.string nm, .int .i64 dl, .slice (some ⟨g, off, none⟩) n c] 24)) (.cells #[.string nmx, .int .i64 la, .int .i64 bu, .int .i64 cl, .int .i64 be, .int .i64 ba, .int .i64 ca, .int .i64 ji, .slice ne1 ne2 ne3, .slice af1 af2 af3] 32)
  rw [hs1] at hb2
  have hb1 := K2.blk hb1 (fun h => h)
  have KW := hide (K1.more K2)
  have HZ1 := hide hz1
  have HZ2 := hide hz2
  have HB1 := hide hb1
  have HB2 := hide hb2
  have hne : ne2 ≤ 17592186044416 := hz1.2.1
  have HNE : Hid (ne2 = nl.length) := hz1.1
  have HE : Hid (eOk ⟨⟨nmx, la, bu, cl, be, ba, ca, ji, (ne1, ne2, ne3), (af1, af2, af3)⟩, nl, al⟩ (i : Nat) (n : Nat) = (lOk (-1) nl i n && lOk (-1) al i n && !(nl.any fun e => al.contains e))) := by
    show _ = _
    rw [← any_comm]
    rfl
  generalize eOk ⟨⟨nmx, la, bu, cl, be, ba, ca, ji, (ne1, ne2, ne3), (af1, af2, af3)⟩, nl, al⟩ (i : Nat) (n : Nat) = r at *
  have R1 := hide (fun W h => refRising_any (ne1, ne2, ne3) nl i n B W h)
  have R2 := hide (fun W h => refRising_any (af1, af2, af3) al i n B W h)
  have IN := hide (fun v W h => refIn_any (af1, af2, af3) al v B W h)
  clear K1 K2 hb1 hb2 hs1 hnd hnd1 hz1 hz2
  go_enter Tryz.func62, Tryz.ntmps62
  go_upto_region 2 with fail
  generalize ((w.alloc (.cells #[.string nm, .int .i64 dl, .slice (some ⟨g, off, none⟩) n c] 24)).alloc (.cells #[.string nmx, .int .i64 la, .int .i64 bu, .int .i64 cl, .int .i64 be, .int .i64 ba, .int .i64 ca, .int .i64 ji, .slice ne1 ne2 ne3, .slice af1 af2 af3] 32)) = w2 at *
  clear n0 n1 n2 n3 n4 n5 n6 n7 n8 n9
  generalize hN : w.heap.size = N at *
  have HM : Hid (∀ W, Keep (fun _ => False) w2 W → W.cell? ⟨N, 2, none⟩ = some (.slice (some ⟨g, off, none⟩) n c) ∧ W.cell? ⟨N + 1, 8, none⟩ = some (.slice ne1 ne2 ne3) ∧ W.cell? ⟨N + 1, 9, none⟩ = some (.slice af1 af2 af3) ∧ RdZ B W (ne1, ne2, ne3) nl ∧ RdZ B W (af1, af2, af3) al ∧ Keep (fun _ => False) w W) := fun W k =>
    ⟨cell_blk (k.blk HB1.out (fun h => h)) 2 rfl, cell_blk (k.blk HB2.out (fun h => h)) 8 rfl, cell_blk (k.blk HB2.out (fun h => h)) 9 rfl, HZ1.out.new (KW.out.more k), HZ2.out.new (KW.out.more k), KW.out.more k⟩
  clear KW HZ1 HZ2 HB1 HB2
  obtain ⟨c2, c8, c9, hz1, hz2, _⟩ := HM.out w2 (Keep.refl _ _)
  have HZ1 := hide hz1
  clear hz1 hz2
  go_wp2_with fail
  go_at_call 82
  refine (R1.out _ HZ1.out).mono ?_
  rintro e w3 ⟨rfl, k3⟩
  have K3 := hide k3
  clear HZ1 R1 k3 c2 c8 c9
  obtain ⟨c2, c8, c9, hz1, hz2, _⟩ := HM.out w3 K3.out
  have HZ2 := hide hz2
  clear hz1 hz2
  generalize lOk (-1) nl i n = r1 at *
  go_wp2_with fail
  go_at_call 82
  refine (R2.out _ HZ2.out).mono ?_
  rintro e w4 ⟨rfl, k4⟩
  have K4 := hide (K3.out.more k4)
  clear HZ2 R2 k4 c2 c8 c9 K3
  obtain ⟨c2, c8, c9, hz1, hz2, kw⟩ := HM.out w4 K4.out
  have KK := hide kw
  clear hz1 hz2 kw
  generalize lOk (-1) al i n = r2 at *
  cases r1
  · obtain rfl : r = false := by rw [HE.out]; rfl
    go_wp2_with fail
    go_ret
    exact ⟨rfl, KK.out⟩
  cases r2
  · obtain rfl : r = false := by rw [HE.out]; rfl
    go_wp2_with fail
    go_ret
    exact ⟨rfl, KK.out⟩
  have HR : Hid ((!(nl.any fun e => al.contains e)) = r) := by rw [HE.out]; rfl
  clear HE
  go_wp2_with fail
  clear c2 c8 c9 KK
  go_loopw [8] (fun iv wr => ∃ (k : Nat), iv = .int .i64 (k : Nat) ∧ k ≤ ne2 ∧ Hid (Keep (fun _ => False) w2 wr ∧ (!((nl.drop k).any fun e => al.contains e)) = r)) (fun iv _ => ne2 - (intOf iv).toNat)
  case atStart => exact ⟨0, rfl, Nat.zero_le _, K4.out, HR.out⟩
  case round =>
    obtain ⟨k, rfl, hk, HD⟩ := hrel
    clear HR K4
    obtain ⟨c2, c8, c9, hz1, hz2, kw⟩ := HM.out wr HD.out.1
    by_cases hlt : k < ne2
    · obtain ⟨g', off', y, hy0, hg', hy, hyc⟩ := hz1.at hlt
      have hy0 : ne1 = some ⟨g', off', none⟩ := hy0
      subst hy0
      have HZ2 := hide hz2
      have HD2 : Hid ((!(al.contains y || (nl.drop (k + 1)).any fun e => al.contains e)) = r) := by
        have := HD.out.2
        rwa [drop_z nl k y hy] at this
      have e1 := fun u : Behind wr => u.cell c8
      have e2 := fun u : Behind wr => u.cell c9
      have e3 := fun u : Behind wr => u.cell hyc
      have INy : Hid (∀ u : Behind wr, Calls Tryz.prog 63 #[.slice af1 af2 af3, .int .i64 y] u.1 fun e w' => e = .returned (.bool (al.contains y)) ∧ w' = u.1) := fun u => IN.out y u.1 (HZ2.out.new u.keep)
      have HK1 := hide HD.out.1
      clear hz1 hz2 kw hy HD IN HZ2
      haveI := behindNE wr
      generalize al.contains y = q at *
      go_wp2_with fail
      refine quiet_behind (by kernel_rfl) (by kernel_rfl) ?_
      repeat (go_big_quiet_step ((go_at_call 63; exact calls_behind' _ (INy.out _))))
      refine wpQuiet_nil ?_
      intro _ hw'
      obtain ⟨u, hw''⟩ := hw'
      subst hw''
      have KU := hide (HK1.out.more u.keep)
      have KV := hide ((HM.out _ KU.out).2.2.2.2.2)
      clear e1 e2 e3 INy c2 c8 c9
      cases q
      · go_wp2
        go_roundw
        · exact ⟨k + 1, rfl, by omega, KU.out, by simpa using HD2.out⟩
        · show ne2 - ((k : Int) + 1).toNat < ne2 - (k : Int).toNat
          omega
      · obtain rfl : r = false := by rw [← HD2.out]; rfl
        go_wp2
        go_ret
        exact ⟨rfl, KV.out⟩
    · obtain rfl : r = true := by rw [← HD.out.2, List.drop_eq_nil_of_le (by have := HNE.out; omega)]; rfl
      have KV := hide kw
      go_wp2_with fail
      go_ret
      exact ⟨rfl, KV.out⟩

/-- what the document's node says of the i-th one -/
def nCode (xs : List No) (i : Nat) (x : No) : Nat := if !isNm x.q.nm || (xs.take i).any (fun t => decide (t.q.nm = x.q.nm)) then 103 else if !fOk x.q then 104 else if !eOk x i xs.length then 105 else 0
set_option maxRecDepth 100000 in
set_option maxHeartbeats 4000000 in
theorem refNode_any (nm : ByteArray) (dl : Int) (s : Option Addr × Nat × Nat) (xs : List No) (B : Nat) (w : World) (hP : RdP B w s xs) (i : Nat) (x : No) (hx : xs[i]? = some x) (hsz : ∀ y ∈ xs, y.q.nm.size ≤ 9223372036854775807) :
    Calls Tryz.prog 36 #[.agg #[.string nm, .int .i64 dl, .slice s.1 s.2.1 s.2.2], .int .i64 (i : Nat)] w fun e w' => e = .returned (.int .i64 (nCode xs i x : Nat)) ∧ Keep (fun _ => False) w w' := by
  obtain ⟨a, n, c⟩ := s
  have hn : n = xs.length := hP.1
  have hi : i < n := by rw [hn]; exact (List.getElem?_eq_some_iff.1 hx).1
  have hnb : n ≤ 1172812402926 := hP.2.1
  have HSZ := hide hsz
  have IS := hide (fun W => refIsName_any x.q.nm W (hsz x (List.mem_of_getElem? hx)))
  have FI := hide (fun W => refFields_any x.q W)
  have ED := hide (fun W h => refEdges_any nm dl (a, n, c) xs B W h i x hx)
  have HC : Hid (nCode xs i x = if !isNm x.q.nm || (xs.take i).any (fun t => decide (t.q.nm = x.q.nm)) then 103 else if !fOk x.q then 104 else if !eOk x i xs.length then 105 else 0) := rfl
  generalize nCode xs i x = r at *
  have K1 := Keep.alloc (fun _ => False) w (.cells #[.string nm, .int .i64 dl, .slice a n c] 24)
  have hb1 := heap_alloc_new w (.cells #[.string nm, .int .i64 dl, .slice a n c] 24)
  have HP := hide hP
  have HX := hide hx
  have HB1 := hide hb1
  have KW := hide K1
  clear hP hx hn hsz K1 hb1
  go_enter Tryz.func36, Tryz.ntmps36
  go_upto_region 1 with fail
  generalize w.alloc (.cells #[.string nm, .int .i64 dl, .slice a n c] 24) = w2 at *
  generalize hN : w.heap.size = N at *
  have HM : Hid (∀ W, Keep (fun _ => False) w2 W → (W.cell? ⟨N, 0, none⟩ = some (.string nm) ∧ W.cell? ⟨N, 1, none⟩ = some (.int .i64 dl) ∧ W.cell? ⟨N, 2, none⟩ = some (.slice a n c)) ∧ RdP B W (a, n, c) xs ∧ Keep (fun _ => False) w W) := fun W k =>
    ⟨⟨cell_blk (k.blk HB1.out (fun h => h)) 0 rfl, cell_blk (k.blk HB1.out (fun h => h)) 1 rfl, cell_blk (k.blk HB1.out (fun h => h)) 2 rfl⟩, HP.out.new (KW.out.more k), KW.out.more k⟩
  clear HP KW HB1
  have HNX : Hid (∀ W, Keep (fun _ => False) w2 W → ∃ g off, a = some ⟨g, off, none⟩ ∧ NodeAt W g (off + i * 10) x.q) := fun W k => by
    obtain ⟨g, off, y, h1, _, h2, h3, _⟩ := (HM.out W k).2.1.at (i := i) hi
    rw [HX.out] at h2
    obtain rfl := Option.some.inj h2
    exact ⟨g, off, h1, h3⟩
  obtain ⟨⟨c0, c1, c2⟩, _⟩ := HM.out w2 (Keep.refl _ _)
  obtain ⟨g, off, rfl, hnd⟩ := HNX.out w2 (Keep.refl _ _)
  have n0 := hnd.all.1
  go_wp2_with fail
  go_at_call 35
  refine (IS.out _).mono ?_
  rintro e w3 ⟨rfl, rfl⟩
  clear IS
  have K0 := hide (Keep.refl (fun _ => False) w3)
  cases hq : isNm x.q.nm
  · obtain rfl : r = 103 := by rw [HC.out, hq]; rfl
    have KV := hide (HM.out w3 K0.out).2.2
    go_wp2_with fail
    go_ret
    exact ⟨rfl, KV.out⟩
  have HC2 : Hid (r = if (xs.take i).any (fun t => decide (t.q.nm = x.q.nm)) then 103 else if !fOk x.q then 104 else if !eOk x i xs.length then 105 else 0) := by
    have := HC.out
    rw [hq] at this
    exact this
  clear HC hq c0 c1 c2 n0 hnd
  go_wp2_with fail
  go_loopw [5] (fun iv wr => ∃ (j : Nat), iv = .int .i64 (j : Nat) ∧ j ≤ i ∧ Hid (Keep (fun _ => False) w3 wr ∧ (xs.take j).any (fun t => decide (t.q.nm = x.q.nm)) = false)) (fun iv _ => i - (intOf iv).toNat)
  case atStart => exact ⟨0, rfl, Nat.zero_le _, K0.out, rfl⟩
  case round =>
    obtain ⟨j, rfl, hj, HD⟩ := hrel
    clear K0
    obtain ⟨⟨c0, c1, c2⟩, hp, kw⟩ := HM.out wr HD.out.1
    obtain ⟨g', off', hg', hnd⟩ := HNX.out wr HD.out.1
    injection hg' with hg'
    injection hg' with e1 e2
    subst e1
    subst e2
    by_cases hlt : j < i
    · obtain ⟨g', off', y, hg', _, hy, hny, _⟩ := hp.at (i := j) (by show j < n; omega)
      have hg' : some (⟨g, off, none⟩ : Addr) = some ⟨g', off', none⟩ := hg'
      injection hg' with hg'
      injection hg' with e1 e2
      subst e1
      subst e2
      have f1 := fun u : Behind wr => u.cell c2
      have f2 := fun u : Behind wr => u.cell hnd.all.1
      have f3 := fun u : Behind wr => u.cell hny.all.1
      have HK1 := hide HD.out.1
      have HT : Hid ((xs.take (j + 1)).any (fun t => decide (t.q.nm = x.q.nm)) = decide (y.q.nm = x.q.nm)) := by
        show _ = _
        rw [take_snoc xs j y hy, List.any_append, HD.out.2]
        simp
      have HTI : Hid (j < i ∧ xs[j]? = some y) := ⟨hlt, hy⟩
      haveI := behindNE wr
      generalize x.q.nm = s1 at *
      generalize y.q.nm = s2 at *
      clear hp hny hnd c0 c1 c2 hy HD
      by_cases hs : s2 = s1
      · subst hs
        obtain rfl : r = 103 := by
          rw [HC2.out, if_pos]
          have h1 := HT.out
          simp only [decide_true] at h1
          obtain ⟨t, ht, he⟩ := List.any_eq_true.1 h1
          refine List.any_eq_true.2 ⟨t, ?_, he⟩
          obtain ⟨k, hk⟩ := List.getElem?_of_mem ht
          rw [List.getElem?_take] at hk
          split at hk
          · rename_i hkl
            refine List.mem_of_getElem? (i := k) ?_
            rw [List.getElem?_take, if_pos (by omega)]
            exact hk
          · cases hk
        go_wp2_with fail
        refine quiet_behind (by kernel_rfl) (by kernel_rfl) ?_
        repeat (go_big_quiet_step (fail))
        refine wpQuiet_nil ?_
        intro _ hw'
        obtain ⟨u, hw''⟩ := hw'
        subst hw''
        have KV := hide (kw.more u.keep)
        clear f1 f2 f3 kw
        go_wp2
        go_ret
        exact ⟨rfl, KV.out⟩
      · have hs' := bytes_ne hs
        go_wp2_with fail
        refine quiet_behind (by kernel_rfl) (by kernel_rfl) ?_
        repeat (go_big_quiet_step (fail))
        refine wpQuiet_nil ?_
        intro _ hw'
        obtain ⟨u, hw''⟩ := hw'
        subst hw''
        have KV := hide (HK1.out.more u.keep)
        clear f1 f2 f3 kw
        go_wp2
        go_roundw
        · exact ⟨j + 1, rfl, by omega, KV.out, by rw [HT.out]; simpa using hs⟩
        · show i - ((j : Int) + 1).toNat < i - (j : Int).toNat
          omega
    · obtain rfl : j = i := by omega
      have HC3 : Hid (r = if !fOk x.q then 104 else if !eOk x j xs.length then 105 else 0) := by
        have := HC2.out
        rw [HD.out.2] at this
        exact this
      have HK1 := hide HD.out.1
      clear HC2 HD hp kw
      obtain ⟨⟨nmx, la, bu, cl, be, ba, ca, ji, ⟨ne1, ne2, ne3⟩, ⟨af1, af2, af3⟩⟩, nl, al⟩ := x
      obtain ⟨n0, n1, n2, n3, n4, n5, n6, n7, n8, n9⟩ := hnd.all
      simp only [Nd.row] at n0 n1 n2 n3 n4 n5 n6 n7 n8 n9 FI HC3
      clear hnd
      generalize fOk ⟨nmx, la, bu, cl, be, ba, ca, ji, (ne1, ne2, ne3), (af1, af2, af3)⟩ = fo at *
      go_wp2_with fail
      go_at_call 61
      refine (FI.out _).mono ?_
      rintro e w4 ⟨rfl, k4⟩
      have HK2 := hide (HK1.out.more k4)
      clear k4 n0 n1 n2 n3 n4 n5 n6 n7 n8 n9 c0 c1 c2 FI
      obtain ⟨⟨c0, c1, c2⟩, hp, kw⟩ := HM.out w4 HK2.out
      have KV := hide kw
      have HP4 := hide hp
      clear kw hp
      cases fo
      · obtain rfl : r = 104 := HC3.out
        go_wp2_with fail
        go_ret
        exact ⟨rfl, KV.out⟩
      generalize eOk ⟨⟨nmx, la, bu, cl, be, ba, ca, ji, (ne1, ne2, ne3), (af1, af2, af3)⟩, nl, al⟩ (j : Nat) xs.length = eo at *
      go_wp2_with fail
      go_at_call 62
      refine (ED.out _ HP4.out).mono ?_
      rintro e w5 ⟨rfl, k5⟩
      have KX := hide (KV.out.more k5)
      clear k5 c0 c1 c2 ED HP4
      cases eo
      · obtain rfl : r = 105 := HC3.out
        go_wp2_with fail
        go_ret
        exact ⟨rfl, KX.out⟩
      · obtain rfl : r = 0 := HC3.out
        go_wp2_with fail
        go_ret
        exact ⟨rfl, KX.out⟩
end Gr
end Go.Proofs.YtfoahfgehmghcaaGreatDoor

/- The document's Check (escapementref10): Waits. -/
namespace Go.Proofs.YtfoahfgehmghcaaGreatDoor
namespace Gr
open Go.RowKit

theorem info_boolR : (Tryz.prog.info? 4).map (fun i => (i.zero, i.size, i.bytes)) = some (some (.bool false), 1, 1) := by kernel_rfl
theorem made_boolsR (u : World) (n : Nat) (hn : n ≤ 1048576) : (Instr.makeSlice 81 (.int .i64 (n : Nat)) (.int .i64 (n : Nat))).run Tryz.prog u = .ok (.slice (some ⟨u.heap.size, 0, none⟩) n n) (u.alloc (.cells (madeCells #[.bool false] n) 4)) := by
  obtain ⟨i0, hi, hz0, hz1, hz2⟩ := info_parts info_boolR
  have h := run_make (P := Tryz.prog) (w := u) 81 4 i0 (.bool false) Tryz.underlying81 hi hz0 .i64 .i64 (n : Int) (n : Int) (by omega) (Int.le_refl _) (by rw [hz2]; omega) (by omega)
  simpa [hz1, Value.cells] using h
/-- a row of flags in memory -/
def SnAt (W : World) (B n : Nat) (f : Nat → Bool) : Prop := ∃ cs : Array Value, W.heap[B]? = some (.cells cs 4 (0, 0)) ∧ cs.size = n ∧ ∀ j, j < n → cs[j]? = some (.bool (f j))
theorem SnAt.keep {W W' : World} {B n : Nat} {f : Nat → Bool} (h : SnAt W B n f) {S : Nat → Prop} (hk : Keep S W W') (hS : ¬ S B) : SnAt W' B n f := by
  obtain ⟨cs, h1, h2⟩ := h
  exact ⟨cs, hk.blk h1 hS, h2⟩
def setF (f : Nat → Bool) (k : Nat) : Nat → Bool := fun j => if j = k then true else f j
theorem SnAt.set {W : World} {B n : Nat} {f : Nat → Bool} (h : SnAt W B n f) (k : Nat) : SnAt (W.setCell ⟨B, k, none⟩ (.bool true)) B n (setF f k) := by
  obtain ⟨cs, h1, h2, h3⟩ := h
  refine ⟨_, set_blk h1 k _, by simp [h2], fun j hj => ?_⟩
  rw [Array.getElem?_setIfInBounds]
  unfold setF
  by_cases e : k = j
  · subst e; simp [h2, hj]
  · rw [if_neg e, if_neg (Ne.symm e), h3 j hj]
theorem sn_new (w : World) (n : Nat) : SnAt (w.alloc (.cells (madeCells #[.bool false] n) 4)) w.heap.size n (fun _ => false) :=
  ⟨_, heap_alloc_new _ _, by simp [madeCells], fun j hj => by simp [madeCells, hj, Nat.mod_one]⟩
theorem SnAt.at {W : World} {B n : Nat} {f : Nat → Bool} (h : SnAt W B n f) {j : Nat} (hj : j < n) : W.cell? ⟨B, j, none⟩ = some (.bool (f j)) ∧ W.frozen? ⟨B, j, none⟩ = false := by
  obtain ⟨cs, h1, _, h3⟩ := h
  exact ⟨cell_blk h1 j (h3 j hj), frozen_blk h1 j⟩
/-- how many flags are down -/
def low (f : Nat → Bool) (n : Nat) : Nat := ((List.range n).filter fun j => !f j).length
def isUp : Option Value → Bool
  | some (.bool true) => true
  | _ => false
/-- the same, off memory -/
def lowW (w : World) (B n : Nat) : Nat := low (fun j => isUp (w.cell? ⟨B, j, none⟩)) n
theorem low_congr {f g : Nat → Bool} {n : Nat} (h : ∀ j, j < n → f j = g j) : low f n = low g n := by
  unfold low
  congr 1
  refine List.filter_congr fun j hj => ?_
  rw [h j (List.mem_range.1 hj)]
theorem SnAt.low {W : World} {B n : Nat} {f : Nat → Bool} (h : SnAt W B n f) : lowW W B n = Gr.low f n :=
  low_congr fun j hj => by
    rw [(h.at hj).1]
    cases f j <;> rfl
theorem low_set {f : Nat → Bool} : ∀ {n k : Nat}, k < n → f k = false → low (setF f k) n < low f n
  | 0, _, h, _ => by omega
  | n + 1, k, h, hf => by
    unfold low
    rw [List.range_succ, List.filter_append, List.filter_append, List.length_append, List.length_append]
    by_cases e : k = n
    · subst e
      have h1 : low (setF f k) k = low f k := low_congr fun j hj => by unfold setF; rw [if_neg (by omega)]
      unfold low at h1
      rw [h1]
      simp [setF, hf]
    · have h1 := low_set (n := n) (k := k) (by omega) hf
      unfold low at h1
      have h2 : setF f k n = f n := by unfold setF; rw [if_neg (fun h => e h.symm)]
      simp only [List.filter_cons, List.filter_nil, h2]
      omega
theorem eg_mem {xs : List No} {i : Nat} {x : No} (h : xs[i]? = some x) (hv : ∀ e ∈ x.nl ++ x.al, 0 ≤ e) (k : Nat) : k ∈ eg xs i ↔ (x.nl.contains (k : Int) || x.al.contains (k : Int)) = true := by
  rw [eg_at h]
  simp only [List.mem_append, List.mem_map, Bool.or_eq_true, List.contains_iff_mem]
  constructor
  · rintro (⟨e, he, rfl⟩ | ⟨e, he, rfl⟩)
    · exact .inl (by rw [Int.toNat_of_nonneg (hv e (List.mem_append_left _ he))]; exact he)
    · exact .inr (by rw [Int.toNat_of_nonneg (hv e (List.mem_append_right _ he))]; exact he)
  · rintro (h | h)
    · exact .inl ⟨_, h, by simp⟩
    · exact .inr ⟨_, h, by simp⟩
/-- who is marked waits; where nothing more comes, who waits is marked -/
theorem closed_waits {E : Nat → List Nat} {f : Nat → Bool} {i0 n : Nat} (hE : ∀ i k, k ∈ E i → i < n ∧ k < n) (hc : ∀ i, i < n → (i = i0 ∨ f i = true) → ∀ k ∈ E i, f k = true) : ∀ k, Waits E i0 k → f k = true := by
  have h : ∀ (m a b : Nat), wt E m a b → (a = i0 ∨ f a = true) → f b = true := by
    intro m
    induction m with
    | zero => intro a b h ha; exact hc a (hE a b h).1 ha b h
    | succ m ih =>
      rintro a b ⟨x, hx, h⟩ ha
      exact ih x b h (.inr (hc a (hE a x hx).1 ha x hx))
  rintro k ⟨m, hm⟩
  exact h m i0 k hm (.inl rfl)
end Gr
end Go.Proofs.YtfoahfgehmghcaaGreatDoor
