/- The law's fit: a plan whose numbers may be. -/
import Derived.Test.YtgjjiomnbhildaaVOwn
import Derived.Deep.Cut
import Derived.Laws.Rows
import Derived.Deep.RegionLaw
import Derived.Test.YtgjjiomnbhildaaRLst
namespace Go.Proofs.Ytgjjiomnbhildaa
open Go.RowKit

/-- a node whose numbers may be -/
def V.fitN (q : V.Nd) : V.Nd := ⟨⟨#[]⟩, 0, 1 + V.pk q.bu 100, 1 + V.pk q.cl 1099511627776, 0, 0, 1 + V.pk q.ca 1099511627776, V.pk q.ji 1099511627777, (none, 0, 0), (none, 0, 0)⟩
theorem V.fitN_ok (q : V.Nd) : V.nOk (V.fitN q) ∧ V.Nd.In (V.fitN q) := by
  have h1 := V.pk_lt q.bu 100 (by decide)
  have h2 := V.pk_lt q.cl 1099511627776 (by decide)
  have h3 := V.pk_lt q.ca 1099511627776 (by decide)
  have h4 := V.pk_lt q.ji 1099511627777 (by decide)
  unfold V.fitN V.nOk V.Nd.In V.i64
  simp only
  omega

theorem own_base {w : World} {b b' : Nat} {e : TypeId} {s : Nat} {v : Value} {n : Nat} {xs : List Value} (h : w.ownsRow b e s v n xs) (hb : b' ≤ b) : w.ownsRow b' e s v n xs := by
  refine ⟨h.1, ?_⟩
  rcases h.2 with h | ⟨g, cap, cur, rfl, e2, e3⟩
  · exact .inl h
  · exact .inr ⟨g, cap, cur, rfl, Nat.le_trans hb e2, e3⟩
theorem info_plan : (Try.prog.info? 37).map (·.size) = some 3 := by kernel_rfl
theorem res_one {fn : Func} {p : Tmp} (h : fn.results = #[.cell p 37]) (tmps : Array Value) (w : World) (g : Nat) (x y z : Value) (hp : tmps.getD p undef = .pointer (some ⟨g, 0, none⟩)) (hg : w.heap[g]? = some (.cells #[x, y, z] 37 (0, 0))) :
    (results fn tmps).run Try.prog w = .ok (.agg #[x, y, z]) w :=
  results_cell_row h tmps w g 37 #[x, y, z] (0, 0) _ hp hg Try.underlying37 rfl (by rw [info_plan]; rfl)
theorem wrF {x : Int} (h0 : -9223372036854775808 ≤ x) (h1 : x ≤ 9223372036854775807) : IntKind.i64.wrap x = x := by rw [IntKind.wrap_i64]; omega
set_option maxHeartbeats 4000000 in
theorem fit_any (nm : ByteArray) (dl : Int) (a : Option Addr) (n c : Nat) (qs : List V.Nd) (w : World) (hdl : V.i64 dl) (hqs : RdN w a n qs) :
    Calls Try.prog 9 #[.agg #[.string nm, .int .i64 dl, .slice a n c]] w fun e w' => ∃ v rs, e = .returned (.agg #[.string ⟨#[]⟩, .int .i64 (1 + V.pk dl 1099511627776), v]) ∧ rs.length ≤ 64 ∧ (∀ q ∈ rs, V.nOk q ∧ V.Nd.In q) ∧ w'.ownsRow w.heap.size 24 10 v rs.length (V.flat rs) ∧ Below w.heap.size w w' := by
  have P1 := hide (fun w => pick_any dl 1099511627776 hdl.1 hdl.2 (by decide) (by decide) w)
  have q1 := V.pk_lt dl 1099511627776 (by decide)
  generalize V.pk dl 1099511627776 = D at *
  obtain ⟨hn, hn2, hin, hq⟩ := hqs
  have HN := hide hn
  have HQ := hide hq
  have HIN := hide hin
  clear hn hq hin
  go_enter Try.func9, Try.ntmps9
  go_wp2_with fail
  go_at_call 10
  refine (P1.out _).mono ?_
  rintro e w1 ⟨rfl, hw⟩
  subst hw
  go_wp2_with fail
  generalize hwx : ((w.alloc (Obj.cells #[.string nm, .int .i64 dl, .slice a n c] 37)).alloc (Obj.cells #[.string ⟨#[]⟩, .int .i64 0, .slice none 0 0] 37)).alloc (Obj.cells #[.string ⟨#[]⟩, .int .i64 (1 + (D : Int)), .slice none 0 0] 37) = wx
  have HS := hide (show wx.heap.size = w.heap.size + 3 by rw [← hwx]; simp)
  have HK := hide (show Below w.heap.size w wx by rw [← hwx]; exact (((Below.refl _ _).alloc (Nat.le_refl _) _).alloc (by simp) _).alloc (by simp; omega) _)
  have HP := hide (show wx.heap[w.heap.size]? = some (.cells #[.string nm, .int .i64 dl, .slice a n c] 37 (0, 0)) by
    rw [← hwx, Below.heap_alloc _ _ _ (by simp; omega), Below.heap_alloc _ _ _ (by simp)]; exact heap_alloc_new _ _)
  have HO := hide (show wx.heap[w.heap.size + 1 + 1]? = some (.cells #[.string ⟨#[]⟩, .int .i64 (1 + (D : Int)), .slice none 0 0] 37 (0, 0)) by
    rw [← hwx, show w.heap.size + 1 + 1 = ((w.alloc (Obj.cells #[.string nm, .int .i64 dl, .slice a n c] 37)).alloc (Obj.cells #[.string ⟨#[]⟩, .int .i64 0, .slice none 0 0] 37)).heap.size by simp]; exact heap_alloc_new _ _)
  have HX := hide (show wx.heap[w.heap.size + 1]? = some (.cells #[.string ⟨#[]⟩, .int .i64 0, .slice none 0 0] 37 (0, 0)) by
    rw [← hwx, Below.heap_alloc _ _ _ (by simp), show w.heap.size + 1 = (w.alloc (Obj.cells #[.string nm, .int .i64 dl, .slice a n c] 37)).heap.size by simp]; exact heap_alloc_new _ _)
  clear hwx
  go_loopw [4] (fun iv wr => ∃ (i : Nat) (v : Value), iv = .int .i64 (i : Nat) ∧ i ≤ n ∧ i ≤ 64 ∧ Hid (wr.ownsRow (w.heap.size + 3) 24 10 v i (V.flat ((qs.take i).map V.fitN)) ∧ wr.heap[w.heap.size + 1 + 1]? = some (.cells #[.string ⟨#[]⟩, .int .i64 (1 + (D : Int)), v] 37 (0, 0)) ∧ wr.heap[w.heap.size]? = some (.cells #[.string nm, .int .i64 dl, .slice a n c] 37 (0, 0)) ∧ Below w.heap.size w wr ∧ w.heap.size + 3 ≤ wr.heap.size ∧ wr.heap[w.heap.size + 1]? = some (.cells #[.string ⟨#[]⟩, .int .i64 0, .slice none 0 0] 37 (0, 0)))) (fun iv _ => n - (intOf iv).toNat)
  case atStart => exact ⟨0, .slice none 0 0, rfl, Nat.zero_le _, Nat.zero_le _, World.ownsRow_nil _ _ _ _, HO.out, HP.out, HK.out, Nat.le_of_eq HS.out.symm, HX.out⟩
  case round =>
    obtain ⟨i, v, rfl, hi, hi64, HI⟩ := hrel
    have p2 := cell_blk HI.out.2.2.1 2 (v := .slice a n c) rfl
    have o2 := cell_blk HI.out.2.1 2 (v := v) rfl
    by_cases hlt : i < n ∧ i < 64
    · obtain ⟨hl1, hl2⟩ := hlt
      obtain ⟨b, off, rfl, hbl, hnode⟩ := HQ.out.resolve_left (by omega)
      have hlen := HN.out
      obtain ⟨q, hq⟩ : ∃ q, qs[i]? = some q := ⟨_, List.getElem?_eq_getElem (by omega)⟩
      have hN := (hnode i q hq).keep HI.out.2.2.2.1
      have HQI := hide hq
      have hqi := HIN.out q (List.mem_of_getElem? hq)
      have P2 := hide (fun w => pick_any q.bu 100 hqi.2.1.1 hqi.2.1.2 (by decide) (by decide) w)
      have P3 := hide (fun w => pick_any q.cl 1099511627776 hqi.2.2.1.1 hqi.2.2.1.2 (by decide) (by decide) w)
      have P4 := hide (fun w => pick_any q.ca 1099511627776 hqi.2.2.2.2.2.1.1 hqi.2.2.2.2.2.1.2 (by decide) (by decide) w)
      have P5 := hide (fun w => delayOf_any q.ji hqi.2.2.2.2.2.2.1 hqi.2.2.2.2.2.2.2 w)
      have l2 := V.pk_lt q.bu 100 (by decide)
      have l3 := V.pk_lt q.cl 1099511627776 (by decide)
      have l4 := V.pk_lt q.ca 1099511627776 (by decide)
      have l5 := V.pk_lt q.ji 1099511627777 (by decide)
      have HFE := hide (show V.fitN q = ⟨⟨#[]⟩, 0, 1 + V.pk q.bu 100, 1 + V.pk q.cl 1099511627776, 0, 0, 1 + V.pk q.ca 1099511627776, V.pk q.ji 1099511627777, (none, 0, 0), (none, 0, 0)⟩ from rfl)
      generalize V.pk q.bu 100 = B2 at *
      generalize V.pk q.cl 1099511627776 = B3 at *
      generalize V.pk q.ca 1099511627776 = B4 at *
      generalize V.pk q.ji 1099511627777 = B5 at *
      clear hnode hq hlen hqi
      obtain ⟨n0, n1, n2, n3, n4, n5, n6, n7, n8, n9⟩ := hN.all
      have NN := hide (NodeAt.new wr q 24)
      have KA := hide ((Below.refl wr.heap.size wr).alloc (Nat.le_refl _) (Obj.cells q.row.toArray 24))
      obtain ⟨nq, la, bu, cl, be, ba, ca, ji, ⟨ne1, ne2, ne3⟩, ⟨af1, af2, af3⟩⟩ := q
      simp only [V.Nd.row] at *
      go_upto_region 6 with fail
      generalize hwn : wr.alloc (Obj.cells #[.string nq, .int .i64 la, .int .i64 bu, .int .i64 cl, .int .i64 be, .int .i64 ba, .int .i64 ca, .int .i64 ji, .slice ne1 ne2 ne3, .slice af1 af2 af3] 24) = wn at *
      have HZN := hide (show wn.heap.size = wr.heap.size + 1 by rw [← hwn]; simp)
      clear hwn n0 n1 n2 n3 n4 n5 n6 n7 n8 n9 hN o2 p2
      obtain ⟨m0, m1, m2, m3, m4, m5, m6, m7, m8, m9⟩ := NN.out.all
      simp only [Nat.zero_add] at m0 m1 m2 m3 m4 m5 m6 m7 m8 m9
      have hOn : wn.heap[w.heap.size + 1 + 1]? = some (.cells #[.string ⟨#[]⟩, .int .i64 (1 + (D : Int)), v] 37 (0, 0)) := (KA.out.block _ (by have := HI.out.2.2.2.2.1; omega)).trans HI.out.2.1
      have o2 := cell_blk hOn 2 (v := v) rfl
      have ow := own_below (own_below HI.out.1 KA.out) ((Below.refl wn.heap.size wn).alloc (Nat.le_refl _) (Obj.cells #[.string ⟨#[]⟩, .int .i64 0, .int .i64 (1 + (B2 : Int)), .int .i64 (1 + (B3 : Int)), .int .i64 0, .int .i64 0, .int .i64 (1 + (B4 : Int)), .int .i64 (B5 : Int), .slice none 0 0, .slice none 0 0] 24)).drew
      have kz := ((Below.refl wn.heap.size wn).alloc (Nat.le_refl _) (Obj.cells #[.string ⟨#[]⟩, .int .i64 0, .int .i64 (1 + (B2 : Int)), .int .i64 (1 + (B3 : Int)), .int .i64 0, .int .i64 0, .int .i64 (1 + (B4 : Int)), .int .i64 (B5 : Int), .slice none 0 0, .slice none 0 0] 24)).drew
      have hll : ((qs.take i).map V.fitN).length = i := by have := HN.out; simp; omega
      obtain ⟨v', w4, hap, own4, gr4⟩ := append_node (by rw [hll]; exact ow) (by have := HI.out.2.2.2.2.1; have := HZN.out; simp; omega) (by omega) ⟨⟨#[]⟩, 0, 1 + (B2 : Int), 1 + (B3 : Int), 0, 0, 1 + (B4 : Int), (B5 : Int), (none, 0, 0), (none, 0, 0)⟩ (B := wn.heap.size) (fun j u hu => by
        rw [Addr.add_mid, Nat.zero_add]
        exact cell_blk (heap_alloc_new wn _) j (by simpa [V.Nd.row] using hu)) 1 35
      rw [hll] at own4
      obtain ⟨va, vc, rfl⟩ := own_shape own4
      have hO4 : w4.heap[w.heap.size + 1 + 1]? = some (.cells #[.string ⟨#[]⟩, .int .i64 (1 + (D : Int)), v] 37 (0, 0)) := by
        have hz1 : (wn.alloc (Obj.cells #[.string ⟨#[]⟩, .int .i64 0, .int .i64 (1 + (B2 : Int)), .int .i64 (1 + (B3 : Int)), .int .i64 0, .int .i64 0, .int .i64 (1 + (B4 : Int)), .int .i64 (B5 : Int), .slice none 0 0, .slice none 0 0] 24)).drew.heap[w.heap.size + 1 + 1]? = _ := (kz.block _ (by have := HI.out.2.2.2.2.1; have := HZN.out; omega)).trans hOn
        exact (gr4.block _ (Array.getElem?_eq_some_iff.1 hz1).1 (fun e => own_far ow hz1 (by decide) e.symm)).trans hz1
      have y2 := cell_blk hO4 2 (v := v) rfl
      have y2f := frozen_blk hO4 2
      have HAP := hide hap
      have OWN4 := hide own4
      have GR4 := hide gr4
      have HO4 := hide hO4
      have KZ := hide kz
      have OW := hide ow
      clear hap own4 gr4 hO4 kz ow hOn hll
      have hw2 : IntKind.i64.wrap (1 + (B2 : Int)) = 1 + (B2 : Int) := wrF (by omega) (by omega)
      have hw3 : IntKind.i64.wrap (1 + (B3 : Int)) = 1 + (B3 : Int) := wrF (by omega) (by omega)
      have hw4 : IntKind.i64.wrap (1 + (B4 : Int)) = 1 + (B4 : Int) := wrF (by omega) (by omega)
      have hz2 : (wn.alloc (Obj.cells #[.string ⟨#[]⟩, .int .i64 0, .int .i64 (1 + (B2 : Int)), .int .i64 (1 + (B3 : Int)), .int .i64 0, .int .i64 0, .int .i64 (1 + (B4 : Int)), .int .i64 (B5 : Int), .slice none 0 0, .slice none 0 0] 24)).drew.cell? ⟨w.heap.size + 1 + 1, 2, none⟩ = some v := by
        rw [KZ.out.cell (p := ⟨w.heap.size + 1 + 1, 2, none⟩) (show w.heap.size + 1 + 1 < wn.heap.size by have := HI.out.2.2.2.2.1; have := HZN.out; omega)]; exact o2
      have hne : ∀ u, (w4.setCell ⟨w.heap.size + 1 + 1, 2, none⟩ u).heap[wr.heap.size]? = w4.heap[wr.heap.size]? := fun u => Below.heap_setCell _ _ _ _ (show wr.heap.size ≠ w.heap.size + 1 + 1 by have := HI.out.2.2.2.2.1; omega)
      have h44 : w4.heap[wr.heap.size]? = wn.heap[wr.heap.size]? := by
        have e1 := KZ.out.block wr.heap.size (by have := HZN.out; omega)
        refine (GR4.out.block wr.heap.size ?_ fun e => ?_).trans e1
        · have h := NN.out.lt
          simp
          omega
        · have := (own_blk HI.out.1 e.symm).2.1
          omega
      have hN4 : NodeAt w4 wr.heap.size 0 ⟨nq, la, bu, cl, be, ba, ca, ji, (ne1, ne2, ne3), (af1, af2, af3)⟩ :=
        ⟨fun j u hu => (World.cell?_of_block (w := wn) (w' := w4) (a := ⟨wr.heap.size, 0 + j, none⟩) h44).trans (NN.out.row j u hu), by have := GR4.out.size; have := NN.out.lt; simp at *; omega⟩
      have hN5 : ∀ u j x, (⟨nq, la, bu, cl, be, ba, ca, ji, (ne1, ne2, ne3), (af1, af2, af3)⟩ : V.Nd).row[j]? = some x → (w4.setCell ⟨w.heap.size + 1 + 1, 2, none⟩ u).cell? ⟨wr.heap.size, j, none⟩ = some x := fun u j x hx => by
        have := hN4.row j x hx
        rw [Nat.zero_add] at this
        exact (World.cell?_of_block (w := w4) (a := ⟨wr.heap.size, j, none⟩) (hne u)).trans this
      obtain ⟨r0, r1, r2, r3, r4, r5, r6, r7, r8, r9⟩ := hN4.all
      simp only [Nat.zero_add] at r0 r1 r2 r3 r4 r5 r6 r7 r8 r9
      have HS18 : Hid ((wn.alloc (Obj.cells #[.string ⟨#[]⟩, .int .i64 0, .int .i64 (1 + (B2 : Int)), .int .i64 (1 + (B3 : Int)), .int .i64 0, .int .i64 0, .int .i64 (1 + (B4 : Int)), .int .i64 (B5 : Int), .slice none 0 0, .slice none 0 0] 24)).drew.cell? ⟨w.heap.size + 1 + 1, 2, none⟩ = some v ∧ (wn.alloc (Obj.cells #[.string ⟨#[]⟩, .int .i64 0, .int .i64 (1 + (B2 : Int)), .int .i64 (1 + (B3 : Int)), .int .i64 0, .int .i64 0, .int .i64 (1 + (B4 : Int)), .int .i64 (B5 : Int), .slice none 0 0, .slice none 0 0] 24)).drew.cell? ⟨wr.heap.size, 2, none⟩ = some (.int .i64 bu) ∧ (wn.alloc (Obj.cells #[.string ⟨#[]⟩, .int .i64 0, .int .i64 (1 + (B2 : Int)), .int .i64 (1 + (B3 : Int)), .int .i64 0, .int .i64 0, .int .i64 (1 + (B4 : Int)), .int .i64 (B5 : Int), .slice none 0 0, .slice none 0 0] 24)).drew.cell? ⟨wr.heap.size, 3, none⟩ = some (.int .i64 cl) ∧ (wn.alloc (Obj.cells #[.string ⟨#[]⟩, .int .i64 0, .int .i64 (1 + (B2 : Int)), .int .i64 (1 + (B3 : Int)), .int .i64 0, .int .i64 0, .int .i64 (1 + (B4 : Int)), .int .i64 (B5 : Int), .slice none 0 0, .slice none 0 0] 24)).drew.cell? ⟨wr.heap.size, 6, none⟩ = some (.int .i64 ca) ∧ (wn.alloc (Obj.cells #[.string ⟨#[]⟩, .int .i64 0, .int .i64 (1 + (B2 : Int)), .int .i64 (1 + (B3 : Int)), .int .i64 0, .int .i64 0, .int .i64 (1 + (B4 : Int)), .int .i64 (B5 : Int), .slice none 0 0, .slice none 0 0] 24)).drew.cell? ⟨wr.heap.size, 7, none⟩ = some (.int .i64 ji)) := by
        have hk : ∀ j, (wn.alloc (Obj.cells #[.string ⟨#[]⟩, .int .i64 0, .int .i64 (1 + (B2 : Int)), .int .i64 (1 + (B3 : Int)), .int .i64 0, .int .i64 0, .int .i64 (1 + (B4 : Int)), .int .i64 (B5 : Int), .slice none 0 0, .slice none 0 0] 24)).drew.cell? ⟨wr.heap.size, j, none⟩ = wn.cell? ⟨wr.heap.size, j, none⟩ := fun j => KZ.out.cell (p := ⟨wr.heap.size, j, none⟩) (show wr.heap.size < wn.heap.size by have := HZN.out; omega)
        exact ⟨hz2, (hk 2).trans m2, (hk 3).trans m3, (hk 6).trans m6, (hk 7).trans m7⟩
      refine RL.wp_region_held_last (S := fun wx => wx.cell? ⟨w.heap.size + 1 + 1, 2, none⟩ = some v ∧ wx.cell? ⟨wr.heap.size, 2, none⟩ = some (.int .i64 bu) ∧ wx.cell? ⟨wr.heap.size, 3, none⟩ = some (.int .i64 cl) ∧ wx.cell? ⟨wr.heap.size, 6, none⟩ = some (.int .i64 ca) ∧ wx.cell? ⟨wr.heap.size, 7, none⟩ = some (.int .i64 ji)) rfl (by kernel_rfl) (by kernel_rfl) ⟨o2, m2, m3, m6, m7⟩ (fun hHeld => ?_)
      change wpAnyH _ _ _ _ _ 22 (Array.replicate 22 false) _ _
      simp only [List.dropLast, List.getLast, List.cons_append, List.nil_append, RL.still]
      refine wpAnyH_take (i := 0) (oi := _) (v := ?_) rfl (by kernel_rfl) (by kernel_rfl) (by kernel_rfl) (fun _ _ _ h => h) (Or.inl ⟨by rfl, ?_⟩) (by assumption) ?_
      rotate_left
      · (intro w hSw; (try dsimp only at hSw); go_simp)
        all_goals with_reducible rfl
      go_simp
      refine wpAnyH_take (i := 1) (oi := _) (v := ?_) rfl (by kernel_rfl) (by kernel_rfl) (by kernel_rfl) (fun _ _ _ h => h) (Or.inl ⟨by rfl, ?_⟩) (by assumption) ?_
      rotate_left
      · (intro w hSw; (try dsimp only at hSw); go_simp)
        all_goals with_reducible rfl
      go_simp
      refine wpAnyH_take (i := 2) (oi := _) (v := ?_) rfl (by kernel_rfl) (by kernel_rfl) (by kernel_rfl) (fun _ _ _ h => h) (Or.inl ⟨by rfl, ?_⟩) (by assumption) ?_
      rotate_left
      · (intro w hSw; (try dsimp only at hSw); go_simp)
        all_goals with_reducible rfl
      go_simp
      refine wpAnyH_take (i := 3) (oi := _) (v := ?_) rfl (by kernel_rfl) (by kernel_rfl) (by kernel_rfl) (fun _ _ _ h => h) (Or.inl ⟨by rfl, ?_⟩) (by assumption) ?_
      rotate_left
      · (intro w hSw; (try dsimp only at hSw); go_simp)
        all_goals with_reducible rfl
      go_simp
      refine wpAnyH_take (i := 6) (oi := _) (v := ?_) rfl (by kernel_rfl) (by kernel_rfl) (by kernel_rfl) (fun _ _ _ h => h) (Or.inl ⟨by rfl, ?_⟩) (by assumption) ?_
      rotate_left
      · (intro w hSw; (try dsimp only at hSw); go_simp)
        all_goals with_reducible rfl
      go_simp
      refine wpAnyH_take (i := 7) (oi := _) (v := ?_) rfl (by kernel_rfl) (by kernel_rfl) (by kernel_rfl) (fun _ _ _ h => h) (Or.inl ⟨by rfl, ?_⟩) (by assumption) ?_
      rotate_left
      · (intro w hSw; (try dsimp only at hSw); go_simp)
        all_goals with_reducible rfl
      go_simp
      refine wpAnyH_take (i := 10) (oi := _) (v := ?_) rfl (by kernel_rfl) (by kernel_rfl) (by kernel_rfl) (fun _ _ _ h => h) (Or.inl ⟨by rfl, ?_⟩) (by assumption) ?_
      rotate_left
      · (intro w hSw; (try dsimp only at hSw); go_simp)
        all_goals with_reducible rfl
      go_simp
      refine wpAnyH_take (i := 11) (oi := _) (v := ?_) rfl (by kernel_rfl) (by kernel_rfl) (by kernel_rfl) (fun _ _ _ h => h) (Or.inl ⟨by rfl, ?_⟩) (by assumption) ?_
      rotate_left
      · (intro w hSw; (try dsimp only at hSw); go_simp)
        all_goals with_reducible rfl
      go_simp
      refine wpAnyH_take (i := 14) (oi := _) (v := ?_) rfl (by kernel_rfl) (by kernel_rfl) (by kernel_rfl) (fun _ _ _ h => h) (Or.inl ⟨by rfl, ?_⟩) (by assumption) ?_
      rotate_left
      · (intro w hSw; (try dsimp only at hSw); go_simp)
        all_goals with_reducible rfl
      go_simp
      refine wpAnyH_take (i := 15) (oi := _) (v := ?_) rfl (by kernel_rfl) (by kernel_rfl) (by kernel_rfl) (fun _ _ _ h => h) (Or.inl ⟨by rfl, ?_⟩) (by assumption) ?_
      rotate_left
      · (intro w hSw; (try dsimp only at hSw); go_simp)
        all_goals with_reducible rfl
      go_simp
      refine wpAnyH_ready (rs := [4]) (by kernel_rfl) (by simp) ?_
      refine AllReadyH.cons (o := _) rfl (fun K hK => ?_) AllReadyH.nil
      rw [if_pos (by rfl)]
      go_simp
      go_at_call 10
      refine (P2.out _).mono ?_
      rintro e wq ⟨rfl, rfl⟩
      go_simp
      refine hK.out _ _ hHeld (fun hHeld => ?_)
      clear hK K
      try simp only [Act.put, List.setIfInBounds_toArray, List.set_cons_zero, List.set_cons_succ]
      refine wpAnyH_take (i := 5) (oi := _) (v := ?_) rfl (by kernel_rfl) (by kernel_rfl) (by kernel_rfl) (fun _ _ _ h => h) (Or.inl ⟨by rfl, ?_⟩) (by assumption) ?_
      rotate_left
      · (intro w hSw; (try dsimp only at hSw); go_simp)
        all_goals with_reducible rfl
      go_simp
      refine wpAnyH_ready (rs := [8]) (by kernel_rfl) (by simp) ?_
      refine AllReadyH.cons (o := _) rfl (fun K hK => ?_) AllReadyH.nil
      rw [if_pos (by rfl)]
      go_simp
      go_at_call 10
      refine (P3.out _).mono ?_
      rintro e wq ⟨rfl, rfl⟩
      go_simp
      refine hK.out _ _ hHeld (fun hHeld => ?_)
      clear hK K
      try simp only [Act.put, List.setIfInBounds_toArray, List.set_cons_zero, List.set_cons_succ]
      refine wpAnyH_take (i := 9) (oi := _) (v := ?_) rfl (by kernel_rfl) (by kernel_rfl) (by kernel_rfl) (fun _ _ _ h => h) (Or.inl ⟨by rfl, ?_⟩) (by assumption) ?_
      rotate_left
      · (intro w hSw; (try dsimp only at hSw); go_simp)
        all_goals with_reducible rfl
      go_simp
      refine wpAnyH_ready (rs := [12]) (by kernel_rfl) (by simp) ?_
      refine AllReadyH.cons (o := _) rfl (fun K hK => ?_) AllReadyH.nil
      rw [if_pos (by rfl)]
      go_simp
      go_at_call 10
      refine (P4.out _).mono ?_
      rintro e wq ⟨rfl, rfl⟩
      go_simp
      refine hK.out _ _ hHeld (fun hHeld => ?_)
      clear hK K
      try simp only [Act.put, List.setIfInBounds_toArray, List.set_cons_zero, List.set_cons_succ]
      refine wpAnyH_take (i := 13) (oi := _) (v := ?_) rfl (by kernel_rfl) (by kernel_rfl) (by kernel_rfl) (fun _ _ _ h => h) (Or.inl ⟨by rfl, ?_⟩) (by assumption) ?_
      rotate_left
      · (intro w hSw; (try dsimp only at hSw); go_simp)
        all_goals with_reducible rfl
      go_simp
      refine wpAnyH_ready (rs := [16]) (by kernel_rfl) (by simp) ?_
      refine AllReadyH.cons (o := _) rfl (fun K hK => ?_) AllReadyH.nil
      rw [if_pos (by rfl)]
      go_simp
      go_at_call 16
      refine (P5.out _).mono ?_
      rintro e wq ⟨rfl, rfl⟩
      go_simp
      refine hK.out _ _ hHeld (fun hHeld => ?_)
      clear hK K
      try simp only [Act.put, List.setIfInBounds_toArray, List.set_cons_zero, List.set_cons_succ]
      refine wpAnyH_take (i := 17) (oi := _) (v := ?_) rfl (by kernel_rfl) (by kernel_rfl) (by kernel_rfl) (fun _ _ _ h => h) (Or.inl ⟨by rfl, ?_⟩) (by assumption) ?_
      rotate_left
      · (intro w hSw; (try dsimp only at hSw); go_simp)
        all_goals with_reducible rfl
      go_simp
      refine wpAnyH_ready (rs := [18]) (by kernel_rfl) (by simp) ?_
      refine AllReadyH.cons (o := _) rfl (fun K hK => ?_) AllReadyH.nil
      rw [if_pos (by rfl)]
      go_simp
      refine hK.out _ _ HS18.out (fun hHeld => ?_)
      clear hK K
      go_simp
      refine wpAnyH_ready (rs := [19]) (by kernel_rfl) (by simp) ?_
      refine AllReadyH.cons (o := _) rfl (fun K hK => ?_) AllReadyH.nil
      refine step_append_run (by rfl) _ _ 35 (by rfl) _ _ (by rfl) (by rfl) HAP.out ?_
      refine hK.out _ _ ⟨y2, r2, r3, r6, r7⟩ (fun hHeld => ?_)
      clear hK K
      go_simp
      refine wpAnyH_take (i := 20) (oi := _) (v := ?_) rfl (by kernel_rfl) (by kernel_rfl) (by kernel_rfl) (fun _ _ _ h => h) (Or.inl ⟨by rfl, ?_⟩) (by assumption) ?_
      rotate_left
      · (intro w hSw; (try dsimp only at hSw); go_simp)
        all_goals with_reducible rfl
      go_simp
      refine wpAnyH_take (i := 21) (oi := _) (v := ?_) rfl (by kernel_rfl) (by kernel_rfl) (by kernel_rfl) (fun _ _ _ h => h) (Or.inl ⟨by rfl, ?_⟩) (by assumption) ?_
      rotate_left
      · (intro w hSw; (try dsimp only at hSw); go_simp)
        all_goals with_reducible rfl
      go_simp
      refine wpAnyH_done (by kernel_rfl) ?_ _
      simp only [RL.endQ]
      unfold Oper.wp
      go_simp
      go_wp2_with fail
      have hap2 : (qs.take (i + 1)).map V.fitN = (qs.take i).map V.fitN ++ [⟨⟨#[]⟩, 0, 1 + (B2 : Int), 1 + (B3 : Int), 0, 0, 1 + (B4 : Int), (B5 : Int), (none, 0, 0), (none, 0, 0)⟩] := by
        rw [V.take_snoc qs i _ HQI.out, List.map_append, ← HFE.out]; rfl
      have own5 := OWN4.out
      rw [← hap2] at own5
      have hbase := HI.out.2.2.2.2.1
      have hz9 := HZN.out
      have hWs : wn.heap.size ≤ (wn.alloc (Obj.cells #[.string ⟨#[]⟩, .int .i64 0, .int .i64 (1 + (B2 : Int)), .int .i64 (1 + (B3 : Int)), .int .i64 0, .int .i64 0, .int .i64 (1 + (B4 : Int)), .int .i64 (B5 : Int), .slice none 0 0, .slice none 0 0] 24)).drew.heap.size := KZ.out.size
      have hob : ∀ k, v.ownBlock = some k → w.heap.size + 3 ≤ k := fun k hk => (own_blk OW.out hk).1
      have low : ∀ k, k < w.heap.size + 2 → ∀ u, (w4.setCell ⟨w.heap.size + 1 + 1, 2, none⟩ u).heap[k]? = wr.heap[k]? := fun k hk u =>
        (Below.heap_setCell _ _ _ _ (show k ≠ w.heap.size + 1 + 1 by omega)).trans ((GR4.out.block k (by omega) (fun e => by have := hob k e.symm; omega)).trans ((KZ.out.block k (by omega)).trans (KA.out.block k (by omega))))
      have bel4 : Below w.heap.size w w4 := ((HI.out.2.2.2.1.trans (KA.out.mono (by omega))).trans (KZ.out.mono (by omega))).grown GR4.out (by omega) (fun k hk => by have := hob k hk; omega)
      refine ⟨⟨i + 1, _, by go_num, by omega, by omega, own_stay own5 (fun g hg => Below.heap_setCell _ _ _ _ (fun e => own_far own5 HO4.out (by decide) (by rw [hg, e]))), (set_blk HO4.out 2 _).trans rfl, (low _ (by omega) _).trans HI.out.2.2.1, bel4.setCell (p := ⟨w.heap.size + 1 + 1, 2, none⟩) (by show w.heap.size ≤ w.heap.size + 1 + 1; omega) _, ?_, (low _ (by omega) _).trans HI.out.2.2.2.2.2⟩, by simp [intOf]; omega⟩
      have := GR4.out.size
      simp only [World.setCell, Array.size_modify]
      omega
    · have hle : i = min n 64 := by omega
      have o0 := cell_blk HI.out.2.1 0 (v := .string ⟨#[]⟩) rfl
      have o1 := cell_blk HI.out.2.1 1 (v := .int .i64 (1 + (D : Int))) rfl
      have r0 := cell_blk HI.out.2.2.2.2.2 0 (v := .string ⟨#[]⟩) rfl
      have r1 := cell_blk HI.out.2.2.2.2.2 1 (v := .int .i64 0) rfl
      have r2 := cell_blk HI.out.2.2.2.2.2 2 (v := .slice none 0 0) rfl
      have r0f := frozen_blk HI.out.2.2.2.2.2 0
      have r1f := frozen_blk HI.out.2.2.2.2.2 1
      have r2f := frozen_blk HI.out.2.2.2.2.2 2
      obtain ⟨va, vc, hv⟩ := own_shape HI.out.1
      subst hv
      have HLE := hide hle
      clear hle
      have hlt2 : ¬ ((i : Int) < (n : Int) ∧ (i : Int) < 64) := by omega
      have X5 := set_blk (set_blk (set_blk HI.out.2.2.2.2.2 0 (.string ⟨#[]⟩)) 1 (.int .i64 (1 + (D : Int)))) 2 (.slice va i vc)
      have O5 : (((wr.setCell ⟨w.heap.size + 1, 0, none⟩ (.string ⟨#[]⟩)).setCell ⟨w.heap.size + 1, 1, none⟩ (.int .i64 (1 + (D : Int)))).setCell ⟨w.heap.size + 1, 2, none⟩ (.slice va i vc)).ownsRow w.heap.size 24 10 (.slice va i vc) i (V.flat ((qs.take i).map V.fitN)) := own_base (own_stay HI.out.1 (fun g hg => by
        have hb := (own_blk HI.out.1 hg).1
        exact ((Below.heap_setCell _ _ _ _ (show g ≠ w.heap.size + 1 by omega)).trans (Below.heap_setCell _ _ _ _ (show g ≠ w.heap.size + 1 by omega))).trans (Below.heap_setCell _ _ _ _ (show g ≠ w.heap.size + 1 by omega)))) (by omega)
      have K5 := ((HI.out.2.2.2.1.setCell (p := ⟨w.heap.size + 1, 0, none⟩) (Nat.le_succ _) (.string ⟨#[]⟩)).setCell (p := ⟨w.heap.size + 1, 1, none⟩) (Nat.le_succ _) (.int .i64 (1 + (D : Int)))).setCell (p := ⟨w.heap.size + 1, 2, none⟩) (Nat.le_succ _) (.slice va i vc)
      have FIN : Hid (∃ v rs, Ending.returned (.agg #[.string ⟨#[]⟩, .int .i64 (1 + (D : Int)), .slice va i vc]) = Ending.returned (.agg #[.string ⟨#[]⟩, .int .i64 (1 + (D : Int)), v]) ∧ rs.length ≤ 64 ∧ (∀ q ∈ rs, V.nOk q ∧ V.Nd.In q) ∧ (((wr.setCell ⟨w.heap.size + 1, 0, none⟩ (.string ⟨#[]⟩)).setCell ⟨w.heap.size + 1, 1, none⟩ (.int .i64 (1 + (D : Int)))).setCell ⟨w.heap.size + 1, 2, none⟩ (.slice va i vc)).ownsRow w.heap.size 24 10 v rs.length (V.flat rs) ∧ Below w.heap.size w (((wr.setCell ⟨w.heap.size + 1, 0, none⟩ (.string ⟨#[]⟩)).setCell ⟨w.heap.size + 1, 1, none⟩ (.int .i64 (1 + (D : Int)))).setCell ⟨w.heap.size + 1, 2, none⟩ (.slice va i vc))) := by
        have hll : ((qs.take i).map V.fitN).length = i := by have := HN.out; simp; omega
        refine ⟨.slice va i vc, (qs.take i).map V.fitN, rfl, by omega, fun q hq => ?_, by rw [hll]; exact O5, K5⟩
        obtain ⟨q0, _, rfl⟩ := List.mem_map.1 hq
        exact V.fitN_ok q0
      have HX5 := hide X5
      clear X5 O5 K5
      rcases Nat.lt_or_ge i n with hc | hc
      · have hc2 : ¬ (i : Int) < 64 := by omega
        go_wp2_with fail
        refine bodyPost_ret (res_one rfl _ _ (w.heap.size + 1) _ _ _ rfl HX5.out) rfl ?_
        obtain ⟨v, rs, f1, f2, f3, f4, f5⟩ := FIN.out
        exact ⟨v, f1, rs, f2, f3, f4, f5⟩
      · go_wp2_with fail
        exact bodyPost_ret (res_one rfl _ _ (w.heap.size + 1) _ _ _ rfl HX5.out) rfl FIN.out
end Go.Proofs.Ytgjjiomnbhildaa
