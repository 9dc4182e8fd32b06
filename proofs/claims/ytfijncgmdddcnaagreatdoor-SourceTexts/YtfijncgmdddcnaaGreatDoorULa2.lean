/- Package source: layEdges: the walk. -/
import Derived.Test.YtfijncgmdddcnaaGreatDoorULay
import Derived.Deep.Cut
namespace Go.Proofs.YtfijncgmdddcnaaGreatDoor
namespace U
open Go.RowKit

theorem risen_len (f : ByteArray → Option Nat) (ns : List (List UInt8)) : (risen f ns).length ≤ ns.length := by
  unfold risen
  refine Nat.le_trans (compact_len _) ?_
  rw [List.length_mergeSort, List.length_map]
  exact List.length_filterMap_le _ _
theorem layE_step (m : Mn) (r : List Mn) (nds : List Pn) : layE (m :: r) nds = match edg nds m.names with
    | none => .inl m.place
    | some l => layE r (setEdge nds m l) := by
  rw [layE]
  cases edg nds m.names <;> rfl
set_option maxRecDepth 100000 in
set_option maxHeartbeats 4000000 in
theorem layEdges_any (B D : Nat) (d : Dr) (w : World) (hD : DrAt B w D d) (hnl : d.nds.length ≤ 1000000) (hml : d.ms.length ≤ 1000000) (hms : ∀ m ∈ d.ms, MOk d.nds.length m) (hnn : ∀ x ∈ d.nds, NOk x) :
    Calls Tryz.prog 27 #[.pointer (some ⟨D, 0, none⟩)] w (LayEnd B D d (layE d.ms d.nds) w) := by
  generalize hR : layE d.ms d.nds = R
  have HR := hide hR
  clear hR
  obtain ⟨vn, vp, vm, h0, h1, h2, h3, l, hle, h4, h5⟩ := hD
  have hBs : B ≤ w.heap.size := by have := (Array.getElem?_eq_some_iff.1 h1).1; omega
  have hnd : NdsAt B w vn d.nds := by
    refine ⟨d.nds.map no, ?_, ?_, fun x hx => ?_⟩
    · rw [List.map_map]; rfl
    · rw [List.length_map, List.map_map]; exact h2
    · obtain ⟨p, hp, rfl⟩ := List.mem_map.1 hx
      obtain ⟨_, e1, e2⟩ := hnn p hp
      exact ⟨⟨by show 0 = p.nl.length; rw [e1]; rfl, by show p.nl.length ≤ _; rw [e1]; simp, .inl e1⟩, ⟨by show 0 = p.al.length; rw [e2]; rfl, by show p.al.length ≤ _; rw [e2]; simp, .inl e2⟩⟩
  obtain ⟨va, vc, rfl⟩ := hnd.len
  obtain ⟨ma, mc, rfl⟩ := own_shape h4
  obtain ⟨xs, hxs, hrp⟩ := hnd.rd hnl
  have FB := hide (bearers_any (va, d.nds.length, vc) xs w.heap.size w hrp hnl (fun x hx => by
    have : er x ∈ xs.map er := List.mem_map_of_mem hx
    rw [hxs] at this
    obtain ⟨p, hp, he⟩ := List.mem_map.1 this
    have e1 : x.q.nm = ba p.nm := (congrArg (fun y : Gr.No => y.q.nm) he).symm
    rw [e1, ba_size]
    have := (hnn p hp).1
    unfold maxLen
    omega))
  rw [← idxB_er xs, hxs] at FB
  simp only at FB
  have c2 := cell_blk h1 2 (v := .slice va d.nds.length vc) rfl
  have c7 := cell_blk h1 7 (v := .slice ma l.length mc) rfl
  have HI0 : Hid (∀ w1 b N, Below w.heap.size w w1 → Gr.MapS w1 b N (idxB (d.nds.map no)) → LyI B D b d (.slice va d.nds.length vc) vp (.slice ma l.length mc) l (idxB (d.nds.map no)) w d.nds w1) := fun w1 b N k hm =>
    ⟨(k.block D (Array.getElem?_eq_some_iff.1 h1).1).trans h1, hnd.below k, own_below h3 k, own_below h4 k, fun x hx => (h5 x hx).1.below k, ⟨N, hm⟩, k.mono hBs, fun _ => rfl, rfl⟩
  have HMS := hide hms
  have HLE := hide hle
  have HED := hide (fun ns => edg_risen d.nds ns)
  generalize idxB (d.nds.map no) = f at *
  have H1 := hide h1
  generalize hnN : d.nds.length = nN at *
  have HNN := hide hnN
  generalize hlN : l.length = lN at *
  have HLN := hide hlN
  have hlb : lN ≤ 1000000 := by
    have e : l.length = d.ms.length := by rw [← HLE.out]; simp
    have := HLN.out
    omega
  clear h1 h2 h3 h4 h5 hnd hrp hxs hms hle hnn hnN hlN
  go_enter Tryz.func27, Tryz.ntmps27
  go_wp2_with fail
  go_at_call 52
  refine FB.out.mono ?_
  rintro e w1 ⟨b, rfl, mp1, bel1, _⟩
  have I1 := hide (HI0.out w1 b _ bel1 mp1)
  have HS1 := hide bel1.size
  clear mp1 bel1 FB HI0 c2 c7
  have c7 := cell_blk I1.out.blk 7 (v := .slice ma lN mc) rfl
  go_wp2_with fail
  go_loopw [20] (fun iv wr => ∃ (i : Nat) (nds : List Pn), iv = .int .i64 (i : Nat) ∧ i ≤ lN ∧ Hid (LyI B D b d (.slice va nN vc) vp (.slice ma lN mc) l f w nds wr ∧ layE (d.ms.drop i) nds = R ∧ B ≤ wr.heap.size)) (fun iv _ => lN - (intOf iv).toNat)
  case atStart => exact ⟨0, d.nds, rfl, Nat.zero_le _, I1.out, HR.out, by have := HS1.out; omega⟩
  case round =>
    clear I1 c7
    obtain ⟨i, nds, rfl, hi, HI⟩ := hrel
    by_cases hlt : i < lN
    · obtain ⟨x, hx⟩ : ∃ x, l[i]? = some x := ⟨_, List.getElem?_eq_getElem (by have := HLN.out; omega)⟩
      have hms := HI.out.1.ms
      rw [← HLN.out] at hms
      obtain ⟨g, rfl, m0, m1, m2, m3⟩ := men_cells hms hx
      have hmx : d.ms[i]? = some x.1 := by rw [← HLE.out]; simp [hx]
      have hdr : d.ms.drop i = x.1 :: d.ms.drop (i + 1) := by
        obtain ⟨e1, e2⟩ := List.getElem?_eq_some_iff.1 hmx
        rw [List.drop_eq_getElem_cons e1, e2]
      have HST : Hid ((match edg nds x.1.names with | none => .inl x.1.place | some l => layE (d.ms.drop (i + 1)) (setEdge nds x.1 l)) = R) := by
        show _ = _
        rw [← HI.out.2.1, hdr, layE_step]
      have hmok := HMS.out x.1 (List.mem_of_getElem? hmx)
      have hrd := HI.out.1.nm x (List.mem_of_getElem? hx)
      have HEDx := hide (HI.out.1.ed x.1.names)
      rw [HED.out] at HEDx
      obtain ⟨⟨pl, nd, kd, ns⟩, na, nc⟩ := x
      simp only at *
      obtain ⟨o1, o2, o3, o4, o5⟩ := hmok
      have hbn : Below wr.heap.size wr (wr.alloc (.cells #[.int .i64 (pl : Int), .int .i64 (nd : Int), .int .i64 (kd : Int), .slice na ns.length nc] 108)) := (Below.refl _ wr).alloc (Nat.le_refl _) _
      have I2 := hide (HI.out.1.below hbn HI.out.2.2)
      have hblk := heap_alloc_new wr (.cells #[.int .i64 (pl : Int), .int .i64 (nd : Int), .int .i64 (kd : Int), .slice na ns.length nc] 108)
      obtain ⟨N, hmp⟩ := I2.out.mp
      have NO := hide (numbersOf_any na ns nc b N f _ (hrd.below hbn) o1 o2 o3 hmp)
      have HB2 := hide hblk
      have HZ2 : Hid (B ≤ (wr.alloc (.cells #[.int .i64 (pl : Int), .int .i64 (nd : Int), .int .i64 (kd : Int), .slice na ns.length nc] 108)).heap.size) := Nat.le_trans HI.out.2.2 hbn.size
      have q3 := cell_blk hblk 3 (v := .slice na ns.length nc) rfl
      have HO4 := hide o4
      have HO2 := hide o2
      have HO5 := hide o5
      clear hbn hblk hmp hrd hdr hmx hms hx o1 o2 o3 o4 o5 HI HMS
      go_upto_region 5 with fail
      generalize hwn : wr.alloc (.cells #[.int .i64 (pl : Int), .int .i64 (nd : Int), .int .i64 (kd : Int), .slice na ns.length nc] 108) = wn at *
      generalize hmb : wr.heap.size = mb at *
      clear hwn hmb m0 m1 m2 m3
      go_wp2_with fail
      go_at_call 53
      refine NO.out.mono ?_
      rintro e w3 ⟨bel3, hres⟩
      have I3 := hide (I2.out.below bel3 HZ2.out)
      have HB3 := hide ((bel3.block mb (Array.getElem?_eq_some_iff.1 HB2.out).1).trans HB2.out)
      have HZ3 := hide (Nat.le_trans HZ2.out bel3.size)
      have HRES := hide hres
      clear bel3 hres NO I2 HB2 HZ2 q3
      have q0 := cell_blk HB3.out 0 (v := .int .i64 (pl : Int)) rfl
      have q1 := cell_blk HB3.out 1 (v := .int .i64 (nd : Int)) rfl
      have q2 := cell_blk HB3.out 2 (v := .int .i64 (kd : Int)) rfl
      rcases HRES.out with ⟨ha, rfl⟩ | ⟨ha, g', cap', rfl, hown⟩
      · have hst := HST.out
        rw [HEDx.out, ha] at hst
        simp only [Bool.false_eq_true, if_false] at hst
        have HST2 := hide hst
        clear hst HST HEDx HRES ha
        go_wp2_with fail
        go_ret
        have hb := (Below.refl w3.heap.size w3).alloc (Nat.le_refl _) (.cells #[.int .i64 (pl : Int), .int .i64 112] 48)
        exact ⟨I3.out.bel.trans (hb.mono HZ3.out), .inl ⟨pl, _, HST2.out.symm, rfl, err_new w3 pl 112⟩⟩
      · have hst := HST.out
        rw [HEDx.out, ha] at hst
        simp only [if_true] at hst
        have HST2 := hide hst
        have hzl : (risen f ns).length ≤ 1000000 := Nat.le_trans (risen_len f ns) HO2.out
        generalize risen f ns = zs at *
        have hls : LsI w3 (some ⟨g', 0, none⟩, zs.length, cap') zs := by
          rcases hown.2 with ⟨e, _⟩ | ⟨g2, c2, cur, e, _, e3, _, _, _, e7⟩
          · cases e
          · cases e
            refine ⟨rfl, hzl, .inr ⟨g', rfl, cur, e3, fun j y hy => ?_⟩⟩
            have h8 : (zs.map (Value.int .i64))[j]? = some (.int .i64 y) := by simp [hy]
            rw [← e7, List.getElem?_take] at h8
            split at h8
            · simpa using h8
            · cases h8
        have HLS := hide hls
        have HZL := hide hzl
        obtain ⟨gn, capn, hvn, _, _, _⟩ := I3.out.store ⟨pl, nd, kd, ns⟩ (by rw [I3.out.len, HNN.out]; exact HO4.out) HO5.out zs (some ⟨g', 0, none⟩) cap' hls
        injection hvn with v1 v2 v3
        subst v1; subst v3
        have c2 := cell_blk I3.out.blk 2 (v := .slice (some ⟨gn, 0, none⟩) nN vc) rfl
        have n1 : (nd : Int) < (nN : Int) := by have := HO4.out; omega
        have n2 : (0 : Int) ≤ (nd : Int) := by omega
        clear hst HST HEDx HRES ha hown hls hzl v2
        go_upto_region 8 with fail
        go_region
        have bd : Below w3.heap.size w3 w3.drew := (Below.refl _ w3).drew
        have I5 := hide (I3.out.below bd HZ3.out)
        have HLS5 := hide (HLS.out.below bd)
        have HZ5 : Hid (B ≤ w3.drew.heap.size) := HZ3.out
        obtain ⟨gn2, capn, hvn, I6, ⟨old, hold⟩, hfr⟩ := I5.out.store ⟨pl, nd, kd, ns⟩ (by rw [I5.out.len, HNN.out]; exact HO4.out) HO5.out zs (some ⟨g', 0, none⟩) cap' HLS5.out
        injection hvn with v1
        injection v1 with v1
        injection v1 with v1
        subst v1
        have k2 := cell_blk ((bd.block mb (Array.getElem?_eq_some_iff.1 HB3.out).1).trans HB3.out) 2 (v := .int .i64 (kd : Int)) rfl
        clear bd I3 HLS HZ3 HB3 q0 q1 q2 c2 n1 n2
        simp only at I6 hold hfr
        have hz6 : ∀ (j : Nat) (u : Value), B ≤ (w3.drew.setCell ⟨gn, j, none⟩ u).heap.size := fun j u => by have := HZ5.out; simpa [World.setCell] using this
        have HZ6 := hide hz6
        have I6H := hide I6
        clear hz6 I6
        generalize w3.drew = w4 at *
        rcases HO5.out with rfl | rfl
        · have hold' : w4.cell? ⟨gn, nd * 10 + 8, none⟩ = some old := hold
          have hfr' : w4.frozen? ⟨gn, nd * 10 + 8, none⟩ = false := hfr
          clear hold hfr
          go_wp2_with fail
          go_roundw
          · exact ⟨i + 1, _, by go_num, by omega, I6H.out, HST2.out, HZ6.out _ _⟩
          · show lN - ((i : Int) + 1).toNat < lN - (i : Int).toNat
            omega
        · have hold' : w4.cell? ⟨gn, nd * 10 + 9, none⟩ = some old := hold
          have hfr' : w4.frozen? ⟨gn, nd * 10 + 9, none⟩ = false := hfr
          clear hold hfr
          go_wp2_with fail
          go_roundw
          · exact ⟨i + 1, _, by go_num, by omega, I6H.out, HST2.out, HZ6.out _ _⟩
          · show lN - ((i : Int) + 1).toNat < lN - (i : Int).toNat
            omega
    · have hRn : R = .inr nds := by
        rw [← HI.out.2.1, List.drop_eq_nil_of_le (by rw [← HLE.out]; have := HLN.out; simp; omega)]
        rfl
      go_wp2_with fail
      go_ret
      exact ⟨HI.out.1.bel, .inr ⟨nds, _, _, _, hRn, HI.out.1.len, rfl, HI.out.1.blk, HI.out.1.nd, HI.out.1.pl⟩⟩
end U
end Go.Proofs.YtfijncgmdddcnaaGreatDoor
