/- Package source: read. -/
import Derived.Test.YtfijncgmdddcnaaGreatDoorUChk
import Derived.Test.YtfijncgmdddcnaaGreatDoorUOk
import Derived.Laws.Rows
namespace Go.Proofs.YtfijncgmdddcnaaGreatDoor
namespace U
open Go.RowKit

theorem info_plan : (Tryz.prog.info? 24).map (·.size) = some 3 := by kernel_rfl
theorem res_read {fn : Func} {p u : Tmp} (h : fn.results = #[.cell p 24, .tmp u]) (tmps : Array Value) (w : World) (g : Nat) (x y z : Value) (hp : tmps.getD p undef = .pointer (some ⟨g, 0, none⟩)) (hg : w.heap[g]? = some (.cells #[x, y, z] 24 (0, 0))) :
    (results fn tmps).run Tryz.prog w = .ok (.tuple #[.agg #[x, y, z], tmps.getD u undef]) w := by
  have hp' : tmps[p]?.getD undef = .pointer (some ⟨g, 0, none⟩) := by simpa using hp
  simp [results, h, hp', asAddr, run_loadVar_row w g 24 24 #[x, y, z] (0, 0) _ hg Tryz.underlying24 rfl (by rw [info_plan]; rfl)]
/-- the plan that says nothing -/
def zPlan : Value := .agg #[.string ⟨#[]⟩, .int .i64 0, .slice none 0 0]
/-- what read leaves -/
def ReadEnd (r : (Nat × Nat) ⊕ Pl) (w : World) (e : Ending) (w' : World) : Prop :=
  Below w.heap.size w w' ∧ ((∃ p c v, r = .inl (p, c) ∧ e = .returned (.tuple #[zPlan, v]) ∧ ErrAt w' v p c) ∨ ∃ q va vc, r = .inr q ∧ e = .returned (.tuple #[.agg #[.string (ba q.nm), .int .i64 q.dl, .slice va q.nds.length vc], .nilIface]) ∧ NdsAt w.heap.size w' (.slice va q.nds.length vc) q.nds ∧ q.nds.length ≤ 1000000)
/-- three cells stored -/
def put3 (w : World) (g : Nat) (x y z : Value) : World := ((w.setCell ⟨g, 0, none⟩ x).setCell ⟨g, 1, none⟩ y).setCell ⟨g, 2, none⟩ z
theorem put3_blk {w : World} {g : Nat} {a b c : Value} {t : TypeId} (h : w.heap[g]? = some (.cells #[a, b, c] t (0, 0))) (x y z : Value) : (put3 w g x y z).heap[g]? = some (.cells #[x, y, z] t (0, 0)) :=
  (set_blk (set_blk (set_blk h 0 x) 1 y) 2 z).trans rfl
theorem put3_keep (w : World) (g : Nat) (x y z : Value) : Keep (fun k => k = g) w (put3 w g x y z) := ((keep_cell w g 0 x).more (keep_cell _ g 1 y)).more (keep_cell _ g 2 z)
theorem read_err {w w2 : World} {E p c : Nat} {a b c' : Value} (hb : Below w.heap.size w w2) (pb : w2.heap[w.heap.size]? = some (.cells #[a, b, c'] 24 (0, 0))) (hE : w2.heap[E]? = some (.cells #[.int .i64 (p : Int), .int .i64 (c : Int)] 48 (0, 0))) (x y z : Value) :
    ReadEnd (.inl (p, c)) w (.returned (.tuple #[zPlan, .iface 44 (.pointer (some ⟨E, 0, none⟩))])) (put3 w2 w.heap.size x y z) := by
  have kk := put3_keep w2 w.heap.size x y z
  have hne : E ≠ w.heap.size := fun e => by
    rw [e, pb] at hE
    injection hE with hE
    injection hE with _ hE
    exact absurd hE (by decide)
  exact ⟨hb.trans (kk.below hb.size fun i e => by omega), .inl ⟨p, c, _, rfl, rfl, E, rfl, kk.blk hE hne⟩⟩
set_option maxRecDepth 100000 in
set_option maxHeartbeats 4000000 in
theorem read_any (s : ByteArray) (w : World) (hss : s.size ≤ 9223372036854775807) :
    Calls Tryz.prog 13 #[.string s] w (ReadEnd (parse s.data.toList) w) := by
  have hlen : s.data.toList.length = s.size := by simp
  by_cases hs : s.size ≤ 65536
  · have hsp : ∀ l ∈ splitOn 10 s.data.toList, l.length ≤ 65536 := fun l hl => by have := splitOn_le 10 _ l hl; omega
    have hsl := splitOn_len 10 s.data.toList
    have HPA : Hid (parse s.data.toList = match readL 1 (splitOn 10 s.data.toList) Dr.new with
      | .inl p => .inl (p, 111)
      | .inr d => if d.place = 0 then .inl (0, 111) else
        match layE d.ms d.nds with
        | .inl p => .inl (p, 112)
        | .inr nds => judge d nds (Gr.chk (ba d.nm) d.dl (nds.map no))) := by
      show _ = _
      unfold parse
      rw [if_neg (by omega)]
      rfl
    have HOK := hide (fun d h => readL_ok (splitOn 10 s.data.toList) 1 Dr.new d dok_new hsp h)
    have RL := hide (fun B D w h1 h2 => readLines_any B D s hs w h1 h2)
    have i1 : ¬ (65536 : Int) < s.size := by omega
    obtain ⟨P, hP⟩ : ∃ P, P = parse s.data.toList := ⟨_, rfl⟩
    rw [← hP] at HPA ⊢
    generalize readL 1 (splitOn 10 s.data.toList) Dr.new = R1 at *
    have HSL := hide hsl
    clear hsp hsl hP
    have PBx := heap_alloc_new w (.cells #[.string ⟨#[]⟩, .int .i64 0, .slice none 0 0] 24)
    have hz0 : (w.alloc (.cells #[.string ⟨#[]⟩, .int .i64 0, .slice none 0 0] 24)).heap.size = w.heap.size + 1 := by simp
    have DRx : DrAt (w.alloc (.cells #[.string ⟨#[]⟩, .int .i64 0, .slice none 0 0] 24)).heap.size ((w.alloc (.cells #[.string ⟨#[]⟩, .int .i64 0, .slice none 0 0] 24)).alloc (.cells #[.string ⟨#[]⟩, .int .i64 0, .slice none 0 0, .int .i64 0, .slice none 0 0, .bool false, .bool false, .slice none 0 0] 69)) (w.alloc (.cells #[.string ⟨#[]⟩, .int .i64 0, .slice none 0 0] 24)).heap.size Dr.new :=
      ⟨.slice none 0 0, .slice none 0 0, .slice none 0 0, Nat.le_refl _, heap_alloc_new _ _, World.ownsRow_nil _ _ _ _, World.ownsRow_nil _ _ _ _, [], rfl, World.ownsRow_nil _ _ _ _, fun x hx => by cases hx⟩
    rw [hz0] at DRx
    have DR0 := hide DRx
    have BW0 : Hid (Below w.heap.size w ((w.alloc (.cells #[.string ⟨#[]⟩, .int .i64 0, .slice none 0 0] 24)).alloc (.cells #[.string ⟨#[]⟩, .int .i64 0, .slice none 0 0, .int .i64 0, .slice none 0 0, .bool false, .bool false, .slice none 0 0] 69))) := ((Below.refl _ w).alloc (Nat.le_refl _) _).alloc (by simp) _
    have PB0 := hide ((Below.heap_alloc (w.alloc (.cells #[.string ⟨#[]⟩, .int .i64 0, .slice none 0 0] 24)) (.cells #[.string ⟨#[]⟩, .int .i64 0, .slice none 0 0, .int .i64 0, .slice none 0 0, .bool false, .bool false, .slice none 0 0] 69) w.heap.size (by simp)).trans PBx)
    have HZ1 : Hid (((w.alloc (.cells #[.string ⟨#[]⟩, .int .i64 0, .slice none 0 0] 24)).alloc (.cells #[.string ⟨#[]⟩, .int .i64 0, .slice none 0 0, .int .i64 0, .slice none 0 0, .bool false, .bool false, .slice none 0 0] 69)).heap.size = w.heap.size + 2) := by show _ = _; simp
    clear hz0 DRx PBx
    go_enter Tryz.func13, Tryz.ntmps13
    go_wp2_with fail
    generalize hw1 : (w.alloc (.cells #[.string ⟨#[]⟩, .int .i64 0, .slice none 0 0] 24)).alloc (.cells #[.string ⟨#[]⟩, .int .i64 0, .slice none 0 0, .int .i64 0, .slice none 0 0, .bool false, .bool false, .slice none 0 0] 69) = w1 at *
    clear hw1
    go_at_call 26
    refine (RL.out (w.heap.size + 1) (w.heap.size + 1) w1 DR0.out (by have := HZ1.out; omega)).mono ?_
    rintro e w2 ⟨fr2, hres⟩
    have b2 := fr2.below (by have := HZ1.out; omega)
    have BW2 := hide (BW0.out.trans (b2.mono (Nat.le_succ _)))
    have pb2 := (b2.block w.heap.size (by omega)).trans PB0.out
    have z2 : w.heap.size + 2 ≤ w2.heap.size := by have := b2.size; have := HZ1.out; omega
    have HRES := hide hres
    have PB2 := hide pb2
    have p0 := cell_blk pb2 0 (v := .string ⟨#[]⟩) rfl
    have p1 := cell_blk pb2 1 (v := .int .i64 0) rfl
    have p2 := cell_blk pb2 2 (v := .slice none 0 0) rfl
    have p0f := frozen_blk pb2 0
    have p1f := frozen_blk pb2 1
    have p2f := frozen_blk pb2 2
    clear fr2 b2 hres RL DR0 BW0 PB0 HZ1 pb2
    rcases HRES.out with ⟨p, v, rfl, rfl, E, rfl, hE⟩ | ⟨d, rfl, ⟨hp, v, rfl, E, rfl, hE⟩ | ⟨hp, rfl, hD⟩⟩
    · have hpa := HPA.out
      simp only at hpa
      subst hpa
      have HEE := hide hE
      clear hE HPA HRES
      go_wp2_with fail
      refine bodyPost_ret (res_read rfl _ _ w.heap.size _ _ _ rfl (put3_blk PB2.out _ _ _)) rfl ?_
      exact read_err BW2.out PB2.out HEE.out _ _ _
    · have hpa := HPA.out
      simp only [hp, if_true] at hpa
      subst hpa
      have HEE := hide hE
      clear hE HPA HRES hp
      go_wp2_with fail
      refine bodyPost_ret (res_read rfl _ _ w.heap.size _ _ _ rfl (put3_blk PB2.out _ _ _)) rfl ?_
      exact read_err (p := 0) (c := 111) BW2.out PB2.out HEE.out _ _ _
    · have hpa := HPA.out
      simp only [if_neg hp] at hpa
      obtain ⟨⟨k1, k2, k3, k4⟩, k5, k6⟩ := HOK.out d rfl
      have hb1 : d.nds.length ≤ 1000000 := by have := HSL.out; simp [Dr.new] at k5; omega
      have hb2 : d.ms.length ≤ 1000000 := by have := HSL.out; simp [Dr.new] at k6; omega
      have LE := hide (layEdges_any (w.heap.size + 1) (w.heap.size + 1) d w2 hD hb1 hb2 k4 k3)
      have HNm := hide (fun nds h => layE_len d.ms d.nds nds h)
      have HPA2 := hide hpa
      have HK1 := hide k1
      have HK2 := hide k2
      have HK3 := hide k3
      generalize layE d.ms d.nds = R2 at *
      clear hpa HPA HRES hp HOK k1 k2 k3 k4 k5 k6 hD
      go_wp2_with fail
      go_at_call 27
      refine LE.out.mono ?_
      rintro e w3 ⟨b3, hres⟩
      have BW3 := hide (BW2.out.trans (b3.mono (Nat.le_succ _)))
      have pb3 := (b3.block w.heap.size (by omega)).trans PB2.out
      have z3 : w.heap.size + 2 ≤ w3.heap.size := by have := b3.size; omega
      have HRES := hide hres
      have PB3 := hide pb3
      clear p0 p1 p2 p0f p1f p2f BW2 PB2 LE b3 hres
      have p0 := cell_blk pb3 0 (v := .string ⟨#[]⟩) rfl
      have p1 := cell_blk pb3 1 (v := .int .i64 0) rfl
      have p2 := cell_blk pb3 2 (v := .slice none 0 0) rfl
      have p0f := frozen_blk pb3 0
      have p1f := frozen_blk pb3 1
      have p2f := frozen_blk pb3 2
      clear pb3
      rcases HRES.out with ⟨p, v, rfl, rfl, E, rfl, hE⟩ | ⟨nds, vn, vp, vm, rfl, hnl, rfl, hbD, hNd, hPl⟩
      · have hpa := HPA2.out
        simp only at hpa
        subst hpa
        have HEE := hide hE
        clear hE HPA2 HRES
        go_wp2_with fail
        refine bodyPost_ret (res_read rfl _ _ w.heap.size _ _ _ rfl (put3_blk PB3.out _ _ _)) rfl ?_
        exact read_err BW3.out PB3.out HEE.out _ _ _
      · have hpa := HPA2.out
        simp only at hpa
        obtain ⟨va, vc, rfl⟩ := hNd.len
        have hnm := HNm.out nds rfl
        have CK := hide (check_any (w.heap.size + 1) (w.heap.size + 1) d nds va vc vp vm w3 hbD hNd hPl (by omega) (by have := HK1.out; omega) (by have := HK1.out; omega) (by have := HK2.out; omega) (fun x hx => by
          have : x.nm ∈ nds.map (·.nm) := List.mem_map_of_mem hx
          rw [hnm] at this
          obtain ⟨y, hy, e⟩ := List.mem_map.1 this
          rw [← e]
          exact (HK3.out y hy).1))
        have HPA3 := hide hpa
        have HND := hide hNd
        have HBD := hide hbD
        have HNL := hide hnl
        generalize Gr.chk (ba d.nm) d.dl (nds.map no) = C at *
        clear hpa HPA2 HRES hNd hbD hPl hnl hnm HNm
        go_wp2_with fail
        go_at_call 28
        refine CK.out.mono ?_
        rintro e w4 ⟨b4, hres⟩
        have BW4 := hide (BW3.out.trans (b4.mono BW3.out.size))
        have pb4 := (b4.block w.heap.size (by omega)).trans PB3.out
        have bD4 := (b4.block (w.heap.size + 1) (by omega)).trans HBD.out
        have ND4 := hide (HND.out.below b4)
        have HRES := hide hres
        have PB4 := hide pb4
        clear p0 p1 p2 p0f p1f p2f PB3 BW3 b4 hres CK HBD HND
        have p0 := cell_blk pb4 0 (v := .string ⟨#[]⟩) rfl
        have p1 := cell_blk pb4 1 (v := .int .i64 0) rfl
        have p2 := cell_blk pb4 2 (v := .slice none 0 0) rfl
        have p0f := frozen_blk pb4 0
        have p1f := frozen_blk pb4 1
        have p2f := frozen_blk pb4 2
        have d0 := cell_blk bD4 0 (v := .string (ba d.nm)) rfl
        have d1 := cell_blk bD4 1 (v := .int .i64 d.dl) rfl
        have d2 := cell_blk bD4 2 (v := .slice va nds.length vc) rfl
        clear pb4 bD4
        rcases HRES.out with ⟨hc, rfl⟩ | ⟨hc, v, rfl, E, rfl, hE⟩
        · have hpa := HPA3.out
          unfold judge at hpa
          rw [if_pos hc] at hpa
          subst hpa
          clear HPA3 HRES hc
          go_wp2_with fail
          refine bodyPost_ret (res_read rfl _ _ w.heap.size _ _ _ rfl (put3_blk PB4.out _ _ _)) rfl ?_
          have kk := put3_keep w4 w.heap.size (.string (ba d.nm)) (.int .i64 d.dl) (.slice va nds.length vc)
          refine ⟨BW4.out.trans (kk.below BW4.out.size fun i e => by omega), .inr ⟨⟨d.nm, d.dl, nds⟩, va, vc, rfl, rfl, ?_, by have := HNL.out; simp only; omega⟩⟩
          obtain ⟨xs, x1, x2, x3⟩ := ND4.out
          have hpn : ∀ {t : TypeId} {k : Nat} {cs : Array Value}, t ≠ 24 → w4.heap[k]? = some (.cells cs t (0, 0)) → k ≠ w.heap.size := fun ht hc e => by
            subst e
            rw [PB4.out] at hc
            injection hc with hc
            injection hc with _ hc
            exact ht hc.symm
          have hint : ∀ (k : Nat) (cur : Array Value), k = w.heap.size → w4.heap[k]? ≠ some (.cells cur 3 (0, 0)) := fun k cur e hc => hpn (by decide) hc e
          refine ⟨xs, x1, ownsRow_base (own_keep x2 kk fun g hg e => ?_) (Nat.le_succ _), fun x hx => ⟨(x3 x hx).1.keep kk hint, (x3 x hx).2.keep kk hint⟩⟩
          obtain ⟨_, _, cur, hcur⟩ := own_blk x2 hg
          exact hpn (by decide) hcur e
        · have hpa := HPA3.out
          unfold judge at hpa
          rw [if_neg hc] at hpa
          have HPA4 : Hid (P = .inl ((if C.1 = 0 then d.place else d.places.getD (C.1 - 1) 0), C.2)) := by
            show _ = _
            rw [hpa]
            split <;> rfl
          have hpa4 := HPA4.out
          subst hpa4
          have HEE := hide hE
          clear hpa HPA3 HRES hc hE HPA4
          generalize (if C.1 = 0 then d.place else d.places.getD (C.1 - 1) 0) = ln at *
          go_wp2_with fail
          refine bodyPost_ret (res_read rfl _ _ w.heap.size _ _ _ rfl (put3_blk PB4.out _ _ _)) rfl ?_
          exact read_err BW4.out PB4.out HEE.out _ _ _
  · have i1 : (65536 : Int) < s.size := by omega
    have HPA : Hid (parse s.data.toList = .inl (0, 110)) := by
      show _ = _
      unfold parse
      rw [if_pos (by omega)]
    rw [HPA.out]
    have PBx := hide (heap_alloc_new w (.cells #[.string ⟨#[]⟩, .int .i64 0, .slice none 0 0] 24))
    go_enter Tryz.func13, Tryz.ntmps13
    go_wp2_with fail
    have hz : (w.alloc (.cells #[.string ⟨#[]⟩, .int .i64 0, .slice none 0 0] 24)).heap.size = w.heap.size + 1 := by simp
    have hE := heap_alloc_new (w.alloc (.cells #[.string ⟨#[]⟩, .int .i64 0, .slice none 0 0] 24)) (.cells #[.int .i64 0, .int .i64 110] 48)
    rw [hz] at hE
    refine bodyPost_ret (res_read rfl _ _ w.heap.size _ _ _ rfl ((Below.heap_alloc _ _ w.heap.size (by simp)).trans PBx.out)) rfl ?_
    exact ⟨((Below.refl _ w).alloc (Nat.le_refl _) _).alloc (by simp) _, .inl ⟨0, 110, _, rfl, rfl, w.heap.size + 1, rfl, hE⟩⟩
end U
end Go.Proofs.YtfijncgmdddcnaaGreatDoor
