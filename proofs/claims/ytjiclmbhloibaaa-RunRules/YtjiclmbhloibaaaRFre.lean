/- The laws' free. -/
import Derived.Test.YtjiclmbhloibaaaRTld
namespace Go.Proofs.Ytjiclmbhloibaaa
namespace Rn
open Go.RowKit Gr

theorem RdT.new {w w' : World} {s : Option Addr × Nat × Nat} {ps : List Pt} (h : RdT w s ps) (k : Keep (fun _ => False) w w') : RdT w' s ps := by
  obtain ⟨h1, h2⟩ := h
  refine ⟨h1, ?_⟩
  rcases h2 with h2 | ⟨g, off, e, h2⟩
  · exact .inl h2
  · refine .inr ⟨g, off, e, fun i p hp => ?_⟩
    obtain ⟨m, h3, h4⟩ := h2 i p hp
    exact ⟨m, fun j u hu => k.cell (h3 j u hu) (fun f => f), h4.stay k fun _ _ _ f => f⟩
/-- one node of it -/
theorem RdT.at {w : World} {s : Option Addr × Nat × Nat} {ps : List Pt} (h : RdT w s ps) {i : Nat} (hi : i < ps.length) : ∃ (g off : Nat) (p : Pt) (m : Option Addr × Nat × Nat), s.1 = some ⟨g, off, none⟩ ∧ ps[i]? = some p ∧ w.cell? ⟨g, off + i * 5, none⟩ = some (.int .i64 p.st) ∧ w.cell? ⟨g, off + i * 5 + 1, none⟩ = some (.int .i64 p.tr) ∧ w.cell? ⟨g, off + i * 5 + 4, none⟩ = some (.slice m.1 m.2.1 m.2.2) ∧ Rd w m.1 m.2.1 p.rs := by
  obtain ⟨h1, h2⟩ := h
  obtain ⟨g, off, e, h2⟩ := h2.resolve_left (by omega)
  have hp : ps[i]? = some ps[i] := List.getElem?_eq_getElem hi
  obtain ⟨m, h3, h4⟩ := h2 i _ hp
  exact ⟨g, off, _, m, e, hp, h3 0 _ rfl, h3 1 _ rfl, h3 4 _ rfl, h4⟩
theorem setS_ne {s : Int} (h5 : ¬ s = 5) (h6 : ¬ s = 6) (h7 : ¬ s = 7) : setS s = false := by unfold setS doneS lostS; simp [h5, h6, h7]
set_option maxRecDepth 100000 in
set_option maxHeartbeats 4000000 in
theorem free_any (nm : ByteArray) (dl : Int) (s t : Option Addr × Nat × Nat) (xs : List No) (ps : List Pt) (w : World) (hP : RdP w.heap.size w s xs) (hT : RdT w t ps) (hv : Val xs) (hl : ps.length = xs.length) (k : Nat) (x : No) (hx : xs[k]? = some x) :
    Calls Try.prog 22 #[.agg #[.string nm, .int .i64 dl, .slice s.1 s.2.1 s.2.2], .slice t.1 t.2.1 t.2.2, .int .i64 (k : Int)] w fun e w' => e = .returned (.bool (decide (outl (sts ps) (nx x) = 1))) ∧ Keep (fun _ => False) w w' := by
  obtain ⟨a, n, c⟩ := s
  have hn : n = xs.length := hP.1
  subst hn
  have hkl : k < xs.length := (List.getElem?_eq_some_iff.1 hx).1
  obtain ⟨g, off, x', ha, _, hx', hnd, hz1, hz2⟩ := hP.at (i := k) hkl
  obtain rfl : x' = x := Option.some.inj (hx'.symm.trans hx)
  have ha : a = some ⟨g, off, none⟩ := ha
  subst ha
  have hxm := List.mem_of_getElem? hx
  have HV := hide (hv.2 x' hxm)
  have HLN := hide hl
  have hl64 : xs.length ≤ 64 := hv.1
  have K1 := Keep.alloc (fun _ => False) w (.cells #[.string nm, .int .i64 dl, .slice (some ⟨g, off, none⟩) xs.length c] 24)
  have b1 := heap_alloc_new w (.cells #[.string nm, .int .i64 dl, .slice (some ⟨g, off, none⟩) xs.length c] 24)
  have a2 := cell_blk b1 2 (v := .slice (some ⟨g, off, none⟩) xs.length c) rfl
  have n8 := K1.cell hnd.all.2.2.2.2.2.2.2.2.1 (fun f => f)
  have n9 := K1.cell hnd.all.2.2.2.2.2.2.2.2.2 (fun f => f)
  have HZ1 := hide (hz1.new K1)
  have HZ2 := hide (hz2.new K1)
  have HTW := hide (hT.new K1)
  have KW := hide K1
  have HONE := hide (@outl_one (sts ps) (nx x'))
  generalize hr : decide (outl (sts ps) (nx x') = 1) = r
  have HR := hide hr
  clear hr
  have hnn : x'.q.ne.2.1 = x'.nl.length := hz1.1
  have hna : x'.q.af.2.1 = x'.al.length := hz2.1
  have hb1 : x'.q.ne.2.1 ≤ 17592186044416 := hz1.2.1
  have hb2 : x'.q.af.2.1 ≤ 17592186044416 := hz2.2.1
  clear hP hT hv hx hx' hnd hz1 hz2 hxm K1 b1 hl
  obtain ⟨⟨nmx, la, bu, cl, be, bs, ca, ji, ⟨ne1, ne2, ne3⟩, ⟨af1, af2, af3⟩⟩, nl, al⟩ := x'
  simp only [nx] at *
  have HNN := hide hnn
  have HNA := hide hna
  obtain ⟨ta, tn, tc⟩ := t
  have HTN : Hid (tn = ps.length) := HTW.out.1
  have htn : tn = xs.length := by rw [HTN.out]; exact HLN.out
  have HTX := hide htn
  clear hnn hna htn
  go_enter Try.func22, Try.ntmps22
  go_upto_region 1 with fail
  generalize w.alloc (.cells #[.string nm, .int .i64 dl, .slice (some ⟨g, off, none⟩) xs.length c] 24) = w1 at *
  go_wp2_with fail
  go_loopw [7] (fun v7 wr => ∃ i : Nat, v7 = .int .i64 (i : Nat) ∧ i ≤ ne2 ∧ wr = w1 ∧ Hid (∀ j e, j < i → nl[j]? = some e → doneS (sAt (sts ps) e) = true)) (fun v7 _ => ne2 - (intOf v7).toNat)
  case atStart => exact ⟨0, rfl, Nat.zero_le _, rfl, fun j e h => absurd h (Nat.not_lt_zero _)⟩
  case round =>
    obtain ⟨i, rfl, hi, rfl, HD⟩ := hrel
    by_cases hlt : i < ne2
    · obtain ⟨g2, off2, e, he1, _, hge, hce⟩ := HZ1.out.at (i := i) hlt
      have he1 : ne1 = some ⟨g2, off2, none⟩ := he1
      subst he1
      have hev := HV.out e (List.mem_append_left _ (List.mem_of_getElem? hge))
      obtain ⟨q, rfl⟩ : ∃ q : Nat, e = (q : Int) := ⟨e.toNat, by omega⟩
      obtain ⟨g3, off3, p, m, hp1, hp2, hc0, _⟩ := HTW.out.at (i := q) (by rw [HLN.out]; omega)
      have hp1 : ta = some ⟨g3, off3, none⟩ := hp1
      subst hp1
      have hqn : q < tn := by rw [HTX.out]; omega
      have HSA := hide (sAt_sts hp2)
      have HGE := hide hge
      clear hge hp2
      by_cases h5 : p.st = 5
      · have HD2 : Hid (∀ j e, j < i + 1 → nl[j]? = some e → doneS (sAt (sts ps) e) = true) := fun j e hj he => by
          by_cases c : j = i
          · subst c
            rw [HGE.out] at he
            obtain rfl := Option.some.inj he
            rw [HSA.out, h5]; rfl
          · exact HD.out j e (by omega) he
        rw [h5] at hc0
        clear h5 HD
        go_wp2_with fail
        go_roundw
        · exact ⟨i + 1, rfl, by omega, trivial, HD2.out⟩
        · show ne2 - ((i : Int) + 1).toNat < ne2 - (i : Int).toNat
          omega
      · have h5' : (p.st != 5) = true := by simpa using h5
        obtain rfl : r = false := by
          rw [← HR.out]
          refine decide_eq_false fun h1 => ?_
          have := (HONE.out.1 h1).1 _ (List.mem_of_getElem? HGE.out)
          rw [HSA.out] at this
          unfold doneS at this
          exact h5 (by simpa using this)
        go_wp2_with fail
        go_ret
        exact ⟨rfl, KW.out⟩
    · obtain rfl : i = ne2 := by omega
      clear hlt
      go_wp2_with fail
      go_loopw [8] (fun v8 wx => ∃ j : Nat, v8 = .int .i64 (j : Nat) ∧ j ≤ af2 ∧ wx = wr ∧ Hid (∀ u e, u < j → al[u]? = some e → setS (sAt (sts ps) e) = true)) (fun v8 _ => af2 - (intOf v8).toNat)
      case atStart => exact ⟨0, rfl, Nat.zero_le _, rfl, fun j e h => absurd h (Nat.not_lt_zero _)⟩
      case round =>
        obtain ⟨j, rfl, hj, rfl, HE⟩ := hrel
        by_cases hlt : j < af2
        · obtain ⟨g2, off2, e, he1, _, hge, hce⟩ := HZ2.out.at (i := j) hlt
          have he1 : af1 = some ⟨g2, off2, none⟩ := he1
          subst he1
          have hev := HV.out e (List.mem_append_right _ (List.mem_of_getElem? hge))
          obtain ⟨q, rfl⟩ : ∃ q : Nat, e = (q : Int) := ⟨e.toNat, by omega⟩
          obtain ⟨g3, off3, p, m, hp1, hp2, hc0, _⟩ := HTW.out.at (i := q) (by rw [HLN.out]; omega)
          have hp1 : ta = some ⟨g3, off3, none⟩ := hp1
          subst hp1
          have hqn : q < tn := by rw [HTX.out]; omega
          have HSA := hide (sAt_sts hp2)
          have HGE := hide hge
          clear hge hp2
          have HSET : Hid (setS p.st = true → ∀ u e, u < j + 1 → al[u]? = some e → setS (sAt (sts ps) e) = true) := fun hs u e hu he => by
            by_cases c : u = j
            · subst c
              rw [HGE.out] at he
              obtain rfl := Option.some.inj he
              rw [HSA.out]; exact hs
            · exact HE.out u e (by omega) he
          by_cases h5 : p.st = 5
          · have HD2 := hide (HSET.out (by rw [h5]; rfl))
            rw [h5] at hc0
            clear h5 HE HSET
            go_wp2_with fail
            go_roundw
            · exact ⟨j + 1, rfl, by omega, trivial, HD2.out⟩
            · show af2 - ((j : Int) + 1).toNat < af2 - (j : Int).toNat
              omega
          · have h5' : (p.st != 5) = true := by simpa using h5
            by_cases h6 : p.st = 6
            · have HD2 := hide (HSET.out (by rw [h6]; rfl))
              rw [h6] at hc0
              clear h5 h5' h6 HE HSET
              go_wp2_with fail
              go_roundw
              · exact ⟨j + 1, rfl, by omega, trivial, HD2.out⟩
              · show af2 - ((j : Int) + 1).toNat < af2 - (j : Int).toNat
                omega
            · have h6' : (p.st != 6) = true := by simpa using h6
              by_cases h7 : p.st = 7
              · have HD2 := hide (HSET.out (by rw [h7]; rfl))
                rw [h7] at hc0
                clear h5 h5' h6 h6' h7 HE HSET
                go_wp2_with fail
                go_roundw
                · exact ⟨j + 1, rfl, by omega, trivial, HD2.out⟩
                · show af2 - ((j : Int) + 1).toNat < af2 - (j : Int).toNat
                  omega
              · have h7' : (p.st != 7) = true := by simpa using h7
                obtain rfl : r = false := by
                  rw [← HR.out]
                  refine decide_eq_false fun h1 => ?_
                  have := (HONE.out.1 h1).2 _ (List.mem_of_getElem? HGE.out)
                  rw [HSA.out, setS_ne h5 h6 h7] at this
                  cases this
                clear HSET h5 h6 h7
                go_wp2_with fail
                go_ret
                exact ⟨rfl, KW.out⟩
        · obtain rfl : j = af2 := by omega
          obtain rfl : r = true := by
            rw [← HR.out]
            refine decide_eq_true (HONE.out.2 ⟨fun e he => ?_, fun e he => ?_⟩)
            · obtain ⟨u, hu⟩ := List.getElem?_of_mem he
              exact HD.out u e (by have := (List.getElem?_eq_some_iff.1 hu).1; have := HNN.out; omega) hu
            · obtain ⟨u, hu⟩ := List.getElem?_of_mem he
              exact HE.out u e (by have := (List.getElem?_eq_some_iff.1 hu).1; have := HNA.out; omega) hu
          go_wp2_with fail
          go_ret
          exact ⟨rfl, KW.out⟩
end Rn
end Go.Proofs.Ytjiclmbhloibaaa
