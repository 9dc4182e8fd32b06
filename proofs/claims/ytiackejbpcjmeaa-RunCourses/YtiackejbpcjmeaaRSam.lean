/- The laws' sameNodes. -/
import Derived.Test.YtiackejbpcjmeaaRTdR
import Derived.Test.YtiackejbpcjmeaaGRfB
import Derived.Deep.CutRange
import Derived.Deep.QuietTactic
namespace Go.Proofs.Ytiackejbpcjmeaa
namespace Rn
open Go.RowKit Gr

/-- what sameNodes says -/
def SmEnd (ps qs : List Pt) (e : Ending) : Prop := ∃ b : Bool, e = .returned (.bool b) ∧ (ps = qs → b = true)
set_option maxRecDepth 100000 in
set_option maxHeartbeats 4000000 in
theorem sameNodes_any (s t : Option Addr × Nat × Nat) (ps qs : List Pt) (w : World) (hS : RdT w s ps) (hT : RdT w t qs) (hl : qs.length = ps.length) (hb : ps.length ≤ 1000) :
    Calls Try.prog 8 #[.slice s.1 s.2.1 s.2.2, .slice t.1 t.2.1 t.2.2] w fun e w' => SmEnd ps qs e ∧ Keep (fun _ => False) w w' := by
  obtain ⟨sa, n, sc⟩ := s
  obtain ⟨ta, m, tc⟩ := t
  have hn : n = ps.length := hS.1
  have hm : m = n := by have : m = qs.length := hT.1; omega
  subst hm
  have HN := hide hn
  have HL := hide hl
  have hb' : m ≤ 1000 := by omega
  have HSS := hide hS
  have HTT := hide hT
  clear hS hT hl hn hb
  go_enter Try.func8, Try.ntmps8
  go_wp2_with fail
  go_loopw [5] (fun v5 wr => ∃ i : Nat, v5 = .int .i64 (i : Nat) ∧ i ≤ m ∧ Hid (Keep (fun _ => False) w wr)) (fun v5 _ => m - (intOf v5).toNat)
  case atStart => exact ⟨0, rfl, Nat.zero_le _, Keep.refl _ _⟩
  case round =>
    obtain ⟨i, rfl, hi, HK⟩ := hrel
    by_cases hlt : i < m
    · obtain ⟨g1, o1, p, mp, hs1, hp, p0, p1, p4, prd⟩ := (HSS.out.new HK.out).at (i := i) (by have := HN.out; omega)
      obtain ⟨g2, o2, q, mq, ht1, hq, q0, q1, q4, qrd⟩ := (HTT.out.new HK.out).at (i := i) (by have := HN.out; have := HL.out; omega)
      have hs1 : sa = some ⟨g1, o1, none⟩ := hs1
      have ht1 : ta = some ⟨g2, o2, none⟩ := ht1
      subst hs1 ht1
      have z1 := fun n => conv_rd (prd.stay (S := fun _ => False) (keep_drewN wr n) fun _ _ _ f => f) mp.2.2
      have z2 := fun n => conv_rd (qrd.stay (S := fun _ => False) (keep_drewN wr n) fun _ _ _ f => f) mq.2.2
      have HEQ : Hid (ps = qs → p = q) := fun h => by rw [h, hq] at hp; exact (Option.some.inj hp).symm
      clear hp hq prd qrd
      generalize hu1 : str p.rs = u1 at *
      generalize hu2 : str q.rs = u2 at *
      have HU1 := hide hu1
      have HU2 := hide hu2
      clear hu1 hu2
      go_upto_region 6 with fail
      go_cut [55] from 11 to 55 (fun v wx => (∃ b : Bool, v = .bool b ∧ (ps = qs → b = false)) ∧ ∃ k, wx = wr.drewN k)
      case first =>
        by_cases h1 : p.st = q.st
        · have h1' : (p.st != q.st) = false := by simpa using h1
          by_cases h2 : p.tr = q.tr
          · have h2' : (p.tr != q.tr) = false := by simpa using h2
            by_cases h3 : u1 = u2
            · subst h3
              clear h1 h2
              go_quiet (fail)
              go_wp2
              go_meet
              case rel => exact ⟨⟨false, rfl, fun _ => rfl⟩, _, rfl⟩
            · have h3' : (u1.toList == u2.toList) = false := bytes_ne h3
              have HNE : Hid (¬ ps = qs) := fun h => h3 (by rw [← HU1.out, ← HU2.out, HEQ.out h])
              clear h1 h2 h3
              go_quiet (fail)
              go_wp2
              go_meet
              case rel => exact ⟨⟨_, rfl, fun h => absurd h HNE.out⟩, _, rfl⟩
          · have h2' : (p.tr != q.tr) = true := by simpa using h2
            have HNE : Hid (¬ ps = qs) := fun h => h2 (by rw [HEQ.out h])
            clear h1 h2
            go_quiet (fail)
            go_wp2
            go_meet
            case rel => exact ⟨⟨_, rfl, fun h => absurd h HNE.out⟩, _, rfl⟩
        · have h1' : (p.st != q.st) = true := by simpa using h1
          have HNE : Hid (¬ ps = qs) := fun h => h1 (by rw [HEQ.out h])
          clear h1
          go_quiet (fail)
          go_wp2
          go_meet
          case rel => exact ⟨⟨_, rfl, fun h => absurd h HNE.out⟩, _, rfl⟩
      case rest =>
        obtain ⟨⟨b, rfl, hbb⟩, kk, rfl⟩ := hcut
        have HBB := hide hbb
        have KD := hide (HK.out.more (keep_drewN wr kk))
        clear z1 z2 p0 p1 p4 q0 q1 q4 hbb
        cases b
        · go_wp2_with fail
          go_roundw
          · exact ⟨i + 1, rfl, by omega, KD.out⟩
          · show m - ((i : Int) + 1).toNat < m - (i : Int).toNat
            omega
        · go_wp2_with fail
          go_ret
          exact ⟨⟨false, rfl, fun h => by have := HBB.out h; cases this⟩, KD.out⟩
    · go_wp2_with fail
      go_ret
      exact ⟨⟨true, rfl, fun _ => rfl⟩, HK.out⟩
end Rn
end Go.Proofs.Ytiackejbpcjmeaa
