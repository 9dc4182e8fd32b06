/- Package source's laws: SourceOne. -/
import Derived.Test.YtmadgickfdmibaaGreatDoorUBkM
import Derived.Test.YtmadgickfdmibaaGreatDoorUPls
import Derived.Test.YtmadgickfdmibaaGreatDoorUKno
namespace Go.Proofs.YtmadgickfdmibaaGreatDoor
namespace U
open Go.RowKit Bk

theorem parse_ne0 {s : List UInt8} {p c : Nat} (h : parse s = .inl (p, c)) : c ≠ 0 := by
  unfold parse at h
  split at h
  · cases h; decide
  · split at h
    · cases h; decide
    · split at h
      · cases h; decide
      · split at h
        · cases h; decide
        · unfold judge at h
          split at h
          · cases h
          · rename_i h0
            split at h
            · injection h with h; injection h with h1 h2; subst h2; exact h0
            · injection h with h; injection h with h1 h2; subst h2; exact h0
/-- Text of a plan that may be, which lies in memory -/
theorem text_pl (q : Pl) (hc : (Gr.chk (ba q.nm) q.dl (q.nds.map no)).2 = 0) (B : Nat) (va : Option Addr) (vc : Nat) (w : World) (hN : NdsAt B w (.slice va q.nds.length vc) q.nds) (hI : EnvI w) :
    Calls Tryz.prog 13 #[.agg #[.string (ba q.nm), .int .i64 q.dl, .slice va q.nds.length vc]] w fun e w' => e = .returned (.tuple #[.string (ba (txt q.nm q.dl (q.nds.map no))), .int .i64 0]) ∧ Below w.heap.size w w' := by
  obtain ⟨h1, h2, h3, h4, h5, h6⟩ := ok_of hc
  obtain ⟨xs, hxs, hrp⟩ := hN.rd (by omega)
  have hsz : ∀ x ∈ xs, x.q.nm.size ≤ 9223372036854775807 := by
    intro x hx
    have hm : er x ∈ xs.map er := List.mem_map_of_mem hx
    rw [hxs] at hm
    obtain ⟨y, hy, e⟩ := List.mem_map.1 hm
    have e1 : x.q.nm = ba y.nm := (congrArg (fun z : Gr.No => z.q.nm) e).symm
    rw [e1, ba_size]
    have := nm_len (h3 y hy).nm
    omega
  have T := text_any q.nm q.dl (va, q.nds.length, vc) xs w.heap.size w hrp (Nat.le_refl _) hI ⟨by rw [ba_size]; have := nm_len h1; omega, hsz⟩
  have ht : txt q.nm q.dl xs = txt q.nm q.dl (q.nds.map no) := by rw [← txt_er, hxs]
  have hck : (Gr.chk (ba q.nm) q.dl xs).2 = 0 := by rw [← chk_er, hxs]; exact hc
  rw [ht, hck] at T
  exact T
/-- two plans in memory that are one -/
theorem plans_pl (q : Pl) (hl : q.nds.length ≤ 1000000) (B C : Nat) (va vb : Option Addr) (vc vd : Nat) (w : World) (hN : NdsAt B w (.slice va q.nds.length vc) q.nds) (hM : NdsAt C w (.slice vb q.nds.length vd) q.nds) :
    Calls Tryz.prog 12 #[.agg #[.string (ba q.nm), .int .i64 q.dl, .slice va q.nds.length vc], .agg #[.string (ba q.nm), .int .i64 q.dl, .slice vb q.nds.length vd]] w fun e w' => e = .returned (.bool true) ∧ Keep (fun _ => False) w w' := by
  obtain ⟨xs, hxs, hrp⟩ := hN.rd hl
  obtain ⟨ys, hys, hrq⟩ := hM.rd hl
  exact plans_any (ba q.nm) q.dl (va, q.nds.length, vc) (vb, q.nds.length, vd) xs ys _ _ w hrp hrq (hxs.trans hys.symm)

set_option maxRecDepth 100000 in
set_option maxHeartbeats 4000000 in
theorem one_walk (s : List UInt8) (w : World) (hA : EnvA w) (hI : EnvI w) (hl : s.length ≤ 9223372036854775807) :
    Calls Tryz.prog 7 #[.string (ba s)] w fun e w' => e = .returned (.bool true) ∧ Below w.heap.size w w' := by
  have KN := hide known_any
  have HA := hide hA
  have HI := hide hI
  clear hA hI
  cases hp : parse s with
  | inl x =>
    obtain ⟨p, c⟩ := x
    have PN := hide (parse_no s p c hp (by omega))
    have hc : ((c : Int) != 0) = true := by have := parse_ne0 hp; simp; omega
    clear hp
    go_enter Tryz.func7, Tryz.ntmps7
    go_wp2_with fail
    go_at_call 9
    refine (KN.out w HA.out HI.out).mono ?_
    rintro e w1 ⟨rfl, b1⟩
    have HB1 := hide b1
    clear b1 KN
    go_wp2_with fail
    go_at_call 10
    refine (PN.out w1 (HA.out.below HB1.out)).mono ?_
    rintro e w2 ⟨rfl, b2⟩
    have HB2 := hide (HB1.out.trans (b2.mono HB1.out.size))
    clear b2 HB1 PN
    unfold zPlan
    have K3 := hide (HB2.out.alloc HB2.out.size (.cells #[.string ⟨#[]⟩, .int .i64 0, .slice none 0 0] 25))
    go_wp2_with fail
    go_ret
    exact ⟨rfl, K3.out⟩
  | inr q =>
    have hck := parse_chk hp
    have hq := ok_of hck
    obtain ⟨hbk, hbl⟩ := back hck
    have P1 := hide (parse_ok s q hp (by omega))
    have P2 := hide (parse_ok (txt q.nm q.dl (q.nds.map no)) _ hbk (by omega))
    have TX := hide (fun B va vc w h hI => text_pl q hck B va vc w h hI)
    have PL := hide (fun B C va vb vc vd w h h' => plans_pl q (by have := hq.2.2.2.2.1; omega) B C va vb vc vd w h h')
    have hql : q.nds.length ≤ 64 := hq.2.2.2.2.1
    clear hp hck hq hbk hbl
    generalize txt q.nm q.dl (q.nds.map no) = T at *
    generalize hS : ba T = S at *
    obtain ⟨nm, dl, nds⟩ := q
    simp only at P1 P2 TX PL hql
    generalize ba nm = NM at *
    generalize hm : nds.length = m at *
    go_enter Tryz.func7, Tryz.ntmps7
    go_wp2_with fail
    go_at_call 9
    refine (KN.out w HA.out HI.out).mono ?_
    rintro e w1 ⟨rfl, b1⟩
    have HB1 := hide b1
    clear b1 KN
    go_wp2_with fail
    go_at_call 10
    refine (P1.out w1 (HA.out.below HB1.out)).mono ?_
    rintro e w2 ⟨va, vc, rfl, b2, n2, _⟩
    have HB2 := hide (HB1.out.trans (b2.mono HB1.out.size))
    have HN2 := hide n2
    clear b2 n2 HB1 P1
    go_upto_region 5 with fail
    have BL3 := hide ((Below.refl w2.heap.size w2).alloc (Nat.le_refl _) (.cells #[.string NM, .int .i64 dl, .slice va m vc] 25))
    have HB3 := hide (HB2.out.trans (BL3.out.mono HB2.out.size))
    have HN3 := hide (HN2.out.below BL3.out)
    have hb3 := heap_alloc_new w2 (.cells #[.string NM, .int .i64 dl, .slice va m vc] 25)
    have hs3 : (w2.alloc (.cells #[.string NM, .int .i64 dl, .slice va m vc] 25)).heap.size = w2.heap.size + 1 := by simp
    generalize w2.alloc (.cells #[.string NM, .int .i64 dl, .slice va m vc] 25) = w3 at *
    generalize hP1 : w2.heap.size = A at *
    have HH3 := hide hb3
    have c0 : w3.cell? ⟨A, 0, none⟩ = some (.string NM) := cell_blk hb3 0 rfl
    have c1 : w3.cell? ⟨A, 1, none⟩ = some (.int .i64 dl) := cell_blk hb3 1 rfl
    have c2 : w3.cell? ⟨A, 2, none⟩ = some (.slice va m vc) := cell_blk hb3 2 rfl
    have HS3 := hide hs3
    clear hb3 hs3 HN2 BL3 HB2
    go_wp2_with fail
    go_at_call 13
    refine (TX.out _ va vc w3 HN3.out (HI.out.below HB3.out)).mono ?_
    rintro e w4 ⟨rfl, b4⟩
    have HB4 := hide (HB3.out.trans (b4.mono HB3.out.size))
    have HN4 := hide (HN3.out.below b4)
    have HH4 := hide ((b4.block A (by rw [HS3.out]; omega)).trans HH3.out)
    have HS4 : Hid (A + 1 ≤ w4.heap.size) := by have := b4.size; have := HS3.out; show _ ≤ _; omega
    clear b4 c0 c1 c2 HN3 HH3 HS3 HB3
    go_wp2_with fail
    go_at_call 10
    refine (P2.out w4 (HA.out.below HB4.out)).mono ?_
    rintro e w5 ⟨vb, vd, rfl, b5, n5, _⟩
    have HB5 := hide (HB4.out.trans (b5.mono HB4.out.size))
    have HN5 := hide (HN4.out.below b5)
    have HH5 := hide ((b5.block A (by have := HS4.out; omega)).trans HH4.out)
    have HS5 : Hid (A + 1 ≤ w5.heap.size) := by have := b5.size; have := HS4.out; show _ ≤ _; omega
    have HM5 := hide n5
    clear b5 n5 HN4 HH4 HS4 HB4 P2
    go_upto_region 9 with fail
    have BL6 := hide ((Below.refl w5.heap.size w5).alloc (Nat.le_refl _) (.cells #[.string NM, .int .i64 dl, .slice vb m vd] 25))
    have HB6 := hide (HB5.out.trans (BL6.out.mono HB5.out.size))
    have HN6 := hide (HN5.out.below BL6.out)
    have HM6 := hide (HM5.out.below BL6.out)
    have HH6 := hide ((BL6.out.block A (by have := HS5.out; omega)).trans HH5.out)
    have hb6 := heap_alloc_new w5 (.cells #[.string NM, .int .i64 dl, .slice vb m vd] 25)
    have hs6 : (w5.alloc (.cells #[.string NM, .int .i64 dl, .slice vb m vd] 25)).heap.size = w5.heap.size + 1 := by simp
    generalize w5.alloc (.cells #[.string NM, .int .i64 dl, .slice vb m vd] 25) = w6 at *
    have HS5' := hide HS5.out
    generalize hP2 : w5.heap.size = C at *
    have HG6 := hide hb6
    have d0 : w6.cell? ⟨C, 0, none⟩ = some (.string NM) := cell_blk hb6 0 rfl
    have d1 : w6.cell? ⟨C, 1, none⟩ = some (.int .i64 dl) := cell_blk hb6 1 rfl
    have d2 : w6.cell? ⟨C, 2, none⟩ = some (.slice vb m vd) := cell_blk hb6 2 rfl
    have HS6 := hide hs6
    clear hb6 hs6 HN5 HM5 BL6 HB5 HH5
    go_wp2_with fail
    go_at_call 13
    refine (TX.out _ vb vd w6 HM6.out (HI.out.below HB6.out)).mono ?_
    rintro e w7 ⟨rfl, b7⟩
    have HB7 := hide (HB6.out.trans (b7.mono HB6.out.size))
    have HN7 := hide (HN6.out.below b7)
    have HM7 := hide (HM6.out.below b7)
    have hh7 := (b7.block A (by have := HS5'.out; have := HS6.out; omega)).trans HH6.out
    have hg7 := (b7.block C (by have := HS6.out; omega)).trans HG6.out
    have c0 : w7.cell? ⟨A, 0, none⟩ = some (.string NM) := cell_blk hh7 0 rfl
    have c1 : w7.cell? ⟨A, 1, none⟩ = some (.int .i64 dl) := cell_blk hh7 1 rfl
    have c2 : w7.cell? ⟨A, 2, none⟩ = some (.slice va m vc) := cell_blk hh7 2 rfl
    have e0 : w7.cell? ⟨C, 0, none⟩ = some (.string NM) := cell_blk hg7 0 rfl
    have e1 : w7.cell? ⟨C, 1, none⟩ = some (.int .i64 dl) := cell_blk hg7 1 rfl
    have e2 : w7.cell? ⟨C, 2, none⟩ = some (.slice vb m vd) := cell_blk hg7 2 rfl
    clear b7 hh7 hg7 d0 d1 d2 HN6 HM6 HH6 HG6 HS6 HS5 HS5' HB6 TX
    go_wp2_with fail
    go_at_call 12
    refine (PL.out _ _ va vb vc vd w7 HN7.out HM7.out).mono ?_
    rintro e w8 ⟨rfl, k8⟩
    have K8 := hide (HB7.out.trans (k8.below HB7.out.size fun _ h => h.elim))
    clear k8 c0 c1 c2 e0 e1 e2 HN7 HM7 HB7 PL
    go_wp2_with fail
    go_ret
    exact ⟨by simp, K8.out⟩
end U
end Go.Proofs.YtmadgickfdmibaaGreatDoor
