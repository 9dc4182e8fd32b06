/- turn: a lent plan becomes another one. -/
import Derived.Test.YtpblmleodcaamaaGTnM
import Derived.Test.YtpblmleodcaamaaRLst
import Derived.Deep.Cut
namespace Go.Proofs.Ytpblmleodcaamaa
namespace Gr
open Go.RowKit

theorem keep_into {S : Nat → Prop} {a b' : World} {g j : Nat} {v : Value} (k : Keep S a b') (hS : S g) : Keep S a (b'.setCell ⟨g, j, none⟩ v) := k.trans (keep_cell b' g j v) fun i e => .inl (by rw [e]; exact hS)
/-- what turn leaves -/
def TnE (b c n G : Nat) (v1 v2 : Value) (w : World) (e : Ending) (w' : World) : Prop := e = .returned (.tuple #[]) ∧ ∃ qs', (∀ q ∈ qs', q.nm.size ≤ 140737488351233) ∧ Lw b c w' n G qs' v1 v2 ∧ Keep (fun i => b ≤ i ∧ i < c) w w'
def TnI (b c n G : Nat) (v1 v2 : Value) (w2 wr : World) : Prop := ∃ qs', (∀ q ∈ qs', q.nm.size ≤ 140737488351232) ∧ Lw b c wr n G qs' v1 v2 ∧ Keep (fun i => b ≤ i ∧ i < c) w2 wr
theorem sizes_set {qs : List Nd} {M i : Nat} {q q' : Nd} (h : ∀ q ∈ qs, q.nm.size ≤ M) (hq : qs[i]? = some q) (e : q'.nm = q.nm) : ∀ q ∈ qs.set i q', q.nm.size ≤ M := fun q0 h0 => by
  rcases List.mem_or_eq_of_mem_set h0 with h1 | h1
  · exact h q0 h1
  · rw [h1, e]; exact h q (List.mem_of_getElem? hq)
set_option maxRecDepth 100000 in
set_option maxHeartbeats 20000000 in
theorem turn_any (nm : ByteArray) (dl : Int) (n G b c : Nat) (qs : List Nd) (v1 v2 : Value) (w : World) (hL : Lw b c w n G qs v1 v2) (hcw : c ≤ w.heap.size) (hn : n ≤ 20000) (hsz : ∀ q ∈ qs, q.nm.size ≤ 140737488351232) :
    Calls Try.prog 12 #[.agg #[.string nm, .int .i64 dl, .slice (some ⟨G, 0, none⟩) n (n + 3), .slice (some ⟨G, 0, none⟩) (n + 3) (n + 3), v1, v2]] w (TnE b c n G v1 v2 w) := by
  obtain ⟨a1, d1, hv1⟩ := ownsRow_shape hL.o1
  obtain ⟨a2, d2, hv2⟩ := ownsRow_shape hL.o2
  subst hv1
  subst hv2
  have K1 := Keep.alloc (fun i => b ≤ i ∧ i < c) w (.cells #[.string nm, .int .i64 dl, .slice (some ⟨G, 0, none⟩) n (n + 3), .slice (some ⟨G, 0, none⟩) (n + 3) (n + 3), .slice a1 n d1, .slice a2 n d2] 29)
  have hb1 := heap_alloc_new w (.cells #[.string nm, .int .i64 dl, .slice (some ⟨G, 0, none⟩) n (n + 3), .slice (some ⟨G, 0, none⟩) (n + 3) (n + 3), .slice a1 n d1, .slice a2 n d2] 29)
  have HL := hide (hL.new (Keep.alloc (fun _ => False) w (.cells #[.string nm, .int .i64 dl, .slice (some ⟨G, 0, none⟩) n (n + 3), .slice (some ⟨G, 0, none⟩) (n + 3) (n + 3), .slice a1 n d1, .slice a2 n d2] 29)))
  have KW := hide K1
  have HB1 := hide hb1
  have HSZ := hide hsz
  have hGN : ¬ (w.heap.size = G) := by have := hL.gc; omega
  clear K1 hb1 hL hsz
  go_enter Try.func12, Try.ntmps12
  go_upto_region 1 with fail
  generalize w.alloc (.cells #[.string nm, .int .i64 dl, .slice (some ⟨G, 0, none⟩) n (n + 3), .slice (some ⟨G, 0, none⟩) (n + 3) (n + 3), .slice a1 n d1, .slice a2 n d2] 29) = w2 at *
  have HF : Hid (∀ (qs' : List Nd) W, (∀ q ∈ qs', q.nm.size ≤ 140737488351233) → Lw b c W n G qs' (.slice a1 n d1) (.slice a2 n d2) → Keep (fun i => b ≤ i ∧ i < c) w2 W → TnE b c n G (.slice a1 n d1) (.slice a2 n d2) w (.returned (.tuple #[])) W) := fun qs' W h1 h2 h3 => ⟨rfl, qs', h1, h2, KW.out.more h3⟩
  generalize w.heap.size = N at *
  have HM : Hid (∀ W, Keep (fun i => b ≤ i ∧ i < c) w2 W → W.cell? ⟨N, 2, none⟩ = some (.slice (some ⟨G, 0, none⟩) n (n + 3)) ∧ W.cell? ⟨N, 3, none⟩ = some (.slice (some ⟨G, 0, none⟩) (n + 3) (n + 3)) ∧ W.cell? ⟨N, 4, none⟩ = some (.slice a1 n d1) ∧ W.cell? ⟨N, 5, none⟩ = some (.slice a2 n d2)) := fun W k =>
    ⟨cell_blk (k.blk HB1.out (fun h => by omega)) 2 rfl, cell_blk (k.blk HB1.out (fun h => by omega)) 3 rfl, cell_blk (k.blk HB1.out (fun h => by omega)) 4 rfl, cell_blk (k.blk HB1.out (fun h => by omega)) 5 rfl⟩
  have I0 : Hid (TnI b c n G (.slice a1 n d1) (.slice a2 n d2) w2 w2) := ⟨qs, HSZ.out, HL.out, Keep.refl _ _⟩
  clear KW HB1 HL HSZ
  obtain ⟨p2, p3, _⟩ := HM.out w2 (Keep.refl _ _)
  go_wp2_with fail
  clear p2 p3
  go_loopw [3] (fun iv wr => ∃ i : Nat, iv = .int .i64 (i : Nat) ∧ i ≤ n ∧ Hid (TnI b c n G (.slice a1 n d1) (.slice a2 n d2) w2 wr)) (fun iv _ => n - (intOf iv).toNat)
  case atStart => exact ⟨0, rfl, Nat.zero_le _, I0.out⟩
  case round => as_aux_lemma =>
    clear I0
    obtain ⟨i, rfl, hi, HI⟩ := hrel
    obtain ⟨qs', hsz', L, K⟩ := HI.out
    obtain ⟨p2, p3, p4, p5⟩ := HM.out wr K
    have HS := hide hsz'
    have HL := hide L
    have HK := hide K
    clear HI hsz'
    by_cases hlt : i < n
    · as_aux_lemma =>
      obtain ⟨q, h1, e1, h2, e2, g1, k1, z1, g2, k2, z2, hq, hnd, ev1, ev2, hc1, hc2, hne, haf, ⟨b1, l1, ow1, s1, m1⟩, b2, l2, ow2, s2, m2⟩ := L.at hlt
      obtain ⟨rfl, _, rfl⟩ : a1 = some ⟨h1, 0, none⟩ ∧ n = n ∧ d1 = e1 := by injection ev1 with x y z; exact ⟨x, y, z⟩
      obtain ⟨rfl, _, rfl⟩ : a2 = some ⟨h2, 0, none⟩ ∧ n = n ∧ d2 = e2 := by injection ev2 with x y z; exact ⟨x, y, z⟩
      have nb := hnd.all.2.2.1
      have fb := L.rows.froz (i * 10 + 2)
      obtain ⟨t, ht⟩ : ∃ t, IntKind.i64.wrap (q.bu + 1) = t := ⟨_, rfl⟩
      have hi3 : i < n + 3 := by omega
      have hi4 : (i : Int) < (n : Int) + 3 := by omega
      have HQ := hide hq
      have L2 := hide (HL.out.setN hq 2 (by decide) (q' := { q with bu := t }) (.int .i64 t) rfl rfl rfl)
      have K2 : Hid (Keep (fun i => b ≤ i ∧ i < c) w2 (wr.setCell ⟨G, i * 10 + 2, none⟩ (.int .i64 t))) := keep_into K ⟨L.gb, L.gc⟩
      clear ev1 ev2 L K hq hnd p2 p4 p5 hc1 hc2 ow1 ow2 s1 s2 hne haf b1 l1 m1 b2 l2 m2
      go_upto_region 5 with fail
      refine RL.wp_region_held_last (S := fun wx => wx.cell? ⟨N, 3, none⟩ = some (.slice (some ⟨G, 0, none⟩) (n + 3) (n + 3)) ∧ wx.cell? ⟨G, i * 10 + 2, none⟩ = some (.int .i64 q.bu)) rfl (by kernel_rfl) (by kernel_rfl) ⟨p3, nb⟩ (fun hHeld => ?_)
      change wpAnyH _ _ _ _ _ 13 (Array.replicate 13 false) _ _
      simp only [List.dropLast, List.getLast, List.cons_append, List.nil_append, RL.still]
      refine wpAnyH_take (i := 0) (oi := _) (v := ?_) rfl (by kernel_rfl) (by kernel_rfl) (by kernel_rfl) (fun _ _ _ h => h) (Or.inl ⟨by rfl, ?_⟩) (by assumption) ?_
      rotate_left
      · (intro w hSw; (try dsimp only at hSw); go_simp)
        all_goals with_reducible rfl
      go_simp
      refine wpAnyH_take (i := 1) (oi := _) (v := ?_) rfl (by kernel_rfl) (by kernel_rfl) (by kernel_rfl) (fun _ _ _ h => h) (Or.inl ⟨by rfl, ?_⟩) (by assumption) ?_
      rotate_left
      · (intro w hSw; (try dsimp only at hSw); go_simp)
        all_goals with_reducible rfl
      go_simp
      refine wpAnyH_take (i := 2) (oi := _) (v := ?_) rfl (by kernel_rfl) (by kernel_rfl) (by kernel_rfl) (fun _ _ _ h => h) (Or.inl ⟨by rfl, ?_⟩) (by assumption) ?_
      rotate_left
      · (intro w hSw; (try dsimp only at hSw); go_simp)
        all_goals with_reducible rfl
      go_simp
      refine wpAnyH_take (i := 3) (oi := _) (v := ?_) rfl (by kernel_rfl) (by kernel_rfl) (by kernel_rfl) (fun _ _ _ h => h) (Or.inl ⟨by rfl, ?_⟩) (by assumption) ?_
      rotate_left
      · (intro w hSw; (try dsimp only at hSw); go_simp)
        all_goals with_reducible rfl
      go_simp
      refine wpAnyH_take (i := 4) (oi := _) (v := ?_) rfl (by kernel_rfl) (by kernel_rfl) (by kernel_rfl) (fun _ _ _ h => h) (Or.inl ⟨by rfl, ?_⟩) (by assumption) ?_
      rotate_left
      · (intro w hSw; (try dsimp only at hSw); go_simp)
        all_goals with_reducible rfl
      go_simp
      refine wpAnyH_take (i := 5) (oi := _) (v := ?_) rfl (by kernel_rfl) (by kernel_rfl) (by kernel_rfl) (fun _ _ _ h => h) (Or.inl ⟨by rfl, ?_⟩) (by assumption) ?_
      rotate_left
      · (intro w hSw; (try dsimp only at hSw); go_simp)
        all_goals with_reducible rfl
      go_simp
      refine wpAnyH_take (i := 6) (oi := _) (v := ?_) rfl (by kernel_rfl) (by kernel_rfl) (by kernel_rfl) (fun _ _ _ h => h) (Or.inl ⟨by rfl, ?_⟩) (by assumption) ?_
      rotate_left
      · (intro w hSw; (try dsimp only at hSw); go_simp)
        all_goals with_reducible rfl
      go_simp
      refine wpAnyH_take (i := 7) (oi := _) (v := ?_) rfl (by kernel_rfl) (by kernel_rfl) (by kernel_rfl) (fun _ _ _ h => h) (Or.inl ⟨by rfl, ?_⟩) (by assumption) ?_
      rotate_left
      · (intro w hSw; (try dsimp only at hSw); go_simp)
        all_goals with_reducible rfl
      go_simp
      refine wpAnyH_take (i := 8) (oi := _) (v := ?_) rfl (by kernel_rfl) (by kernel_rfl) (by kernel_rfl) (fun _ _ _ h => h) (Or.inl ⟨by rfl, ?_⟩) (by assumption) ?_
      rotate_left
      · (intro w hSw; (try dsimp only at hSw); go_simp)
        all_goals with_reducible rfl
      go_simp
      refine wpAnyH_take (i := 9) (oi := _) (v := ?_) rfl (by kernel_rfl) (by kernel_rfl) (by kernel_rfl) (fun _ _ _ h => h) (Or.inl ⟨by rfl, ?_⟩) (by assumption) ?_
      rotate_left
      · (intro w hSw; (try dsimp only at hSw); go_simp)
        all_goals with_reducible rfl
      go_simp
      refine wpAnyH_take (i := 10) (oi := _) (v := ?_) rfl (by kernel_rfl) (by kernel_rfl) (by kernel_rfl) (fun _ _ _ h => h) (Or.inl ⟨by rfl, ?_⟩) (by assumption) ?_
      rotate_left
      · (intro w hSw; (try dsimp only at hSw); go_simp)
        all_goals with_reducible rfl
      go_simp
      refine wpAnyH_take (i := 11) (oi := _) (v := ?_) rfl (by kernel_rfl) (by kernel_rfl) (by kernel_rfl) (fun _ _ _ h => h) (Or.inl ⟨by rfl, ?_⟩) (by assumption) ?_
      rotate_left
      · (intro w hSw; (try dsimp only at hSw); go_simp)
        all_goals with_reducible rfl
      go_simp
      refine wpAnyH_take (i := 12) (oi := _) (v := ?_) rfl (by kernel_rfl) (by kernel_rfl) (by kernel_rfl) (fun _ _ _ h => h) (Or.inl ⟨by rfl, ?_⟩) (by assumption) ?_
      rotate_left
      · (intro w hSw; (try dsimp only at hSw); go_simp)
        all_goals with_reducible rfl
      go_simp
      refine wpAnyH_done (by kernel_rfl) ?_ _
      simp only [RL.endQ]
      unfold Oper.wp
      go_simp
      have L3 := hide (L2.out.new (Keep.drew (fun _ => False) _))
      have K3 := hide (K2.out.more (Keep.drew _ _))
      have S3 := hide (sizes_set (q' := { q with bu := t }) HS.out HQ.out rfl)
      clear hHeld p3 nb fb ht L2 K2 HS HQ HL HK
      generalize (wr.setCell ⟨G, i * 10 + 2, none⟩ (.int .i64 t)).drew = w3 at *
      generalize qs'.set i { q with bu := t } = qs3 at *
      obtain ⟨p2, p3, p4, p5⟩ := HM.out w3 K3.out
      obtain ⟨q, h1', e1', h2', e2', g1, k1, z1, g2, k2, z2, hq, hnd, ev1, ev2, hc1, hc2, hne, haf, ⟨b1, l1, ow1, s1, m1⟩, b2, l2, ow2, s2, m2⟩ := L3.out.at hlt
      obtain ⟨rfl, rfl⟩ : h1 = h1' ∧ d1 = e1' := by injection ev1 with x y z; injection x with x; injection x with x; exact ⟨x, z⟩
      obtain ⟨rfl, rfl⟩ : h2 = h2' ∧ d2 = e2' := by injection ev2 with x y z; injection x with x; injection x with x; exact ⟨x, z⟩
      have nl := hnd.all.2.2.2.2.2.2.2.2.1
      rw [hne] at nl
      simp only at nl
      have OW := hide ow1
      have SZ := hide s1
      clear ev1 ev2 hnd hq p2 ow1 ow2 s1 s2 hc2 p5
      by_cases hk : k1 = 0
      · as_aux_lemma =>
        obtain rfl : k1 = 0 := by omega
        clear OW SZ b1 l1 b2 l2 m1 m2 hne haf p4 hc1
        go_upto_region 9 with fail
        clear p3 nl hk
        obtain ⟨p2, p3, p4, p5⟩ := HM.out w3 K3.out
        obtain ⟨q, h1', e1', h2', e2', g1, k1, z1, g2, k2, z2, hq, hnd, ev1, ev2, hc1, hc2, hne, haf, ⟨b1, l1, ow1, s1, m1⟩, b2, l2, ow2, s2, m2⟩ := L3.out.at hlt
        obtain ⟨rfl, rfl⟩ : h1 = h1' ∧ d1 = e1' := by injection ev1 with x y z; injection x with x; injection x with x; exact ⟨x, z⟩
        obtain ⟨rfl, rfl⟩ : h2 = h2' ∧ d2 = e2' := by injection ev2 with x y z; injection x with x; injection x with x; exact ⟨x, z⟩
        have nl := hnd.all.2.2.2.2.2.2.2.2.2
        rw [haf] at nl
        simp only at nl
        have OW := hide ow2
        have SZ := hide s2
        clear ev1 ev2 hnd hq p2 ow1 ow2 s1 s2 hc1 p4
        by_cases hk : k2 = 0
        · as_aux_lemma =>
          obtain rfl : k2 = 0 := by omega
          clear OW SZ b1 l1 b2 l2 m1 m2 hne haf p5 hc2
          go_wp2_with fail
          go_roundw
          · exact ⟨i + 1, rfl, by omega, _, S3.out, L3.out, K3.out⟩
          · show n - ((i : Int) + 1).toNat < n - (i : Int).toNat
            omega
        · as_aux_lemma =>
          obtain ⟨m, rfl⟩ : ∃ m, k2 = m + 1 := ⟨k2 - 1, by omega⟩
          obtain ⟨z, hz⟩ : ∃ z, z2[m]? = some z := ⟨_, List.getElem?_eq_getElem (by have := SZ.out; omega)⟩
          have cz := (OW.out.at hz).1
          have fz := (OW.out.at hz).2
          obtain ⟨t, ht⟩ : ∃ t, IntKind.i64.wrap (z - 1) = t := ⟨_, rfl⟩
          have hgt : (0 : Int) < (m : Int) + 1 := by omega
          have hm1 : (m : Int) < (m : Int) + 1 + 20 := by omega
          have hm2 : m < m + 1 + 20 := by omega
          have hwm : IntKind.i64.wrap (m : Int) = (m : Int) := by rw [IntKind.wrap_i64]; omega
          have LN := hide (L3.out.setZ OW.out m t)
          have KN : Hid (Keep (fun i => b ≤ i ∧ i < c) w2 (w3.setCell ⟨g2, m, none⟩ (.int .i64 t))) := keep_into K3.out ⟨b2, l2⟩
          clear hz OW SZ
          go_upto_region 11 with fail
          as_aux_lemma =>
          refine RL.wp_region_held_last (S := fun wx => wx.cell? ⟨N, 5, none⟩ = some (.slice (some ⟨h2, 0, none⟩) n d2) ∧ wx.cell? ⟨h2, i, none⟩ = some (.slice (some ⟨g2, 0, none⟩) (m + 1 + 20) (m + 1 + 20)) ∧ wx.cell? ⟨g2, m, none⟩ = some (.int .i64 z)) rfl (by kernel_rfl) (by kernel_rfl) ⟨p5, hc2, cz⟩ (fun hHeld => ?_)
          change wpAnyH _ _ _ _ _ 19 (Array.replicate 19 false) _ _
          simp only [List.dropLast, List.getLast, List.cons_append, List.nil_append, RL.still]
          refine wpAnyH_take (i := 0) (oi := _) (v := ?_) rfl (by kernel_rfl) (by kernel_rfl) (by kernel_rfl) (fun _ _ _ h => h) (Or.inl ⟨by rfl, ?_⟩) (by assumption) ?_
          rotate_left
          · (intro w hSw; (try dsimp only at hSw); go_simp)
            all_goals with_reducible rfl
          go_simp
          refine wpAnyH_take (i := 1) (oi := _) (v := ?_) rfl (by kernel_rfl) (by kernel_rfl) (by kernel_rfl) (fun _ _ _ h => h) (Or.inl ⟨by rfl, ?_⟩) (by assumption) ?_
          rotate_left
          · (intro w hSw; (try dsimp only at hSw); go_simp)
            all_goals with_reducible rfl
          go_simp
          refine wpAnyH_take (i := 2) (oi := _) (v := ?_) rfl (by kernel_rfl) (by kernel_rfl) (by kernel_rfl) (fun _ _ _ h => h) (Or.inl ⟨by rfl, ?_⟩) (by assumption) ?_
          rotate_left
          · (intro w hSw; (try dsimp only at hSw); go_simp)
            all_goals with_reducible rfl
          go_simp
          refine wpAnyH_take (i := 3) (oi := _) (v := ?_) rfl (by kernel_rfl) (by kernel_rfl) (by kernel_rfl) (fun _ _ _ h => h) (Or.inl ⟨by rfl, ?_⟩) (by assumption) ?_
          rotate_left
          · (intro w hSw; (try dsimp only at hSw); go_simp)
            all_goals with_reducible rfl
          go_simp
          refine wpAnyH_take (i := 4) (oi := _) (v := ?_) rfl (by kernel_rfl) (by kernel_rfl) (by kernel_rfl) (fun _ _ _ h => h) (Or.inl ⟨by rfl, ?_⟩) (by assumption) ?_
          rotate_left
          · (intro w hSw; (try dsimp only at hSw); go_simp)
            all_goals with_reducible rfl
          go_simp
          refine wpAnyH_take (i := 5) (oi := _) (v := ?_) rfl (by kernel_rfl) (by kernel_rfl) (by kernel_rfl) (fun _ _ _ h => h) (Or.inl ⟨by rfl, ?_⟩) (by assumption) ?_
          rotate_left
          · (intro w hSw; (try dsimp only at hSw); go_simp)
            all_goals with_reducible rfl
          go_simp
          refine wpAnyH_take (i := 6) (oi := _) (v := ?_) rfl (by kernel_rfl) (by kernel_rfl) (by kernel_rfl) (fun _ _ _ h => h) (Or.inl ⟨by rfl, ?_⟩) (by assumption) ?_
          rotate_left
          · (intro w hSw; (try dsimp only at hSw); go_simp)
            all_goals with_reducible rfl
          go_simp
          refine wpAnyH_take (i := 7) (oi := _) (v := ?_) rfl (by kernel_rfl) (by kernel_rfl) (by kernel_rfl) (fun _ _ _ h => h) (Or.inl ⟨by rfl, ?_⟩) (by assumption) ?_
          rotate_left
          · (intro w hSw; (try dsimp only at hSw); go_simp)
            all_goals with_reducible rfl
          go_simp
          refine wpAnyH_take (i := 8) (oi := _) (v := ?_) rfl (by kernel_rfl) (by kernel_rfl) (by kernel_rfl) (fun _ _ _ h => h) (Or.inl ⟨by rfl, ?_⟩) (by assumption) ?_
          rotate_left
          · (intro w hSw; (try dsimp only at hSw); go_simp)
            all_goals with_reducible rfl
          go_simp
          refine wpAnyH_take (i := 9) (oi := _) (v := ?_) rfl (by kernel_rfl) (by kernel_rfl) (by kernel_rfl) (fun _ _ _ h => h) (Or.inl ⟨by rfl, ?_⟩) (by assumption) ?_
          rotate_left
          · (intro w hSw; (try dsimp only at hSw); go_simp)
            all_goals with_reducible rfl
          go_simp
          refine wpAnyH_take (i := 10) (oi := _) (v := ?_) rfl (by kernel_rfl) (by kernel_rfl) (by kernel_rfl) (fun _ _ _ h => h) (Or.inl ⟨by rfl, ?_⟩) (by assumption) ?_
          rotate_left
          · (intro w hSw; (try dsimp only at hSw); go_simp)
            all_goals with_reducible rfl
          go_simp
          refine wpAnyH_take (i := 11) (oi := _) (v := ?_) rfl (by kernel_rfl) (by kernel_rfl) (by kernel_rfl) (fun _ _ _ h => h) (Or.inl ⟨by rfl, ?_⟩) (by assumption) ?_
          rotate_left
          · (intro w hSw; (try dsimp only at hSw); go_simp)
            all_goals with_reducible rfl
          go_simp
          refine wpAnyH_take (i := 12) (oi := _) (v := ?_) rfl (by kernel_rfl) (by kernel_rfl) (by kernel_rfl) (fun _ _ _ h => h) (Or.inl ⟨by rfl, ?_⟩) (by assumption) ?_
          rotate_left
          · (intro w hSw; (try dsimp only at hSw); go_simp)
            all_goals with_reducible rfl
          go_simp
          refine wpAnyH_take (i := 13) (oi := _) (v := ?_) rfl (by kernel_rfl) (by kernel_rfl) (by kernel_rfl) (fun _ _ _ h => h) (Or.inl ⟨by rfl, ?_⟩) (by assumption) ?_
          rotate_left
          · (intro w hSw; (try dsimp only at hSw); go_simp)
            all_goals with_reducible rfl
          go_simp
          refine wpAnyH_take (i := 14) (oi := _) (v := ?_) rfl (by kernel_rfl) (by kernel_rfl) (by kernel_rfl) (fun _ _ _ h => h) (Or.inl ⟨by rfl, ?_⟩) (by assumption) ?_
          rotate_left
          · (intro w hSw; (try dsimp only at hSw); go_simp)
            all_goals with_reducible rfl
          go_simp
          refine wpAnyH_take (i := 15) (oi := _) (v := ?_) rfl (by kernel_rfl) (by kernel_rfl) (by kernel_rfl) (fun _ _ _ h => h) (Or.inl ⟨by rfl, ?_⟩) (by assumption) ?_
          rotate_left
          · (intro w hSw; (try dsimp only at hSw); go_simp)
            all_goals with_reducible rfl
          go_simp
          refine wpAnyH_take (i := 16) (oi := _) (v := ?_) rfl (by kernel_rfl) (by kernel_rfl) (by kernel_rfl) (fun _ _ _ h => h) (Or.inl ⟨by rfl, ?_⟩) (by assumption) ?_
          rotate_left
          · (intro w hSw; (try dsimp only at hSw); go_simp)
            all_goals with_reducible rfl
          go_simp
          refine wpAnyH_take (i := 17) (oi := _) (v := ?_) rfl (by kernel_rfl) (by kernel_rfl) (by kernel_rfl) (fun _ _ _ h => h) (Or.inl ⟨by rfl, ?_⟩) (by assumption) ?_
          rotate_left
          · (intro w hSw; (try dsimp only at hSw); go_simp)
            all_goals with_reducible rfl
          go_simp
          refine wpAnyH_take (i := 18) (oi := _) (v := ?_) rfl (by kernel_rfl) (by kernel_rfl) (by kernel_rfl) (fun _ _ _ h => h) (Or.inl ⟨by rfl, ?_⟩) (by assumption) ?_
          rotate_left
          · (intro w hSw; (try dsimp only at hSw); go_simp)
            all_goals with_reducible rfl
          go_simp
          refine wpAnyH_done (by kernel_rfl) ?_ _
          simp only [RL.endQ]
          unfold Oper.wp
          go_simp
          have L7 := hide (LN.out.new (Keep.drew (fun _ => False) _))
          have K7 := hide (KN.out.more (Keep.drew _ _))
          clear hHeld hwm p5 nl p3 hc2 cz fz ht LN KN L3 K3 b1 l1 b2 l2 m1 m2 hne haf hgt hm1 hm2
          generalize (w3.setCell ⟨g2, m, none⟩ (.int .i64 t)).drew = w7 at *
          go_wp2_with fail
          go_roundw
          · exact ⟨i + 1, rfl, by omega, _, S3.out, L7.out, K7.out⟩
          · show n - ((i : Int) + 1).toNat < n - (i : Int).toNat
            omega
      · as_aux_lemma =>
        obtain ⟨m, rfl⟩ : ∃ m, k1 = m + 1 := ⟨k1 - 1, by omega⟩
        obtain ⟨z, hz⟩ : ∃ z, z1[m]? = some z := ⟨_, List.getElem?_eq_getElem (by have := SZ.out; omega)⟩
        have cz := (OW.out.at hz).1
        have fz := (OW.out.at hz).2
        obtain ⟨t, ht⟩ : ∃ t, IntKind.i64.wrap (z - 1) = t := ⟨_, rfl⟩
        have hgt : (0 : Int) < (m : Int) + 1 := by omega
        have hm1 : (m : Int) < (m : Int) + 1 + 20 := by omega
        have hm2 : m < m + 1 + 20 := by omega
        have hwm : IntKind.i64.wrap (m : Int) = (m : Int) := by rw [IntKind.wrap_i64]; omega
        have LN := hide (L3.out.setZ OW.out m t)
        have KN : Hid (Keep (fun i => b ≤ i ∧ i < c) w2 (w3.setCell ⟨g1, m, none⟩ (.int .i64 t))) := keep_into K3.out ⟨b1, l1⟩
        clear hz OW SZ
        go_upto_region 8 with fail
        as_aux_lemma =>
        refine RL.wp_region_held_last (S := fun wx => wx.cell? ⟨N, 4, none⟩ = some (.slice (some ⟨h1, 0, none⟩) n d1) ∧ wx.cell? ⟨h1, i, none⟩ = some (.slice (some ⟨g1, 0, none⟩) (m + 1 + 20) (m + 1 + 20)) ∧ wx.cell? ⟨g1, m, none⟩ = some (.int .i64 z)) rfl (by kernel_rfl) (by kernel_rfl) ⟨p4, hc1, cz⟩ (fun hHeld => ?_)
        change wpAnyH _ _ _ _ _ 19 (Array.replicate 19 false) _ _
        simp only [List.dropLast, List.getLast, List.cons_append, List.nil_append, RL.still]
        refine wpAnyH_take (i := 0) (oi := _) (v := ?_) rfl (by kernel_rfl) (by kernel_rfl) (by kernel_rfl) (fun _ _ _ h => h) (Or.inl ⟨by rfl, ?_⟩) (by assumption) ?_
        rotate_left
        · (intro w hSw; (try dsimp only at hSw); go_simp)
          all_goals with_reducible rfl
        go_simp
        refine wpAnyH_take (i := 1) (oi := _) (v := ?_) rfl (by kernel_rfl) (by kernel_rfl) (by kernel_rfl) (fun _ _ _ h => h) (Or.inl ⟨by rfl, ?_⟩) (by assumption) ?_
        rotate_left
        · (intro w hSw; (try dsimp only at hSw); go_simp)
          all_goals with_reducible rfl
        go_simp
        refine wpAnyH_take (i := 2) (oi := _) (v := ?_) rfl (by kernel_rfl) (by kernel_rfl) (by kernel_rfl) (fun _ _ _ h => h) (Or.inl ⟨by rfl, ?_⟩) (by assumption) ?_
        rotate_left
        · (intro w hSw; (try dsimp only at hSw); go_simp)
          all_goals with_reducible rfl
        go_simp
        refine wpAnyH_take (i := 3) (oi := _) (v := ?_) rfl (by kernel_rfl) (by kernel_rfl) (by kernel_rfl) (fun _ _ _ h => h) (Or.inl ⟨by rfl, ?_⟩) (by assumption) ?_
        rotate_left
        · (intro w hSw; (try dsimp only at hSw); go_simp)
          all_goals with_reducible rfl
        go_simp
        refine wpAnyH_take (i := 4) (oi := _) (v := ?_) rfl (by kernel_rfl) (by kernel_rfl) (by kernel_rfl) (fun _ _ _ h => h) (Or.inl ⟨by rfl, ?_⟩) (by assumption) ?_
        rotate_left
        · (intro w hSw; (try dsimp only at hSw); go_simp)
          all_goals with_reducible rfl
        go_simp
        refine wpAnyH_take (i := 5) (oi := _) (v := ?_) rfl (by kernel_rfl) (by kernel_rfl) (by kernel_rfl) (fun _ _ _ h => h) (Or.inl ⟨by rfl, ?_⟩) (by assumption) ?_
        rotate_left
        · (intro w hSw; (try dsimp only at hSw); go_simp)
          all_goals with_reducible rfl
        go_simp
        refine wpAnyH_take (i := 6) (oi := _) (v := ?_) rfl (by kernel_rfl) (by kernel_rfl) (by kernel_rfl) (fun _ _ _ h => h) (Or.inl ⟨by rfl, ?_⟩) (by assumption) ?_
        rotate_left
        · (intro w hSw; (try dsimp only at hSw); go_simp)
          all_goals with_reducible rfl
        go_simp
        refine wpAnyH_take (i := 7) (oi := _) (v := ?_) rfl (by kernel_rfl) (by kernel_rfl) (by kernel_rfl) (fun _ _ _ h => h) (Or.inl ⟨by rfl, ?_⟩) (by assumption) ?_
        rotate_left
        · (intro w hSw; (try dsimp only at hSw); go_simp)
          all_goals with_reducible rfl
        go_simp
        refine wpAnyH_take (i := 8) (oi := _) (v := ?_) rfl (by kernel_rfl) (by kernel_rfl) (by kernel_rfl) (fun _ _ _ h => h) (Or.inl ⟨by rfl, ?_⟩) (by assumption) ?_
        rotate_left
        · (intro w hSw; (try dsimp only at hSw); go_simp)
          all_goals with_reducible rfl
        go_simp
        refine wpAnyH_take (i := 9) (oi := _) (v := ?_) rfl (by kernel_rfl) (by kernel_rfl) (by kernel_rfl) (fun _ _ _ h => h) (Or.inl ⟨by rfl, ?_⟩) (by assumption) ?_
        rotate_left
        · (intro w hSw; (try dsimp only at hSw); go_simp)
          all_goals with_reducible rfl
        go_simp
        refine wpAnyH_take (i := 10) (oi := _) (v := ?_) rfl (by kernel_rfl) (by kernel_rfl) (by kernel_rfl) (fun _ _ _ h => h) (Or.inl ⟨by rfl, ?_⟩) (by assumption) ?_
        rotate_left
        · (intro w hSw; (try dsimp only at hSw); go_simp)
          all_goals with_reducible rfl
        go_simp
        refine wpAnyH_take (i := 11) (oi := _) (v := ?_) rfl (by kernel_rfl) (by kernel_rfl) (by kernel_rfl) (fun _ _ _ h => h) (Or.inl ⟨by rfl, ?_⟩) (by assumption) ?_
        rotate_left
        · (intro w hSw; (try dsimp only at hSw); go_simp)
          all_goals with_reducible rfl
        go_simp
        refine wpAnyH_take (i := 12) (oi := _) (v := ?_) rfl (by kernel_rfl) (by kernel_rfl) (by kernel_rfl) (fun _ _ _ h => h) (Or.inl ⟨by rfl, ?_⟩) (by assumption) ?_
        rotate_left
        · (intro w hSw; (try dsimp only at hSw); go_simp)
          all_goals with_reducible rfl
        go_simp
        refine wpAnyH_take (i := 13) (oi := _) (v := ?_) rfl (by kernel_rfl) (by kernel_rfl) (by kernel_rfl) (fun _ _ _ h => h) (Or.inl ⟨by rfl, ?_⟩) (by assumption) ?_
        rotate_left
        · (intro w hSw; (try dsimp only at hSw); go_simp)
          all_goals with_reducible rfl
        go_simp
        refine wpAnyH_take (i := 14) (oi := _) (v := ?_) rfl (by kernel_rfl) (by kernel_rfl) (by kernel_rfl) (fun _ _ _ h => h) (Or.inl ⟨by rfl, ?_⟩) (by assumption) ?_
        rotate_left
        · (intro w hSw; (try dsimp only at hSw); go_simp)
          all_goals with_reducible rfl
        go_simp
        refine wpAnyH_take (i := 15) (oi := _) (v := ?_) rfl (by kernel_rfl) (by kernel_rfl) (by kernel_rfl) (fun _ _ _ h => h) (Or.inl ⟨by rfl, ?_⟩) (by assumption) ?_
        rotate_left
        · (intro w hSw; (try dsimp only at hSw); go_simp)
          all_goals with_reducible rfl
        go_simp
        refine wpAnyH_take (i := 16) (oi := _) (v := ?_) rfl (by kernel_rfl) (by kernel_rfl) (by kernel_rfl) (fun _ _ _ h => h) (Or.inl ⟨by rfl, ?_⟩) (by assumption) ?_
        rotate_left
        · (intro w hSw; (try dsimp only at hSw); go_simp)
          all_goals with_reducible rfl
        go_simp
        refine wpAnyH_take (i := 17) (oi := _) (v := ?_) rfl (by kernel_rfl) (by kernel_rfl) (by kernel_rfl) (fun _ _ _ h => h) (Or.inl ⟨by rfl, ?_⟩) (by assumption) ?_
        rotate_left
        · (intro w hSw; (try dsimp only at hSw); go_simp)
          all_goals with_reducible rfl
        go_simp
        refine wpAnyH_take (i := 18) (oi := _) (v := ?_) rfl (by kernel_rfl) (by kernel_rfl) (by kernel_rfl) (fun _ _ _ h => h) (Or.inl ⟨by rfl, ?_⟩) (by assumption) ?_
        rotate_left
        · (intro w hSw; (try dsimp only at hSw); go_simp)
          all_goals with_reducible rfl
        go_simp
        refine wpAnyH_done (by kernel_rfl) ?_ _
        simp only [RL.endQ]
        unfold Oper.wp
        go_simp
        have L5 := hide (LN.out.new (Keep.drew (fun _ => False) _))
        have K5 := hide (KN.out.more (Keep.drew _ _))
        clear hHeld hwm p4 nl p3 hc1 cz fz ht LN KN L3 K3 b1 l1 b2 l2 m1 m2 hne haf hgt hm1 hm2
        generalize (w3.setCell ⟨g1, m, none⟩ (.int .i64 t)).drew = w5 at *
        go_upto_region 9 with fail
        obtain ⟨p2, p3, p4, p5⟩ := HM.out w5 K5.out
        obtain ⟨q, h1', e1', h2', e2', g1, k1, z1, g2, k2, z2, hq, hnd, ev1, ev2, hc1, hc2, hne, haf, ⟨b1, l1, ow1, s1, m1⟩, b2, l2, ow2, s2, m2⟩ := L5.out.at hlt
        obtain ⟨rfl, rfl⟩ : h1 = h1' ∧ d1 = e1' := by injection ev1 with x y z; injection x with x; injection x with x; exact ⟨x, z⟩
        obtain ⟨rfl, rfl⟩ : h2 = h2' ∧ d2 = e2' := by injection ev2 with x y z; injection x with x; injection x with x; exact ⟨x, z⟩
        have nl := hnd.all.2.2.2.2.2.2.2.2.2
        rw [haf] at nl
        simp only at nl
        have OW := hide ow2
        have SZ := hide s2
        clear ev1 ev2 hnd hq p2 ow1 ow2 s1 s2 hc1 p4
        by_cases hk : k2 = 0
        · as_aux_lemma =>
          obtain rfl : k2 = 0 := by omega
          clear OW SZ b1 l1 b2 l2 m1 m2 hne haf p5 hc2
          go_wp2_with fail
          go_roundw
          · exact ⟨i + 1, rfl, by omega, _, S3.out, L5.out, K5.out⟩
          · show n - ((i : Int) + 1).toNat < n - (i : Int).toNat
            omega
        · as_aux_lemma =>
          obtain ⟨m, rfl⟩ : ∃ m, k2 = m + 1 := ⟨k2 - 1, by omega⟩
          obtain ⟨z, hz⟩ : ∃ z, z2[m]? = some z := ⟨_, List.getElem?_eq_getElem (by have := SZ.out; omega)⟩
          have cz := (OW.out.at hz).1
          have fz := (OW.out.at hz).2
          obtain ⟨t, ht⟩ : ∃ t, IntKind.i64.wrap (z - 1) = t := ⟨_, rfl⟩
          have hgt : (0 : Int) < (m : Int) + 1 := by omega
          have hm1 : (m : Int) < (m : Int) + 1 + 20 := by omega
          have hm2 : m < m + 1 + 20 := by omega
          have hwm : IntKind.i64.wrap (m : Int) = (m : Int) := by rw [IntKind.wrap_i64]; omega
          have LN := hide (L5.out.setZ OW.out m t)
          have KN : Hid (Keep (fun i => b ≤ i ∧ i < c) w2 (w5.setCell ⟨g2, m, none⟩ (.int .i64 t))) := keep_into K5.out ⟨b2, l2⟩
          clear hz OW SZ
          go_upto_region 11 with fail
          as_aux_lemma =>
          refine RL.wp_region_held_last (S := fun wx => wx.cell? ⟨N, 5, none⟩ = some (.slice (some ⟨h2, 0, none⟩) n d2) ∧ wx.cell? ⟨h2, i, none⟩ = some (.slice (some ⟨g2, 0, none⟩) (m + 1 + 20) (m + 1 + 20)) ∧ wx.cell? ⟨g2, m, none⟩ = some (.int .i64 z)) rfl (by kernel_rfl) (by kernel_rfl) ⟨p5, hc2, cz⟩ (fun hHeld => ?_)
          change wpAnyH _ _ _ _ _ 19 (Array.replicate 19 false) _ _
          simp only [List.dropLast, List.getLast, List.cons_append, List.nil_append, RL.still]
          refine wpAnyH_take (i := 0) (oi := _) (v := ?_) rfl (by kernel_rfl) (by kernel_rfl) (by kernel_rfl) (fun _ _ _ h => h) (Or.inl ⟨by rfl, ?_⟩) (by assumption) ?_
          rotate_left
          · (intro w hSw; (try dsimp only at hSw); go_simp)
            all_goals with_reducible rfl
          go_simp
          refine wpAnyH_take (i := 1) (oi := _) (v := ?_) rfl (by kernel_rfl) (by kernel_rfl) (by kernel_rfl) (fun _ _ _ h => h) (Or.inl ⟨by rfl, ?_⟩) (by assumption) ?_
          rotate_left
          · (intro w hSw; (try dsimp only at hSw); go_simp)
            all_goals with_reducible rfl
          go_simp
          refine wpAnyH_take (i := 2) (oi := _) (v := ?_) rfl (by kernel_rfl) (by kernel_rfl) (by kernel_rfl) (fun _ _ _ h => h) (Or.inl ⟨by rfl, ?_⟩) (by assumption) ?_
          rotate_left
          · (intro w hSw; (try dsimp only at hSw); go_simp)
            all_goals with_reducible rfl
          go_simp
          refine wpAnyH_take (i := 3) (oi := _) (v := ?_) rfl (by kernel_rfl) (by kernel_rfl) (by kernel_rfl) (fun _ _ _ h => h) (Or.inl ⟨by rfl, ?_⟩) (by assumption) ?_
          rotate_left
          · (intro w hSw; (try dsimp only at hSw); go_simp)
            all_goals with_reducible rfl
          go_simp
          refine wpAnyH_take (i := 4) (oi := _) (v := ?_) rfl (by kernel_rfl) (by kernel_rfl) (by kernel_rfl) (fun _ _ _ h => h) (Or.inl ⟨by rfl, ?_⟩) (by assumption) ?_
          rotate_left
          · (intro w hSw; (try dsimp only at hSw); go_simp)
            all_goals with_reducible rfl
          go_simp
          refine wpAnyH_take (i := 5) (oi := _) (v := ?_) rfl (by kernel_rfl) (by kernel_rfl) (by kernel_rfl) (fun _ _ _ h => h) (Or.inl ⟨by rfl, ?_⟩) (by assumption) ?_
          rotate_left
          · (intro w hSw; (try dsimp only at hSw); go_simp)
            all_goals with_reducible rfl
          go_simp
          refine wpAnyH_take (i := 6) (oi := _) (v := ?_) rfl (by kernel_rfl) (by kernel_rfl) (by kernel_rfl) (fun _ _ _ h => h) (Or.inl ⟨by rfl, ?_⟩) (by assumption) ?_
          rotate_left
          · (intro w hSw; (try dsimp only at hSw); go_simp)
            all_goals with_reducible rfl
          go_simp
          refine wpAnyH_take (i := 7) (oi := _) (v := ?_) rfl (by kernel_rfl) (by kernel_rfl) (by kernel_rfl) (fun _ _ _ h => h) (Or.inl ⟨by rfl, ?_⟩) (by assumption) ?_
          rotate_left
          · (intro w hSw; (try dsimp only at hSw); go_simp)
            all_goals with_reducible rfl
          go_simp
          refine wpAnyH_take (i := 8) (oi := _) (v := ?_) rfl (by kernel_rfl) (by kernel_rfl) (by kernel_rfl) (fun _ _ _ h => h) (Or.inl ⟨by rfl, ?_⟩) (by assumption) ?_
          rotate_left
          · (intro w hSw; (try dsimp only at hSw); go_simp)
            all_goals with_reducible rfl
          go_simp
          refine wpAnyH_take (i := 9) (oi := _) (v := ?_) rfl (by kernel_rfl) (by kernel_rfl) (by kernel_rfl) (fun _ _ _ h => h) (Or.inl ⟨by rfl, ?_⟩) (by assumption) ?_
          rotate_left
          · (intro w hSw; (try dsimp only at hSw); go_simp)
            all_goals with_reducible rfl
          go_simp
          refine wpAnyH_take (i := 10) (oi := _) (v := ?_) rfl (by kernel_rfl) (by kernel_rfl) (by kernel_rfl) (fun _ _ _ h => h) (Or.inl ⟨by rfl, ?_⟩) (by assumption) ?_
          rotate_left
          · (intro w hSw; (try dsimp only at hSw); go_simp)
            all_goals with_reducible rfl
          go_simp
          refine wpAnyH_take (i := 11) (oi := _) (v := ?_) rfl (by kernel_rfl) (by kernel_rfl) (by kernel_rfl) (fun _ _ _ h => h) (Or.inl ⟨by rfl, ?_⟩) (by assumption) ?_
          rotate_left
          · (intro w hSw; (try dsimp only at hSw); go_simp)
            all_goals with_reducible rfl
          go_simp
          refine wpAnyH_take (i := 12) (oi := _) (v := ?_) rfl (by kernel_rfl) (by kernel_rfl) (by kernel_rfl) (fun _ _ _ h => h) (Or.inl ⟨by rfl, ?_⟩) (by assumption) ?_
          rotate_left
          · (intro w hSw; (try dsimp only at hSw); go_simp)
            all_goals with_reducible rfl
          go_simp
          refine wpAnyH_take (i := 13) (oi := _) (v := ?_) rfl (by kernel_rfl) (by kernel_rfl) (by kernel_rfl) (fun _ _ _ h => h) (Or.inl ⟨by rfl, ?_⟩) (by assumption) ?_
          rotate_left
          · (intro w hSw; (try dsimp only at hSw); go_simp)
            all_goals with_reducible rfl
          go_simp
          refine wpAnyH_take (i := 14) (oi := _) (v := ?_) rfl (by kernel_rfl) (by kernel_rfl) (by kernel_rfl) (fun _ _ _ h => h) (Or.inl ⟨by rfl, ?_⟩) (by assumption) ?_
          rotate_left
          · (intro w hSw; (try dsimp only at hSw); go_simp)
            all_goals with_reducible rfl
          go_simp
          refine wpAnyH_take (i := 15) (oi := _) (v := ?_) rfl (by kernel_rfl) (by kernel_rfl) (by kernel_rfl) (fun _ _ _ h => h) (Or.inl ⟨by rfl, ?_⟩) (by assumption) ?_
          rotate_left
          · (intro w hSw; (try dsimp only at hSw); go_simp)
            all_goals with_reducible rfl
          go_simp
          refine wpAnyH_take (i := 16) (oi := _) (v := ?_) rfl (by kernel_rfl) (by kernel_rfl) (by kernel_rfl) (fun _ _ _ h => h) (Or.inl ⟨by rfl, ?_⟩) (by assumption) ?_
          rotate_left
          · (intro w hSw; (try dsimp only at hSw); go_simp)
            all_goals with_reducible rfl
          go_simp
          refine wpAnyH_take (i := 17) (oi := _) (v := ?_) rfl (by kernel_rfl) (by kernel_rfl) (by kernel_rfl) (fun _ _ _ h => h) (Or.inl ⟨by rfl, ?_⟩) (by assumption) ?_
          rotate_left
          · (intro w hSw; (try dsimp only at hSw); go_simp)
            all_goals with_reducible rfl
          go_simp
          refine wpAnyH_take (i := 18) (oi := _) (v := ?_) rfl (by kernel_rfl) (by kernel_rfl) (by kernel_rfl) (fun _ _ _ h => h) (Or.inl ⟨by rfl, ?_⟩) (by assumption) ?_
          rotate_left
          · (intro w hSw; (try dsimp only at hSw); go_simp)
            all_goals with_reducible rfl
          go_simp
          refine wpAnyH_done (by kernel_rfl) ?_ _
          simp only [RL.endQ]
          unfold Oper.wp
          go_simp
          have L7 := hide (LN.out.new (Keep.drew (fun _ => False) _))
          have K7 := hide (KN.out.more (Keep.drew _ _))
          clear hHeld hwm p5 nl p3 hc2 cz fz ht LN KN L5 K5 b1 l1 b2 l2 m1 m2 hne haf hgt hm1 hm2
          generalize (w5.setCell ⟨g2, m, none⟩ (.int .i64 t)).drew = w7 at *
          go_wp2_with fail
          go_roundw
          · exact ⟨i + 1, rfl, by omega, _, S3.out, L7.out, K7.out⟩
          · show n - ((i : Int) + 1).toNat < n - (i : Int).toNat
            omega
    · as_aux_lemma =>
      obtain rfl : i = n := by omega
      by_cases h0 : i = 0
      · subst h0
        have HE := hide (HF.out _ wr (fun q hq => Nat.le_trans (HS.out q hq) (by decide)) HL.out HK.out)
        clear HF
        go_wp2_with fail
        first | go_end0 | refine bodyPost_ret (results_none rfl _ _ _) rfl ?_
        exact HE.out
      · have h0' : (0 : Int) < (i : Int) := by omega
        obtain ⟨q, hq, hnd⟩ : ∃ q, qs'[0]? = some q ∧ NodeAt wr G (0 * 10) q := by
          obtain ⟨q, _, _, _, _, _, _, _, _, _, _, hq, hnd, _⟩ := L.at (show 0 < i by omega)
          exact ⟨q, hq, hnd⟩
        have nb := hnd.all.1
        simp only [Nat.zero_mul] at nb
        have fb := L.rows.froz 0
        have hi3 : 0 < i + 3 := by omega
        have hi4 : (0 : Int) < (i : Int) + 3 := by omega
        have hcat : ¬ (9223372036854775807 < q.nm.size + 1) := by
          have := HS.out q (List.mem_of_getElem? hq)
          omega
        have HQ := hide hq
        have HSX : Hid (∀ q0 ∈ qs'.set 0 { q with nm := q.nm ++ ⟨#[120]⟩ }, q0.nm.size ≤ 140737488351233) := fun q0 h0 => by
          rcases List.mem_or_eq_of_mem_set h0 with h1 | h1
          · exact Nat.le_trans (HS.out q0 h1) (by decide)
          · rw [h1]
            show (q.nm ++ ⟨#[120]⟩).size ≤ _
            have := HS.out q (List.mem_of_getElem? HQ.out)
            have e : (q.nm ++ ⟨#[120]⟩).size = q.nm.size + 1 := by rw [ByteArray.size_append]; rfl
            omega
        have L2 := hide (HL.out.setN hq 0 (by decide) (q' := { q with nm := q.nm ++ ⟨#[120]⟩ }) (.string (q.nm ++ ⟨#[120]⟩)) rfl rfl rfl)
        have K2 : Hid (Keep (fun i => b ≤ i ∧ i < c) w2 (wr.setCell ⟨G, 0 * 10 + 0, none⟩ (.string (q.nm ++ ⟨#[120]⟩)))) := keep_into K ⟨L.gb, L.gc⟩
        have HE := hide (HF.out _ _ HSX.out (L2.out.new (Keep.drew (fun _ => False) _)) (K2.out.more (Keep.drew _ _)))
        simp only [Nat.zero_mul, Nat.add_zero] at HE
        clear L K hq hnd p2 p4 p5 L2 K2 HSX HQ HF HL HK HS hlt
        go_upto_region 13 with fail
        as_aux_lemma =>
        refine RL.wp_region_held_last (S := fun wx => wx.cell? ⟨N, 3, none⟩ = some (.slice (some ⟨G, 0, none⟩) (i + 3) (i + 3)) ∧ wx.cell? ⟨G, 0, none⟩ = some (.string q.nm)) rfl (by kernel_rfl) (by kernel_rfl) ⟨p3, nb⟩ (fun hHeld => ?_)
        change wpAnyH _ _ _ _ _ 11 (Array.replicate 11 false) _ _
        simp only [List.dropLast, List.getLast, List.cons_append, List.nil_append, RL.still]
        refine wpAnyH_take (i := 0) (oi := _) (v := ?_) rfl (by kernel_rfl) (by kernel_rfl) (by kernel_rfl) (fun _ _ _ h => h) (Or.inl ⟨by rfl, ?_⟩) (by assumption) ?_
        rotate_left
        · (intro w hSw; (try dsimp only at hSw); go_simp)
          all_goals with_reducible rfl
        go_simp
        refine wpAnyH_take (i := 1) (oi := _) (v := ?_) rfl (by kernel_rfl) (by kernel_rfl) (by kernel_rfl) (fun _ _ _ h => h) (Or.inl ⟨by rfl, ?_⟩) (by assumption) ?_
        rotate_left
        · (intro w hSw; (try dsimp only at hSw); go_simp)
          all_goals with_reducible rfl
        go_simp
        refine wpAnyH_take (i := 2) (oi := _) (v := ?_) rfl (by kernel_rfl) (by kernel_rfl) (by kernel_rfl) (fun _ _ _ h => h) (Or.inl ⟨by rfl, ?_⟩) (by assumption) ?_
        rotate_left
        · (intro w hSw; (try dsimp only at hSw); go_simp)
          all_goals with_reducible rfl
        go_simp
        refine wpAnyH_take (i := 3) (oi := _) (v := ?_) rfl (by kernel_rfl) (by kernel_rfl) (by kernel_rfl) (fun _ _ _ h => h) (Or.inl ⟨by rfl, ?_⟩) (by assumption) ?_
        rotate_left
        · (intro w hSw; (try dsimp only at hSw); go_simp)
          all_goals with_reducible rfl
        go_simp
        refine wpAnyH_take (i := 4) (oi := _) (v := ?_) rfl (by kernel_rfl) (by kernel_rfl) (by kernel_rfl) (fun _ _ _ h => h) (Or.inl ⟨by rfl, ?_⟩) (by assumption) ?_
        rotate_left
        · (intro w hSw; (try dsimp only at hSw); go_simp)
          all_goals with_reducible rfl
        go_simp
        refine wpAnyH_take (i := 5) (oi := _) (v := ?_) rfl (by kernel_rfl) (by kernel_rfl) (by kernel_rfl) (fun _ _ _ h => h) (Or.inl ⟨by rfl, ?_⟩) (by assumption) ?_
        rotate_left
        · (intro w hSw; (try dsimp only at hSw); go_simp)
          all_goals with_reducible rfl
        go_simp
        refine wpAnyH_take (i := 6) (oi := _) (v := ?_) rfl (by kernel_rfl) (by kernel_rfl) (by kernel_rfl) (fun _ _ _ h => h) (Or.inl ⟨by rfl, ?_⟩) (by assumption) ?_
        rotate_left
        · (intro w hSw; (try dsimp only at hSw); go_simp)
          all_goals with_reducible rfl
        go_simp
        refine wpAnyH_take (i := 7) (oi := _) (v := ?_) rfl (by kernel_rfl) (by kernel_rfl) (by kernel_rfl) (fun _ _ _ h => h) (Or.inl ⟨by rfl, ?_⟩) (by assumption) ?_
        rotate_left
        · (intro w hSw; (try dsimp only at hSw); go_simp)
          all_goals with_reducible rfl
        go_simp
        refine wpAnyH_take (i := 8) (oi := _) (v := ?_) rfl (by kernel_rfl) (by kernel_rfl) (by kernel_rfl) (fun _ _ _ h => h) (Or.inl ⟨by rfl, ?_⟩) (by assumption) ?_
        rotate_left
        · (intro w hSw; (try dsimp only at hSw); go_simp)
          all_goals with_reducible rfl
        go_simp
        refine wpAnyH_take (i := 9) (oi := _) (v := ?_) rfl (by kernel_rfl) (by kernel_rfl) (by kernel_rfl) (fun _ _ _ h => h) (Or.inl ⟨by rfl, ?_⟩) (by assumption) ?_
        rotate_left
        · (intro w hSw; (try dsimp only at hSw); go_simp)
          all_goals with_reducible rfl
        go_simp
        refine wpAnyH_take (i := 10) (oi := _) (v := ?_) rfl (by kernel_rfl) (by kernel_rfl) (by kernel_rfl) (fun _ _ _ h => h) (Or.inl ⟨by rfl, ?_⟩) (by assumption) ?_
        rotate_left
        · (intro w hSw; (try dsimp only at hSw); go_simp)
          all_goals with_reducible rfl
        go_simp
        refine wpAnyH_done (by kernel_rfl) ?_ _
        simp only [RL.endQ]
        unfold Oper.wp
        go_simp
        clear p3 nb fb
        go_wp2_with fail
        first | go_end0 | refine bodyPost_ret (results_none rfl _ _ _) rfl ?_
        exact HE.out
end Gr
end Go.Proofs.Ytpblmleodcaamaa
