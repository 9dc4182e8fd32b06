/- PaceBounds: the walk. -/
import Derived.Test.YtgjjiomnbhildaaVBof
import Derived.Test.YtgjjiomnbhildaaVFit
import Derived.Test.YtgjjiomnbhildaaVStB
import Derived.Deep.Cut
import Derived.Deep.RegionLaw
namespace Go.Proofs.Ytgjjiomnbhildaa
open Go.RowKit

theorem node_cells {w : World} {b : Nat} {va : Option Addr} {vc : Nat} {rs : List V.Nd} (h : w.ownsRow b 24 10 (.slice va rs.length vc) rs.length (V.flat rs)) {i : Nat} {q : V.Nd} (hq : rs[i]? = some q) : ∃ g, va = some ⟨g, 0, none⟩ ∧ w.cell? ⟨g, i * 10, none⟩ = some (.string q.nm) ∧ w.cell? ⟨g, i * 10 + 1, none⟩ = some (.int .i64 q.la) ∧ w.cell? ⟨g, i * 10 + 2, none⟩ = some (.int .i64 q.bu) ∧ w.cell? ⟨g, i * 10 + 3, none⟩ = some (.int .i64 q.cl) ∧ w.cell? ⟨g, i * 10 + 4, none⟩ = some (.int .i64 q.be) ∧ w.cell? ⟨g, i * 10 + 5, none⟩ = some (.int .i64 q.ba) ∧ w.cell? ⟨g, i * 10 + 6, none⟩ = some (.int .i64 q.ca) ∧ w.cell? ⟨g, i * 10 + 7, none⟩ = some (.int .i64 q.ji) ∧ w.cell? ⟨g, i * 10 + 8, none⟩ = some (.slice q.ne.1 q.ne.2.1 q.ne.2.2) ∧ w.cell? ⟨g, i * 10 + 9, none⟩ = some (.slice q.af.1 q.af.2.1 q.af.2.2) := by
  have hl := (List.getElem?_eq_some_iff.1 hq).1
  rcases h.2 with ⟨_, h0⟩ | ⟨g, cap, cur, e, _⟩
  · omega
  · injection e with e1 _ e3
    subst e1 e3
    have key : ∀ j u, q.row[j]? = some u → w.cell? ⟨g, i * 10 + j, none⟩ = some u := fun j u hu => by
      have := h.cells (g := g) rfl (i * 10 + j) u (flat_get rs i j q u hq hu)
      rw [Addr.add_mid, Nat.zero_add] at this
      exact this
    exact ⟨g, rfl, key 0 _ rfl, key 1 _ rfl, key 2 _ rfl, key 3 _ rfl, key 4 _ rfl, key 5 _ rfl, key 6 _ rfl, key 7 _ rfl, key 8 _ rfl, key 9 _ rfl⟩
theorem rdn_take {w : World} {a : Option Addr} {n : Nat} {qs : List V.Nd} (h : RdN w a n qs) {m : Nat} (hm : m ≤ n) : RdN w a m (qs.take m) := by
  obtain ⟨h1, h2, h3, h4⟩ := h
  refine ⟨by rw [List.length_take]; omega, by omega, fun q hq => h3 q (List.mem_of_mem_take hq), ?_⟩
  rcases h4 with h4 | ⟨b, off, e, hb, h4⟩
  · exact .inl (by omega)
  · refine .inr ⟨b, off, e, hb, fun i q hq => h4 i q ?_⟩
    rw [List.getElem?_take] at hq
    split at hq
    · exact hq
    · cases hq
/-- a plan in memory: its box, its own row of nodes -/
structure PlanAt (B0 : Nat) (w : World) (Pb : Nat) (D : Int) (va : Option Addr) (vc : Nat) (rs : List V.Nd) : Prop where
  box : w.heap[Pb]? = some (.cells #[.string ⟨#[]⟩, .int .i64 D, .slice va rs.length vc] 37 (0, 0))
  own : w.ownsRow B0 24 10 (.slice va rs.length vc) rs.length (V.flat rs)
theorem PlanAt.keep {B0 : Nat} {w w' : World} {Pb : Nat} {D : Int} {va : Option Addr} {vc : Nat} {rs : List V.Nd} (h : PlanAt B0 w Pb D va vc rs) (hb : Below w.heap.size w w') : PlanAt B0 w' Pb D va vc rs :=
  ⟨(hb.block Pb (Array.getElem?_eq_some_iff.1 h.box).1).trans h.box, own_below h.own hb⟩
theorem PlanAt.rd {B0 : Nat} {w : World} {Pb : Nat} {D : Int} {va : Option Addr} {vc : Nat} {rs : List V.Nd} (h : PlanAt B0 w Pb D va vc rs) (hin : ∀ q ∈ rs, V.Nd.In q) (hl : rs.length ≤ 64) : RdN w va rs.length rs := by
  obtain ⟨a, c, e, hr⟩ := own_rdn h.own hin hl
  injection e with e1 e2 e3
  rw [e1]; exact hr
theorem PlanAt.cells {B0 : Nat} {w : World} {Pb : Nat} {D : Int} {va : Option Addr} {vc : Nat} {rs : List V.Nd} (h : PlanAt B0 w Pb D va vc rs) : w.cell? ⟨Pb, 0, none⟩ = some (.string ⟨#[]⟩) ∧ w.cell? ⟨Pb, 1, none⟩ = some (.int .i64 D) ∧ w.cell? ⟨Pb, 2, none⟩ = some (.slice va rs.length vc) :=
  ⟨cell_blk h.box 0 rfl, cell_blk h.box 1 rfl, cell_blk h.box 2 rfl⟩

set_option maxRecDepth 100000 in
set_option maxHeartbeats 4000000 in
theorem bounds_walk (nm : ByteArray) (dl : Int) (a : Option Addr) (n c : Nat) (qs : List V.Nd) (gap ahead : Int) (w : World) (hdl : V.i64 dl) (hqs : RdN w a n qs) (hg : V.i64 gap) (ha : V.i64 ahead) :
    Calls Try.prog 4 #[.agg #[.string nm, .int .i64 dl, .slice a n c], .int .i64 gap, .int .i64 ahead] w fun e w' => e = .returned (.bool true) ∧ Below w.heap.size w w' := by
  have P1 := hide (fun w => pick_any gap 1099511627775 hg.1 hg.2 (by decide) (by decide) w)
  have P2 := hide (fun w => pick_any ahead 1024 ha.1 ha.2 (by decide) (by decide) w)
  have l1 := V.pk_lt gap 1099511627775 (by decide)
  have l2 := V.pk_lt ahead 1024 (by decide)
  have l3 := V.pk_lt dl 1099511627776 (by decide)
  have F := hide (fun w hq => fit_any nm dl a n c qs w hdl hq)
  generalize V.pk gap 1099511627775 = G at *
  generalize V.pk ahead 1024 = A at *
  generalize V.pk dl 1099511627776 = D at *
  have HQ := hide (hqs.keep ((Below.refl w.heap.size w).alloc (Nat.le_refl _) (.cells #[.string nm, .int .i64 dl, .slice a n c] 37)))
  have KW := hide ((Below.refl w.heap.size w).alloc (Nat.le_refl _) (.cells #[.string nm, .int .i64 dl, .slice a n c] 37))
  have hp0 : (w.alloc (.cells #[.string nm, .int .i64 dl, .slice a n c] 37)).heap[w.heap.size]? = some (.cells #[.string nm, .int .i64 dl, .slice a n c] 37 (0, 0)) := heap_alloc_new _ _
  clear hqs
  go_enter Try.func4, Try.ntmps4
  go_wp2_with fail
  go_at_call 8
  refine (known_any _).mono ?_
  rintro e w2 ⟨rfl, hb2⟩
  have K2 := hide (KW.out.trans (hb2.mono KW.out.size))
  have Q2 := hide (HQ.out.keep hb2)
  have hp2 := (hb2.block w.heap.size (by simp)).trans hp0
  have c0 := cell_blk hp2 0 (v := .string nm) rfl
  have c1 := cell_blk hp2 1 (v := .int .i64 dl) rfl
  have c2 := cell_blk hp2 2 (v := .slice a n c) rfl
  clear hb2 KW HQ hp0 hp2
  go_wp2_with fail
  go_at_call 9
  refine (F.out _ Q2.out).mono ?_
  rintro e w3 ⟨v, rs, rfl, hl, hok, own3, hb3⟩
  obtain ⟨va, vc, rfl⟩ := own_shape own3
  have K3 := hide (K2.out.trans (hb3.mono K2.out.size))
  have O3 := hide own3
  have HOK := hide hok
  clear hb3 K2 Q2 F c0 c1 c2 own3 hok
  go_wp2_with fail
  go_at_call 10
  refine (P1.out _).mono ?_
  rintro e w4 ⟨rfl, rfl⟩
  go_wp2_with fail
  go_at_call 10
  refine (P2.out _).mono ?_
  rintro e w4 ⟨rfl, rfl⟩
  have P5 := hide (show PlanAt w2.heap.size (w3.alloc (.cells #[.string ⟨#[]⟩, .int .i64 (1 + (D : Int)), .slice va rs.length vc] 37)) w3.heap.size (1 + (D : Int)) va vc rs from ⟨heap_alloc_new _ _, own_below (O3.out) ((Below.refl _ _).alloc (Nat.le_refl _) _)⟩)
  have K5 := hide (K3.out.alloc K3.out.size (.cells #[.string ⟨#[]⟩, .int .i64 (1 + (D : Int)), .slice va rs.length vc] 37))
  have hall : ∀ q ∈ rs, V.nOk q := fun q hq => (HOK.out q hq).1
  have hinn : ∀ q ∈ rs, V.Nd.In q := fun q hq => (HOK.out q hq).2
  have HALL := hide hall
  have HIN := hide hinn
  obtain ⟨q1a, q1b⟩ := V.poll_in (g := 1 + (G : Int)) (a := (A : Int)) (by omega) (by omega) (by omega) (by omega)
  have s1 := V.sum_in hall q1a q1b
  have s2 := V.sum_mono hall (V.poll_gap (1 + (G : Int)) (A : Int) (by omega))
  have s3 := V.sum_mono hall (V.poll_ahead (1 + (G : Int)) (A : Int) (by omega))
  have B1 := hide (fun w h => boundOf_any ⟨#[]⟩ (1 + (D : Int)) va rs.length vc rs (1 + (G : Int)) (A : Int) w h ⟨by omega, by omega, by omega, hl⟩ hall)
  have B2 := hide (fun w h => boundOf_any ⟨#[]⟩ (1 + (D : Int)) va rs.length vc rs (1 + (G : Int) + 1) (A : Int) w h ⟨by omega, by omega, by omega, hl⟩ hall)
  have B3 := hide (fun w h => boundOf_any ⟨#[]⟩ (1 + (D : Int)) va rs.length vc rs (1 + (G : Int)) ((A : Int) + 1) w h ⟨by omega, by omega, by omega, hl⟩ hall)
  generalize hX1 : min (1 + (D : Int)) (V.sumC rs (((A : Int) + 1) * (1 + (G : Int)))) = X1 at *
  generalize hX2 : min (1 + (D : Int)) (V.sumC rs (((A : Int) + 1) * (1 + (G : Int) + 1))) = X2 at *
  generalize hX3 : min (1 + (D : Int)) (V.sumC rs (((A : Int) + 1 + 1) * (1 + (G : Int)))) = X3 at *
  have x1 : 0 ≤ X1 := by omega
  have x2 : X1 ≤ 1 + (D : Int) := by omega
  have x3 : X1 ≤ X2 := by omega
  have x4 : X1 ≤ X3 := by omega
  have HX1 := hide hX1
  clear s1 s2 s3 hX1 hX2 hX3 hall hinn K3 O3 HOK P1 P2
  go_wp2_with fail
  go_at_call 11
  refine (B1.out _ (P5.out.rd HIN.out hl)).mono ?_
  rintro e w6 ⟨rfl, hb6⟩
  have K6 := hide (K5.out.trans (hb6.mono K5.out.size))
  have P6 := hide (P5.out.keep hb6)
  clear hb6 K5 P5
  obtain ⟨c0, c1, c2⟩ := P6.out.cells
  have hz6 := K6.out.size
  go_wp2_with fail
  go_at_call 11
  refine (B2.out _ (P6.out.rd HIN.out hl)).mono ?_
  rintro e w7 ⟨rfl, hb7⟩
  have K7 := hide (K6.out.trans (hb7.mono hz6))
  have P7 := hide (P6.out.keep hb7)
  clear hb7 K6 P6 c0 c1 c2 hz6
  obtain ⟨c0, c1, c2⟩ := P7.out.cells
  have hz7 := K7.out.size
  go_wp2_with fail
  go_at_call 11
  refine (B3.out _ (P7.out.rd HIN.out hl)).mono ?_
  rintro e w8 ⟨rfl, hb8⟩
  have K8 := hide (K7.out.trans (hb8.mono hz7))
  have P8 := hide (P7.out.keep hb8)
  clear hb8 K7 P7 c0 c1 c2 hz7
  obtain ⟨c0, c1, c2⟩ := P8.out.cells
  have hz8 := K8.out.size
  clear B1 B2 B3
  by_cases hlen : rs.length = 0
  · have hrs : rs = [] := List.length_eq_zero_iff.1 hlen
    have hx0 : X1 = 0 := by
      rw [← HX1.out, hrs]; simp [V.sumC]; omega
    subst hx0
    have hl0 : (rs.length : Int) = 0 := by omega
    go_wp2_with fail
    go_ret
    exact ⟨rfl, K8.out⟩
  · have hl1 : ¬ (rs.length : Int) = 0 := by omega
    obtain ⟨M, hM⟩ : ∃ M, rs.length = M + 1 := ⟨rs.length - 1, by omega⟩
    have hcap : rs.length ≤ vc := by
      rcases P8.out.own.2 with ⟨_, h0⟩ | ⟨g, cap, cur, e1, _, _, e4, _⟩
      · omega
      · injection e1 with _ _ e3; omega
    have hwM : IntKind.i64.wrap ((rs.length : Int) - 1) = (M : Int) := by rw [IntKind.wrap_i64]; omega
    have hMc : (M : Int) ≤ (vc : Int) := by omega
    have hMc' : M ≤ vc := by omega
    have h1c : (1 : Int) ≤ (vc : Int) := by omega
    have h1c' : 1 ≤ vc := by omega
    have HM := hide hM
    clear hM hlen
    obtain ⟨d0, d1, d2⟩ := (P8.out.keep ((Below.refl _ w8).alloc (Nat.le_refl _) (Obj.cells #[.string ⟨#[]⟩, .int .i64 0, .slice none 0 0] 37)).drew).cells
    go_wp2_with fail
    go_region
    go_upto_region 12 with fail
    have P9 := hide (P8.out.keep ((Below.refl _ w8).alloc (Nat.le_refl _) (Obj.cells #[.string ⟨#[]⟩, .int .i64 (1 + (D : Int)), .slice va M vc] 37)).drew)
    have K9 := hide ((K8.out.alloc hz8 (Obj.cells #[.string ⟨#[]⟩, .int .i64 (1 + (D : Int)), .slice va M vc] 37)).drew)
    have L9 : (w8.alloc (Obj.cells #[.string ⟨#[]⟩, .int .i64 (1 + (D : Int)), .slice va M vc] 37)).drew.heap[w8.heap.size]? = some (.cells #[.string ⟨#[]⟩, .int .i64 (1 + (D : Int)), .slice va M vc] 37 (0, 0)) := heap_alloc_new _ _
    generalize (w8.alloc (Obj.cells #[.string ⟨#[]⟩, .int .i64 (1 + (D : Int)), .slice va M vc] 37)).drew = w9 at *
    clear c0 c1 c2 d0 d1 d2 P8 K8 hz8
    obtain ⟨c0, c1, c2⟩ := P9.out.cells
    have hz9 := K9.out.size
    obtain ⟨d0, d1, d2⟩ := (P9.out.keep ((Below.refl _ w9).alloc (Nat.le_refl _) (Obj.cells #[.string ⟨#[]⟩, .int .i64 0, .slice none 0 0] 37)).drew).cells
    go_region
    go_upto_region 14 with fail
    have B9 : Below w9.heap.size w9 ((w9.alloc (Obj.cells #[.string ⟨#[]⟩, .int .i64 (1 + (D : Int)), .slice va 1 vc] 37)).alloc (Obj.cells #[.string ⟨#[]⟩, .int .i64 0, .slice none 0 0] 37)).drew := (((Below.refl _ w9).alloc (Nat.le_refl _) (Obj.cells #[.string ⟨#[]⟩, .int .i64 (1 + (D : Int)), .slice va 1 vc] 37)).alloc (by simp) (Obj.cells #[.string ⟨#[]⟩, .int .i64 0, .slice none 0 0] 37)).drew
    have P10 := hide (P9.out.keep B9)
    have K10 := hide (K9.out.trans (B9.mono hz9))
    have L10 := hide ((B9.block w8.heap.size (Array.getElem?_eq_some_iff.1 L9).1).trans L9)
    have O10 : Hid (((w9.alloc (Obj.cells #[.string ⟨#[]⟩, .int .i64 (1 + (D : Int)), .slice va 1 vc] 37)).alloc (Obj.cells #[.string ⟨#[]⟩, .int .i64 0, .slice none 0 0] 37)).drew.heap[w9.heap.size]? = some (.cells #[.string ⟨#[]⟩, .int .i64 (1 + (D : Int)), .slice va 1 vc] 37 (0, 0))) := (Below.heap_alloc (w9.alloc (Obj.cells #[.string ⟨#[]⟩, .int .i64 (1 + (D : Int)), .slice va 1 vc] 37)) (Obj.cells #[.string ⟨#[]⟩, .int .i64 0, .slice none 0 0] 37) w9.heap.size (by simp)).trans (heap_alloc_new w9 (Obj.cells #[.string ⟨#[]⟩, .int .i64 (1 + (D : Int)), .slice va 1 vc] 37))
    have T10 : ((w9.alloc (Obj.cells #[.string ⟨#[]⟩, .int .i64 (1 + (D : Int)), .slice va 1 vc] 37)).alloc (Obj.cells #[.string ⟨#[]⟩, .int .i64 0, .slice none 0 0] 37)).drew.heap[w9.heap.size + 1]? = some (.cells #[.string ⟨#[]⟩, .int .i64 0, .slice none 0 0] 37 (0, 0)) := by
      have h := heap_alloc_new (w9.alloc (Obj.cells #[.string ⟨#[]⟩, .int .i64 (1 + (D : Int)), .slice va 1 vc] 37)) (Obj.cells #[.string ⟨#[]⟩, .int .i64 0, .slice none 0 0] 37)
      rw [show (w9.alloc (Obj.cells #[.string ⟨#[]⟩, .int .i64 (1 + (D : Int)), .slice va 1 vc] 37)).heap.size = w9.heap.size + 1 by simp] at h
      exact h
    have Z10 := hide (show ((w9.alloc (Obj.cells #[.string ⟨#[]⟩, .int .i64 (1 + (D : Int)), .slice va 1 vc] 37)).alloc (Obj.cells #[.string ⟨#[]⟩, .int .i64 0, .slice none 0 0] 37)).drew.heap.size = w9.heap.size + 2 by simp)
    have HWZ := hide (show w.heap.size ≤ w9.heap.size from hz9)
    have HL9 := hide (Array.getElem?_eq_some_iff.1 L9).1
    have HP9 := hide (Array.getElem?_eq_some_iff.1 P9.out.box).1
    generalize ((w9.alloc (Obj.cells #[.string ⟨#[]⟩, .int .i64 (1 + (D : Int)), .slice va 1 vc] 37)).alloc (Obj.cells #[.string ⟨#[]⟩, .int .i64 0, .slice none 0 0] 37)).drew = w10 at *
    clear c0 c1 c2 d0 d1 d2 P9 K9 hz9 L9 B9
    obtain ⟨c0, c1, c2⟩ := P10.out.cells
    have t1 := cell_blk T10 1 (v := .int .i64 0) rfl
    have t1f := frozen_blk T10 1
    have T11 := hide ((set_blk T10 1 (.int .i64 (1 + (D : Int)))).trans rfl)
    have HT10 := hide T10
    clear T10
    go_upto_region 15 with fail
    have hne : ∀ k, k ≠ w9.heap.size + 1 → (w10.setCell ⟨w9.heap.size + 1, 1, none⟩ (.int .i64 (1 + (D : Int)))).heap[k]? = w10.heap[k]? := fun k hk => Below.heap_setCell _ _ _ _ hk
    have P11 : Hid (PlanAt w2.heap.size (w10.setCell ⟨w9.heap.size + 1, 1, none⟩ (.int .i64 (1 + (D : Int)))) w3.heap.size (1 + (D : Int)) va vc rs) := ⟨(hne _ (by have := HP9.out; omega)).trans P10.out.box, own_stay P10.out.own (fun g hg => hne _ (fun e => own_far P10.out.own HT10.out (by decide) (by rw [hg, e])))⟩
    have L11 := hide ((hne _ (by have := HL9.out; omega)).trans L10.out)
    have O11 := hide ((hne _ (by omega)).trans O10.out)
    have K11 := hide (K10.out.setCell (p := ⟨w9.heap.size + 1, 1, none⟩) (by have := K10.out.size; have := HP9.out; have := Z10.out; show w.heap.size ≤ w9.heap.size + 1; have := HWZ.out; omega) (.int .i64 (1 + (D : Int))))
    have Z11 := hide (show (w10.setCell ⟨w9.heap.size + 1, 1, none⟩ (.int .i64 (1 + (D : Int)))).heap.size = w9.heap.size + 2 by rw [← Z10.out]; simp [World.setCell])
    have HVA : Hid (∀ g, (Value.slice va rs.length vc).ownBlock = some g → g < w9.heap.size + 2) := fun g hg => by have := (own_blk P11.out.own hg).2.1; have := Z11.out; omega
    generalize w10.setCell ⟨w9.heap.size + 1, 1, none⟩ (.int .i64 (1 + (D : Int))) = w11 at *
    clear hne c0 c1 c2 t1 t1f L10 O10 K10 P10 HT10
    obtain ⟨c0, c1, c2⟩ := P11.out.cells
    go_wp2_with fail
    simp only [show ((rs.length : Int) == 0) = false by simpa using hl1]
    go_loopw [14] (fun iv wr => ∃ (k : Nat) (tv : Value), iv = .int .i64 ((M : Int) - (k : Int)) ∧ k ≤ M + 1 ∧ Hid (PlanAt w2.heap.size wr w3.heap.size (1 + (D : Int)) va vc rs ∧ wr.heap[w8.heap.size]? = some (.cells #[.string ⟨#[]⟩, .int .i64 (1 + (D : Int)), .slice va M vc] 37 (0, 0)) ∧ wr.heap[w9.heap.size]? = some (.cells #[.string ⟨#[]⟩, .int .i64 (1 + (D : Int)), .slice va 1 vc] 37 (0, 0)) ∧ wr.heap[w9.heap.size + 1]? = some (.cells #[.string ⟨#[]⟩, .int .i64 (1 + (D : Int)), tv] 37 (0, 0)) ∧ wr.ownsRow (w9.heap.size + 2) 24 10 tv k (V.flat (rs.reverse.take k)) ∧ Below w.heap.size w wr ∧ w9.heap.size + 2 ≤ wr.heap.size)) (fun iv _ => ((intOf iv) + 1).toNat)
    case atStart => exact ⟨0, .slice none 0 0, by congr 1, by omega, P11.out, L11.out, O11.out, T11.out, World.ownsRow_nil _ _ _ _, K11.out, Nat.le_of_eq Z11.out.symm⟩
    case round => as_aux_lemma =>
      obtain ⟨k, tv, rfl, hk, HI⟩ := hrel
      rcases Nat.lt_or_ge k (M + 1) with hlt | hlt
      · as_aux_lemma =>
        obtain ⟨i, hi⟩ : ∃ i : Nat, (M : Int) - (k : Int) = (i : Int) := ⟨M - k, by omega⟩
        rw [hi]
        obtain ⟨c0, c1, c2⟩ := HI.out.1.cells
        have tt := cell_blk HI.out.2.2.2.1 2 (v := tv) rfl
        have hki : rs.reverse[k]? = some (rs[i]'(by have := HM.out; omega)) := by
          rw [List.getElem?_reverse (by have := HM.out; omega), List.getElem?_eq_getElem (by have := HM.out; omega)]
          congr 2
          have := HM.out
          omega
        have hri : rs[i]? = some (rs[i]'(by have := HM.out; omega)) := List.getElem?_eq_getElem _
        generalize rs[i]'_ = q at hki hri
        have HKI := hide hki
        have hil : (i : Int) < (rs.length : Int) := by have := HM.out; omega
        have hil' : i < rs.length := by have := HM.out; omega
        obtain ⟨g, hg, hcells⟩ := node_cells HI.out.1.own hri
        have hva : va = some ⟨g, 0, none⟩ := hg
        subst hva
        obtain ⟨n0, n1, n2, n3, n4, n5, n6, n7, n8, n9⟩ := hcells
        clear hki hri hg c0 c1
        have kz : Below wr.heap.size wr (wr.alloc (Obj.cells #[.string q.nm, .int .i64 q.la, .int .i64 q.bu, .int .i64 q.cl, .int .i64 q.be, .int .i64 q.ba, .int .i64 q.ca, .int .i64 q.ji, .slice q.ne.1 q.ne.2.1 q.ne.2.2, .slice q.af.1 q.af.2.1 q.af.2.2] 24)).drew := ((Below.refl _ wr).alloc (Nat.le_refl _) (Obj.cells #[.string q.nm, .int .i64 q.la, .int .i64 q.bu, .int .i64 q.cl, .int .i64 q.be, .int .i64 q.ba, .int .i64 q.ca, .int .i64 q.ji, .slice q.ne.1 q.ne.2.1 q.ne.2.2, .slice q.af.1 q.af.2.1 q.af.2.2] 24)).drew
        have hz : ∀ b o v, wr.cell? ⟨b, o, none⟩ = some v → (wr.alloc (Obj.cells #[.string q.nm, .int .i64 q.la, .int .i64 q.bu, .int .i64 q.cl, .int .i64 q.be, .int .i64 q.ba, .int .i64 q.ca, .int .i64 q.ji, .slice q.ne.1 q.ne.2.1 q.ne.2.2, .slice q.af.1 q.af.2.1 q.af.2.2] 24)).drew.cell? ⟨b, o, none⟩ = some v := fun b o v h => (kz.cell (p := ⟨b, o, none⟩) (World.block_lt_of_cell? _ _ h)).trans h
        have kz2 : Below wr.heap.size wr (wr.drew.alloc (Obj.cells #[.string q.nm, .int .i64 q.la, .int .i64 q.bu, .int .i64 q.cl, .int .i64 q.be, .int .i64 q.ba, .int .i64 q.ca, .int .i64 q.ji, .slice q.ne.1 q.ne.2.1 q.ne.2.2, .slice q.af.1 q.af.2.1 q.af.2.2] 24)) := ((Below.refl _ wr).drew).alloc (Nat.le_refl _) (Obj.cells #[.string q.nm, .int .i64 q.la, .int .i64 q.bu, .int .i64 q.cl, .int .i64 q.be, .int .i64 q.ba, .int .i64 q.ca, .int .i64 q.ji, .slice q.ne.1 q.ne.2.1 q.ne.2.2, .slice q.af.1 q.af.2.1 q.af.2.2] 24)
        have hz2 : ∀ b o v, wr.cell? ⟨b, o, none⟩ = some v → (wr.drew.alloc (Obj.cells #[.string q.nm, .int .i64 q.la, .int .i64 q.bu, .int .i64 q.cl, .int .i64 q.be, .int .i64 q.ba, .int .i64 q.ca, .int .i64 q.ji, .slice q.ne.1 q.ne.2.1 q.ne.2.2, .slice q.af.1 q.af.2.1 q.af.2.2] 24)).cell? ⟨b, o, none⟩ = some v := fun b o v h => (kz2.cell (p := ⟨b, o, none⟩) (World.block_lt_of_cell? _ _ h)).trans h
        have HS7 := hide (And.intro (hz2 _ _ _ tt) (And.intro (hz2 _ _ _ c2) (And.intro (hz2 _ _ _ n0) (And.intro (hz2 _ _ _ n1) (And.intro (hz2 _ _ _ n2) (And.intro (hz2 _ _ _ n3) (And.intro (hz2 _ _ _ n4) (And.intro (hz2 _ _ _ n5) (And.intro (hz2 _ _ _ n6) (And.intro (hz2 _ _ _ n7) (And.intro (hz2 _ _ _ n8) (hz2 _ _ _ n9))))))))))))
        have hll : (rs.reverse.take k).length = k := by rw [List.length_take, List.length_reverse]; have := HM.out; omega
        obtain ⟨v4, w4, hap, own4, gr4⟩ := append_node (q := q) (B := wr.heap.size) (by rw [hll]; exact own_below HI.out.2.2.2.2.1 kz) (Nat.le_trans HI.out.2.2.2.2.2.2 kz.size) (by rw [hll]; have := HM.out; omega) (fun j u hu => by
          rw [Addr.add_mid, Nat.zero_add]
          exact cell_blk (w := (wr.alloc (Obj.cells #[.string q.nm, .int .i64 q.la, .int .i64 q.bu, .int .i64 q.cl, .int .i64 q.be, .int .i64 q.ba, .int .i64 q.ca, .int .i64 q.ji, .slice q.ne.1 q.ne.2.1 q.ne.2.2, .slice q.af.1 q.af.2.1 q.af.2.2] 24)).drew) (heap_alloc_new wr (Obj.cells #[.string q.nm, .int .i64 q.la, .int .i64 q.bu, .int .i64 q.cl, .int .i64 q.be, .int .i64 q.ba, .int .i64 q.ca, .int .i64 q.ji, .slice q.ne.1 q.ne.2.1 q.ne.2.2, .slice q.af.1 q.af.2.1 q.af.2.2] 24)) j (by simpa [V.Nd.row] using hu)) 1 35
        rw [hll] at own4
        obtain ⟨ta, tc, rfl⟩ := own_shape own4
        have hob : ∀ b, tv.ownBlock = some b → w9.heap.size + 2 ≤ b := fun b hb => (own_blk HI.out.2.2.2.2.1 hb).1
        have h49 : ∀ b, b < w9.heap.size + 2 → w4.heap[b]? = wr.heap[b]? := fun b hb => (gr4.block b (by have := HI.out.2.2.2.2.2.2; have := kz.size; omega) (fun e => by have := hob b e.symm; omega)).trans (kz.block b (by have := HI.out.2.2.2.2.2.2; omega))
        have hg9 : g < w9.heap.size + 2 := HVA.out g rfl
        have h4c : ∀ b o v, b < w9.heap.size + 2 → wr.cell? ⟨b, o, none⟩ = some v → w4.cell? ⟨b, o, none⟩ = some v := fun b o v hb h => (World.cell?_of_block (w := wr) (w' := w4) (a := ⟨b, o, none⟩) (h49 b hb)).trans h
        have hP9 := HP9.out
        have HS8 := hide (And.intro (h4c _ _ _ (by omega) tt) (And.intro (h4c _ _ _ (by omega) c2) (And.intro (h4c _ _ _ hg9 n0) (And.intro (h4c _ _ _ hg9 n1) (And.intro (h4c _ _ _ hg9 n2) (And.intro (h4c _ _ _ hg9 n3) (And.intro (h4c _ _ _ hg9 n4) (And.intro (h4c _ _ _ hg9 n5) (And.intro (h4c _ _ _ hg9 n6) (And.intro (h4c _ _ _ hg9 n7) (And.intro (h4c _ _ _ hg9 n8) (h4c _ _ _ hg9 n9))))))))))))
        have hT4 := (h49 (w9.heap.size + 1) (by omega)).trans HI.out.2.2.2.1
        have y2 := cell_blk hT4 2 (v := tv) rfl
        have y2f := frozen_blk hT4 2
        have HT4 := hide hT4
        have HAP := hide hap
        have OWN4 := hide own4
        have GR4 := hide gr4
        have KZ := hide kz
        have H49 := hide h49
        have HOB := hide hob
        clear kz hz kz2 hz2 hap own4 gr4 hT4 h49 h4c hob hll
        go_upto_region 18 with fail
        refine RL.wp_region_held_last (S := fun wx => wx.cell? ⟨w9.heap.size + 1, 2, none⟩ = some tv ∧ wx.cell? ⟨w3.heap.size, 2, none⟩ = some (.slice (some ⟨g, 0, none⟩) rs.length vc) ∧ wx.cell? ⟨g, i * 10, none⟩ = some (.string q.nm) ∧ wx.cell? ⟨g, i * 10 + 1, none⟩ = some (.int .i64 q.la) ∧ wx.cell? ⟨g, i * 10 + 2, none⟩ = some (.int .i64 q.bu) ∧ wx.cell? ⟨g, i * 10 + 3, none⟩ = some (.int .i64 q.cl) ∧ wx.cell? ⟨g, i * 10 + 4, none⟩ = some (.int .i64 q.be) ∧ wx.cell? ⟨g, i * 10 + 5, none⟩ = some (.int .i64 q.ba) ∧ wx.cell? ⟨g, i * 10 + 6, none⟩ = some (.int .i64 q.ca) ∧ wx.cell? ⟨g, i * 10 + 7, none⟩ = some (.int .i64 q.ji) ∧ wx.cell? ⟨g, i * 10 + 8, none⟩ = some (.slice q.ne.1 q.ne.2.1 q.ne.2.2) ∧ wx.cell? ⟨g, i * 10 + 9, none⟩ = some (.slice q.af.1 q.af.2.1 q.af.2.2)) rfl (by kernel_rfl) (by kernel_rfl) ⟨tt, c2, n0, n1, n2, n3, n4, n5, n6, n7, n8, n9⟩ (fun hHeld => ?_)
        change wpAnyH _ _ _ _ _ 11 (Array.replicate 11 false) _ _
        simp only [List.dropLast, List.getLast, List.cons_append, List.nil_append, RL.still]
        refine wpAnyH_take (i := 0) (oi := _) (v := ?_) rfl (by kernel_rfl) (by kernel_rfl) (by kernel_rfl) (fun _ _ _ h => h) (Or.inl ⟨by rfl, ?_⟩) (by assumption) ?_
        rotate_left
        · (intro w hSw; (try dsimp only at hSw); obtain ⟨s0, s1, s2, s3, s4, s5, s6, s7, s8, s9, s10, s11⟩ := hSw; go_simp)
          all_goals with_reducible rfl
        go_simp
        refine wpAnyH_take (i := 1) (oi := _) (v := ?_) rfl (by kernel_rfl) (by kernel_rfl) (by kernel_rfl) (fun _ _ _ h => h) (Or.inl ⟨by rfl, ?_⟩) (by assumption) ?_
        rotate_left
        · (intro w hSw; (try dsimp only at hSw); obtain ⟨s0, s1, s2, s3, s4, s5, s6, s7, s8, s9, s10, s11⟩ := hSw; go_simp)
          all_goals with_reducible rfl
        go_simp
        refine wpAnyH_take (i := 2) (oi := _) (v := ?_) rfl (by kernel_rfl) (by kernel_rfl) (by kernel_rfl) (fun _ _ _ h => h) (Or.inl ⟨by rfl, ?_⟩) (by assumption) ?_
        rotate_left
        · (intro w hSw; (try dsimp only at hSw); obtain ⟨s0, s1, s2, s3, s4, s5, s6, s7, s8, s9, s10, s11⟩ := hSw; go_simp)
          all_goals with_reducible rfl
        go_simp
        refine wpAnyH_take (i := 3) (oi := _) (v := ?_) rfl (by kernel_rfl) (by kernel_rfl) (by kernel_rfl) (fun _ _ _ h => h) (Or.inl ⟨by rfl, ?_⟩) (by assumption) ?_
        rotate_left
        · (intro w hSw; (try dsimp only at hSw); obtain ⟨s0, s1, s2, s3, s4, s5, s6, s7, s8, s9, s10, s11⟩ := hSw; go_simp)
          all_goals with_reducible rfl
        go_simp
        refine wpAnyH_take (i := 4) (oi := _) (v := ?_) rfl (by kernel_rfl) (by kernel_rfl) (by kernel_rfl) (fun _ _ _ h => h) (Or.inl ⟨by rfl, ?_⟩) (by assumption) ?_
        rotate_left
        · (intro w hSw; (try dsimp only at hSw); obtain ⟨s0, s1, s2, s3, s4, s5, s6, s7, s8, s9, s10, s11⟩ := hSw; go_simp)
          all_goals with_reducible rfl
        go_simp
        refine wpAnyH_take (i := 5) (oi := _) (v := ?_) rfl (by kernel_rfl) (by kernel_rfl) (by kernel_rfl) (fun _ _ _ h => h) (Or.inl ⟨by rfl, ?_⟩) (by assumption) ?_
        rotate_left
        · (intro w hSw; (try dsimp only at hSw); obtain ⟨s0, s1, s2, s3, s4, s5, s6, s7, s8, s9, s10, s11⟩ := hSw; go_simp)
          all_goals with_reducible rfl
        go_simp
        refine wpAnyH_take (i := 6) (oi := _) (v := ?_) rfl (by kernel_rfl) (by kernel_rfl) (by kernel_rfl) (fun _ _ _ h => h) (Or.inl ⟨by rfl, ?_⟩) (by assumption) ?_
        rotate_left
        · (intro w hSw; (try dsimp only at hSw); obtain ⟨s0, s1, s2, s3, s4, s5, s6, s7, s8, s9, s10, s11⟩ := hSw; go_simp)
          all_goals with_reducible rfl
        go_simp
        as_aux_lemma =>
        refine wpAnyH_ready (rs := [7]) (by kernel_rfl) (by simp) ?_
        refine AllReadyH.cons (o := { dst := some 97, op := Op.buildSlice 35 1 #[(0, Operand.tmp 96)], type := 35, pos := "back.go:161", after := #[{ on := 6, ground := Ground.data }], guard := none }) rfl (fun K hK => ?_) AllReadyH.nil
        refine step_build (by rfl) 96 (by rfl) _ _ _ _ _ _ _ _ _ _ (by rfl) ?_
        refine hK.out _ _ HS7.out (fun hHeld => ?_)
        clear hK K
        go_simp
        as_aux_lemma =>
        refine wpAnyH_ready (rs := [8]) (by kernel_rfl) (by simp) ?_
        refine AllReadyH.cons (o := { dst := some 98, op := Op.call { callee := Callee.builtin Builtin.append, args := #[Operand.tmp 91, Operand.tmp 97], argTypes := #[35, 35] }, type := 35, pos := "back.go:161", after := #[{ on := 1, ground := Ground.data }, { on := 7, ground := Ground.data }], guard := none }) rfl (fun K hK => ?_) AllReadyH.nil
        refine step_append_run (by rfl) _ _ 35 (by rfl) _ _ (by rfl) (by rfl) HAP.out ?_
        refine hK.out _ _ HS8.out (fun hHeld => ?_)
        clear hK K
        go_simp
        refine wpAnyH_take (i := 9) (oi := _) (v := ?_) rfl (by kernel_rfl) (by kernel_rfl) (by kernel_rfl) (fun _ _ _ h => h) (Or.inl ⟨by rfl, ?_⟩) (by assumption) ?_
        rotate_left
        · (intro w hSw; (try dsimp only at hSw); obtain ⟨s0, s1, s2, s3, s4, s5, s6, s7, s8, s9, s10, s11⟩ := hSw; go_simp)
          all_goals with_reducible rfl
        go_simp
        refine wpAnyH_take (i := 10) (oi := _) (v := ?_) rfl (by kernel_rfl) (by kernel_rfl) (by kernel_rfl) (fun _ _ _ h => h) (Or.inl ⟨by rfl, ?_⟩) (by assumption) ?_
        rotate_left
        · (intro w hSw; (try dsimp only at hSw); obtain ⟨s0, s1, s2, s3, s4, s5, s6, s7, s8, s9, s10, s11⟩ := hSw; go_simp)
          all_goals with_reducible rfl
        go_simp
        refine wpAnyH_done (by kernel_rfl) ?_ _
        as_aux_lemma =>
        simp only [RL.endQ]
        unfold Oper.wp
        go_simp
        go_wp2_with fail
        have hne : ∀ b, b ≠ w9.heap.size + 1 → (w4.setCell ⟨w9.heap.size + 1, 2, none⟩ (.slice ta (k + 1) tc)).heap[b]? = w4.heap[b]? := fun b hb => Below.heap_setCell _ _ _ _ hb
        have low : ∀ b, b < w9.heap.size + 1 → (w4.setCell ⟨w9.heap.size + 1, 2, none⟩ (.slice ta (k + 1) tc)).heap[b]? = wr.heap[b]? := fun b hb => (hne b (by omega)).trans (H49.out b (by omega))
        have own5 := OWN4.out
        rw [show V.flat (rs.reverse.take k ++ [q]) = V.flat (rs.reverse.take (k + 1)) by rw [V.take_snoc rs.reverse k q HKI.out]] at own5
        have bel4 : Below w.heap.size w w4 := ((HI.out.2.2.2.2.2.1).trans (KZ.out.mono (HI.out.2.2.2.2.2.1).size)).grown GR4.out (by have := (HI.out.2.2.2.2.2.1).size; have := KZ.out.size; omega) (fun b hb => by have := HOB.out b hb; have := HWZ.out; omega)
        have hP9 := HP9.out
        have hL9 := HL9.out
        have hPl : PlanAt w2.heap.size (w4.setCell ⟨w9.heap.size + 1, 2, none⟩ (.slice ta (k + 1) tc)) w3.heap.size (1 + (D : Int)) (some ⟨g, 0, none⟩) vc rs := ⟨(low _ (by omega)).trans HI.out.1.box, own_stay HI.out.1.own (fun b hb => by
          have hb2 : b < w9.heap.size + 2 := HVA.out b (by rw [hb])
          have hb3 : b ≠ w9.heap.size + 1 := fun e => own_far HI.out.1.own HI.out.2.2.2.1 (by decide) (by rw [hb, e])
          exact (hne b hb3).trans (H49.out b hb2))⟩
        go_roundw
        case measure =>
          simp [intOf]
          try omega
        refine ⟨k + 1, .slice ta (k + 1) tc, ?_, by omega, hPl, (low _ (by omega)).trans HI.out.2.1, (low _ (by omega)).trans HI.out.2.2.1, (set_blk HT4.out 2 _).trans rfl, own_stay own5 (fun b hb => Below.heap_setCell _ _ _ _ (fun e => own_far own5 HT4.out (by decide) (by rw [hb, e]))), bel4.setCell (p := ⟨w9.heap.size + 1, 2, none⟩) (by show w.heap.size ≤ w9.heap.size + 1; have := HWZ.out; omega) _, ?_⟩
        · congr 1
          push_cast
          omega
        · have h1 := GR4.out.size
          have h2 := KZ.out.size
          have h3 := HI.out.2.2.2.2.2.2
          simp only [World.setCell, Array.size_modify]
          omega
      · as_aux_lemma =>
        obtain rfl : k = M + 1 := by omega
        have hrv : rs.reverse.take (M + 1) = rs.reverse := List.take_of_length_le (by rw [List.length_reverse]; have := HM.out; omega)
        obtain ⟨hPl, hL, hO, hT, hown, hbel, hsz⟩ := HI.out
        rw [hrv] at hown
        obtain ⟨ta, tc, rfl⟩ := own_shape hown
        have hM := HM.out
        obtain ⟨q, hq⟩ : ∃ q, rs[0]? = some q := ⟨_, List.getElem?_eq_getElem (by omega)⟩
        have hqm := List.mem_of_getElem? hq
        have hok : V.nOk q := HALL.out q hqm
        have hone : rs.take 1 = [q] := by
          cases rs with
          | nil => simp at hq
          | cons r l => simp at hq; simp [hq]
        obtain ⟨Q, hQ⟩ : ∃ Q : Int, Q = ((A : Int) + 1) * (1 + (G : Int)) := ⟨_, rfl⟩
        obtain ⟨q1a, q1b⟩ := V.poll_in (g := 1 + (G : Int)) (a := (A : Int)) (by omega) (by omega) (by omega) (by omega)
        rw [← hQ] at q1a q1b
        have s1 := V.sum_in HALL.out q1a q1b
        have s2 := V.sum_take M HALL.out q1a q1b
        have s3 := V.sum_in (qs := rs.take M) (fun x hx => HALL.out x (List.mem_of_mem_take hx)) q1a q1b
        obtain ⟨k1, k2, k3, k4⟩ := V.cost_in hok q1a q1b
        have hX1 : X1 = min (1 + (D : Int)) (V.sumC rs Q) := by rw [hQ]; exact HX1.out.symm
        have BL := hide (fun w h => boundOf_any ⟨#[]⟩ (1 + (D : Int)) va M vc (rs.take M) (1 + (G : Int)) (A : Int) w h ⟨by omega, by omega, by omega, by rw [List.length_take]; omega⟩ (fun x hx => HALL.out x (List.mem_of_mem_take hx)))
        have BT := hide (fun w h => boundOf_any ⟨#[]⟩ (1 + (D : Int)) ta (M + 1) tc rs.reverse (1 + (G : Int)) (A : Int) w h ⟨by omega, by omega, by omega, by rw [List.length_reverse]; omega⟩ (fun x hx => HALL.out x (List.mem_reverse.1 hx)))
        have BO := hide (fun w h => boundOf_any ⟨#[]⟩ (1 + (D : Int)) va 1 vc (rs.take 1) (1 + (G : Int)) (A : Int) w h ⟨by omega, by omega, by omega, by rw [hone]; simp⟩ (fun x hx => HALL.out x (List.mem_of_mem_take hx)))
        rw [← hQ] at BL BT BO
        rw [hone, V.sum_one] at BO
        rw [V.sum_reverse, ← hX1] at BT
        obtain ⟨Y, hY⟩ : ∃ Y : Int, Y = min (1 + (D : Int)) (V.sumC (rs.take M) Q) := ⟨_, rfl⟩
        rw [← hY] at BL
        have y1 : 0 ≤ Y := by omega
        have y2 : Y ≤ X1 := by omega
        obtain ⟨C, hC⟩ : ∃ C : Int, C = V.cost q Q := ⟨_, rfl⟩
        rw [← hC] at BO k3 k4
        have o1 : 1 ≤ q.bu ∧ q.bu ≤ 100 ∧ 1 ≤ q.cl ∧ q.cl ≤ 1099511627776 ∧ 1 ≤ q.ca ∧ q.ca ≤ 1099511627776 ∧ 0 ≤ q.ji ∧ q.ji ≤ 1099511627776 := hok
        have hCE : C = q.bu * (q.cl + q.ca + q.ji + Q) := hC
        have hQw : wrap64 (((A : Int) + 1) * (1 + (G : Int))) = Q := by rw [← hQ]; unfold wrap64; omega
        have hCw : wrap64 (q.bu * (q.cl + q.ca + q.ji + Q)) = C := by rw [← hCE]; unfold wrap64; omega
        have rdP := hPl.rd HIN.out hl
        have RL1 := hide (rdn_take rdP (m := M) (by omega))
        have RO1 : Hid (RdN wr va 1 [q]) := by
          rw [← hone]
          exact rdn_take rdP (m := 1) (by omega)
        have hrl : rs.reverse.length = M + 1 := by rw [List.length_reverse]; exact hM
        have RT1 : Hid (RdN wr ta (M + 1) rs.reverse) := by
          obtain ⟨a', c', e', r'⟩ := own_rdn (qs := rs.reverse) (by rw [hrl]; exact hown) (fun x hx => HIN.out x (List.mem_reverse.1 hx)) (by omega)
          rw [hrl] at e' r'
          injection e' with e1 _ _
          rw [e1]; exact r'
        obtain ⟨g, hg, n0, n1, n2, n3, n4, n5, n6, n7, n8, n9⟩ := node_cells hPl.own hq
        subst hg
        simp only [Nat.zero_mul, Nat.zero_add] at n0 n1 n2 n3 n4 n5 n6 n7 n8 n9
        have NC := hide (And.intro n0 (And.intro n1 (And.intro n2 (And.intro n3 (And.intro n4 (And.intro n5 (And.intro n6 (And.intro n7 (And.intro n8 n9)))))))))
        have HPL := hide hPl
        have HOx := hide hO
        have HTx := hide hT
        have HBL := hide hbel
        have l0 := cell_blk hL 0 (v := .string ⟨#[]⟩) rfl
        have l1' := cell_blk hL 1 (v := .int .i64 (1 + (D : Int))) rfl
        have l2' := cell_blk hL 2 (v := .slice (some ⟨g, 0, none⟩) M vc) rfl
        have hm1 : ((M : Int) - ((M + 1 : Nat) : Int)) = -1 := by omega
        rw [hm1]
        clear hrv hPl hL hO hT hown hbel hsz hq hqm hok hone hX1 s1 s2 s3 hC hCE hQ rdP hrl n0 n1 n2 n3 n4 n5 n6 n7 n8 n9 HI hm1 hlt hk
        go_wp2_with fail
        go_at_call 11
        refine (BL.out _ RL1.out).mono ?_
        rintro e wY ⟨rfl, hbY⟩
        have hcY : ∀ b o v, wr.cell? ⟨b, o, none⟩ = some v → wY.cell? ⟨b, o, none⟩ = some v := fun b o v h => (hbY.cell (p := ⟨b, o, none⟩) (World.block_lt_of_cell? _ _ h)).trans h
        obtain ⟨n0, n1, n2, n3, n4, n5, n6, n7, n8, n9⟩ := NC.out
        have n0 := hcY _ _ _ n0
        have n1 := hcY _ _ _ n1
        have n2 := hcY _ _ _ n2
        have n3 := hcY _ _ _ n3
        have n4 := hcY _ _ _ n4
        have n5 := hcY _ _ _ n5
        have n6 := hcY _ _ _ n6
        have n7 := hcY _ _ _ n7
        have n8 := hcY _ _ _ n8
        have n9 := hcY _ _ _ n9
        obtain ⟨_, _, c2⟩ := HPL.out.cells
        have c2 := hcY _ _ _ c2
        have h0l : (0 : Int) < (rs.length : Int) := by have := HM.out; omega
        have h0l' : 0 < rs.length := by have := HM.out; omega
        have kz : Below wY.heap.size wY (wY.alloc (Obj.cells #[.string q.nm, .int .i64 q.la, .int .i64 q.bu, .int .i64 q.cl, .int .i64 q.be, .int .i64 q.ba, .int .i64 q.ca, .int .i64 q.ji, .slice q.ne.1 q.ne.2.1 q.ne.2.2, .slice q.af.1 q.af.2.1 q.af.2.2] 24)) := (Below.refl _ wY).alloc (Nat.le_refl _) (Obj.cells #[.string q.nm, .int .i64 q.la, .int .i64 q.bu, .int .i64 q.cl, .int .i64 q.be, .int .i64 q.ba, .int .i64 q.ca, .int .i64 q.ji, .slice q.ne.1 q.ne.2.1 q.ne.2.2, .slice q.af.1 q.af.2.1 q.af.2.2] 24)
        have bz := heap_alloc_new wY (Obj.cells #[.string q.nm, .int .i64 q.la, .int .i64 q.bu, .int .i64 q.cl, .int .i64 q.be, .int .i64 q.ba, .int .i64 q.ca, .int .i64 q.ji, .slice q.ne.1 q.ne.2.1 q.ne.2.2, .slice q.af.1 q.af.2.1 q.af.2.2] 24)
        have HKZ := hide (hbY.trans (kz.mono hbY.size))
        have HBZ := hide bz
        clear kz bz hbY hcY l0 l1' l2' BL RL1
        go_upto_region 21 with fail
        generalize hwz : wY.alloc (Obj.cells #[.string q.nm, .int .i64 q.la, .int .i64 q.bu, .int .i64 q.cl, .int .i64 q.be, .int .i64 q.ba, .int .i64 q.ca, .int .i64 q.ji, .slice q.ne.1 q.ne.2.1 q.ne.2.2, .slice q.af.1 q.af.2.1 q.af.2.2] 24) = wZ at *
        generalize wY.heap.size = N0 at *
        clear hwz n0 n1 n2 n3 n4 n5 n6 n7 n8 n9 c2
        have m2 := cell_blk HBZ.out 2 (v := .int .i64 q.bu) rfl
        have m3 := cell_blk HBZ.out 3 (v := .int .i64 q.cl) rfl
        have m6 := cell_blk HBZ.out 6 (v := .int .i64 q.ca) rfl
        have m7 := cell_blk HBZ.out 7 (v := .int .i64 q.ji) rfl
        have hcZ : ∀ b o v, wr.cell? ⟨b, o, none⟩ = some v → wZ.cell? ⟨b, o, none⟩ = some v := fun b o v h => (HKZ.out.cell (p := ⟨b, o, none⟩) (World.block_lt_of_cell? _ _ h)).trans h
        obtain ⟨_, c1, _⟩ := HPL.out.cells
        have c1 := hcZ _ _ _ c1
        have t0 := hcZ _ _ _ (cell_blk HTx.out 0 (v := .string ⟨#[]⟩) rfl)
        have t1 := hcZ _ _ _ (cell_blk HTx.out 1 (v := .int .i64 (1 + (D : Int))) rfl)
        have t2 := hcZ _ _ _ (cell_blk HTx.out 2 (v := .slice ta (M + 1) tc) rfl)
        have BT2 := hide (BT.out wZ (RT1.out.keep HKZ.out))
        have HX := hide HKZ.out
        clear hcZ
        generalize q.bu = bu at *
        generalize q.cl = cl at *
        generalize q.ca = ca at *
        generalize q.ji = ji at *
        obtain ⟨gg, hgg⟩ : ∃ gg : Int, gg = 1 + (G : Int) := ⟨_, rfl⟩
        have hg1 : 1 ≤ gg ∧ gg ≤ 1099511627776 := by omega
        rw [← hgg] at hQw BT2 BO ⊢
        clear hgg
        go_upto_region 22 with fail
        simp only [hQw, hCw]
        by_cases hcD : (1 + (D : Int)) < C
        · as_aux_lemma =>
          have hcD' : ¬ C ≤ 1 + (D : Int) := by omega
          go_wp2_with fail
          go_at_call 11
          refine BT2.out.mono ?_
          rintro e wT ⟨rfl, hbT⟩
          have kT := HX.out.trans (hbT.mono HX.out.size)
          have o0 := (kT.cell (p := ⟨w9.heap.size, 0, none⟩) (World.block_lt_of_cell? _ _ (cell_blk HOx.out 0 (v := .string ⟨#[]⟩) rfl))).trans (cell_blk HOx.out 0 (v := .string ⟨#[]⟩) rfl)
          have oo1 := (kT.cell (p := ⟨w9.heap.size, 1, none⟩) (World.block_lt_of_cell? _ _ (cell_blk HOx.out 1 (v := .int .i64 (1 + (D : Int))) rfl))).trans (cell_blk HOx.out 1 (v := .int .i64 (1 + (D : Int))) rfl)
          have oo2 := (kT.cell (p := ⟨w9.heap.size, 2, none⟩) (World.block_lt_of_cell? _ _ (cell_blk HOx.out 2 (v := .slice (some ⟨g, 0, none⟩) 1 vc) rfl))).trans (cell_blk HOx.out 2 (v := .slice (some ⟨g, 0, none⟩) 1 vc) rfl)
          have BO2 := hide (BO.out wT (RO1.out.keep kT))
          have KT := hide kT
          clear hbT kT
          rw [show min (1 + (D : Int)) C = 1 + (D : Int) by omega] at BO2
          go_wp2_with fail
          go_at_call 11
          refine BO2.out.mono ?_
          rintro e wE ⟨rfl, hbE⟩
          have KE := hide (HBL.out.trans ((KT.out.trans (hbE.mono KT.out.size)).mono HBL.out.size))
          clear hbE
          go_wp2_with fail
          go_ret
          exact ⟨rfl, KE.out⟩
        · as_aux_lemma =>
          have hcD' : ¬ 1 + (D : Int) < C := by omega
          go_wp2_with fail
          go_at_call 11
          refine BT2.out.mono ?_
          rintro e wT ⟨rfl, hbT⟩
          have kT := HX.out.trans (hbT.mono HX.out.size)
          have o0 := (kT.cell (p := ⟨w9.heap.size, 0, none⟩) (World.block_lt_of_cell? _ _ (cell_blk HOx.out 0 (v := .string ⟨#[]⟩) rfl))).trans (cell_blk HOx.out 0 (v := .string ⟨#[]⟩) rfl)
          have oo1 := (kT.cell (p := ⟨w9.heap.size, 1, none⟩) (World.block_lt_of_cell? _ _ (cell_blk HOx.out 1 (v := .int .i64 (1 + (D : Int))) rfl))).trans (cell_blk HOx.out 1 (v := .int .i64 (1 + (D : Int))) rfl)
          have oo2 := (kT.cell (p := ⟨w9.heap.size, 2, none⟩) (World.block_lt_of_cell? _ _ (cell_blk HOx.out 2 (v := .slice (some ⟨g, 0, none⟩) 1 vc) rfl))).trans (cell_blk HOx.out 2 (v := .slice (some ⟨g, 0, none⟩) 1 vc) rfl)
          have BO2 := hide (BO.out wT (RO1.out.keep kT))
          have KT := hide kT
          clear hbT kT
          rw [show min (1 + (D : Int)) C = C by omega] at BO2
          go_wp2_with fail
          go_at_call 11
          refine BO2.out.mono ?_
          rintro e wE ⟨rfl, hbE⟩
          have KE := hide (HBL.out.trans ((KT.out.trans (hbE.mono KT.out.size)).mono HBL.out.size))
          clear hbE
          go_wp2_with fail
          go_ret
          exact ⟨rfl, KE.out⟩
end Go.Proofs.Ytgjjiomnbhildaa
