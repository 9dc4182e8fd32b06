/- Package source: Parse. -/
import Derived.Test.YtfoahfgehmghcaaGreatDoorURea
import Derived.Test.YtfoahfgehmghcaaGreatDoorUAs2
import Derived.Lib.ItoaNum
namespace Go.Proofs.YtfoahfgehmghcaaGreatDoor
namespace U
open Go.RowKit

/-- the library's variable that errors.As reads -/
def EnvA (w : World) : Prop := w.cell? ⟨0, 0, none⟩ = some (.iface 135 (.agg #[hdl 50]))
theorem EnvA.below {w w' : World} (h : EnvA w) (k : Below w.heap.size w w') : EnvA w' := (k.cell (p := ⟨0, 0, none⟩) (World.block_lt_of_cell? _ _ h)).trans h
theorem res_parse {fn : Func} {p u v : Tmp} (h : fn.results = #[.cell p 24, .tmp u, .tmp v]) (tmps : Array Value) (w : World) (g : Nat) (x y z : Value) (hp : tmps.getD p undef = .pointer (some ⟨g, 0, none⟩)) (hg : w.heap[g]? = some (.cells #[x, y, z] 24 (0, 0))) :
    (results fn tmps).run Tryz.prog w = .ok (.tuple #[.agg #[x, y, z], tmps.getD u undef, tmps.getD v undef]) w := by
  have hp' : tmps[p]?.getD undef = .pointer (some ⟨g, 0, none⟩) := by simpa using hp
  simp [results, h, hp', asAddr, run_loadVar_row w g 24 24 #[x, y, z] (0, 0) _ hg Tryz.underlying24 rfl (by rw [info_plan]; rfl)]
/-- what Parse leaves -/
def ParseEnd (r : (Nat × Nat) ⊕ Pl) (w : World) (e : Ending) (w' : World) : Prop :=
  Below w.heap.size w w' ∧ ((∃ p c, r = .inl (p, c) ∧ e = .returned (.tuple #[zPlan, .int .i64 (p : Int), .int .i64 (c : Int)])) ∨ ∃ q va vc, r = .inr q ∧ e = .returned (.tuple #[.agg #[.string (ba q.nm), .int .i64 q.dl, .slice va q.nds.length vc], .int .i64 0, .int .i64 0]) ∧ NdsAt w.heap.size w' (.slice va q.nds.length vc) q.nds ∧ q.nds.length ≤ 1000000)
/-- the same, its lists the caller's alone -/
def ParseOwn (r : (Nat × Nat) ⊕ Pl) (w : World) (e : Ending) (w' : World) : Prop :=
  Below w.heap.size w w' ∧ ((∃ p c, r = .inl (p, c) ∧ e = .returned (.tuple #[zPlan, .int .i64 (p : Int), .int .i64 (c : Int)])) ∨ ∃ q va vc, r = .inr q ∧ e = .returned (.tuple #[.agg #[.string (ba q.nm), .int .i64 q.dl, .slice va q.nds.length vc], .int .i64 0, .int .i64 0]) ∧ NdsO w.heap.size w' (.slice va q.nds.length vc) q.nds ∧ q.nds.length ≤ 1000000)
theorem ParseOwn.end_ {r : (Nat × Nat) ⊕ Pl} {w : World} {e : Ending} {w' : World} (h : ParseOwn r w e w') : ParseEnd r w e w' := by
  obtain ⟨h1, h2 | ⟨q, va, vc, h3, h4, h5, h6⟩⟩ := h
  · exact ⟨h1, .inl h2⟩
  · exact ⟨h1, .inr ⟨q, va, vc, h3, h4, h5.at_, h6⟩⟩
theorem NdsO.keepP {B : Nat} {w w' : World} {vn : Value} {nds : List Pn} (h : NdsO B w vn nds) {S : Nat → Prop} (k : Keep S w w') (hS : ∀ g cs t, S g → w.heap[g]? = some (.cells cs t (0, 0)) → t ≠ 32 ∧ t ≠ 3) : NdsO B w' vn nds := by
  obtain ⟨M, xs, x1, x2, x3, x4⟩ := h
  have hint : ∀ (g : Nat) (cur : Array Value), S g → w.heap[g]? ≠ some (.cells cur 3 (0, 0)) := fun g cur s hc => (hS g cur _ s hc).2 rfl
  refine ⟨M, xs, x1, own_keep x2 k fun g hg s => ?_, fun x hx => ⟨(x3 x hx).1.keep k hint, (x3 x hx).2.keep k hint⟩, x4⟩
  obtain ⟨_, _, cur, hcur⟩ := own_blk x2 hg
  exact (hS g cur _ s hcur).1 rfl
theorem NdsAt.keepP {B : Nat} {w w' : World} {vn : Value} {nds : List Pn} (h : NdsAt B w vn nds) {S : Nat → Prop} (k : Keep S w w') (hS : ∀ g cs t, S g → w.heap[g]? = some (.cells cs t (0, 0)) → t ≠ 32 ∧ t ≠ 3) : NdsAt B w' vn nds := by
  obtain ⟨xs, x1, x2, x3⟩ := h
  have hint : ∀ (g : Nat) (cur : Array Value), S g → w.heap[g]? ≠ some (.cells cur 3 (0, 0)) := fun g cur s hc => (hS g cur _ s hc).2 rfl
  refine ⟨xs, x1, own_keep x2 k fun g hg s => ?_, fun x hx => ⟨(x3 x hx).1.keep k hint, (x3 x hx).2.keep k hint⟩⟩
  obtain ⟨_, _, cur, hcur⟩ := own_blk x2 hg
  exact (hS g cur _ s hcur).1 rfl
theorem as_hit2 (E T : Nat) (old : Value) (w : World) (hg : EnvA w) (hT : w.heap[T]? = some (.cells #[old] 53 (0, 0))) :
    Calls Tryz.prog 22 #[.iface 53 (.pointer (some ⟨E, 0, none⟩)), .iface 55 (.pointer (some ⟨T, 0, none⟩))] w fun ev w' => ev = .returned (.bool true) ∧ w'.heap[T]? = some (.cells #[.pointer (some ⟨E, 0, none⟩)] 53 (0, 0)) ∧ Keep (fun k => k = T) w w' := by
  refine (as_hit ⟨E, 0, none⟩ ⟨T, 0, none⟩ old w hg (cell_blk hT 0 rfl) (frozen_blk hT 0)).mono ?_
  rintro ev w' ⟨rfl, rfl⟩
  refine ⟨rfl, ?_, ?_⟩
  · refine (set_blk (cs := #[old]) (t := 53) ?_ 0 _).trans rfl
    have hlt := (Array.getElem?_eq_some_iff.1 hT).1
    rw [Below.heap_alloc _ _ _ (by simp; omega), Below.heap_alloc _ _ _ (by simp; omega), Below.heap_alloc _ _ _ (by simp; omega), Below.heap_alloc _ _ _ hlt]
    exact hT
  · exact ((((Keep.alloc _ _ _).more (Keep.alloc _ _ _)).more (Keep.alloc _ _ _)).more (Keep.alloc _ _ _)).more (keep_cell _ T 0 _)
set_option maxRecDepth 100000 in
set_option maxHeartbeats 4000000 in
theorem parse_own (s : ByteArray) (w : World) (hss : s.size ≤ 9223372036854775807) (hE : EnvA w) :
    Calls Tryz.prog 11 #[.string s] w (ParseOwn (parse s.data.toList) w) := by
  have RA := hide (fun w => read_any s w hss)
  generalize parse s.data.toList = R at *
  have b0 : Below w.heap.size w (w.alloc (.cells #[.string ⟨#[]⟩, .int .i64 0, .slice none 0 0] 24)) := (Below.refl _ w).alloc (Nat.le_refl _) _
  have PB0 := hide (heap_alloc_new w (.cells #[.string ⟨#[]⟩, .int .i64 0, .slice none 0 0] 24))
  have E0 := hide (hE.below b0)
  have B0 := hide b0
  have HZ0 : Hid ((w.alloc (.cells #[.string ⟨#[]⟩, .int .i64 0, .slice none 0 0] 24)).heap.size = w.heap.size + 1) := by show _ = _; simp
  clear b0 hE
  go_enter Tryz.func11, Tryz.ntmps11
  go_wp2_with fail
  generalize w.alloc (.cells #[.string ⟨#[]⟩, .int .i64 0, .slice none 0 0] 24) = w0 at *
  go_at_call 21
  refine (RA.out w0).mono ?_
  rintro e w1 ⟨b1, hres⟩
  have E1 := hide (E0.out.below b1)
  have B1 := hide (B0.out.trans (b1.mono B0.out.size))
  have pb1 := (b1.block w.heap.size (by have := HZ0.out; omega)).trans PB0.out
  have PB1 := hide pb1
  have HRES := hide hres
  have HZ1 := hide (show w.heap.size + 1 ≤ w1.heap.size by have := b1.size; have := HZ0.out; omega)
  clear b1 pb1 hres E0 B0 PB0 RA
  rcases HRES.out with ⟨p, c, v, rfl, rfl, E, rfl, hEe⟩ | ⟨q, va, vc, rfl, rfl, hNd, hql⟩
  · have HEE := hide hEe
    unfold zPlan
    have hb2 := ((Below.refl w1.heap.size w1).alloc (Nat.le_refl _) (.cells #[.string ⟨#[]⟩, .int .i64 0, .slice none 0 0] 24)).alloc (by simp) (.cells #[.pointer none] 53)
    have hT := heap_alloc_new (w1.alloc (.cells #[.string ⟨#[]⟩, .int .i64 0, .slice none 0 0] 24)) (.cells #[.pointer none] 53)
    rw [show (w1.alloc (.cells #[.string ⟨#[]⟩, .int .i64 0, .slice none 0 0] 24)).heap.size = w1.heap.size + 1 by simp] at hT
    have HB2 := hide hb2
    have HAS := hide (as_hit2 E (w1.heap.size + 1) _ _ (E1.out.below hb2) hT)
    clear hEe HRES hb2 hT
    go_wp2_with fail
    generalize (w1.alloc (.cells #[.string ⟨#[]⟩, .int .i64 0, .slice none 0 0] 24)).alloc (.cells #[.pointer none] 53) = w2 at *
    go_at_call 22
    refine HAS.out.mono ?_
    rintro e w3 ⟨rfl, hT3, k3⟩
    have hEl := (Array.getElem?_eq_some_iff.1 HEE.out).1
    have e3 := k3.blk ((HB2.out.block E hEl).trans HEE.out) (fun e => by omega)
    have pb3 := k3.blk ((HB2.out.block w.heap.size (by have := HZ1.out; omega)).trans PB1.out) (fun e => by have := HZ1.out; omega)
    have B3 : Hid (Below w.heap.size w w3) := (B1.out.trans (HB2.out.mono B1.out.size)).trans (k3.below (by have := B1.out.size; have := HB2.out.size; omega) (fun i e => by have := B1.out.size; omega))
    have PB3 := hide pb3
    have t0 := cell_blk hT3 0 (v := .pointer (some ⟨E, 0, none⟩)) rfl
    have x0 := cell_blk e3 0 (v := .int .i64 (p : Int)) rfl
    have x1 := cell_blk e3 1 (v := .int .i64 (c : Int)) rfl
    have p0 := cell_blk pb3 0 (v := .string ⟨#[]⟩) rfl
    have p1 := cell_blk pb3 1 (v := .int .i64 0) rfl
    have p2 := cell_blk pb3 2 (v := .slice none 0 0) rfl
    have p0f := frozen_blk pb3 0
    have p1f := frozen_blk pb3 1
    have p2f := frozen_blk pb3 2
    have kk := put3_keep w3 w.heap.size (.string ⟨#[]⟩) (.int .i64 0) (.slice none 0 0)
    have hne : E ≠ w.heap.size := fun e => by
      rw [e, pb3] at e3
      injection e3 with e3
      injection e3 with _ e3
      exact absurd e3 (by decide)
    have t0' : (((w3.setCell ⟨w.heap.size, 0, none⟩ (.string ⟨#[]⟩)).setCell ⟨w.heap.size, 1, none⟩ (.int .i64 0)).setCell ⟨w.heap.size, 2, none⟩ (.slice none 0 0)).drew.cell? ⟨w1.heap.size + 1, 0, none⟩ = some (.pointer (some ⟨E, 0, none⟩)) := kk.cell t0 (fun e => by have := HZ1.out; simp only at e; omega)
    have x0' : (((w3.setCell ⟨w.heap.size, 0, none⟩ (.string ⟨#[]⟩)).setCell ⟨w.heap.size, 1, none⟩ (.int .i64 0)).setCell ⟨w.heap.size, 2, none⟩ (.slice none 0 0)).drew.cell? ⟨E, 0, none⟩ = some (.int .i64 (p : Int)) := kk.cell x0 hne
    have x1' : (((w3.setCell ⟨w.heap.size, 0, none⟩ (.string ⟨#[]⟩)).setCell ⟨w.heap.size, 1, none⟩ (.int .i64 0)).setCell ⟨w.heap.size, 2, none⟩ (.slice none 0 0)).drew.cell? ⟨E, 1, none⟩ = some (.int .i64 (c : Int)) := kk.cell x1 hne
    have HKK := hide kk
    clear hEl e3 pb3 hT3 k3 HAS HB2 E1 B1 PB1 HEE kk
    go_wp2_with fail
    go_region
    all_goals go_wp2_with fail
    all_goals refine bodyPost_ret (res_parse rfl _ _ w.heap.size _ _ _ rfl (put3_blk (w := w3) PB3.out _ _ _)) rfl ?_
    all_goals exact ⟨(B3.out.trans (HKK.out.below B3.out.size fun i e => by omega)).drew, .inl ⟨p, c, rfl, rfl⟩⟩
  · have HND := hide hNd
    have hb2 := ((Below.refl w1.heap.size w1).alloc (Nat.le_refl _) (.cells #[.string (ba q.nm), .int .i64 q.dl, .slice va q.nds.length vc] 24)).alloc (by simp) (.cells #[.pointer none] 53)
    have hPp := (Below.heap_alloc (w1.alloc (.cells #[.string (ba q.nm), .int .i64 q.dl, .slice va q.nds.length vc] 24)) (.cells #[.pointer none] 53) w1.heap.size (by simp)).trans (heap_alloc_new w1 _)
    have ND2 := hide (hNd.below hb2)
    have B2 := hide (B1.out.trans (hb2.mono B1.out.size))
    have pb2 := (hb2.block w.heap.size (by have := HZ1.out; omega)).trans PB1.out
    have PB2 := hide pb2
    have q0 := cell_blk hPp 0 (v := .string (ba q.nm)) rfl
    have q1 := cell_blk hPp 1 (v := .int .i64 q.dl) rfl
    have q2 := cell_blk hPp 2 (v := .slice va q.nds.length vc) rfl
    have p0 := cell_blk pb2 0 (v := .string ⟨#[]⟩) rfl
    have p1 := cell_blk pb2 1 (v := .int .i64 0) rfl
    have p2 := cell_blk pb2 2 (v := .slice none 0 0) rfl
    have p0f := frozen_blk pb2 0
    have p1f := frozen_blk pb2 1
    have p2f := frozen_blk pb2 2
    clear hNd HRES hb2 hPp pb2 HND E1 B1 PB1
    go_wp2_with fail
    generalize (w1.alloc (.cells #[.string (ba q.nm), .int .i64 q.dl, .slice va q.nds.length vc] 24)).alloc (.cells #[.pointer none] 53) = w2 at *
    go_at_call 22
    refine (as_nil _ _).mono ?_
    rintro e w3 ⟨rfl, rfl⟩
    go_wp2_with fail
    refine bodyPost_ret (res_parse rfl _ _ w.heap.size _ _ _ rfl (put3_blk PB2.out _ _ _)) rfl ?_
    have kk := put3_keep w3 w.heap.size (.string (ba q.nm)) (.int .i64 q.dl) (.slice va q.nds.length vc)
    refine ⟨B2.out.trans (kk.below B2.out.size fun i e => by omega), .inr ⟨q, va, vc, rfl, rfl, ?_, hql⟩⟩
    obtain ⟨M2, xs, x1, x2, x3, x4⟩ := ND2.out
    have nd3 : NdsO w.heap.size w3 (.slice va q.nds.length vc) q.nds := ⟨M2, xs, x1, ownsRow_base x2 (by have := HZ0.out; omega), fun x hx => ⟨(x3 x hx).1.base (by have := HZ0.out; omega), (x3 x hx).2.base (by have := HZ0.out; omega)⟩, x4⟩
    refine nd3.keepP kk fun g cs t e hc => ?_
    subst e
    rw [PB2.out] at hc
    injection hc with hc
    injection hc with _ hc
    subst hc
    exact ⟨by decide, by decide⟩
theorem parse_any (s : ByteArray) (w : World) (hss : s.size ≤ 9223372036854775807) (hE : EnvA w) :
    Calls Tryz.prog 11 #[.string s] w (ParseEnd (parse s.data.toList) w) := (parse_own s w hss hE).mono fun _ _ h => h.end_
end U
end Go.Proofs.YtfoahfgehmghcaaGreatDoor
