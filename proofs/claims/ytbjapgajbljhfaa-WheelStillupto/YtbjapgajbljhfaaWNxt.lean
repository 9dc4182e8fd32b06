/- Package wheel: Next. -/
import Derived.Test.YtbjapgajbljhfaaWOpn
namespace Go.Proofs.Ytbjapgajbljhfaa
namespace Wh
open Go.RowKit

theorem sum_lt_of {f g : Nat → Nat} : ∀ {l : List Nat}, (∀ x ∈ l, f x ≤ g x) → (∃ x ∈ l, f x < g x) → (l.map f).sum < (l.map g).sum
  | [], _, ⟨x, hx, _⟩ => by cases hx
  | a :: l, h1, ⟨x, hx, h2⟩ => by
    have ha := h1 a (by simp)
    have hle : ∀ (l : List Nat), (∀ x ∈ l, f x ≤ g x) → (l.map f).sum ≤ (l.map g).sum := by
      intro l
      induction l with
      | nil => intro _; simp
      | cons b t ih => intro h; have := h b (by simp); have := ih fun x hx => h x (by simp [hx]); simp; omega
    have hl := hle l fun x hx => h1 x (by simp [hx])
    simp only [List.map_cons, List.sum_cons]
    rcases List.mem_cons.1 hx with rfl | hx
    · omega
    · have := sum_lt_of (fun x hx => h1 x (by simp [hx])) ⟨x, hx, h2⟩
      omega

theorem Ok.low_due {s : St} (h : Ok s) {i id : Nat} (hm : id ∈ s.row 0 i) : s.due id = bg s.now 0 i := by
  obtain ⟨h1, h2, h3⟩ := mem_row.1 hm
  obtain ⟨_, _, h4, h5⟩ := h.inn id h1
  have := hi_at (M_lt h5) (M_lt h.nowM)
  rw [h2, hi_zero, h3] at this
  unfold bg
  simpa using this

def levs (s : St) (n : Nat) : Nat := (s.ids.map fun id => lev n (s.due id)).sum
theorem Ok.open_sum {s : St} (h : Ok s) {l i : Nat} (h0 : l ≠ 0) (hi64 : i < 64) (he : Emp s.row l i) (hne : s.row l i ≠ []) : levs s (bg s.now l i) < levs s s.now := by
  obtain ⟨o1, o2⟩ := h.opened_all h0 hi64 he hne
  have key : ∀ id ∈ s.ids, (lev (bg s.now l i) (s.due id) ≤ lev s.now (s.due id)) ∧ (id ∈ s.row l i → lev (bg s.now l i) (s.due id) < lev s.now (s.due id)) := fun id hid => by
    have hlow : id ∈ s.row l i → lev (bg s.now l i) (s.due id) < lev s.now (s.due id) := fun hm => by
      have := (h.open_low h0 hm).1
      rw [(mem_row.1 hm).2.1]; exact this
    refine ⟨?_, hlow⟩
    have hp := o2.place (show id ∈ (s.go (bg s.now l i)).ids from hid)
    rw [← o1] at hp
    rcases mem_opened.1 hp with ⟨_, hm⟩ | ⟨hm, _⟩
    · have := (mem_row.1 hm).2.1
      show lev (bg s.now l i) (s.due id) ≤ _
      have e : lev (s.go (bg s.now l i)).now ((s.go (bg s.now l i)).due id) = lev (bg s.now l i) (s.due id) := rfl
      rw [e] at this
      omega
    · exact Nat.le_of_lt (hlow hm)
  obtain ⟨x, hx⟩ := List.exists_mem_of_ne_nil _ hne
  exact sum_lt_of (fun id hid => (key id hid).1) ⟨x, (mem_row.1 hx).1, (key x (mem_row.1 hx).1).2 hx⟩

/-- the time that a wheel in memory has -/
def nowOf (w : World) (P : Nat) : Nat := match w.cell? ⟨P, 0, none⟩ with | some (.int _ n) => n.toNat | _ => 0
theorem WIn.nowOf {tw te : TypeId} {S : Nat → Prop} {w : World} {P m : Nat} {at_ : Nat → Nat} {row : Nat → Nat → List Nat} {s : St} (h : WIn tw te S w P m at_ row s) : Wh.nowOf w P = s.now := by
  unfold Wh.nowOf
  rw [h.cnow]
  rfl

theorem WIn.touch {tw te : TypeId} {S : Nat → Prop} {w w' : World} {P m : Nat} {at_ : Nat → Nat} {row : Nat → Nat → List Nat} {s : St} (h : WIn tw te S w P m at_ row s) {T : Nat → Prop} (hk : Keep T w w') (hP : ¬ T P) (hm : ¬ T m) (hE : ∀ id ∈ s.ids, ¬ T (at_ id)) (hrow : ∀ l i id, id ∈ row l i → id ∈ s.ids) : WIn tw te S w' P m at_ row s where
  wb := by
    obtain ⟨cs, h1, h2⟩ := h.wb
    exact ⟨cs, hk.blk h1 hP, h2⟩
  lnk l i xs ys id e := hk.blk (h.lnk l i xs ys id e) (hE id (hrow l i id (by rw [e]; simp)))
  mp := by
    obtain ⟨f, h1, h2⟩ := h.mp
    exact ⟨f, h1.keep hk hm, h2⟩
  inj := h.inj
  ent id hid := by
    obtain ⟨cs, h1⟩ := h.ent id hid
    exact ⟨cs, hk.blk h1 (hE id hid)⟩
  own := h.own
  sp := h.sp
  sm := h.sm

/-- three cells of a block are set -/
theorem set3 {w : World} {g : Nat} {a b c : Value} {t : TypeId} (h : w.heap[g]? = some (.cells #[a, b, c] t (0, 0))) (x y z : Value) : (((w.setCell ⟨g, 0, none⟩ x).setCell ⟨g, 1, none⟩ y).setCell ⟨g, 2, none⟩ z).heap[g]? = some (.cells #[x, y, z] t (0, 0)) :=
  set_blk (set_blk (set_blk h 0 x) 1 y) 2 z
theorem keep3 (w : World) (g : Nat) (x y z : Value) : Keep (fun k => k = g) w (((w.setCell ⟨g, 0, none⟩ x).setCell ⟨g, 1, none⟩ y).setCell ⟨g, 2, none⟩ z) := ((keep_cell _ _ _ _).more (keep_cell _ _ _ _)).more (keep_cell _ _ _ _)

/-- what Next answers -/
def Nexts (tw te : TypeId) (z : Value) (S : Nat → Prop) (w : World) (P : Nat) (s : St) (to : Nat) (e : Ending) (w' : World) : Prop := Keep S w w' ∧
  ((∃ s', e = .returned (.tuple #[.agg #[.int .i64 0, .int .i64 0, z], .bool false]) ∧ NextNone s to s' ∧ WAt tw te S w' P s') ∨
   (∃ id s', e = .returned (.tuple #[.agg #[.int .i64 (id : Nat), .int .i64 (s.due id : Nat), s.what id], .bool true]) ∧ NextSome s to id s' ∧ WAt tw te S w' P s'))

theorem res_timerI {fn : Func} {p u : Tmp} (h : fn.results = #[.cell p 32, .tmp u]) (tmps : Array Value) (w : World) (g : Nat) (t : TypeId) (cs : Array Value) (fr : Nat × Nat)
    (hp : tmps.getD p undef = .pointer (some ⟨g, 0, none⟩)) (hg : w.heap[g]? = some (.cells cs t fr)) (hs : cs.size = 3) :
    (results fn tmps).run Try.prog w = .ok (.tuple #[.agg cs, tmps.getD u undef]) w := by
  rw [results_cell_tmp h, hp]
  have hi : (Try.prog.info? 32).map (·.size) = some cs.size := by rw [hs]; kernel_rfl
  simp [asAddr, run_loadVar_row w g t 32 cs fr _ hg Try.underlying32 rfl hi, Result.andThen]

set_option maxRecDepth 100000 in
set_option maxHeartbeats 4000000 in
theorem nextI {S : Nat → Prop} {P : Nat} {s : St} (to : Nat) (w : World) (h : WAt 75 80 S w P s) (h1 : s.now ≤ to) (h2 : to ≤ M) (hlast : s.last < 2 ^ 62) (hwt : ∀ id ∈ s.ids, ∃ y1, s.what id = .int .i64 y1) :
    Calls Try.prog 10 #[.pointer (some ⟨P, 0, none⟩), .int .i64 to] w (Nexts 75 80 (.int .i64 0) S w P s to) := by
  obtain ⟨hok, m, at_, h⟩ := h
  have hdec : decide ((s.now : Int) ≤ (to : Int) ∧ (to : Int) ≤ 4611686018427387904) = true := by unfold M at h2; simp; omega
  have H := hide h
  have HO := hide hok
  have HT := hide hwt
  clear h hok hwt
  go_enter Try.func10, Try.ntmps10
  go_wp2_with (go_at_call 24; refine (aheadI to _ (H.out.stay (Keep.alloc (fun _ => False) _ _) (fun _ _ _ h => h) HO.out.rows1.sub)).mono ?_; rw [hdec]; rintro e w1 ⟨rfl, k1⟩
               have K1 := hide ((Keep.alloc (fun _ => False) _ _).more k1)
               have R1 := hide (k1.blk (heap_alloc_new w (.cells #[.int .i64 0, .int .i64 0, .int .i64 0] 32)) fun f => f)
               clear k1)
  go_loopw [] (fun wr => ∃ n, n ≤ to ∧ Hid (Ok (s.go n) ∧ WIn 75 80 S wr P m at_ (s.go n).row (s.go n) ∧ Keep (fun k => k = P ∨ ∃ id ∈ s.ids, k = at_ id) w1 wr)) (fun wr => levs s (nowOf wr P))
  case atStart => exact ⟨s.now, h1, HO.out, H.out.stay K1.out (fun _ _ _ h => h) HO.out.rows1.sub, Keep.refl _ _⟩
  case round =>
    obtain ⟨n, hn, HI⟩ := hrel
    have hnT : Hid (∀ k, w.heap.size ≤ k → ¬ (k = P ∨ ∃ id ∈ s.ids, k = at_ id)) := fun k hk e => by
      rcases e with e | ⟨id, hid, e⟩
      · have := H.out.ltP; omega
      · have := H.out.lte hid; omega
    have hTS : Hid (∀ k, (k = P ∨ ∃ id ∈ s.ids, k = at_ id) → S k) := fun k e => by
      rcases e with e | ⟨id, hid, e⟩
      · rw [e]; exact H.out.sp
      · rw [e]; exact H.out.own id hid
    go_wp2_with fail
    go_at_call 26
    refine (firstI to _ HI.out.1 HI.out.2.1 h2).mono ?_
    rintro e w2 ⟨k2, hf⟩
    have K2 := hide k2
    have H2 := hide (HI.out.2.1.stay k2 (fun _ _ _ h => h) HI.out.1.rows1.sub)
    have R2 := hide (k2.blk (HI.out.2.2.blk R1.out (hnT.out _ (Nat.le_refl _))) fun f => f)
    have hlt2 : w.heap.size < w2.heap.size := (Array.getElem?_eq_some_iff.1 R2.out).1
    have hPlt := H.out.ltP
    have hne2 : w.heap.size ≠ P := by omega
    have hP2 := H2.out.ltP
    have hne3 : P ≠ w.heap.size := by omega
    clear k2
    rcases hf with ⟨l, i, rfl, hl, hi, he, hne, hle⟩ | ⟨rfl, hno⟩
    · have HE := hide (And.intro he (And.intro hne hle))
      clear he hne hle
      by_cases hl0 : l = 0
      · subst hl0
        go_wp2_with fail
        go_at_call 27
        refine (slotI P 0 i _ (by decide) hi).mono ?_
        rintro e w4 ⟨rfl, k4⟩
        have k24 : Keep (fun _ => False) w2 w4 := (Keep.alloc _ _ _).more k4
        obtain ⟨id, rr, hrow⟩ := List.exists_cons_of_ne_nil HE.out.2.1
        have HR := hide hrow
        have hidm : id ∈ (s.go n).ids := (mem_row.1 (show id ∈ (s.go n).row 0 i by rw [hrow]; simp)).1
        have H4 := hide (H2.out.stay k24 (fun _ _ _ h => h) HI.out.1.rows1.sub)
        have R4 := hide (k24.blk R2.out fun f => f)
        have K24 := hide k24
        have cf := H4.out.cfst (l := 0) (i := i) (by decide) hi
        rw [hrow] at cf
        simp only [List.head?_cons, ptr] at cf
        clear k4 k24 hrow
        go_wp2_with fail
        go_at_call 28
        refine (rmvI id _ HI.out.1 H4.out hidm hlast).mono ?_
        rintro e w5 ⟨rfl, h5, ⟨bb, ee, hE5⟩, k5⟩
        have hR : ¬ Own P m at_ (s.go n) w.heap.size := fun e => by have := H.out.own_lt _ (show Own P m at_ s w.heap.size from e); omega
        have R5 := hide (k5.blk R4.out hR)
        have H5 := hide h5
        have K5 := hide k5
        have E5 := hide hE5
        have i0 := hE5.c0
        have i1 := hE5.c1
        obtain ⟨y1, hyy⟩ := HT.out id hidm
        have i2 : w5.cell? ⟨at_ id, 2, none⟩ = some (.int .i64 y1) := by rw [← hyy]; exact hE5.c2
        have HY := hide hyy
        clear hyy
        have p0 := h5.cnow
        have p1 := h5.fz 0
        have r0 := cell_blk R5.out 0 (v := .int .i64 0) rfl
        have r1 := cell_blk R5.out 1 (v := .int .i64 0) rfl
        have r2 := cell_blk R5.out 2 (v := .int .i64 0) rfl
        have q0 := frozen_blk R5.out 0
        have q1 := frozen_blk R5.out 1
        have q2 := frozen_blk R5.out 2
        have nid : at_ id ≠ P := H.out.eeP (by decide) hidm
        have nid2 : P ≠ at_ id := Ne.symm nid
        clear h5 k5 hE5
        go_wp2_with fail
        have hb := set3 ((keep_cell w5 P 0 (.int .i64 (s.due id : Nat))).blk R5.out hne2) (.int .i64 (id : Nat)) (.int .i64 (s.due id : Nat)) (.int .i64 y1)
        have kr := keep3 (w5.setCell ⟨P, 0, none⟩ (.int .i64 (s.due id : Nat))) w.heap.size (.int .i64 (id : Nat)) (.int .i64 (s.due id : Nat)) (.int .i64 y1)
        have hsub := (HI.out.1.del id).rows1.sub
        have hs := H5.out.setNow (by decide) hsub (s.due id)
        have hs' := hs.touch kr hne3 (by have := H.out.ltm; omega) (fun j hj => by have := H.out.lte (List.mem_filter.1 hj).1; omega) hsub
        have hrm : id ∈ (s.go n).row 0 i := by rw [HR.out]; simp
        obtain ⟨t1, t2⟩ := HI.out.1.took HE.out.1 HR.out
        have hfst := HI.out.1.first HE.out.1 HR.out
        refine bodyPost_ret (res_timerI rfl _ _ w.heap.size _ _ _ rfl hb rfl) rfl ⟨?_, .inr ⟨id, (s.del id).go (s.due id), ?_, ⟨hidm, ?_, hfst.2, rfl⟩, t1, m, at_, ?_⟩⟩
        · have hS : ∀ k, Own P m at_ (s.go n) k → S k := H.out.sub
          exact (((K1.out.mono (T := S) fun _ e => e.elim).more (((HI.out.2.2.mono hTS.out).more (K2.out.mono fun _ e => e.elim)).more (K24.out.mono fun _ e => e.elim))).more ((K5.out.mono hS).more ((keep_cell w5 P 0 _).mono fun k e => by rw [e]; exact H.out.sp))).trans kr fun k e => .inr (by omega)
        · rw [HY.out]; rfl
        · have := HI.out.1.low_due hrm
          have h3 : s.due id = bg n 0 i := this
          rw [h3]
          exact HE.out.2.2
        · have t3 : ((s.del id).go (s.due id)).row = ((s.go n).del id).row := t2
          rw [t3]
          exact hs'
      · go_wp2_with fail
        go_at_call 29
        have ka : Keep (fun _ => False) w2 (w2.alloc (.cells #[.int .i64 (l : Int), .int .i64 (i : Int)] 65)) := Keep.alloc _ _ _
        refine (openI l i _ HI.out.1 (H2.out.stay ka (fun _ _ _ h => h) HI.out.1.rows1.sub) hl hi hl0 HE.out.1 HE.out.2.1).mono ?_
        rintro e w5 ⟨rfl, h5, k5⟩
        have H5 := hide h5
        have K5 := hide (((HI.out.2.2.more (K2.out.mono fun _ e => e.elim)).more (ka.mono fun _ e => e.elim)).more k5)
        have HM := hide (HI.out.1.open_sum hl0 hi HE.out.1 HE.out.2.1)
        have O5 := hide (HI.out.1.opened_all hl0 hi HE.out.1 HE.out.2.1).2
        clear h5 k5 ka
        go_wp2_with fail
        refine ⟨⟨bg n l i, HE.out.2.2, O5.out, H5.out, K5.out⟩, ?_⟩
        rw [H5.out.nowOf, HI.out.2.1.nowOf]
        exact HM.out
    · have HN := hide hno
      clear hno
      have c0 := H2.out.cnow
      have f0 := H2.out.fz 0
      have r0 := cell_blk R2.out 0 (v := .int .i64 0) rfl
      have r1 := cell_blk R2.out 1 (v := .int .i64 0) rfl
      have r2 := cell_blk R2.out 2 (v := .int .i64 0) rfl
      have q0 := frozen_blk R2.out 0
      have q1 := frozen_blk R2.out 1
      have q2 := frozen_blk R2.out 2
      go_wp2_with fail
      have hb : ((((w2.setCell ⟨P, 0, none⟩ (.int .i64 (to : Nat))).setCell ⟨w.heap.size, 0, none⟩ (.int .i64 0)).setCell ⟨w.heap.size, 1, none⟩ (.int .i64 0)).setCell ⟨w.heap.size, 2, none⟩ (.int .i64 0)).heap[w.heap.size]? = some (.cells #[.int .i64 0, .int .i64 0, .int .i64 0] 32 (0, 0)) := set3 ((keep_cell w2 P 0 _).blk R2.out hne2) _ _ _
      have kr := (keep3 (w2.setCell ⟨P, 0, none⟩ (.int .i64 (to : Nat))) w.heap.size (.int .i64 0) (.int .i64 0) (.int .i64 0)).more ((Keep.alloc _ _ (.cells #[.int .i64 0, .int .i64 0] 65)))
      have hs := H2.out.setNow (by decide) HI.out.1.rows1.sub to
      have hs' := hs.touch kr hne3 (by have := H.out.ltm; omega) (fun id hid => by have := H.out.lte hid; omega) HI.out.1.rows1.sub
      refine bodyPost_ret (res_timerI rfl _ _ w.heap.size _ _ _ rfl ((Keep.alloc (fun _ => False) _ _).blk hb fun f => f) rfl) rfl ⟨?_, .inl ⟨s.go to, rfl, ⟨?_, rfl⟩, ?_, m, at_, ?_⟩⟩
      · exact (((K1.out.mono (T := S) fun _ e => e.elim).more ((HI.out.2.2.mono hTS.out).more (K2.out.mono fun _ e => e.elim))).more ((keep_cell w2 P 0 _).mono fun k e => by rw [e]; exact H.out.sp)).trans kr fun k e => .inr (by omega)
      · rcases HN.out with ⟨l, i, b1, b2, b3⟩ | b
        · exact HI.out.1.none_of_stop b2 b1 b3
        · intro id hid
          rw [show s.ids = [] from b] at hid
          cases hid
      · rcases HN.out with ⟨l, i, b1, b2, b3⟩ | b
        · exact HI.out.1.go h2 (HI.out.1.none_of_stop b2 b1 b3)
        · exact HI.out.1.go h2 (fun id hid => by rw [show (s.go n).ids = [] from b] at hid; cases hid)
      · have er : (s.go to).row = (s.go n).row := by
          rcases HN.out with ⟨l, i, b1, b2, b3⟩ | b
          · exact HI.out.1.go_row hn h2 b2 b1 b3
          · exact go_row_nil (s := s.go n) b to
        rw [er]
        exact hs'
theorem res_timerS {fn : Func} {p u : Tmp} (h : fn.results = #[.cell p 57, .tmp u]) (tmps : Array Value) (w : World) (g : Nat) (t : TypeId) (cs : Array Value) (fr : Nat × Nat)
    (hp : tmps.getD p undef = .pointer (some ⟨g, 0, none⟩)) (hg : w.heap[g]? = some (.cells cs t fr)) (hs : cs.size = 3) :
    (results fn tmps).run Try.prog w = .ok (.tuple #[.agg cs, tmps.getD u undef]) w := by
  rw [results_cell_tmp h, hp]
  have hi : (Try.prog.info? 57).map (·.size) = some cs.size := by rw [hs]; kernel_rfl
  simp [asAddr, run_loadVar_row w g t 57 cs fr _ hg Try.underlying57 rfl hi, Result.andThen]

set_option maxRecDepth 100000 in
set_option maxHeartbeats 4000000 in
theorem nextS {S : Nat → Prop} {P : Nat} {s : St} (to : Nat) (w : World) (h : WAt 95 97 S w P s) (h1 : s.now ≤ to) (h2 : to ≤ M) (hlast : s.last < 2 ^ 62) (hwt : ∀ id ∈ s.ids, ∃ y1, s.what id = .string y1) :
    Calls Try.prog 21 #[.pointer (some ⟨P, 0, none⟩), .int .i64 to] w (Nexts 95 97 (.string ⟨#[]⟩) S w P s to) := by
  obtain ⟨hok, m, at_, h⟩ := h
  have hdec : decide ((s.now : Int) ≤ (to : Int) ∧ (to : Int) ≤ 4611686018427387904) = true := by unfold M at h2; simp; omega
  have H := hide h
  have HO := hide hok
  have HT := hide hwt
  clear h hok hwt
  go_enter Try.func21, Try.ntmps21
  go_wp2_with (go_at_call 37; refine (aheadS to _ (H.out.stay (Keep.alloc (fun _ => False) _ _) (fun _ _ _ h => h) HO.out.rows1.sub)).mono ?_; rw [hdec]; rintro e w1 ⟨rfl, k1⟩
               have K1 := hide ((Keep.alloc (fun _ => False) _ _).more k1)
               have R1 := hide (k1.blk (heap_alloc_new w (.cells #[.int .i64 0, .int .i64 0, .string ⟨#[]⟩] 57)) fun f => f)
               clear k1)
  go_loopw [] (fun wr => ∃ n, n ≤ to ∧ Hid (Ok (s.go n) ∧ WIn 95 97 S wr P m at_ (s.go n).row (s.go n) ∧ Keep (fun k => k = P ∨ ∃ id ∈ s.ids, k = at_ id) w1 wr)) (fun wr => levs s (nowOf wr P))
  case atStart => exact ⟨s.now, h1, HO.out, H.out.stay K1.out (fun _ _ _ h => h) HO.out.rows1.sub, Keep.refl _ _⟩
  case round =>
    obtain ⟨n, hn, HI⟩ := hrel
    have hnT : Hid (∀ k, w.heap.size ≤ k → ¬ (k = P ∨ ∃ id ∈ s.ids, k = at_ id)) := fun k hk e => by
      rcases e with e | ⟨id, hid, e⟩
      · have := H.out.ltP; omega
      · have := H.out.lte hid; omega
    have hTS : Hid (∀ k, (k = P ∨ ∃ id ∈ s.ids, k = at_ id) → S k) := fun k e => by
      rcases e with e | ⟨id, hid, e⟩
      · rw [e]; exact H.out.sp
      · rw [e]; exact H.out.own id hid
    go_wp2_with fail
    go_at_call 41
    refine (firstS to _ HI.out.1 HI.out.2.1 h2).mono ?_
    rintro e w2 ⟨k2, hf⟩
    have K2 := hide k2
    have H2 := hide (HI.out.2.1.stay k2 (fun _ _ _ h => h) HI.out.1.rows1.sub)
    have R2 := hide (k2.blk (HI.out.2.2.blk R1.out (hnT.out _ (Nat.le_refl _))) fun f => f)
    have hlt2 : w.heap.size < w2.heap.size := (Array.getElem?_eq_some_iff.1 R2.out).1
    have hPlt := H.out.ltP
    have hne2 : w.heap.size ≠ P := by omega
    have hP2 := H2.out.ltP
    have hne3 : P ≠ w.heap.size := by omega
    clear k2
    rcases hf with ⟨l, i, rfl, hl, hi, he, hne, hle⟩ | ⟨rfl, hno⟩
    · have HE := hide (And.intro he (And.intro hne hle))
      clear he hne hle
      by_cases hl0 : l = 0
      · subst hl0
        go_wp2_with fail
        go_at_call 38
        refine (slotS P 0 i _ (by decide) hi).mono ?_
        rintro e w4 ⟨rfl, k4⟩
        have k24 : Keep (fun _ => False) w2 w4 := (Keep.alloc _ _ _).more k4
        obtain ⟨id, rr, hrow⟩ := List.exists_cons_of_ne_nil HE.out.2.1
        have HR := hide hrow
        have hidm : id ∈ (s.go n).ids := (mem_row.1 (show id ∈ (s.go n).row 0 i by rw [hrow]; simp)).1
        have H4 := hide (H2.out.stay k24 (fun _ _ _ h => h) HI.out.1.rows1.sub)
        have R4 := hide (k24.blk R2.out fun f => f)
        have K24 := hide k24
        have cf := H4.out.cfst (l := 0) (i := i) (by decide) hi
        rw [hrow] at cf
        simp only [List.head?_cons, ptr] at cf
        clear k4 k24 hrow
        go_wp2_with fail
        go_at_call 42
        refine (rmvS id _ HI.out.1 H4.out hidm hlast).mono ?_
        rintro e w5 ⟨rfl, h5, ⟨bb, ee, hE5⟩, k5⟩
        have hR : ¬ Own P m at_ (s.go n) w.heap.size := fun e => by have := H.out.own_lt _ (show Own P m at_ s w.heap.size from e); omega
        have R5 := hide (k5.blk R4.out hR)
        have H5 := hide h5
        have K5 := hide k5
        have E5 := hide hE5
        have i0 := hE5.c0
        have i1 := hE5.c1
        obtain ⟨y1, hyy⟩ := HT.out id hidm
        have i2 : w5.cell? ⟨at_ id, 2, none⟩ = some (.string y1) := by rw [← hyy]; exact hE5.c2
        have HY := hide hyy
        clear hyy
        have p0 := h5.cnow
        have p1 := h5.fz 0
        have r0 := cell_blk R5.out 0 (v := .int .i64 0) rfl
        have r1 := cell_blk R5.out 1 (v := .int .i64 0) rfl
        have r2 := cell_blk R5.out 2 (v := .string ⟨#[]⟩) rfl
        have q0 := frozen_blk R5.out 0
        have q1 := frozen_blk R5.out 1
        have q2 := frozen_blk R5.out 2
        have nid : at_ id ≠ P := H.out.eeP (by decide) hidm
        have nid2 : P ≠ at_ id := Ne.symm nid
        clear h5 k5 hE5
        go_wp2_with fail
        have hb := set3 ((keep_cell w5 P 0 (.int .i64 (s.due id : Nat))).blk R5.out hne2) (.int .i64 (id : Nat)) (.int .i64 (s.due id : Nat)) (.string y1)
        have kr := keep3 (w5.setCell ⟨P, 0, none⟩ (.int .i64 (s.due id : Nat))) w.heap.size (.int .i64 (id : Nat)) (.int .i64 (s.due id : Nat)) (.string y1)
        have hsub := (HI.out.1.del id).rows1.sub
        have hs := H5.out.setNow (by decide) hsub (s.due id)
        have hs' := hs.touch kr hne3 (by have := H.out.ltm; omega) (fun j hj => by have := H.out.lte (List.mem_filter.1 hj).1; omega) hsub
        have hrm : id ∈ (s.go n).row 0 i := by rw [HR.out]; simp
        obtain ⟨t1, t2⟩ := HI.out.1.took HE.out.1 HR.out
        have hfst := HI.out.1.first HE.out.1 HR.out
        refine bodyPost_ret (res_timerS rfl _ _ w.heap.size _ _ _ rfl hb rfl) rfl ⟨?_, .inr ⟨id, (s.del id).go (s.due id), ?_, ⟨hidm, ?_, hfst.2, rfl⟩, t1, m, at_, ?_⟩⟩
        · have hS : ∀ k, Own P m at_ (s.go n) k → S k := H.out.sub
          exact (((K1.out.mono (T := S) fun _ e => e.elim).more (((HI.out.2.2.mono hTS.out).more (K2.out.mono fun _ e => e.elim)).more (K24.out.mono fun _ e => e.elim))).more ((K5.out.mono hS).more ((keep_cell w5 P 0 _).mono fun k e => by rw [e]; exact H.out.sp))).trans kr fun k e => .inr (by omega)
        · rw [HY.out]; rfl
        · have := HI.out.1.low_due hrm
          have h3 : s.due id = bg n 0 i := this
          rw [h3]
          exact HE.out.2.2
        · have t3 : ((s.del id).go (s.due id)).row = ((s.go n).del id).row := t2
          rw [t3]
          exact hs'
      · go_wp2_with fail
        go_at_call 43
        have ka : Keep (fun _ => False) w2 (w2.alloc (.cells #[.int .i64 (l : Int), .int .i64 (i : Int)] 65)) := Keep.alloc _ _ _
        refine (openS l i _ HI.out.1 (H2.out.stay ka (fun _ _ _ h => h) HI.out.1.rows1.sub) hl hi hl0 HE.out.1 HE.out.2.1).mono ?_
        rintro e w5 ⟨rfl, h5, k5⟩
        have H5 := hide h5
        have K5 := hide (((HI.out.2.2.more (K2.out.mono fun _ e => e.elim)).more (ka.mono fun _ e => e.elim)).more k5)
        have HM := hide (HI.out.1.open_sum hl0 hi HE.out.1 HE.out.2.1)
        have O5 := hide (HI.out.1.opened_all hl0 hi HE.out.1 HE.out.2.1).2
        clear h5 k5 ka
        go_wp2_with fail
        refine ⟨⟨bg n l i, HE.out.2.2, O5.out, H5.out, K5.out⟩, ?_⟩
        rw [H5.out.nowOf, HI.out.2.1.nowOf]
        exact HM.out
    · have HN := hide hno
      clear hno
      have c0 := H2.out.cnow
      have f0 := H2.out.fz 0
      have r0 := cell_blk R2.out 0 (v := .int .i64 0) rfl
      have r1 := cell_blk R2.out 1 (v := .int .i64 0) rfl
      have r2 := cell_blk R2.out 2 (v := .string ⟨#[]⟩) rfl
      have q0 := frozen_blk R2.out 0
      have q1 := frozen_blk R2.out 1
      have q2 := frozen_blk R2.out 2
      go_wp2_with fail
      have hb : ((((w2.setCell ⟨P, 0, none⟩ (.int .i64 (to : Nat))).setCell ⟨w.heap.size, 0, none⟩ (.int .i64 0)).setCell ⟨w.heap.size, 1, none⟩ (.int .i64 0)).setCell ⟨w.heap.size, 2, none⟩ (.string ⟨#[]⟩)).heap[w.heap.size]? = some (.cells #[.int .i64 0, .int .i64 0, .string ⟨#[]⟩] 57 (0, 0)) := set3 ((keep_cell w2 P 0 _).blk R2.out hne2) _ _ _
      have kr := (keep3 (w2.setCell ⟨P, 0, none⟩ (.int .i64 (to : Nat))) w.heap.size (.int .i64 0) (.int .i64 0) (.string ⟨#[]⟩)).more ((Keep.alloc _ _ (.cells #[.int .i64 0, .int .i64 0] 65)))
      have hs := H2.out.setNow (by decide) HI.out.1.rows1.sub to
      have hs' := hs.touch kr hne3 (by have := H.out.ltm; omega) (fun id hid => by have := H.out.lte hid; omega) HI.out.1.rows1.sub
      refine bodyPost_ret (res_timerS rfl _ _ w.heap.size _ _ _ rfl ((Keep.alloc (fun _ => False) _ _).blk hb fun f => f) rfl) rfl ⟨?_, .inl ⟨s.go to, rfl, ⟨?_, rfl⟩, ?_, m, at_, ?_⟩⟩
      · exact (((K1.out.mono (T := S) fun _ e => e.elim).more ((HI.out.2.2.mono hTS.out).more (K2.out.mono fun _ e => e.elim))).more ((keep_cell w2 P 0 _).mono fun k e => by rw [e]; exact H.out.sp)).trans kr fun k e => .inr (by omega)
      · rcases HN.out with ⟨l, i, b1, b2, b3⟩ | b
        · exact HI.out.1.none_of_stop b2 b1 b3
        · intro id hid
          rw [show s.ids = [] from b] at hid
          cases hid
      · rcases HN.out with ⟨l, i, b1, b2, b3⟩ | b
        · exact HI.out.1.go h2 (HI.out.1.none_of_stop b2 b1 b3)
        · exact HI.out.1.go h2 (fun id hid => by rw [show (s.go n).ids = [] from b] at hid; cases hid)
      · have er : (s.go to).row = (s.go n).row := by
          rcases HN.out with ⟨l, i, b1, b2, b3⟩ | b
          · exact HI.out.1.go_row hn h2 b2 b1 b3
          · exact go_row_nil (s := s.go n) b to
        rw [er]
        exact hs'

end Wh
end Go.Proofs.Ytbjapgajbljhfaa
