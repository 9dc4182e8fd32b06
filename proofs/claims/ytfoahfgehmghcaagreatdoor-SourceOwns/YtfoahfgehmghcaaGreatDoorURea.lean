import Derived.Test.YtfoahfgehmghcaaGreatDoorULa2
import Derived.Test.YtfoahfgehmghcaaGreatDoorUChk
import Derived.Laws.Rows
/- Package source: what holds of a draft that was read. -/
namespace Go.Proofs.YtfoahfgehmghcaaGreatDoor
namespace U

/-- what holds of a draft -/
def DOk (d : Dr) : Prop := d.nds.length = d.places.length ∧ d.nm.length ≤ 40 ∧ (∀ x ∈ d.nds, NOk x) ∧ ∀ m ∈ d.ms, MOk d.nds.length m
theorem dok_new : DOk Dr.new := ⟨rfl, by simp [Dr.new], by simp [Dr.new], by simp [Dr.new]⟩
theorem nmL_len {l : List UInt8} (h : nmL l = true) : 1 ≤ l.length ∧ l.length ≤ 40 := by
  unfold nmL at h
  simp only [Bool.and_eq_true, decide_eq_true_eq] at h
  exact h.1
theorem tkNum_wrong {kw : List UInt8} {s : Ln} (h : (tkNum kw s).2.2 = false) : s.2 = false := by
  unfold tkNum at h
  simp only [Bool.or_eq_false_iff] at h
  exact h.1.1
theorem tkOpt_wrong {kw : List UInt8} {z : Int} {s : Ln} (h : (tkOpt kw z s).2.2 = false) : s.2 = false := by
  unfold tkOpt at h
  split at h
  · exact tkNum_wrong h
  · exact h
theorem tkName_ok {s : Ln} (h : (tkName s).2.2 = false) : nmL (tkName s).1 = true := by
  unfold tkName at h ⊢
  simp only [Bool.or_eq_false_iff] at h
  simpa using h.2
theorem fits_wrong {s : Ln} (h : fits s = true) : s.2 = false := by
  unfold fits at h
  simp only [Bool.and_eq_true, Bool.not_eq_true'] at h
  exact h.1
theorem rdNode_ok {ws : List (List UInt8)} (h : fits (rdNode ws).2 = true) : nmL (rdNode ws).1.nm = true ∧ (rdNode ws).1.nl = [] ∧ (rdNode ws).1.al = [] := by
  refine ⟨?_, rfl, rfl⟩
  have h0 := fits_wrong h
  unfold rdNode at h0 ⊢
  simp only at h0 ⊢
  have h1 := tkOpt_wrong h0
  have h2 : (tkOpt kwBack 1 (tkOpt kwBeat 0 (tkNum kwClose (tkNum kwBudget (tkNum kwLane (tkName (ws, false)).2).2).2).2).2).2.2 = false := by
    split at h1
    · exact tkNum_wrong h1
    · exact h1
  exact tkName_ok (tkNum_wrong (tkNum_wrong (tkNum_wrong (tkOpt_wrong (tkOpt_wrong h2)))))
theorem mok_mono {n k : Nat} {m : Mn} (h : MOk n m) (hk : n ≤ k) : MOk k m := ⟨h.1, h.2.1, h.2.2.1, by have := h.2.2.2.1; omega, h.2.2.2.2⟩
theorem doLine_ok {d d' : Dr} {pl : Nat} {f : List UInt8} {ws : List (List UInt8)} (hd : DOk d) (hl : ws.length ≤ 1000000) (h : doLine d pl f ws = some d') : DOk d' := by
  obtain ⟨h1, h2, h3, h4⟩ := hd
  have men : ∀ k, (k = 0 ∨ k = 1) → addMen k d pl ws = some d' → DOk d' := by
    intro k hk h
    unfold addMen at h
    by_cases c : d.nds ≠ [] ∧ (if k = 0 then d.hn else d.ha) = false ∧ ws ≠ [] ∧ ws.all nmL = true
    · rw [if_pos c] at h
      injection h with h
      subst h
      refine ⟨h1, h2, h3, fun m hm => ?_⟩
      rcases List.mem_append.1 hm with hm | hm
      · exact h4 m hm
      · obtain rfl := List.mem_singleton.1 hm
        have hn : d.nds.length ≠ 0 := fun e => c.1 (List.eq_nil_of_length_eq_zero e)
        refine ⟨c.2.2.1, hl, fun x hx => ?_, by simp only; omega, hk⟩
        have := nmL_len (List.all_eq_true.1 c.2.2.2 x hx)
        omega
    · rw [if_neg c] at h
      cases h
  unfold doLine at h
  split at h
  · unfold begin_ at h
    simp only at h
    split at h
    · rename_i c
      injection h with h
      subst h
      refine ⟨h1, ?_, h3, h4⟩
      exact (nmL_len (tkName_ok (tkNum_wrong (fits_wrong c.1)))).2
    · cases h
  · split at h
    · unfold addNode at h
      split at h
      · rename_i c
        injection h with h
        subst h
        obtain ⟨a1, a2, a3⟩ := rdNode_ok c.1
        refine ⟨by simp [h1], h2, fun x hx => ?_, fun m hm => mok_mono (h4 m hm) (by simp)⟩
        rcases List.mem_append.1 hx with hx | hx
        · exact h3 x hx
        · obtain rfl := List.mem_singleton.1 hx
          exact ⟨by have := nmL_len a1; omega, a2, a3⟩
      · cases h
    · split at h
      · exact men 0 (.inl rfl) h
      · split at h
        · exact men 1 (.inr rfl) h
        · cases h
theorem readL_ok : ∀ (ls : List (List UInt8)) (p : Nat) (d d' : Dr), DOk d → (∀ l ∈ ls, l.length ≤ 65536) → readL p ls d = .inr d' → DOk d' ∧ d'.nds.length ≤ d.nds.length + ls.length ∧ d'.ms.length ≤ d.ms.length + ls.length
  | [], p, d, d', hd, _, h => by
    rw [readL] at h
    injection h with h
    subst h
    exact ⟨hd, by simp, by simp⟩
  | l :: ls, p, d, d', hd, hl, h => by
    rw [readL] at h
    have hlen : (wordsOf l).length ≤ 65537 := by have := wordsOf_len l; have := hl l (by simp); omega
    cases hw : wordsOf l with
    | nil =>
      rw [hw, step] at h
      have := readL_ok ls (p + 1) d d' hd (fun x hx => hl x (by simp [hx])) h
      refine ⟨this.1, ?_, ?_⟩ <;> simp only [List.length_cons] <;> omega
    | cons f r =>
      rw [hw, step] at h
      rw [hw] at hlen
      simp only [List.length_cons] at hlen
      cases hs : doLine d p f r with
      | none => rw [hs] at h; cases h
      | some d2 =>
        rw [hs] at h
        have h2 := doLine_ok hd (by omega) hs
        have h3 := doLine_len hs
        have := readL_ok ls (p + 1) d2 d' h2 (fun x hx => hl x (by simp [hx])) h
        refine ⟨this.1, ?_, ?_⟩ <;> simp only [List.length_cons] <;> omega
theorem layE_len : ∀ (ms : List Mn) (nds nds' : List Pn), layE ms nds = .inr nds' → nds'.map (·.nm) = nds.map (·.nm)
  | [], nds, nds', h => by rw [layE] at h; injection h with h; rw [h]
  | m :: ms, nds, nds', h => by
    rw [layE] at h
    cases he : edg nds m.names with
    | none => rw [he] at h; cases h
    | some l =>
      rw [he] at h
      have := layE_len ms _ nds' h
      rw [this]
      unfold setEdge
      have hh : ∀ (xs : List Pn) (k : Nat), (xs.modify k fun x => if m.kind = 0 then { x with nl := l } else { x with al := l }).map (·.nm) = xs.map (·.nm) := by
        intro xs
        induction xs with
        | nil => intro k; simp
        | cons x xs ih =>
          intro k
          cases k with
          | zero => simp only [List.modify_zero_cons, List.map_cons]; split <;> rfl
          | succ k => simp only [List.modify_succ_cons, List.map_cons, ih k]
      exact hh nds m.node
end U
end Go.Proofs.YtfoahfgehmghcaaGreatDoor

/- Package source: read. -/
namespace Go.Proofs.YtfoahfgehmghcaaGreatDoor
namespace U
open Go.RowKit

theorem info_plan : (Tryz.prog.info? 24).map (·.size) = some 3 := by kernel_rfl
theorem res_read {fn : Func} {p u : Tmp} (h : fn.results = #[.cell p 24, .tmp u]) (tmps : Array Value) (w : World) (g : Nat) (x y z : Value) (hp : tmps.getD p undef = .pointer (some ⟨g, 0, none⟩)) (hg : w.heap[g]? = some (.cells #[x, y, z] 24 (0, 0))) :
    (results fn tmps).run Tryz.prog w = .ok (.tuple #[.agg #[x, y, z], tmps.getD u undef]) w := by
  have hp' : tmps[p]?.getD undef = .pointer (some ⟨g, 0, none⟩) := by simpa using hp
  simp [results, h, hp', asAddr, run_loadVar_row w g 24 24 #[x, y, z] (0, 0) _ hg Tryz.underlying24 rfl (by rw [info_plan]; rfl)]
/-- the plan that says nothing -/
def zPlan : Value := .agg #[.string ⟨#[]⟩, .int .i64 0, .slice none 0 0]
/-- what read leaves -/
def ReadEnd (r : (Nat × Nat) ⊕ Pl) (w : World) (e : Ending) (w' : World) : Prop :=
  Below w.heap.size w w' ∧ ((∃ p c v, r = .inl (p, c) ∧ e = .returned (.tuple #[zPlan, v]) ∧ ErrAt w' v p c) ∨ ∃ q va vc, r = .inr q ∧ e = .returned (.tuple #[.agg #[.string (ba q.nm), .int .i64 q.dl, .slice va q.nds.length vc], .nilIface]) ∧ NdsO w.heap.size w' (.slice va q.nds.length vc) q.nds ∧ q.nds.length ≤ 1000000)
/-- three cells stored -/
def put3 (w : World) (g : Nat) (x y z : Value) : World := ((w.setCell ⟨g, 0, none⟩ x).setCell ⟨g, 1, none⟩ y).setCell ⟨g, 2, none⟩ z
theorem put3_blk {w : World} {g : Nat} {a b c : Value} {t : TypeId} (h : w.heap[g]? = some (.cells #[a, b, c] t (0, 0))) (x y z : Value) : (put3 w g x y z).heap[g]? = some (.cells #[x, y, z] t (0, 0)) :=
  (set_blk (set_blk (set_blk h 0 x) 1 y) 2 z).trans rfl
theorem put3_keep (w : World) (g : Nat) (x y z : Value) : Keep (fun k => k = g) w (put3 w g x y z) := ((keep_cell w g 0 x).more (keep_cell _ g 1 y)).more (keep_cell _ g 2 z)
theorem read_err {w w2 : World} {E p c : Nat} {a b c' : Value} (hb : Below w.heap.size w w2) (pb : w2.heap[w.heap.size]? = some (.cells #[a, b, c'] 24 (0, 0))) (hE : w2.heap[E]? = some (.cells #[.int .i64 (p : Int), .int .i64 (c : Int)] 57 (0, 0))) (x y z : Value) :
    ReadEnd (.inl (p, c)) w (.returned (.tuple #[zPlan, .iface 53 (.pointer (some ⟨E, 0, none⟩))])) (put3 w2 w.heap.size x y z) := by
  have kk := put3_keep w2 w.heap.size x y z
  have hne : E ≠ w.heap.size := fun e => by
    rw [e, pb] at hE
    injection hE with hE
    injection hE with _ hE
    exact absurd hE (by decide)
  exact ⟨hb.trans (kk.below hb.size fun i e => by omega), .inl ⟨p, c, _, rfl, rfl, E, rfl, kk.blk hE hne⟩⟩
set_option maxRecDepth 100000 in
set_option maxHeartbeats 4000000 in
theorem read_any (s : ByteArray) (w : World) (hss : s.size ≤ 9223372036854775807) :
    Calls Tryz.prog 21 #[.string s] w (ReadEnd (parse s.data.toList) w) := by
  have hlen : s.data.toList.length = s.size := by simp
  by_cases hs : s.size ≤ 65536
  · have hsp : ∀ l ∈ splitOn 10 s.data.toList, l.length ≤ 65536 := fun l hl => by have := splitOn_le 10 _ l hl; omega
    have hsl := splitOn_len 10 s.data.toList
    have HPA : Hid (parse s.data.toList = match readL 1 (splitOn 10 s.data.toList) Dr.new with
      | .inl p => .inl (p, 111)
      | .inr d => if d.place = 0 then .inl (0, 111) else
        match layE d.ms d.nds with
        | .inl p => .inl (p, 112)
        | .inr nds => judge d nds (Gr.chk (ba d.nm) d.dl (nds.map no))) := by
      show _ = _
      unfold parse
      rw [if_neg (by omega)]
      rfl
    have HOK := hide (fun d h => readL_ok (splitOn 10 s.data.toList) 1 Dr.new d dok_new hsp h)
    have RL := hide (fun B D w h1 h2 => readLines_any B D s hs w h1 h2)
    have i1 : ¬ (65536 : Int) < s.size := by omega
    obtain ⟨P, hP⟩ : ∃ P, P = parse s.data.toList := ⟨_, rfl⟩
    rw [← hP] at HPA ⊢
    generalize readL 1 (splitOn 10 s.data.toList) Dr.new = R1 at *
    have HSL := hide hsl
    clear hsp hsl hP
    have PBx := heap_alloc_new w (.cells #[.string ⟨#[]⟩, .int .i64 0, .slice none 0 0] 24)
    have hz0 : (w.alloc (.cells #[.string ⟨#[]⟩, .int .i64 0, .slice none 0 0] 24)).heap.size = w.heap.size + 1 := by simp
    have DRx : DrAt (w.alloc (.cells #[.string ⟨#[]⟩, .int .i64 0, .slice none 0 0] 24)).heap.size ((w.alloc (.cells #[.string ⟨#[]⟩, .int .i64 0, .slice none 0 0] 24)).alloc (.cells #[.string ⟨#[]⟩, .int .i64 0, .slice none 0 0, .int .i64 0, .slice none 0 0, .bool false, .bool false, .slice none 0 0] 87)) (w.alloc (.cells #[.string ⟨#[]⟩, .int .i64 0, .slice none 0 0] 24)).heap.size Dr.new :=
      ⟨.slice none 0 0, .slice none 0 0, .slice none 0 0, Nat.le_refl _, heap_alloc_new _ _, World.ownsRow_nil _ _ _ _, World.ownsRow_nil _ _ _ _, [], rfl, World.ownsRow_nil _ _ _ _, fun x hx => by cases hx⟩
    rw [hz0] at DRx
    have DR0 := hide DRx
    have BW0 : Hid (Below w.heap.size w ((w.alloc (.cells #[.string ⟨#[]⟩, .int .i64 0, .slice none 0 0] 24)).alloc (.cells #[.string ⟨#[]⟩, .int .i64 0, .slice none 0 0, .int .i64 0, .slice none 0 0, .bool false, .bool false, .slice none 0 0] 87))) := ((Below.refl _ w).alloc (Nat.le_refl _) _).alloc (by simp) _
    have PB0 := hide ((Below.heap_alloc (w.alloc (.cells #[.string ⟨#[]⟩, .int .i64 0, .slice none 0 0] 24)) (.cells #[.string ⟨#[]⟩, .int .i64 0, .slice none 0 0, .int .i64 0, .slice none 0 0, .bool false, .bool false, .slice none 0 0] 87) w.heap.size (by simp)).trans PBx)
    have HZ1 : Hid (((w.alloc (.cells #[.string ⟨#[]⟩, .int .i64 0, .slice none 0 0] 24)).alloc (.cells #[.string ⟨#[]⟩, .int .i64 0, .slice none 0 0, .int .i64 0, .slice none 0 0, .bool false, .bool false, .slice none 0 0] 87)).heap.size = w.heap.size + 2) := by show _ = _; simp
    clear hz0 DRx PBx
    go_enter Tryz.func21, Tryz.ntmps21
    go_wp2_with fail
    generalize hw1 : (w.alloc (.cells #[.string ⟨#[]⟩, .int .i64 0, .slice none 0 0] 24)).alloc (.cells #[.string ⟨#[]⟩, .int .i64 0, .slice none 0 0, .int .i64 0, .slice none 0 0, .bool false, .bool false, .slice none 0 0] 87) = w1 at *
    clear hw1
    go_at_call 38
    refine (RL.out (w.heap.size + 1) (w.heap.size + 1) w1 DR0.out (by have := HZ1.out; omega)).mono ?_
    rintro e w2 ⟨fr2, hres⟩
    have b2 := fr2.below (by have := HZ1.out; omega)
    have BW2 := hide (BW0.out.trans (b2.mono (Nat.le_succ _)))
    have pb2 := (b2.block w.heap.size (by omega)).trans PB0.out
    have z2 : w.heap.size + 2 ≤ w2.heap.size := by have := b2.size; have := HZ1.out; omega
    have HRES := hide hres
    have PB2 := hide pb2
    have p0 := cell_blk pb2 0 (v := .string ⟨#[]⟩) rfl
    have p1 := cell_blk pb2 1 (v := .int .i64 0) rfl
    have p2 := cell_blk pb2 2 (v := .slice none 0 0) rfl
    have p0f := frozen_blk pb2 0
    have p1f := frozen_blk pb2 1
    have p2f := frozen_blk pb2 2
    clear fr2 b2 hres RL DR0 BW0 PB0 HZ1 pb2
    rcases HRES.out with ⟨p, v, rfl, rfl, E, rfl, hE⟩ | ⟨d, rfl, ⟨hp, v, rfl, E, rfl, hE⟩ | ⟨hp, rfl, hD⟩⟩
    · have hpa := HPA.out
      simp only at hpa
      subst hpa
      have HEE := hide hE
      clear hE HPA HRES
      go_wp2_with fail
      refine bodyPost_ret (res_read rfl _ _ w.heap.size _ _ _ rfl (put3_blk PB2.out _ _ _)) rfl ?_
      exact read_err BW2.out PB2.out HEE.out _ _ _
    · have hpa := HPA.out
      simp only [hp, if_true] at hpa
      subst hpa
      have HEE := hide hE
      clear hE HPA HRES hp
      go_wp2_with fail
      refine bodyPost_ret (res_read rfl _ _ w.heap.size _ _ _ rfl (put3_blk PB2.out _ _ _)) rfl ?_
      exact read_err (p := 0) (c := 111) BW2.out PB2.out HEE.out _ _ _
    · have hpa := HPA.out
      simp only [if_neg hp] at hpa
      obtain ⟨⟨k1, k2, k3, k4⟩, k5, k6⟩ := HOK.out d rfl
      have hb1 : d.nds.length ≤ 1000000 := by have := HSL.out; simp [Dr.new] at k5; omega
      have hb2 : d.ms.length ≤ 1000000 := by have := HSL.out; simp [Dr.new] at k6; omega
      have LE := hide (layEdges_any (w.heap.size + 1) (w.heap.size + 1) d w2 hD hb1 hb2 k4 k3)
      have HNm := hide (fun nds h => layE_len d.ms d.nds nds h)
      have HPA2 := hide hpa
      have HK1 := hide k1
      have HK2 := hide k2
      have HK3 := hide k3
      generalize layE d.ms d.nds = R2 at *
      clear hpa HPA HRES hp HOK k1 k2 k3 k4 k5 k6 hD
      go_wp2_with fail
      go_at_call 39
      refine LE.out.mono ?_
      rintro e w3 ⟨b3, hres⟩
      have BW3 := hide (BW2.out.trans (b3.mono (Nat.le_succ _)))
      have pb3 := (b3.block w.heap.size (by omega)).trans PB2.out
      have z3 : w.heap.size + 2 ≤ w3.heap.size := by have := b3.size; omega
      have HRES := hide hres
      have PB3 := hide pb3
      clear p0 p1 p2 p0f p1f p2f BW2 PB2 LE b3 hres
      have p0 := cell_blk pb3 0 (v := .string ⟨#[]⟩) rfl
      have p1 := cell_blk pb3 1 (v := .int .i64 0) rfl
      have p2 := cell_blk pb3 2 (v := .slice none 0 0) rfl
      have p0f := frozen_blk pb3 0
      have p1f := frozen_blk pb3 1
      have p2f := frozen_blk pb3 2
      clear pb3
      rcases HRES.out with ⟨p, v, rfl, rfl, E, rfl, hE⟩ | ⟨nds, vn, vp, vm, rfl, hnl, rfl, hbD, hNd, hPl⟩
      · have hpa := HPA2.out
        simp only at hpa
        subst hpa
        have HEE := hide hE
        clear hE HPA2 HRES
        go_wp2_with fail
        refine bodyPost_ret (res_read rfl _ _ w.heap.size _ _ _ rfl (put3_blk PB3.out _ _ _)) rfl ?_
        exact read_err BW3.out PB3.out HEE.out _ _ _
      · have hpa := HPA2.out
        simp only at hpa
        obtain ⟨va, vc, rfl⟩ := hNd.at_.len
        have hnm := HNm.out nds rfl
        have CK := hide (check_any (w.heap.size + 1) (w.heap.size + 1) d nds va vc vp vm w3 hbD hNd.at_ hPl (by omega) (by have := HK1.out; omega) (by have := HK1.out; omega) (by have := HK2.out; omega) (fun x hx => by
          have : x.nm ∈ nds.map (·.nm) := List.mem_map_of_mem hx
          rw [hnm] at this
          obtain ⟨y, hy, e⟩ := List.mem_map.1 this
          rw [← e]
          exact (HK3.out y hy).1))
        have HPA3 := hide hpa
        have HND := hide hNd
        have HBD := hide hbD
        have HNL := hide hnl
        generalize Gr.chk (ba d.nm) d.dl (nds.map no) = C at *
        clear hpa HPA2 HRES hNd hbD hPl hnl hnm HNm
        go_wp2_with fail
        go_at_call 40
        refine CK.out.mono ?_
        rintro e w4 ⟨b4, hres⟩
        have BW4 := hide (BW3.out.trans (b4.mono BW3.out.size))
        have pb4 := (b4.block w.heap.size (by omega)).trans PB3.out
        have bD4 := (b4.block (w.heap.size + 1) (by omega)).trans HBD.out
        have ND4 := hide (HND.out.below b4)
        have HRES := hide hres
        have PB4 := hide pb4
        clear p0 p1 p2 p0f p1f p2f PB3 BW3 b4 hres CK HBD HND
        have p0 := cell_blk pb4 0 (v := .string ⟨#[]⟩) rfl
        have p1 := cell_blk pb4 1 (v := .int .i64 0) rfl
        have p2 := cell_blk pb4 2 (v := .slice none 0 0) rfl
        have p0f := frozen_blk pb4 0
        have p1f := frozen_blk pb4 1
        have p2f := frozen_blk pb4 2
        have d0 := cell_blk bD4 0 (v := .string (ba d.nm)) rfl
        have d1 := cell_blk bD4 1 (v := .int .i64 d.dl) rfl
        have d2 := cell_blk bD4 2 (v := .slice va nds.length vc) rfl
        clear pb4 bD4
        rcases HRES.out with ⟨hc, rfl⟩ | ⟨hc, v, rfl, E, rfl, hE⟩
        · have hpa := HPA3.out
          unfold judge at hpa
          rw [if_pos hc] at hpa
          subst hpa
          clear HPA3 HRES hc
          go_wp2_with fail
          refine bodyPost_ret (res_read rfl _ _ w.heap.size _ _ _ rfl (put3_blk PB4.out _ _ _)) rfl ?_
          have kk := put3_keep w4 w.heap.size (.string (ba d.nm)) (.int .i64 d.dl) (.slice va nds.length vc)
          refine ⟨BW4.out.trans (kk.below BW4.out.size fun i e => by omega), .inr ⟨⟨d.nm, d.dl, nds⟩, va, vc, rfl, rfl, ?_, by have := HNL.out; simp only; omega⟩⟩
          obtain ⟨M4, xs, x1, x2, x3, x4⟩ := ND4.out
          have hpn : ∀ {t : TypeId} {k : Nat} {cs : Array Value}, t ≠ 24 → w4.heap[k]? = some (.cells cs t (0, 0)) → k ≠ w.heap.size := fun ht hc e => by
            subst e
            rw [PB4.out] at hc
            injection hc with hc
            injection hc with _ hc
            exact ht hc.symm
          have hint : ∀ (k : Nat) (cur : Array Value), k = w.heap.size → w4.heap[k]? ≠ some (.cells cur 3 (0, 0)) := fun k cur e hc => hpn (by decide) hc e
          refine ⟨M4, xs, x1, ownsRow_base (own_keep x2 kk fun g hg e => ?_) (Nat.le_succ _), fun x hx => ⟨((x3 x hx).1.keep kk hint).base (Nat.le_succ _), ((x3 x hx).2.keep kk hint).base (Nat.le_succ _)⟩, x4⟩
          obtain ⟨_, _, cur, hcur⟩ := own_blk x2 hg
          exact hpn (by decide) hcur e
        · have hpa := HPA3.out
          unfold judge at hpa
          rw [if_neg hc] at hpa
          have HPA4 : Hid (P = .inl ((if C.1 = 0 then d.place else d.places.getD (C.1 - 1) 0), C.2)) := by
            show _ = _
            rw [hpa]
            split <;> rfl
          have hpa4 := HPA4.out
          subst hpa4
          have HEE := hide hE
          clear hpa HPA3 HRES hc hE HPA4
          generalize (if C.1 = 0 then d.place else d.places.getD (C.1 - 1) 0) = ln at *
          go_wp2_with fail
          refine bodyPost_ret (res_read rfl _ _ w.heap.size _ _ _ rfl (put3_blk PB4.out _ _ _)) rfl ?_
          exact read_err BW4.out PB4.out HEE.out _ _ _
  · have i1 : (65536 : Int) < s.size := by omega
    have HPA : Hid (parse s.data.toList = .inl (0, 110)) := by
      show _ = _
      unfold parse
      rw [if_pos (by omega)]
    rw [HPA.out]
    have PBx := hide (heap_alloc_new w (.cells #[.string ⟨#[]⟩, .int .i64 0, .slice none 0 0] 24))
    go_enter Tryz.func21, Tryz.ntmps21
    go_wp2_with fail
    have hz : (w.alloc (.cells #[.string ⟨#[]⟩, .int .i64 0, .slice none 0 0] 24)).heap.size = w.heap.size + 1 := by simp
    have hE := heap_alloc_new (w.alloc (.cells #[.string ⟨#[]⟩, .int .i64 0, .slice none 0 0] 24)) (.cells #[.int .i64 0, .int .i64 110] 57)
    rw [hz] at hE
    refine bodyPost_ret (res_read rfl _ _ w.heap.size _ _ _ rfl ((Below.heap_alloc _ _ w.heap.size (by simp)).trans PBx.out)) rfl ?_
    exact ⟨((Below.refl _ w).alloc (Nat.le_refl _) _).alloc (by simp) _, .inl ⟨0, 110, _, rfl, rfl, w.heap.size + 1, rfl, hE⟩⟩
end U
end Go.Proofs.YtfoahfgehmghcaaGreatDoor
