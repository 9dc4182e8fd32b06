/- QueueFirst: whose blocks are whose, by their types; what holds between two steps. -/
import Derived.Test.YtcopldjnkngjcaaQFsM
namespace Go.Proofs.Ytcopldjnkngjcaa
namespace Qu
open Go.RowKit

/-- a block that may be a queue's: no list of numbers or of tests -/
def Quy (w : World) (k : Nat) : Prop := ∀ cs t fz, w.heap[k]? = some (.cells cs t fz) → t = KI.tq ∨ t = KI.te
theorem QAt.exact {S : Nat → Prop} {w : World} {P : Nat} {s : St Int} (h : QAt KI S w P s) : ∃ S1 : Nat → Prop, QAt KI S1 w P s ∧ (∀ k, S1 k → S k) ∧ (∀ k, S1 k → k < w.heap.size) ∧ ∀ k, S1 k → Quy w k := by
  obtain ⟨h0, h1, m, v, h2⟩ := h
  refine ⟨fun k => k = P ∨ k = m ∨ v.ownBlock = some k, ⟨h0, h1, m, v, h2.blk, h2.mp, ?_, .inl rfl, .inr (.inl rfl)⟩, ?_, ?_, ?_⟩
  · rcases h2.row with h | ⟨g, off, cap, e1, e2, e3⟩
    · exact .inl h
    · exact .inr ⟨g, off, cap, e1, .inr (.inr (by rw [e1]; rfl)), e3⟩
  · rintro k (rfl | rfl | e)
    · exact h2.sp
    · exact h2.sm
    · exact (h2.row.own e).1
  · rintro k (rfl | rfl | e)
    · exact h2.ltP
    · exact h2.ltm
    · obtain ⟨_, cs, h⟩ := h2.row.own e; exact lt_blk h
  · rintro k (rfl | rfl | e) cs t fz hc
    · rw [h2.blk] at hc; injection hc with hc; injection hc with _ hc _; exact .inl hc.symm
    · obtain ⟨es, c, h⟩ := h2.mp.blk; rw [h] at hc; cases hc
    · obtain ⟨_, cs', h⟩ := h2.row.own e; rw [h] at hc; injection hc with hc; injection hc with _ hc _; exact .inr hc.symm

theorem Own.far {B : Nat} {w w' : World} {P : Nat} {s : St Int} (h : Own B w P s) {T : Nat → Prop} (hk : Keep T w w') (hT : ∀ k, k < w.heap.size → T k → ∃ cs t fz, w.heap[k]? = some (.cells cs t fz) ∧ t ≠ KI.tq ∧ t ≠ KI.te) : Own B w' P s := by
  obtain ⟨S1, h1, h2, h3, h4⟩ := QAt.exact h
  refine Own.of (h1.stay hk fun k hl e1 e2 => ?_) fun k e => (h2 k e).1
  obtain ⟨cs, t, fz, e3, e4, e5⟩ := hT k hl e2
  rcases h4 k e1 cs t fz e3 with e | e
  · exact e4 e
  · exact e5 e
theorem ownsRow_typ {w w' : World} {B : Nat} {e : TypeId} {size : Nat} {v : Value} {n : Nat} {xs : List Value} (h : w.ownsRow B e size v n xs) {T : Nat → Prop} (hk : Keep T w w') (hT : ∀ k cs fz, T k → w.heap[k]? = some (.cells cs e fz) → False) : w'.ownsRow B e size v n xs :=
  ⟨h.1, h.2.imp (fun x => x) fun ⟨g, cap, cur, h1, h2, h3, h4⟩ => ⟨g, cap, cur, h1, h2, hk.blk h3 (fun e => hT g _ _ e h3), h4⟩⟩
theorem ownsRow_own {w : World} {B : Nat} {e : TypeId} {size : Nat} {v : Value} {n : Nat} {xs : List Value} (h : w.ownsRow B e size v n xs) {k : Nat} (hk : v.ownBlock = some k) : ∃ cs, w.heap[k]? = some (.cells cs e (0, 0)) := by
  rcases h.2 with ⟨e1, e2⟩ | ⟨g, cap, cur, e1, e2, e3, _⟩
  · rw [e1] at hk; cases hk
  · rw [e1] at hk
    obtain rfl : g = k := by simpa [Value.ownBlock] using hk
    exact ⟨cur, e3⟩

/-- a step of kind q, and whose blocks it may change -/
def Stept (B : Nat) (w : World) (P : Nat) (s : St Int) (q k : Int) (e : Ending) (w' : World) : Prop :=
  ∃ a c, e = .returned (.agg #[.int .i64 (stC s q k : Nat), .int .i64 (stN s q k : Nat), .bool (stB s q), .int .i64 (stK s q), .slice a ((stL s q).length * 2) c]) ∧ Own B w' P (stS s q k) ∧ ∃ S1, (∀ k, S1 k → B ≤ k) ∧ (∀ k, S1 k → Quy w k) ∧ Keep S1 w w'
theorem step_typ {B P : Nat} {s : St Int} (x : Sp) (w : World) (h : Own B w P s) (hB : B ≤ w.heap.size) (hx : Sp.In x) (hlast : s.last < 9007199254740990) :
    Calls Try.prog 18 #[.pointer (some ⟨P, 0, none⟩), .agg #[.int .i64 x.1, .int .i64 x.2.1, .int .i64 x.2.2]] w (Stept B w P s (pickV x.2.1 8) x.2.2) := by
  obtain ⟨S1, h1, h2, h3, h4⟩ := QAt.exact h
  refine (stepped_any x.1 x.2.1 x.2.2 w h1 h3 hx.2.1.1 hx.2.1.2 hx.2.2.1 hx.2.2.2 hlast).mono ?_
  rintro e w' ⟨a, c, rfl, _, q1, k1⟩
  exact ⟨a, c, rfl, Own.of q1 fun k e => e.elim (fun e => (h2 k e).1) fun e => Nat.le_trans hB e, S1, fun k e => (h2 k e).1, h4, k1⟩

theorem info_bool : (Try.prog.info? 4).map (fun i => (i.zero, i.size, i.bytes)) = some (some (.bool false), 1, 1) := by kernel_rfl
theorem one_new (w : World) (a : Value) (t : TypeId) (j : Nat) (u : Value) (hu : [a][j]? = some u) : (w.alloc (.cells #[a] t)).cell? ((⟨w.heap.size, 0, none⟩ : Addr).add j) = some u := by
  rw [Addr.add_mid, Nat.zero_add]
  exact cell_blk (heap_alloc_new _ _) j (by simpa using hu)
/-- what holds between two steps of QueueFirst -/
structure FirI (W : World) (B P L : Nat) (i : Nat) (ps : List Int) (gs : List Bool) (last : Nat) (s : St Int) (ap ag : Option Addr) (cp cg : Nat) (w : World) : Prop where
  own : Own B w P s
  rp : w.ownsRow B 3 1 (.slice ap ps.length cp) ps.length (ps.map (Value.int .i64))
  rg : w.ownsRow B 4 1 (.slice ag ps.length cg) ps.length (gs.map Value.bool)
  keep : Keep (fun _ => False) W w
  bs : B ≤ w.heap.size
  gl : gs.length = ps.length
  sl : s.last = ps.length
  row : s.row = live ps gs 1
  low : ∀ m, m < last → gs[m]? = some true
  lle : last ≤ ps.length
  few : ps.length ≤ i ∧ ps.length ≤ L
  cnt : L ≤ i → s.row.length + i ≤ L + ps.length

theorem push_fact (s : St Int) (k : Int) : ((pushR s k).2 = 0 ∧ (pushR s k).1 = s.last + 1 ∧ s.pushed k = s.push k) ∨ ((pushR s k).2 ≠ 0 ∧ s.pushed k = s) := by
  unfold pushR St.pushed
  split
  · exact .inr ⟨by decide, rfl⟩
  · split
    · exact .inr ⟨by decide, rfl⟩
    · exact .inl ⟨rfl, rfl, rfl⟩
theorem remove_fact (s : St Int) (k : Int) : (∃ i, idxL s.row k = some i ∧ (aheadR s.row k).2 = 0 ∧ s.remove k = s.take i) ∨ ((aheadR s.row k).2 ≠ 0 ∧ s.remove k = s) := by
  unfold aheadR St.remove
  cases h : idxL s.row k with
  | none => exact .inr ⟨by decide, rfl⟩
  | some i => exact .inl ⟨i, rfl, rfl, rfl⟩

section
variable {W w w' : World} {B P L i : Nat} {ps : List Int} {gs : List Bool} {last : Nat} {s : St Int} {ap ag : Option Addr} {cp cg : Nat}
theorem FirI.new (h : FirI W B P L i ps gs last s ap ag cp cg w) (hk : Keep (fun _ => False) w w') : FirI W B P L i ps gs last s ap ag cp cg w' :=
  ⟨h.own.new hk, ownsRow_far h.rp hk (fun _ _ f => f), ownsRow_far h.rg hk (fun _ _ f => f), h.keep.more hk, Nat.le_trans h.bs hk.size, h.gl, h.sl, h.row, h.low, h.lle, h.few, h.cnt⟩
/-- nothing has changed of what is told -/
theorem FirI.same (h : FirI W B P L i ps gs last s ap ag cp cg w) {s' : St Int} (hs : s' = s) (ho : Own B w' P s') (hk : ∃ S1, (∀ k, S1 k → B ≤ k) ∧ (∀ k, S1 k → Quy w k) ∧ Keep S1 w w') (hWB : W.heap.size ≤ B) (hb : i < L + ps.length) (hi : i < L ∨ s.row = []) : FirI W B P L (i + 1) ps gs last s' ap ag cp cg w' := by
  subst hs
  obtain ⟨S1, h1, h2, h3⟩ := hk
  refine ⟨ho, ownsRow_typ h.rp h3 fun k cs fz e1 e2 => ?_, ownsRow_typ h.rg h3 fun k cs fz e1 e2 => ?_, h.keep.trans h3 fun k e => .inr (Nat.le_trans hWB (h1 k e)), Nat.le_trans h.bs h3.size, h.gl, h.sl, h.row, h.low, h.lle, ⟨by have := h.few.1; omega, h.few.2⟩, fun hL => ?_⟩
  · rcases h2 k e1 cs _ fz e2 with e | e <;> exact absurd e (by decide)
  · rcases h2 k e1 cs _ fz e2 with e | e <;> exact absurd e (by decide)
  · have h4 := live_length ps gs 1
    rw [← h.row] at h4
    rcases hi with hi | hi
    · omega
    · rw [hi]
      simp only [List.length_nil]
      omega

/-- one more was pushed -/
theorem FirI.push (h : FirI W B P L i ps gs last s ap ag cp cg w) {k : Int} (ho : Own B w' P (s.push k)) {ap' ag' : Option Addr} {cp' cg' : Nat} (hp : w'.ownsRow B 3 1 (.slice ap' (ps.length + 1) cp') (ps.length + 1) (ps.map (Value.int .i64) ++ [.int .i64 k])) (hg : w'.ownsRow B 4 1 (.slice ag' (ps.length + 1) cg') (ps.length + 1) (gs.map Value.bool ++ [.bool false]))
    (hk : Keep (fun _ => False) W w') (hb : B ≤ w'.heap.size) (hi : i < L) : FirI W B P L (i + 1) (ps ++ [k]) (gs ++ [false]) last (s.push k) ap' ag' cp' cg' w' := by
  have hl : (ps ++ [k]).length = ps.length + 1 := by simp
  refine ⟨ho, by rw [hl, List.map_append]; exact hp, by rw [hl, List.map_append]; exact hg, hk, hb, by simp [h.gl], ?_, ?_, fun m hm => ?_, by rw [hl]; have := h.lle; omega, ?_, fun hL => ?_⟩
  · rw [hl]; show s.last + 1 = _; rw [h.sl]
  · rw [live_snoc k ps gs 1 h.gl, ← h.row]
    show s.row ++ [(s.last + 1, k)] = _
    rw [h.sl, Nat.add_comm 1]
  · have := h.lle
    rw [List.getElem?_append_left (by rw [h.gl]; omega)]
    exact h.low m hm
  · rw [hl]; have := h.few; omega
  · have h4 := live_length ps gs 1
    rw [← h.row] at h4
    rw [hl]
    show (s.row ++ [(s.last + 1, k)]).length + (i + 1) ≤ _
    rw [List.length_append]
    simp only [List.length_cons, List.length_nil]
    omega

/-- one has gone -/
theorem FirI.gone (h : FirI W B P L i ps gs last s ap ag cp cg w) {j x last' : Nat} {g : Nat} (hag : ag = some ⟨g, 0, none⟩) {s' : St Int} (hs : s' = s.take x) (hx : x < s.row.length) (hj : live ps (gs.set j true) 1 = s.row.eraseIdx x) (hl : ∀ m, m < last' → (gs.set j true)[m]? = some true) (hll : last' ≤ ps.length)
    (ho : Own B w' P s') {vs : List Value} (hp : w'.ownsRow B 3 1 (.slice ap ps.length cp) ps.length (ps.map (Value.int .i64))) (hg : w'.ownsRow B 4 1 (.slice ag ps.length cg) ps.length vs) (hvs : vs = gs.map Value.bool)
    (hk : Keep (fun _ => False) W w') (hb : B ≤ w'.heap.size) (hWB : W.heap.size ≤ B) : FirI W B P L (i + 1) ps (gs.set j true) last' s' ap ag cp cg (w'.setCell ⟨g, j, none⟩ (.bool true)) := by
  subst hs hag hvs
  have kg := keep_cell w' g j (.bool true)
  have hgB : B ≤ g ∧ ∃ cs, w'.heap[g]? = some (.cells cs 4 (0, 0)) := by
    rcases hg.2 with ⟨e, _⟩ | ⟨g', cap, cur, e1, e2, e3, _⟩
    · cases e
    · injection e1 with e1 _ _
      injection e1 with e1
      injection e1 with e1
      subst e1
      exact ⟨e2, cur, e3⟩
  obtain ⟨hg1, cs, hg2⟩ := hgB
  refine ⟨ho.far kg fun k _ e => ?_, ownsRow_typ hp kg fun k cs' fz e1 e2 => ?_, ?_, hk.trans kg fun k e => .inr (by omega), Nat.le_trans hb kg.size, by rw [List.length_set]; exact h.gl, h.sl, hj.symm, hl, hll, ⟨by have := h.few.1; omega, h.few.2⟩, fun hL => ?_⟩
  · subst e
    exact ⟨cs, _, _, hg2, by decide, by decide⟩
  · subst e1
    rw [hg2] at e2
    injection e2 with e2
    injection e2 with _ e2 _
    exact absurd e2 (by decide)
  · rw [List.map_set]
    exact own_set hg j _
  · have h4 := live_length ps gs 1
    rw [← h.row] at h4
    show (s.row.eraseIdx x).length + (i + 1) ≤ _
    rw [List.length_eraseIdx_of_lt hx]
    by_cases hl : L ≤ i
    · have := h.cnt hl; omega
    · omega
end

end Qu
end Go.Proofs.Ytcopldjnkngjcaa
