/- QueueKinds: a queue of other things that stands for one of numbers. -/
import Derived.Test.YtobmnkoohgkiiaaQTxt
import Derived.Test.YtobmnkoohgkiiaaQStp
import Derived.Test.YtobmnkoohgkiiaaQWho
import Derived.Test.YtobmnkoohgkiiaaQR7
import Derived.Test.YtobmnkoohgkiiaaRLst
import Derived.Test.YtobmnkoohgkiiaaWLst
namespace Go.Proofs.Ytobmnkoohgkiiaa
namespace Qu
open Go.RowKit

/-- the state of a queue of numbers, its numbers written as other things -/
def mapS {β : Type} (f : Int → β) (s : St Int) : St β := ⟨s.places, s.last, s.row.map fun e => (e.1, f e.2)⟩
section
variable {β : Type} [DecidableEq β] {f : Int → β}
theorem numL_map (hf : ∀ a b, KI.ok a → KI.ok b → f a = f b → a = b) {k : Int} (hk : KI.ok k) : ∀ {r : List (Nat × Int)}, (∀ e ∈ r, KI.ok e.2) → numL (r.map fun e => (e.1, f e.2)) (f k) = numL r k
  | [], _ => rfl
  | e :: r, h => by
    have he := h e (by simp)
    have ih := numL_map hf hk (r := r) fun e he => h e (by simp [he])
    simp only [List.map_cons, numL, ih]
    by_cases hek : e.2 = k
    · rw [if_pos hek, if_pos (by rw [hek])]
    · rw [if_neg hek, if_neg fun e2 => hek (hf _ _ he hk e2)]
theorem idxL_map (hf : ∀ a b, KI.ok a → KI.ok b → f a = f b → a = b) {k : Int} (hk : KI.ok k) : ∀ {r : List (Nat × Int)}, (∀ e ∈ r, KI.ok e.2) → idxL (r.map fun e => (e.1, f e.2)) (f k) = idxL r k
  | [], _ => rfl
  | e :: r, h => by
    have he := h e (by simp)
    have ih := idxL_map hf hk (r := r) fun e he => h e (by simp [he])
    simp only [List.map_cons, idxL, ih]
    by_cases hek : e.2 = k
    · rw [if_pos hek, if_pos (by rw [hek])]
    · rw [if_neg hek, if_neg fun e2 => hek (hf _ _ he hk e2)]
variable (hf : ∀ a b, KI.ok a → KI.ok b → f a = f b → a = b) {k : Int} (hk : KI.ok k) {s : St Int} (h : ∀ e ∈ s.row, KI.ok e.2)
include hf hk h
theorem aheadR_map : aheadR (mapS f s).row (f k) = aheadR s.row k := by
  unfold aheadR mapS
  simp only
  rw [idxL_map hf hk h]
theorem pushR_map : pushR (mapS f s) (f k) = pushR s k := by
  unfold pushR mapS
  simp only [List.length_map]
  rw [numL_map hf hk h]
theorem pushed_map : (mapS f s).pushed (f k) = mapS f (s.pushed k) := by
  unfold St.pushed
  rw [show numL (mapS f s).row (f k) = numL s.row k from numL_map hf hk h]
  simp only [show (mapS f s).places = s.places from rfl, show (mapS f s).row.length = s.row.length from List.length_map _]
  split
  · rfl
  · split
    · rfl
    · unfold St.push mapS
      simp
omit hk hf h [DecidableEq β] in
theorem take_map (i : Nat) : (mapS f s).take i = mapS f (s.take i) := by
  unfold St.take mapS
  simp only
  rw [List.eraseIdx_eq_take_drop_succ, List.eraseIdx_eq_take_drop_succ, List.map_append, List.map_take, List.map_drop]
theorem remove_map : (mapS f s).remove (f k) = mapS f (s.remove k) := by
  unfold St.remove
  rw [show idxL (mapS f s).row (f k) = idxL s.row k from idxL_map hf hk h]
  split
  · exact take_map _
  · rfl
end
theorem empty_map {β : Type} (f : Int → β) (s : St Int) : (mapS f s).row.isEmpty = s.row.isEmpty := by unfold mapS; simp

/-- what stands on a set of blocks -/
structure StaysK (G : (Nat → Prop) → World → Prop) : Prop where
  stay : ∀ {S T : Nat → Prop} {w w' : World}, G S w → Keep T w w' → (∀ k, k < w.heap.size → S k → ¬ T k) → G S w'
  mono : ∀ {S T : Nat → Prop} {w : World}, G S w → (∀ k, S k → T k) → G T w
theorem staysK {β : Type} [DecidableEq β] (K : Kd β) (P : Nat) (s : St β) : StaysK fun S w => QAt K S w P s := ⟨fun h k e => h.stay k e, fun h e => h.mono e⟩
/-- what a step tells and leaves -/
def Tells (G : (Nat → Prop) → World → Prop) (S : Nat → Prop) (w : World) (s : St Int) (q k : Int) (e : Ending) (w' : World) : Prop :=
  ∃ a c, e = .returned (.agg #[.int .i64 (stC s q k : Nat), .int .i64 (stN s q k : Nat), .bool (stB s q), .int .i64 (stK s q), .slice a ((stL s q).length * 2) c]) ∧ w'.ownsRow w.heap.size 3 1 (.slice a ((stL s q).length * 2) c) ((stL s q).length * 2) (flat KI (stL s q)) ∧
    G (fun i => S i ∨ w.heap.size ≤ i) w' ∧ Keep S w w'
theorem ownsRow_kr {w w' : World} {base : Nat} {e : TypeId} {size : Nat} {v : Value} {n : Nat} {xs : List Value} {T : Nat → Prop} (h : w.ownsRow base e size v n xs) (hk : Keep T w w') (hT : ∀ g, v.ownBlock = some g → ¬ T g) : w'.ownsRow base e size v n xs := by
  refine ⟨h.1, ?_⟩
  rcases h.2 with h' | ⟨g, cap, cur, h1, h2, h3, h4⟩
  · exact .inl h'
  · subst h1
    exact .inr ⟨g, cap, cur, rfl, h2, hk.blk h3 (hT g rfl), h4⟩
theorem Tells.done {G : (Nat → Prop) → World → Prop} (hG : StaysK G) {S : Nat → Prop} {w w2 w3 : World} {s : St Int} {q k : Int} {c n : Nat} {b : Bool} {kk : Int} {r : List (Nat × Int)} {a : Option Addr} {cc : Nat}
    (e1 : stC s q k = c) (e2 : stN s q k = n) (e3 : stB s q = b) (e4 : stK s q = kk) (e5 : stL s q = r)
    (h : G (fun i => S i ∨ w2.heap.size ≤ i) w3) (k1 : Keep (fun _ => False) w w2) (h2 : w.heap.size + 2 ≤ w2.heap.size) (k3 : Keep S w2 w3) (hS : ∀ i, S i → i < w.heap.size) (hr : w3.ownsRow w2.heap.size 3 1 (.slice a (r.length * 2) cc) (r.length * 2) (flat KI r)) :
    Tells G S w s q k (.returned (.agg #[.int .i64 (c : Nat), .int .i64 (n : Nat), .bool b, .int .i64 kk, .slice a (r.length * 2) cc])) (put5 w3 (w.heap.size + 1) (.int .i64 (c : Nat)) (.int .i64 (n : Nat)) (.bool b) (.int .i64 kk) (.slice a (r.length * 2) cc)) := by
  subst e1 e2 e3 e4 e5
  have kk := put5_keep w3 (w.heap.size + 1) (.int .i64 (stC s q k : Nat)) (.int .i64 (stN s q k : Nat)) (.bool (stB s q)) (.int .i64 (stK s q)) (.slice a ((stL s q).length * 2) cc)
  refine ⟨a, cc, rfl, ownsRow_base (ownsRow_kr hr kk fun g e (e2 : g = w.heap.size + 1) => by have := (hr.lt g e).1; omega) (by omega), hG.mono (hG.stay h kk fun k _ e1 (e2 : k = w.heap.size + 1) => ?_) fun k e => e.imp (fun x => x) fun e => by omega, ?_⟩
  · rcases e1 with e1 | e1
    · have := hS k e1; omega
    · omega
  · exact ((k1.mono fun _ f => f.elim).more k3).trans kk fun k e => .inr (by have e : k = w.heap.size + 1 := e; omega)
theorem by8_injK {n m : Int} (h : by8 n = by8 m) (n1 : -9223372036854775808 ≤ n) (n2 : n ≤ 9223372036854775807) (m1 : -9223372036854775808 ≤ m) (m2 : m ≤ 9223372036854775807) : n = m := by
  unfold by8 at h
  injection h with h0 h
  injection h with h1 h
  injection h with h2 h
  injection h with h3 h
  injection h with h4 h
  injection h with h5 h
  injection h with h6 h
  injection h with h7 _
  rw [← back8 n n1 n2, ← back8 m m1 m2, h0, h1, h2, h3, h4, h5, h6, h7]
theorem u8_injK {a b : Int} (h : UInt8.ofNat a.toNat = UInt8.ofNat b.toNat) (a1 : 0 ≤ a) (a2 : a < 256) (b1 : 0 ≤ b) (b2 : b < 256) : a = b := by
  have := congrArg UInt8.toNat h
  simp only [UInt8.toNat_ofNat'] at this
  omega
theorem strOfNums_injK : ∀ {x y : List Int}, (∀ a ∈ x, 0 ≤ a ∧ a < 256) → (∀ a ∈ y, 0 ≤ a ∧ a < 256) → x.map (fun n => UInt8.ofNat n.toNat) = y.map (fun n => UInt8.ofNat n.toNat) → x = y
  | [], [], _, _, _ => rfl
  | [], _ :: _, _, _, h => by cases h
  | _ :: _, [], _, _, h => by cases h
  | a :: x, b :: y, h1, h2, h => by
    simp only [List.map_cons, List.cons.injEq] at h
    have ha := h1 a (by simp)
    have hb := h2 b (by simp)
    rw [u8_injK h.1 ha.1 ha.2 hb.1 hb.2, strOfNums_injK (fun c hc => h1 c (by simp [hc])) (fun c hc => h2 c (by simp [hc])) h.2]
theorem by8_inK (n : Int) : ∀ a ∈ by8 n, 0 ≤ a ∧ a < 256 := fun a ha => by
  simp only [by8, List.mem_cons, List.not_mem_nil, or_false] at ha
  rcases ha with rfl | rfl | rfl | rfl | rfl | rfl | rfl | rfl <;> exact ⟨Int.emod_nonneg _ (by decide), Int.emod_lt_of_pos _ (by decide)⟩
theorem tx_injK {n m : Int} (h : tx n = tx m) (hn : KI.ok n) (hm : KI.ok m) : n = m := by
  refine by8_injK (strOfNums_injK (by8_inK n) (by8_inK m) ?_) hn.1 hn.2 hm.1 hm.2
  have := congrArg ByteArray.data h
  simp only [tx, strOfNums] at this
  simpa using this
/-- a region of a round: all but the last under S; behind them the last one -/
theorem wpIn_region_held_last {P : Program} {id lr n : Nat} {Q : Exit → Act → World → Prop} {S : World → Prop} {a : Act} {w : World} {l : List Oper} {o : Oper} (hl : l.getLast? = some o) (hm : P.follows .mixedOrders = true) (hb : RL.lastB l = true) (hd : noDefer l = true) (hQ : ¬ LetsOut Q) (hS : S w.drew)
    (h : S w.drew → wpAnyH P .any (l.dropLast ++ [RL.still o]).toArray (RL.endQ P o Q) S (l.dropLast ++ [RL.still o]).toArray.size (Array.replicate (l.dropLast ++ [RL.still o]).toArray.size false) a w.drew) : (Code.region id l.toArray true).wpIn (Fence.wide.inRound lr) n P Q a w := by
  have t := RL.twin_of hl hb
  refine wpIn_region_any hm (wpAny_round (noDefer_of hd) hQ _ _ _ _ ?_)
  have e1 : (l.dropLast ++ [RL.still o]).toArray.size = l.toArray.size := t.size2.trans t.size.symm
  have := wpAny_of_held _ _ _ _ (h hS)
  rw [e1] at this
  refine RL.wpAny_last t (fun a w hk => ?_) (fun a w K hk => RL.still_wp hk) _ _ _ _ (by simp [t.size]) (fun i oi _ hl => absurd hl (by simp [Array.getD])) ?_ this
  · have h0 : noRoomEvent ∈ (#[] : Array Event) := hk.1
    simp at h0
  · have : l.length - 1 < l.toArray.size := by rw [t.size]; omega
    simp [Array.getD] <;> simpa using this
theorem app_runK {w : World} {v : Value} {B n : Nat} {xs : List Value} (h : w.ownsRow B 3 1 v n xs) (hB : B ≤ w.heap.size) {I : Nat} {x y : Int} (hI : w.heap[I]? = some (.cells #[.int .i64 x, .int .i64 y] 3 (0, 0))) (hn : n + 2 ≤ 1048576) (ty : TypeId) :
    ∃ a c w', (Builtin.append_ #[37, 37] ty #[v, .slice (some ⟨I, 0, none⟩) 2 2]).run Try.prog w = .ok (.slice a (n + 2) c) w' ∧ w'.ownsRow B 3 1 (.slice a (n + 2) c) (n + 2) (xs ++ [.int .i64 x, .int .i64 y]) ∧ Keep (fun k => v.ownBlock = some k) w w' := by
  obtain ⟨i0, hi, hz0, hz1, hz2⟩ := info_parts info_int
  obtain ⟨v', w', h2, h3, h4, _, _⟩ := run_append_own_at (P := Try.prog) w B 37 ty 3 i0 (.int .i64 0) 1 8 Try.underlying37 hi hz0 hz1 hz2 rfl (by decide) v n xs h ⟨I, 0, none⟩ 2 2 [.int .i64 x, .int .i64 y] rfl (fun j u hu => by rw [Addr.add_mid, Nat.zero_add]; exact cell_blk hI j (by simpa using hu)) (fun u hu => by simp at hu; rcases hu with rfl | rfl <;> rfl) (by unfold maxLen; omega) (by omega) hB
  obtain ⟨a, c, rfl⟩ := ownsRow_shape h3
  exact ⟨a, c, w', h2, h3, ⟨h4.os, h4.tape, h4.output, h4.size, fun k hk hn => h4.block k hk fun e => hn e.symm⟩⟩
theorem named_actK {P : Program} {c : Code} {Q : Exit → Act → World → Prop} {a : Act} {w : World} (h : ∀ A : Act, A = a → c.wp P Q A w) : c.wp P Q a w := h a rfl
/-- a told struct whose list grows by pairs, in a block at Bl -/
structure WhoT (w3 : World) (Bl : Nat) (pre : List (Nat × Int)) (v : Value) (W : World) : Prop where
  box : W.heap[Bl]? = some (.cells #[.int .i64 0, .int .i64 0, .bool false, .int .i64 0, v] 39 (0, 0))
  row : W.ownsRow (w3.heap.size + 2) 3 1 v (pre.length * 2) (flat KI pre)
  keep : Keep (fun k => k = Bl) w3 W
theorem WhoT.new {w3 W W' : World} {Bl : Nat} {pre : List (Nat × Int)} {v : Value} (h : WhoT w3 Bl pre v W) (hk : Keep (fun _ => False) W W') : WhoT w3 Bl pre v W' :=
  ⟨hk.blk h.box fun f => f, ownsRow_far h.row hk (fun _ _ f => f), h.keep.more (hk.mono fun _ f => f.elim)⟩
theorem WhoT.put {w3 W : World} {Bl : Nat} {pre : List (Nat × Int)} {v : Value} (h : WhoT w3 Bl pre v W) (hB : Bl < w3.heap.size) (o : Obj) : WhoT w3 Bl pre v (W.putObj (w3.heap.size + 1) o) := by
  have hk := keep_put W (w3.heap.size + 1) o
  exact ⟨hk.blk h.box (by show ¬ (Bl = w3.heap.size + 1); omega), ownsRow_far h.row hk (fun k e1 e2 => by omega), h.keep.trans hk fun k e => .inr (by omega)⟩
/-- the first thing's text, or none -/
def ftx (s : St Int) : ByteArray := match s.row with | [] => ⟨#[]⟩ | e :: _ => tx e.2
theorem frontV_tx (s : St Int) : frontV KS (.string ⟨#[]⟩) (mapS tx s) = .string (ftx s) := by
  unfold frontV mapS ftx
  cases s.row <;> rfl
theorem numK_none (w : World) : Calls Try.prog 31 #[.string ⟨#[]⟩] w fun e w' => e = .returned (.int .i64 0) ∧ w' = w := by
  go_enter Try.func31, Try.ntmps31
  go_wp2
  go_rounds 1
  go_ret
  exact ⟨rfl, rfl⟩
theorem numK_fr (s : St Int) (hr : ∀ e ∈ s.row, KI.ok e.2) (w : World) : Calls Try.prog 31 #[.string (ftx s)] w fun e w' => e = .returned (.int .i64 (frN s)) ∧ w' = w := by
  unfold ftx frN
  cases h : s.row with
  | nil => exact numK_none w
  | cons e r =>
    have := hr e (by rw [h]; simp)
    exact number_any e.2 this.1 this.2 w
end Qu
end Go.Proofs.Ytobmnkoohgkiiaa
