/- Package wheel: a range over the map of timers. -/
import Derived.Test.YtbjapgajbljhfaaWAlM
import Derived.Maps.OwnIn
import Derived.Maps.AppendAt
namespace Go.Proofs.Ytbjapgajbljhfaa
namespace Wh
open Go.RowKit Go.Lib Go.Maps Go.MapKept Go.ChangeMaps Go.Sort

/-- keys met so far -/
def Coll (f : Int → Option Value) (left : Lit → Bool) (ks : List Int) : Prop := ks.Nodup ∧ ∀ k, k ∈ ks ↔ f k ≠ none ∧ left (.int .i64 k) = false

theorem coll_start {D : DataW Value} {f : Int → Option Value} (ha : Agr D f) : Coll f (Maps.has D) [] := by
  refine ⟨List.nodup_nil, fun k => ⟨(fun h => by cases h), fun ⟨h1, h2⟩ => ?_⟩⟩
  cases e : f k with
  | none => exact absurd e h1
  | some v => rw [((ha k).2 v e).1] at h2; cases h2
theorem same_int (k x : Int) : (Lit.int .i64 k).sameKey (.int .i64 x) = decide (k = x) := by
  by_cases h : k = x
  · subst h; rw [WideAt.sameKey_self (show WideAt.IsKeyLit (Lit.int .i64 k) from trivial)]; simp
  · have : ¬ (Lit.int .i64 k).sameKey (.int .i64 x) = true := fun e => h (by have := WideAt.sameKey_eq e; injection this)
    simp only [Bool.not_eq_true] at this
    rw [this]; simp [h]
theorem coll_step {f : Int → Option Value} {left : Lit → Bool} {ks : List Int} (h : Coll f left ks) {x : Int} (hl : left (.int .i64 x) = true) (hf : f x ≠ none) : Coll f (fun z => left z && !z.sameKey (.int .i64 x)) (ks ++ [x]) := by
  have hx : x ∉ ks := fun e => by have := ((h.2 x).1 e).2; rw [hl] at this; cases this
  refine ⟨List.nodup_append.2 ⟨h.1, by simp, fun a ha b hb e => ?_⟩, fun k => ?_⟩
  · simp only [List.mem_singleton] at hb; subst hb; subst e; exact hx ha
  · simp only [List.mem_append, List.mem_singleton, same_int]
    by_cases e : k = x
    · subst e; simp [hf]
    · simp only [e, or_false, decide_false, Bool.not_false, Bool.and_true]
      exact h.2 k
theorem atKey_some {D : DataW Value} {f : Int → Option Value} (ha : Agr D f) {x : Int} {y : DataW Value} (h : ∀ z, D.atKey (.int .i64 x) z = y) : ∃ v, f x = some v ∧ y = .held v := by
  cases e : f x with
  | none =>
    have h0 := (ha x).1 e
    have h1 := h (.held (.bool true))
    have h2 := h (.held (.bool false))
    rw [atKey_of_not_has h0] at h1 h2
    rw [← h2] at h1
    cases h1
  | some v => exact ⟨v, rfl, by rw [← h (.held v)]; exact ((ha x).2 v e).2 _⟩

/-- a round of a range over a map keyed by numbers -/
theorem wpList_next_raw {w : World} {ops : Array Oper} {rest : List Oper} {o : Oper} {a : Act} {Q : Exit → Act → World → Prop} (hg : o.guard = none) (it : Operand) (hop : o.op = Op.next it false) (b r n : Nat) (D : DataW Value) (f : Int → Option Value) (left : Lit → Bool) (cnt : Nat)
    (hit : a.eval it = .pointer (some ⟨r, 0, none⟩)) (h : w.ranges Try.prog 3 rawE b r n D left cnt) (ha : Agr D f)
    (hDone : cnt = 0 → (∀ kl, left kl = false) → wpList Try.prog ops Q rest (a.put o.dst (.tuple #[.bool false])) w)
    (hMore : ∀ (x : Int) (c : Value) (w' : World) (cnt' : Nat), (Lit.int .i64 x).wf = true → left (.int .i64 x) = true → f x = some c → w'.ranges Try.prog 3 rawE b r n D (fun z => left z && !z.sameKey (.int .i64 x)) cnt' → cnt' < cnt →
      w.grownBy w' (some r) → w'.heap.size = w.heap.size → (Instr.entry (.pointer (some ⟨r, 0, none⟩))).run Try.prog w' = .ok (.tuple #[.int .i64 x, c]) w' → wpList Try.prog ops Q rest (a.put o.dst (.tuple #[.bool true, .int .i64 x, c])) w') :
    wpList Try.prog ops Q (o :: rest) a w :=
  wpList_next_ranges w hg it hop 3 kint rawE (Value.int .i64) (fun c : Value => c) (fun key kl hkey => by obtain ⟨x, rfl, _⟩ := Maps.keyOf_int_inv Try.underlying3 hkey; exact ⟨x, rfl⟩) (fun v _ _ => ⟨v, rfl⟩) b r n D left cnt hit h hDone
    (fun x c kl y w' cnt' hkey hlx hv hat hrg hlt hgr hsz hen => by
      obtain ⟨x', ex, rfl, hwx⟩ := Maps.keyOf_int_inv Try.underlying3 hkey
      injection ex with _ ex
      subst ex
      obtain ⟨u, hfu, hy⟩ := atKey_some ha hat
      have e1 := rawE_inv (d := y.1) (ps := y.2) hv
      rw [hy] at e1
      injection e1 with e1
      subst e1
      exact hMore x u w' cnt' hwx hlx hfu hrg hlt hgr hsz hen)

/-- timers met so far -/
theorem Coll.timers {f : Int → Option Value} {left : Lit → Bool} {ks : List Int} (h : Coll f left ks) (hl0 : ∀ kl, left kl = false) {s : St} (hok : Ok s) {at_ : Nat → Nat} (hf : ∀ k v, f k = some v ↔ ∃ id, id ∈ s.ids ∧ k = ((id : Nat) : Int) ∧ v = ptr at_ (some id)) : (ks.map Int.toNat).Perm s.ids := by
  have hm : ∀ k, k ∈ ks ↔ ∃ id, id ∈ s.ids ∧ k = ((id : Nat) : Int) := fun k => by
    rw [h.2 k]
    constructor
    · rintro ⟨h1, _⟩
      cases e : f k with
      | none => exact absurd e h1
      | some v =>
        obtain ⟨id, a, b, _⟩ := (hf k v).1 e
        exact ⟨id, a, b⟩
    · rintro ⟨id, a, b⟩
      refine ⟨fun e => ?_, hl0 _⟩
      rw [(hf k _).2 ⟨id, a, b, rfl⟩] at e
      cases e
  have hnd : (ks.map Int.toNat).Nodup := by
    unfold List.Nodup
    rw [List.pairwise_map]
    refine List.Pairwise.imp_of_mem (fun {a b} ha hb hab => ?_) h.1
    obtain ⟨x, _, rfl⟩ := (hm a).1 ha
    obtain ⟨y, _, rfl⟩ := (hm b).1 hb
    intro e
    simp at e
    subst e
    exact hab rfl
  refine (List.perm_ext_iff_of_nodup hnd (sorted_nodup hok.srt)).2 fun a => ?_
  rw [List.mem_map]
  constructor
  · rintro ⟨k, hk, rfl⟩
    obtain ⟨x, hx, rfl⟩ := (hm k).1 hk
    simpa using hx
  · intro ha
    exact ⟨(a : Nat), (hm _).2 ⟨a, ha, rfl⟩, by simp⟩

end Wh
end Go.Proofs.Ytbjapgajbljhfaa
