/- WheelCancels: the mathematics. -/
import Derived.Test.YtbjapgajbljhfaaWOrM
namespace Go.Proofs.Ytbjapgajbljhfaa
namespace Wh
open Go.RowKit

/-- between two steps of the law: the wheel that timers are taken from, and who is out -/
structure CanI (now : Nat) (D : List Nat) (z0 cur : St) (G : List Nat) : Prop where
  fil : Filled now D z0
  now_ : cur.now = now
  last : cur.last = D.length
  due : cur.due = z0.due
  what : cur.what = z0.what
  ids : ∀ id, id ∈ cur.ids ↔ (1 ≤ id ∧ id ≤ D.length) ∧ id ∉ G
  len : cur.ids.length + G.length = D.length
theorem CanI.start {now : Nat} {D : List Nat} {s : St} (h : Filled now D s) : CanI now D s s [] :=
  ⟨h, h.now_, h.last, rfl, rfl, fun id => by rw [h.ids]; simp, by rw [h.len]; rfl⟩
theorem CanI.typed {now : Nat} {D : List Nat} {z0 cur : St} {G : List Nat} (h : CanI now D z0 cur G) : ∀ id ∈ cur.ids, ∃ y1, cur.what id = .int .i64 y1 := fun id hid => by
  rw [h.what]
  exact h.fil.typed id ((h.fil.ids id).2 ((h.ids id).1 hid).1)
theorem CanI.del {now : Nat} {D : List Nat} {z0 cur : St} {G : List Nat} (h : CanI now D z0 cur G) (hok : Ok cur) {id : Nat} (hm : id ∈ cur.ids) : CanI now D z0 (cur.del id) (G ++ [id]) := by
  refine ⟨h.fil, h.now_, h.last, h.due, h.what, fun j => ?_, ?_⟩
  · show j ∈ cur.ids.filter _ ↔ _
    rw [List.mem_filter, h.ids]
    simp only [List.mem_append, List.mem_singleton, not_or, bne_iff_ne, ne_eq]
    exact ⟨fun ⟨⟨a, b⟩, c⟩ => ⟨a, b, c⟩, fun ⟨a, b, c⟩ => ⟨⟨a, b⟩, c⟩⟩
  · obtain ⟨xs, ys, e⟩ := List.append_of_mem hm
    have hn := sorted_nodup hok.srt
    have hl := h.len
    show (cur.ids.filter _).length + _ = _
    rw [e] at hn hl ⊢
    rw [filter_ne_mid hn]
    simp only [List.length_append, List.length_cons, List.length_nil] at hl ⊢
    omega

/-- in the order, and the same ones: the same list -/
theorem bef_uniq {s : St} : ∀ {l l' : List Nat}, l.Pairwise s.bef → l'.Pairwise s.bef → (∀ a, a ∈ l ↔ a ∈ l') → l = l'
  | [], [], _, _, _ => rfl
  | [], b :: _, _, _, h => absurd ((h b).2 (by simp)) (by simp)
  | a :: _, [], _, _, h => absurd ((h a).1 (by simp)) (by simp)
  | a :: l, b :: l', h1, h2, h => by
    obtain ⟨p1, p2⟩ := List.pairwise_cons.1 h1
    obtain ⟨q1, q2⟩ := List.pairwise_cons.1 h2
    have hab : a = b := by
      rcases List.mem_cons.1 ((h a).1 (by simp)) with e | e
      · exact e
      rcases List.mem_cons.1 ((h b).2 (by simp)) with e' | e'
      · exact e'.symm
      have x := q1 a e
      have y := p1 b e'
      unfold St.bef at x y
      omega
    subst hab
    rw [bef_uniq p2 q2 fun c => ?_]
    constructor
    · intro hc
      rcases List.mem_cons.1 ((h c).1 (List.mem_cons_of_mem _ hc)) with e | e
      · have := p1 c hc; unfold St.bef at this; subst e; omega
      · exact e
    · intro hc
      rcases List.mem_cons.1 ((h c).2 (List.mem_cons_of_mem _ hc)) with e | e
      · have := q1 c hc; unfold St.bef at this; subst e; omega
      · exact e

/-- those that are not out -/
def keptOf (G ys : List Nat) : List Nat := ys.filter fun id => !decide (id ∈ G)
theorem CanI.same {now : Nat} {D : List Nat} {z0 cur zb : St} {G : List Nat} (h : CanI now D z0 cur G) (hfb : Filled now D zb) {id : Nat} (h1 : 1 ≤ id) (h2 : id ≤ D.length) (x : Value) : (cur.add M x).due id = zb.due id ∧ (cur.add M x).what id = zb.what id := by
  obtain ⟨i, rfl⟩ : ∃ i, id = i + 1 := ⟨id - 1, by omega⟩
  constructor
  · show updN cur.due (cur.last + 1) M (i + 1) = _
    rw [h.last, h.due]
    unfold updN
    rw [if_neg (by omega), h.fil.due i (by omega), hfb.due i (by omega)]
  · show updV cur.what (cur.last + 1) x (i + 1) = _
    rw [h.last, h.what]
    unfold updV
    rw [if_neg (by omega), h.fil.what i (by omega), hfb.what i (by omega)]
theorem CanI.lists {now : Nat} {D : List Nat} {z0 cur zb : St} {G : List Nat} (h : CanI now D z0 cur G) (hfb : Filled now D zb) (hokb : Ok zb) {x : Value} {xs ys : List Nat} (ha : Adv (cur.add M x) M xs) (hb : Adv zb M ys) : xs = keptOf G ys ++ [D.length + 1] := by
  have hdue : ∀ id, 1 ≤ id → id ≤ D.length → (cur.add M x).due id = zb.due id := fun id h1 h2 => (h.same hfb h1 h2 x).1
  have hdn : (cur.add M x).due (D.length + 1) = M := by
    show updN cur.due (cur.last + 1) M (D.length + 1) = _
    rw [h.last]
    unfold updN
    rw [if_pos rfl]
  have hys : ∀ id, id ∈ ys ↔ 1 ≤ id ∧ id ≤ D.length := fun id => by
    rw [hb.mem, hfb.ids]
    exact ⟨fun a => a.1, fun a => ⟨a, ((hokb.inn id ((hfb.ids id).2 a)).2.2.2)⟩⟩
  have hids : ∀ id, id ∈ (cur.add M x).ids ↔ id ∈ cur.ids ∨ id = D.length + 1 := fun id => by
    show id ∈ cur.ids ++ [cur.last + 1] ↔ _
    rw [h.last]; simp
  refine bef_uniq ha.ord ?_ fun a => ?_
  · refine List.pairwise_append.2 ⟨?_, by simp, fun a hA b hB => ?_⟩
    · refine List.Pairwise.imp_of_mem (fun {a b} hA hB hab => ?_) (hb.ord.filter _)
      have a1 := (hys a).1 (List.mem_filter.1 hA).1
      have b1 := (hys b).1 (List.mem_filter.1 hB).1
      unfold St.bef at hab ⊢
      rw [hdue a a1.1 a1.2, hdue b b1.1 b1.2]
      exact hab
    · have a1 := (hys a).1 (List.mem_filter.1 hA).1
      simp at hB
      subst hB
      have := (hokb.inn a ((hfb.ids a).2 a1)).2.2.2
      unfold St.bef
      rw [hdue a a1.1 a1.2, hdn]
      omega
  · rw [ha.mem, hids, h.ids, List.mem_append, List.mem_singleton]
    unfold keptOf
    rw [List.mem_filter, hys]
    constructor
    · rintro ⟨⟨a1, a2⟩ | e, _⟩
      · exact .inl ⟨a1, by simp [a2]⟩
      · exact .inr e
    · rintro (⟨a1, a2⟩ | e)
      · refine ⟨.inl ⟨a1, by simpa using a2⟩, ?_⟩
        rw [hdue a a1.1 a1.2]
        exact (hokb.inn a ((hfb.ids a).2 a1)).2.2.2
      · subst e
        exact ⟨.inr rfl, by rw [hdn]; exact Nat.le_refl _⟩

/-- how many came that are not out -/
def cnt (G ys : List Nat) (i : Nat) : Nat := (keptOf G (ys.take i)).length
theorem take_step {ys : List Nat} {i : Nat} (hi : i < ys.length) : ys.take (i + 1) = ys.take i ++ [ys.getD i 0] := by
  rw [List.take_add_one, List.getElem?_eq_getElem hi, List.getD_eq_getElem?_getD, List.getElem?_eq_getElem hi]; rfl
theorem kept_append (G a b : List Nat) : keptOf G (a ++ b) = keptOf G a ++ keptOf G b := List.filter_append ..
theorem cnt_zero (G ys : List Nat) : cnt G ys 0 = 0 := rfl
theorem cnt_out {G ys : List Nat} {i : Nat} (hi : i < ys.length) (h : ys.getD i 0 ∈ G) : cnt G ys (i + 1) = cnt G ys i := by
  unfold cnt
  rw [take_step hi, kept_append, List.length_append]
  have : keptOf G [ys.getD i 0] = [] := by unfold keptOf; rw [List.filter_cons_of_neg (by rw [decide_eq_true h]; decide)]; rfl
  rw [this]; rfl
theorem cnt_in {G ys : List Nat} {i : Nat} (hi : i < ys.length) (h : ys.getD i 0 ∉ G) : cnt G ys (i + 1) = cnt G ys i + 1 ∧ ∀ z, cnt G ys i < (keptOf G ys ++ [z]).length ∧ (keptOf G ys ++ [z]).getD (cnt G ys i) 0 = ys.getD i 0 := by
  have h1 : keptOf G [ys.getD i 0] = [ys.getD i 0] := by unfold keptOf; rw [List.filter_cons_of_pos (by rw [decide_eq_false h]; rfl)]; rfl
  have h2 : keptOf G (ys.take (i + 1)) = keptOf G (ys.take i) ++ [ys.getD i 0] := by rw [take_step hi, kept_append, h1]
  refine ⟨by unfold cnt; rw [h2]; simp, fun z => ?_⟩
  have h3 : keptOf G ys = keptOf G (ys.take i) ++ ([ys.getD i 0] ++ keptOf G (ys.drop (i + 1))) := by
    rw [← List.append_assoc, ← h2, ← kept_append, List.take_append_drop]
  unfold cnt
  refine ⟨by rw [h3]; simp only [List.length_append, List.length_cons, List.length_nil]; omega, ?_⟩
  rw [h3, List.append_assoc, List.getD_eq_getElem?_getD, List.getElem?_append_right (Nat.le_refl _), Nat.sub_self]
  rfl
theorem cnt_end (G ys : List Nat) (z : Nat) : cnt G ys ys.length < (keptOf G ys ++ [z]).length ∧ (keptOf G ys ++ [z]).getD (cnt G ys ys.length) 0 = z := by
  unfold cnt
  rw [List.take_length]
  exact ⟨by simp, by rw [List.getD_eq_getElem?_getD, List.getElem?_append_right (Nat.le_refl _), Nat.sub_self]; rfl⟩
theorem CanI.lens {now : Nat} {D : List Nat} {z0 cur zb : St} {G : List Nat} (h : CanI now D z0 cur G) (hok : Ok cur) (hfb : Filled now D zb) (hokb : Ok zb) {x : Value} {xs ys : List Nat} (ha : Adv (cur.add M x) M xs) (hb : Adv zb M ys) : xs.length + G.length = D.length + 1 ∧ ys.length = D.length := by
  have e1 := ha.len (hok.add (hok.nowM) (Nat.le_refl _) x)
  have e2 := hb.len hokb
  have z1 : ((cur.add M x).adv M).ids = [] := List.eq_nil_iff_forall_not_mem.2 fun id hid => by
    obtain ⟨a, b⟩ := List.mem_filter.1 hid
    have := ((hok.add (hok.nowM) (Nat.le_refl _) x).inn id a).2.2.2
    simp at b
    omega
  have z2 : (zb.adv M).ids = [] := List.eq_nil_iff_forall_not_mem.2 fun id hid => by
    obtain ⟨a, b⟩ := List.mem_filter.1 hid
    have := (hokb.inn id a).2.2.2
    simp at b
    omega
  rw [z1] at e1
  rw [z2] at e2
  have e3 : (cur.add M x).ids.length = cur.ids.length + 1 := by show (cur.ids ++ [_]).length = _; simp
  have := h.len
  have := hfb.len
  simp only [List.length_nil] at e1 e2
  omega

theorem CanI.newest {now : Nat} {D : List Nat} {z0 cur : St} {G : List Nat} (h : CanI now D z0 cur G) (x : Value) : (cur.add M x).what (D.length + 1) = x := by
  show updV cur.what (cur.last + 1) x (D.length + 1) = _
  rw [h.last]
  unfold updV
  rw [if_pos rfl]
theorem CanI.typedA {now : Nat} {D : List Nat} {z0 cur : St} {G : List Nat} (h : CanI now D z0 cur G) (x : Int) : ∀ id ∈ (cur.add M (.int .i64 x)).ids, ∃ y1, (cur.add M (.int .i64 x)).what id = .int .i64 y1 := fun id hid => by
  have hid' : id ∈ cur.ids ++ [cur.last + 1] := hid
  rw [h.last] at hid'
  rcases List.mem_append.1 hid' with e | e
  · have hi := (h.ids id).1 e
    rw [(h.same h.fil hi.1.1 hi.1.2 _).2]
    exact h.fil.typed id ((h.fil.ids id).2 hi.1)
  · simp at e
    subst e
    exact ⟨x, h.newest _⟩

/-- who is out, cell by cell -/
def OutAt (t : TypeId) (W : World) (B n : Nat) (G : List Nat) : Prop := ∃ cs : Array Value, W.heap[B]? = some (.cells cs t (0, 0)) ∧ cs.size = n ∧ ∀ j, j < n → cs[j]? = some (.bool (decide (j ∈ G)))
theorem OutAt.keep {t : TypeId} {W W' : World} {B n : Nat} {T : List Nat} (h : OutAt t W B n T) {S : Nat → Prop} (hk : Keep S W W') (hS : ¬ S B) : OutAt t W' B n T := by
  obtain ⟨cs, h1, h2⟩ := h
  exact ⟨cs, hk.blk h1 hS, h2⟩
theorem OutAt.set {t : TypeId} {W : World} {B n : Nat} {T : List Nat} (h : OutAt t W B n T) {j : Nat} (_ : j < n) : OutAt t (W.setCell ⟨B, j, none⟩ (.bool true)) B n (T ++ [j]) := by
  obtain ⟨cs, h1, h2, h3⟩ := h
  refine ⟨_, set_blk h1 j _, by simpa using h2, fun i hi => ?_⟩
  rw [set_get _ _ _ _ (by omega)]
  by_cases hc : i = j
  · subst hc; rw [if_pos rfl]; simp
  · rw [if_neg hc, h3 i hi]
    congr 2
    simp [hc]
theorem OutAt.again {t : TypeId} {W : World} {B n : Nat} {T : List Nat} (h : OutAt t W B n T) {j : Nat} (hj : j < n) (hm : j ∈ T) : OutAt t (W.setCell ⟨B, j, none⟩ (.bool true)) B n T := by
  obtain ⟨cs, h1, h2, h3⟩ := h.set hj
  refine ⟨cs, h1, h2, fun i hi => ?_⟩
  rw [h3 i hi]
  congr 2
  simp only [List.mem_append, List.mem_singleton, decide_eq_decide]
  exact ⟨fun e => e.elim id fun e => e ▸ hm, .inl⟩

end Wh
end Go.Proofs.Ytbjapgajbljhfaa
