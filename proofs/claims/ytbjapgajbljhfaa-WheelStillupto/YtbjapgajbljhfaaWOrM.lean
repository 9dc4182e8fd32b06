/- WheelOrder: the mathematics. -/
import Derived.Test.YtbjapgajbljhfaaWFil
namespace Go.Proofs.Ytbjapgajbljhfaa
namespace Wh
open Go.RowKit

theorem Adv.nodup {s : St} {to : Nat} {xs : List Nat} (h : Adv s to xs) : xs.Nodup := h.ord.imp fun {a b} hab e => by
  subst e
  rcases hab with h | ⟨_, h⟩ <;> omega
theorem Adv.len {s : St} (hok : Ok s) {to : Nat} {xs : List Nat} (h : Adv s to xs) : xs.length + (s.adv to).ids.length = s.ids.length := by
  have hnd : s.ids.Nodup := sorted_nodup hok.srt
  have h1 : (s.ids.filter fun id => !decide (to < s.due id)).length = xs.length := by
    refine ((List.perm_ext_iff_of_nodup (hnd.filter _) h.nodup).2 fun a => ?_).length_eq
    rw [h.mem]
    simp
  have h2 : ∀ l : List Nat, (l.filter fun id => !decide (to < s.due id)).length + (l.filter fun id => decide (to < s.due id)).length = l.length := by
    intro l
    induction l with
    | nil => rfl
    | cons a t ih =>
      by_cases hc : to < s.due a
      · have e1 : (a :: t).filter (fun id => !decide (to < s.due id)) = t.filter (fun id => !decide (to < s.due id)) := List.filter_cons_of_neg (by simp [hc])
        have e2 : (a :: t).filter (fun id => decide (to < s.due id)) = a :: t.filter (fun id => decide (to < s.due id)) := List.filter_cons_of_pos (by simp [hc])
        rw [e1, e2]; simp only [List.length_cons]; omega
      · have e1 : (a :: t).filter (fun id => !decide (to < s.due id)) = a :: t.filter (fun id => !decide (to < s.due id)) := List.filter_cons_of_pos (by simp [hc])
        have e2 : (a :: t).filter (fun id => decide (to < s.due id)) = t.filter (fun id => decide (to < s.due id)) := List.filter_cons_of_neg (by simp [hc])
        rw [e1, e2]; simp only [List.length_cons]; omega
  have h3 := h2 s.ids
  rw [h1] at h3
  exact h3

/-- between two steps of the law: the wheel, who came, the last of them -/
structure OrdI (now : Nat) (D : List Nat) (z0 : St) (cur : St) (T : List Nat) (i lid ldue : Nat) : Prop where
  fil : Filled now D z0
  last : cur.last = D.length
  due : cur.due = z0.due
  what : cur.what = z0.what
  ids : ∀ id, id ∈ cur.ids ↔ (1 ≤ id ∧ id ≤ D.length) ∧ id ∉ T
  len : cur.ids.length + T.length = D.length
  pos : 0 < i → ∀ id ∈ cur.ids, cur.now < cur.due id
  bef : ∀ id ∈ cur.ids, ldue < cur.due id ∨ ldue = cur.due id ∧ lid < id
  le : ldue ≤ cur.now
theorem OrdI.start {now : Nat} {D : List Nat} {s : St} (h : Filled now D s) (hok : Ok s) : OrdI now D s s [] 0 0 now :=
  ⟨h, h.last, rfl, rfl, fun id => by rw [h.ids]; simp, by rw [h.len]; rfl, fun h => by omega, fun id hid => by have := hok.inn id hid; rw [h.now_] at this; omega, by rw [h.now_]; exact Nat.le_refl _⟩
theorem OrdI.typed {now : Nat} {D : List Nat} {z0 cur : St} {T : List Nat} {i lid ldue : Nat} (h : OrdI now D z0 cur T i lid ldue) : ∀ id ∈ cur.ids, ∃ y1, cur.what id = .int .i64 y1 := fun id hid => by
  rw [h.what]
  exact h.fil.typed id ((h.fil.ids id).2 ((h.ids id).1 hid).1)
/-- one that comes -/
theorem OrdI.one {now : Nat} {D : List Nat} {z0 cur : St} {T : List Nat} {i lid ldue : Nat} (h : OrdI now D z0 cur T i lid ldue) {to : Nat} {xs : List Nat} (ha : Adv cur to xs) {k : Nat} (hk : k < xs.length) :
    ∃ j, xs.getD k 0 = j + 1 ∧ j < D.length ∧ cur.due (j + 1) = D.getD j 0 ∧ cur.what (j + 1) = .int .i64 (j : Nat) ∧ j + 1 ∉ T ++ xs.take k ∧ cur.due (j + 1) ≤ to ∧ (0 < i → cur.now < cur.due (j + 1)) := by
  have hg : xs.getD k 0 = xs[k] := by rw [List.getD_eq_getElem?_getD, List.getElem?_eq_getElem hk]; rfl
  have hm : xs[k] ∈ xs := List.getElem_mem hk
  obtain ⟨hi, hd⟩ := (ha.mem _).1 hm
  obtain ⟨⟨a, b⟩, c⟩ := (h.ids _).1 hi
  obtain ⟨j, hj⟩ : ∃ j, xs[k] = j + 1 := ⟨xs[k] - 1, by omega⟩
  rw [hj] at hi hd a b c
  refine ⟨j, by rw [hg, hj], by omega, by rw [h.due]; exact h.fil.due j (by omega), by rw [h.what]; exact h.fil.what j (by omega), fun hmem => ?_, hd, fun h0 => h.pos h0 _ hi⟩
  rcases List.mem_append.1 hmem with hmem | hmem
  · exact c hmem
  · have hn := ha.nodup
    rw [← List.take_append_drop k xs, List.drop_eq_getElem_cons hk, hj] at hn
    exact (List.nodup_append.1 hn).2.2 (j + 1) hmem (j + 1) (by simp) rfl
/-- the one before it, or the last that came before -/
def lastOf (s : St) (xs : List Nat) (k lid ldue : Nat) : Nat × Nat := if k = 0 then (lid, ldue) else (xs.getD (k - 1) 0, s.due (xs.getD (k - 1) 0))
theorem OrdI.ord {now : Nat} {D : List Nat} {z0 cur : St} {T : List Nat} {i lid ldue : Nat} (h : OrdI now D z0 cur T i lid ldue) {to : Nat} {xs : List Nat} (ha : Adv cur to xs) {k : Nat} (hk : k < xs.length) :
    (lastOf cur xs k lid ldue).2 < cur.due (xs.getD k 0) ∨ (lastOf cur xs k lid ldue).2 = cur.due (xs.getD k 0) ∧ (lastOf cur xs k lid ldue).1 < xs.getD k 0 := by
  have hg : xs.getD k 0 = xs[k] := by rw [List.getD_eq_getElem?_getD, List.getElem?_eq_getElem hk]; rfl
  unfold lastOf
  by_cases h0 : k = 0
  · rw [if_pos h0, hg]
    exact h.bef _ ((ha.mem _).1 (List.getElem_mem hk)).1
  · rw [if_neg h0, hg]
    have hg2 : xs.getD (k - 1) 0 = xs[k - 1] := by rw [List.getD_eq_getElem?_getD, List.getElem?_eq_getElem (by omega)]; rfl
    rw [hg2]
    exact List.pairwise_iff_getElem.1 ha.ord (k - 1) k (by omega) hk (by omega)
theorem OrdI.next {now : Nat} {D : List Nat} {z0 cur : St} {T : List Nat} {i lid ldue : Nat} (h : OrdI now D z0 cur T i lid ldue) (hok : Ok cur) {to : Nat} (hto : cur.now ≤ to) {xs : List Nat} (ha : Adv cur to xs) : OrdI now D z0 (cur.adv to) (T ++ xs) (i + 1) (lastOf cur xs xs.length lid ldue).1 (lastOf cur xs xs.length lid ldue).2 := by
  have hle : (lastOf cur xs xs.length lid ldue).2 ≤ to := by
    unfold lastOf
    by_cases h0 : xs.length = 0
    · rw [if_pos h0]; exact Nat.le_trans h.le hto
    · rw [if_neg h0]
      have hg2 : xs.getD (xs.length - 1) 0 = xs[xs.length - 1] := by rw [List.getD_eq_getElem?_getD, List.getElem?_eq_getElem (by omega)]; rfl
      rw [hg2]
      exact ((ha.mem _).1 (List.getElem_mem (by omega))).2
  have hmem : ∀ id, id ∈ (cur.adv to).ids ↔ id ∈ cur.ids ∧ to < cur.due id := fun id => by simp [St.adv]
  refine ⟨h.fil, h.last, h.due, h.what, fun id => ?_, ?_, fun _ id hid => ((hmem id).1 hid).2, fun id hid => .inl (Nat.lt_of_le_of_lt hle ((hmem id).1 hid).2), hle⟩
  · rw [hmem, h.ids, List.mem_append, ha.mem, h.ids]
    constructor
    · rintro ⟨⟨a, b⟩, c⟩
      exact ⟨a, fun e => by rcases e with e | ⟨_, e⟩; exact b e; omega⟩
    · rintro ⟨a, b⟩
      have b1 : id ∉ T := fun e => b (.inl e)
      exact ⟨⟨a, b1⟩, by
        rcases Nat.lt_or_ge to (cur.due id) with c | c
        · exact c
        · exact absurd (.inr ⟨⟨a, b1⟩, c⟩) b⟩
  · have := ha.len hok
    have := h.len
    simp only [List.length_append]
    omega
theorem OrdI.all {now : Nat} {D : List Nat} {z0 cur : St} {T : List Nat} {i lid ldue : Nat} (h : OrdI now D z0 cur T i lid ldue) (hok : Ok cur) (hn : cur.now = M) (hi : 0 < i) : T.length = D.length := by
  have : cur.ids = [] := List.eq_nil_iff_forall_not_mem.2 fun id hid => by
    have h1 := h.pos hi id hid
    have h2 := (hok.inn id hid).2.2.2
    omega
  have hl := h.len
  rw [this] at hl
  simpa using hl

/-- the cells of a list that came -/
theorem row3_cells {w : World} {base n : Nat} {tt : TypeId} {va : Option Addr} {cap : Nat} {cs : List Value} (h : w.ownsRow base tt 3 (.slice va n cap) n cs) (hn : n ≠ 0) : ∃ g, va = some ⟨g, 0, none⟩ ∧ base ≤ g ∧ g < w.heap.size ∧ ∀ j u, cs[j]? = some u → w.cell? ⟨g, j, none⟩ = some u := by
  rcases h.2 with ⟨_, h0⟩ | ⟨g, cap', cur, e, hb, hg, h1, h2, h3, h4⟩
  · exact absurd h0 hn
  · injection e with e1 e2 e3
    refine ⟨g, e1, hb, (Array.getElem?_eq_some_iff.1 hg).1, fun j u hu => cell_blk hg j ?_⟩
    rw [← h4, List.getElem?_take] at hu
    split at hu
    · simpa using hu
    · cases hu

/-- who was seen -/
def SeenAt (t : TypeId) (W : World) (B n : Nat) (T : List Nat) : Prop := ∃ cs : Array Value, W.heap[B]? = some (.cells cs t (0, 0)) ∧ cs.size = n ∧ ∀ j, j < n → cs[j]? = some (.bool (decide (j + 1 ∈ T)))
theorem SeenAt.keep {t : TypeId} {W W' : World} {B n : Nat} {T : List Nat} (h : SeenAt t W B n T) {S : Nat → Prop} (hk : Keep S W W') (hS : ¬ S B) : SeenAt t W' B n T := by
  obtain ⟨cs, h1, h2⟩ := h
  exact ⟨cs, hk.blk h1 hS, h2⟩
theorem SeenAt.set {t : TypeId} {W : World} {B n : Nat} {T : List Nat} (h : SeenAt t W B n T) {j : Nat} (hj : j < n) : SeenAt t (W.setCell ⟨B, j, none⟩ (.bool true)) B n (T ++ [j + 1]) := by
  obtain ⟨cs, h1, h2, h3⟩ := h
  refine ⟨_, set_blk h1 j _, by simpa using h2, fun i hi => ?_⟩
  rw [set_get _ _ _ _ (by omega)]
  by_cases hc : i = j
  · subst hc; rw [if_pos rfl]; simp
  · rw [if_neg hc, h3 i hi]
    congr 2
    simp [hc]

end Wh
end Go.Proofs.Ytbjapgajbljhfaa
