/- Chapter 8's laws: the document's queue in memory; New, Ahead, Front. -/
import Derived.Test.YtdokpaljlpfcjaaQTxt
import Derived.Test.YtdokpaljlpfcjaaQStp
namespace Go.Proofs.Ytdokpaljlpfcjaa
namespace Qu
open Go.RowKit

theorem by8_inj {n m : Int} (h : by8 n = by8 m) (n1 : -9223372036854775808 ≤ n) (n2 : n ≤ 9223372036854775807) (m1 : -9223372036854775808 ≤ m) (m2 : m ≤ 9223372036854775807) : n = m := by
  unfold by8 at h
  injection h with h0 h
  injection h with h1 h
  injection h with h2 h
  injection h with h3 h
  injection h with h4 h
  injection h with h5 h
  injection h with h6 h
  injection h with h7 _
  rw [← back8 n n1 n2, ← back8 m m1 m2, h0, h1, h2, h3, h4, h5, h6, h7]
theorem u8_inj {a b : Int} (h : UInt8.ofNat a.toNat = UInt8.ofNat b.toNat) (a1 : 0 ≤ a) (a2 : a < 256) (b1 : 0 ≤ b) (b2 : b < 256) : a = b := by
  have := congrArg UInt8.toNat h
  simp only [UInt8.toNat_ofNat'] at this
  omega
theorem strOfNums_inj : ∀ {x y : List Int}, (∀ a ∈ x, 0 ≤ a ∧ a < 256) → (∀ a ∈ y, 0 ≤ a ∧ a < 256) → x.map (fun n => UInt8.ofNat n.toNat) = y.map (fun n => UInt8.ofNat n.toNat) → x = y
  | [], [], _, _, _ => rfl
  | [], _ :: _, _, _, h => by cases h
  | _ :: _, [], _, _, h => by cases h
  | a :: x, b :: y, h1, h2, h => by
    simp only [List.map_cons, List.cons.injEq] at h
    have ha := h1 a (by simp)
    have hb := h2 b (by simp)
    rw [u8_inj h.1 ha.1 ha.2 hb.1 hb.2, strOfNums_inj (fun c hc => h1 c (by simp [hc])) (fun c hc => h2 c (by simp [hc])) h.2]
theorem by8_in (n : Int) : ∀ a ∈ by8 n, 0 ≤ a ∧ a < 256 := fun a ha => by
  simp only [by8, List.mem_cons, List.not_mem_nil, or_false] at ha
  rcases ha with rfl | rfl | rfl | rfl | rfl | rfl | rfl | rfl <;> exact ⟨Int.emod_nonneg _ (by decide), Int.emod_lt_of_pos _ (by decide)⟩
theorem tx_inj {n m : Int} (h : tx n = tx m) (hn : KI.ok n) (hm : KI.ok m) : n = m := by
  refine by8_inj (strOfNums_inj (by8_in n) (by8_in m) ?_) hn.1 hn.2 hm.1 hm.2
  have := congrArg ByteArray.data h
  simp only [tx, strOfNums] at this
  simpa using this
/-- a row of the document's, as cells -/
def itm (r : List (Nat × Int)) : List Value := r.flatMap fun e => [nv e.1, .string (tx e.2)]
theorem itm_len (r : List (Nat × Int)) : (itm r).length = r.length * 2 := by
  induction r with
  | nil => rfl
  | cons e r ih => simp only [itm, List.flatMap_cons, List.length_append, List.length_cons, List.length_nil] at *; omega
theorem itm_append (r t : List (Nat × Int)) : itm (r ++ t) = itm r ++ itm t := by simp [itm]
theorem itm_at {r : List (Nat × Int)} {i n : Nat} {k : Int} (h : r[i]? = some (n, k)) : (itm r)[i * 2]? = some (nv n) ∧ (itm r)[i * 2 + 1]? = some (.string (tx k)) := by
  induction r generalizing i with
  | nil => simp at h
  | cons e r ih =>
    have e1 : itm (e :: r) = nv e.1 :: .string (tx e.2) :: itm r := by simp [itm]
    cases i with
    | zero =>
      simp only [List.getElem?_cons_zero, Option.some.injEq] at h
      subst h
      rw [e1]
      exact ⟨rfl, rfl⟩
    | succ i =>
      simp only [List.getElem?_cons_succ] at h
      obtain ⟨h1, h2⟩ := ih h
      rw [e1, show (i + 1) * 2 = i * 2 + 1 + 1 by omega]
      simp only [List.getElem?_cons_succ]
      exact ⟨h1, h2⟩
theorem itm_one (r : List (Nat × Int)) : ∀ u ∈ itm r, u.oneCell' = true := fun u hu => by
  simp only [itm, List.mem_flatMap, List.mem_cons, List.not_mem_nil, or_false] at hu
  obtain ⟨e, _, rfl | rfl⟩ := hu <;> rfl
theorem info_item : (Try.prog.info? 76).map (fun i => (i.zero, i.size, i.bytes)) = some (some (.agg #[.int .i64 0, .string ⟨#[]⟩]), 2, 24) := by kernel_rfl
/-- the document's queue in memory -/
structure DqIn (S : Nat → Prop) (w : World) (P : Nat) (v : Value) (s : St Int) : Prop where
  blk : w.heap[P]? = some (.cells #[nv s.places, nv s.last, v] 49 (0, 0))
  row : w.ownsRow 0 76 2 v s.row.length (itm s.row)
  sp : S P
  sv : ∀ k, v.ownBlock = some k → S k
def Dq (S : Nat → Prop) (w : World) (P : Nat) (s : St Int) : Prop := ∃ v, DqIn S w P v s
theorem ownsRow_kp {w w' : World} {base : Nat} {e : TypeId} {size : Nat} {v : Value} {n : Nat} {xs : List Value} {T : Nat → Prop} (h : w.ownsRow base e size v n xs) (hk : Keep T w w') (hT : ∀ g, v.ownBlock = some g → ¬ T g) : w'.ownsRow base e size v n xs := by
  refine ⟨h.1, ?_⟩
  rcases h.2 with h' | ⟨g, cap, cur, h1, h2, h3, h4⟩
  · exact .inl h'
  · subst h1
    exact .inr ⟨g, cap, cur, rfl, h2, hk.blk h3 (hT g rfl), h4⟩
theorem ownsRow_sh {w : World} {b : Nat} {e : TypeId} {size : Nat} {v : Value} {n : Nat} {xs : List Value} (h : w.ownsRow b e size v n xs) : ∃ a c, v = .slice a n c ∧ (a = none → c = 0) ∧ n ≤ c := by
  rcases h.2 with ⟨rfl, rfl⟩ | ⟨g, cap, cur, h1, h2, _, h3, _⟩
  · exact ⟨_, _, rfl, fun _ => rfl, Nat.le_refl _⟩
  · exact ⟨_, _, h1, (fun e => by cases e), h3⟩
theorem Dq.stay {S : Nat → Prop} {w w' : World} {P : Nat} {s : St Int} (h : Dq S w P s) {T : Nat → Prop} (hk : Keep T w w') (hT : ∀ k, S k → ¬ T k) : Dq S w' P s := by
  obtain ⟨v, h⟩ := h
  exact ⟨v, hk.blk h.blk (hT P h.sp), ownsRow_kp h.row hk fun g e => hT g (h.sv g e), h.sp, h.sv⟩
theorem Dq.mono {S T : Nat → Prop} {w : World} {P : Nat} {s : St Int} (h : Dq S w P s) (hT : ∀ k, S k → T k) : Dq T w P s := by
  obtain ⟨v, h⟩ := h
  exact ⟨v, h.blk, h.row, hT P h.sp, fun k e => hT k (h.sv k e)⟩
/-- an element of a row of the document's -/
theorem DqIn.at_ {S : Nat → Prop} {w : World} {P : Nat} {v : Value} {s : St Int} (h : DqIn S w P v s) {i n : Nat} {k : Int} (hi : s.row[i]? = some (n, k)) : ∃ g cap, v = .slice (some ⟨g, 0, none⟩) s.row.length cap ∧ w.cell? ⟨g, i * 2, none⟩ = some (.int .i64 (n : Int)) ∧ w.cell? ⟨g, i * 2 + 1, none⟩ = some (.string (tx k)) := by
  have hl := (List.getElem?_eq_some_iff.1 hi).1
  obtain ⟨h1, h2⟩ := itm_at hi
  have hr := h.row
  rcases h.row.2 with ⟨_, h0⟩ | ⟨g, cap, cur, rfl, _⟩
  · omega
  · have c1 := hr.cells (g := g) rfl (i * 2) _ h1
    have c2 := hr.cells (g := g) rfl (i * 2 + 1) _ h2
    rw [Addr.add_mid, Nat.zero_add] at c1 c2
    exact ⟨g, cap, rfl, c1, c2⟩
theorem idx_first : ∀ {r : List (Nat × Int)} {k : Int} {n i : Nat}, r[i]? = some (n, k) → (∀ j e, j < i → r[j]? = some e → e.2 ≠ k) → idxL r k = some i
  | [], _, _, _, h, _ => by simp at h
  | e :: r, k, n, 0, h, _ => by simp at h; simp [idxL, h]
  | e :: r, k, n, i + 1, h, hp => by
    simp at h
    have hk : e.2 ≠ k := hp 0 e (by omega) rfl
    simp [idxL, hk, idx_first h fun j e' hj hje => hp (j + 1) e' (by omega) (by simpa using hje)]
theorem toList_inj {a b : ByteArray} (h : a.toList = b.toList) : a = b := by
  rw [ByteArray.toList_eq, ByteArray.toList_eq] at h
  cases a; cases b
  simp at h
  rw [h]
theorem refNew_any (c : Nat) (w : World) (h1 : 1 ≤ c) (h2 : c ≤ 65536) :
    Calls Try.prog 7 #[.int .i64 c] w fun e w' => ∃ P, e = .returned (.tuple #[.pointer (some ⟨P, 0, none⟩), .int .i64 0]) ∧ Dq (fun k => w.heap.size ≤ k) w' P (fresh c) ∧ Keep (fun _ => False) w w' := by
  have e1 : ¬ ((c : Int) < 1) := by omega
  have e2 : ¬ ((65536 : Int) < c) := by omega
  go_enter Try.func7, Try.ntmps7
  go_wp2
  go_ret2
  refine ⟨_, rfl, ⟨.slice none 0 0, heap_alloc_new w _, World.ownsRow_nil _ _ _ _, Nat.le_refl _, fun k e => by cases e⟩, Keep.alloc _ _ _⟩
set_option maxRecDepth 100000 in
set_option maxHeartbeats 4000000 in
theorem refAhead_any {S : Nat → Prop} {P : Nat} {s : St Int} (k : Int) (w : World) (h : Dq S w P s) (hr : ∀ e ∈ s.row, KI.ok e.2) (hk : KI.ok k) (hlen : s.row.length ≤ 65536) :
    Calls Try.prog 33 #[.pointer (some ⟨P, 0, none⟩), .string (tx k)] w fun e w' => e = .returned (.tuple #[.int .i64 ((aheadR s.row k).1 : Nat), .int .i64 ((aheadR s.row k).2 : Nat)]) ∧ w' = w := by
  obtain ⟨v, h⟩ := h
  have c2 := cell_blk h.blk 2 (v := v) rfl
  have HD := hide h
  have HR := hide hr
  have HK := hide hk
  obtain ⟨a, c, rfl, _⟩ := ownsRow_sh h.row
  clear h hr hk
  go_enter Try.func33, Try.ntmps33
  go_wp2
  go_loopw [6] (fun iv wx => ∃ i : Nat, i ≤ s.row.length ∧ iv = .int .i64 (i : Nat) ∧ wx = w ∧ Hid (∀ j e, j < i → s.row[j]? = some e → e.2 ≠ k)) (fun iv _ => s.row.length - (intOf iv).toNat)
  case atStart => exact ⟨0, Nat.zero_le _, rfl, rfl, fun j e h => absurd h (Nat.not_lt_zero _)⟩
  case round =>
    obtain ⟨i, hi, rfl, hw, HP⟩ := hrel
    subst hw
    by_cases hlt : i < s.row.length
    · have hlt' : (i : Int) < (s.row.length : Int) := by omega
      obtain ⟨⟨n, k2⟩, he⟩ : ∃ e, s.row[i]? = some e := ⟨_, List.getElem?_eq_getElem hlt⟩
      obtain ⟨g, cap, hv, z1, z2⟩ := HD.out.at_ he
      injection hv with hv _ _
      subst hv
      by_cases heq : k2 = k
      · subst heq
        have HA : Hid (aheadR s.row k2 = (i, 0)) := by
          have hx : idxL s.row k2 = some i := idx_first he HP.out
          show aheadR _ _ = _
          simp [aheadR, hx]
        go_wp2
        go_ret2
        rw [HA.out]
        exact ⟨rfl, rfl⟩
      · have hne : ¬ tx k2 = tx k := fun e => heq (tx_inj e (HR.out _ (List.mem_of_getElem? he)) HK.out)
        have hnb : ((tx k2).toList == (tx k).toList) = false := by
          have : (tx k2).toList ≠ (tx k).toList := fun e => hne (toList_inj e)
          simpa using this
        have HP2 : Hid (∀ j e, j < i + 1 → s.row[j]? = some e → e.2 ≠ k) := fun j e hj hje => by
          by_cases hji : j = i
          · subst hji
            rw [he] at hje
            injection hje with hje
            subst hje
            exact heq
          · exact HP.out j e (by omega) hje
        generalize tx k2 = T2 at *
        go_wp2
        go_roundw
        case rel => exact ⟨i + 1, by omega, by go_num, by simp, HP2.out⟩
        case measure => simp [intOf]; omega
    · have hlt' : ¬ (i : Int) < (s.row.length : Int) := by omega
      have HA : Hid (aheadR s.row k = (0, 83)) := by
        have hx : idxL s.row k = none := idxL_none.2 fun e he => by
          obtain ⟨j, hj⟩ := List.mem_iff_getElem?.1 he
          exact HP.out j e (by have := (List.getElem?_eq_some_iff.1 hj).1; omega) hj
        show aheadR _ _ = _
        simp [aheadR, hx]
      go_wp2
      go_ret2
      rw [HA.out]
      exact ⟨rfl, rfl⟩
end Qu
end Go.Proofs.Ytdokpaljlpfcjaa
