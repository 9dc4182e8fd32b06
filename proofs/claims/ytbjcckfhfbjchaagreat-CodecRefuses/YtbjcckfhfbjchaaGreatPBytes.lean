import Derived.Test.YtbjcckfhfbjchaaGreatChecked
import Derived.WalkKit
import Derived.Laws.BitsAllLaws
import Derived.Laws.AppendOwnNone
import Derived.Laws.CopyOwn
import Derived.Deep.OwnRows
import Derived.Below
import Derived.RegionTactic
import Derived.WalkSpells
/- The mathematics of package pack: how a number stands in bytes, what is taken off bytes, writers and readers as values. No program. -/
namespace Go.Proofs.YtbjcckfhfbjchaaGreat.K

/-- a number in bytes, in at most so many steps -/
def numF : Nat → Nat → List Nat
  | 0, n => [n]
  | f + 1, n => if n < 128 then [n] else (n % 128 + 128) :: numF f (n / 128)
/-- a number in bytes -/
def num (n : Nat) : List Nat := numF n n

theorem numF_any (f : Nat) : ∀ g n : Nat, n ≤ f → n ≤ g → numF f n = numF g n := by
  induction f with
  | zero =>
    intro g n hf hg
    obtain rfl : n = 0 := by omega
    cases g with
    | zero => rfl
    | succ g => rfl
  | succ f ih =>
    intro g n hf hg
    cases g with
    | zero =>
      obtain rfl : n = 0 := by omega
      rfl
    | succ g =>
      by_cases h : n < 128
      · simp only [numF, if_pos h]
      · simp only [numF, if_neg h]
        rw [ih g (n / 128) (by omega) (by omega)]
theorem num_small {n : Nat} (h : n < 128) : num n = [n] := by
  unfold num
  cases n with
  | zero => rfl
  | succ n => simp only [numF, if_pos h]
theorem num_big {n : Nat} (h : 128 ≤ n) : num n = (n % 128 + 128) :: num (n / 128) := by
  cases n with
  | zero => omega
  | succ n =>
    have h' : ¬ n + 1 < 128 := by omega
    unfold num
    simp only [numF, if_neg h']
    rw [numF_any n ((n + 1) / 128) ((n + 1) / 128) (by omega) (Nat.le_refl _)]

theorem num_lt (n : Nat) : ∀ d ∈ num n, d < 256 := by
  induction n using Nat.strongRecOn with
  | _ n ih =>
    intro d hd
    by_cases h : n < 128
    · rw [num_small h] at hd; simp at hd; omega
    · rw [num_big (by omega)] at hd
      simp only [List.mem_cons] at hd
      rcases hd with rfl | hd
      · omega
      · exact ih _ (by omega) d hd

theorem num_pos (n : Nat) : 1 ≤ (num n).length := by
  by_cases h : n < 128
  · rw [num_small h]; simp
  · rw [num_big (by omega)]; simp

theorem num_len (k : Nat) : ∀ n : Nat, n < 128 ^ (k + 1) → (num n).length ≤ k + 1 := by
  induction k with
  | zero => intro n hn; rw [num_small (by simpa using hn)]; simp
  | succ k ih =>
    intro n hn
    by_cases h : n < 128
    · rw [num_small h]; simp
    · rw [num_big (by omega)]
      simp only [List.length_cons]
      have : n / 128 < 128 ^ (k + 1) := by rw [Nat.div_lt_iff_lt_mul (by decide)]; rw [Nat.pow_succ] at hn; exact hn
      have := ih _ this
      omega

theorem num_len9 {n : Nat} (h : n ≤ 9223372036854775807) : (num n).length ≤ 9 :=
  num_len 8 n (Nat.lt_of_le_of_lt h (by decide))

/-- the number that stands at the front of bytes, and how many bytes it has: k bytes may be looked at yet, i were, they say n -/
def pkGo : Nat → Nat → Nat → List Nat → Except Nat (Nat × Nat)
  | 0, _, _, _ => .error 22
  | _ + 1, _, _, [] => .error 21
  | k + 1, i, n, b :: l => if 128 ≤ b then pkGo k (i + 1) (n + (b - 128) * 128 ^ i) l else if b = 0 ∧ 0 < i then .error 22 else .ok (n + b * 128 ^ i, i + 1)

def pk (l : List Nat) : Except Nat (Nat × Nat) := pkGo 9 0 0 l

theorem pkGo_num (k : Nat) : ∀ (i m n : Nat) (r : List Nat), (num n).length ≤ k → (0 < n ∨ i = 0) → pkGo k i m (num n ++ r) = .ok (m + n * 128 ^ i, i + (num n).length) := by
  induction k with
  | zero => intro i m n r h; have := num_pos n; omega
  | succ k ih =>
    intro i m n r h h0
    by_cases hs : n < 128
    · rw [num_small hs]
      simp only [List.cons_append, List.nil_append, pkGo, List.length_cons, List.length_nil]
      rw [if_neg (by omega), if_neg (by omega)]
    · have e : num n = (n % 128 + 128) :: num (n / 128) := num_big (by omega)
      rw [e] at h ⊢
      simp only [List.length_cons] at h ⊢
      simp only [List.cons_append, pkGo]
      rw [if_pos (by omega), ih (i + 1) _ (n / 128) r (by omega) (.inl (by omega))]
      have : m + (n % 128 + 128 - 128) * 128 ^ i + n / 128 * 128 ^ (i + 1) = m + n * 128 ^ i := by
        rw [Nat.add_sub_cancel, Nat.pow_succ]
        have h1 : n = n % 128 + 128 * (n / 128) := by omega
        have h2 : n * 128 ^ i = n % 128 * 128 ^ i + n / 128 * (128 ^ i * 128) := by
          calc n * 128 ^ i = (n % 128 + 128 * (n / 128)) * 128 ^ i := by rw [← h1]
            _ = n % 128 * 128 ^ i + n / 128 * (128 ^ i * 128) := by rw [Nat.add_mul, Nat.mul_comm 128 (n / 128), Nat.mul_assoc, Nat.mul_comm 128 (128 ^ i)]
        omega
      rw [this]
      congr 2
      omega

theorem pk_num {n : Nat} (h : n ≤ 9223372036854775807) (r : List Nat) : pk (num n ++ r) = .ok (n, (num n).length) := by
  unfold pk
  rw [pkGo_num 9 0 0 n r (num_len9 h) (.inr rfl)]
  simp

/-- what is taken lies in the bytes, and is the number's one row -/
theorem pkGo_ok (k : Nat) : ∀ (i m n s : Nat) (l : List Nat), (∀ d ∈ l, d < 256) → pkGo k i m l = .ok (n, s) → i < s ∧ s ≤ i + k ∧ s - i ≤ l.length ∧ ∃ x, n = m + x * 128 ^ i ∧ num x = l.take (s - i) ∧ (0 < x ∨ i = 0) ∧ x < 128 ^ (s - i) := by
  induction k with
  | zero => intro i m n s l _ h; simp [pkGo] at h
  | succ k ih =>
    intro i m n s l hl h
    cases l with
    | nil => simp [pkGo] at h
    | cons b l =>
      have hb8 : b < 256 := hl b (by simp)
      simp only [pkGo] at h
      split at h
      · rename_i hb
        obtain ⟨h1, h2, h3, x, h4, h5, h6, h7⟩ := ih _ _ _ _ _ (fun d hd => hl d (by simp [hd])) h
        have hx : 0 < x := by rcases h6 with h6 | h6 <;> omega
        refine ⟨by omega, by omega, by simp only [List.length_cons]; omega, b - 128 + 128 * x, ?_, ?_, .inl (by omega), ?_⟩
        · rw [h4, Nat.pow_succ, Nat.add_mul, Nat.mul_comm 128 x, Nat.mul_assoc x 128, Nat.mul_comm 128 (128 ^ i)]
          omega
        · rw [num_big (by omega), show s - i = (s - (i + 1)) + 1 by omega, List.take_succ_cons, ← h5, show (b - 128 + 128 * x) % 128 + 128 = b by omega, show (b - 128 + 128 * x) / 128 = x by omega]
        · rw [show s - i = (s - (i + 1)) + 1 by omega, Nat.pow_succ]
          omega
      · split at h
        · cases h
        · simp only [Except.ok.injEq, Prod.mk.injEq] at h
          obtain ⟨h1, h2⟩ := h
          rename_i hb hc
          refine ⟨by omega, by omega, by simp only [List.length_cons]; omega, b, h1.symm, ?_, by omega, ?_⟩
          · rw [← h2, show i + 1 - i = 1 by omega, num_small (by omega)]
            simp
          · rw [← h2, show i + 1 - i = 1 by omega]; omega

theorem pk_ok {l : List Nat} (hl : ∀ d ∈ l, d < 256) {n s : Nat} (h : pk l = .ok (n, s)) : 0 < s ∧ s ≤ 9 ∧ s ≤ l.length ∧ num n = l.take s ∧ n ≤ 9223372036854775807 := by
  obtain ⟨h1, h2, h3, x, h4, h5, _, h7⟩ := pkGo_ok 9 0 0 n s l hl h
  simp only [Nat.pow_zero, Nat.mul_one, Nat.zero_add, Nat.sub_zero] at h4 h5 h7 h3
  subst h4
  have h9 : 128 ^ s ≤ 128 ^ 9 := Nat.pow_le_pow_right (by decide) (by omega)
  have : 128 ^ 9 = 9223372036854775808 := by decide
  exact ⟨h1, by omega, h3, h5, by omega⟩

/-- a writer: what was laid, how many bytes at most, the fault -/
structure WS where
  laid : List Nat
  most : Nat
  fault : Nat

def WS.fail (s : WS) (e : Nat) : WS := if s.fault = 0 then { s with fault := e } else s
/-- bytes of a primitive value -/
def WS.lay (s : WS) (bs : List Nat) : WS := if s.laid.length + bs.length ≤ s.most then { s with laid := s.laid ++ bs } else s.fail 20

/-- a reader -/
structure RS where
  data : List Nat
  taken : Nat
  fault : Nat

def RS.fail (s : RS) (e : Nat) : RS := if s.fault = 0 then { s with fault := e } else s

end Go.Proofs.YtbjcckfhfbjchaaGreat.K

/- Package pack: memory: which blocks stay, bytes that are read, rows of the call's own, writers and readers in memory. -/
namespace Go.Proofs.YtbjcckfhfbjchaaGreat
open Go.RowKit

theorem hide {p : Prop} (h : p) : Hid p := h
theorem ret_int {k : IntKind} {a b : Int} (h : a = b) : Ending.returned (.int k a) = .returned (.int k b) := by rw [h]

/-- all blocks but those of S stay -/
structure Keep (S : Nat → Prop) (w w' : World) : Prop where
  os : w'.os = w.os
  tape : w'.tape = w.tape
  output : w'.output = w.output
  size : w.heap.size ≤ w'.heap.size
  block : ∀ k, k < w.heap.size → ¬ S k → w'.heap[k]? = w.heap[k]?

theorem Keep.refl (S : Nat → Prop) (w : World) : Keep S w w := ⟨rfl, rfl, rfl, Nat.le_refl _, fun _ _ _ => rfl⟩
theorem Keep.trans {S T : Nat → Prop} {a b c : World} (h : Keep S a b) (k : Keep T b c) (hT : ∀ i, T i → S i ∨ a.heap.size ≤ i) : Keep S a c :=
  ⟨k.os.trans h.os, k.tape.trans h.tape, k.output.trans h.output, Nat.le_trans h.size k.size, fun i hi hn => (k.block i (Nat.lt_of_lt_of_le hi h.size) (fun ht => (hT i ht).elim hn (fun h' => by omega))).trans (h.block i hi hn)⟩
theorem Keep.more {S : Nat → Prop} {a b c : World} (h : Keep S a b) (k : Keep S b c) : Keep S a c := h.trans k fun _ h => .inl h
theorem Keep.mono {S T : Nat → Prop} {a b : World} (h : Keep S a b) (hT : ∀ i, S i → T i) : Keep T a b := ⟨h.os, h.tape, h.output, h.size, fun k hk hn => h.block k hk fun hs => hn (hT k hs)⟩
theorem Keep.ofBelow {S : Nat → Prop} {a b : World} {B : Nat} (h : Below B a b) (hB : a.heap.size ≤ B) : Keep S a b := ⟨h.os, h.tape, h.output, h.size, fun k hk _ => h.block k (by omega)⟩
theorem Keep.below {S : Nat → Prop} {a b : World} {B : Nat} (h : Keep S a b) (hB : B ≤ a.heap.size) (hS : ∀ i, S i → B ≤ i) : Below B a b := ⟨h.os, h.tape, h.output, h.size, fun k hk => h.block k (by omega) fun hs => by have := hS k hs; omega⟩
theorem Keep.alloc (S : Nat → Prop) (w : World) (o : Obj) : Keep S w (w.alloc o) := ⟨rfl, rfl, rfl, by simp, fun k hk _ => Below.heap_alloc _ _ _ hk⟩
theorem Keep.drew (S : Nat → Prop) (w : World) : Keep S w w.drew := ⟨rfl, rfl, rfl, Nat.le_refl _, fun _ _ _ => rfl⟩
theorem Keep.setCell {S : Nat → Prop} (w : World) {p : Addr} (hp : S p.block) (u : Value) : Keep S w (w.setCell p u) := ⟨rfl, rfl, rfl, by simp [World.setCell], fun k _ hn => Below.heap_setCell _ _ _ _ fun e => hn (e ▸ hp)⟩
theorem Keep.grown {S : Nat → Prop} {w w' : World} {row : Option Nat} (h : w.grownBy w' row) (hr : ∀ k, row = some k → S k) : Keep S w w' := ⟨h.os, h.tape, h.output, h.size, fun k hk hn => h.block k hk fun e => hn (hr k e.symm)⟩
theorem Keep.grownNew {S : Nat → Prop} {a w w' : World} {row : Option Nat} (h : Keep S a w) (hg : w.grownBy w' row) (hr : ∀ k, row = some k → S k ∨ a.heap.size ≤ k) : Keep S a w' :=
  h.trans (T := fun k => row = some k) (Keep.grown hg fun _ e => e) hr
theorem Keep.cell {S : Nat → Prop} {w w' : World} (h : Keep S w w') {p : Addr} {v : Value} (hc : w.cell? p = some v) (hp : ¬ S p.block) : w'.cell? p = some v :=
  (World.cell?_of_block (w := w) (h.block p.block (block_lt_of_cell hc) hp)).trans hc
theorem Keep.blk {S : Nat → Prop} {w w' : World} (h : Keep S w w') {p : Nat} {o : Obj} (hc : w.heap[p]? = some o) (hp : ¬ S p) : w'.heap[p]? = some o :=
  (h.block p (Array.getElem?_eq_some_iff.1 hc).1 hp).trans hc

/-- bytes as cells -/
def B8 (l : List Nat) : List Value := l.map fun (d : Nat) => Value.int .u8 (d : Int)
theorem B8_length (l : List Nat) : (B8 l).length = l.length := by simp [B8]
theorem B8_one (l : List Nat) : ∀ v ∈ B8 l, v.oneCell' = true := by
  intro v hv
  simp only [B8, List.mem_map] at hv
  obtain ⟨d, _, rfl⟩ := hv
  rfl
theorem B8_at (l : List Nat) (i : Nat) (h : i < l.length) : (B8 l)[i]? = some (.int .u8 ((l.getD i 0 : Nat) : Int)) := by simp [B8, h]
theorem B8_append (a b : List Nat) : B8 (a ++ b) = B8 a ++ B8 b := by simp [B8]

/-- What a slice of bytes reads: n bytes l from an address on (or none at all). -/
def Rd (w : World) (a : Option Addr) (n : Nat) (l : List Nat) : Prop :=
  n = l.length ∧ n < 281474976710656 ∧ (∀ d ∈ l, d < 256) ∧ (n = 0 ∨ ∃ b off, a = some ⟨b, off, none⟩ ∧ ∀ i, i < n → w.cell? ⟨b, off + i, none⟩ = some (.int .u8 ((l.getD i 0 : Nat) : Int)))

theorem Rd.stay {w w' : World} {a : Option Addr} {n : Nat} {l : List Nat} {S : Nat → Prop} (h : Rd w a n l) (hk : Keep S w w') (hS : ∀ b off, a = some ⟨b, off, none⟩ → ¬ S b) : Rd w' a n l := by
  obtain ⟨h1, h2, h3, h4⟩ := h
  refine ⟨h1, h2, h3, ?_⟩
  rcases h4 with h4 | ⟨b, off, rfl, h4⟩
  · exact .inl h4
  · exact .inr ⟨b, off, rfl, fun i hi => hk.cell (h4 i hi) (hS b off rfl)⟩
theorem Rd.below {w w' : World} {a : Option Addr} {n : Nat} {l : List Nat} {B : Nat} (h : Rd w a n l) (hB : w.heap.size ≤ B) (hb : Below B w w') : Rd w' a n l :=
  h.stay (S := fun _ => False) (Keep.ofBelow hb hB) fun _ _ _ h => h
theorem Rd.keep {w w' : World} {a : Option Addr} {n : Nat} {l : List Nat} (h : Rd w a n l) (hb : Below w.heap.size w w') : Rd w' a n l := h.below (Nat.le_refl _) hb
theorem further {w0 w w' : World} (h : Below w0.heap.size w0 w) (hb : Below w.heap.size w w') : Below w0.heap.size w0 w' := h.trans (hb.mono h.size)

theorem Rd.cells {w : World} {ad : Addr} {n : Nat} {l : List Nat} (h : Rd w (some ad) n l) : ∀ j u, (B8 l)[j]? = some u → w.cell? (ad.add j) = some u := by
  obtain ⟨h1, _, _, h4⟩ := h
  intro j u hu
  have hj : j < l.length := by
    rcases Nat.lt_or_ge j l.length with h' | h'
    · exact h'
    · rw [List.getElem?_eq_none (by rw [B8_length]; exact h')] at hu; cases hu
  rcases h4 with h4 | ⟨b, off, e, h4⟩
  · omega
  · injection e with e; subst e
    rw [B8_at l j hj] at hu
    injection hu with hu; subst hu
    have hadd : (⟨b, off, none⟩ : Addr).add j = ⟨b, off + j, none⟩ := by unfold Addr.add; split <;> simp_all
    rw [hadd]
    exact h4 j (by omega)

theorem info_u8 : (Tryz.prog.info? 5).map (fun i => (i.zero, i.size, i.bytes)) = some (some (.int .u8 0), 1, 1) := by kernel_rfl

theorem ownsRow_base {w : World} {b b' : Nat} {e : TypeId} {size : Nat} {v : Value} {n : Nat} {xs : List Value} (h : w.ownsRow b e size v n xs) (hb : b' ≤ b) : w.ownsRow b' e size v n xs := by
  refine ⟨h.1, ?_⟩
  rcases h.2 with h' | ⟨g, cap, cur, h1, h2, h3⟩
  · exact .inl h'
  · exact .inr ⟨g, cap, cur, h1, Nat.le_trans hb h2, h3⟩

theorem ownsRow_shape {w : World} {b : Nat} {e : TypeId} {size : Nat} {v : Value} {n : Nat} {xs : List Value} (h : w.ownsRow b e size v n xs) : ∃ a c, v = .slice a n c := by
  rcases h.2 with ⟨rfl, rfl⟩ | ⟨g, cap, cur, h1, h2, h3⟩
  · exact ⟨_, _, rfl⟩
  · exact ⟨_, _, h1⟩

/-- where the row of a slice lies behind an append: where it lay, or in a new block -/
def NewBlk (w : World) (v v' : Value) : Prop := v'.ownBlock = v.ownBlock ∨ ∀ k, v'.ownBlock = some k → w.heap.size ≤ k

/-- append to a row of the call's own -/
theorem wpList_append_own2 {P : Program} {w : World} {ops : Array Oper} {rest : List Oper} {o : Oper} {a : Act} {Q : Exit → Act → World → Prop} (hgd : o.guard = none) (s x : Operand) (t : TypeId)
    (ho : o.op = .call { callee := .builtin .append, args := #[s, x], argTypes := #[t, t] })
    (base : Nat) (e : TypeId) (i : TypeInfo) (z : Value) (size bytes : Nat) (ht : P.underlying t = some (.slice e)) (hi : P.info? e = some i) (hz : i.zero = some z)
    (hsize : i.size = size) (hby : i.bytes = bytes) (hzs : z.cells.size = size) (hsz : 0 < size)
    (v : Value) (n : Nat) (xs : List Value) (hs : a.eval s = v) (hown : w.ownsRow base e size v n xs)
    (ad : Addr) (m c : Nat) (news : List Value) (hx : a.eval x = .slice (some ad) m c) (hl : news.length = m * size) (hnews : ∀ j u, news[j]? = some u → w.cell? (ad.add j) = some u) (h1 : ∀ u ∈ news, u.oneCell' = true)
    (h63 : n + m ≤ maxLen) (hbytes : (n + m) * bytes ≤ 140737488355328) (hbase : base ≤ w.heap.size)
    (h : ∀ v' w', w'.ownsRow base e size v' (n + m) (xs ++ news) → w.grownBy w' v.ownBlock → NewBlk w v v' → wpList P ops Q rest (a.put o.dst v') w') : wpList P ops Q (o :: rest) a w := by
  rcases hown.2 with ⟨rfl, rfl⟩ | ⟨g, cap, cur, rfl, hbg, hg, hnc, hcm, hcs, htake⟩
  · have hxs : xs = [] := List.eq_nil_of_length_eq_zero (by simpa using hown.1)
    subst hxs
    refine wpList_append_own w hgd s x t ho w.heap.size e i z size bytes ht hi hz hsize hby hzs hsz _ 0 [] hs (World.ownsRow_nil w _ e size) ad m c news hx hl hnews h1 h63 hbytes (Nat.le_refl _) ?_
    intro v' w' h2 h3 h4
    exact h v' w' (ownsRow_base h2 hbase) h3 (.inr fun k hk => (h2.lt k hk).1)
  · by_cases hroom : n + m ≤ cap
    · refine wpList_append_fits w hgd s x t ho base e i size ht hi hsize g n cap xs hs hown ad m c news hx hl hnews h1 hroom ?_
      intro w' h2 h3
      exact h _ w' h2 h3 (.inl rfl)
    · refine wpList_append_grows w hgd s x t ho e i z size bytes ht hi hz hsize hby hzs hsz (some ⟨g, 0, none⟩) n cap xs hs (fun e => by cases e) hown.1 (fun b hb => by injection hb with hb; subst hb; exact hown.cells rfl) ad m c news hx hl hnews h1 (by omega) h63 hbytes ?_
      intro v' w' h2 h3
      exact h v' w' (ownsRow_base h2 hbase) ⟨h3.os, h3.tape, h3.output, h3.size, fun k hk _ => h3.block k hk (by simp)⟩ (.inr fun k hk => (h2.lt k hk).1)

/-- bytes appended to a row of the call's own -/
theorem wpList_append_rd {w : World} {ops : Array Oper} {rest : List Oper} {o : Oper} {ac : Act} {Q : Exit → Act → World → Prop} (hgd : o.guard = none) (s x : Operand)
    (ho : o.op = .call { callee := .builtin .append, args := #[s, x], argTypes := #[24, 24] })
    (v : Value) (xs : List Nat) (base : Nat) (hs : ac.eval s = v) (hown : w.ownsRow base 5 1 v xs.length (B8 xs))
    (a : Option Addr) (n c : Nat) (l : List Nat) (hx : ac.eval x = .slice a n c) (hr : Rd w a n l) (h0 : a = none → c = 0)
    (hsz : xs.length + n ≤ 140737488355328) (hbase : base ≤ w.heap.size)
    (h : ∀ v' w', w'.ownsRow base 5 1 v' (xs ++ l).length (B8 (xs ++ l)) → w.grownBy w' v.ownBlock → NewBlk w v v' → wpList Tryz.prog ops Q rest (ac.put o.dst v') w') : wpList Tryz.prog ops Q (o :: rest) ac w := by
  obtain ⟨i0, hi, hz0, hz1, hz2⟩ := info_parts info_u8
  cases a with
  | none =>
    have hn : n = 0 := hr.2.2.2.elim id (fun ⟨b, off, e, _⟩ => by cases e)
    subst hn
    rw [h0 rfl] at hx
    have hl : l = [] := List.eq_nil_of_length_eq_zero hr.1.symm
    subst hl
    refine wpList_append_own_none hgd s x 24 ho base 5 i0 1 Tryz.underlying24 hi v xs.length (B8 xs) hs hown hx ?_
    refine h v w (by simpa using hown) ⟨rfl, rfl, rfl, Nat.le_refl _, fun _ _ _ => rfl⟩ (.inl rfl)
  | some ad =>
    refine wpList_append_own2 hgd s x 24 ho base 5 i0 (.int .u8 0) 1 1 Tryz.underlying24 hi hz0 hz1 hz2 rfl (by decide) v xs.length (B8 xs) hs hown ad n c (B8 l) hx (by rw [B8_length, hr.1]; simp) hr.cells (B8_one l) (by unfold maxLen; omega) (by omega) hbase ?_
    intro v' w' h1 h2 h3
    refine h v' w' ?_ h2 h3
    rw [← B8_append] at h1
    rw [List.length_append, ← hr.1]
    exact h1

/-- what a row of the call's own reads -/
theorem ownsRow_rd {w : World} {base : Nat} {v : Value} {l : List Nat} (h : w.ownsRow base 5 1 v l.length (B8 l)) (hd : ∀ d ∈ l, d < 256) (hs : l.length < 281474976710656) :
    ∃ a c, v = .slice a l.length c ∧ Rd w a l.length l ∧ (a = none → c = 0) ∧ l.length ≤ c ∧ (∀ ad, a = some ad → ∃ g, ad = ⟨g, 0, none⟩ ∧ base ≤ g) := by
  rcases h.2 with ⟨rfl, h0⟩ | ⟨g, cap, cur, rfl, hb, hg, hc, _, hcs, htk⟩
  · exact ⟨none, 0, by rw [h0], ⟨rfl, hs, hd, .inl h0⟩, fun _ => rfl, by omega, (fun ad e => by cases e)⟩
  · refine ⟨_, cap, rfl, ⟨rfl, hs, hd, .inr ⟨g, 0, rfl, fun i hi => ?_⟩⟩, (fun e => by cases e), hc, (fun ad e => ⟨g, (by injection e with e; exact e.symm), hb⟩)⟩
    have := h.cells (g := g) rfl i (.int .u8 ((l.getD i 0 : Nat) : Int)) (B8_at l i hi)
    rw [Addr.add_lit] at this
    exact this

/-- the blocks of a writer: its own, and the row that it has laid in -/
def Wset (p : Nat) (v : Value) (k : Nat) : Prop := k = p ∨ v.ownBlock = some k

/-- a writer in memory -/
structure Wr (w : World) (p : Nat) (v : Value) (s : K.WS) : Prop where
  blk : w.heap[p]? = some (.cells #[v, .int .i64 (s.most : Nat), .int .i64 (s.fault : Nat)] 128 (0, 0))
  row : w.ownsRow 0 5 1 v s.laid.length (B8 s.laid)
  byt : ∀ d ∈ s.laid, d < 256
  len : s.laid.length ≤ s.most
  top : s.most ≤ 16777216

theorem Wr.ne {w : World} {p : Nat} {v : Value} {s : K.WS} (h : Wr w p v s) : v.ownBlock ≠ some p := by
  intro e
  rcases h.row.2 with ⟨rfl, _⟩ | ⟨g, cap, cur, rfl, _, hg, _⟩
  · cases e
  · simp only [Value.ownBlock, Option.some.injEq] at e
    subst e
    rw [h.blk] at hg
    simp at hg

theorem Wr.keep {w w' : World} {p : Nat} {v : Value} {s : K.WS} (h : Wr w p v s) {S : Nat → Prop} (hk : Keep S w w') (hS : ∀ k, Wset p v k → ¬ S k) : Wr w' p v s := by
  refine ⟨hk.blk h.blk (hS p (.inl rfl)), ?_, h.byt, h.len, h.top⟩
  refine ⟨h.row.1, ?_⟩
  rcases h.row.2 with h' | ⟨g, cap, cur, rfl, hb, hg, rest⟩
  · exact .inl h'
  · exact .inr ⟨g, cap, cur, rfl, hb, hk.blk hg (hS g (.inr rfl)), rest⟩

/-- a writer at p, in a world that came of w0 by what writing does -/
structure WAt (S : Nat → Prop) (w0 : World) (p : Nat) (s : K.WS) (w : World) : Prop where
  keep : Keep S w0 w
  wr : ∃ v, Wr w p v s ∧ ∀ k, Wset p v k → S k ∨ w0.heap.size ≤ k

/-- whatever else is done, the writer's blocks untouched -/
theorem WAt.other {S : Nat → Prop} {w0 : World} {p : Nat} {s : K.WS} {w w' : World} (h : WAt S w0 p s w) {T : Nat → Prop} (hk : Keep T w w') (hT : ∀ k, T k → w.heap.size ≤ k) : WAt S w0 p s w' := by
  obtain ⟨v, hv, hs⟩ := h.wr
  refine ⟨h.keep.trans hk fun i hi => .inr (Nat.le_trans h.keep.size (hT i hi)), v, hv.keep hk fun k hw ht => ?_, hs⟩
  have := hT k ht
  rcases hw with rfl | hw
  · have := (Array.getElem?_eq_some_iff.1 hv.blk).1; omega
  · have := (hv.row.lt k hw).2; omega

theorem WAt.below {S : Nat → Prop} {w0 : World} {p : Nat} {s : K.WS} {w w' : World} (h : WAt S w0 p s w) (hb : Below w.heap.size w w') : WAt S w0 p s w' :=
  h.other (T := fun _ => False) (Keep.ofBelow hb (Nat.le_refl _)) fun _ h => h.elim

/-- a reader in memory: bytes of its own -/
structure Rr (w : World) (q : Nat) (s : K.RS) : Prop where
  ex : ∃ a c, w.heap[q]? = some (.cells #[.slice a s.data.length c, .int .i64 (s.taken : Nat), .int .i64 (s.fault : Nat)] 136 (0, 0)) ∧ Rd w a s.data.length s.data ∧ (a = none → c = 0) ∧ s.data.length ≤ c ∧ (∀ b off, a = some ⟨b, off, none⟩ → b < q)
  tak : s.taken ≤ s.data.length
  top : s.data.length ≤ 16777216

theorem Rr.stay {w w' : World} {q : Nat} {s : K.RS} (h : Rr w q s) {S : Nat → Prop} (hk : Keep S w w') (hq : ∀ k, k ≤ q → ¬ S k) : Rr w' q s := by
  obtain ⟨a, c, h1, h2, h3, h4, h5⟩ := h.ex
  exact ⟨⟨a, c, hk.blk h1 (hq q (Nat.le_refl _)), h2.stay hk fun b off e => hq b (Nat.le_of_lt (h5 b off e)), h3, h4, h5⟩, h.tak, h.top⟩
theorem Rr.lt {w : World} {q : Nat} {s : K.RS} (h : Rr w q s) : q < w.heap.size := by
  obtain ⟨a, c, h1, _⟩ := h.ex
  exact (Array.getElem?_eq_some_iff.1 h1).1
theorem Rr.keep {w w' : World} {q : Nat} {s : K.RS} (h : Rr w q s) {S : Nat → Prop} (hk : Keep S w w') (hq : ∀ k, k < w.heap.size → ¬ S k) : Rr w' q s :=
  h.stay hk fun k hk => hq k (Nat.lt_of_le_of_lt hk h.lt)

end Go.Proofs.YtbjcckfhfbjchaaGreat

/- Package pack: contracts of the writer's functions. -/
namespace Go.Proofs.YtbjcckfhfbjchaaGreat
open Go.RowKit

theorem cell0 {w : World} {p : Nat} {x y z : Value} {T : TypeId} (h : w.heap[p]? = some (.cells #[x, y, z] T (0, 0))) : w.cell? ⟨p, 0, none⟩ = some x := by rw [cell_of_row _ _ 0 _ _ _ h]; rfl
theorem cell1 {w : World} {p : Nat} {x y z : Value} {T : TypeId} (h : w.heap[p]? = some (.cells #[x, y, z] T (0, 0))) : w.cell? ⟨p, 1, none⟩ = some y := by rw [cell_of_row _ _ 1 _ _ _ h]; rfl
theorem cell2 {w : World} {p : Nat} {x y z : Value} {T : TypeId} (h : w.heap[p]? = some (.cells #[x, y, z] T (0, 0))) : w.cell? ⟨p, 2, none⟩ = some z := by rw [cell_of_row _ _ 2 _ _ _ h]; rfl

theorem Wr.set2 {w : World} {p : Nat} {v : Value} {s : K.WS} (h : Wr w p v s) (e : Nat) : Wr (w.setCell ⟨p, 2, none⟩ (.int .i64 (e : Nat))) p v { s with fault := e } := by
  have hk : Keep (fun k => k = p) w (w.setCell ⟨p, 2, none⟩ (.int .i64 (e : Nat))) := Keep.setCell (S := fun k => k = p) w (p := ⟨p, 2, none⟩) rfl _
  refine ⟨?_, ?_, h.byt, h.len, h.top⟩
  · rw [heap_setCell_same w p 2 _ _ _ h.blk]; rfl
  · refine ⟨h.row.1, ?_⟩
    rcases h.row.2 with h' | ⟨g, cap, cur, rfl, hb, hg, rest⟩
    · exact .inl h'
    · exact .inr ⟨g, cap, cur, rfl, hb, hk.blk hg (fun e => h.ne (by rw [e]; rfl)), rest⟩

/-- what the walk wants to see of a writer -/
theorem WAt.see {S : Nat → Prop} {w0 : World} {p : Nat} {s : K.WS} {w : World} (h : WAt S w0 p s w) :
    ∃ v c, w.cell? ⟨p, 0, none⟩ = some (.slice v s.laid.length c) ∧ w.cell? ⟨p, 1, none⟩ = some (.int .i64 (s.most : Nat)) ∧ w.cell? ⟨p, 2, none⟩ = some (.int .i64 (s.fault : Nat)) ∧ (∀ i, w.frozen? ⟨p, i, none⟩ = false) ∧ s.laid.length ≤ s.most ∧ s.most ≤ 16777216 := by
  obtain ⟨v, hv, _⟩ := h.wr
  obtain ⟨a, c, rfl, _⟩ := ownsRow_rd hv.row hv.byt (by have := hv.len; have := hv.top; omega)
  exact ⟨a, c, cell0 hv.blk, cell1 hv.blk, cell2 hv.blk, fun i => frozen_of_row w p i _ _ hv.blk, hv.len, hv.top⟩

theorem fail_any (S : Nat → Prop) (w0 : World) (p : Nat) (s : K.WS) (e : Nat) (_he : e < 1000) (w : World) (h : WAt S w0 p s w) :
    Calls Tryz.prog 115 #[.pointer (some ⟨p, 0, none⟩), .int .i64 (e : Nat)] w fun en w' => en = .returned (.tuple #[]) ∧ WAt S w0 p (s.fail e) w' := by
  obtain ⟨v, c, h0, h1, h2, hf, _, _⟩ := h.see
  have hf2 := hf 2
  have HH := hide h
  clear h hf
  by_cases hz : s.fault = 0
  · have hz' : ((s.fault : Nat) : Int) = 0 := by omega
    rw [hz'] at h2
    go_enter Tryz.func115, Tryz.ntmps115
    go_wp2
    go_end0
    refine ⟨rfl, ?_⟩
    obtain ⟨v, hv, hs⟩ := HH.out.wr
    unfold K.WS.fail
    rw [if_pos hz]
    exact ⟨HH.out.keep.trans (T := fun k => k = p) (Keep.setCell (S := fun k => k = p) w (p := ⟨p, 2, none⟩) rfl _) fun i hi => hs i (.inl hi), v, hv.set2 e, hs⟩
  · have hz' : (((s.fault : Nat) : Int) == 0) = false := by simpa using hz
    go_enter Tryz.func115, Tryz.ntmps115
    go_wp2
    go_end0
    refine ⟨rfl, ?_⟩
    unfold K.WS.fail
    rw [if_neg hz]
    exact HH.out

theorem Fail_any (S : Nat → Prop) (w0 : World) (p : Nat) (s : K.WS) (w : World) (h : WAt S w0 p s w) :
    Calls Tryz.prog 69 #[.pointer (some ⟨p, 0, none⟩)] w fun en w' => en = .returned (.tuple #[]) ∧ WAt S w0 p (s.fail 22) w' := by
  have HH := hide h
  clear h
  go_enter Tryz.func69, Tryz.ntmps69
  go_wp2_with (go_at_call 115; refine (fail_any S w0 p s 22 (by decide) _ HH.out).mono ?_; rintro e w1 ⟨rfl, h1⟩)
  go_end0
  exact ⟨rfl, h1⟩

theorem WAt.drew {S : Nat → Prop} {w0 : World} {p : Nat} {s : K.WS} {w : World} (h : WAt S w0 p s w) : WAt S w0 p s w.drew := h.other (T := fun _ => False) (Keep.drew _ _) fun _ h => h.elim

theorem fits_yes (S : Nat → Prop) (w0 : World) (p : Nat) (s : K.WS) (n : Nat) (_hn : n ≤ 4611686018427387904) (w : World) (h : WAt S w0 p s w) (hz : s.laid.length + n ≤ s.most) :
    Calls Tryz.prog 137 #[.pointer (some ⟨p, 0, none⟩), .int .i64 (n : Nat)] w fun en w' => en = .returned (.bool true) ∧ WAt S w0 p s w' ∧ Below w.heap.size w w' := by
  obtain ⟨v, c, h0, h1, h2, hf, hl, ht⟩ := h.see
  have HH := hide h
  clear h hf
  go_enter Tryz.func137, Tryz.ntmps137
  go_wp2
  go_region
  all_goals go_wp2
  all_goals go_ret
  all_goals exact ⟨rfl, HH.out.drew, (Below.refl _ _).drew⟩

theorem fits_no (S : Nat → Prop) (w0 : World) (p : Nat) (s : K.WS) (n : Nat) (hn : n ≤ 4611686018427387904) (w : World) (h : WAt S w0 p s w) (hz : ¬ s.laid.length + n ≤ s.most) :
    Calls Tryz.prog 137 #[.pointer (some ⟨p, 0, none⟩), .int .i64 (n : Nat)] w fun en w' => en = .returned (.bool false) ∧ WAt S w0 p (s.fail 20) w' := by
  obtain ⟨v, c, h0, h1, h2, hf, hl, ht⟩ := h.see
  have HH := hide h
  clear h hf
  go_enter Tryz.func137, Tryz.ntmps137
  go_wp2
  go_region
  all_goals go_wp2_with (go_at_call 115; refine (fail_any S w0 p s 20 (by decide) _ HH.out.drew).mono ?_; rintro e w1 ⟨rfl, h1⟩)
  all_goals go_ret
  all_goals exact ⟨rfl, h1⟩

/-- behind an append to what was laid, and the store -/
theorem Wr.laid {w w2 : World} {p : Nat} {v v' : Value} {s : K.WS} {bs : List Nat} (h : Wr w p v s) (hg : w.grownBy w2 v.ownBlock) (hn : NewBlk w v v') (hr : w2.ownsRow 0 5 1 v' (s.laid ++ bs).length (B8 (s.laid ++ bs)))
    (hb : ∀ d ∈ bs, d < 256) (hl : s.laid.length + bs.length ≤ s.most) : Wr (w2.setCell ⟨p, 0, none⟩ v') p v' { s with laid := s.laid ++ bs } := by
  have hp := (Array.getElem?_eq_some_iff.1 h.blk).1
  have hblk : w2.heap[p]? = some (.cells #[v, .int .i64 (s.most : Nat), .int .i64 (s.fault : Nat)] 128 (0, 0)) := (hg.block p hp fun e => h.ne e.symm).trans h.blk
  have hk : Keep (fun k => k = p) w2 (w2.setCell ⟨p, 0, none⟩ v') := Keep.setCell (S := fun k => k = p) w2 (p := ⟨p, 0, none⟩) rfl _
  refine ⟨?_, ?_, ?_, by simpa using hl, h.top⟩
  · rw [heap_setCell_same w2 p 0 _ _ _ hblk]; rfl
  · refine ⟨hr.1, ?_⟩
    rcases hr.2 with h' | ⟨g, cap, cur, rfl, hb, hgg, rest⟩
    · exact .inl h'
    · refine .inr ⟨g, cap, cur, rfl, hb, hk.blk hgg (fun e => ?_), rest⟩
      subst e
      rcases hn with hn | hn
      · exact h.ne hn.symm
      · have := hn g rfl; omega
  · intro d hd
    rcases List.mem_append.1 hd with h' | h'
    · exact h.byt d h'
    · exact hb d h'

theorem WAt.laid {S : Nat → Prop} {w0 w w2 : World} {p : Nat} {v v' : Value} {s : K.WS} {bs : List Nat} (hk : Keep S w0 w) (h : Wr w p v s) (hs : ∀ k, Wset p v k → S k ∨ w0.heap.size ≤ k) (hg : w.grownBy w2 v.ownBlock) (hn : NewBlk w v v') (hr : w2.ownsRow 0 5 1 v' (s.laid ++ bs).length (B8 (s.laid ++ bs)))
    (hb : ∀ d ∈ bs, d < 256) (hl : s.laid.length + bs.length ≤ s.most) : WAt S w0 p { s with laid := s.laid ++ bs } (w2.setCell ⟨p, 0, none⟩ v') := by
  refine ⟨?_, v', h.laid hg hn hr hb hl, ?_⟩
  · refine (hk.grownNew hg fun k e => hs k (.inr e)).trans (T := fun k => k = p) (Keep.setCell (S := fun k => k = p) w2 (p := ⟨p, 0, none⟩) rfl _) fun i hi => hs i (.inl hi)
  · rintro k (rfl | e)
    · exact hs _ (.inl rfl)
    · rcases hn with hn | hn
      · exact hs k (.inr (hn ▸ e))
      · exact .inr (Nat.le_trans hk.size (hn k e))

theorem lay_yes (S : Nat → Prop) (w0 : World) (p : Nat) (s : K.WS) (a : Option Addr) (n c : Nat) (bs : List Nat) (w : World) (h : WAt S w0 p s w) (hr : Rd w a n bs) (h0 : a = none → c = 0) (hz : s.laid.length + n ≤ s.most) :
    Calls Tryz.prog 79 #[.pointer (some ⟨p, 0, none⟩), .slice a n c] w fun en w' => en = .returned (.tuple #[]) ∧ WAt S w0 p { s with laid := s.laid ++ bs } w' := by
  have HH := hide h
  have HR := hide hr
  have HZ := hide hz
  have H0 := hide h0
  have hn := hr.2.1
  clear h hr hz h0
  go_enter Tryz.func79, Tryz.ntmps79
  go_wp2_with fail
  refine (fits_yes S w0 p s n (by omega) _ HH.out HZ.out).mono ?_
  rintro e w1 ⟨rfl, h1, hb1⟩
  have HR1 := hide (HR.out.keep hb1)
  have HK := hide h1.keep
  obtain ⟨v, hv, hs⟩ := h1.wr
  have HV := hide hv
  have HS := hide hs
  obtain ⟨av, cv, rfl, _⟩ := ownsRow_rd hv.row hv.byt (by have := hv.len; have := hv.top; omega)
  have c0 := cell0 hv.blk
  have HSUM : Hid (s.laid.length + n ≤ 140737488355328) := by show _ ≤ _; have := HZ.out; have := hv.top; omega
  clear h1 hv hs hb1
  go_wp2_with (at_builtin; refine wpList_append_rd rfl _ _ rfl (.slice av s.laid.length cv) s.laid 0 rfl HV.out.row a n c bs rfl HR1.out H0.out HSUM.out (Nat.zero_le _) ?_; intro v' w2 ho hg hnb; rw [List.length_append] at ho; obtain ⟨a', c', rfl⟩ := ownsRow_shape ho; have HO := hide ho; have HG := hide hg; have HN := hide hnb; have c2 := cell0 ((hg.block p (Array.getElem?_eq_some_iff.1 HV.out.blk).1 (fun e => HV.out.ne e.symm)).trans HV.out.blk); have f2 := frozen_of_row w2 p 0 _ _ ((hg.block p (Array.getElem?_eq_some_iff.1 HV.out.blk).1 (fun e => HV.out.ne e.symm)).trans HV.out.blk); clear ho hg hnb)
  go_end0
  have hrn := HR.out.1
  exact ⟨rfl, WAt.laid HK.out HV.out HS.out HG.out HN.out (by rw [List.length_append]; exact HO.out) HR.out.2.2.1 (by rw [← hrn]; exact HZ.out)⟩

theorem lay_any (S : Nat → Prop) (w0 : World) (p : Nat) (s : K.WS) (a : Option Addr) (n c : Nat) (bs : List Nat) (w : World) (h : WAt S w0 p s w) (hr : Rd w a n bs) (h0 : a = none → c = 0) :
    Calls Tryz.prog 79 #[.pointer (some ⟨p, 0, none⟩), .slice a n c] w fun en w' => en = .returned (.tuple #[]) ∧ WAt S w0 p (s.lay bs) w' := by
  unfold K.WS.lay
  have hrn := hr.1
  by_cases hz : s.laid.length + n ≤ s.most
  · rw [if_pos (by omega)]
    exact lay_yes S w0 p s a n c bs w h hr h0 hz
  · rw [if_neg (by omega)]
    have HH := hide h
    have HZ := hide hz
    have hn := hr.2.1
    clear h hr hz h0 hrn
    go_enter Tryz.func79, Tryz.ntmps79
    go_wp2_with fail
    refine (fits_no S w0 p s n (by omega) _ HH.out HZ.out).mono ?_
    rintro e w1 ⟨rfl, h1⟩
    go_wp2
    go_end0
    exact ⟨rfl, h1⟩

end Go.Proofs.YtbjcckfhfbjchaaGreat

/- Package pack: numberBytes, bytes.Clone, NewWriter, Done. -/
namespace Go.Proofs.YtbjcckfhfbjchaaGreat
open Go.RowKit

theorem or128 (n d : Nat) (hd : d = n % 128 + 128) : bits .or .u8 ((n : Int) % 256) 128 = (d : Int) := by
  have h := u8_or_nat (n % 256) 128 (by omega) (by decide)
  have e : n % 256 ||| 128 = d := by
    have h1 : n % 256 ||| 128 = (n % 256) % 128 ||| 128 := by
      have h2 : ∀ m : Nat, m < 256 → m ||| 128 = m % 128 ||| 128 := by decide +kernel
      exact h2 _ (by omega)
    have h3 : ∀ m : Nat, m < 128 → m ||| 128 = m + 128 := by decide +kernel
    rw [h1, h3 _ (by omega)]
    omega
  rw [e] at h
  exact h

/-- one byte in a new block -/
theorem rd_one (w : World) (d : Nat) (hd : d < 256) : Rd (w.alloc (.cells #[.int .u8 (d : Int)] 5)) (some ⟨w.heap.size, 0, none⟩) 1 [d] := by
  refine ⟨rfl, by decide, by simpa using hd, .inr ⟨_, _, rfl, fun i hi => ?_⟩⟩
  obtain rfl : i = 0 := by omega
  rw [cell_of_row _ _ _ _ _ _ (heap_alloc_new w _)]
  rfl

theorem below_grown {w wr w1 : World} {row : Option Nat} (hb : Below w.heap.size w wr) (o : Obj) (hg : (wr.alloc o).grownBy w1 row) (hr : ∀ k, row = some k → w.heap.size ≤ k) : Below w.heap.size w w1 :=
  (hb.alloc hb.size o).grown hg (by have := hb.size; simp; omega) hr

set_option maxRecDepth 10000 in
set_option maxHeartbeats 400000 in
theorem numberBytes_any (n0 : Nat) (hn0 : n0 ≤ 9223372036854775807) (w : World) :
    Calls Tryz.prog 80 #[.int .i64 (n0 : Nat)] w fun en w' => ∃ a c, en = .returned (.slice a (K.num n0).length c) ∧ Rd w' a (K.num n0).length (K.num n0) ∧ (a = none → c = 0) ∧ Below w.heap.size w w' := by
  have HN := hide (K.num_len9 hn0)
  go_enter Tryz.func80, Tryz.ntmps80
  go_wp2
  go_loopw [0, 3] (fun i v wx => ∃ (n : Nat) (l : List Nat), i = .int .i64 (n : Nat) ∧ n ≤ 9223372036854775807 ∧ l ++ K.num n = K.num n0 ∧ (∀ d ∈ l, d < 256) ∧ wx.ownsRow w.heap.size 5 1 v l.length (B8 l) ∧ Below w.heap.size w wx) (fun i _ _ => (intOf i).toNat)
  case atStart => exact ⟨n0, [], rfl, hn0, rfl, (fun d hd => by cases hd), World.ownsRow_nil _ _ _ _, Below.refl _ _⟩
  case round =>
    obtain ⟨n, l, rfl, hn, hl, hd, ho, hb⟩ := hrel
    have hll : l.length ≤ 9 := by have := HN.out; have h2 := congrArg List.length hl; rw [List.length_append] at h2; omega
    have HL := hide hl
    have HD := hide hd
    have HO := hide ho
    have HB := hide hb
    have HR := fun d hd => hide (rd_one wr d hd)
    have HS : Hid (w.heap.size ≤ (wr.alloc (.cells #[.int .u8 0] 5)).heap.size) := by show _ ≤ _; have := hb.size; simp; omega
    clear hl hd ho hb
    by_cases hlt : n < 128
    · have hm : (n : Int) % 256 = (n : Int) := by omega
      go_wp2_with (at_builtin; refine wpList_append_rd rfl _ _ rfl _ l w.heap.size rfl (HO.out.alloc _) _ 1 1 [n] rfl (HR n (by omega)).out (fun e => by cases e) (by omega) (by have := HS.out; simp at this ⊢; omega) ?_; intro v' w2 ho2 hg hnb; obtain ⟨a', c', hv'⟩ := ownsRow_shape ho2; subst hv'; have HO2 := hide ho2; have HG := hide hg; clear ho2 hg hnb)
      go_ret
      have hnum : l ++ [n] = K.num n0 := by rw [← HL.out, K.num_small hlt]
      have ho2 := HO2.out
      rw [hnum] at ho2
      obtain ⟨a2, c2, h1, h2, h3, h4, h5⟩ := ownsRow_rd ho2 (K.num_lt n0) (by have := HN.out; omega)
      injection h1 with e1 e2 e3
      subst e1; subst e3
      exact ⟨a', c', by rw [← hnum]; simp, h2, h3, below_grown HB.out _ HG.out fun k hk => (HO.out.lt k hk).1⟩
    · obtain ⟨d, hd⟩ : ∃ d, d = n % 128 + 128 := ⟨_, rfl⟩
      have hor := or128 n d hd
      have HDD := hide hd
      have hd8 : d < 256 := by omega
      clear hd
      go_wp2_with (at_builtin; refine wpList_append_rd rfl _ _ rfl _ l w.heap.size rfl (HO.out.alloc _) _ 1 1 [d] rfl (HR d hd8).out (fun e => by cases e) (by omega) (by have := HS.out; simp at this ⊢; omega) ?_; intro v' w2 ho2 hg hnb; have HO2 := hide ho2; have HG := hide hg; clear ho2 hg hnb)
      go_roundw
      case rel =>
        refine ⟨n / 128, l ++ [d], by go_num, by omega, ?_, ?_, HO2.out, below_grown HB.out _ HG.out fun k hk => (HO.out.lt k hk).1⟩
        · rw [← HL.out, K.num_big (n := n) (by omega), HDD.out, List.append_assoc]; rfl
        · intro x hx
          rcases List.mem_append.1 hx with hx | hx
          · exact HD.out x hx
          · simp at hx; omega
      case measure => simp [intOf]; omega

/-- []byte{} -/
theorem ownsRow_empty (w : World) : (w.alloc (.cells #[] 5)).ownsRow w.heap.size 5 1 (.slice (some ⟨w.heap.size, 0, none⟩) 0 0) 0 (B8 []) :=
  World.ownsRow_made (e := 5) (size := 1) w #[] 0 (Nat.le_refl _) (Nat.zero_le _) rfl

set_option maxRecDepth 10000 in
theorem clone_any (a : Option Addr) (n c : Nat) (l : List Nat) (w : World) (h : Rd w a n l) (h0 : a = none → c = 0) (hn : n ≤ 140737488355328) :
    Calls Tryz.prog 77 #[.slice a n c] w fun en w' => ∃ v, en = .returned v ∧ w'.ownsRow w.heap.size 5 1 v l.length (B8 l) ∧ Below w.heap.size w w' := by
  cases a with
  | none =>
    have hn0 : n = 0 := h.2.2.2.elim id (fun ⟨b, off, e, _⟩ => by cases e)
    subst hn0
    have hl : l = [] := List.eq_nil_of_length_eq_zero h.1.symm
    subst hl
    rw [h0 rfl]
    clear h h0
    have hq := fun w => Lib.run_eql_slice_nil (P := Tryz.prog) w 24 5 none 0 0 0 0 Tryz.underlying24
    go_enter Tryz.func77, Tryz.ntmps77
    go_wp2
    go_ret
    exact ⟨_, rfl, World.ownsRow_nil _ _ _ _, Below.refl _ _⟩
  | some ad =>
    have hb0 := (Below.refl w.heap.size w).alloc (Nat.le_refl _) (.cells #[] 5)
    have HR := hide (h.keep hb0)
    have HO := hide (ownsRow_empty w)
    clear h h0 hb0
    have hq := fun w => Lib.run_eql_slice_nil (P := Tryz.prog) w 24 5 (some ad) n c 0 0 Tryz.underlying24
    go_enter Tryz.func77, Tryz.ntmps77
    go_wp2_with (at_builtin; refine wpList_append_rd rfl _ _ rfl _ [] w.heap.size rfl HO.out (some ad) n c l rfl HR.out (fun e => by cases e) (by simpa using hn) (by simp) ?_; intro v' w2 ho2 hg hnb; rw [List.nil_append] at ho2; obtain ⟨a', c', hv'⟩ := ownsRow_shape ho2; have HO2 := hide ho2; have HG := hide hg; have HV := hide hv'; clear ho2 hg hnb hv')
    go_ret
    exact ⟨v', rfl, HO2.out, below_grown (Below.refl _ _) _ HG.out fun k hk => (HO.out.lt k hk).1⟩

theorem max_run (x y : Int) (q : Int) (h : (if x < y then y else x) = q) : ∀ (ts : Array TypeId) (t : TypeId) (w : World), (Builtin.max_ ts t #[.int .i64 x, .int .i64 y]).run Tryz.prog w = .ok (.int .i64 q) w := fun ts t w => by
  rw [run_max_int2, h]
theorem min_run (x y : Int) (q : Int) (h : (if y < x then y else x) = q) : ∀ (ts : Array TypeId) (t : TypeId) (w : World), (Builtin.min_ ts t #[.int .i64 x, .int .i64 y]).run Tryz.prog w = .ok (.int .i64 q) w := fun ts t w => by
  rw [run_min_int2, h]

/-- how many bytes a writer takes -/
def room (m : Int) : Nat := (min (max m 0) 16777216).toNat

theorem NewWriter_any (m : Int) (w : World) :
    Calls Tryz.prog 40 #[.int .i64 m] w fun en w' => en = .returned (.pointer (some ⟨w.heap.size, 0, none⟩)) ∧ WAt (fun k => w.heap.size ≤ k) w w.heap.size ⟨[], room m, 0⟩ w' := by
  have h1 := max_run m 0 (max m 0) (by omega)
  have h2 := min_run (max m 0) 16777216 ((room m : Nat) : Int) (by unfold room; omega)
  have HT : Hid (room m ≤ 16777216) := by show _ ≤ _; unfold room; omega
  generalize max m 0 = m1 at *
  generalize room m = m2 at *
  go_enter Tryz.func40, Tryz.ntmps40
  go_wp2
  go_ret
  refine ⟨rfl, Keep.alloc _ _ _, .slice none 0 0, ⟨heap_alloc_new w _, World.ownsRow_nil _ _ _ _, (fun d hd => by cases hd), Nat.zero_le _, HT.out⟩, ?_⟩
  rintro k (rfl | h)
  · exact .inl (Nat.le_refl _)
  · cases h

/-- bytes, not too many -/
def Fine (l : List Nat) : Prop := (∀ d ∈ l, d < 256) ∧ l.length ≤ 16777216

/-- all the bytes that Done tells -/
def told (s : K.WS) : List Nat := if s.fault = 0 then s.laid else []

set_option maxRecDepth 10000 in
theorem Done_any (S : Nat → Prop) (w0 : World) (p : Nat) (s : K.WS) (w : World) (h : WAt S w0 p s w) :
    Calls Tryz.prog 42 #[.pointer (some ⟨p, 0, none⟩)] w fun en w' => ∃ v, en = .returned (.tuple #[v, .int .i64 (s.fault : Nat)]) ∧ w'.ownsRow w.heap.size 5 1 v (told s).length (B8 (told s)) ∧ Below w.heap.size w w' ∧ Fine (told s) := by
  obtain ⟨v, hv, hs⟩ := h.wr
  have hlen : s.laid.length ≤ 16777216 := Nat.le_trans hv.len hv.top
  obtain ⟨a, c, rfl, hr, h0, _⟩ := ownsRow_rd hv.row hv.byt (by omega)
  have HFN : Hid (Fine (told s)) := by
    show Fine (told s)
    unfold told
    split
    · exact ⟨hv.byt, hlen⟩
    · exact ⟨fun d hd => (by cases hd), Nat.zero_le _⟩
  have c0 := cell0 hv.blk
  have c2 := cell2 hv.blk
  have HR := hide hr
  have H0 := hide h0
  clear hv hs h hr h0
  unfold told at HFN ⊢
  by_cases hz : s.fault = 0
  · rw [if_pos hz] at HFN ⊢
    rw [hz]
    rw [hz] at c2
    have c2' : w.cell? ⟨p, 2, none⟩ = some (.int .i64 0) := c2
    clear c2
    go_enter Tryz.func42, Tryz.ntmps42
    go_wp2_with fail
    refine (clone_any a s.laid.length c s.laid _ HR.out H0.out (by omega)).mono ?_
    rintro e w1 ⟨v, rfl, ho, hb⟩
    have HO := hide ho
    clear ho
    go_wp2
    go_ret2
    exact ⟨v, rfl, HO.out, hb, HFN.out⟩
  · rw [if_neg hz] at HFN ⊢
    have hz' : ((s.fault : Nat) : Int) ≠ 0 := by omega
    go_enter Tryz.func42, Tryz.ntmps42
    go_wp2
    go_region
    all_goals go_wp2
    all_goals go_ret2
    all_goals exact ⟨_, rfl, World.ownsRow_nil _ _ _ _, (Below.refl _ _).drew, HFN.out⟩

end Go.Proofs.YtbjcckfhfbjchaaGreat
