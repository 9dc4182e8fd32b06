/- The laws' own functions over disks: pick, made, thick, stepped. -/
import Derived.Test.YtilpidioengnbaaDSpo
import Derived.Test.YtilpidioengnbaaDCpy
import Derived.Test.YtilpidioengnbaaDPrt
import Derived.Lib.SlBytesRow
namespace Go.Proofs.Ytilpidioengnbaa
open Go.RowKit Go.Lib

/-- What pick answers. -/
def pickV (c n : Int) : Int := (if c < 0 then -(c + 1) else c) % n
theorem pickV_in (c n : Int) (hn : 0 < n) : 0 ≤ pickV c n ∧ pickV c n < n := ⟨Int.emod_nonneg _ (by omega), Int.emod_lt_of_pos _ hn⟩
theorem pick_any (c n : Int) (h1 : -9223372036854775808 ≤ c) (h2 : c ≤ 9223372036854775807) (hn : 0 < n) (hn2 : n ≤ 9223372036854775807) (w : World) :
    Calls Try.prog 7 #[.int .i64 c, .int .i64 n] w fun e w' => e = .returned (.int .i64 (pickV c n)) ∧ w' = w := by
  by_cases hc : c < 0
  · have hv : pickV c n = (-(c + 1)) % n := by unfold pickV; rw [if_pos hc]
    rw [hv]
    go_enter Try.func7, Try.ntmps7
    go_wp2_with fail
    go_ret
    have e : -(c + 1).tmod n = (-(c + 1)) % n := by rw [← Int.neg_tmod, Int.tmod_eq_emod_of_nonneg (by omega)]
    exact ⟨ret_int e, rfl⟩
  · have hv : pickV c n = c % n := by unfold pickV; rw [if_neg hc]
    rw [hv]
    go_enter Try.func7, Try.ntmps7
    go_wp2_with fail
    go_ret
    exact ⟨rfl, rfl⟩

theorem made_any (c : Int) (w : World) (h1 : -9223372036854775808 ≤ c) (h2 : c ≤ 9223372036854775807) :
    Calls Try.prog 5 #[.int .i64 c] w fun e w' => ∃ p, e = .returned (.pointer (some ⟨p, 0, none⟩)) ∧ DAt (fun i => w.heap.size ≤ i) w' p (St.new (pickV c 67108865).toNat) ∧ Keep (fun _ => False) w w' := by
  have hp := pickV_in c 67108865 (by decide)
  have HP := hide (pick_any c 67108865 h1 h2 (by decide) (by decide) w)
  have HN := hide (new_any (pickV c 67108865) w)
  generalize pickV c 67108865 = v at *
  clear h1 h2
  go_enter Try.func5, Try.ntmps5
  go_wp2_with (first
    | (go_at_call 7; refine HP.out.mono ?_; rintro e w1 ⟨rfl, rfl⟩)
    | (go_at_call 21
       refine HN.out.mono ?_
       rintro e w2 ⟨hk, h⟩
       obtain ⟨_, _, p, rfl, hd⟩ : 0 ≤ v ∧ v ≤ 67108864 ∧ ∃ p, e = .returned (.tuple #[.pointer (some ⟨p, 0, none⟩), .int .i64 0]) ∧ DAt (fun i => w1.heap.size ≤ i) w2 p (St.new v.toNat) := by
         rcases h with ⟨h, _⟩ | h
         · omega
         · exact h
       have HD := hide hd
       have HK := hide hk
       clear h hd hk))
  go_ret
  exact ⟨p, rfl, HD.out, HK.out⟩

/-- a step of a script, and where its lists lie -/
structure Stp where
  which : Int
  copy : Bool
  what : Int
  seg : Int
  n : Int
  mask : Nat
  b : List Nat
  fate : List Int
  ba : Option Addr
  bc : Nat
  fa : Option Addr
  fc : Nat

def Stp.cells (q : Stp) : List Value := [.int .i64 q.which, .bool q.copy, .int .i64 q.what, .int .i64 q.seg, .int .i64 q.n, .int .u8 (q.mask : Nat), .slice q.ba q.b.length q.bc, .slice q.fa q.fate.length q.fc]
def Stp.val (q : Stp) : Value := .agg #[.int .i64 q.which, .bool q.copy, .int .i64 q.what, .int .i64 q.seg, .int .i64 q.n, .int .u8 (q.mask : Nat), .slice q.ba q.b.length q.bc, .slice q.fa q.fate.length q.fc]

structure StpOk (w : World) (q : Stp) : Prop where
  which : -9223372036854775808 ≤ q.which ∧ q.which ≤ 9223372036854775807
  what : -9223372036854775808 ≤ q.what ∧ q.what ≤ 9223372036854775807
  seg : -9223372036854775808 ≤ q.seg ∧ q.seg ≤ 9223372036854775807
  n : -9223372036854775808 ≤ q.n ∧ q.n ≤ 9223372036854775807
  mask : q.mask < 256
  rb : Rd w q.ba q.b.length q.b
  rf : Rz w q.fa q.fate.length q.fate
def Stp.out (q : Stp) (S : Nat → Prop) : Prop := (∀ g off, q.ba = some ⟨g, off, none⟩ → q.b.length ≠ 0 → ¬ S g) ∧ ∀ g off, q.fa = some ⟨g, off, none⟩ → q.fate.length ≠ 0 → ¬ S g
theorem StpOk.stay {w w' : World} {q : Stp} {S : Nat → Prop} (h : StpOk w q) (hk : Keep S w w') (ho : q.out S) : StpOk w' q := ⟨h.which, h.what, h.seg, h.n, h.mask, h.rb.stay' hk ho.1, h.rf.stay hk ho.2⟩
theorem Stp.out.mono {q : Stp} {S T : Nat → Prop} (h : q.out S) (hT : ∀ i, T i → S i) : q.out T := ⟨fun g off e h0 t => h.1 g off e h0 (hT g t), fun g off e h0 t => h.2 g off e h0 (hT g t)⟩

/-- so many bytes, of one value -/
def Stp.thick (q : Stp) : List Nat := List.replicate (pickV q.n 65536).toNat 0

theorem DAt.lt {S : Nat → Prop} {w : World} {p : Nat} {s : St} (h : DAt S w p s) : p < w.heap.size := by
  obtain ⟨bt, bo, val, h⟩ := h
  exact (Array.getElem?_eq_some_iff.1 h.blk).1

/-- what a step makes of a disk, and its error -/
def StepTo (s : St) (q : Stp) (c : Int) (t : St) : Prop :=
  (pickV q.what 12 = 0 → (c, t) = s.create q.seg) ∧ (pickV q.what 12 = 1 → (c, t) = s.append q.seg q.b) ∧ (pickV q.what 12 = 2 → (c, t) = s.remove q.seg) ∧ (pickV q.what 12 = 3 → (c, t) = s.sync) ∧
  (pickV q.what 12 = 4 → (c, t) = s.append q.seg q.thick) ∧ (pickV q.what 12 = 5 → c = s.find q.seg ∧ t = s) ∧ (pickV q.what 12 = 6 → c = (if s.down then 56 else 0) ∧ t = s) ∧ (pickV q.what 12 = 7 → (c, t) = s.arm q.n) ∧
  (pickV q.what 12 = 8 → c = 0 ∧ t = s) ∧ (pickV q.what 12 = 9 → (c, t) = s.spoil q.seg q.n q.mask) ∧ (pickV q.what 12 = 10 → c = (if s.down then 56 else 0) ∧ t = s) ∧ (pickV q.what 12 = 11 → c = 0 ∧ Crash s q.fate t)

theorem Good.step {n : Nat} {s t : St} {q : Stp} {c : Int} (h : Good n s) (hq : q.n ≤ 9223372036854775807) (hs : StepTo s q c t) : Good (n + 1) t := by
  have hp := pickV_in q.what 12 (by decide)
  obtain ⟨h0, h1, h2, h3, h4, h5, h6, h7, h8, h9, h10, h11⟩ := hs
  have e : ∀ {r : Int × St}, (c, t) = r → Good (n + 1) r.2 → Good (n + 1) t := fun e g => by rw [← e] at g; exact g
  by_cases g0 : pickV q.what 12 = 0
  · exact e (h0 g0) (h.create _)
  by_cases g1 : pickV q.what 12 = 1
  · exact e (h1 g1) (h.append _ _)
  by_cases g2 : pickV q.what 12 = 2
  · exact e (h2 g2) (h.remove _)
  by_cases g3 : pickV q.what 12 = 3
  · exact e (h3 g3) h.sync
  by_cases g4 : pickV q.what 12 = 4
  · exact e (h4 g4) (h.append _ _)
  by_cases g5 : pickV q.what 12 = 5
  · rw [(h5 g5).2]; exact h.more (Nat.le_succ _)
  by_cases g6 : pickV q.what 12 = 6
  · rw [(h6 g6).2]; exact h.more (Nat.le_succ _)
  by_cases g7 : pickV q.what 12 = 7
  · exact e (h7 g7) (h.arm hq)
  by_cases g8 : pickV q.what 12 = 8
  · rw [(h8 g8).2]; exact h.more (Nat.le_succ _)
  by_cases g9 : pickV q.what 12 = 9
  · exact e (h9 g9) (h.spoil _ _ _)
  by_cases g10 : pickV q.what 12 = 10
  · rw [(h10 g10).2]; exact h.more (Nat.le_succ _)
  · exact h.crash (h11 (by omega)).2

/-- what it answers besides -/
structure Ans (s : St) (q : Stp) (N : Int) (is : Bool) (ks : List Int) (bs : List Nat) : Prop where
  n : N = if pickV q.what 12 = 6 ∧ s.down = false then (s.room : Int) else 0
  is : is = (decide (pickV q.what 12 = 8) && s.down)
  srt : ks.Pairwise (· < ·)
  mem : ∀ k, k ∈ ks ↔ pickV q.what 12 = 10 ∧ s.down = false ∧ s.there k ≠ none
  bs : bs = if pickV q.what 12 = 5 ∧ s.down = false then s.bytes q.seg else []

def StepAs (S : Nat → Prop) (w : World) (p : Nat) (s : St) (q : Stp) (e : Ending) (w' : World) : Prop :=
  ∃ (c N : Int) (is : Bool) (vl vb : Value) (ks : List Int) (bs : List Nat) (t : St), e = .returned (.agg #[.int .i64 c, .int .i64 N, .bool is, vl, vb]) ∧ StepTo s q c t ∧ Ans s q N is ks bs ∧ DAt S w' p t ∧ Keep S w w' ∧
    w'.ownsRow 0 3 1 vl ks.length (ks.map (Value.int .i64)) ∧ Row w' vb bs

theorem zeroTold (w : World) : (zeroValue 40).run Try.prog w = .ok (.agg #[.int .i64 0, .int .i64 0, .bool false, .slice none 0 0, .slice none 0 0]) w := by kernel_rfl

/-- the step and the answer lie in two new blocks -/
def bx (w : World) (q : Stp) : World := (w.alloc (.cells #[.int .i64 q.which, .bool q.copy, .int .i64 q.what, .int .i64 q.seg, .int .i64 q.n, .int .u8 (q.mask : Nat), .slice q.ba q.b.length q.bc, .slice q.fa q.fate.length q.fc] 36)).alloc (.cells #[.int .i64 0, .int .i64 0, .bool false, .slice none 0 0, .slice none 0 0] 40)
def Sx (S : Nat → Prop) (w : World) (i : Nat) : Prop := S i ∧ (i < w.heap.size ∨ w.heap.size + 2 ≤ i)

structure Bx (S : Nat → Prop) (w : World) (p : Nat) (s : St) (q : Stp) : Prop where
  d : DAt (Sx S w) (bx w q) p s
  n : ∀ i, (bx w q).heap.size ≤ i → Sx S w i
  sq : StpOk (bx w q) q
  o : q.out S → q.out (Sx S w)
  k : Keep (fun _ => False) w (bx w q)
  b : (bx w q).heap[w.heap.size]? = some (.cells #[.int .i64 q.which, .bool q.copy, .int .i64 q.what, .int .i64 q.seg, .int .i64 q.n, .int .u8 (q.mask : Nat), .slice q.ba q.b.length q.bc, .slice q.fa q.fate.length q.fc] 36 (0, 0))
  r : (bx w q).heap[w.heap.size + 1]? = some (.cells #[.int .i64 0, .int .i64 0, .bool false, .slice none 0 0, .slice none 0 0] 40 (0, 0))

theorem boxed {S : Nat → Prop} {w : World} {p : Nat} {s : St} {q : Stp} (h : DAt S w p s) (hS : ∀ i, w.heap.size ≤ i → S i) (hq : StpOk w q) : Bx S w p s q := by
  have hz : (bx w q).heap.size = w.heap.size + 2 := by unfold bx; rw [alloc_size, alloc_size]
  have k : Keep (fun _ => False) w (bx w q) := (Keep.alloc _ _ _).more (Keep.alloc _ _ _)
  refine ⟨?_, fun i hi => ⟨hS i (by omega), .inr (by omega)⟩, hq.stay k ⟨fun _ _ _ _ f => f, fun _ _ _ _ f => f⟩, fun ho => ho.mono fun i e => e.1, k, (Keep.alloc (fun _ => False) _ _).blk (heap_alloc_new w _) fun f => f, ?_⟩
  · have := h.part k
    rw [hz] at this
    exact this
  · have := heap_alloc_new (w.alloc (.cells #[.int .i64 q.which, .bool q.copy, .int .i64 q.what, .int .i64 q.seg, .int .i64 q.n, .int .u8 (q.mask : Nat), .slice q.ba q.b.length q.bc, .slice q.fa q.fate.length q.fc] 36)) (.cells #[.int .i64 0, .int .i64 0, .bool false, .slice none 0 0, .slice none 0 0] 40)
    rw [alloc_size] at this
    exact this


theorem info_told : (Try.prog.info? 40).map (·.size) = some 5 := by kernel_rfl
theorem res_told {fn : Func} {p : Tmp} (h : fn.results = #[.cell p 40]) (tmps : Array Value) (w : World) (g : Nat) (a b c d e : Value) (hp : tmps.getD p undef = .pointer (some ⟨g, 0, none⟩)) (hg : w.heap[g]? = some (.cells #[a, b, c, d, e] 40 (0, 0))) :
    (results fn tmps).run Try.prog w = .ok (.agg #[a, b, c, d, e]) w :=
  results_cell_row h tmps w g 40 #[a, b, c, d, e] (0, 0) _ hp hg Try.underlying40 rfl (by rw [info_told]; rfl)

def put5 (w : World) (g : Nat) (a b c d e : Value) : World := ((((w.setCell ⟨g, 0, none⟩ a).setCell ⟨g, 1, none⟩ b).setCell ⟨g, 2, none⟩ c).setCell ⟨g, 3, none⟩ d).setCell ⟨g, 4, none⟩ e
theorem put5_keep (w : World) (g : Nat) (a b c d e : Value) : Keep (fun i => i = g) w (put5 w g a b c d e) := ((((keep_cell w g 0 a).more (keep_cell _ g 1 b)).more (keep_cell _ g 2 c)).more (keep_cell _ g 3 d)).more (keep_cell _ g 4 e)
theorem put5_blk {w : World} {g : Nat} {x0 x1 x2 x3 x4 : Value} {t : TypeId} (h : w.heap[g]? = some (.cells #[x0, x1, x2, x3, x4] t (0, 0))) (a b c d e : Value) : (put5 w g a b c d e).heap[g]? = some (.cells #[a, b, c, d, e] t (0, 0)) := by
  unfold put5
  rw [set_blk (set_blk (set_blk (set_blk (set_blk h 0 a) 1 b) 2 c) 3 d) 4 e]
  rfl

theorem told_end {S : Nat → Prop} {w w3 : World} {p : Nat} {s t : St} {q : Stp} (hB : Bx S w p s q) (hS : ∀ i, w.heap.size ≤ i → S i) (hk : Keep (Sx S w) (bx w q) w3) (hd : DAt (Sx S w) w3 p t) {c N : Int} {is : Bool} {vl vb : Value} {ks : List Int} {bs : List Nat}
    (hst : StepTo s q c t) (ha : Ans s q N is ks bs) (hl : w3.ownsRow 0 3 1 vl ks.length (ks.map (Value.int .i64))) (hr : Row w3 vb bs) (h1 : ∀ g, vl.ownBlock = some g → g ≠ w.heap.size + 1) (h2 : ∀ g, vb.ownBlock = some g → g ≠ w.heap.size + 1) :
    StepAs S w p s q (.returned (.agg #[.int .i64 c, .int .i64 N, .bool is, vl, vb])) (put5 w3 (w.heap.size + 1) (.int .i64 c) (.int .i64 N) (.bool is) vl vb) := by
  have kp := put5_keep w3 (w.heap.size + 1) (.int .i64 c) (.int .i64 N) (.bool is) vl vb
  refine ⟨c, N, is, vl, vb, ks, bs, t, rfl, hst, ha, ?_, ?_, ownsRow_keep hl kp h1, hr.keep kp h2⟩
  · exact (hd.stay kp fun i _ hi e => by have := hi.2; omega).mono fun i e => e.1
  · exact (hB.k.mono fun _ f => f.elim).more ((hk.mono fun i e => e.1).more (kp.mono fun i e => hS i (by omega)))

theorem ans_plain {s : St} {q : Stp} (h5 : pickV q.what 12 ≠ 5) (h6 : pickV q.what 12 ≠ 6) (h8 : pickV q.what 12 ≠ 8) (h10 : pickV q.what 12 ≠ 10) : Ans s q 0 false [] [] :=
  ⟨by rw [if_neg fun e => h6 e.1], by simp [h8], List.Pairwise.nil, fun k => by simp [h10], by rw [if_neg fun e => h5 e.1]⟩

end Go.Proofs.Ytilpidioengnbaa
