/-
  digest, as plain mathematics over numbers and lists of bytes: what stands behind a text, one step, a sum.
-/
import Derived.Test.YtlkdofghhibmbaaDoorWord
import Derived.Test.YtlkdofghhibmbaaDoorRowa
namespace Go.Proofs.YtlkdofghhibmbaaDoor
open Go.RowKit Go.Kx

structure St where
  a : Nat
  b : Nat
  c : Nat
  d : Nat
  e : Nat
  f : Nat
  g : Nat
  h : Nat
deriving DecidableEq
def St.l (s : St) : List Nat := [s.a, s.b, s.c, s.d, s.e, s.f, s.g, s.h]
def St.ok (s : St) : Prop := s.a < 4294967296 ∧ s.b < 4294967296 ∧ s.c < 4294967296 ∧ s.d < 4294967296 ∧ s.e < 4294967296 ∧ s.f < 4294967296 ∧ s.g < 4294967296 ∧ s.h < 4294967296
def St.v (s : St) : Value := .agg #[.int .i64 s.a, .int .i64 s.b, .int .i64 s.c, .int .i64 s.d, .int .i64 s.e, .int .i64 s.f, .int .i64 s.g, .int .i64 s.h]
def St.at (s : St) (j : Nat) : Nat := s.l.getD j 0
theorem St.v_row (s : St) : s.v = .agg (rowA .i64 8 s.at) := rfl
def St.u (s : St) : Value := .agg #[.int .u32 s.a, .int .u32 s.b, .int .u32 s.c, .int .u32 s.d, .int .u32 s.e, .int .u32 s.f, .int .u32 s.g, .int .u32 s.h]

def bk (x n : Nat) : Nat := rotN x (32 - n)
def sg0 (p : Nat) : Nat := (bk p 7 ^^^ bk p 18) ^^^ p / 8
def sg1 (q : Nat) : Nat := (bk q 17 ^^^ bk q 19) ^^^ q / 1024
def nextW (w : List Nat) : Nat :=
  (w.getD (w.length - 16) 0 + sg0 (w.getD (w.length - 15) 0) + w.getD (w.length - 7) 0 + sg1 (w.getD (w.length - 2) 0)) % 4294967296
def grow (f : List Nat → Nat) : Nat → List Nat → List Nat
  | 0, w => w
  | n + 1, w => grow f n (w ++ [f w])
def sched (n : Nat) (w : List Nat) : List Nat := grow nextW n w

def shaK : List Nat := [1116352408, 1899447441, 3049323471, 3921009573, 961987163, 1508970993, 2453635748, 2870763221, 3624381080, 310598401, 607225278, 1426881987, 1925078388, 2162078206, 2614888103, 3248222580, 3835390401, 4022224774, 264347078, 604807628, 770255983, 1249150122, 1555081692, 1996064986, 2554220882, 2821834349, 2952996808, 3210313671, 3336571891, 3584528711, 113926993, 338241895, 666307205, 773529912, 1294757372, 1396182291, 1695183700, 1986661051, 2177026350, 2456956037, 2730485921, 2820302411, 3259730800, 3345764771, 3516065817, 3600352804, 4094571909, 275423344, 430227734, 506948616, 659060556, 883997877, 958139571, 1322822218, 1537002063, 1747873779, 1955562222, 2024104815, 2227730452, 2361852424, 2428436474, 2756734187, 3204031479, 3329325298]

def chA (s : St) : Nat := (s.e &&& s.f) ^^^ ((4294967295 - s.e) &&& s.g)
def mjA (s : St) : Nat := ((s.a &&& s.b) ^^^ (s.a &&& s.c)) ^^^ (s.b &&& s.c)
def bs1 (x : Nat) : Nat := (bk x 6 ^^^ bk x 11) ^^^ bk x 25
def bs0 (x : Nat) : Nat := (bk x 2 ^^^ bk x 13) ^^^ bk x 22
def uA (s : St) (k w : Nat) : Nat := (s.h + bs1 s.e + chA s + k + w) % 4294967296
def vA (s : St) : Nat := (bs0 s.a + mjA s) % 4294967296
def rnd (s : St) (k w : Nat) : St := ⟨(uA s k w + vA s) % 4294967296, s.a, s.b, s.c, (s.d + uA s k w) % 4294967296, s.e, s.f, s.g⟩
def mixN (W : Nat → Nat) (s : St) : Nat → St
  | 0 => s
  | i + 1 => rnd (mixN W s i) (shaK.getD i 0) (W i)
def St.add (s t : St) : St := ⟨(s.a + t.a) % 4294967296, (s.b + t.b) % 4294967296, (s.c + t.c) % 4294967296, (s.d + t.d) % 4294967296, (s.e + t.e) % 4294967296, (s.f + t.f) % 4294967296, (s.g + t.g) % 4294967296, (s.h + t.h) % 4294967296⟩
def blkW (blk : List UInt8) : List Nat := sched 48 (cutL true ⟨blk.toArray⟩)
def stepL (s : St) (blk : List UInt8) : St := s.add (mixN (fun j => (blkW blk).getD j 0) s 64)
def stZ : St := ⟨0, 0, 0, 0, 0, 0, 0, 0⟩
def st0 : St := ⟨1779033703, 3144134277, 1013904242, 2773480762, 1359893119, 2600822924, 528734635, 1541459225⟩

def joinL (h : Bool) (l : List Nat) : List UInt8 := (List.range (4 * l.length)).map fun i => UInt8.ofNat (l.getD (i / 4) 0 / 2 ^ shN h (i % 4))
def padL (n : Nat) : List UInt8 := 128 :: (List.replicate ((64 - (n + 9) % 64) % 64) 0 ++ joinL true [8 * n / 4294967296, 8 * n % 4294967296])
def chunkAt (l : List UInt8) (k : Nat) : List UInt8 := (l.drop (64 * k)).take 64
def chunks (l : List UInt8) : List (List UInt8) := (List.range (l.length / 64)).map (chunkAt l)
def sumL (s : List UInt8) : List UInt8 := joinL true ((chunks (s ++ padL s.length)).foldl stepL st0).l

def hexD : List UInt8 := [48, 49, 50, 51, 52, 53, 54, 55, 56, 57, 97, 98, 99, 100, 101, 102]
def hexL (s : List UInt8) : List UInt8 := s.flatMap fun c => [hexD.getD (c.toNat / 16) 0, hexD.getD (c.toNat % 16) 0]

/-! ### the schedule -/
theorem bk_lt (x n : Nat) (hx : x < 4294967296) : bk x n < 4294967296 := rotN_lt x (32 - n) hx (by omega)
theorem xor_lt {a b : Nat} (ha : a < 4294967296) (hb : b < 4294967296) : a ^^^ b < 4294967296 := Nat.xor_lt_two_pow (n := 32) ha hb
theorem and_lt {a b : Nat} (hb : b < 4294967296) : a &&& b < 4294967296 := Nat.and_lt_two_pow (n := 32) a hb
theorem sg0_lt (p : Nat) (h : p < 4294967296) : sg0 p < 4294967296 := xor_lt (xor_lt (bk_lt _ _ h) (bk_lt _ _ h)) (by omega)
theorem sg1_lt (p : Nat) (h : p < 4294967296) : sg1 p < 4294967296 := xor_lt (xor_lt (bk_lt _ _ h) (bk_lt _ _ h)) (by omega)
theorem getD_app (w v : List Nat) (j : Nat) (h : j < w.length) : (w ++ v).getD j 0 = w.getD j 0 := by
  simp only [List.getD_eq_getElem?_getD]; rw [List.getElem?_append_left h]
section
variable (f : List Nat → Nat)
theorem grow_length (n : Nat) : ∀ w : List Nat, (grow f n w).length = w.length + n := by
  induction n with
  | zero => intro w; rfl
  | succ n ih => intro w; rw [grow, ih]; simp; omega
theorem grow_old (n : Nat) : ∀ (w : List Nat) (j : Nat), j < w.length → (grow f n w).getD j 0 = w.getD j 0 := by
  induction n with
  | zero => intro w j _; rfl
  | succ n ih => intro w j h; rw [grow, ih _ j (by simp; omega), getD_app _ _ _ h]
theorem grow_next (F : List Nat → Nat → Nat) (hF : ∀ w, f w = F w w.length) (hc : ∀ v w i, 16 ≤ i → (∀ j, j < i → v.getD j 0 = w.getD j 0) → F v i = F w i) (n : Nat) :
    ∀ (w : List Nat) (i : Nat), 16 ≤ w.length → w.length ≤ i → i < w.length + n → (grow f n w).getD i 0 = F (grow f n w) i := by
  induction n with
  | zero => intro w i _ _ _; omega
  | succ n ih =>
    intro w i h16 hi hn
    rw [grow]
    by_cases he : i = w.length
    · subst he
      rw [grow_old f n _ _ (by simp)]
      have e1 : (w ++ [f w]).getD w.length 0 = f w := by simp [List.getD_eq_getElem?_getD]
      rw [e1]
      refine (hF w).trans (hc _ _ _ h16 (fun j hj => ?_))
      rw [grow_old f n _ j (by simp; omega), getD_app w _ j hj]
    · exact ih _ i (by simp; omega) (by simp; omega) (by simp; omega)
theorem grow_lt (M : Nat) (hf : ∀ w, f w < M) (n : Nat) : ∀ w : List Nat, (∀ x ∈ w, x < M) → ∀ x ∈ grow f n w, x < M := by
  induction n with
  | zero => intro w h; exact h
  | succ n ih =>
    intro w h
    rw [grow]
    refine ih _ fun x hx => ?_
    rcases List.mem_append.1 hx with hx | hx
    · exact h x hx
    · obtain rfl := List.mem_singleton.1 hx
      exact hf w
end
def schedF (v : List Nat) (i : Nat) : Nat := (v.getD (i - 16) 0 + sg0 (v.getD (i - 15) 0) + v.getD (i - 7) 0 + sg1 (v.getD (i - 2) 0)) % 4294967296
theorem nextW_F (w : List Nat) : nextW w = schedF w w.length := by unfold nextW schedF; rfl
theorem nextW_lt (w : List Nat) : nextW w < 4294967296 := by unfold nextW; exact Nat.mod_lt _ (by omega)
theorem schedF_congr (v w : List Nat) (i : Nat) (hi : 16 ≤ i) (h : ∀ j, j < i → v.getD j 0 = w.getD j 0) : schedF v i = schedF w i := by
  unfold schedF
  rw [h (i - 16) (by omega), h (i - 15) (by omega), h (i - 7) (by omega), h (i - 2) (by omega)]
theorem blkW_eq (s : ByteArray) : blkW s.data.toList = sched 48 (cutL true s) := rfl
theorem blkW_length (s : ByteArray) (h : s.size = 64) : (blkW s.data.toList).length = 64 := by rw [blkW_eq, sched, grow_length, cutL_length, h]
theorem getD_lt (w : List Nat) (h : ∀ x ∈ w, x < 4294967296) (j : Nat) : w.getD j 0 < 4294967296 := by
  rw [List.getD_eq_getElem?_getD]
  cases hq : w[j]? with
  | none => simp
  | some x => exact h x (List.mem_of_getElem? hq)
theorem blkW_lt (s : ByteArray) (j : Nat) : (blkW s.data.toList).getD j 0 < 4294967296 := getD_lt _ (grow_lt nextW _ nextW_lt _ _ (cutL_lt true s)) j
theorem blkW_old (s : ByteArray) (h : s.size = 64) (j : Nat) (hj : j < 16) : (blkW s.data.toList).getD j 0 = (cutL true s).getD j 0 := by
  rw [blkW_eq, sched, grow_old _ _ _ _ (by rw [cutL_length, h]; omega)]
theorem blkW_next (s : ByteArray) (h : s.size = 64) (i : Nat) (h1 : 16 ≤ i) (h2 : i < 64) : (blkW s.data.toList).getD i 0 = schedF (blkW s.data.toList) i := by
  have hl : (cutL true s).length = 16 := by rw [cutL_length, h]
  rw [blkW_eq]
  exact grow_next nextW schedF nextW_F schedF_congr 48 _ i (by omega) (by omega) (by omega)
/-! ### the rounds -/
theorem rnd_ok {s : St} (h : s.ok) (k w : Nat) : (rnd s k w).ok := by
  obtain ⟨ha, hb, hc, hd, he, hf, hg, hh⟩ := h
  exact ⟨Nat.mod_lt _ (by omega), ha, hb, hc, Nat.mod_lt _ (by omega), he, hf, hg⟩
theorem mixN_ok (W : Nat → Nat) {s : St} (h : s.ok) (n : Nat) : (mixN W s n).ok := by
  induction n with
  | zero => exact h
  | succ n ih => exact rnd_ok ih _ _
theorem St.add_ok (s t : St) : (s.add t).ok :=
  ⟨Nat.mod_lt _ (by omega), Nat.mod_lt _ (by omega), Nat.mod_lt _ (by omega), Nat.mod_lt _ (by omega), Nat.mod_lt _ (by omega), Nat.mod_lt _ (by omega), Nat.mod_lt _ (by omega), Nat.mod_lt _ (by omega)⟩
theorem stepL_ok (s : St) (b : List UInt8) : (stepL s b).ok := St.add_ok _ _
theorem shaK_lt (k : Nat) : shaK.getD k 0 < 4294967296 := getD_lt _ (by decide) k
theorem shaK_length : shaK.length = 64 := rfl
set_option maxRecDepth 100000
theorem sum_none : hexL (sumL []) = [101, 51, 98, 48, 99, 52, 52, 50, 57, 56, 102, 99, 49, 99, 49, 52, 57, 97, 102, 98, 102, 52, 99, 56, 57, 57, 54, 102, 98, 57, 50, 52, 50, 55, 97, 101, 52, 49, 101, 52, 54, 52, 57, 98, 57, 51, 52, 99, 97, 52, 57, 53, 57, 57, 49, 98, 55, 56, 53, 50, 98, 56, 53, 53] := by decide +kernel
theorem sum_abc : hexL (sumL [97, 98, 99]) = [98, 97, 55, 56, 49, 54, 98, 102, 56, 102, 48, 49, 99, 102, 101, 97, 52, 49, 52, 49, 52, 48, 100, 101, 53, 100, 97, 101, 50, 50, 50, 51, 98, 48, 48, 51, 54, 49, 97, 51, 57, 54, 49, 55, 55, 97, 57, 99, 98, 52, 49, 48, 102, 102, 54, 49, 102, 50, 48, 48, 49, 53, 97, 100] := by decide +kernel
end Go.Proofs.YtlkdofghhibmbaaDoor
