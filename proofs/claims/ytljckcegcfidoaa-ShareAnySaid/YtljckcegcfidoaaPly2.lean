/-
  poly: the contracts of fold over numbers, of Eval's closure, of Eval.
-/
import Derived.Test.YtljckcegcfidoaaPly1
import Derived.Test.YtljckcegcfidoaaPlm
namespace Go.Proofs.Ytljckcegcfidoaa
open Go.RowKit Go.Kx
set_option maxRecDepth 20000

/-! ### numbers as digits -/
def toG (a : Int) : Gf.G := if h : a.toNat < 256 then ⟨a.toNat, h⟩ else 0
def gs (l : List Int) : List Gf.G := l.map toG
theorem toG_v {a : Int} (h : dig a = true) : ((toG a).v : Int) = a := by
  obtain ⟨n, rfl, hn⟩ := dig_nat h
  simp [toG, hn]
theorem toG_nat {n : Nat} (h : n < 256) : toG (n : Int) = ⟨n, h⟩ := by simp [toG, h]
theorem toG_of (a : Gf.G) : toG (a.v : Int) = a := by rw [toG_nat a.lt]
theorem dig_v (a : Gf.G) : dig (a.v : Int) = true := dig_of a.lt
theorem dig_toG {a : Int} (h : dig a = true) : dig ((toG a).v : Int) = true := by rw [toG_v h]; exact h
theorem addA_G (a b : Gf.G) : addA (a.v : Nat) (b.v : Nat) = ((a + b).v, true) := by simp [addA, dig_of a.lt, dig_of b.lt, Gf.G.add_v]
theorem mulA_G (a b : Gf.G) : mulA (a.v : Nat) (b.v : Nat) = ((a * b).v, true) := by simp [mulA, dig_of a.lt, dig_of b.lt, Gf.G.mul_v]
def pw (x : Gf.G) : Nat → Gf.G
  | 0 => 1
  | k + 1 => pw x k * x
theorem pw_v (x : Gf.G) : ∀ k, (pw x k).v = Gf.powG x.v k
  | 0 => rfl
  | k + 1 => by rw [pw, Gf.G.mul_v, pw_v x k]; rfl
theorem powA_G (x : Gf.G) (k : Nat) (hk : k ≤ 1000000) : powA (x.v : Nat) (k : Nat) = ((pw x k).v, true) := by
  have h : (0 : Int) ≤ k ∧ (k : Int) ≤ 1000000 := by omega
  simp [powA, dig_of x.lt, h, pw_v]
theorem ev_snoc (x c : Gf.G) : ∀ l : List Gf.G, Gf.ev (l ++ [c]) x = Gf.ev l x + c * pw x l.length
  | [] => by
    show c + x * 0 = 0 + c * 1
    rw [Gf.G.mul_zero, Gf.G.add_zero, Gf.G.zero_add, Gf.G.mul_one]
  | a :: l => by
    show a + x * Gf.ev (l ++ [c]) x = (a + x * Gf.ev l x) + c * (pw x l.length * x)
    rw [ev_snoc x c l, Gf.G.mul_add]
    ac_rfl
theorem gs_length (l : List Int) : (gs l).length = l.length := by simp [gs]
theorem gs_take (l : List Int) {k : Nat} (h : k < l.length) : (gs l).take (k + 1) = (gs l).take k ++ [toG (l.getD k 0)] := by
  rw [List.take_add_one]
  congr 1
  simp [gs, List.getD, List.getElem?_eq_getElem h]
/-- The value of the first k digits. -/
def evI (l : List Int) (x : Int) (k : Nat) : Gf.G := Gf.ev ((gs l).take k) (toG x)
theorem evI_succ {l : List Int} {x : Int} (k : Nat) (h : k < l.length) (hl : allI dig l = true) (hx : dig x = true) (hk : k ≤ 1000000) :
    (addA ((evI l x k).v : Nat) ((mulA (l.getD k 0) ((powA x k).1 : Nat)).1 : Nat)).1 = (evI l x (k + 1)).v := by
  have e1 : powA x k = ((pw (toG x) k).v, true) := by
    have := powA_G (toG x) k hk
    rwa [toG_v hx] at this
  have e2 : ∀ b : Gf.G, mulA (l.getD k 0) (b.v : Nat) = ((toG (l.getD k 0) * b).v, true) := fun b => by
    have := mulA_G (toG (l.getD k 0)) b
    rwa [toG_v (allI_at hl h)] at this
  rw [e1, e2, addA_G]
  show (evI l x k + toG (l.getD k 0) * pw (toG x) k).v = _
  unfold evI
  rw [gs_take l h, ev_snoc, List.length_take, gs_length, Nat.min_eq_left (by omega)]
def evalA (l : List Int) (x : Int) : Nat × Bool := if l.length ≤ 255 ∧ allI dig l = true ∧ dig x = true then ((Gf.ev (gs l) (toG x)).v, true) else (0, false)
theorem evI_all (l : List Int) (x : Int) : evI l x l.length = Gf.ev (gs l) (toG x) := by rw [evI, List.take_of_length_le (by rw [gs_length]; exact Nat.le_refl _)]

/-! ### fold -/
theorem foldI_any (F : FuncId) (hF : ∀ (a : Array Value) (w : World), (callFunc F a).run Try.prog w = .ok (.enter F a) w) (p0 p1 : Value) (l : List Int) (S : Nat → Int) (A : Option Addr) (c : Nat) (hl : l.length ≤ 9223372036854775807) (w : World) (hs : Sl w A (intsI l))
    (hstep : ∀ k, k < l.length → ∀ w1, Below w.heap.size w w1 → Calls Try.prog F #[.int .i64 (S k), .int .i64 k, .int .i64 (l.getD k 0), p0, p1] w1 fun e w' => e = .returned (.int .i64 (S (k + 1))) ∧ Below w1.heap.size w1 w') :
    Calls Try.prog 52 #[.slice A l.length c, .int .i64 (S 0), .func (.func F) #[] #[p0, p1]] w fun e w' => e = .returned (.int .i64 (S l.length)) ∧ Below w.heap.size w w' := by
  have HS := Lib.hid hstep
  clear hstep
  go_enter Try.func52, Try.ntmps52
  go_wp2
  go_loopw [7, 13] (fun s i wr => ∃ k : Nat, i = .int .i64 k ∧ s = .int .i64 (S k) ∧ k ≤ l.length ∧ Below w.heap.size w wr) (fun _ i _ => l.length - (intOf i).toNat)
  case atStart => exact ⟨0, rfl, rfl, by omega, Below.refl _ _⟩
  case round =>
    obtain ⟨k, rfl, rfl, hk, hb⟩ := hrel
    by_cases hlt : k < l.length
    · have HC := Lib.hid (HS.out k hlt wr hb)
      obtain ⟨b, off, rfl, hc⟩ := sl_int (hs.keep hb) hlt
      generalize l.getD k 0 = x at *
      generalize hy : S (k + 1) = y at *
      have HY := Lib.hid hy
      clear hy
      go_wp2_with fail
      refine HC.out.mono ?_
      rintro e w1 ⟨rfl, hb1⟩
      replace hb := hb.next' hb1
      go_wp2
      go_roundw
      case rel => exact ⟨k + 1, by go_num, by rw [HY.out], by omega, hb⟩
      case measure => simp [intOf]; omega
    · obtain rfl : k = l.length := by omega
      go_wp2
      go_ret
      exact ⟨rfl, hb⟩

/-! ### Eval -/
/-- What Eval's closure needs. -/
def EvBox (w : World) (N M g : Nat) (x : Int) : Prop := Fld w g ∧ w.cell? ⟨N, 0, none⟩ = some (.pointer (some ⟨g, 0, none⟩)) ∧ w.cell? ⟨M, 0, none⟩ = some (.int .i64 x) ∧ N < w.heap.size ∧ M < w.heap.size
theorem EvBox.keep {w w' : World} {N M g : Nat} {x : Int} (h : EvBox w N M g x) (hb : Below w.heap.size w w') : EvBox w' N M g x :=
  ⟨h.1.keep hb, (hb.cell (p := ⟨N, 0, none⟩) h.2.2.2.1).trans h.2.1, (hb.cell (p := ⟨M, 0, none⟩) h.2.2.2.2).trans h.2.2.1, Nat.lt_of_lt_of_le h.2.2.2.1 hb.size, Nat.lt_of_lt_of_le h.2.2.2.2 hb.size⟩
theorem evalStep_any (N M g : Nat) (x s k d : Int) (w : World) (h : EvBox w N M g x) :
    Calls Try.prog 53 #[.int .i64 s, .int .i64 k, .int .i64 d, .pointer (some ⟨N, 0, none⟩), .pointer (some ⟨M, 0, none⟩)] w
      fun e w' => e = .returned (.int .i64 ((addA s ((mulA d ((powA x k).1 : Nat)).1 : Nat)).1 : Nat)) ∧ Below w.heap.size w w' := by
  obtain ⟨hf, hN, hM, hNl, hMl⟩ := h
  obtain ⟨⟨p, p'⟩, hp⟩ : ∃ r, powA x k = r := ⟨_, rfl⟩
  rw [hp]
  have HP := Lib.hid hp
  clear hp
  go_enter Try.func53, Try.ntmps53
  go_wp2_with fail
  refine (pow_any g x k _ hf).mono ?_
  rw [HP.out]
  rintro e w1 ⟨rfl, rfl⟩
  unfold two
  go_wp2_with fail
  refine (ptimes_any g d p _ hf).mono ?_
  rintro e w1 ⟨rfl, m, rfl⟩
  go_wp2_with fail
  refine (pplus_any _ _ _).mono ?_
  rintro e w1 ⟨rfl, rfl⟩
  go_wp2
  go_ret
  exact ⟨rfl, Below.drewN0 _ _⟩
set_option maxHeartbeats 1000000 in
theorem eval_any (l : List Int) (x : Int) (A : Option Addr) (c : Nat) (hl : l.length ≤ 9223372036854775807) (w : World) (hs : Sl w A (intsI l)) :
    Calls Try.prog 24 #[.slice A l.length c, .int .i64 x] w fun e w' => e = two (evalA l x) ∧ Below w.heap.size w w' := by
  have hb0 : Below w.heap.size w (w.alloc (.cells #[.int .i64 x] 3)) := Below.alloc0 _ _
  have hx0 : (w.alloc (.cells #[.int .i64 x] 3)).cell? ⟨w.heap.size, 0, none⟩ = some (.int .i64 x) := (cell_of_row _ _ _ _ _ _ (heap_alloc_new w _)).trans rfl
  have hs0 := hs.keep hb0
  by_cases h1 : l.length ≤ 255
  · cases h2 : allI dig l with
    | false =>
      have hr : evalA l x = (0, false) := by simp [evalA, h2]
      rw [hr]
      go_enter Try.func24, Try.ntmps24
      go_wp2_with fail
      refine (areDigits_any l A c hl _ hs0).mono ?_
      rintro e w1 ⟨rfl, rfl⟩
      go_wp2
      go_ret2
      exact ⟨rfl, hb0⟩
    | true =>
      cases h3 : dig x with
      | false =>
        have hr : evalA l x = (0, false) := by simp [evalA, h3]
        rw [hr]
        go_enter Try.func24, Try.ntmps24
        go_wp2_with fail
        refine (areDigits_any l A c hl _ hs0).mono ?_
        rintro e w1 ⟨rfl, rfl⟩
        go_wp2_with fail
        refine (pIsDigit_any x _).mono ?_
        rintro e w1 ⟨rfl, rfl⟩
        go_wp2
        go_ret2
        exact ⟨rfl, hb0⟩
      | true =>
        have hr : evalA l x = ((Gf.ev (gs l) (toG x)).v, true) := by simp [evalA, h1, h2, h3]
        rw [hr]
        have hend := Lib.hid (evI_all l x)
        have HST : Hid (∀ k, k < l.length → (addA ((evI l x k).v : Nat) ((mulA (l.getD k 0) ((powA x k).1 : Nat)).1 : Nat)).1 = (evI l x (k + 1)).v) := Lib.hid (fun k hk => evI_succ k hk h2 h3 (by omega))
        have h00 : Hid (((evI l x 0).v : Int) = 0) := Lib.hid rfl
        go_enter Try.func24, Try.ntmps24
        go_wp2_with fail
        generalize w.alloc (.cells #[.int .i64 x] 3) = W0 at *
        refine (areDigits_any l A c hl _ hs0).mono ?_
        rintro e W0 ⟨rfl, rfl⟩
        go_wp2_with fail
        refine (pIsDigit_any x _).mono ?_
        rintro e W0 ⟨rfl, rfl⟩
        go_wp2_with fail
        refine (new_any _).mono ?_
        rintro e w2 ⟨rfl, hf, hb2⟩
        have hx2 := (hb2.cell (p := ⟨w.heap.size, 0, none⟩) (block_lt_of_cell hx0)).trans hx0
        have hs2 := hs0.keep hb2
        replace hb2 := hb0.next' hb2
        clear hs0 hx0 hb0
        generalize W0.heap.size = g at hf ⊢
        have hb3 : Below w.heap.size w (w2.alloc (.cells #[.pointer (some ⟨g, 0, none⟩)] 62)) := hb2.al _
        have hk3 := Below.alloc0 w2 (.cells #[.pointer (some ⟨g, 0, none⟩)] 62)
        have hs3 := hs2.keep hk3
        have hbox : EvBox (w2.alloc (.cells #[.pointer (some ⟨g, 0, none⟩)] 62)) w2.heap.size w.heap.size g x :=
          ⟨hf.keep hk3, (cell_of_row _ _ _ _ _ _ (heap_alloc_new w2 _)).trans rfl, (hk3.cell (p := ⟨w.heap.size, 0, none⟩) (block_lt_of_cell hx2)).trans hx2, by simp, Nat.lt_of_lt_of_le (block_lt_of_cell hx2) hk3.size⟩
        have hmf : ∀ (fn : Fn) (first cap : Array Value) (w : World), (Instr.makeFunc fn first cap).run Try.prog w = .ok (.func fn first cap) w := fun _ _ _ _ => rfl
        go_wp2_with fail
        generalize w2.alloc (.cells #[.pointer (some ⟨g, 0, none⟩)] 62) = W3 at *
        have HFO := foldI_any 53 (fun _ _ => rfl) (.pointer (some ⟨w2.heap.size, 0, none⟩)) (.pointer (some ⟨w.heap.size, 0, none⟩)) l (fun k => ((evI l x k).v : Nat)) A c hl W3 hs3 (fun k hk w1 hb => by
          have h := evalStep_any w2.heap.size w.heap.size g x ((evI l x k).v : Nat) k (l.getD k 0) w1 (hbox.keep hb)
          rw [HST.out k hk] at h
          exact h)
        simp only [h00.out, hend.out] at HFO
        refine HFO.mono ?_
        rintro e w4 ⟨rfl, hb4⟩
        go_wp2
        go_ret2
        exact ⟨rfl, hb3.next' hb4⟩
  · have hr : evalA l x = (0, false) := by simp [evalA]; omega
    rw [hr]
    go_enter Try.func24, Try.ntmps24
    go_wp2
    go_ret2
    exact ⟨rfl, hb0⟩
end Go.Proofs.Ytljckcegcfidoaa
