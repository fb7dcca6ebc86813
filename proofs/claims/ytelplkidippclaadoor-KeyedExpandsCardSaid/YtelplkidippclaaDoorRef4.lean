/-
  keyholeref01.Cut: the contract.
-/
import Derived.Test.YtelplkidippclaaDoorRef3
import Derived.Deep.AppendLies
namespace Go.Proofs.YtelplkidippclaaDoor
open Go.RowKit Go.Kx
set_option maxRecDepth 20000

theorem ints_snoc (xs : List Nat) (x : Nat) : ints xs ++ [Value.int .i64 (x : Int)] = ints (xs ++ [x]) := by simp [ints]
theorem rtake_snoc {xs : List Nat} {k x : Nat} (h : xs[k]? = some x) : xs.take k ++ [x] = xs.take (k + 1) := by rw [List.take_add_one, h]; rfl
theorem own_sl {w : World} {base : Nat} {e : TypeId} {v : Value} {n : Nat} {xs : List Value} (h : w.ownsRow base e 1 v n xs) : ∃ A c, v = .slice A n c ∧ Sl w A xs := by
  have hl := h.1
  rcases Nat.eq_zero_or_pos n with h0 | h0
  · subst h0
    have hx : xs = [] := List.eq_nil_of_length_eq_zero (by simpa using hl)
    subst hx
    rcases h.2 with ⟨rfl, _⟩ | ⟨g, cap, cur, rfl, _⟩
    · exact ⟨_, _, rfl, .inl rfl⟩
    · exact ⟨_, _, rfl, .inl rfl⟩
  · obtain ⟨g, cap, hv, _, hlt⟩ := h.form h0
    subst hv
    refine ⟨_, _, rfl, .inr ⟨g, 0, rfl, hlt, fun j u hu => ?_⟩⟩
    have := h.cells (g := g) rfl j u hu
    rw [Nat.zero_add]
    rw [← this]
    congr 1
    unfold Addr.add
    split <;> simp_all
theorem own_below {w wr w1 : World} {e : TypeId} {v : Value} {n : Nat} {xs : List Value} (hown : wr.ownsRow w.heap.size e 1 v n xs) (hb : Below w.heap.size w wr) (hg : wr.grownBy w1 v.ownBlock) : Below w.heap.size w w1 :=
  hb.grown hg hb.size (fun k hk => (hown.lt k hk).1)
set_option maxHeartbeats 1000000 in
theorem rcut_any (s : ByteArray) (h : Bool) (w : World) (hs : s.size ≤ 1000000) (h4 : s.size % 4 = 0) :
    Calls Tryd.prog 64 #[.string s, .bool h] w fun e w' => ∃ v, e = .returned (.tuple #[v, .bool true]) ∧ w'.ownsRow w.heap.size 3 1 v (cutL h s).length (ints (cutL h s)) ∧ Below w.heap.size w w' := by
  obtain ⟨i0, hi, hz0, hz1, hz2⟩ := info_parts int_info
  have he : ((s.size : Int) % 4 != 0) = false := by simp; omega
  have HL := Lib.hid (cutL_length h s)
  have HC : Hid (∀ j, j < s.size / 4 → (cutL h s)[j]? = some (rwd s (4 * j) h 4)) := Lib.hid (fun j hj => by rw [rwd_cut s j h (by omega)]; simp [cutL, hj])
  have H4 := Lib.hid h4
  generalize cutL h s = xs at *
  go_enter Tryd.func64, Tryd.ntmps64
  go_wp2
  go_loopw [6, 7] (fun v i wr => ∃ k m : Nat, Hid (m = 4 * k) ∧ m ≤ s.size ∧ i = .int .i64 m ∧ wr.ownsRow w.heap.size 3 1 v k (ints (xs.take k)) ∧ Below w.heap.size w wr) (fun _ i _ => s.size - (intOf i).toNat)
  case atStart => exact ⟨0, 0, Lib.hid rfl, by omega, rfl, World.ownsRow_nil _ _ _ _, Below.refl _ _⟩
  case round =>
    obtain ⟨k, m, hm, hk, rfl, hown, hb⟩ := hrel
    clear h4 he
    by_cases hlt : m < s.size
    · have h4' : m + 4 ≤ s.size := by have h1 := hm.out; have h2 := H4.out; omega
      go_wp2_with fail
      refine (rword_any s m h _ hs h4').mono ?_
      rintro e w' ⟨rfl, rfl⟩
      have hxl := rwd_lt s m h 4 (by omega)
      have HX : Hid (xs[k]? = some (rwd s m h 4)) := Lib.hid (by rw [hm.out]; exact HC.out k (by have := hm.out; omega))
      generalize rwd s m h 4 = x at *
      go_wp2_with (first
        | (at_builtin; refine wpList_append_own _ rfl _ _ 54 rfl w.heap.size 3 i0 (.int .i64 0) 1 8 Tryd.underlying54 hi hz0 hz1 hz2 rfl (by decide) _ _ _ rfl (hown.alloc _) ⟨w'.heap.size, 0, none⟩ 1 1 [.int .i64 (x : Int)] rfl rfl ?c1 ?c2 ?c3 ?c4 ?c5 ?_)
        | go_in)
      case c1 =>
        intro j u hj
        match j, hj with
        | 0, hj => simp at hj; subst hj; simp [Addr.add]
      case c2 => intro u hu; simp at hu; subst hu; rfl
      case c3 => have h1 := hm.out; unfold maxLen; omega
      case c4 => have h1 := hm.out; omega
      case c5 => have h1 := hb.size; simp; omega
      · intro v' w1 hown' hgrow _
        have hb1 := own_below (hown.alloc _) (hb.al _) hgrow
        rw [ints_snoc, rtake_snoc HX.out] at hown'
        clear hown hgrow hb
        go_wp2
        go_roundw
        case rel => exact ⟨k + 1, m + 4, Lib.hid (by have h1 := hm.out; omega), by omega, by go_num, hown', hb1⟩
        case measure => simp [intOf]; omega
    · go_wp2
      go_ret2
      have hk2 : k = xs.length := by have h1 := hm.out; have h2 := HL.out; have h3 := H4.out; omega
      exact ⟨_, rfl, by subst hk2; simpa using hown, hb⟩
end Go.Proofs.YtelplkidippclaaDoor
