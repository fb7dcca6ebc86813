/-
  poly: the contracts of weight, Weights.
-/
import Derived.Test.YtljckcegcfidoaaPly6
import Derived.Deep.AppendLies
namespace Go.Proofs.Ytljckcegcfidoaa
open Go.RowKit Go.Kx
set_option maxRecDepth 20000

set_option maxHeartbeats 1000000 in
theorem weight_any (g : Nat) (xs : List Int) (A : Option Addr) (c : Nat) (i : Nat) (x : Int) (hi : i < xs.length) (hl : xs.length ≤ 255) (hd : allI dig xs = true) (hx : dig x = true) (ha : apartI xs = true) (w : World) (hf : Fld w g) (hs : Sl w A (intsI xs)) :
    Calls Try.prog 60 #[.pointer (some ⟨g, 0, none⟩), .slice A xs.length c, .int .i64 i, .int .i64 x] w fun e w' => e = .returned (.int .i64 ((wgtI xs i x).v : Nat)) ∧ Below w.heap.size w w' := by
  have hb4 : Below w.heap.size w ((((w.alloc (.cells #[.pointer (some ⟨g, 0, none⟩)] 62)).alloc (.cells #[.slice A xs.length c] 48)).alloc (.cells #[.int .i64 i] 3)).alloc (.cells #[.int .i64 x] 3)) := (((Below.alloc0 _ _).al _).al _).al _
  have hbx : WtBox ((((w.alloc (.cells #[.pointer (some ⟨g, 0, none⟩)] 62)).alloc (.cells #[.slice A xs.length c] 48)).alloc (.cells #[.int .i64 i] 3)).alloc (.cells #[.int .i64 x] 3)) w.heap.size g xs i x A c := by
    have q1 := heap_alloc_new w (.cells #[.pointer (some ⟨g, 0, none⟩)] 62)
    have q2 := heap_alloc_new (w.alloc (.cells #[.pointer (some ⟨g, 0, none⟩)] 62)) (.cells #[.slice A xs.length c] 48)
    have q3 := heap_alloc_new ((w.alloc (.cells #[.pointer (some ⟨g, 0, none⟩)] 62)).alloc (.cells #[.slice A xs.length c] 48)) (.cells #[.int .i64 i] 3)
    have q4 := heap_alloc_new (((w.alloc (.cells #[.pointer (some ⟨g, 0, none⟩)] 62)).alloc (.cells #[.slice A xs.length c] 48)).alloc (.cells #[.int .i64 i] 3)) (.cells #[.int .i64 x] 3)
    have b1 := Below.alloc0 (w.alloc (.cells #[.pointer (some ⟨g, 0, none⟩)] 62)) (.cells #[.slice A xs.length c] 48)
    have b2 := Below.alloc0 ((w.alloc (.cells #[.pointer (some ⟨g, 0, none⟩)] 62)).alloc (.cells #[.slice A xs.length c] 48)) (.cells #[.int .i64 i] 3)
    have b3 := Below.alloc0 (((w.alloc (.cells #[.pointer (some ⟨g, 0, none⟩)] 62)).alloc (.cells #[.slice A xs.length c] 48)).alloc (.cells #[.int .i64 i] 3)) (.cells #[.int .i64 x] 3)
    have r1 := (b3.block _ (by simp <;> omega)).trans ((b2.block _ (by simp <;> omega)).trans ((b1.block _ (by simp <;> omega)).trans q1))
    have r2 := (b3.block _ (by simp <;> omega)).trans ((b2.block _ (by simp <;> omega)).trans q2)
    have r3 := (b3.block _ (by simp <;> omega)).trans q3
    rw [World.size_alloc] at r2 r3 q4
    rw [World.size_alloc] at r3 q4
    rw [World.size_alloc] at q4
    exact ⟨hf.keep hb4, (cell_of_row _ _ _ _ _ _ r1).trans rfl, (cell_of_row _ _ _ _ _ _ r2).trans rfl, (cell_of_row _ _ _ _ _ _ r3).trans rfl, (cell_of_row _ _ _ _ _ _ q4).trans rfl, hs.keep hb4, by simp⟩
  have hq0 := qst_zero xs i x
  have hqs : Hid (∀ k, k < xs.length → qround xs i x (qst xs i x k) k (xs.getD k 0) = qst xs i x (k + 1)) := Lib.hid fun k hk => qst_succ k hk hi hd hx
  have hqe := qst_end (x := x) hi hd ha
  have hbl := hbx.2.1
  have hbs := hbx.2.2.1
  obtain ⟨⟨o, u⟩, hou⟩ : ∃ p, qst xs i x xs.length = p := ⟨_, rfl⟩
  rw [hou] at hqe
  dsimp only at hqe
  have HQE := Lib.hid hqe
  have HQ0 := Lib.hid hq0
  have HOU := Lib.hid hou
  clear hqe hq0 hou
  generalize wgtI xs i x = r at *
  go_enter Try.func60, Try.ntmps60
  go_wp2_with fail
  generalize World.alloc (World.alloc (World.alloc (World.alloc w _) _) _) _ = W at *
  have HFO := foldQ_any 74 (fun _ _ => rfl) (.pointer (some ⟨w.heap.size + 1 + 1, 0, none⟩)) (.pointer (some ⟨w.heap.size, 0, none⟩)) (.pointer (some ⟨w.heap.size + 1 + 1 + 1, 0, none⟩)) (.pointer (some ⟨w.heap.size + 1, 0, none⟩)) xs (fun k => qst xs i x k) A c (by omega) W hbx.2.2.2.2.2.1 (fun k hk w1 hb => by
    have h := weightStep_any w.heap.size g xs i x A c hi (qst xs i x k) k (xs.getD k 0) w1 (hbx.keep hb)
    rw [hqs.out k hk] at h
    exact h)
  simp only [HQ0.out, HOU.out] at HFO
  refine HFO.mono ?_
  rintro e w5 ⟨rfl, hb5⟩
  have hbx5 := hbx.keep hb5
  have hb6 := hb4.next' hb5
  clear hb4 hb5 hbx HFO hbl hbs
  have hf5 := hbx5.1
  have hc5 := hbx5.2.1
  clear hbx5
  have hq := Quo.new w5 (o, u)
  have hbq := Below.alloc0 w5 (.cells (quo (o, u)) 97)
  have hc0 := hq.cells.1
  have hc1 := hq.cells.2
  have hf6 := hf5.keep hbq
  have hc6 := (hbq.cell (p := ⟨w.heap.size, 0, none⟩) (block_lt_of_cell hc5)).trans hc5
  have hb7 := hb6.next' hbq
  unfold quo at hc0 hc1 hf6 hc6 hb7 ⊢
  go_wp2_with fail
  generalize World.alloc w5 _ = V at *
  refine (div_any g o u _ hf6).mono ?_
  rw [HQE.out]
  rintro e w8 ⟨rfl, hb8⟩
  unfold two
  go_wp2
  go_ret
  exact ⟨rfl, hb7.next' hb8⟩
end Go.Proofs.Ytljckcegcfidoaa
