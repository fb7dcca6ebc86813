/-
  stream: Block.
-/
import Derived.Test.YtlkdofghhibmbaaDoorStrS
namespace Go.Proofs.YtlkdofghhibmbaaDoor
open Go.RowKit Go.Kx
set_option maxRecDepth 20000

theorem block_yes (key nonce : ByteArray) (n : Nat) (hk : key.size = 32) (hn : nonce.size = 12) (hw : n < 4294967296) (r : ByteArray) (hr : ⟨(bytesL (startL key nonce n)).toArray⟩ = r) (w : World) (hK : Places w) :
    Calls Tryd.prog 13 #[.string key, .string nonce, .int .i64 n] w fun e w' => e = .returned (.tuple #[.string r, .int .i64 0]) ∧ Below w.heap.size w w' := by
  obtain ⟨d, hd⟩ : ∃ d, sv (startL key nonce n) = d := ⟨_, rfl⟩
  have HST : Hid (∀ V : World, Calls Tryd.prog 26 #[.string key, .string nonce, .int .i64 n] V fun e w' => e = .returned (.tuple #[.agg d, .bool true]) ∧ Below V.heap.size V w') :=
    Lib.hid fun V => start_yes key nonce n hk hn hw d hd V
  have HBY : Hid (∀ V : World, Places V → Calls Tryd.prog 27 #[.agg d] V fun e w' => e = .returned (.string r) ∧ Below V.heap.size V w') := Lib.hid fun V hV => bytes_any (startL key nonce n) (startL_ok key nonce n hk hn hw) d hd.symm r hr V hV
  have hinf : (Tryd.prog.info? 57).map (·.size) = some d.size := by rw [← hd, sv_size]; exact sv_info
  have hold : zero16.size = d.size := by rw [← hd, sv_size]; rfl
  have hall : d.all (·.oneCell') = true := by rw [← hd]; exact all_one_ints (k := .i64) (g := fun j => ((startL key nonce n).getD j 0 : Nat)) (n := 16) rfl
  have hst : ∀ V : World, (V.alloc (.cells zero16 57)).heap[V.heap.size]? = some (.cells zero16 57 (0, 0)) := fun V => heap_alloc_new V _
  clear hd hr hk hn hw
  unfold zero16 at hold hst
  go_enter Tryd.func13, Tryd.ntmps13
  go_wp2_with fail
  refine (HST.out _).mono ?_
  rintro e w1 ⟨rfl, hb1⟩
  have hgW := setRow_heap _ _ _ d _ _ (hst w1)
  have hbW := (Below.alloc0 w1 (.cells zero16 57)).setRow (g := w1.heap.size) (Nat.le_refl _) d
  have hbw := hb1.next hbW
  unfold zero16 at hbw
  go_wp2_with (first
    | (refine wpList_store_row rfl _ _ _ rfl w1.heap.size _ rfl rfl _ _ (hst w1) hinf hold hall ?_)
    | (refine wpList_load_row rfl _ _ rfl w1.heap.size rfl _ _ _ _ hgW Tryd.underlying57 rfl hinf ?_))
  refine (HBY.out _ (hK.keep hbw)).mono ?_
  rintro e w3 ⟨rfl, hb3⟩
  go_wp2
  go_ret2
  exact ⟨rfl, hbw.next hb3⟩
theorem block_no (key nonce : ByteArray) (n : Int) (h : key.size = 32 ∧ nonce.size = 12 → okW n = false) (w : World) :
    Calls Tryd.prog 13 #[.string key, .string nonce, .int .i64 n] w fun e w' => e = .returned (.tuple #[.string ⟨#[]⟩, .int .i64 1]) ∧ Below w.heap.size w w' := by
  obtain ⟨d, hd⟩ : ∃ d, zero16 = d := ⟨_, rfl⟩
  have HST : Hid (∀ V : World, Calls Tryd.prog 26 #[.string key, .string nonce, .int .i64 n] V fun e w' => e = .returned (.tuple #[.agg d, .bool false]) ∧ Below V.heap.size V w') :=
    Lib.hid fun V => by rw [← hd]; exact start_no key nonce n h V
  have hinf : (Tryd.prog.info? 57).map (·.size) = some d.size := by rw [← hd]; exact sv_info
  have hold : zero16.size = d.size := by rw [← hd]
  have hall : d.all (·.oneCell') = true := by rw [← hd]; exact all_one_ints (k := .i64) (g := fun _ => 0) (n := 16) rfl
  have hst : ∀ V : World, (V.alloc (.cells zero16 57)).heap[V.heap.size]? = some (.cells zero16 57 (0, 0)) := fun V => heap_alloc_new V _
  clear hd h
  unfold zero16 at hold hst
  go_enter Tryd.func13, Tryd.ntmps13
  go_wp2_with fail
  refine (HST.out _).mono ?_
  rintro e w1 ⟨rfl, hb1⟩
  go_wp2_with (refine wpList_store_row rfl _ _ _ rfl w1.heap.size _ rfl rfl _ _ (hst w1) hinf hold hall ?_)
  go_ret2
  exact ⟨rfl, hb1.next ((Below.alloc0 w1 _).setRow (g := w1.heap.size) (Nat.le_refl _) d)⟩
end Go.Proofs.YtlkdofghhibmbaaDoor
