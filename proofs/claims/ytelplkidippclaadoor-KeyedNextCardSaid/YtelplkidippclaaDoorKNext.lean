/-
  KeyedNext, for every input: the first 32 bytes that a key is expanded to are the Mac of the info and byte 1; behind them stands that of these, the info, and byte 2.
-/
import Derived.Test.YtelplkidippclaaDoorLarge
import Derived.Test.YtelplkidippclaaDoorReach
import Derived.Test.YtelplkidippclaaDoorLaid
import Derived.Lib.QuietBelow
namespace Go.Proofs.YtelplkidippclaaDoor
open Go.RowKit Go.Kx
open Go.ChangeShapes Go.WideShapes Go.ChangeAt Go.ChangeMaps
set_option maxRecDepth 20000

theorem run_slice_fro {P : Program} {t : TypeId} (h : P.underlying t = some .string) (s : ByteArray) (lo : Int) (h0 : 0 ≤ lo) (h2 : lo ≤ (s.size : Int)) (V : World) :
    (Instr.slice t (.string s) (some (.int .i64 lo)) none none).run P V = .ok (.string (s.extract lo.toNat s.size)) V := by
  obtain ⟨l, rfl⟩ := Int.eq_ofNat_of_zero_le h0
  have e2 : (Instr.sliceBound (.int .i64 (l : Int)) s.size .sliceB).run P V = .ok l V := by
    simp only [Instr.sliceBound, asIntOf, Sem.run_bind, Sem.run_pure, Result.andThen_ok, if_pos (show 0 ≤ (l : Int) ∧ (l : Int) ≤ (s.size : Int) by omega), Int.toNat_natCast]
  simp only [Instr.slice, Instr.sliceBounds, Sem.run_bind, run_underlying h, Result.andThen_ok, Option.isSome_none, Bool.false_eq_true, if_false, Sem.run_pure, e2, Int.toNat_natCast]
theorem expL_two (key info : List UInt8) : expL key info 64 = macL key (info ++ [1]) ++ macL key (macL key (info ++ [1]) ++ info ++ [2]) := by
  rw [← expL_of key info 2 64 (by omega) (by omega), List.take_of_length_le (by rw [madeB_length]; omega)]
  rfl
theorem two_parts (s m c : List UInt8) (hs : s = m ++ c) (hm : m.length = 32) (hc : c.length = 32) : (s.drop 0).take (32 - 0) = m ∧ (s.drop 32).take (64 - 32) = c := by
  subst hs
  refine ⟨?_, ?_⟩
  · rw [List.drop_zero, List.take_append_of_le_length (by omega), List.take_of_length_le (by omega)]
  · rw [List.drop_append_of_le_length (by omega), List.drop_of_length_le (by omega), List.nil_append, List.take_of_length_le (by omega)]
theorem str_eq {a b : ByteArray} (h : a.data.toList = b.data.toList) : (a.toList == b.toList) = true := by
  rw [Lib.toList_data, Lib.toList_data, h]; exact beq_self_eq_true _
theorem ext_list (s : ByteArray) (i j : Nat) : (s.extract i j).data.toList = (s.data.toList.drop i).take (j - i) := by
  rw [Lib.extract_data]
set_option maxHeartbeats 1000000 in
theorem next_yes (key info : ByteArray) (h1 : key.size ≤ 400) (h2 : info.size ≤ 400) (h3 : key.size + info.size ≤ 400) (w : World) (hK : Consts w) :
    Calls Tryd.prog 7 #[.string key, .string info] w fun e w' => e = .returned (.bool true) ∧ Below w.heap.size w w' := by
  obtain ⟨s, hs⟩ : ∃ s : ByteArray, (⟨(expL key.data.toList info.data.toList 64).toArray⟩ : ByteArray) = s := ⟨_, rfl⟩
  obtain ⟨a, ha⟩ : ∃ a : ByteArray, info ++ ⟨#[1]⟩ = a := ⟨_, rfl⟩
  obtain ⟨m, hm⟩ : ∃ m : ByteArray, (⟨(macL key.data.toList a.data.toList).toArray⟩ : ByteArray) = m := ⟨_, rfl⟩
  obtain ⟨p, hp⟩ : ∃ p : ByteArray, s.extract 0 32 = p := ⟨_, rfl⟩
  obtain ⟨q, hq⟩ : ∃ q : ByteArray, s.extract 32 64 = q := ⟨_, rfl⟩
  obtain ⟨x, hx⟩ : ∃ x : ByteArray, p ++ info = x := ⟨_, rfl⟩
  obtain ⟨y, hy⟩ : ∃ y : ByteArray, x ++ ⟨#[2]⟩ = y := ⟨_, rfl⟩
  obtain ⟨n, hn⟩ : ∃ n : ByteArray, (⟨(macL key.data.toList y.data.toList).toArray⟩ : ByteArray) = n := ⟨_, rfl⟩
  have hsz : s.size = 64 := by rw [← hs, size_mk, expL_length _ _ _ (by omega)]
  have al : a.data.toList = info.data.toList ++ [1] := by rw [← ha]; simp
  have ml : m.data.toList = macL key.data.toList (info.data.toList ++ [1]) := by rw [← hm, al]
  have sl : s.data.toList = m.data.toList ++ macL key.data.toList (m.data.toList ++ info.data.toList ++ [2]) := by
    have e : s.data.toList = expL key.data.toList info.data.toList 64 := by rw [← hs]
    rw [e, ml, expL_two]
  have mz : m.data.toList.length = 32 := by rw [ml, macL_length]
  obtain ⟨tp1, tp2⟩ := two_parts _ _ _ sl mz (macL_length _ _)
  have pl : p.data.toList = m.data.toList := by rw [← hp, ext_list]; exact tp1
  have yl : y.data.toList = m.data.toList ++ info.data.toList ++ [2] := by rw [← hy, ← hx, ← pl]; simp
  have nl : n.data.toList = macL key.data.toList (m.data.toList ++ info.data.toList ++ [2]) := by rw [← yl, ← hn]
  have ql : q.data.toList = n.data.toList := by rw [← hq, ext_list, nl]; exact tp2
  have psz : p.size = 32 := by rw [← mz, ← pl]; simp
  have xsz : x.size = 32 + info.size := by rw [← hx]; simp; omega
  have asz : a.size = info.size + 1 := by rw [← ha]; simp; rfl
  have ysz : y.size = x.size + 1 := by rw [← hy]; simp; rfl
  have e1 : (p.toList == m.toList) = true := str_eq pl
  have e2 : (q.toList == n.toList) = true := str_eq ql
  have g1 : ∀ V : World, (Op.stringOp .add info ⟨#[1]⟩).run Tryd.prog V = .ok (.string a) V := fun V => by rw [← ha]; exact run_string_add_sum V info ⟨#[1]⟩ (by show info.size + 1 ≤ _; omega)
  have g2 : ∀ V : World, (Op.stringOp .add p info).run Tryd.prog V = .ok (.string x) V := fun V => by rw [← hx]; exact run_string_add_sum V p info (by omega)
  have g3 : ∀ V : World, (Op.stringOp .add x ⟨#[2]⟩).run Tryd.prog V = .ok (.string y) V := fun V => by rw [← hy]; exact run_string_add_sum V x ⟨#[2]⟩ (by show x.size + 1 ≤ _; omega)
  have s1 : ∀ V : World, (Instr.slice 9 (.string s) none (some (.int .i64 32)) none).run Tryd.prog V = .ok (.string p) V := fun V => by
    rw [run_slice_to Tryd.underlying9 s 32 (by omega) (by omega), ← hp]; rfl
  have s2 : ∀ V : World, (Instr.slice 9 (.string s) (some (.int .i64 32)) none none).run Tryd.prog V = .ok (.string q) V := fun V => by
    rw [run_slice_fro Tryd.underlying9 s 32 (by omega) (by omega), ← hq, hsz]; rfl
  have HEX : Hid (∀ V : World, Consts V → Calls Tryd.prog 14 #[.string key, .string info, .int .i64 64] V fun e w' => e = .returned (.tuple #[.string s, .int .i64 0]) ∧ Below V.heap.size V w') :=
    Lib.hid (fun V hV => expand_yes key info 64 (by omega) (by omega) (by omega) (by omega) s hs V hV)
  have HM1 : Hid (∀ V : World, Consts V → Calls Tryd.prog 11 #[.string key, .string a] V fun e w' => e = .returned (.string m) ∧ Below V.heap.size V w') := Lib.hid (fun V hV => Mac_any key a (by omega) (by omega) m hm V hV)
  have HM2 : Hid (∀ V : World, Consts V → Calls Tryd.prog 11 #[.string key, .string y] V fun e w' => e = .returned (.string n) ∧ Below V.heap.size V w') := Lib.hid (fun V hV => Mac_any key y (by omega) (by omega) n hn V hV)
  have hlg : decide (400 < total [key, info]) = false := by simp [total]; omega
  have hls : ∀ z ∈ [key, info], z.size ≤ 140737488351232 := by simp; omega
  have HLG := Lib.hid hlg
  have HLS := Lib.hid hls
  have HSZ := Lib.hid hsz
  clear hs ha hm hp hq hx hy hn al ml sl mz tp1 tp2 pl yl nl ql psz xsz asz ysz hlg hls hsz
  go_enter Tryd.func7, Tryd.ntmps7
  go_wp2_with fail
  refine (large_v _ _ _ [key, info] rfl HLS.out (by simp) false HLG.out _ (Sl.new' rfl)).mono ?_
  rintro e w1 ⟨rfl, rfl⟩
  have hb0 : Below w.heap.size w _ := Below.alloc0 w (.cells #[.string key, .string info] 9)
  go_wp2_with fail
  refine (HEX.out _ (hK.keep hb0)).mono ?_
  rintro e w2 ⟨rfl, hb2⟩
  have hb := hb0.next hb2
  have hK2 := hK.keep hb
  clear hb0 hb2
  have hsz := HSZ.out
  go_wp2_with fail
  have c1 : ∀ d os, Calls Tryd.prog 10 #[] (Go.Sort.grow (redrawn w2 d) os) fun e w'' => e = .returned (.bool true) ∧ ∃ p : Regrown, w'' = Go.Sort.grow (redrawn w2 p.d) p.os := fun d os => Calls.regrown_of (macs_any _ (hK2.keep (below_regrown w2 d os)))
  have c2 : ∀ d os, Calls Tryd.prog 11 #[.string key, .string a] (Go.Sort.grow (redrawn w2 d) os) fun e w'' => e = .returned (.string m) ∧ ∃ p : Regrown, w'' = Go.Sort.grow (redrawn w2 p.d) p.os := fun d os => Calls.regrown_of (HM1.out _ (hK2.keep (below_regrown w2 d os)))
  have c3 : ∀ d os, Calls Tryd.prog 11 #[.string key, .string y] (Go.Sort.grow (redrawn w2 d) os) fun e w'' => e = .returned (.string n) ∧ ∃ p : Regrown, w'' = Go.Sort.grow (redrawn w2 p.d) p.os := fun d os => Calls.regrown_of (HM2.out _ (hK2.keep (below_regrown w2 d os)))
  clear hsz
  refine wp_region_quiet_below (by kernel_rfl) (by kernel_rfl) ?_
  repeat (quiet_step (first | exact c1 _ _ | exact c2 _ _ | exact c3 _ _))
  refine wpQuiet_nil ?_
  intro _ hw'
  obtain ⟨⟨dq, osq⟩, hw''⟩ := hw'
  subst hw''
  go_wp2
  go_ret
  exact ⟨ret_bool (by first | rfl | simp), hb.next (below_regrown w2 dq osq)⟩
theorem walkKeyedNext (key : ByteArray) (h1 : key.size ≤ 140737488351232) (info : ByteArray) (h2 : info.size ≤ 140737488351232) (w : World) (hK : Consts w) :
    Calls Tryd.prog 7 #[.string key, .string info] w fun e w' => e = .returned (.bool true) ∧ Below w.heap.size w w' := by
  by_cases h : key.size + info.size ≤ 400
  · exact next_yes key info (by omega) (by omega) h w hK
  · have HLG : Hid (decide (400 < total [key, info]) = true) := Lib.hid (by simp [total]; omega)
    have HLS : Hid (∀ z ∈ [key, info], z.size ≤ 140737488351232) := Lib.hid (by simp; omega)
    clear h1 h2 h
    go_enter Tryd.func7, Tryd.ntmps7
    go_wp2_with fail
    refine (large_v _ _ _ [key, info] rfl HLS.out (by simp) true HLG.out _ (Sl.new' rfl)).mono ?_
    rintro e w1 ⟨rfl, rfl⟩
    go_wp2
    go_ret
    exact ⟨rfl, Below.alloc0 _ _⟩
end Go.Proofs.YtelplkidippclaaDoor
