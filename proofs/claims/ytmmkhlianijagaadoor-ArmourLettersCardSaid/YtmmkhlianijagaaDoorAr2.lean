/-
  armour: the contract of regroup.
-/
import Derived.Test.YtmmkhlianijagaaDoorAr1
import Derived.Test.YtmmkhlianijagaaDoorArmr
import Derived.Test.YtmmkhlianijagaaDoorOwn
import Derived.Test.YtmmkhlianijagaaDoorStil
namespace Go.Proofs.YtmmkhlianijagaaDoor
open Go.RowKit Go.Kx Go.Arm
set_option maxRecDepth 20000

def u8s (l : List Nat) : List Value := l.map fun n : Nat => Value.int .u8 (n : Int)
theorem u8s_snoc (l : List Nat) (n : Nat) : u8s l ++ [Value.int .u8 (n : Int)] = u8s (l ++ [n]) := by simp [u8s]
theorem u8s_length (l : List Nat) : (u8s l).length = l.length := by simp [u8s]
theorem sl_u8 {w : World} {A : Option Addr} {l : List Nat} (h : Sl w A (u8s l)) {k : Nat} (hk : k < l.length) : ∃ b off, A = some ⟨b, off, none⟩ ∧ w.cell? ⟨b, off + k, none⟩ = some (.int .u8 (l.getD k 0 : Nat)) := by
  obtain ⟨b, off, u, rfl, hu, hc⟩ := h.at_ (k := k) (by rw [u8s_length]; exact hk)
  refine ⟨b, off, rfl, ?_⟩
  rw [hc]
  simp only [u8s, List.getElem?_map, List.getElem?_eq_getElem hk, Option.map_some, Option.some.injEq] at hu
  rw [← hu, List.getD, List.getElem?_eq_getElem hk]
  rfl
theorem own_low {w : World} {B B' : Nat} {e : TypeId} {sz : Nat} {v : Value} {n : Nat} {xs : List Value} (h : w.ownsRow B e sz v n xs) (hB : B' ≤ B) : w.ownsRow B' e sz v n xs := by
  refine ⟨h.1, ?_⟩
  rcases h.2 with h2 | ⟨g, cap, cur, hv, hg, hr⟩
  · exact .inl h2
  · exact .inr ⟨g, cap, cur, hv, Nat.le_trans hB hg, hr⟩
theorem own_held {V W : World} {B b : Nat} {e : TypeId} {sz : Nat} {v : Value} {n : Nat} {xs : List Value} (h : V.ownsRow B e sz v n xs) (hh : V.grownBy W (some b)) (hB : b < B) : W.ownsRow B e sz v n xs := by
  refine h.kept hh ?_
  cases ho : v.ownBlock with
  | none => exact .inl rfl
  | some k =>
    right
    intro e
    cases e
    have := (h.lt _ ho).1
    omega
theorem below_held {w V W : World} {b : Nat} (hb : Below w.heap.size w V) (hh : V.grownBy W (some b)) (hB : w.heap.size ≤ b) : Below w.heap.size w W :=
  hb.grown hh hb.size (fun k e => by cases e; exact hB)
theorem rowIs_held {V W : World} {b g : Nat} {t : TypeId} {n : Nat} {f : Nat → Value} (h : V.rowIs g t n f) (hh : V.grownBy W (some b)) (hne : g ≠ b) : W.rowIs g t n f :=
  h.of_block (hh.block g (World.rowIs.lt h) (fun e => hne (by cases e; rfl)))
theorem hld_grown {V W : World} {b m c : Nat} {row : Option Nat} (h : Hld V b m c) (hg : V.grownBy W row) (hne : row ≠ some b) : Hld W b m c :=
  World.rowIs.of_block h (hg.block b h.lt (fun e => hne e.symm))
/-- Behind a try to take a number off: j groups were told, and the next one is ready, or there is none. -/
def Tk (bb : Nat) (B : List Nat) (b j q : Nat) (ok : Bool) (W : World) : Prop :=
  (ok = false ∧ cntH bb j B < bb ∧ Hld W b (numH bb j B) (cntH bb j B)) ∨ (ok = true ∧ bb * (j + 1) ≤ B.length ∧ outN bb j B ++ [q] = outN bb (j + 1) B ∧ Hld W b (numH bb (j + 1) B) (cntH bb (j + 1) B))
theorem Tk.keep {bb : Nat} {B : List Nat} {b j q : Nat} {ok : Bool} {V W : World} {row : Option Nat} (h : Tk bb B b j q ok V) (hg : V.grownBy W row) (hne : row ≠ some b) : Tk bb B b j q ok W := by
  rcases h with ⟨h1, h2, h3⟩ | ⟨h1, h2, h3, h4⟩
  · exact .inl ⟨h1, h2, hld_grown h3 hg hne⟩
  · exact .inr ⟨h1, h2, h3, hld_grown h4 hg hne⟩
theorem Hld.heap {w : World} {b m c : Nat} (h : Hld w b m c) : w.heap[b]? = some (.cells #[.int .i64 (m : Int), .int .i64 (c : Int)] 37 (0, 0)) := by
  rw [rowIs_heap h]
  rfl
theorem results_slot_cell {P : Program} {fn : Func} {p q : Tmp} {ty : TypeId} (h : fn.results = #[.tmp q, .cell p ty]) (tmps : Array Value) (w : World) (g : Nat) (t : TypeId) (cs : Array Value) (fr : Nat × Nat) (d : TypeDesc)
    (hp : tmps.getD p undef = .pointer (some ⟨g, 0, none⟩)) (hg : w.heap[g]? = some (.cells cs t fr))
    (hu : P.underlying ty = some d) (hd : (match d with | .struct _ | .array _ _ => true | _ => false) = true) (hi : (P.info? ty).map (·.size) = some cs.size) (v : Value) (hv : tmps.getD q undef = v) :
    (results fn tmps).run P w = .ok (.tuple #[v, .agg cs]) w := by
  subst hv
  have hp' : tmps[p]?.getD undef = .pointer (some ⟨g, 0, none⟩) := by simpa using hp
  simp [results, h, hp', asAddr, run_loadVar_row w g t ty cs fr d hg hu hd hi]
theorem held_info : (Tryd.prog.info? 37).map (·.size) = some 2 := by kernel_rfl
def slLen : Value → Nat
  | .slice _ n _ => n
  | _ => 0

set_option maxHeartbeats 4000000 in
theorem regroup_any (Fp Ft : FuncId) (hFp : ∀ (x : Array Value) (V : World), (callFunc Fp x).run Tryd.prog V = .ok (.enter Fp x) V) (hFt : ∀ (x : Array Value) (V : World), (callFunc Ft x).run Tryd.prog V = .ok (.enter Ft x) V)
    (a bb : Nat) (ha : a ≤ 8) (hb0 : 0 < bb) (hbb : bb ≤ 8)
    (hput : ∀ b m c x V, c ≤ 12 → m < 2 ^ c → x < 2 ^ a → Hld V b m c → Calls Tryd.prog Fp #[.pointer (some ⟨b, 0, none⟩), .int .u8 ((x : Nat) : Int)] V fun e w' => e = .returned (.tuple #[]) ∧ Held V b (m * 2 ^ a + x) (c + a) w')
    (hno : ∀ b m c V, c < bb → Hld V b m c → Calls Tryd.prog Ft #[.pointer (some ⟨b, 0, none⟩)] V fun e w' => e = .returned (.tuple #[.int .u8 0, .bool false]) ∧ w' = V)
    (hyes : ∀ b m c q r k V, m / 2 ^ (c - bb) = q → m % 2 ^ (c - bb) = r → c - bb = k → bb ≤ c → c ≤ 20 → m < 2 ^ c → Hld V b m c → Calls Tryd.prog Ft #[.pointer (some ⟨b, 0, none⟩)] V fun e w' => e = .returned (.tuple #[.int .u8 ((q : Nat) : Int), .bool true]) ∧ Held V b r k w')
    (vals : List Nat) (hv : ∀ x ∈ vals, x < 2 ^ a) (hsz : vals.length ≤ 10000) (A : Option Addr) (c : Nat) (w : World) (hs : Sl w A (u8s vals)) :
    Calls Tryd.prog 16 #[.slice A vals.length c, .func (.func Fp) #[] #[], .func (.func Ft) #[] #[]] w fun e w' =>
      ∃ v j, e = .returned (.tuple #[v, .agg #[.int .i64 (numH bb j (bitsL a vals) : Nat), .int .i64 (cntH bb j (bitsL a vals) : Nat)]]) ∧ j = (bitsL a vals).length / bb ∧ w'.ownsRow w.heap.size 5 1 v j (u8s (outN bb j (bitsL a vals))) ∧ Below w.heap.size w w' := by
  have hh0 : Hld ((w.alloc (.cells #[.int .i64 0, .int .i64 0] 37)).alloc (.cells #[.int .i64 0, .int .i64 0] 37)) (w.heap.size + 1) 0 0 := by
    have h := rowIs_new (w := w.alloc (.cells #[.int .i64 0, .int .i64 0] 37)) (t := 37) (n := 2) (z := .int .i64 0) (c := #[.int .i64 0, .int .i64 0]) rfl
    rw [World.size_alloc] at h
    exact h.congr fun j _ => by simp
  have hr0 : ((w.alloc (.cells #[.int .i64 0, .int .i64 0] 37)).alloc (.cells #[.int .i64 0, .int .i64 0] 37)).rowIs w.heap.size 37 2 (fun _ => .int .i64 0) :=
    World.rowIs.alloc (rowIs_new (w := w) (t := 37) (n := 2) (z := .int .i64 0) (c := #[.int .i64 0, .int .i64 0]) rfl) _
  have hb2 := (Below.alloc0 w (.cells #[.int .i64 0, .int .i64 0] 37)).al (.cells #[.int .i64 0, .int .i64 0] 37)
  have hsz2 : w.heap.size + 2 ≤ ((w.alloc (.cells #[.int .i64 0, .int .i64 0] 37)).alloc (.cells #[.int .i64 0, .int .i64 0] 37)).heap.size := by simp
  obtain ⟨i0, hi, hz0, hz1, hz2⟩ := info_parts octet_info
  have HPUT := Lib.hid hput
  have HNO := Lib.hid hno
  have HYES := Lib.hid hyes
  have HV := Lib.hid hv
  clear hput hno hyes hv
  go_enter Tryd.func16, Tryd.ntmps16
  go_wp2
  generalize ((w.alloc _).alloc _) = W0 at *
  obtain ⟨n, hn⟩ : ∃ n, n = vals.length := ⟨_, rfl⟩
  have HN := Lib.hid hn
  rw [← hn]
  clear hn
  go_loopw [9, 11, 12, 13, 16] (fun v _ _ _ i wr => ∃ k j : Nat, k ≤ n ∧ i = .int .i64 k ∧ Hid (bb * j ≤ (bitsL a (vals.take k)).length) ∧ Hid (cntH bb j (bitsL a (vals.take k)) < bb) ∧
      wr.ownsRow (w.heap.size + 2) 5 1 v j (u8s (outN bb j (bitsL a (vals.take k)))) ∧ Hld wr (w.heap.size + 1) (numH bb j (bitsL a (vals.take k))) (cntH bb j (bitsL a (vals.take k))) ∧
      wr.rowIs w.heap.size 37 2 (fun _ => .int .i64 0) ∧ Below w.heap.size w wr ∧ w.heap.size + 2 ≤ wr.heap.size) (fun _ _ _ _ i _ => n - (intOf i).toNat)
  case atStart =>
    refine ⟨0, 0, by omega, rfl, Lib.hid (by omega), Lib.hid (by simpa [cntH, bitsL] using hb0), ?_, ?_, hr0, hb2, hsz2⟩
    · exact World.ownsRow_nil _ _ _ _
    · simpa [numH, cntH, bitsL, numN] using hh0
  case round =>
    clear hh0 hr0 hb2 hsz2
    obtain ⟨k, j, hk, rfl, hj, hc, hown, hh, hr, hb, hsz2⟩ := hrel
    by_cases hlt : k < n
    · have hkl : k < vals.length := by have := HN.out; omega
      obtain ⟨b0, off, rfl, hcell⟩ := sl_u8 (hs.keep hb) hkl
      have hx : vals.getD k 0 < 2 ^ a := HV.out _ (by rw [List.getD, List.getElem?_eq_getElem hkl]; exact List.getElem_mem hkl)
      have HB := Lib.hid (bitsL_take_succ a vals hkl)
      have H2 : Hid (∀ d ∈ bitsL a (vals.take (k + 1)), d < 2) := Lib.hid (bitsL_two a _)
      have H20 : Hid (∀ d ∈ bitsL a (vals.take k), d < 2) := Lib.hid (bitsL_two a _)
      have HLEN : Hid ((bitsL a (vals.take (k + 1))).length ≤ 80008) := Lib.hid (by
        rw [bitsL_length, List.length_take]
        have h1 : a * min (k + 1) vals.length ≤ 8 * 10001 := Nat.mul_le_mul ha (by omega)
        exact h1)
      generalize vals.getD k 0 = x at *
      generalize hBE : bitsL a (vals.take (k + 1)) = B' at *
      have HBE := Lib.hid hBE
      clear hBE
      generalize bitsL a (vals.take k) = B at *
      have hM : Hid (numH bb j B < 2 ^ cntH bb j B) := Lib.hid (numH_lt H20.out)
      have hP1 := Lib.hid (put_out hj.out (bitsN x a))
      have hP2 := Lib.hid (put_num hj.out a x hx)
      have hP3 := Lib.hid (put_cnt hj.out a x)
      have hj' : bb * j ≤ B'.length := by rw [HB.out, List.length_append]; have := hj.out; omega
      rw [← HB.out] at hP1 hP2 hP3
      have hC' : cntH bb j B' ≤ 15 := by have h1 := hP3.out; have h2 := hc.out; omega
      go_wp2_with fail
      refine (HPUT.out _ _ _ x _ (by have := hc.out; omega) hM.out hx hh).mono ?_
      rintro e w1 ⟨rfl, hh1⟩
      rw [hP2.out, hP3.out] at hh1
      rw [← hP1.out] at hown
      replace hown := own_held hown hh1.2 (by omega)
      replace hb := below_held hb hh1.2 (by omega)
      replace hr := rowIs_held hr hh1.2 (by omega)
      replace hsz2 := Nat.le_trans hsz2 hh1.2.size
      replace hh := hh1.1
      clear hh1 hP1 hP2 hP3 hj hc hM hcell HB hx
      have HT : Hid (∀ (j : Nat) (V : World), bb * j ≤ B'.length → cntH bb j B' ≤ 20 → Hld V (w.heap.size + 1) (numH bb j B') (cntH bb j B') →
          Calls Tryd.prog Ft #[.pointer (some ⟨w.heap.size + 1, 0, none⟩)] V fun e w' => ∃ (q : Nat) (ok : Bool), e = .returned (.tuple #[.int .u8 (q : Int), .bool ok]) ∧ Tk bb B' (w.heap.size + 1) j q ok w' ∧ V.grownBy w' (some (w.heap.size + 1))) := Lib.hid (by
        intro j V h1 h2 h3
        by_cases hlt : cntH bb j B' < bb
        · refine (HNO.out _ _ _ _ hlt h3).mono ?_
          rintro e w2 ⟨rfl, rfl⟩
          exact ⟨0, false, rfl, .inl ⟨rfl, hlt, h3⟩, ⟨rfl, rfl, rfl, Nat.le_refl _, fun _ _ _ => rfl⟩⟩
        · refine (HYES.out _ _ _ _ _ _ _ rfl (take_num bb j B' H2.out) (take_cnt bb j B') (by omega) h2 (numH_lt H2.out) h3).mono ?_
          rintro e w2 ⟨rfl, h4⟩
          refine ⟨_, true, rfl, .inr ⟨rfl, ?_, take_out bb j B' H2.out, h4.1⟩, h4.2⟩
          unfold cntH at hlt
          rw [Nat.mul_succ]
          omega)
      go_wp2_with fail
      refine (HT.out j _ hj' (by omega) hh).mono ?_
      rintro e w2 ⟨q, ok, rfl, htk, hg2⟩
      replace hown := own_held hown hg2 (by omega)
      replace hb := below_held hb hg2 (by omega)
      replace hr := rowIs_held hr hg2 (by omega)
      replace hsz2 := Nat.le_trans hsz2 hg2.size
      clear hg2 hh
      have HJ := Lib.hid hj'
      have HC := Lib.hid (Nat.le_trans hC' (show 15 ≤ 20 by omega))
      clear hj' hC'
      go_wp2
      go_loopw [9, 12, 13] (fun v x o wr => ∃ (j q : Nat) (ok : Bool), x = .int .u8 (q : Int) ∧ o = .bool ok ∧ Hid (bb * j ≤ B'.length) ∧ Hid (cntH bb j B' ≤ 20) ∧ wr.ownsRow (w.heap.size + 2) 5 1 v j (u8s (outN bb j B')) ∧ Tk bb B' (w.heap.size + 1) j q ok wr ∧
        wr.rowIs w.heap.size 37 2 (fun _ => .int .i64 0) ∧ Below w.heap.size w wr ∧ w.heap.size + 2 ≤ wr.heap.size) (fun v _ _ _ => B'.length - slLen v)
      case atStart => exact ⟨j, q, ok, rfl, rfl, HJ, HC, hown, htk, hr, hb, hsz2⟩
      case round =>
        clear hown htk hr hb hsz2
        obtain ⟨j1, q1, ok1, rfl, rfl, hj1, hcs1, hown, htk, hr, hb, hsz2⟩ := hrel
        rcases htk with ⟨rfl, hc1, hh⟩ | ⟨rfl, hj2, ho, hh⟩
        · go_wp2
          go_roundw
          case rel => exact ⟨k + 1, j1, by omega, by go_num, by rw [HBE.out]; exact hj1, Lib.hid (by rw [HBE.out]; exact hc1), by rw [HBE.out]; exact hown, by rw [HBE.out]; exact hh, hr, hb, hsz2⟩
          case measure => simp [intOf]; omega
        · obtain ⟨A1, c1, rfl, -⟩ := own_sl hown
          have HO := Lib.hid ho
          have HJ2 := Lib.hid hj2
          have hjs : j1 ≤ 80008 := by
            have h1 := HLEN.out
            have h2 : 1 * (j1 + 1) ≤ bb * (j1 + 1) := Nat.mul_le_mul_right _ (by omega)
            omega
          clear ho hj2
          go_wp2_with (first
            | (at_builtin; refine wpList_append_own _ rfl _ _ 34 rfl (w.heap.size + 2) 5 i0 (.int .u8 0) 1 1 Tryd.underlying34 hi hz0 hz1 hz2 rfl (by decide) _ _ _ rfl (hown.alloc _) ⟨wr.heap.size, 0, none⟩ 1 1 [.int .u8 (q1 : Int)] rfl rfl ?c1 ?c2 ?c3 ?c4 ?c5 ?_)
            | go_in)
          case c1 =>
            intro j u hj
            match j, hj with
            | 0, hj => simp at hj; subst hj; simp [Addr.add]
          case c2 => intro u hu; simp at hu; subst hu; rfl
          case c3 => unfold maxLen; omega
          case c4 => omega
          case c5 => simp; omega
          intro v' w3 hown' hgrow _
          have hne : (Value.slice A1 j1 c1).ownBlock ≠ some (w.heap.size + 1) := fun e => by
            have := (hown.lt _ e).1
            omega
          have hb3 := (hb.al (.cells #[.int .u8 (q1 : Int)] 5)).grown hgrow (by have := hb.size; simp; omega) (fun k e => by have := (hown.lt _ e).1; omega)
          rw [u8s_snoc, HO.out] at hown'
          have hh3 := hld_grown (hh.keep (Below.alloc0 _ _)) hgrow hne
          have hr3 := (hr.alloc (.cells #[.int .u8 (q1 : Int)] 5)).of_block (hgrow.block w.heap.size (by simp; omega) (fun e => by have := (hown.lt _ e.symm).1; omega))
          have hsz3 : w.heap.size + 2 ≤ w3.heap.size := Nat.le_trans (Nat.le_trans hsz2 (by simp)) hgrow.size
          clear hown hgrow hb hh hr hsz2 hne
          go_wp2_with fail
          have hcs2 : cntH bb (j1 + 1) B' ≤ 20 := by rw [← take_cnt]; have := hcs1.out; omega
          have HCS2 := Lib.hid hcs2
          refine (HT.out (j1 + 1) _ HJ2.out hcs2 hh3).mono ?_
          rintro e w4 ⟨q2, ok2, rfl, htk, hg4⟩
          replace hown := own_held hown' hg4 (by omega)
          replace hb := below_held hb3 hg4 (by omega)
          replace hr := rowIs_held hr3 hg4 (by omega)
          replace hsz2 := Nat.le_trans hsz3 hg4.size
          clear hown' hb3 hr3 hsz3 hg4 hh3 hcs2
          obtain ⟨A2, c2, rfl, -⟩ := own_sl hown
          go_wp2
          go_roundw
          case rel => exact ⟨j1 + 1, q2, ok2, rfl, rfl, HJ2, HCS2, hown, htk, hr, hb, hsz2⟩
          case measure =>
            have h1 := HJ2.out
            have h2 : 1 * (j1 + 1) ≤ bb * (j1 + 1) := Nat.mul_le_mul_right _ (by omega)
            simp [slLen]
            omega
    · obtain rfl : k = n := by omega
      have HTK : vals.take k = vals := by rw [HN.out, List.take_length]
      rw [HTK] at hj hc hown hh
      clear HTK
      have hjj := Lib.hid (cnt_small hb0 hj.out hc.out)
      have hgh := hh.heap
      have hN1 : w.heap.size < wr.heap.size := by omega
      obtain ⟨M, hM⟩ : ∃ M, M = numH bb j (bitsL a vals) := ⟨_, rfl⟩
      obtain ⟨C, hC⟩ : ∃ C, C = cntH bb j (bitsL a vals) := ⟨_, rfl⟩
      rw [← hM, ← hC] at hgh
      have HM := Lib.hid hM
      have HCC := Lib.hid hC
      clear hM hC hh hj hc
      go_wp2
      have hbD := hb.drew
      have hgD : wr.drew.heap[w.heap.size + 1]? = _ := hgh
      have hrD := hr.drew
      have hoD : wr.drew.ownsRow (w.heap.size + 2) 5 1 _ _ _ := hown
      refine wp_region_still_tail 3 (by kernel_rfl) (by kernel_rfl) ?_
      change wpStill _ _ wr.drew (fun a' => wpList _ _ _ _ a' wr.drew) _ _
      clear hb hgh hr hown hN1 hsz2
      generalize wr.drew = w2 at *
      simp only [List.take_succ_cons, List.take_zero, List.drop_succ_cons, List.drop_zero]
      still_step
      refine wpStill_load_row rfl _ _ rfl (w.heap.size + 1) rfl _ _ _ _ hgD Tryd.underlying37 rfl held_info ?_
      simp only [Act.put, List.setIfInBounds_toArray, List.set_cons_zero, List.set_cons_succ]
      repeat still_step
      refine wpStill_nil ?_
      have c0 := hrD.cell (i := 0) (by omega)
      have c1 := hrD.cell (i := 1) (by omega)
      have f0 := hrD.frozen 0
      have f1 := hrD.frozen 1
      go_wp2
      have hrow : ((w2.setCell ⟨w.heap.size, 0, none⟩ (.int .i64 (M : Int))).setCell ⟨w.heap.size, 1, none⟩ (.int .i64 (C : Int))).heap[w.heap.size]? = some (.cells #[.int .i64 (M : Int), .int .i64 (C : Int)] 37 (0, 0)) := by
        rw [rowIs_heap ((hrD.set 0 _).set 1 _)]
        rfl
      refine bodyPost_ret (v := .tuple #[_, .agg #[.int .i64 (M : Int), .int .i64 (C : Int)]]) (results_slot_cell rfl _ _ w.heap.size _ _ _ _ rfl hrow Tryd.underlying37 rfl held_info _ rfl) rfl ?_
      refine ⟨_, j, by rw [HM.out, HCC.out], hjj.out, ?_, (hbD.setCell (p := ⟨w.heap.size, 0, none⟩) (by simp) _).setCell (p := ⟨w.heap.size, 1, none⟩) (by simp) _⟩
      have hno : ∀ V : World, ∀ v : Value, V.ownsRow (w.heap.size + 2) 5 1 u9 j (u8s (outN bb j (bitsL a vals))) → ∀ i, (V.setCell ⟨w.heap.size, i, none⟩ v).ownsRow (w.heap.size + 2) 5 1 u9 j (u8s (outN bb j (bitsL a vals))) := fun V v h i =>
        own_held h (grown_setCell V ⟨w.heap.size, i, none⟩ v) (by simp)
      exact own_low (hno _ _ (hno _ _ hoD 0) 1) (by omega)
end Go.Proofs.YtmmkhlianijagaaDoor
