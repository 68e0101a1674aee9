import PyProof.Rows.All
import Wide.All
import OpenK.AllK
import Wide.FinOn
import KE.KExcIs
import KE.KExcPX
import HandS.ForMost
import HandS.Deep
import HandS.DictEq
import HandS.DeepEq
import HandS.Exc
import HandS.ExcOwn
import HandS.ExcInit
import HandS.ExcValue
import HandS.IsInst
import HandS.Codes
import HandS.TupMul
import HandS.Small
import PyProof.ReprRoads
import PySem.Challenge.RW_thesesothose_k10_errors_apart
import HandS.Evl
import PyProof.ReprLen
import HandS.Comp
import HandS.Iter
import HandS.Walk
set_option Elab.async false
set_option linter.all false
set_option maxRecDepth 100000
set_option maxHeartbeats 4000000
namespace Kten
open PySem PySem.Spec PyProof.Rows L2
/-! ### the text -/
def topS (i : Nat) : Stmt := PySem.Challenge.pw_thesesothose_k10_errors_apart.main.body.getD i (.Pass ⟨0, 0, 0, 0⟩)
abbrev sBag : Stmt := topS 19
abbrev sTake : Stmt := topS 20
abbrev sAlike : Stmt := topS 21
abbrev sOne : Stmt := topS 22
abbrev sOdd : Stmt := topS 23
abbrev sFlags : Stmt := topS 24
abbrev sKept : Stmt := topS 25
abbrev sLaw : Stmt := topS 26
end Kten
set_option maxRecDepth 100000
set_option maxHeartbeats 4000000
namespace Kten
open PySem PySem.Spec PyProof.Rows L2
theorem scBag : FnScope ["_law_script", "_law_cell"] ["_law_script"] (defScope sBag) := ⟨rfl, rfl, rfl, by decide +kernel, rfl, by decide +kernel, by decide +kernel⟩
theorem scTake : FnScope ["_law_bag_here", "_law_many", "_law_cell", "_law_mixed", "_law_value", "_law_begin", "_law_second"] ["_law_bag_here", "_law_many"] (defScope sTake) := ⟨rfl, rfl, rfl, by decide +kernel, rfl, by decide +kernel, by decide +kernel⟩
theorem scOne : FnScope ["_law_bag_here", "_law_things"] ["_law_bag_here", "_law_things"] (defScope sOne) := ⟨rfl, rfl, rfl, by decide +kernel, rfl, by decide +kernel, by decide +kernel⟩
/-- the bag at b, its cells at q -/
def BagC (H : Hp) (b q : Addr) (cs : List Int) (c0 c1 c2 : Int) : Prop :=
  H b = some (.lst [.int c0, .int c1, .int c2, .ref q]) ∧ H q = some (.lst (cs.map V.int)) ∧ 0 ≤ c0 ∧ 0 ≤ c1 ∧ c1 < 2147483648 ∧ 0 ≤ c2 ∧ ∀ c ∈ cs, 0 ≤ c
def Bag (H : Hp) (b q : Addr) (cs : List Int) : Prop := ∃ c0 c1 c2, BagC H b q cs c0 c1 c2
theorem bag_ne {H : Hp} {b q : Addr} {cs : List Int} (h : Bag H b q cs) : q ≠ b := by
  obtain ⟨c0, c1, c2, h1, h2, _⟩ := h
  intro e
  subst e
  rw [h1] at h2
  cases cs with
  | nil => cases h2
  | cons c r =>
    cases r with
    | nil => cases h2
    | cons c r =>
      cases r with
      | nil => cases h2
      | cons c r =>
        cases r with
        | nil => cases h2
        | cons c r => cases h2
/-- all but the bag's own list is as it was -/
def But (b : Addr) (H H' : Hp) : Prop := ∀ a o, a ≠ b → H a = some o → H' a = some o
theorem But.refl (b : Addr) (H : Hp) : But b H H := fun _ _ _ h => h
theorem But.trans {b : Addr} {H H1 H2 : Hp} (h : But b H H1) (k : But b H1 H2) : But b H H2 := fun a o n e => k a o n (h a o n e)
theorem But.put {b : Addr} {H : Hp} {o : HO} : But b H (upd H b o) := fun a u n e => by
  rw [upd_ne n]
  exact e
theorem But.new {b p : Addr} {H : Hp} {o : HO} (h : H p = none) : But b H (upd H p o) := fun a u _ e => by
  rw [upd_ne (ne_of_none e h)]
  exact e
/-- nothing that was free of the tracked is tracked now: only what the call makes -/
theorem BagC.put {H : Hp} {b q : Addr} {cs : List Int} {c0 c1 c2 d0 d1 d2 : Int} (h : BagC H b q cs c0 c1 c2) (h0 : 0 ≤ d0) (h1 : 0 ≤ d1) (h1' : d1 < 2147483648) (h2 : 0 ≤ d2) :
    BagC (upd H b (.lst [.int d0, .int d1, .int d2, .ref q])) b q cs d0 d1 d2 := by
  have ne := bag_ne ⟨c0, c1, c2, h⟩
  obtain ⟨e1, e2, _, _, _, _, hc⟩ := h
  exact ⟨upd_same, by rw [upd_ne ne]; exact e2, h0, h1, h1', h2, hc⟩
/-- xs[k], k written, as an operation on values -/
theorem get_list_at {X : Cx} : PGet X (fun o i H Q => ∃ p xs k v, o = .ref p ∧ i = .int (k : Nat) ∧ k < 1000 ∧ SqL X.K H p xs ∧ xs[k]? = some v ∧ Q v H) := by
  intro pins s σ H o i ov iv Q I ro ri h
  obtain ⟨p, xs, k, v, rfl, rfl, hk, hq, hv, q⟩ := h
  cases ro
  obtain ⟨t, rfl⟩ := ri
  obtain ⟨its, r, pl, hz⟩ := I.list hq
  obtain ⟨w, ew, rw'⟩ := r.get hv
  exact wpAny_getItem_list pl.isList (by omega) (by omega) (by simpa using ew) ⟨v, H, I, rw', q⟩
section
variable {P : Program} {w : World} {K : PySem.W.Frag} {mg : Str → Option Value} {base : Heap}
/-! ### the bag is made -/
def spBag (K : PySem.W.Frag) : Sp := fun vs H Q _ => ∃ (a : Addr) (ns : List Int), vs = [.ref a] ∧ SqL K H a (ns.map V.int) ∧ ns.length ≤ 63 ∧ ∀ H' b q cs, Same H H' → H b = none → H q = none → Bag H' b q cs → Q (.ref b) H'
theorem yes_ {σ : L2.St} {H : Hp} {A B : Hp → Prop} (h : A H) : tYes σ H fun b H3 => if b = true then A H3 else B H3 := by
  show if true = true then A H else B H
  rw [if_pos rfl]
  exact h
theorem cut63 {xs : List V} (h : xs.length ≤ 63) : cutV xs none (some 63) = xs := by
  unfold cutV
  rw [show HT.sIx xs.length xs.length (some 63) = min 63 xs.length from HT.sIx_nat xs.length xs.length 63, HT.sIx_none, Nat.min_eq_right h]
  simp
def absI (n : Int) : Int := if n < 0 then -n else n
theorem absI_nn (n : Int) : 0 ≤ absI n := by
  unfold absI
  split <;> omega
theorem ok_bag {f : Addr} {fd : FuncData} {k : Nat} (F : Fun K "_law_bag" "_law_bag" sBag f fd) (ma : mg "abs" = none) : FnOk P w K mg base CX0 (k + 1) f fd ["_law_script"] (spBag K) := by
  refine F.ok scBag (fun vs H Q E h => ?_) (fun cdv A outer s H vs Q E hr h => ?_)
  · obtain ⟨a, ns, rfl, _⟩ := h
    rfl
  · obtain ⟨a, ns, rfl, hS, hl, q⟩ := h
    refine ⟨_, pss_one (ps_ret (pe_lst (pa_cons pe_int (pa_cons pe_int (pa_cons pe_int (pa_cons
      (pe_lc (own := [("_law_cell", 1)]) (g := gName 1) (tt := tYes) rfl scBag.nd (pi_list (pe_slice sl_list (pv 0) po_none (po_some pe_int)))
        (blkOk_by (N := ["_law_script", "_law_cell"]) (sc := defScope sBag) (by decide +kernel)) (fun _ _ _ _ _ => pg_name (i := 1) scBag.nd rfl (Or.inl rfl)) (fun _ _ _ _ _ => pts_nil)
        (fun _ _ _ _ _ => pe_callB call_abs (by rfl) ma boot_abs (pa_cons (pv 1) pa_nil))) pa_nil)))))), ?_⟩
    refine ⟨.ref a, rfl, 63, rfl, a, ns.map V.int, rfl, hS, fun c nc => ?_⟩
    have hcut : cutV (ns.map V.int) none (some 63) = ns.map V.int := cut63 (by rw [List.length_map]; exact hl)
    rw [hcut]
    have sc : Same H (upd H c (.lst (ns.map V.int))) := fun b o e => by
      rw [upd_ne (ne_of_none e nc)]
      exact e
    refine ⟨c, rfl, ⟨_, .inl (.inl upd_same)⟩, fun D hD => ?_⟩
    have nD : D ≠ c := fun e => by
      rw [e, upd_same] at hD
      cases hD
    have hDH : H D = none := by
      rw [upd_ne nD] at hD
      exact hD
    refine lc_list (K := K) (a := c) (xs := ns.map V.int) (fun i H' => Same H H' ∧ H' c = some (.lst (ns.map V.int)) ∧ H' D = some (.lst (((ns.take i).map absI).map V.int))) ?_ (fun i H' _ h => .inl (.inl h.2.1)) ?_ ?_
    · refine ⟨fun b o e => ?_, ?_, upd_same⟩
      · rw [upd_ne (ne_of_none e hDH)]
        exact sc b o e
      · rw [upd_ne (Ne.symm nD), upd_same]
    · rintro i x H' hx ⟨h1, h2, h3⟩
      obtain ⟨z, hz, rfl⟩ : ∃ z, ns[i]? = some z ∧ x = V.int z := by
        rw [List.getElem?_map] at hx
        cases e : ns[i]? with
        | none =>
          rw [e] at hx
          cases hx
        | some z =>
          rw [e] at hx
          exact ⟨z, rfl, (Option.some.inj hx).symm⟩
      have hi : i < ns.length := (List.getElem?_eq_some_iff.mp hz).1
      refine ⟨rfl, ?_⟩
      refine yes_ ?_
      refine ⟨_, rfl, z, rfl, _, h3, ?_, fun b o e => ?_, ?_, ?_⟩
      · rw [List.length_map, List.length_map, List.length_take]
        exact small1000 (by omega)
      · rw [upd_ne (ne_of_none e hDH)]
        exact h1 b o e
      · rw [upd_ne (Ne.symm nD)]
        exact h2
      · rw [upd_same, List.take_add_one, hz, List.map_append, List.map_append]
        rfl
    · rintro H' ⟨h1, h2, h3⟩
      rw [List.length_map, List.take_length] at h3
      refine ⟨by show 4 ≤ sizeLine; decide, fun p hp => ?_⟩
      have npD : D ≠ p := ne_of_none h3 hp
      refine q _ p D (ns.map absI) (fun b o e => ?_) ?_ hDH ⟨0, 1234567891, 0, upd_same, ?_, by decide, by decide, by decide, by decide, ?_⟩
      · have e1 := h1 b o e
        rw [upd_ne (ne_of_none e1 hp)]
        exact e1
      · cases e : H p with
        | none => rfl
        | some o =>
          rw [h1 p o e] at hp
          cases hp
      · rw [upd_ne npD]
        exact h3
      · intro c hc
        obtain ⟨n, _, rfl⟩ := List.mem_map.mp hc
        exact absI_nn n
end
end Kten
set_option maxRecDepth 100000
set_option maxHeartbeats 4000000
namespace Kten
open PySem PySem.Spec PyProof.Rows L2
section
variable {P : Program} {w : World} {K : PySem.W.Frag} {mg : Str → Option Value} {base : Heap}
/-! ### a draw -/
def spTake : Sp := fun vs H Q _ => ∃ (b q : Addr) (cs : List Int) (m : Int), vs = [.ref b, .int m] ∧ Bag H b q cs ∧ 0 < m ∧ m < 1073741824 ∧ ∀ (v : Int) H', 0 ≤ v → v < m → Bag H' b q cs → But b H H' → (∀ a, H a = none → H' a = none) → Q (.int v) H'
theorem pm1 : (0 : Int) < 2147483647 := by decide
theorem pm2 : (0 : Int) < 1000000007 := by decide
theorem pm3 : (0 : Int) < 998244353 := by decide
theorem ok_take {f : Addr} {fd : FuncData} {k : Nat} (F : Fun K "_law_take" "_law_take" sTake f fd) (ml : mg "len" = none) (mi : mg "int" = none) : FnOk P w K mg base CX0 (k + 1) f fd ["_law_bag_here", "_law_many"] spTake := by
  refine F.ok scTake (fun vs H Q E h => ?_) (fun cdv A outer s H vs Q E hr h => ?_)
  · obtain ⟨b, q, cs, m, rfl, _⟩ := h
    rfl
  · obtain ⟨b, q, cs, m, rfl, ⟨c0, c1, c2, hB⟩, hm0, hm1, kq⟩ := h
    have cell : ∀ {i : Nat} {x : V}, ([.int c0, .int c1, .int c2, .ref q] : List V)[i]? = some x → True := fun _ => trivial
    refine ⟨_, C8.pss_cut (ps_if (pt_cmpR op_eq (pe_ix ix_list (pv 0) pe_int (fun _ _ => rfl)) pe_int (nomark _))
        (pss_cons (ps_set (i := 2) scTake.nd rfl (.inl rfl) pe_int)
        (C8.pss_cut (ps_if (pt_cmpR op_lt (pe_ix ix_list (pv 0) pe_int (fun _ _ => rfl)) (pe_callB call_len_seq (by rfl) ml PySem.boot_len (pa_cons (pe_ix ix_list (pv 0) pe_int (fun _ _ => rfl)) pa_nil)) (nomark _))
            (pss_one (ps_set (i := 2) scTake.nd rfl (.inl rfl) (pe_ix ix_list (pe_ix ix_list (pv 0) pe_int (fun _ _ => rfl)) (pe_ix ix_list (pv 0) pe_int (fun _ _ => rfl)) (fun _ _ => rfl)))) pss_nil)
        (pss_cons (ps_augS (pv 0) pe_int get_list_at pe_int ip_add set_list)
        (C8.pss_cut (ps_if (pt_cmpR op_ge (pv 2) pe_int (nomark _)) (pss_one (ps_asg (pv 2) (pg_sub (pv 0) pe_int set_list))) pss_nil)
        (pss_cons (ps_set (i := 3) scTake.nd rfl (.inl rfl) (pe_op op_add (pe_op op_add (pe_op op_mul (pe_ix ix_list (pv 0) pe_int (fun _ _ => rfl)) pe_int)
            (pe_op op_mod (pe_callTy call_int1 (by rfl) mi boot_int (pa_cons (pv 2) pa_nil)) pe_int)) (pe_op op_mul pe_int (pe_ix ix_list (pv 0) pe_int (fun _ _ => rfl)))))
        (pss_one (ps_asg (pe_op op_mod (pe_callTy call_int1 (by rfl) mi boot_int (pa_cons (pv 3) pa_nil)) pe_int) (pg_sub (pv 0) pe_int set_list)))))))) pss_nil)
      (pss_cons (ps_if (pt_cmpR op_gt (pe_ix ix_list (pv 0) pe_int (fun _ _ => rfl)) pe_int (nomark _))
        (pss_cons (ps_set (i := 4) scTake.nd rfl (.inl rfl) (pe_op op_mod (pe_callTy call_int1 (by rfl) mi boot_int (pa_cons (pe_ix ix_list (pv 0) pe_int (fun _ _ => rfl)) pa_nil)) (pv 1)))
        (pss_cons (ps_asg (pe_op op_fdiv (pe_ix ix_list (pv 0) pe_int (fun _ _ => rfl)) (pv 1)) (pg_sub (pv 0) pe_int set_list))
        (pss_one (ps_ret (pv 4))))) pss_nil)
      (pss_cons (ps_set (i := 5) scTake.nd rfl (.inl rfl) (pe_op op_mod (pe_callTy call_int1 (by rfl) mi boot_int (pa_cons (pe_op op_mul (pe_op op_add (pe_ix ix_list (pv 0) pe_int (fun _ _ => rfl)) pe_int) pe_int) pa_nil)) pe_int))
      (pss_cons (ps_set (i := 6) scTake.nd rfl (.inl rfl) (pe_op op_mod (pe_callTy call_int1 (by rfl) mi boot_int (pa_cons (pe_op op_mul (pe_op op_mod (pe_callTy call_int1 (by rfl) mi boot_int (pa_cons (pe_op op_mul (pv 5) (pv 5)) pa_nil)) pe_int) pe_int) pa_nil)) pe_int))
      (pss_cons (ps_if (pt_cmpR op_gt (pv 1) pe_int (nomark _))
        (pss_one (ps_ret (pe_op op_mod (pe_callTy call_int1 (by rfl) mi boot_int (pa_cons (pe_op op_add (pe_op op_mul (pv 6) pe_int) (pv 5)) pa_nil)) (pv 1)))) pss_nil)
      (pss_one (ps_ret (pe_op op_mod (pe_callTy call_int1 (by rfl) mi boot_int (pa_cons (pe_op op_fdiv (pv 6) pe_int) pa_nil)) (pv 1)))))))), ?_⟩
    obtain ⟨e1, e2, p0, p1, p1', p2, pc⟩ := hB
    have hB : BagC H b q cs c0 c1 c2 := ⟨e1, e2, p0, p1, p1', p2, pc⟩
    -- what is so behind the first if
    refine ⟨fun σ' H' => ∃ y2 y3 y4 y5 y6 d0 d1 d2, σ' = [some (.ref b), some (.int m), y2, y3, y4, y5, y6] ∧ BagC H' b q cs d0 d1 d2 ∧ But b H H' ∧ (∀ a, H a = none → H' a = none), ?_, ?_⟩
    · refine ⟨.ref b, rfl, b, _, 0, .int c0, rfl, rfl, .inl (.inl e1), atI_nat (j := 0) rfl, rfl, _, rfl, ite2 (fun _ => ?_) (fun _ => ?_)⟩
      · refine ⟨fun σ' H' => ∃ c : Int, 0 ≤ c ∧ σ' = [some (.ref b), some (.int m), some (.int c), none, none, none, none] ∧ H' = H, ?_, ?_⟩
        · refine ⟨.ref b, rfl, b, _, 2, .int c2, rfl, rfl, .inl (.inl e1), atI_nat (j := 2) rfl, .ref b, rfl, b, _, 3, .ref q, rfl, rfl, .inl (.inl e1), atI_nat (j := 3) rfl, q, _, rfl, .inl (.inl (.inl e2)), _, _, rfl, rfl, _, rfl, ite2 (fun hlt => ?_) (fun _ => ?_)⟩
          · have hlt' : c2 < ((cs.map V.int).length : Int) := of_decide_eq_true hlt
            rw [List.length_map] at hlt'
            obtain ⟨n2, rfl⟩ : ∃ n : Nat, c2 = (n : Int) := ⟨c2.toNat, by omega⟩
            have hn : n2 < cs.length := by omega
            have hg : (cs.map V.int)[n2]? = some (.int cs[n2]) := by
              rw [List.getElem?_map, List.getElem?_eq_getElem hn]
              rfl
            refine ⟨.ref b, rfl, b, _, 3, .ref q, rfl, rfl, .inl (.inl e1), atI_nat (j := 3) rfl, .ref b, rfl, b, _, 2, .int (n2 : Int), rfl, rfl, .inl (.inl e1), atI_nat (j := 2) rfl, q, _, (n2 : Int), _, rfl, rfl, .inl (.inl e2), atI_nat hg, ?_⟩
            exact ⟨cs[n2], pc _ (List.getElem_mem hn), rfl, rfl⟩
          · exact ⟨0, by decide, rfl, rfl⟩
        · rintro σ' H' ⟨c, hc, rfl, rfl⟩
          refine ⟨.ref b, rfl, b, _, 2, .int c2, rfl, rfl, by decide, .inl (.inl e1), rfl, _, _, rfl, rfl, b, _, 2, 2, rfl, rfl, e1, rfl, ?_⟩
          have hB2 : BagC (upd H' b (.lst [.int c0, .int c1, .int (c2 + 1), .ref q])) b q cs c0 c1 (c2 + 1) := hB.put p0 p1 p1' (by omega)
          have free : ∀ {o : HO} {a : Addr}, H' a = none → upd H' b o a = none := fun {o a} n => by
            rw [upd_ne (Ne.symm (ne_of_none e1 n))]
            exact n
          refine ⟨fun σ2 H2 => ∃ d0 : Int, σ2 = [some (.ref b), some (.int m), some (.int c), none, none, none, none] ∧ BagC H2 b q cs d0 c1 (c2 + 1) ∧ But b H' H2 ∧ (∀ a, H' a = none → H2 a = none), ?_, ?_⟩
          · refine ⟨.int c, rfl, _, _, rfl, rfl, _, rfl, ite2 (fun _ => ?_) (fun _ => ?_)⟩
            · refine ⟨.int c, rfl, .ref b, rfl, b, _, 0, 0, rfl, rfl, hB2.1, rfl, ?_⟩
              refine ⟨c, rfl, hB2.put hc p1 p1' (by omega), But.put.trans But.put, fun a n => ?_⟩
              rw [upd_upd]
              exact free n
            · exact ⟨c0, rfl, hB2, But.put, fun a n => free n⟩
          · rintro σ2 H2 ⟨d0, rfl, hB3, hbut, hfr⟩
            obtain ⟨f1, f2, r0, r1, r1', r2, rc⟩ := hB3
            have hB3 : BagC H2 b q cs d0 c1 (c2 + 1) := ⟨f1, f2, r0, r1, r1', r2, rc⟩
            refine ⟨.ref b, rfl, b, _, 1, .int c1, rfl, rfl, .inl (.inl f1), atI_nat (j := 1) rfl, _, _, rfl, rfl, .inr ⟨by decide, by decide⟩, .int c, rfl, .inl ⟨_, rfl, _, _, rfl, rfl, pm1, _, _, rfl, rfl,
              .ref b, rfl, b, _, 2, .int (c2 + 1), rfl, rfl, .inl (.inl f1), atI_nat (j := 2) rfl, _, _, rfl, rfl, .inl ⟨by decide, by decide⟩, _, _, rfl, rfl, ?_⟩⟩
            refine ⟨_, rfl, .inl ⟨_, rfl, _, _, rfl, rfl, pm1, .ref b, rfl, b, _, 1, 1, rfl, rfl, f1, rfl, ?_⟩⟩
            have hM : (0 : Int) < 2147483647 := by decide
            refine ⟨_, _, _, _, _, d0, _, c2 + 1, rfl, hB3.put r0 (Int.emod_nonneg _ (by decide)) (Int.lt_trans (Int.emod_lt_of_pos _ hM) (by decide)) r2, hbut.trans But.put, fun a n => ?_⟩
            have n2 := hfr a n
            rw [upd_ne (Ne.symm (ne_of_none f1 n2))]
            exact n2
      · exact ⟨none, none, none, none, none, c0, c1, c2, rfl, hB, But.refl b H, fun a n => n⟩
    · rintro σ' H' ⟨y2, y3, y4, y5, y6, d0, d1, d2, rfl, hB2, hbut, hfr⟩
      obtain ⟨f1, f2, r0, r1, r1', r2, rc⟩ := hB2
      have hB2 : BagC H' b q cs d0 d1 d2 := ⟨f1, f2, r0, r1, r1', r2, rc⟩
      refine ⟨.ref b, rfl, b, _, 0, .int d0, rfl, rfl, .inl (.inl f1), atI_nat (j := 0) rfl, _, _, rfl, rfl, _, rfl, ite2 (fun _ => ?_) (fun _ => ?_)⟩
      · refine ⟨.ref b, rfl, b, _, 0, .int d0, rfl, rfl, .inl (.inl f1), atI_nat (j := 0) rfl, .inl ⟨_, rfl, .int m, rfl, _, _, rfl, rfl, hm0, ?_⟩⟩
        refine ⟨.ref b, rfl, b, _, 0, .int d0, rfl, rfl, .inl (.inl f1), atI_nat (j := 0) rfl, .int m, rfl, _, _, rfl, rfl, ⟨hm0, hm1⟩, .ref b, rfl, b, _, 0, 0, rfl, rfl, f1, rfl, ?_⟩
        refine ⟨_, rfl, ?_⟩
        refine kq _ _ (Int.emod_nonneg _ (by omega)) (Int.emod_lt_of_pos _ hm0) ⟨_, _, _, hB2.put (Int.ediv_nonneg r0 (by omega)) r1 r1' r2⟩ (hbut.trans But.put) fun a n => ?_
        have n2 := hfr a n
        rw [upd_ne (Ne.symm (ne_of_none f1 n2))]
        exact n2
      · have fin : ∀ z : Int, Q (.int (z % m)) H' := fun z => kq _ _ (Int.emod_nonneg _ (by omega)) (Int.emod_lt_of_pos _ hm0) ⟨_, _, _, hB2⟩ hbut hfr
        refine ⟨.ref b, rfl, b, _, 1, .int d1, rfl, rfl, .inl (.inl f1), atI_nat (j := 1) rfl, _, _, rfl, rfl, _, _, rfl, rfl, .inr ⟨by decide, by decide⟩, .inl ⟨_, rfl, _, _, rfl, rfl, pm2, ?_⟩⟩
        have hb0 : 0 ≤ ((d1 + 1) * 39373) % 1000000007 := Int.emod_nonneg _ (by decide)
        have hb1 : ((d1 + 1) * 39373) % 1000000007 < 1000000007 := Int.emod_lt_of_pos _ (by decide)
        generalize hbg : ((d1 + 1) * 39373) % 1000000007 = bg at hb0 hb1
        refine ⟨.int bg, by rw [← hbg] <;> rfl, .int bg, by rw [← hbg] <;> rfl, _, _, rfl, rfl, .inl ⟨by omega, by omega⟩, .inl ⟨_, rfl, _, _, rfl, rfl, pm3, _, _, rfl, rfl, .inr ⟨by decide, by decide⟩, .inl ⟨_, rfl, _, _, rfl, rfl, pm3, ?_⟩⟩⟩
        have hs0 : 0 ≤ (bg * bg % 998244353 * 30011) % 998244353 := Int.emod_nonneg _ (by decide)
        refine ⟨.int m, rfl, _, _, rfl, rfl, _, rfl, ite2 (fun _ => ?_) (fun _ => ?_)⟩
        · refine ⟨_, rfl, _, _, rfl, rfl, .inr ⟨by decide, by decide⟩, .int bg, by rw [← hbg] <;> rfl, _, _, rfl, rfl, .inl ⟨_, rfl, .int m, rfl, _, _, rfl, rfl, hm0, ?_⟩⟩
          exact fin _
        · refine ⟨_, rfl, _, _, rfl, rfl, ⟨by decide, by decide⟩, .inl ⟨_, rfl, .int m, rfl, _, _, rfl, rfl, hm0, ?_⟩⟩
          exact fin _
end
end Kten
set_option maxRecDepth 100000
set_option maxHeartbeats 4000000
/-! defs that are promised where no repr runs around them -/
namespace Kten
open PySem PySem.Spec PyProof.Rows L2
/-- a promise that holds where nothing around the call is in the midst of a repr -/
structure FnG (P : Program) (w : World) (K : PySem.W.Frag) (mg : Str → Option Value) (base : Heap)
    (k : Nat) (f : Addr) (fd : FuncData) (ps : List Str) (sp : Sp) : Prop where
  many : ∀ vs H Q E, sp vs H Q E → vs.length = ps.length
  goes : ∀ (A : Around) (out : List Env) (st : Shared) (H : Hp) (ar : Args) (us : List Value) (vs : List V) (Q : VK) (E : XK),
    A.guards = some [] → Room k A → Env0 P w K mg base A out st H →
    BindsTo st fd ar (ps.zip us) → Vals vs us → sp vs H Q E →
    codeAny (model P w) A (.call (.ref f) ar) (CR CX0 out P w H st Q E) st
section
variable {P : Program} {w : World} {K : PySem.W.Frag} {mg : Str → Option Value} {base : Heap} {k : Nat} {f : Addr} {fd : FuncData} {ps : List Str} {sp : Sp}
theorem FnG.le {j : Nat} (F : FnG P w K mg base j f fd ps sp) (h : j ≤ k) : FnG P w K mg base k f fd ps sp :=
  ⟨F.many, fun A out st H ar us vs Q E g r => F.goes A out st H ar us vs Q E g (r.mono h)⟩
/-- a def of the text, by its body -/
theorem Fun.okG {x qual : Str} {st : Stmt} {N : List Str} (F : Fun K x qual st f fd) (S : FnScope N ps (defScope st))
    (many : ∀ vs H Q E, sp vs H Q E → vs.length = ps.length)
    (body : ∀ (cd : Value) (A : Around) (out : List Env) (s0 : Shared) (H : Hp) (vs : List V) (Q : VK) (E : XK), A.guards = some [] →
      Room k (A.deeper (envOfC qual (defScope st) s0.heap.objs.size f cd)) → sp vs H Q E →
      ∃ t, PSs (cxOf CX0 P w K mg base N qual (defScope st) f cd A out s0 H E).nox (defBody st) t ∧
        t { nx := fun _ H' => Q .non H', rt := Q } (start N vs) H) :
    FnG P w K mg base (k + 1) f fd ps sp := by
  obtain ⟨oc, od, kV, doc, pm, an, cd, ct, osl, rfl, look, code⟩ := F.ex
  refine ⟨many, fun A out s0 H ar us vs Q E g room e0 bind rel want => ?_⟩
  have len := many _ _ _ _ want
  have kin : K.In s0.heap := e0.mod.kin.keeps fun b o e => (e0.bs b o e).1
  have nolim : s0.heap.NoLimit := e0.mod.nolimit.keeps fun b o e => (e0.bs b o e).1
  have kinds : ∀ y ∈ ps.zip us, (defScope st).names.lookup y.1 = some .local ∨
      ((defScope st).names.lookup y.1 = some .cell ∧ ((cellsFrom (s0.heap.objs.size + 1) (defScope st).names []).lookup y.1).isSome = true) := by
    rintro ⟨n, v⟩ hy
    rcases S.par n (List.of_mem_zip hy).1 with z | z
    · exact .inl z
    · exact .inr ⟨z, PySem.W.cellsFrom_some _ _ _ (.inl z)⟩
  refine codeAny_call_function room.depth (kin _ _ look) rfl S.co S.gen rfl (PySem.W.codeRec_of kin code) (bind _ _ _ _ ?_)
  refine wpAny_newFunctionEnv_cells S.kind kinds fun env he s1 inc => ?_
  subst he
  refine ⟨nolim.keeps inc.toInCall.keep, codeAny_func ?_⟩
  obtain ⟨t, ht, hq⟩ := body cd A out s0 H vs Q E g (room.deeper _) want
  have I : Inv (cxOf CX0 P w K mg base N qual (defScope st) f cd A out s0 H E) [] (start N vs) H s1 :=
    inv_start S room.hd e0 len rel inc
  refine wpAny_mono (ht.nox.run [] s1 (start N vs) H _ I hq) (fun fl s' hs => ?_) fun e s' hs => hs
  have done : ∀ {σ' : L2.St} {H' : Hp} {v : V} {u : Value},
      Inv (cxOf CX0 P w K mg base N qual (defScope st) f cd A out s0 H E) [] σ' H' s' → RelV v u → Q v H' → CE out P w H s0 Q u s' :=
    fun {σ' H' v u} J rv q => ⟨v, H', J.os, J.bare, J.base, J.hok, rv, q⟩
  cases fl with
  | next =>
    obtain ⟨σ', H', J, q⟩ := hs
    exact done (v := V.non) (u := Value.none) J rfl q
  | ret u =>
    obtain ⟨v, σ', H', J, rv, q⟩ := hs
    exact done J rv q
  | brk => exact hs.elim fun _ z => z.elim fun _ z => z.2.elim
  | cont => exact hs.elim fun _ z => z.elim fun _ z => z.2.elim
end
section
variable {X : Cx} {k : Nat} {f : Addr} {fd : FuncData} {ps : List Str} {sp : Sp} {x : Str} {p pos : Pos} {e : Expr} {es : List Expr} {t : TA}
/-- f(e, ..) of such a def -/
theorem pe_callG (F : FnG X.prog X.w X.K X.mg X.base k f fd ps sp) (hr : Room k X.A) (g : X.A.guards = some []) (hgl : Gl X x) (hmg : X.mg x = some (.ref f))
    (hkp : PySem.W.keepIn X.K (.ref f) = true) (hbd : Binds X.K fd ps []) (hpa : PA X (e :: es) t)
    (hdb : (x == ("__debug__" : Str)) = false := by decide)
    (hse : starEach (e :: es) X.env = (false, eval e X.env) :: starEach es X.env := by rfl)
    (hpl : (backTo pos (starEach es X.env)).any (·.1) = false := by rfl) :
    PE X (.Call (.Name x p) (e :: es) [] pos) (tCall sp [] E0 t) := by
  refine ⟨fun pins st σ H Q I want => ?_⟩
  refine wpAny_Call_Name_kw (ld_glob I hgl hmg ?_ hdb)
  refine PySem.W.callWith_K (h₀ := X.base) I.ok.mod.kin hkp (thn (hpa.run pos pins st σ H _ I want) fun us s1 ⟨vs, H1, J, rel, q⟩ => ⟨J.kIn, ?_⟩) hse hpl
  have q' : sp vs H1 Q E0 := by
    have z : sp (vs ++ []) H1 Q E0 := q
    rwa [List.append_nil] at z
  have hl : (us ++ ([] : List Value)).length = ps.length := by
    rw [List.append_nil, ← Paired.length rel]
    exact F.many _ _ _ _ q'
  have hb := hbd s1 us J.kIn hl
  rw [List.append_nil] at hb
  refine wpAny_call (codeAny_mono (F.goes X.A X.stack s1 H1 ⟨us, []⟩ us vs Q E0 g hr J.env0 hb rel q') fun r s' hq => ?_)
  cases r with
  | error er => exact False.elim hq
  | ok fl =>
    cases fl with
    | ret u => exact J.after hq
    | next => exact False.elim hq
    | brk => exact False.elim hq
    | cont => exact False.elim hq
end
end Kten
set_option maxRecDepth 100000
set_option maxHeartbeats 4000000
/-! the end of a law whose defs are promised so -/
namespace Kten
open PySem PySem.Spec PyProof.Rows L2
/-- how the law's own call ends -/
abbrev LawEnd (s₁ : Shared) (r : Result) (s' : Shared) : Prop :=
  r = .ok (.ret (.bool true)) ∧ OldK s₁.heap s'.heap ∧ s'.os = s₁.os ∧ AllBare s'.gens
section
variable {P : Program} {w : World} {K : PySem.W.Frag} {mg mb : Str → Option Value} {k : Nat} {fa a : Addr} {fd : FuncData} {x : Str} {sp : Sp} {s₁ : Shared} {vs : List Value} {ns : List Int}
/-- from an abstract heap in which at most the script is tracked -/
theorem law_from (kin : K.In s₁.heap) (hns : s₁.heap.Ns mainGlobals mg) (hb : s₁.heap.Ns builtinsNs mb) (hbb : ∀ x : Str, x ≠ "__name__" → mb x = bootBuiltins x)
    (hlim : s₁.heap.NoLimit) (hg : s₁.gens = #[]) (ha : s₁.heap.get? a = some { cls := .type "list", data := .seq vs.toArray })
    (hr : Room k callerA) (hsy : ∃ o es ep, s₁.heap.get? sysModules = some o ∧ o.data = .dict es ep)
    (F : ∀ base : Heap, K.In base → base.Ns mainGlobals mg → (∃ o, base.get? sysModules = some o) → FnG P w K mg base k fa fd [x] sp)
    (hbind : ∀ (s : Shared) (u : Value), BindsTo s fd ⟨[u], []⟩ [(x, u)])
    (H : Hp) (only : Only H) (ok : HOk P w H s₁.heap) (just : ∀ b, H b ≠ none → b = a) (apart : H a ≠ none → K.lookup a = none)
    (want : sp [.ref a] H (fun v _ => v = .bl true) fun _ _ _ => False) :
    codeAny (model P w) callerA (.call (.ref fa) ⟨[.ref a], []⟩) (LawEnd s₁) s₁ := by
  have dictFree : ∀ {b : Addr} {o : Obj} {es : Array DictEntry} {ep : Nat}, s₁.heap.get? b = some o → o.data = .dict es ep → H b = none := by
    intro b o es ep e d
    by_cases z : H b = none
    · exact z
    · have eb := just b z
      subst eb
      rw [ha] at e
      cases e
      have d' : Data.seq vs.toArray _ = Data.dict es ep := d
      cases d'
  have nsB : ∀ {b : Addr} {m : Str → Option Value}, s₁.heap.Ns b m → (hidT s₁.heap H).Ns b m := by
    rintro b m ⟨o, es, ep, e, d, r⟩
    exact ⟨o, es, ep, hidT_get e (dictFree e d), d, r⟩
  have kinB : K.In (hidT s₁.heap H) := by
    intro b o e
    refine hidT_get (kin b o e) ?_
    by_cases z : H b = none
    · exact z
    · have eb := just b z
      subst eb
      rw [apart z] at e
      cases e
  have md : Mod K mg (hidT s₁.heap H) := by
    obtain ⟨mc, l1, l2⟩ := hlim
    exact ⟨kinB, nsB hns, ⟨mb, nsB hb, hbb⟩, ⟨mc, nsB l1, l2⟩⟩
  have e0 : Env0 P w K mg (hidT s₁.heap H) callerA [] s₁ H :=
    ⟨rfl, md, fun b o e => of_hidT e, Nat.le_of_eq (hidT_size _ _), trivial, fun b z => absurd (show b ∈ ([] : List Addr) from z) (by simp), ok, .of_eq hg⟩
  have sysB : ∃ o, (hidT s₁.heap H).get? sysModules = some o := by
    obtain ⟨o, es, ep, e, d⟩ := hsy
    exact ⟨o, hidT_get e (dictFree e d)⟩
  have go := (F _ kinB (nsB hns) sysB).goes callerA [] s₁ H ⟨[.ref a], []⟩ [.ref a] [.ref a] (fun v _ => v = .bl true) (fun _ _ _ => False) rfl hr e0 (hbind s₁ (.ref a)) (.cons rfl .nil) want
  refine codeAny_mono go fun r s' hq => ?_
  cases r with
  | error e => exact False.elim hq
  | ok fl =>
    cases fl with
    | next => exact False.elim hq
    | brk => exact False.elim hq
    | cont => exact False.elim hq
    | ret u =>
      obtain ⟨v, H', os, bare, un, ok', rel, q⟩ := hq
      have q' : v = .bl true := q
      subst q'
      obtain rfl : u = Value.bool true := rel
      refine ⟨rfl, OldK.of_keep fun b o e => ?_, os, bare⟩
      rcases only b with z | ⟨ob, xs, z⟩
      · exact un.keep b o e z (fun y => absurd (show b ∈ ([] : List Addr) from y) (by simp)) (by simp)
      · obtain ⟨g1, _⟩ := ok b _ z
        obtain ⟨g2, _⟩ := ok' b _ (un.frzs b ob _ z)
        rw [e] at g1
        cases g1
        exact g2
theorem law_callG (kin : K.In s₁.heap) (hns : s₁.heap.Ns mainGlobals mg) (hb : s₁.heap.Ns builtinsNs mb) (hbb : ∀ x : Str, x ≠ "__name__" → mb x = bootBuiltins x)
    (hlim : s₁.heap.NoLimit) (hg : s₁.gens = #[]) (ha : s₁.heap.get? a = some { cls := .type "list", data := .seq vs.toArray })
    (hi : IntsAre vs ns) (hl : ns.length ≤ sizeLine) (hr : Room k callerA) (hsy : ∃ o es ep, s₁.heap.get? sysModules = some o ∧ o.data = .dict es ep)
    (F : ∀ base : Heap, K.In base → base.Ns mainGlobals mg → (∃ o, base.get? sysModules = some o) → FnG P w K mg base k fa fd [x] sp)
    (hbind : ∀ (s : Shared) (u : Value), BindsTo s fd ⟨[u], []⟩ [(x, u)])
    (want : ∀ H : Hp, Only H → SqL K H a (ns.map V.int) → sp [.ref a] H (fun v _ => v = .bl true) fun _ _ _ => False) :
    codeAny (model P w) callerA (.call (.ref fa) ⟨[.ref a], []⟩) (LawEnd s₁) s₁ := by
  have rv := vals_ints hi
  have many := hi.length
  by_cases hk : K.lookup a = none
  · let H : Hp := fun b => if b = a then some (.frz { cls := .type "list", data := .seq vs.toArray } (.lst (ns.map V.int))) else none
    have at_a : H a = some (.frz { cls := .type "list", data := .seq vs.toArray } (.lst (ns.map V.int))) := if_pos rfl
    have off : ∀ b, b ≠ a → H b = none := fun b n => if_neg n
    have on : Only H := fun b => by
      by_cases z : b = a
      · subst z
        exact .inr ⟨_, _, at_a⟩
      · exact .inl (off b z)
    refine law_from kin hns hb hbb hlim hg ha hr hsy F hbind H on (fun b u z => ?_) (fun b z => ?_) (fun _ => hk) (want H on (.inl (.inr ⟨_, at_a⟩)))
    · by_cases e : b = a
      · subst e
        rw [at_a] at z
        cases z
        exact ⟨ha, by rw [List.length_map]; exact hl, vs, _, rv, ha⟩
      · rw [off b e] at z
        cases z
    · by_cases e : b = a
      · exact e
      · exact absurd (off b e) z
  · obtain ⟨o, e⟩ := Option.ne_none_iff_exists'.mp hk
    have z := kin a o e
    rw [ha] at z
    cases z
    have on : Only (fun _ => none) := fun _ => .inl rfl
    refine law_from kin hns hb hbb hlim hg ha hr hsy F hbind (fun _ => none) on (fun b u z => by cases z) (fun b z => absurd rfl z) (fun z => absurd rfl z)
      (want _ on (.inr ⟨_, vs.toArray, _, e, rfl, rfl, rfl, by rw [List.size_toArray, many]; exact hl, by simpa using rv⟩))
end
/-- the goal that k_head leaves -/
theorem walk_ofG {l : PySem.W.OpenLaw} {n k : Nat} {q : Program} {loose : List Str} {XP : (Str → Option Value) → Heap → Prop} {YP : World → Heap → Prop}
    {d : DefRec} {K : Params → PySem.W.Frag} {sp : PySem.W.Frag → Sp} {x : Str}
    (hq : importsNone q = true) (hn : l.most = some n) (hn2 : n ≤ sizeLine) (hdf : d.params.defaults = []) (hr : Room k callerA)
    (hY : ∀ (w : World) (h : Heap), YP w h → (K w.params).In h)
    (F : ∀ (w : World) (mg : Str → Option Value) (fa : Addr) (h : Heap), (K w.params).In h → h.Ns mainGlobals mg → mg d.name = some (.ref fa) →
      ∃ fd : FuncData, (∀ (s : Shared) (u : Value), BindsTo s fd ⟨[u], []⟩ [(x, u)]) ∧
        ∀ base : Heap, (K w.params).In base → base.Ns mainGlobals mg → (∃ o, base.get? sysModules = some o) → FnG l.prog w (K w.params) mg base k fa fd [x] (sp (K w.params)))
    (want : ∀ (K : PySem.W.Frag) (H : Hp) (a : Addr) (ns : List Int), ns.length ≤ n → Only H → SqL K H a (ns.map V.int) → sp K [.ref a] H (fun v _ => v = .bl true) fun _ _ _ => False) :
    PySem.W.WalkO q loose XP YP l.row.toRowW d [] (fun f vs => PySem.call f vs) := by
  refine Att.attach_call hn hdf fun w s₀ s₁ mg mb fa o pm cd doc a vs ns G Y ho hd hcd hmg hobj hints hlen hg => ?_
  have kin := hY w _ Y
  have sy : ∃ o es ep, s₁.heap.get? sysModules = some o ∧ o.data = .dict es ep := by
    obtain ⟨mm, ⟨o, es, ep, e, d, _⟩, _⟩ := (G.T.seer hq).mods
    exact ⟨o, es, ep, e, d⟩
  obtain ⟨fd, bnd, ok⟩ := F w mg fa _ kin G.T.g hmg
  exact law_callG kin G.T.g G.T.b G.T.builtins G.T.nolimit hg hobj hints (Nat.le_trans hlen hn2) hr sy ok bnd fun H on sq => want _ H a ns hlen on sq
end Kten
set_option maxRecDepth 100000
set_option maxHeartbeats 4000000
/-! values as data: their repr, and that two of them are the same -/
namespace Kten
open PySem PySem.Spec PyProof.Rows L2
def keyD : Key → PyData
  | .inl i => .int i
  | .inr x => .str x
mutual
/-- the value v is the data d -/
inductive Rp (H : Hp) : V → PyData → Prop
  | non : Rp H .non .none
  | bl (b : Bool) : Rp H (.bl b) (.bool b)
  | int (i : Int) : Rp H (.int i) (.int i)
  | str (x : Str) : Rp H (.str x) (.str x)
  | lst {a : Addr} {xs : List V} {ds : List PyData} (h : H a = some (.lst xs)) (k : RpAll H xs ds) : Rp H (.ref a) (.list ds)
  | tup {a : Addr} {xs : List V} {ds : List PyData} (h : H a = some (.tup xs)) (k : RpAll H xs ds) : Rp H (.ref a) (.tuple ds)
  | dct {a : Addr} {kvs : List (Key × V)} {ds : List PyData} (h : H a = some (.dK kvs)) (k : RpAll H (kvs.map (·.2)) ds) :
      Rp H (.ref a) (.dict ((kvs.map fun p => keyD p.1).zip ds))
inductive RpAll (H : Hp) : List V → List PyData → Prop
  | nil : RpAll H [] []
  | cons {v : V} {vs : List V} {d : PyData} {ds : List PyData} (h : Rp H v d) (k : RpAll H vs ds) : RpAll H (v :: vs) (d :: ds)
end
theorem RpAll.many {H : Hp} : ∀ {vs : List V} {ds : List PyData}, RpAll H vs ds → vs.length = ds.length
  | _, _, .nil => rfl
  | _, _, .cons _ k => by rw [List.length_cons, List.length_cons, k.many]
theorem RpAll.app {H : Hp} : ∀ {vs ws : List V} {ds es : List PyData}, RpAll H vs ds → RpAll H ws es → RpAll H (vs ++ ws) (ds ++ es)
  | _, _, _, _, .nil, b => b
  | _, _, _, _, .cons h k, b => .cons h (k.app b)
mutual
/-- what is not the value's own may change -/
theorem Rp.stay {H H' : Hp} : ∀ {v : V} {d : PyData}, Rp H v d → (∀ a o, H a = some o → H' a = some o) → Rp H' v d
  | _, _, .non, _ => .non
  | _, _, .bl b, _ => .bl b
  | _, _, .int i, _ => .int i
  | _, _, .str x, _ => .str x
  | _, _, .lst h k, e => .lst (e _ _ h) (k.stay e)
  | _, _, .tup h k, e => .tup (e _ _ h) (k.stay e)
  | _, _, .dct h k, e => .dct (e _ _ h) (k.stay e)
theorem RpAll.stay {H H' : Hp} : ∀ {vs : List V} {ds : List PyData}, RpAll H vs ds → (∀ a o, H a = some o → H' a = some o) → RpAll H' vs ds
  | _, _, .nil, _ => .nil
  | _, _, .cons h k, e => .cons (h.stay e) (k.stay e)
end
theorem keys_read {P : Program} {w : World} {h : Heap} : ∀ {es : List DictEntry} {vs : List (Key × Value)}, Pairs (mixKind P w) es vs →
    ReadsAll h (es.map (·.key)) (vs.map fun p => keyD p.1) [] ∧ es.map (·.val) = vs.map (·.2)
  | _, _, .nil => ⟨.nil, rfl⟩
  | _, _, .cons (e := en) (kv := kv) hk hv t => by
    obtain ⟨h1, h2⟩ := keys_read (h := h) t
    refine ⟨?_, by rw [List.map_cons, List.map_cons, h2, hv]⟩
    have hk' : keyIs kv.1 en.key = true := hk
    have one : Reads h en.key (keyD kv.1) [] := by
      rcases keyIs_shape hk' with ⟨i, t, e1, e2⟩ | ⟨x, t, e1, e2⟩
      · rw [e1, e2]
        exact .int i t
      · rw [e1, e2]
        exact .str x t
    exact ReadsAll.cons (as := []) (bs := []) one h1
theorem kv_keys : ∀ {kvs : List (Key × V)} {vs : List (Key × Value)}, KV kvs vs → (vs.map fun p => keyD p.1) = kvs.map fun p => keyD p.1
  | _, _, .nil => rfl
  | _, _, .cons h t => by
    have h1 : _ = _ := h.1
    rw [List.map_cons, List.map_cons, kv_keys t, h1]
theorem kv_vals : ∀ {kvs : List (Key × V)} {vs : List (Key × Value)}, KV kvs vs → Vals (kvs.map (·.2)) (vs.map (·.2))
  | _, _, .nil => .nil
  | _, _, .cons h t => .cons h.2 (kv_vals t)
theorem zip_fst {α β : Type} : ∀ {xs : List α} {ys : List β}, xs.length = ys.length → (xs.zip ys).map (·.1) = xs
  | [], [], _ => rfl
  | [], _ :: _, h => by simp at h
  | _ :: _, [], h => by simp at h
  | x :: xs, y :: ys, h => by
    rw [List.zip_cons_cons, List.map_cons, zip_fst (by simpa using h)]
theorem zip_snd {α β : Type} : ∀ {xs : List α} {ys : List β}, xs.length = ys.length → (xs.zip ys).map (·.2) = ys
  | [], [], _ => rfl
  | [], _ :: _, h => by simp at h
  | _ :: _, [], h => by simp at h
  | x :: xs, y :: ys, h => by
    rw [List.zip_cons_cons, List.map_cons, zip_snd (by simpa using h)]
section
variable {X : Cx} {pins : List (Addr × Obj)} {σ : L2.St} {H : Hp} {s : Shared}
mutual
theorem Rp.reads (I : Inv X pins σ H s) (hz : H sysModules = none) : ∀ {v : V} {d : PyData}, Rp H v d → ∀ {u : Value}, RelV v u → ∃ as, Reads s.heap u d as ∧ sysModules ∉ as
  | _, _, .non, u, r => by
    cases (show u = Value.none from r)
    exact ⟨[], .none, by simp⟩
  | _, _, .bl b, u, r => by
    cases (show u = Value.bool b from r)
    exact ⟨[], .bool b, by simp⟩
  | _, _, .int i, u, r => by
    obtain ⟨t, rfl⟩ := (show ∃ t, u = Value.int i t from r)
    exact ⟨[], .int i t, by simp⟩
  | _, _, .str x, u, r => by
    obtain ⟨t, rfl⟩ := (show ∃ t, u = Value.str x t from r)
    exact ⟨[], .str x t, by simp⟩
  | _, _, .lst (a := a) h k, u, r => by
    cases (show u = Value.ref a from r)
    obtain ⟨its, rv, ⟨o, n, ho, hc, _, hd⟩, _⟩ := I.list (.inl (.inl h))
    obtain ⟨as, hr, hn⟩ := k.reads I hz rv
    refine ⟨a :: as, Reads.list ho hc hd hr, fun z => ?_⟩
    rcases List.mem_cons.mp z with z | z
    · rw [← z, hz] at h
      cases h
    · exact hn z
  | _, _, .tup (a := a) h k, u, r => by
    cases (show u = Value.ref a from r)
    obtain ⟨its, rv, ⟨o, ho, hc, n, hd⟩, _⟩ := I.tuple (.inl (.inl h))
    obtain ⟨as, hr, hn⟩ := k.reads I hz rv
    exact ⟨as, Reads.tuple ho hc hd hr, hn⟩
  | _, _, .dct (a := a) (kvs := kvs) (ds := ds) h k, u, r => by
    cases (show u = Value.ref a from r)
    obtain ⟨_, _, vs, rv, o, es, ep, ho, hx, hd, _, hp, _⟩ := (show ObjOk X.prog X.w H s.heap a (.dK kvs) from I.hok a _ h)
    obtain ⟨q1, q2⟩ := keys_read (h := s.heap) hp
    obtain ⟨as, hr, hn⟩ := k.reads I hz (kv_vals rv)
    have hl : (kvs.map fun p => keyD p.1).length = ds.length := by
      have z := k.many
      rw [List.length_map] at z ⊢
      exact z
    rw [kv_keys rv] at q1
    rw [← q2] at hr
    refine ⟨a :: [] ++ as, Reads.dict (as := []) ho hx.1 hd (by rw [zip_fst hl]; exact q1) (by rw [zip_snd hl]; exact hr), fun z => ?_⟩
    rcases List.mem_cons.mp z with z | z
    · rw [← z, hz] at h
      cases h
    · exact hn z
theorem RpAll.reads (I : Inv X pins σ H s) (hz : H sysModules = none) : ∀ {vs : List V} {ds : List PyData}, RpAll H vs ds → ∀ {us : List Value}, Vals vs us → ∃ as, ReadsAll s.heap us ds as ∧ sysModules ∉ as
  | _, _, .nil, _, r => by
    cases r
    exact ⟨[], .nil, by simp⟩
  | _, _, .cons h k, _, r => by
    cases r with
    | cons r1 r2 =>
      obtain ⟨as, a1, a2⟩ := h.reads I hz r1
      obtain ⟨bs, b1, b2⟩ := k.reads I hz r2
      exact ⟨as ++ bs, .cons a1 b1, fun z => (List.mem_append.mp z).elim a2 b2⟩
end
end
/-- repr of a value that is data -/
def rRepr : List V → Hp → VK → Prop := fun xs H Q => ∃ (a : Addr) (d : PyData), xs = [.ref a] ∧ Rp H (.ref a) d ∧ d.showable = true ∧ d.depth ≤ 40 ∧ d.shown.length ≤ sizeLine ∧ Q (.str d.shown) H
theorem call_reprD {X : Cx} {o : Obj} (g : X.A.guards = some []) (hu : X.A.units + 64 < cLine) (hm : X.base.get? sysModules = some o) : CallR X (.builtin "repr") rRepr := by
  intro pins st σ H xs us Q I r want
  obtain ⟨a, d, rfl, hd, sh, dp, sz, q⟩ := want
  obtain ⟨u, rfl, r1⟩ := vals1 r
  cases (show u = Value.ref a from r1)
  have hz : H sysModules = none := (I.bs sysModules o hm).2
  obtain ⟨as, hr, hn⟩ := hd.reads I hz (u := Value.ref a) rfl
  refine repr_of_reads' (h₀ := st.heap) hr sh (fun _ => hn) g (by omega) (fun b o e => e) (fun h' u tk k => ?_) sz
  exact ⟨.str d.shown, H, I.kept k, ⟨_, rfl⟩, q⟩
/-! ### the same -/
/-- x and y are the same value, or lists, or tuples, of such -/
def Sm (H : Hp) : Nat → V → V → Prop
  | 0 => fun _ _ => False
  | n + 1 => fun x y => (x = y ∧ (flatB x = true ∨ ∃ a, x = .ref a)) ∨
      (∃ a b xs ys, x = .ref a ∧ y = .ref b ∧ H a = some (.lst xs) ∧ H b = some (.lst ys) ∧ Paired (Sm H n) xs ys) ∨
      ∃ a b xs ys, x = .ref a ∧ y = .ref b ∧ H a = some (.tup xs) ∧ H b = some (.tup ys) ∧ Paired (Sm H n) xs ys
theorem each_at {A : Around} {s : Shared} {F : V → V → Prop} (ih : ∀ x y v u, F x y → RelV x v → RelV y u → SeqAt.EqAt A s v u true) {xs ys : List V} (hp : Paired F xs ys) :
    ∀ {us ws : List Value}, Vals xs us → Vals ys ws → ∀ j (h1 : j < us.length) (h2 : j < ws.length), SeqAt.EqAt A s us[j] ws[j] true := by
  induction hp with
  | nil =>
    intro us ws r1 r2 j h1 h2
    cases r1
    exact absurd h1 (Nat.not_lt_zero j)
  | cons h _ k =>
    intro us ws r1 r2 j h1 h2
    cases r1 with
    | cons a1 b1 =>
      cases r2 with
      | cons a2 b2 =>
        cases j with
        | zero => exact ih _ _ _ _ h a1 a2
        | succ j => exact k b1 b2 j (Nat.lt_of_succ_lt_succ h1) (Nat.lt_of_succ_lt_succ h2)
theorem all_yes (n : Nat) : ((List.range n).all fun _ => true) = true := List.all_eq_true.mpr fun _ _ => rfl
section
variable {X : Cx} {pins : List (Addr × Obj)} {σ : L2.St} {H : Hp} {s : Shared}
theorem list_rc (I : Inv X pins σ H s) {A : Around} (hu : A.units < cLine) {F : V → V → Prop} (ih : ∀ x y v u, F x y → RelV x v → RelV y u → SeqAt.EqAt A.in1 s v u true)
    {a b : Addr} {xs ys : List V} (ha : H a = some (.lst xs)) (hb : H b = some (.lst ys)) (hp : Paired F xs ys) : SeqAt.RcAt A s (.ref a) (.ref b) true := by
  obtain ⟨us, r1, p1, _⟩ := I.list (.inl (.inl ha))
  obtain ⟨ws, r2, p2, _⟩ := I.list (.inl (.inl hb))
  have hsz : us.toArray.size = ws.toArray.size := by
    rw [List.size_toArray, List.size_toArray, ← r1.length, ← r2.length]
    exact Paired.length hp
  have z := SeqAt.RcAt.lists (e := fun _ => true) p1.isList p2.isList hsz hu fun j h1 h2 => by
    simpa using each_at ih hp r1 r2 j (by simpa using h1) (by simpa using h2)
  rw [all_yes] at z
  exact z
theorem tup_rc (I : Inv X pins σ H s) {A : Around} (hu : A.units < cLine) {F : V → V → Prop} (ih : ∀ x y v u, F x y → RelV x v → RelV y u → SeqAt.EqAt A.in1 s v u true)
    {a b : Addr} {xs ys : List V} (ha : H a = some (.tup xs)) (hb : H b = some (.tup ys)) (hp : Paired F xs ys) : SeqAt.RcAt A s (.ref a) (.ref b) true := by
  obtain ⟨us, r1, p1, _⟩ := I.tuple (.inl (.inl ha))
  obtain ⟨ws, r2, p2, _⟩ := I.tuple (.inl (.inl hb))
  have hsz : us.toArray.size = ws.toArray.size := by
    rw [List.size_toArray, List.size_toArray, ← r1.length, ← r2.length]
    exact Paired.length hp
  have z := SeqAt.RcAt.tuples (e := fun _ => true) (show s.heap.IsTuple a us.toArray from p1) (show s.heap.IsTuple b ws.toArray from p2) hu fun j h1 h2 => by
    simpa using each_at ih hp r1 r2 j (by simpa using h1) (by simpa using h2)
  rw [all_yes, hsz, beq_self_eq_true, Bool.and_self] at z
  exact z
theorem sm_at (I : Inv X pins σ H s) : ∀ (n : Nat) (A : Around), A.units + n < cLine → ∀ (x y : V) (v u : Value), Sm H n x y → RelV x v → RelV y u → SeqAt.EqAt A s v u true
  | 0, _, _, _, _, _, _, h, _, _ => (show False from h).elim
  | n + 1, A, hu, x, y, v, u, h, rx, ry => by
    have ih := sm_at I n A.in1 (by show A.units + 1 + n < cLine; omega)
    rcases h with ⟨rfl, f | ⟨a, rfl⟩⟩ | ⟨a, b, xs, ys, rfl, rfl, ha, hb, hp⟩ | ⟨a, b, xs, ys, rfl, rfl, ha, hb, hp⟩
    · exact eqAt_same rx ry f
    · cases (show v = Value.ref a from rx)
      cases (show u = Value.ref a from ry)
      exact SeqAt.EqAt.same _
    · cases (show v = Value.ref a from rx)
      cases (show u = Value.ref b from ry)
      by_cases e : a = b
      · subst e
        exact SeqAt.EqAt.same _
      · exact SeqAt.EqAt.of_refs e (list_rc I (by omega) ih ha hb hp)
    · cases (show v = Value.ref a from rx)
      cases (show u = Value.ref b from ry)
      by_cases e : a = b
      · subst e
        exact SeqAt.EqAt.same _
      · exact SeqAt.EqAt.of_refs e (tup_rc I (by omega) ih ha hb hp)
end
/-- found == due, two lists of the same -/
def rSm : R2 := fun x y H Q => ∃ (n : Nat) (a b : Addr) (xs ys : List V), x = .ref a ∧ y = .ref b ∧ H a = some (.lst xs) ∧ H b = some (.lst ys) ∧ Paired (Sm H n) xs ys ∧ n ≤ 40 ∧ Q (.bl true) H
theorem op_sm {X : Cx} (hu : X.A.units + 64 < cLine) : OpR X (compareOp .Eq) rSm := by
  intro pins s σ H x y v u Q I rx ry h
  obtain ⟨n, a, b, xs, ys, rfl, rfl, ha, hb, hp, hn, q⟩ := h
  cases (show v = Value.ref a from rx)
  cases (show u = Value.ref b from ry)
  exact list_rc I (A := X.A) (by omega) (sm_at I n X.A.in1 (by show X.A.units + 1 + n < cLine; omega)) ha hb hp X.prog X.w _ _ ⟨.bl true, H, I, rfl, q⟩
end Kten
set_option maxRecDepth 100000
set_option maxHeartbeats 4000000
namespace Kten
open PySem PySem.Spec PyProof.Rows L2
theorem scAlike : FnScope ["_law_found", "_law_due"] ["_law_found", "_law_due"] (defScope sAlike) := ⟨rfl, rfl, rfl, by decide +kernel, rfl, by decide +kernel, by decide +kernel⟩
/-- what can be shown -/
def Shows (d : PyData) : Prop := d.showable = true ∧ d.depth ≤ 40 ∧ d.shown.length ≤ sizeLine
def spAlike : Sp := fun vs H Q _ => ∃ (n : Nat) (a b : Addr) (xs ys : List V) (d : PyData), vs = [.ref a, .ref b] ∧ H a = some (.lst xs) ∧ H b = some (.lst ys) ∧ Paired (Sm H n) xs ys ∧ n ≤ 40 ∧
  Rp H (.ref a) d ∧ Rp H (.ref b) d ∧ Shows d ∧ Q (.bl true) H
section
variable {P : Program} {w : World} {K : PySem.W.Frag} {mg : Str → Option Value} {base : Heap}
theorem ok_alike {f : Addr} {fd : FuncData} {k : Nat} {o : Obj} (F : Fun K "_law_alike" "_law_alike" sAlike f fd) (mr : mg "repr" = none) (hm : base.get? sysModules = some o) : FnG P w K mg base (k + 1) f fd ["_law_found", "_law_due"] spAlike := by
  refine Kten.Fun.okG F scAlike (fun vs H Q E h => ?_) (fun cdv A outer s H vs Q E g hr h => ?_)
  · obtain ⟨n, a, b, xs, ys, d, rfl, _⟩ := h
    rfl
  · obtain ⟨n, a, b, xs, ys, d, rfl, ha, hb, hp, hn, ra, rb, ⟨sh, dp, sz⟩, q⟩ := h
    refine ⟨_, pss_one (ps_ret (pe_and (pe_cmpR (op_sm hr.units) (pv 0) (pv 1) (nomark _)) (pe_one (pe_cmpR op_eq (pe_callB (call_reprD g hr.units hm) (by rfl) mr boot_repr (pa_cons (pv 0) pa_nil)) (pe_callB (call_reprD g hr.units hm) (by rfl) mr boot_repr (pa_cons (pv 1) pa_nil)) (nomark _))))), ?_⟩
    refine ⟨.ref a, rfl, .ref b, rfl, n, a, b, xs, ys, rfl, rfl, ha, hb, hp, hn, true, rfl, ?_⟩
    rw [if_pos rfl]
    refine ⟨.ref a, rfl, a, d, rfl, ra, sh, dp, sz, .ref b, rfl, b, d, rfl, rb, sh, dp, sz, rfl, ?_⟩
    rw [decide_eq_true rfl]
    exact q
end
end Kten
set_option maxRecDepth 100000
set_option maxHeartbeats 4000000
/-! exceptions of own classes as values: made, asked for their class, their field read -/
namespace Kten
open PySem PySem.Spec PyProof.Rows L2
/-- what the written part says of an error class (of any) -/
structure ErrK (K : PySem.W.Frag) (C : Addr) : Prop where
  cl : (PySem.W.clsIn K C).isSome = true
  ga : PySem.W.findIn K (.ref C) "__getattribute__" = some (some (.builtin "BaseException.__getattribute__"))
  gg : PySem.W.findIn K (.ref C) "__getattr__" = some none
  sb : PySem.W.subIn K (.ref C) (.type "BaseException") = some true
  ca : PySem.W.findIn K (.ref C) "__class__" = some (some (.builtin "object.__class__"))
  gs : PySem.W.specialIn K (.builtin "object.__class__") "__get__" = some (some (.builtin "getset_descriptor.__get__"))
  tk : PySem.W.takesIn K (.builtin "object.__class__") = some true
  ob : PySem.W.mroIn K C (.type "object") = some true
  hd : PySem.W.hasDictIn K C = true
/-- at a: an error of the class at C with its field -/
def ErrF (H : Hp) (a C dx : Addr) (f : Str) (v : V) : Prop := H a = some (exo a C (some dx)) ∧ H dx = some (exd dx [(f, v)])
/-- at a: an error of the class at C, without a field or with one -/
def ErrOf (H : Hp) (a C : Addr) : Prop := H a = some (ExO (.ref C) a) ∨ ∃ dx f v, ErrF H a C dx f v
theorem ErrF.of {H : Hp} {a C dx : Addr} {f : Str} {v : V} (h : ErrF H a C dx f v) : ErrOf H a C := .inr ⟨_, _, _, h⟩
theorem ErrF.stay {H H' : Hp} {a C dx : Addr} {f : Str} {v : V} (h : ErrF H a C dx f v) (e : ∀ a o, H a = some o → H' a = some o) : ErrF H' a C dx f v := ⟨e _ _ h.1, e _ _ h.2⟩
theorem ErrOf.stay {H H' : Hp} {a C : Addr} (h : ErrOf H a C) (e : ∀ a o, H a = some o → H' a = some o) : ErrOf H' a C := by
  rcases h with h | ⟨dx, f, v, h⟩
  · exact .inl (e _ _ h)
  · exact .inr ⟨dx, f, v, h.stay e⟩
section
variable {X : Cx} {pins : List (Addr × Obj)} {σ : L2.St} {H : Hp} {s : Shared} {a C dx : Addr} {f : Str} {v : V}
theorem err_inst (I : Inv X pins σ H s) (h : ErrF H a C dx f v) : ∃ (ox od : Obj) (mA : Str → Option Value), PySem.W.InstAt s.heap a ox C (some od) ∧ (∀ name, PySem.W.lookIn name od = some (mA name)) ∧ ∀ g, RelO ([(f, v)].lookup g) (mA g) := by
  obtain ⟨t1, ho⟩ := exo_at I.hok h.1
  obtain ⟨mA, hns, rel⟩ := exd_at I.hok h.2
  obtain ⟨od, hod, hl⟩ := lookIn_ns hns
  exact ⟨_, od, mA, ⟨ho, rfl, rfl, hod⟩, hl, rel⟩
theorem exO_inst (I : Inv X pins σ H s) (h : H a = some (ExO (.ref C) a)) : ∃ ox, PySem.W.InstAt s.heap a ox C none := by
  obtain ⟨⟨oe, vs, ho, hz, hd, _, _, _⟩, _, _⟩ := I.hok a _ h
  obtain ⟨oc, od, oda, osl⟩ := oe
  obtain ⟨z1, z2⟩ := hz
  dsimp only at z1 z2 hd
  subst z1 z2 hd
  exact ⟨_, ho, rfl, rfl, trivial⟩
end
/-- isinstance(e, c) of such an error -/
def rIsErr (K : PySem.W.Frag) : List V → Hp → VK → Prop := fun xs H Q => ∃ (a D : Addr) (c : V) (cv : Value) (b : Bool), xs = [.ref a, c] ∧ ErrOf H a D ∧ ErrK K D ∧ ClsV c cv ∧ PySem.W.kitOne K (.ref D) cv = some b ∧ Q (.bl b) H
theorem call_isErr {X : Cx} : CallR X (.builtin "isinstance") (rIsErr X.K) := by
  intro pins st σ H xs us Q I rel want
  obtain ⟨a, D, c, cv, b, rfl, he, T, kc, hk, q⟩ := want
  obtain ⟨u1, u2, rfl, r1, r2⟩ := vals2 rel
  have e2 := kc.eq r2
  subst e2
  cases (show u1 = Value.ref a from r1)
  rcases he with he | ⟨dx, f, v, he⟩
  · obtain ⟨ox, J⟩ := exO_inst I he
    exact PySem.W.kia_one (PySem.W.kitx_exc T.cl T.ga T.gg T.sb T.ca T.gs T.tk T.ob) I.kIn J hk (fun z => nomatch z) fun tk => ⟨.bl b, H, I.tok tk, rfl, q⟩
  · obtain ⟨ox, od, mA, J, _, _⟩ := err_inst I he
    exact PySem.W.kia_one (PySem.W.kitx_exc T.cl T.ga T.gg T.sb T.ca T.gs T.tk T.ob) I.kIn J hk (fun z => nomatch z) fun tk => ⟨.bl b, H, I.tok tk, rfl, q⟩
/-- e.f of such an error -/
def tErrF (K : PySem.W.Frag) (n : Str) (te : TE) : TE := fun σ H Q => te σ H fun x H1 => ∃ (a C dx : Addr) (v : V), x = .ref a ∧ ErrF H1 a C dx n v ∧ ErrK K C ∧ PySem.W.findIn K (.ref C) n = some none ∧ Q v H1
theorem pe_errF {X : Cx} {e : Expr} {te : TE} {pos : Pos} {n : Str} (he : PE X e te) (hb : attributeBase e n X.env (eval e X.env) = eval e X.env := by rfl) :
    PE X (.Attribute e n pos) (tErrF X.K n te) := by
  refine ⟨fun pins st σ H Q I want => ?_⟩
  refine attr_of hb (thn (he.run pins st σ H _ I want) fun u s1 back => ?_)
  obtain ⟨x, H1, J, rx, a, C, dx, v, ex, hf, T, hno, q⟩ := back
  subst ex
  cases (show u = Value.ref a from rx)
  obtain ⟨ox, od, mA, at_, look, rel⟩ := err_inst J hf
  have one : RelO (some v) (mA n) := by
    have z := rel n
    rw [show List.lookup n [(n, v)] = some v by simp [List.lookup]] at z
    exact z
  obtain ⟨w, hw, rw'⟩ := one.some_of
  exact HandSPX.exc_get J.kIn at_ T.ga T.gg T.sb (PySem.W.findObj_own T.hd hno rfl (by rw [look, hw])) (handed_of rw') ⟨v, H1, J.tok _, rw', q⟩
/-- C(e, ..), C an own error class with an __init__ of its own -/
def tErrNew (C : Addr) (sp : Sp) (ta : TA) : TE := fun σ H Q => ta σ H fun vs H1 => vs.length ≤ 1000 ∧ ∀ a, H1 a = none → sp (.ref a :: vs) (upd H1 a (exo a C none)) (fun v H2 => v = .non ∧ Q (.ref a) H2) E0
theorem pe_errNew {X : Cx} {x : Str} {C fI : Addr} {k : Nat} {fd : FuncData} {ps : List Str} {sp : Sp} {ta : TA} {e : Expr} {es : List Expr} {p pos : Pos}
    (T : OexC X.K C) (iC : PySem.W.findIn X.K (.ref C) "__init__" = some (some (.ref fI))) (tI : PySem.W.typeIn X.K (.ref fI) = some (.type "function"))
    (F : FnOk X.prog X.w X.K X.mg X.base CX0 k fI fd ps sp) (hr : Room (k + 1) X.A) (hbd : Binds X.K fd ps []) (hgl : Gl X x) (hmg : X.mg x = some (.ref C)) (hpa : PA X (e :: es) ta)
    (hdb : (x == ("__debug__" : Str)) = false := by decide) (hse : starEach (e :: es) X.env = (false, eval e X.env) :: starEach es X.env := by rfl)
    (hpl : (backTo pos (starEach es X.env)).any (·.1) = false := by rfl) : PE X (.Call (.Name x p) (e :: es) [] pos) (tErrNew C sp ta) := by
  refine ⟨fun pins st σ H Q I want => ?_⟩
  obtain ⟨nm, q, N, bs, bm, sn, sub, ab, col, dd, k0, k1, k2, k3, k5, hC, hbm⟩ := T.cls
  refine wpAny_Call_Name_kw (ld_glob I hgl hmg ?_ hdb)
  refine PySem.W.callWith_K (h₀ := X.base) I.ok.mod.kin T.kC (thn (hpa.run pos pins st σ H _ I want) fun us s1 ⟨vs, H1, J, rel, hz, goal⟩ => ⟨J.kIn, ?_⟩) hse hpl
  obtain ⟨hp, g, dr, tk, os⟩ := s1
  let na : Addr := hp.objs.size + 1
  have free : H1 na = none := J.hok.fresh (Nat.le_succ _)
  let h2 : Heap := (hp.push (PySem.W.kdv_tup us)).push (PySem.HandSPX.excO C hp.objs.size)
  have keep : ∀ b o, hp.get? b = some o → h2.get? b = some o := fun b o z => Heap.get?_push_of_some _ (Heap.get?_push_of_some _ z)
  have there : h2.get? na = some (PySem.HandSPX.excO C hp.objs.size) := by
    show ((hp.push (PySem.W.kdv_tup us)).push (PySem.HandSPX.excO C hp.objs.size)).get? (hp.objs.size + 1) = _
    heap_get
  have J2 : Inv X pins σ (upd H1 na (exo na C none)) ⟨h2, g, dr, tk, os⟩ := J.laid (t' := tk) (a := na) (o := exo na C none) (h' := h2) keep (Nat.le_succ _) (exo_ok there)
  have rel2 : Vals (V.ref na :: vs) (Value.ref na :: us) := .cons rfl rel
  have goal2 := goal na free
  have hl : (Value.ref na :: us ++ ([] : List Value)).length = ps.length := by
    rw [List.append_nil, ← F.len _ _ _ _ goal2]
    exact (Paired.length rel2).symm
  have hus : us.length ≤ sizeLine := by
    rw [← Paired.length rel, sizeLine_eq]
    omega
  have bind := hbd ⟨h2, g, dr, tk, os⟩ (Value.ref na :: us) J2.kIn hl
  rw [List.append_nil] at bind
  show wpAny _ _ (call (.ref C) us) _ _ _
  refine wpAny_call (PySem.HandSPX.call_own PySem.F.excBase_ValueError (fun Y => PySem.HandSPX.refsVE_contains Y bm hbm) (J.kIn _ _ hC) (PySem.W.looks_findIn J.kIn iC) (fun self => PySem.W.bind_fn J.kIn self tI) hus ?_)
  refine codeAny_mono (F.run _ X.stack _ _ ⟨Value.ref na :: us, []⟩ (Value.ref na :: us) _ _ E0 (hr.make C us []) (J2.env0.make C us []) bind rel2 goal2) fun r s' hq => ?_
  cases r with
  | error er => exact False.elim hq
  | ok fl =>
    cases fl with
    | next => exact False.elim hq
    | brk => exact False.elim hq
    | cont => exact False.elim hq
    | ret u =>
      obtain ⟨v, H2, J3, rv, ev, q2⟩ := J2.after hq
      subst ev
      exact ⟨rv, .ref na, H2, J3, rfl, q2⟩
/-- C(e, ..), C an own error class without one; C() -/
def tErrPlain (C : Addr) (ta : TA) : TE := fun σ H Q => ta σ H fun vs H1 => vs.length ≤ sizeLine ∧ ∀ a, H1 a = none → Q (.ref a) (upd H1 a (ExO (.ref C) a))
theorem err_plain {X : Cx} {pins : List (Addr × Obj)} {σ : L2.St} {H1 : Hp} {s1 : Shared} {Q : VK} {C : Addr} {bmB : List Value} {B newId initId : String} {us : List Value} (F : ExcBaseFacts B newId initId bmB) (q : PySem.W.excIn X.K C bmB newId = true)
    (J : Inv X pins σ H1 s1) (hz : us.length ≤ sizeLine) (goal : ∀ a, H1 a = none → Q (.ref a) (upd H1 a (ExO (.ref C) a))) : wpAny (model X.prog X.w) X.A (call (.ref C) us) (EP X pins σ Q) X.xe s1 := by
  obtain ⟨bm, N, nm, qn, bs, hdct, sn, sub, ab, col, dd, k0, k1, k2, k3, k5, mN, hC, hN, hni, T⟩ := exc_obj J.kIn q
  refine wpAny_call_exc_subT F T hC hN hni (fun h' a hm => ?_) hz
  have free : H1 a = none := J.hok.gone hm.new
  obtain ⟨t, ht, _, _⟩ := hm.there
  exact ⟨.ref a, upd H1 a (ExO (.ref C) a), J.laidN hm.keeps hm.new free (exO_ok ht ⟨rfl, rfl⟩ rfl rfl rfl (show 4 < 6 by decide)), rfl, goal a free⟩
theorem pe_errPlain {X : Cx} {C : Addr} {bmB : List Value} {B newId initId : String} {x : Str} {e : Expr} {es : List Expr} {ta : TA} {p pos : Pos} (F : ExcBaseFacts B newId initId bmB) (q : PySem.W.excIn X.K C bmB newId = true)
    (hmg : X.mg x = some (.ref C)) (hkp : PySem.W.keepIn X.K (.ref C) = true) (hgl : Gl X x) (hpa : PA X (e :: es) ta)
    (hdb : (x == ("__debug__" : Str)) = false := by decide) (hse : starEach (e :: es) X.env = (false, eval e X.env) :: starEach es X.env := by rfl)
    (hpl : (backTo pos (starEach es X.env)).any (·.1) = false := by rfl) : PE X (.Call (.Name x p) (e :: es) [] pos) (tErrPlain C ta) := by
  refine ⟨fun pins st σ H Q I want => ?_⟩
  refine wpAny_Call_Name_kw (ld_glob I hgl hmg ?_ hdb)
  refine PySem.W.callWith_K (h₀ := X.base) I.ok.mod.kin hkp (thn (hpa.run pos pins st σ H _ I want) fun us s1 ⟨vs, H1, J, rel, hz, goal⟩ => ⟨J.kIn, ?_⟩) hse hpl
  show wpAny _ _ (call (.ref C) us) _ _ _
  exact err_plain F q J (by rw [← Paired.length rel]; exact hz) goal
theorem pe_errPlain0 {X : Cx} {C : Addr} {bmB : List Value} {B newId initId : String} {x : Str} {p pos : Pos} (F : ExcBaseFacts B newId initId bmB) (q : PySem.W.excIn X.K C bmB newId = true)
    (hmg : X.mg x = some (.ref C)) (hkp : PySem.W.keepIn X.K (.ref C) = true) (hgl : Gl X x) (hdb : (x == ("__debug__" : Str)) = false := by decide) : PE X (.Call (.Name x p) [] [] pos) (tErrPlain C tNil) := by
  refine ⟨fun pins st σ H Q I want => ?_⟩
  refine wpAny_Call_Name_kw (ld_glob I hgl hmg ?_ hdb)
  exact PySem.W.callWith_K0 I.kIn hkp (err_plain (us := []) F q I (Nat.zero_le _) want.2)
/-! ### __init__ -/
/-- def __init__(self, f): self.f = f -/
def spInit (K : PySem.W.Frag) (C : Addr) (f : Str) : Sp := fun vs H Q _ => ∃ (a : Addr) (v : V), vs = [.ref a, v] ∧ H a = some (exo a C none) ∧ ∀ dx, H dx = none → dx ≠ a → Q .non (upd (upd H dx (exd dx [(f, v)])) a (exo a C (some dx)))
theorem ok_init {P : Program} {w : World} {K : PySem.W.Frag} {mg : Str → Option Value} {base : Heap} {fI C : Addr} {fd : FuncData} {k : Nat} {qual f : Str} {st : Stmt} {p1 p2 p3 p4 : Pos} (F : Fun K "__init__" qual st fI fd)
    (sc : FnScope ["self", f] ["self", f] (defScope st)) (hst : defBody st = [.Assign [.Attribute (.Name "self" p1) f p2] (.Name f p3) p4]) (hs : (defScope st).names.lookup ("self" : Str) = some .local) (hf : (defScope st).names.lookup f = some .local)
    (d1 : (f == ("__debug__" : Str)) = false) (d2 : (f == ("__classdict__" : Str)) = false) (T : OexC K C) (hno : PySem.W.findIn K (.ref C) f = some none) : FnOk P w K mg base CX0 (k + 1) fI fd ["self", f] (spInit K C f) := by
  refine F.ok sc (fun vs H Q E h => ?_) (fun cdv A outer s H vs Q E hr h => ?_)
  · obtain ⟨a, v, rfl, _⟩ := h
    rfl
  · obtain ⟨a, v, rfl, ha, q⟩ := h
    rw [hst]
    refine ⟨_, pss_one (ps_ost (pe_var (i := 0) rfl (.inl hs)) (pe_var (i := 1) rfl (.inl hf) d1 d2)), ?_⟩
    refine ⟨v, rfl, .ref a, rfl, a, C, rfl, T, hno, .inl ⟨ha, fun dx n ne => ?_⟩⟩
    exact q dx n ne
end Kten
set_option maxRecDepth 100000
set_option maxHeartbeats 4000000
namespace Kten
open PySem PySem.Spec PyProof.Rows L2
theorem scFlags : FnScope ["_law_e", "_law_found"] ["_law_e"] (defScope sFlags) := ⟨rfl, rfl, rfl, by decide +kernel, rfl, by decide +kernel, by decide +kernel⟩
/-- free addresses stay free -/
def Frees (H H' : Hp) : Prop := ∀ a, H a = none → H' a = none
theorem same_upd {H : Hp} {p : Addr} {o : HO} (h : H p = none) : Same H (upd H p o) := fun b x e => by
  rw [upd_ne (ne_of_none e h)]
  exact e
section
variable {P : Program} {w : World} {K : PySem.W.Frag} {mg : Str → Option Value} {base : Heap}
/-! ### one of them -/
def spOne : Sp := fun vs H Q _ => ∃ (b q t : Addr) (cs : List Int) (xs : List V), vs = [.ref b, .ref t] ∧ Bag H b q cs ∧ H t = some (.lst xs) ∧ t ≠ b ∧ xs ≠ [] ∧ xs.length ≤ 1000 ∧
  ∀ (i : Nat) (v : V) H', xs[i]? = some v → Bag H' b q cs → But b H H' → Frees H H' → Q v H'
theorem ok_one {f fT : Addr} {fd fdT : FuncData} {k : Nat} (F : Fun K "_law_one" "_law_one" sOne f fd) (G : FnOk P w K mg base CX0 k fT fdT ["_law_bag_here", "_law_many"] spTake) (FT : PySem.W.keepIn K (.ref fT) = true)
    (bT : Binds K fdT ["_law_bag_here", "_law_many"] []) (gT : mg "_law_take" = some (.ref fT)) (ml : mg "len" = none) : FnOk P w K mg base CX0 (k + 1) f fd ["_law_bag_here", "_law_things"] spOne := by
  refine F.ok scOne (fun vs H Q E h => ?_) (fun cdv A outer s H vs Q E hr h => ?_)
  · obtain ⟨b, q, t, cs, xs, rfl, _⟩ := h
    rfl
  · obtain ⟨b, q, t, cs, xs, rfl, hB, ht, ne, hx, hl, kq⟩ := h
    refine ⟨_, pss_one (ps_ret (pe_ix ix_list (pv 1) (pe_call G hr (by rfl) gT FT bT .nil pass0 (pa_cons (pv 0) (pa_cons (pe_callB call_len_seq (by rfl) ml PySem.boot_len (pa_cons (pv 1) pa_nil)) pa_nil))) (fun _ _ => rfl))), ?_⟩
    have pos : 0 < xs.length := List.length_pos_iff.mpr hx
    refine ⟨.ref t, rfl, .ref b, rfl, .ref t, rfl, t, xs, rfl, .inl (.inl (.inl ht)), b, q, cs, (xs.length : Int), rfl, hB, by omega, by omega, fun v H' v0 v1 hB' hbut hfr => ?_⟩
    obtain ⟨n, rfl⟩ : ∃ n : Nat, v = (n : Int) := ⟨v.toNat, by omega⟩
    have hn : n < xs.length := by omega
    exact ⟨t, xs, n, xs[n], rfl, rfl, .inl (.inl (hbut t _ ne ht)), atI_nat (List.getElem?_eq_getElem hn), kq n _ H' (List.getElem?_eq_getElem hn) hB' hbut hfr⟩
/-! ### the classes -/
/-- what the top has written of the classes: cl 0 .. 15 in the order of the flags, cl 16 the first one -/
structure Cls (K : PySem.W.Frag) (mg : Str → Option Value) (cl : Nat → Addr) : Prop where
  g0 : mg "Wrong" = some (.ref (cl 0))
  g1 : mg "NoRow" = some (.ref (cl 1))
  g2 : mg "NoThing" = some (.ref (cl 2))
  g3 : mg "NoLot" = some (.ref (cl 3))
  g4 : mg "NoNumber" = some (.ref (cl 4))
  g5 : mg "NoMark" = some (.ref (cl 5))
  g6 : mg "Clash" = some (.ref (cl 6))
  g7 : mg "TooMany" = some (.ref (cl 7))
  g8 : mg "Refused" = some (.ref (cl 8))
  g9 : mg "NoEntry" = some (.ref (cl 9))
  g10 : mg "NotPossible" = some (.ref (cl 10))
  g11 : mg "Unlike" = some (.ref (cl 11))
  g12 : mg "BadAnswer" = some (.ref (cl 12))
  g13 : mg "Nothing" = some (.ref (cl 13))
  g14 : mg "NoText" = some (.ref (cl 14))
  g15 : mg "NoCommand" = some (.ref (cl 15))
  g16 : mg "TheseError" = some (.ref (cl 16))
  ek : ∀ i, i ≤ 16 → ErrK K (cl i)
  kit : ∀ i j, i ≤ 16 → j < 16 → PySem.W.kitOne K (.ref (cl i)) (.ref (cl j)) = some (decide (i = j))
  top : ∀ i, i ≤ 16 → PySem.W.kitOne K (.ref (cl i)) (.ref (cl 16)) = some true
  val : ∀ i, i ≤ 16 → PySem.W.kitOne K (.ref (cl i)) (.type "ValueError") = some true
def flagsOf (i : Nat) : List V := (List.range 16).map fun j => V.bl (decide (i = j))
def spFlags (cl : Nat → Addr) : Sp := fun vs H Q _ => ∃ (a : Addr) (i : Nat), vs = [.ref a] ∧ i ≤ 16 ∧ ErrOf H a (cl i) ∧ ∀ H' p, Same H H' → H p = none → H' p = some (.lst (flagsOf i)) → Q (.ref p) H'
theorem ok_flags {f : Addr} {fd : FuncData} {k : Nat} {cl : Nat → Addr} (F : Fun K "_law_flags" "_law_flags" sFlags f fd) (T : Cls K mg cl) (mi : mg "isinstance" = none) : FnOk P w K mg base CX0 (k + 1) f fd ["_law_e"] (spFlags cl) := by
  refine F.ok scFlags (fun vs H Q E h => ?_) (fun cdv A outer s H vs Q E hr h => ?_)
  · obtain ⟨a, i, rfl, _⟩ := h
    rfl
  · obtain ⟨a, i, rfl, hi, he, q⟩ := h
    refine ⟨_, pss_cons (ps_set (i := 1) scFlags.nd rfl (.inl rfl) (pe_lst
        (pa_cons (pe_callB call_isErr (by rfl) mi boot_isinstance (pa_cons (pv 0) (pa_cons (pe_glob (v := .ref (cl 0)) (by rfl) T.g0 rfl) pa_nil)))
        (pa_cons (pe_callB call_isErr (by rfl) mi boot_isinstance (pa_cons (pv 0) (pa_cons (pe_glob (v := .ref (cl 1)) (by rfl) T.g1 rfl) pa_nil)))
        (pa_cons (pe_callB call_isErr (by rfl) mi boot_isinstance (pa_cons (pv 0) (pa_cons (pe_glob (v := .ref (cl 2)) (by rfl) T.g2 rfl) pa_nil)))
        (pa_cons (pe_callB call_isErr (by rfl) mi boot_isinstance (pa_cons (pv 0) (pa_cons (pe_glob (v := .ref (cl 3)) (by rfl) T.g3 rfl) pa_nil))) pa_nil))))))
      (pss_cons (ps_set (i := 1) scFlags.nd rfl (.inl rfl) (pe_op op_cat (pv 1) (pe_lst
        (pa_cons (pe_callB call_isErr (by rfl) mi boot_isinstance (pa_cons (pv 0) (pa_cons (pe_glob (v := .ref (cl 4)) (by rfl) T.g4 rfl) pa_nil)))
        (pa_cons (pe_callB call_isErr (by rfl) mi boot_isinstance (pa_cons (pv 0) (pa_cons (pe_glob (v := .ref (cl 5)) (by rfl) T.g5 rfl) pa_nil)))
        (pa_cons (pe_callB call_isErr (by rfl) mi boot_isinstance (pa_cons (pv 0) (pa_cons (pe_glob (v := .ref (cl 6)) (by rfl) T.g6 rfl) pa_nil)))
        (pa_cons (pe_callB call_isErr (by rfl) mi boot_isinstance (pa_cons (pv 0) (pa_cons (pe_glob (v := .ref (cl 7)) (by rfl) T.g7 rfl) pa_nil))) pa_nil)))))))
      (pss_cons (ps_set (i := 1) scFlags.nd rfl (.inl rfl) (pe_op op_cat (pv 1) (pe_lst
        (pa_cons (pe_callB call_isErr (by rfl) mi boot_isinstance (pa_cons (pv 0) (pa_cons (pe_glob (v := .ref (cl 8)) (by rfl) T.g8 rfl) pa_nil)))
        (pa_cons (pe_callB call_isErr (by rfl) mi boot_isinstance (pa_cons (pv 0) (pa_cons (pe_glob (v := .ref (cl 9)) (by rfl) T.g9 rfl) pa_nil)))
        (pa_cons (pe_callB call_isErr (by rfl) mi boot_isinstance (pa_cons (pv 0) (pa_cons (pe_glob (v := .ref (cl 10)) (by rfl) T.g10 rfl) pa_nil)))
        (pa_cons (pe_callB call_isErr (by rfl) mi boot_isinstance (pa_cons (pv 0) (pa_cons (pe_glob (v := .ref (cl 11)) (by rfl) T.g11 rfl) pa_nil))) pa_nil)))))))
      (pss_one (ps_ret (pe_op op_cat (pv 1) (pe_lst
        (pa_cons (pe_callB call_isErr (by rfl) mi boot_isinstance (pa_cons (pv 0) (pa_cons (pe_glob (v := .ref (cl 12)) (by rfl) T.g12 rfl) pa_nil)))
        (pa_cons (pe_callB call_isErr (by rfl) mi boot_isinstance (pa_cons (pv 0) (pa_cons (pe_glob (v := .ref (cl 13)) (by rfl) T.g13 rfl) pa_nil)))
        (pa_cons (pe_callB call_isErr (by rfl) mi boot_isinstance (pa_cons (pv 0) (pa_cons (pe_glob (v := .ref (cl 14)) (by rfl) T.g14 rfl) pa_nil)))
        (pa_cons (pe_callB call_isErr (by rfl) mi boot_isinstance (pa_cons (pv 0) (pa_cons (pe_glob (v := .ref (cl 15)) (by rfl) T.g15 rfl) pa_nil))) pa_nil)))))))))), ?_⟩
    have r0 := Same.refl H
    refine ⟨.ref a, rfl, a, cl i, .ref (cl 0), .ref (cl 0), _, rfl, he.stay r0, T.ek i hi, .own _, T.kit i 0 hi (by decide), .ref a, rfl, a, cl i, .ref (cl 1), .ref (cl 1), _, rfl, he.stay r0, T.ek i hi, .own _, T.kit i 1 hi (by decide), .ref a, rfl, a, cl i, .ref (cl 2), .ref (cl 2), _, rfl, he.stay r0, T.ek i hi, .own _, T.kit i 2 hi (by decide), .ref a, rfl, a, cl i, .ref (cl 3), .ref (cl 3), _, rfl, he.stay r0, T.ek i hi, .own _, T.kit i 3 hi (by decide), by show 4 ≤ sizeLine; decide, fun p1 n1 => ?_⟩
    have r1 : Same H (upd H p1 (.lst [.bl (decide (i = 0)), .bl (decide (i = 1)), .bl (decide (i = 2)), .bl (decide (i = 3))])) := same_upd n1
    have e1 : (upd H p1 (.lst [.bl (decide (i = 0)), .bl (decide (i = 1)), .bl (decide (i = 2)), .bl (decide (i = 3))])) p1 = some (.lst [.bl (decide (i = 0)), .bl (decide (i = 1)), .bl (decide (i = 2)), .bl (decide (i = 3))]) := upd_same
    generalize hH1 : (upd H p1 (.lst [.bl (decide (i = 0)), .bl (decide (i = 1)), .bl (decide (i = 2)), .bl (decide (i = 3))])) = H1 at r1 e1
    refine ⟨.ref p1, rfl, .ref a, rfl, a, cl i, .ref (cl 4), .ref (cl 4), _, rfl, he.stay r1, T.ek i hi, .own _, T.kit i 4 hi (by decide), .ref a, rfl, a, cl i, .ref (cl 5), .ref (cl 5), _, rfl, he.stay r1, T.ek i hi, .own _, T.kit i 5 hi (by decide), .ref a, rfl, a, cl i, .ref (cl 6), .ref (cl 6), _, rfl, he.stay r1, T.ek i hi, .own _, T.kit i 6 hi (by decide), .ref a, rfl, a, cl i, .ref (cl 7), .ref (cl 7), _, rfl, he.stay r1, T.ek i hi, .own _, T.kit i 7 hi (by decide), by show 4 ≤ sizeLine; decide, fun p2 np2 => ?_⟩
    have rp2 : Same H (upd H1 p2 (.lst [.bl (decide (i = 4)), .bl (decide (i = 5)), .bl (decide (i = 6)), .bl (decide (i = 7))])) := r1.trans (same_upd np2)
    have ep2 : (upd H1 p2 (.lst [.bl (decide (i = 4)), .bl (decide (i = 5)), .bl (decide (i = 6)), .bl (decide (i = 7))])) p1 = some (.lst ([.bl (decide (i = 0)), .bl (decide (i = 1)), .bl (decide (i = 2)), .bl (decide (i = 3))])) := by
      rw [upd_ne (ne_of_none e1 np2)]
      exact e1
    refine ⟨p1, p2, _, _, rfl, rfl, ep2, upd_same, by show 8 ≤ sizeLine; decide, fun p3 np3 => ?_⟩
    have rp3 : Same H (upd (upd H1 p2 (.lst [.bl (decide (i = 4)), .bl (decide (i = 5)), .bl (decide (i = 6)), .bl (decide (i = 7))])) p3 (.lst ([.bl (decide (i = 0)), .bl (decide (i = 1)), .bl (decide (i = 2)), .bl (decide (i = 3))] ++ [.bl (decide (i = 4)), .bl (decide (i = 5)), .bl (decide (i = 6)), .bl (decide (i = 7))]))) := rp2.trans (same_upd np3)
    have ep3 : (upd (upd H1 p2 (.lst [.bl (decide (i = 4)), .bl (decide (i = 5)), .bl (decide (i = 6)), .bl (decide (i = 7))])) p3 (.lst ([.bl (decide (i = 0)), .bl (decide (i = 1)), .bl (decide (i = 2)), .bl (decide (i = 3))] ++ [.bl (decide (i = 4)), .bl (decide (i = 5)), .bl (decide (i = 6)), .bl (decide (i = 7))]))) p3 = some (.lst ([.bl (decide (i = 0)), .bl (decide (i = 1)), .bl (decide (i = 2)), .bl (decide (i = 3))] ++ [.bl (decide (i = 4)), .bl (decide (i = 5)), .bl (decide (i = 6)), .bl (decide (i = 7))])) := upd_same
    generalize hH2 : (upd (upd H1 p2 (.lst [.bl (decide (i = 4)), .bl (decide (i = 5)), .bl (decide (i = 6)), .bl (decide (i = 7))])) p3 (.lst ([.bl (decide (i = 0)), .bl (decide (i = 1)), .bl (decide (i = 2)), .bl (decide (i = 3))] ++ [.bl (decide (i = 4)), .bl (decide (i = 5)), .bl (decide (i = 6)), .bl (decide (i = 7))]))) = H2 at rp3 ep3
    refine ⟨.ref p3, rfl, .ref a, rfl, a, cl i, .ref (cl 8), .ref (cl 8), _, rfl, he.stay rp3, T.ek i hi, .own _, T.kit i 8 hi (by decide), .ref a, rfl, a, cl i, .ref (cl 9), .ref (cl 9), _, rfl, he.stay rp3, T.ek i hi, .own _, T.kit i 9 hi (by decide), .ref a, rfl, a, cl i, .ref (cl 10), .ref (cl 10), _, rfl, he.stay rp3, T.ek i hi, .own _, T.kit i 10 hi (by decide), .ref a, rfl, a, cl i, .ref (cl 11), .ref (cl 11), _, rfl, he.stay rp3, T.ek i hi, .own _, T.kit i 11 hi (by decide), by show 4 ≤ sizeLine; decide, fun p4 np4 => ?_⟩
    have rp4 : Same H (upd H2 p4 (.lst [.bl (decide (i = 8)), .bl (decide (i = 9)), .bl (decide (i = 10)), .bl (decide (i = 11))])) := rp3.trans (same_upd np4)
    have ep4 : (upd H2 p4 (.lst [.bl (decide (i = 8)), .bl (decide (i = 9)), .bl (decide (i = 10)), .bl (decide (i = 11))])) p3 = some (.lst ([.bl (decide (i = 0)), .bl (decide (i = 1)), .bl (decide (i = 2)), .bl (decide (i = 3))] ++ [.bl (decide (i = 4)), .bl (decide (i = 5)), .bl (decide (i = 6)), .bl (decide (i = 7))])) := by
      rw [upd_ne (ne_of_none ep3 np4)]
      exact ep3
    refine ⟨p3, p4, _, _, rfl, rfl, ep4, upd_same, by show 12 ≤ sizeLine; decide, fun p5 np5 => ?_⟩
    have rp5 : Same H (upd (upd H2 p4 (.lst [.bl (decide (i = 8)), .bl (decide (i = 9)), .bl (decide (i = 10)), .bl (decide (i = 11))])) p5 (.lst ([.bl (decide (i = 0)), .bl (decide (i = 1)), .bl (decide (i = 2)), .bl (decide (i = 3))] ++ [.bl (decide (i = 4)), .bl (decide (i = 5)), .bl (decide (i = 6)), .bl (decide (i = 7))] ++ [.bl (decide (i = 8)), .bl (decide (i = 9)), .bl (decide (i = 10)), .bl (decide (i = 11))]))) := rp4.trans (same_upd np5)
    have ep5 : (upd (upd H2 p4 (.lst [.bl (decide (i = 8)), .bl (decide (i = 9)), .bl (decide (i = 10)), .bl (decide (i = 11))])) p5 (.lst ([.bl (decide (i = 0)), .bl (decide (i = 1)), .bl (decide (i = 2)), .bl (decide (i = 3))] ++ [.bl (decide (i = 4)), .bl (decide (i = 5)), .bl (decide (i = 6)), .bl (decide (i = 7))] ++ [.bl (decide (i = 8)), .bl (decide (i = 9)), .bl (decide (i = 10)), .bl (decide (i = 11))]))) p5 = some (.lst ([.bl (decide (i = 0)), .bl (decide (i = 1)), .bl (decide (i = 2)), .bl (decide (i = 3))] ++ [.bl (decide (i = 4)), .bl (decide (i = 5)), .bl (decide (i = 6)), .bl (decide (i = 7))] ++ [.bl (decide (i = 8)), .bl (decide (i = 9)), .bl (decide (i = 10)), .bl (decide (i = 11))])) := upd_same
    generalize hH4 : (upd (upd H2 p4 (.lst [.bl (decide (i = 8)), .bl (decide (i = 9)), .bl (decide (i = 10)), .bl (decide (i = 11))])) p5 (.lst ([.bl (decide (i = 0)), .bl (decide (i = 1)), .bl (decide (i = 2)), .bl (decide (i = 3))] ++ [.bl (decide (i = 4)), .bl (decide (i = 5)), .bl (decide (i = 6)), .bl (decide (i = 7))] ++ [.bl (decide (i = 8)), .bl (decide (i = 9)), .bl (decide (i = 10)), .bl (decide (i = 11))]))) = H4 at rp5 ep5
    refine ⟨.ref p5, rfl, .ref a, rfl, a, cl i, .ref (cl 12), .ref (cl 12), _, rfl, he.stay rp5, T.ek i hi, .own _, T.kit i 12 hi (by decide), .ref a, rfl, a, cl i, .ref (cl 13), .ref (cl 13), _, rfl, he.stay rp5, T.ek i hi, .own _, T.kit i 13 hi (by decide), .ref a, rfl, a, cl i, .ref (cl 14), .ref (cl 14), _, rfl, he.stay rp5, T.ek i hi, .own _, T.kit i 14 hi (by decide), .ref a, rfl, a, cl i, .ref (cl 15), .ref (cl 15), _, rfl, he.stay rp5, T.ek i hi, .own _, T.kit i 15 hi (by decide), by show 4 ≤ sizeLine; decide, fun p6 np6 => ?_⟩
    have rp6 : Same H (upd H4 p6 (.lst [.bl (decide (i = 12)), .bl (decide (i = 13)), .bl (decide (i = 14)), .bl (decide (i = 15))])) := rp5.trans (same_upd np6)
    have ep6 : (upd H4 p6 (.lst [.bl (decide (i = 12)), .bl (decide (i = 13)), .bl (decide (i = 14)), .bl (decide (i = 15))])) p5 = some (.lst ([.bl (decide (i = 0)), .bl (decide (i = 1)), .bl (decide (i = 2)), .bl (decide (i = 3))] ++ [.bl (decide (i = 4)), .bl (decide (i = 5)), .bl (decide (i = 6)), .bl (decide (i = 7))] ++ [.bl (decide (i = 8)), .bl (decide (i = 9)), .bl (decide (i = 10)), .bl (decide (i = 11))])) := by
      rw [upd_ne (ne_of_none ep5 np6)]
      exact ep5
    refine ⟨p5, p6, _, _, rfl, rfl, ep6, upd_same, by show 16 ≤ sizeLine; decide, fun p7 np7 => ?_⟩
    have rp7 : Same H (upd (upd H4 p6 (.lst [.bl (decide (i = 12)), .bl (decide (i = 13)), .bl (decide (i = 14)), .bl (decide (i = 15))])) p7 (.lst ([.bl (decide (i = 0)), .bl (decide (i = 1)), .bl (decide (i = 2)), .bl (decide (i = 3))] ++ [.bl (decide (i = 4)), .bl (decide (i = 5)), .bl (decide (i = 6)), .bl (decide (i = 7))] ++ [.bl (decide (i = 8)), .bl (decide (i = 9)), .bl (decide (i = 10)), .bl (decide (i = 11))] ++ [.bl (decide (i = 12)), .bl (decide (i = 13)), .bl (decide (i = 14)), .bl (decide (i = 15))]))) := rp6.trans (same_upd np7)
    have ep7 : (upd (upd H4 p6 (.lst [.bl (decide (i = 12)), .bl (decide (i = 13)), .bl (decide (i = 14)), .bl (decide (i = 15))])) p7 (.lst ([.bl (decide (i = 0)), .bl (decide (i = 1)), .bl (decide (i = 2)), .bl (decide (i = 3))] ++ [.bl (decide (i = 4)), .bl (decide (i = 5)), .bl (decide (i = 6)), .bl (decide (i = 7))] ++ [.bl (decide (i = 8)), .bl (decide (i = 9)), .bl (decide (i = 10)), .bl (decide (i = 11))] ++ [.bl (decide (i = 12)), .bl (decide (i = 13)), .bl (decide (i = 14)), .bl (decide (i = 15))]))) p7 = some (.lst ([.bl (decide (i = 0)), .bl (decide (i = 1)), .bl (decide (i = 2)), .bl (decide (i = 3))] ++ [.bl (decide (i = 4)), .bl (decide (i = 5)), .bl (decide (i = 6)), .bl (decide (i = 7))] ++ [.bl (decide (i = 8)), .bl (decide (i = 9)), .bl (decide (i = 10)), .bl (decide (i = 11))] ++ [.bl (decide (i = 12)), .bl (decide (i = 13)), .bl (decide (i = 14)), .bl (decide (i = 15))])) := upd_same
    exact q _ _ rp7 (rp6.free np7) ep7
end
end Kten
set_option maxRecDepth 100000
set_option maxHeartbeats 4000000
namespace Kten
open PySem PySem.Spec PyProof.Rows L2
theorem scKept : FnScope ["_law_found", "_law_some"] ["_law_found"] (defScope sKept) := ⟨rfl, rfl, rfl, by decide +kernel, rfl, by decide +kernel, by decide +kernel⟩
/-- the fields' names are no attributes of the classes -/
structure Flds (K : PySem.W.Frag) (cl : Nat → Addr) : Prop where
  ek : ∀ i, i ≤ 16 → ErrK K (cl i)
  n0 : PySem.W.findIn K (.ref (cl 0)) "place" = some none
  n1 : PySem.W.findIn K (.ref (cl 1)) "index" = some none
  n2 : PySem.W.findIn K (.ref (cl 2)) "number" = some none
  n3 : PySem.W.findIn K (.ref (cl 3)) "lot" = some none
  n4 : PySem.W.findIn K (.ref (cl 4)) "number" = some none
  n5 : PySem.W.findIn K (.ref (cl 5)) "mark" = some none
  n6 : PySem.W.findIn K (.ref (cl 6)) "number" = some none
  n7 : PySem.W.findIn K (.ref (cl 7)) "limit" = some none
  n8 : PySem.W.findIn K (.ref (cl 8)) "answer" = some none
  n9 : PySem.W.findIn K (.ref (cl 9)) "many" = some none
section
variable {P : Program} {w : World} {K : PySem.W.Frag} {mg : Str → Option Value} {base : Heap}
/-- the ten errors that keep something: at es their places, dx their dicts, va what they keep -/
structure Ten (H : Hp) (cl : Nat → Addr) (es : List V) (ea dx : Nat → Addr) (va : Nat → V) : Prop where
  p0 : es[0]? = some (.ref (ea 0))
  f0 : ErrF H (ea 0) (cl 0) (dx 0) "place" (va 0)
  p1 : es[1]? = some (.ref (ea 1))
  f1 : ErrF H (ea 1) (cl 1) (dx 1) "index" (va 1)
  p2 : es[2]? = some (.ref (ea 2))
  f2 : ErrF H (ea 2) (cl 2) (dx 2) "number" (va 2)
  p3 : es[3]? = some (.ref (ea 3))
  f3 : ErrF H (ea 3) (cl 3) (dx 3) "lot" (va 3)
  p4 : es[4]? = some (.ref (ea 4))
  f4 : ErrF H (ea 4) (cl 4) (dx 4) "number" (va 4)
  p5 : es[5]? = some (.ref (ea 5))
  f5 : ErrF H (ea 5) (cl 5) (dx 5) "mark" (va 5)
  p6 : es[6]? = some (.ref (ea 6))
  f6 : ErrF H (ea 6) (cl 6) (dx 6) "number" (va 6)
  p7 : es[7]? = some (.ref (ea 7))
  f7 : ErrF H (ea 7) (cl 7) (dx 7) "limit" (va 7)
  p8 : es[8]? = some (.ref (ea 8))
  f8 : ErrF H (ea 8) (cl 8) (dx 8) "answer" (va 8)
  p9 : es[9]? = some (.ref (ea 9))
  f9 : ErrF H (ea 9) (cl 9) (dx 9) "many" (va 9)
def tenOf (va : Nat → V) : List V := [va 0, va 1, va 2, va 3, va 4, va 5] ++ [va 6, va 7, va 8, va 9]
def spKept (cl : Nat → Addr) : Sp := fun vs H Q _ => ∃ (a : Addr) (es : List V) (ea dx : Nat → Addr) (va : Nat → V), vs = [.ref a] ∧ H a = some (.lst es) ∧ Ten H cl es ea dx va ∧ ∀ H' p, Same H H' → H p = none → H' p = some (.lst (tenOf va)) → Q (.ref p) H'
theorem Ten.stay {H H' : Hp} {cl : Nat → Addr} {es : List V} {ea dx : Nat → Addr} {va : Nat → V} (h : Ten H cl es ea dx va) (e : Same H H') : Ten H' cl es ea dx va :=
  ⟨h.p0, h.f0.stay e, h.p1, h.f1.stay e, h.p2, h.f2.stay e, h.p3, h.f3.stay e, h.p4, h.f4.stay e, h.p5, h.f5.stay e, h.p6, h.f6.stay e, h.p7, h.f7.stay e, h.p8, h.f8.stay e, h.p9, h.f9.stay e⟩
theorem ok_kept {f : Addr} {fd : FuncData} {k : Nat} {cl : Nat → Addr} (F : Fun K "_law_kept" "_law_kept" sKept f fd) (T : Flds K cl) : FnOk P w K mg base CX0 (k + 1) f fd ["_law_found"] (spKept cl) := by
  refine F.ok scKept (fun vs H Q E h => ?_) (fun cdv A outer s H vs Q E hr h => ?_)
  · obtain ⟨a, es, ea, dx, va, rfl, _⟩ := h
    rfl
  · obtain ⟨a, es, ea, dx, va, rfl, ha, ten, q⟩ := h
    refine ⟨_, pss_cons (ps_set (i := 1) scKept.nd rfl (.inl rfl) (pe_lst
        (pa_cons (pe_errF (pe_ix ix_list (pv 0) pe_int (fun _ _ => rfl))) (pa_cons (pe_errF (pe_ix ix_list (pv 0) pe_int (fun _ _ => rfl))) (pa_cons (pe_errF (pe_ix ix_list (pv 0) pe_int (fun _ _ => rfl))) (pa_cons (pe_errF (pe_ix ix_list (pv 0) pe_int (fun _ _ => rfl))) (pa_cons (pe_errF (pe_ix ix_list (pv 0) pe_int (fun _ _ => rfl))) (pa_cons (pe_errF (pe_ix ix_list (pv 0) pe_int (fun _ _ => rfl))) pa_nil))))))))
      (pss_one (ps_ret (pe_op op_cat (pv 1) (pe_lst
        (pa_cons (pe_errF (pe_ix ix_list (pv 0) pe_int (fun _ _ => rfl))) (pa_cons (pe_errF (pe_ix ix_list (pv 0) pe_int (fun _ _ => rfl))) (pa_cons (pe_errF (pe_ix ix_list (pv 0) pe_int (fun _ _ => rfl))) (pa_cons (pe_errF (pe_ix ix_list (pv 0) pe_int (fun _ _ => rfl))) pa_nil)))))))), ?_⟩
    have r0 : Same H H := Same.refl H
    refine ⟨.ref a, rfl, a, es, 0, .ref (ea 0), rfl, rfl, .inl (.inl (r0 a _ ha)), atI_nat (j := 0) ten.p0, ea 0, cl 0, dx 0, va 0, rfl, ten.f0.stay r0, T.ek 0 (by decide), T.n0, .ref a, rfl, a, es, 1, .ref (ea 1), rfl, rfl, .inl (.inl (r0 a _ ha)), atI_nat (j := 1) ten.p1, ea 1, cl 1, dx 1, va 1, rfl, ten.f1.stay r0, T.ek 1 (by decide), T.n1, .ref a, rfl, a, es, 2, .ref (ea 2), rfl, rfl, .inl (.inl (r0 a _ ha)), atI_nat (j := 2) ten.p2, ea 2, cl 2, dx 2, va 2, rfl, ten.f2.stay r0, T.ek 2 (by decide), T.n2, .ref a, rfl, a, es, 3, .ref (ea 3), rfl, rfl, .inl (.inl (r0 a _ ha)), atI_nat (j := 3) ten.p3, ea 3, cl 3, dx 3, va 3, rfl, ten.f3.stay r0, T.ek 3 (by decide), T.n3, .ref a, rfl, a, es, 4, .ref (ea 4), rfl, rfl, .inl (.inl (r0 a _ ha)), atI_nat (j := 4) ten.p4, ea 4, cl 4, dx 4, va 4, rfl, ten.f4.stay r0, T.ek 4 (by decide), T.n4, .ref a, rfl, a, es, 5, .ref (ea 5), rfl, rfl, .inl (.inl (r0 a _ ha)), atI_nat (j := 5) ten.p5, ea 5, cl 5, dx 5, va 5, rfl, ten.f5.stay r0, T.ek 5 (by decide), T.n5, by show 6 ≤ sizeLine; decide, fun p1 n1 => ?_⟩
    have r1 : Same H (upd H p1 (.lst [va 0, va 1, va 2, va 3, va 4, va 5])) := fun b o z => by
      rw [upd_ne (ne_of_none z n1)]
      exact z
    refine ⟨.ref p1, rfl, .ref a, rfl, a, es, 6, .ref (ea 6), rfl, rfl, .inl (.inl (r1 a _ ha)), atI_nat (j := 6) ten.p6, ea 6, cl 6, dx 6, va 6, rfl, ten.f6.stay r1, T.ek 6 (by decide), T.n6, .ref a, rfl, a, es, 7, .ref (ea 7), rfl, rfl, .inl (.inl (r1 a _ ha)), atI_nat (j := 7) ten.p7, ea 7, cl 7, dx 7, va 7, rfl, ten.f7.stay r1, T.ek 7 (by decide), T.n7, .ref a, rfl, a, es, 8, .ref (ea 8), rfl, rfl, .inl (.inl (r1 a _ ha)), atI_nat (j := 8) ten.p8, ea 8, cl 8, dx 8, va 8, rfl, ten.f8.stay r1, T.ek 8 (by decide), T.n8, .ref a, rfl, a, es, 9, .ref (ea 9), rfl, rfl, .inl (.inl (r1 a _ ha)), atI_nat (j := 9) ten.p9, ea 9, cl 9, dx 9, va 9, rfl, ten.f9.stay r1, T.ek 9 (by decide), T.n9, by show 4 ≤ sizeLine; decide, fun p2 n2 => ?_⟩
    have e1 : (upd (upd H p1 (.lst [va 0, va 1, va 2, va 3, va 4, va 5])) p2 (.lst [va 6, va 7, va 8, va 9])) p1 = some (.lst [va 0, va 1, va 2, va 3, va 4, va 5]) := by
      rw [upd_ne (ne_of_none upd_same n2)]
      exact upd_same
    have r2 : Same H (upd (upd H p1 (.lst [va 0, va 1, va 2, va 3, va 4, va 5])) p2 (.lst [va 6, va 7, va 8, va 9])) := fun b o z => by
      rw [upd_ne (ne_of_none (r1 b o z) n2)]
      exact r1 b o z
    refine ⟨p1, p2, _, _, rfl, rfl, e1, upd_same, by show 10 ≤ sizeLine; decide, fun p3 n3 => ?_⟩
    refine q _ p3 (fun b o z => ?_) (r2.free n3) upd_same
    rw [upd_ne (ne_of_none (r2 b o z) n3)]
    exact r2 b o z
end
end Kten
set_option maxRecDepth 100000
set_option maxHeartbeats 4000000
/-! expressions that make data, whatever new objects they are made of; the bag at b may change meanwhile -/
namespace Kten
open PySem PySem.Spec PyProof.Rows L2 Evl
/-! ### data that is not too large -/
def Nice (n W : Nat) (d : PyData) : Prop := d.showable = true ∧ d.leavesShort 48 = true ∧ d.depth ≤ n ∧ d.weight ≤ W
theorem Nice.more {n W n' W' : Nat} {d : PyData} (h : Nice n W d) (hn : n ≤ n') (hw : W ≤ W') : Nice n' W' d := ⟨h.1, h.2.1, Nat.le_trans h.2.2.1 hn, Nat.le_trans h.2.2.2 hw⟩
theorem Nice.shows {n W : Nat} {d : PyData} (h : Nice n W d) (hn : n ≤ 40) (hw : W ≤ 300000) : Shows d := by
  refine ⟨h.1, Nat.le_trans h.2.2.1 hn, ?_⟩
  have z := PyData.shown_le 48 (by decide) d h.2.1
  have z2 := h.2.2.2
  rw [sizeLine_eq]
  omega
theorem nice_all {n W : Nat} : ∀ {ds : List PyData}, (∀ d ∈ ds, Nice n W d) → PyData.showableAll ds = true ∧ PyData.leavesShortAll 48 ds = true ∧ PyData.depthAll ds ≤ n ∧ PyData.weightAll ds ≤ ds.length * (W + 1)
  | [], _ => ⟨by simp only [PyData.showableAll], by simp only [PyData.leavesShortAll], by simp only [PyData.depthAll]; omega, by simp only [PyData.weightAll]; omega⟩
  | d :: ds, h => by
    obtain ⟨a1, a2, a3, a4⟩ := h d List.mem_cons_self
    obtain ⟨b1, b2, b3, b4⟩ := nice_all fun x hx => h x (List.mem_cons_of_mem _ hx)
    refine ⟨by simp only [PyData.showableAll, a1, b1, Bool.and_self], by simp only [PyData.leavesShortAll, a2, b2, Bool.and_self], ?_, ?_⟩
    · simp only [PyData.depthAll]
      omega
    · simp only [PyData.weightAll, List.length_cons]
      rw [Nat.add_mul]
      omega
theorem nice_list {n W m : Nat} {ds : List PyData} (h : ∀ d ∈ ds, Nice n W d) (hm : ds.length ≤ m) : Nice (n + 1) (m * (W + 1)) (.list ds) := by
  obtain ⟨a1, a2, a3, a4⟩ := nice_all h
  refine ⟨by simp only [PyData.showable]; exact a1, by simp only [PyData.leavesShort]; exact a2, by simp only [PyData.depth]; omega, ?_⟩
  simp only [PyData.weight]
  exact Nat.le_trans a4 (Nat.mul_le_mul_right _ hm)
theorem nice_tup {n W m : Nat} {ds : List PyData} (h : ∀ d ∈ ds, Nice n W d) (hm : ds.length ≤ m) : Nice (n + 1) (m * (W + 1)) (.tuple ds) := by
  obtain ⟨a1, a2, a3, a4⟩ := nice_all h
  refine ⟨by simp only [PyData.showable]; exact a1, by simp only [PyData.leavesShort]; exact a2, by simp only [PyData.depth]; omega, ?_⟩
  simp only [PyData.weight]
  exact Nat.le_trans a4 (Nat.mul_le_mul_right _ hm)
/-! ### what makes data -/
/-- what is tracked in H, and was free in H0 -/
def fence (H0 H : Hp) : Hp := fun a => match H0 a with
  | none => H a
  | some _ => none
theorem fence_at {H0 H : Hp} {a : Addr} {o : HO} (h0 : H0 a = none) (h : H a = some o) : fence H0 H a = some o := by
  unfold fence
  rw [h0]
  exact h
theorem fence_of {H0 H : Hp} {a : Addr} {o : HO} (h : fence H0 H a = some o) : H0 a = none ∧ H a = some o := by
  unfold fence at h
  cases e : H0 a with
  | none =>
    rw [e] at h
    exact ⟨rfl, h⟩
  | some u =>
    rw [e] at h
    cases h
abbrev Rb (H H0 : Hp) : V → PyData → Prop := Rp (fence H0 H)
abbrev Rbs (H H0 : Hp) : List V → List PyData → Prop := RpAll (fence H0 H)
theorem But.fen {b : Addr} {H0 H H' : Hp} (h : But b H H') (hb : H0 b ≠ none) : ∀ a o, fence H0 H a = some o → fence H0 H' a = some o := fun a o e => by
  obtain ⟨n, e⟩ := fence_of e
  exact fence_at n (h a o (fun z => hb (z ▸ n)) e)
theorem ex_fen {H0 H H' : Hp} (h : Ex H H') : ∀ a o, fence H0 H a = some o → fence H0 H' a = some o := fun a o e => by
  obtain ⟨n, e⟩ := fence_of e
  exact fence_at n (h a o e)
theorem Rb.but {b : Addr} {H0 H H' : Hp} {v : V} {d : PyData} (h : Rb H H0 v d) (k : But b H H') (hb : H0 b ≠ none) : Rb H' H0 v d := Rp.stay h (k.fen hb)
theorem Rb.ex {H0 H H' : Hp} {v : V} {d : PyData} (h : Rb H H0 v d) (k : Ex H H') : Rb H' H0 v d := Rp.stay h (ex_fen k)
theorem Rbs.ex {H0 H H' : Hp} {v : List V} {d : List PyData} (h : Rbs H H0 v d) (k : Ex H H') : Rbs H' H0 v d := RpAll.stay h (ex_fen k)
theorem ex_but {b : Addr} {H H' : Hp} (h : Ex H H') : But b H H' := fun a o _ e => h a o e
theorem Rb.full {H0 H : Hp} {v : V} {d : PyData} (h : Rb H H0 v d) : Rp H v d := Rp.stay h fun _ _ e => (fence_of e).2
theorem rp_flat {H : Hp} {v : V} {d : PyData} (h : Rp H v d) : flatB v = true ∨ ∃ a, v = .ref a := by
  cases h with
  | non => exact .inl rfl
  | bl b => exact .inl rfl
  | int i => exact .inl rfl
  | str x => exact .inl rfl
  | lst h k => exact .inr ⟨_, rfl⟩
  | tup h k => exact .inr ⟨_, rfl⟩
  | dct h k => exact .inr ⟨_, rfl⟩
def EvD (H0 : Hp) (te : TE) (σ : L2.St) (H : Hp) (d : PyData) : Prop := ∀ H1, Ex H H1 → ∀ Q : VK, (∀ v H2, Ex H1 H2 → Rb H2 H0 v d → Q v H2) → te σ H1 Q
def EvDs (H0 : Hp) (ta : TA) (σ : L2.St) (H : Hp) (ds : List PyData) : Prop := ∀ H1, Ex H H1 → ∀ Q : List V → Hp → Prop, (∀ vs H2, Ex H1 H2 → Rbs H2 H0 vs ds → Q vs H2) → ta σ H1 Q
section
variable {H0 : Hp} {σ : L2.St} {H : Hp} {te : TE} {ta : TA} {d : PyData} {ds : List PyData}
theorem evD_non : EvD H0 (tC .non) σ H .none := fun H1 _ Q q => q _ H1 (Ex.refl H1) .non
theorem evD_bl {x : Bool} : EvD H0 (tC (.bl x)) σ H (.bool x) := fun H1 _ Q q => q _ H1 (Ex.refl H1) (.bl x)
theorem evD_int {x : Int} : EvD H0 (tC (.int x)) σ H (.int x) := fun H1 _ Q q => q _ H1 (Ex.refl H1) (.int x)
theorem evD_str {x : Str} : EvD H0 (tC (.str x)) σ H (.str x) := fun H1 _ Q q => q _ H1 (Ex.refl H1) (.str x)
theorem evD_var {i : Nat} {v : V} (h : σ[i]? = some (some v)) (r : Rb H H0 v d) : EvD H0 (tVar i) σ H d := fun H1 e Q q => ⟨v, h, q v H1 (Ex.refl H1) (r.ex e)⟩
theorem evDs_nil : EvDs H0 tNil σ H [] := fun H1 _ Q q => q [] H1 (Ex.refl H1) .nil
theorem evDs_cons (h : EvD H0 te σ H d) (k : EvDs H0 ta σ H ds) : EvDs H0 (tCons te ta) σ H (d :: ds) := fun H1 e Q q =>
  h H1 e _ fun v H2 e2 r => k H2 (e.trans e2) _ fun vs H3 e3 rs => q (v :: vs) H3 (e2.trans e3) (.cons (r.ex e3) rs)
theorem del_upd {H0 H : Hp} {p : Addr} {o' : HO} (hb : Ex H0 H) (hp : H p = none) : fence H0 (upd H p o') p = some o' :=
  fence_at (fresh_back hb hp) upd_same
theorem evD_lst (hb : Ex H0 H) (h : EvDs H0 ta σ H ds) (hl : ds.length ≤ 100000) : EvD H0 (tLst ta) σ H (.list ds) := fun H1 e Q q =>
  h H1 e _ fun vs H2 e2 r => ⟨by rw [r.many]; exact sz_of hl, fun p hp =>
    q (.ref p) _ (e2.trans (Ex.new hp)) (.lst (del_upd ((hb.trans e).trans e2) hp) (r.ex (Ex.new hp)))⟩
theorem evD_tup (hb : Ex H0 H) (h : EvDs H0 ta σ H ds) (hl : ds.length ≤ 100000) : EvD H0 (tTup ta) σ H (.tuple ds) := fun H1 e Q q =>
  h H1 e _ fun vs H2 e2 r => ⟨by rw [r.many]; exact sz_of hl, fun p hp =>
    q (.ref p) _ (e2.trans (Ex.new hp)) (.tup (del_upd ((hb.trans e).trans e2) hp) (r.ex (Ex.new hp)))⟩
theorem evD_dnew (hb : Ex H0 H) : EvD H0 tDNewK σ H (.dict []) := fun H1 e Q q p hp =>
  q (.ref p) _ (Ex.new hp) (.dct (kvs := []) (ds := []) (del_upd (hb.trans e) hp) .nil)
end
end Kten
set_option maxRecDepth 100000
set_option maxHeartbeats 4000000
namespace Kten
open PySem PySem.Spec PyProof.Rows L2 Evl
theorem scOdd : FnScope ["_law_bag_here", "_law_deep", "_law_k", "_law_some"] ["_law_bag_here"] (defScope sOdd) := ⟨rfl, rfl, rfl, by decide +kernel, rfl, by decide +kernel, by decide +kernel⟩
section
variable {H0 : Hp} {σ : L2.St} {H : Hp}
theorem evD_d1 (hb : Ex H0 H) (k x : Str) : EvD H0 (tDisp [(tC (.str k), tC (.str x))]) σ H (.dict [(.str k, .str x)]) := fun H1 e Q q p hp => by
  refine ⟨upd_same, [(.inr k, .str x)], rfl, by show 1 ≤ 15; decide, ?_⟩
  have k1 := del_upd (o' := .dK [(.inr k, .str x)]) (hb.trans e) hp
  have z := q (.ref p) (upd H1 p (.dK [(.inr k, .str x)])) (Ex.new hp) (.dct (kvs := [(.inr k, .str x)]) (ds := [.str x]) k1 (.cons (.str x) .nil))
  rw [upd_upd]
  exact z
theorem evD_neg : EvD H0 (tUn (rU fun i => .int (-i)) (tC (.int 1))) σ H (.int (-1)) := fun H1 _ Q q => ⟨1, rfl, q _ H1 (Ex.refl H1) (.int (-1))⟩
theorem evD_pow : EvD H0 (tOp (rI CPow fun i j => .int (i ^ j.toNat)) (tC (.int 10)) (tC (.int 39))) σ H (.int (10 ^ 39)) := fun H1 _ Q q =>
  ⟨10, 39, rfl, rfl, ⟨by decide, by decide, by decide⟩, q (.int (10 ^ 39)) H1 (Ex.refl H1) (.int _)⟩
theorem rep_data (H : Hp) : ∀ n : Nat, RpAll H (List.replicate n [V.int 0]).flatten (List.replicate n (.int 0))
  | 0 => .nil
  | n + 1 => by
    rw [List.replicate_succ, List.replicate_succ, List.flatten_cons]
    exact .cons (.int 0) (rep_data H n)
theorem evD_rep (hb : Ex H0 H) : EvD H0 (tOp rRep (tLst (tCons (tC (.int 0)) tNil)) (tC (.int 1900))) σ H (.list (List.replicate 1900 (.int 0))) := fun H1 e Q q =>
  ⟨by show 1 ≤ sizeLine; decide, fun p hp => ⟨p, 1900, [.int 0], rfl, rfl, upd_same, by decide, by decide, by decide, fun p2 hp2 => by
    have k1 := del_upd (o' := .lst (List.replicate (1900 : Int).toNat [V.int 0]).flatten) ((hb.trans e).trans (Ex.new hp)) hp2
    exact q (.ref p2) _ ((Ex.new hp).trans (Ex.new hp2)) (.lst k1 (rep_data _ 1900))⟩⟩
end
/-! ### the values -/
def nest : Nat → PyData
  | 0 => .list []
  | n + 1 => .list [nest n]
def D1 : List PyData := [.none, .bool true, .bool false, .int 0, .int 1, .int (-1), .int (10 ^ 39), .str "", .str "A", .str "ninesigns", .str "a b", .list [], .dict [], .list [.str "a"], .dict [(.str "a", .str "b")], nest 11]
def D2 : List PyData := [.tuple [.str "b", .str "a"], .tuple [.str "a", .str "a"], .tuple [.str "a", .int 1], .tuple [.tuple [.str "a"]], .str "a", .list [.tuple [.str "a"], .tuple []], .list (List.replicate 1900 (.int 0)), .tuple [.str "a", .str "B"]]
def D3 : List PyData := [.tuple [.list [.str "a"]], .tuple [.str "a", .dict []]]
theorem nice1 : ∀ d ∈ D1, Nice 12 2000 d := by
  intro d hd
  have z : (D1.all fun d => d.showable && d.leavesShort 48 && decide (d.depth ≤ 12) && decide (d.weight ≤ 2000)) = true := by decide +kernel
  have y := List.all_eq_true.mp z d hd
  simp only [Bool.and_eq_true, decide_eq_true_eq] at y
  exact ⟨y.1.1.1, y.1.1.2, y.1.2, y.2⟩
theorem nice2 : ∀ d ∈ D2, Nice 12 2000 d := by
  intro d hd
  have z : (D2.all fun d => d.showable && d.leavesShort 48 && decide (d.depth ≤ 12) && decide (d.weight ≤ 2000)) = true := by decide +kernel
  have y := List.all_eq_true.mp z d hd
  simp only [Bool.and_eq_true, decide_eq_true_eq] at y
  exact ⟨y.1.1.1, y.1.1.2, y.1.2, y.2⟩
theorem nice3 : ∀ d ∈ D3, Nice 12 2000 d := by
  intro d hd
  have z : (D3.all fun d => d.showable && d.leavesShort 48 && decide (d.depth ≤ 12) && decide (d.weight ≤ 2000)) = true := by decide +kernel
  have y := List.all_eq_true.mp z d hd
  simp only [Bool.and_eq_true, decide_eq_true_eq] at y
  exact ⟨y.1.1.1, y.1.1.2, y.1.2, y.2⟩
theorem rbs_get {H : Hp} : ∀ {vs : List V} {ds : List PyData} {i : Nat} {v : V}, RpAll H vs ds → vs[i]? = some v → ∃ d, d ∈ ds ∧ Rp H v d
  | _, _, _, _, .nil, e => by simp at e
  | _, _, 0, _, .cons h _, e => by
    simp at e
    subst e
    exact ⟨_, List.mem_cons_self, h⟩
  | _, _, i + 1, _, .cons _ k, e => by
    obtain ⟨d, hd, r⟩ := rbs_get (i := i) k (by simpa using e)
    exact ⟨d, List.mem_cons_of_mem _ hd, r⟩
theorem Bag.ex {H H' : Hp} {b q : Addr} {cs : List Int} (h : Bag H b q cs) (e : Ex H H') : Bag H' b q cs := by
  obtain ⟨c0, c1, c2, h1, h2, r⟩ := h
  exact ⟨c0, c1, c2, e _ _ h1, e _ _ h2, r⟩
/-- a list in the data is a list in the heap -/
theorem rb_list {H H0 : Hp} {v : V} {ds : List PyData} (h : Rb H H0 v (.list ds)) : ∃ a xs, v = .ref a ∧ H0 a = none ∧ H a = some (.lst xs) ∧ Rbs H H0 xs ds := by
  cases h with
  | lst h k =>
    obtain ⟨n, e⟩ := fence_of h
    exact ⟨_, _, rfl, n, e, k⟩
end Kten
set_option maxRecDepth 100000
set_option maxHeartbeats 400000
namespace Kten
open PySem PySem.Spec PyProof.Rows L2 Evl
theorem gn_of {i : Nat} {v : V} {σ : L2.St} {H : Hp} {Q : L2.St → Hp → Prop} (h : Q (σ.set i (some v)) H) : gName i v σ H Q := h
theorem asg_of {te : TE} {g : TG} {D : Ends} {σ : L2.St} {H : Hp} (h : te σ H fun x H1 => g x σ H1 D.nx) : tAsg te g D σ H := h
theorem seq_of {t u : TS} {D : Ends} {σ : L2.St} {H : Hp} (h : t { D with nx := u D } σ H) : tSeq t u D σ H := h
section
variable {P : Program} {w : World} {K : PySem.W.Frag} {mg : Str → Option Value} {base : Heap}
def spOdd : Sp := fun vs H Q _ => ∃ (b q : Addr) (cs : List Int), vs = [.ref b] ∧ Bag H b q cs ∧ ∀ (v : V) (d : PyData) H', Rb H' H v d → Nice 12 2000 d → Bag H' b q cs → But b H H' → Q v H'
theorem ok_odd {f fT : Addr} {fd fdT : FuncData} {k : Nat} (F : Fun K "_law_odd_value" "_law_odd_value" sOdd f fd) (G : FnOk P w K mg base CX0 k fT fdT ["_law_bag_here", "_law_many"] spTake) (FT : PySem.W.keepIn K (.ref fT) = true)
    (bT : Binds K fdT ["_law_bag_here", "_law_many"] []) (gT : mg "_law_take" = some (.ref fT)) (mr : mg "range" = none) : FnOk P w K mg base CX0 (k + 1) f fd ["_law_bag_here"] spOdd := by
  refine F.ok scOdd (fun vs H Q E h => ?_) (fun cdv A outer s H vs Q E hr h => ?_)
  · obtain ⟨b, q, cs, rfl, _⟩ := h
    rfl
  · obtain ⟨b, q, cs, rfl, hB, kq⟩ := h
    refine ⟨_, pss_cons (ps_set (i := 1) scOdd.nd rfl (.inl rfl) (pe_lst pa_nil))
      (pss_cons (ps_for PassesOwn.never rfl (pi_range1 (by rfl) mr (pa_cons pe_int pa_nil)) (pg_name (i := 2) scOdd.nd rfl (.inl rfl)) (pss_one (ps_set (i := 1) scOdd.nd rfl (.inl rfl) (pe_lst (pa_cons (pv 1) pa_nil)))))
      (pss_cons (ps_set (i := 3) scOdd.nd rfl (.inl rfl) (pe_lst
        (pa_cons pe_non (pa_cons pe_bl (pa_cons pe_bl (pa_cons pe_int (pa_cons pe_int (pa_cons (pe_un un_neg pe_int) (pa_cons (pe_op op_pow pe_int pe_int) (pa_cons pe_str (pa_cons pe_str (pa_cons pe_str (pa_cons pe_str
          (pa_cons (pe_lst pa_nil) (pa_cons pe_dnewK (pa_cons (pe_lst (pa_cons pe_str pa_nil)) (pa_cons (pe_disp (pps_cons pe_str pe_str pps_nil) rfl rfl (by simp) (by decide)) (pa_cons (pv 1) pa_nil))))))))))))))))))
      (pss_cons (ps_set (i := 3) scOdd.nd rfl (.inl rfl) (pe_op op_cat (pv 3) (pe_lst
        (pa_cons (pe_tup (pa_cons pe_str (pa_cons pe_str pa_nil))) (pa_cons (pe_tup (pa_cons pe_str (pa_cons pe_str pa_nil))) (pa_cons (pe_tup (pa_cons pe_str (pa_cons pe_int pa_nil)))
        (pa_cons (pe_tup (pa_cons (pe_tup (pa_cons pe_str pa_nil)) pa_nil)) (pa_cons pe_str (pa_cons (pe_lst (pa_cons (pe_tup (pa_cons pe_str pa_nil)) (pa_cons (pe_tup pa_nil) pa_nil)))
        (pa_cons (pe_op op_rep (pe_lst (pa_cons pe_int pa_nil)) pe_int) (pa_cons (pe_tup (pa_cons pe_str (pa_cons pe_str pa_nil))) pa_nil)))))))))))
      (pss_cons (ps_set (i := 3) scOdd.nd rfl (.inl rfl) (pe_op op_cat (pv 3) (pe_lst
        (pa_cons (pe_tup (pa_cons (pe_lst (pa_cons pe_str pa_nil)) pa_nil)) (pa_cons (pe_tup (pa_cons pe_str (pa_cons pe_dnewK pa_nil))) pa_nil)))))
      (pss_one (ps_ret (pe_ix ix_list (pv 3) (pe_call G hr (by rfl) gT FT bT .nil pass0 (pa_cons (pv 0) (pa_cons pe_int pa_nil))) (fun _ _ => rfl)))))))), ?_⟩
    have hbx : ∃ o, H b = some o := by
      obtain ⟨c0, c1, c2, h1, _⟩ := hB
      exact ⟨_, h1⟩
    obtain ⟨o, hbo⟩ := hbx
    have hbn : H b ≠ none := by
      rw [hbo]
      exact fun z => nomatch z
    have hb : Ex H H := Ex.refl H
    refine ⟨Nat.zero_le _, fun p np => ?_⟩
    refine ⟨11, rfl, by decide, by decide, for_range (lo := 0) (n := 11) (fun i σ' H' => ∃ v y, σ' = [some (.ref b), some v, y, none] ∧ Rb H' H v (nest i) ∧ Ex H H') ?_ ?_ ?_⟩
    · exact ⟨.ref p, none, rfl, .lst (del_upd hb np) .nil, Ex.new np⟩
    · rintro i σ' H' hi ⟨v, y, rfl, r, e⟩
      have lst : EvD H (tLst (tCons (tVar 1) tNil)) [some (.ref b), some v, some (.int (0 + i)), none] H' (.list [nest i]) := evD_lst e (evDs_cons (evD_var (i := 1) rfl r) evDs_nil) (by show 1 ≤ 100000; decide)
      refine gn_of (asg_of ?_)
      refine lst H' (Ex.refl _) _ fun v2 H2 e2 r2 => ?_
      exact ⟨v2, some (.int (0 + i)), rfl, r2, e.trans e2⟩
    · rintro σ' H1 ⟨v, y, rfl, r, e⟩
      have hb1 : Ex H H1 := e
      have L1 := evD_lst (σ := [some (.ref b), some v, y, none]) hb1 (ds := D1) (evDs_cons evD_non (evDs_cons evD_bl (evDs_cons evD_bl (evDs_cons evD_int (evDs_cons evD_int (evDs_cons evD_neg (evDs_cons evD_pow (evDs_cons evD_str (evDs_cons evD_str (evDs_cons evD_str (evDs_cons evD_str
        (evDs_cons (evD_lst hb1 evDs_nil (by decide)) (evDs_cons (evD_dnew hb1) (evDs_cons (evD_lst hb1 (evDs_cons evD_str evDs_nil) (by decide)) (evDs_cons (evD_d1 hb1 _ _) (evDs_cons (evD_var (i := 1) rfl r) evDs_nil)))))))))))))))) (by decide : 16 ≤ 100000)
      refine seq_of (asg_of (L1 H1 (Ex.refl _) _ fun v2 H2 e2 r2 => ?_))
      obtain ⟨a1, x1, rfl, n1, h1, k1⟩ := rb_list r2
      have hb2 := hb1.trans e2
      have L2 := evD_lst (σ := [some (.ref b), some v, y, some (.ref a1)]) hb2 (ds := D2) (evDs_cons (evD_tup hb2 (evDs_cons evD_str (evDs_cons evD_str evDs_nil)) (by decide)) (evDs_cons (evD_tup hb2 (evDs_cons evD_str (evDs_cons evD_str evDs_nil)) (by decide)) (evDs_cons (evD_tup hb2 (evDs_cons evD_str (evDs_cons evD_int evDs_nil)) (by decide))
        (evDs_cons (evD_tup hb2 (evDs_cons (evD_tup hb2 (evDs_cons evD_str evDs_nil) (by decide)) evDs_nil) (by decide)) (evDs_cons evD_str (evDs_cons (evD_lst hb2 (evDs_cons (evD_tup hb2 (evDs_cons evD_str evDs_nil) (by decide)) (evDs_cons (evD_tup hb2 evDs_nil (by decide)) evDs_nil)) (by decide))
        (evDs_cons (evD_rep hb2) (evDs_cons (evD_tup hb2 (evDs_cons evD_str (evDs_cons evD_str evDs_nil)) (by decide)) evDs_nil)))))))) (by decide : 8 ≤ 100000)
      refine ⟨.ref a1, rfl, L2 H2 (Ex.refl _) _ fun v3 H3 e3 r3 => ?_⟩
      obtain ⟨a2, x2, rfl, n2, h2, k2⟩ := rb_list r3
      have l1 : x1.length = 16 := k1.many
      have l2 : x2.length = 8 := k2.many
      have hb3 := hb2.trans e3
      refine ⟨a1, a2, x1, x2, rfl, rfl, e3 _ _ h1, h2, by rw [l1, l2]; decide, fun p3 np3 => ?_⟩
      have k3 : Rbs (upd H3 p3 (.lst (x1 ++ x2))) H (x1 ++ x2) (D1 ++ D2) := RpAll.app (Rbs.ex (Rbs.ex k1 e3) (Ex.new np3)) (Rbs.ex k2 (Ex.new np3))
      have e4 : Ex H3 (upd H3 p3 (.lst (x1 ++ x2))) := Ex.new np3
      have hp3 : (upd H3 p3 (.lst (x1 ++ x2))) p3 = some (.lst (x1 ++ x2)) := upd_same
      have hb4 := hb3.trans e4
      have L3 := evD_lst (σ := [some (.ref b), some v, y, some (.ref p3)]) hb4 (ds := D3) (evDs_cons (evD_tup hb4 (evDs_cons (evD_lst hb4 (evDs_cons evD_str evDs_nil) (by decide)) evDs_nil) (by decide)) (evDs_cons (evD_tup hb4 (evDs_cons evD_str (evDs_cons (evD_dnew hb4) evDs_nil)) (by decide)) evDs_nil)) (by decide : 2 ≤ 100000)
      refine ⟨.ref p3, rfl, L3 _ (Ex.refl _) _ fun v5 H5 e5 r5 => ?_⟩
      obtain ⟨a3, x3, rfl, n3, h3, k5⟩ := rb_list r5
      have l3 : x3.length = 2 := k5.many
      have hb5 := hb4.trans e5
      refine ⟨p3, a3, x1 ++ x2, x3, rfl, rfl, e5 _ _ hp3, h3, by rw [List.length_append, l1, l2, l3]; decide, fun p6 np6 => ?_⟩
      have k6 : Rbs (upd H5 p6 (.lst (x1 ++ x2 ++ x3))) H (x1 ++ x2 ++ x3) (D1 ++ D2 ++ D3) := RpAll.app (Rbs.ex (Rbs.ex k3 e5) (Ex.new np6)) (Rbs.ex k5 (Ex.new np6))
      have e6 : Ex H (upd H5 p6 (.lst (x1 ++ x2 ++ x3))) := (((e.trans e2).trans e3).trans e4).trans (e5.trans (Ex.new np6))
      have n6 : p6 ≠ b := fun z => by
        rw [z, hb5 _ _ hbo] at np6
        cases np6
      have l6 : (x1 ++ x2 ++ x3).length = 26 := by rw [List.length_append, List.length_append, l1, l2, l3]
      refine ⟨.ref p6, rfl, .ref b, rfl, b, q, cs, 26, rfl, hB.ex e6, by decide, by decide, fun v H' v0 v1 hB' hbut hfr => ?_⟩
      obtain ⟨n, rfl⟩ : ∃ n : Nat, v = (n : Int) := ⟨v.toNat, by omega⟩
      have hn : n < (x1 ++ x2 ++ x3).length := by omega
      obtain ⟨d, hd, rd⟩ := rbs_get k6 (List.getElem?_eq_getElem hn)
      refine ⟨p6, _, n, (x1 ++ x2 ++ x3)[n], rfl, rfl, .inl (.inl (hbut p6 _ n6 upd_same)), atI_nat (List.getElem?_eq_getElem hn), ?_⟩
      refine kq _ d H' (Rb.but rd hbut hbn) ?_ hB' ((ex_but e6).trans hbut)
      rcases List.mem_append.mp hd with hd | hd
      · rcases List.mem_append.mp hd with hd | hd
        · exact nice1 d hd
        · exact nice2 d hd
      · exact nice3 d hd
end
end Kten
set_option maxRecDepth 100000
set_option maxHeartbeats 4000000
namespace Kten
open PySem PySem.Spec PyProof.Rows L2 Evl
/-! ### the law's own text -/
def NL : List Str := ["_law_script", "_law_bag_here", "_law_turn", "_law_things", "_law_found", "_law_at", "_law_e", "_law_thing", "_law_odd", "_law_whole", "_law_part", "_law_k"]
theorem scLaw : FnScope NL ["_law_script"] (defScope sLaw) := ⟨rfl, rfl, rfl, by decide +kernel, rfl, by decide +kernel, by decide +kernel⟩
def forBody (s : Stmt) : List Stmt := match s with
  | .For _ _ b _ _ => b
  | _ => []
def lawB (i : Nat) : Stmt := (forBody ((defBody sLaw).getD 1 (.Pass ⟨0, 0, 0, 0⟩))).getD i (.Pass ⟨0, 0, 0, 0⟩)
abbrev LX (P : Program) (w : World) (K : PySem.W.Frag) (mg : Str → Option Value) (base : Heap) (f : Addr) (cdv : Value) (A : Around) (outer : List Env) (s : Shared) (H : Hp) (E : XK) : Cx :=
  (cxOf CX0 P w K mg base NL "law" (defScope sLaw) f cdv A outer s H E).nox
/-- a statement by what it needs and what it leaves -/
theorem ps_by {X : Cx} {st : Stmt} {t u : TS} (h : PS X st t) (hu : ∀ D σ H, u D σ H → t D σ H) : PS X st u := ⟨fun pins s σ H D I q => h.run pins s σ H D I (hu D σ H q)⟩
/-- the slots in a turn -/
abbrev sg (a b : Addr) (j : Int) (y3 y4 y5 y6 y7 y8 y9 y10 y11 : Option V) : L2.St := [some (.ref a), some (.ref b), some (.int j), y3, y4, y5, y6, y7, y8, y9, y10, y11]
theorem sl__law_script : (defScope sLaw).names.lookup ("_law_script" : Str) = some .local := by decide +kernel
theorem sl__law_bag_here : (defScope sLaw).names.lookup ("_law_bag_here" : Str) = some .cell := by decide +kernel
theorem sl__law_turn : (defScope sLaw).names.lookup ("_law_turn" : Str) = some .cell := by decide +kernel
theorem sl__law_things : (defScope sLaw).names.lookup ("_law_things" : Str) = some .local := by decide +kernel
theorem sl__law_found : (defScope sLaw).names.lookup ("_law_found" : Str) = some .local := by decide +kernel
theorem sl__law_at : (defScope sLaw).names.lookup ("_law_at" : Str) = some .cell := by decide +kernel
theorem sl__law_e : (defScope sLaw).names.lookup ("_law_e" : Str) = some .local := by decide +kernel
theorem sl__law_thing : (defScope sLaw).names.lookup ("_law_thing" : Str) = some .local := by decide +kernel
theorem sl__law_odd : (defScope sLaw).names.lookup ("_law_odd" : Str) = some .local := by decide +kernel
theorem sl__law_whole : (defScope sLaw).names.lookup ("_law_whole" : Str) = some .local := by decide +kernel
theorem sl__law_part : (defScope sLaw).names.lookup ("_law_part" : Str) = some .local := by decide +kernel
theorem sl__law_bag : (defScope sLaw).names.lookup ("_law_bag" : Str) = some .globalImplicit := by decide +kernel
theorem sl_range : (defScope sLaw).names.lookup ("range" : Str) = some .globalImplicit := by decide +kernel
theorem sl_Wrong : (defScope sLaw).names.lookup ("Wrong" : Str) = some .globalImplicit := by decide +kernel
theorem sl_NoRow : (defScope sLaw).names.lookup ("NoRow" : Str) = some .globalImplicit := by decide +kernel
theorem sl_NoThing : (defScope sLaw).names.lookup ("NoThing" : Str) = some .globalImplicit := by decide +kernel
theorem sl_NoLot : (defScope sLaw).names.lookup ("NoLot" : Str) = some .globalImplicit := by decide +kernel
theorem sl_NoNumber : (defScope sLaw).names.lookup ("NoNumber" : Str) = some .globalImplicit := by decide +kernel
theorem sl_NoMark : (defScope sLaw).names.lookup ("NoMark" : Str) = some .globalImplicit := by decide +kernel
theorem sl_Clash : (defScope sLaw).names.lookup ("Clash" : Str) = some .globalImplicit := by decide +kernel
theorem sl_TooMany : (defScope sLaw).names.lookup ("TooMany" : Str) = some .globalImplicit := by decide +kernel
theorem sl_Refused : (defScope sLaw).names.lookup ("Refused" : Str) = some .globalImplicit := by decide +kernel
theorem sl_NoEntry : (defScope sLaw).names.lookup ("NoEntry" : Str) = some .globalImplicit := by decide +kernel
theorem sl_NotPossible : (defScope sLaw).names.lookup ("NotPossible" : Str) = some .globalImplicit := by decide +kernel
theorem sl_Unlike : (defScope sLaw).names.lookup ("Unlike" : Str) = some .globalImplicit := by decide +kernel
theorem sl_BadAnswer : (defScope sLaw).names.lookup ("BadAnswer" : Str) = some .globalImplicit := by decide +kernel
theorem sl_Nothing : (defScope sLaw).names.lookup ("Nothing" : Str) = some .globalImplicit := by decide +kernel
theorem sl_NoText : (defScope sLaw).names.lookup ("NoText" : Str) = some .globalImplicit := by decide +kernel
theorem sl_NoCommand : (defScope sLaw).names.lookup ("NoCommand" : Str) = some .globalImplicit := by decide +kernel
theorem sl_enumerate : (defScope sLaw).names.lookup ("enumerate" : Str) = some .globalImplicit := by decide +kernel
theorem sl__law_flags : (defScope sLaw).names.lookup ("_law_flags" : Str) = some .globalImplicit := by decide +kernel
theorem sl_isinstance : (defScope sLaw).names.lookup ("isinstance" : Str) = some .globalImplicit := by decide +kernel
theorem sl_TheseError : (defScope sLaw).names.lookup ("TheseError" : Str) = some .globalImplicit := by decide +kernel
theorem sl_ValueError : (defScope sLaw).names.lookup ("ValueError" : Str) = some .globalImplicit := by decide +kernel
theorem sl__law_alike : (defScope sLaw).names.lookup ("_law_alike" : Str) = some .globalImplicit := by decide +kernel
theorem sl__law_kept : (defScope sLaw).names.lookup ("_law_kept" : Str) = some .globalImplicit := by decide +kernel
theorem sl__law_odd_value : (defScope sLaw).names.lookup ("_law_odd_value" : Str) = some .globalImplicit := by decide +kernel
end Kten
set_option maxRecDepth 100000
set_option maxHeartbeats 1000000
/-! the ten drawn lists, each apart from all that the others are made of -/
namespace Kten
open PySem PySem.Spec PyProof.Rows L2 Evl
open Classical in
/-- what is new since Hs, without the lists themselves -/
noncomputable def cutL (Hs : Hp) (l : Nat → Addr) (n : Nat) (H : Hp) : Hp := fun a => if Hs a = none ∧ ∀ j, j < n → a ≠ l j then H a else none
theorem cutL_of {Hs H : Hp} {l : Nat → Addr} {n : Nat} {a : Addr} {o : HO} (h : cutL Hs l n H a = some o) : Hs a = none ∧ (∀ j, j < n → a ≠ l j) ∧ H a = some o := by
  unfold cutL at h
  split at h
  · rename_i c
    exact ⟨c.1, c.2, h⟩
  · cases h
theorem cutL_at {Hs H : Hp} {l : Nat → Addr} {n : Nat} {a : Addr} {o : HO} (h1 : Hs a = none) (h2 : ∀ j, j < n → a ≠ l j) (h : H a = some o) : cutL Hs l n H a = some o := by
  unfold cutL
  rw [if_pos ⟨h1, h2⟩]
  exact h
structure Things (Hs H : Hp) (n : Nat) (l : Nat → Addr) (xs : Nat → List V) (ds : Nat → List PyData) : Prop where
  fresh : ∀ i, i < n → Hs (l i) = none
  inj : ∀ i j, i < n → j < n → l i = l j → i = j
  at_ : ∀ i, i < n → H (l i) = some (.lst (xs i))
  dat : ∀ i, i < n → RpAll (cutL Hs l n H) (xs i) (ds i)
  nic : ∀ i, i < n → (∀ d ∈ ds i, Nice 13 2100 d) ∧ (ds i).length ≤ 2
theorem Things.zero {Hs H : Hp} {l : Nat → Addr} {xs : Nat → List V} {ds : Nat → List PyData} : Things Hs H 0 l xs ds :=
  ⟨fun _ h => absurd h (Nat.not_lt_zero _), fun _ _ h => absurd h (Nat.not_lt_zero _), fun _ h => absurd h (Nat.not_lt_zero _), fun _ h => absurd h (Nat.not_lt_zero _), fun _ h => absurd h (Nat.not_lt_zero _)⟩
def put {α : Type} (n : Nat) (f : Nat → α) (x : α) : Nat → α := fun i => if i = n then x else f i
theorem put_n {α : Type} {n : Nat} {f : Nat → α} {x : α} : put n f x n = x := if_pos rfl
theorem put_lt {α : Type} {n i : Nat} {f : Nat → α} {x : α} (h : i < n) : put n f x i = f i := if_neg (by omega)
theorem put_range {α β : Type} (g : α → β) (n : Nat) (f : Nat → α) (x : α) : (List.range (n + 1)).map (fun m => g (put n f x m)) = (List.range n).map (fun m => g (f m)) ++ [g x] := by
  rw [List.range_succ, List.map_append, List.map_singleton, put_n]
  congr 1
  refine List.map_congr_left fun m hm => ?_
  rw [put_lt (List.mem_range.mp hm)]
theorem Things.step {Hs H G : Hp} {n : Nat} {l : Nat → Addr} {xs : Nat → List V} {ds : Nat → List PyData} {p : Addr} {zs : List V} {es : List PyData} (T : Things Hs H n l xs ds)
    (sub : ∀ a, H a = none → Hs a = none) (keep : ∀ a o, Hs a = none → H a = some o → G a = some o) (hp : H p = none) (hG : G p = some (.lst zs))
    (hz : RpAll (delH (fence H G) p) zs es) (hn : (∀ d ∈ es, Nice 13 2100 d) ∧ es.length ≤ 2) : Things Hs G (n + 1) (put n l p) (put n xs zs) (put n ds es) := by
  have ne : ∀ i, i < n → l i ≠ p := fun i hi z => by
    have y := T.at_ i hi
    rw [z, hp] at y
    cases y
  refine ⟨fun i hi => ?_, fun i j hi hj e => ?_, fun i hi => ?_, fun i hi => ?_, fun i hi => ?_⟩
  · by_cases h : i < n
    · rw [put_lt h]
      exact T.fresh i h
    · obtain rfl : i = n := by omega
      rw [put_n]
      exact sub p hp
  · by_cases h : i < n
    · rw [put_lt h] at e
      by_cases h2 : j < n
      · rw [put_lt h2] at e
        exact T.inj i j h h2 e
      · obtain rfl : j = n := by omega
        rw [put_n] at e
        exact absurd e (ne i h)
    · obtain rfl : i = n := by omega
      rw [put_n] at e
      by_cases h2 : j < i
      · rw [put_lt h2] at e
        exact absurd e.symm (ne j h2)
      · omega
  · by_cases h : i < n
    · rw [put_lt h, put_lt h]
      exact keep _ _ (T.fresh i h) (T.at_ i h)
    · obtain rfl : i = n := by omega
      rw [put_n, put_n]
      exact hG
  · by_cases h : i < n
    · rw [put_lt h, put_lt h]
      refine (T.dat i h).stay fun a o e => ?_
      obtain ⟨e1, e2, e3⟩ := cutL_of e
      refine cutL_at e1 (fun j hj => ?_) (keep a o e1 e3)
      by_cases h2 : j < n
      · rw [put_lt h2]
        exact e2 j h2
      · obtain rfl : j = n := by omega
        rw [put_n]
        exact ne_of_none e3 hp
    · obtain rfl : i = n := by omega
      rw [put_n, put_n]
      refine hz.stay fun a o e => ?_
      by_cases ea : a = p
      · rw [ea, delH_same] at e
        cases e
      · rw [delH_ne ea] at e
        obtain ⟨e1, e2⟩ := fence_of e
        refine cutL_at (sub a e1) (fun j hj => ?_) e2
        by_cases h2 : j < i
        · rw [put_lt h2]
          intro z
          have y := T.at_ j h2
          rw [← z, e1] at y
          cases y
        · obtain rfl : j = i := by omega
          rw [put_n]
          exact ea
  · by_cases h : i < n
    · rw [put_lt h]
      exact T.nic i h
    · obtain rfl : i = n := by omega
      rw [put_n]
      exact hn
end Kten
set_option maxRecDepth 100000
set_option maxHeartbeats 1000000
namespace Kten
open PySem PySem.Spec PyProof.Rows L2 Evl
section
variable {P : Program} {w : World} {K : PySem.W.Frag} {mg : Str → Option Value} {base : Heap} {f : Addr} {cdv : Value} {A : Around} {outer : List Env} {s : Shared} {H0 : Hp} {E0' : XK}
theorem b1_raw {fO fV : Addr} {fdO fdV : FuncData} {k : Nat} (hr : Room k (LX P w K mg base f cdv A outer s H0 E0').A) (GO : FnOk P w K mg base CX0 k fO fdO ["_law_bag_here", "_law_things"] spOne) (kO : PySem.W.keepIn K (.ref fO) = true)
    (bO : Binds K fdO ["_law_bag_here", "_law_things"] []) (gO : mg "_law_one" = some (.ref fO)) (GV : FnOk P w K mg base CX0 k fV fdV ["_law_bag_here"] spOdd) (kV : PySem.W.keepIn K (.ref fV) = true)
    (bV : Binds K fdV ["_law_bag_here"] []) (gV : mg "_law_odd_value" = some (.ref fV)) (mr : mg "range" = none) :
    PS (LX P w K mg base f cdv A outer s H0 E0') (lawB 0) (tAsg (tLc (iRng1 (tCons (tC (.int 10)) tNil)) (gName 11) tYes (tCall spOne [] E0 (tCons (tVar 1) (tCons (tLst (tCons (tLst (tCons (tCall spOdd [] E0 (tCons (tVar 1) tNil)) tNil)) (tCons (tLst (tCons (tVar 2) tNil)) (tCons (tLst tNil) (tCons (tLst (tCons (tC (.str "a")) (tCons (tLst (tCons (tVar 2) tNil)) tNil))) tNil))))) tNil))) [11]) (gName 3)) := by
  exact ps_setLc (i := 3) (own := [("_law_k", 11)]) (g := gName 11) (tt := tYes) rfl scLaw.nd rfl sl__law_things (sw_true rfl sl__law_things rfl (by decide +kernel)) (pi_range1 sl_range mr (pa_cons pe_int pa_nil))
    (blkOk_by (N := NL) (sc := defScope sLaw) (by decide +kernel)) (fun _ _ _ _ _ => pg_name (i := 11) scLaw.nd rfl (Or.inl rfl)) (fun _ _ _ _ _ => pts_nil)
    (fun _ _ _ _ _ => pe_call GO hr (by rfl) gO kO bO .nil pass0 (pa_cons (pv 1) (pa_cons (pe_lst (pa_cons (pe_lst (pa_cons (pe_call GV hr (by rfl) gV kV bV .nil pass0 (pa_cons (pv 1) pa_nil)) pa_nil)) (pa_cons (pe_lst (pa_cons (pv 2) pa_nil)) (pa_cons (pe_lst pa_nil) (pa_cons (pe_lst (pa_cons pe_str (pa_cons (pe_lst (pa_cons (pv 2) pa_nil)) pa_nil))) pa_nil))))) pa_nil)))
/-- the ten things, drawn -/
def tB1 : TS := fun D σ H => ∃ (a b q : Addr) (cs : List Int) (j : Int) (y3 y4 y5 y6 y7 y8 y9 y10 y11 : Option V), σ = sg a b j y3 y4 y5 y6 y7 y8 y9 y10 y11 ∧ Bag H b q cs ∧ 0 ≤ j ∧ j < 3 ∧
  ∀ (t : Addr) (Hs H' : Hp) (l : Nat → Addr) (xs : Nat → List V) (ds : Nat → List PyData), Things Hs H' 10 l xs ds → H' t = some (.lst ((List.range 10).map fun m => V.ref (l m))) → Bag H' b q cs → But b H H' → Hs t ≠ none → (∀ a, Hs a = none → H a = none) →
    D.nx (sg a b j (some (.ref t)) y4 y5 y6 y7 y8 y9 y10 y11) H'
theorem nice_int {j : Int} (h0 : 0 ≤ j) (h1 : j < 3) : Nice 0 10 (.int j) := by
  have e : j = 0 ∨ j = 1 ∨ j = 2 := by omega
  have z : ([0, 1, 2] : List Int).all (fun j => (PyData.int j).showable && (PyData.int j).leavesShort 48 && decide ((PyData.int j).depth ≤ 0) && decide ((PyData.int j).weight ≤ 10)) = true := by decide +kernel
  have y := List.all_eq_true.mp z j (by rcases e with e | e | e <;> simp [e])
  simp only [Bool.and_eq_true, decide_eq_true_eq] at y
  exact ⟨y.1.1.1, y.1.1.2, y.1.2, y.2⟩
theorem nice_a : Nice 0 10 (.str "a") := by
  have z : ((PyData.str "a").showable && (PyData.str "a").leavesShort 48 && decide ((PyData.str "a").depth ≤ 0) && decide ((PyData.str "a").weight ≤ 10)) = true := by decide +kernel
  simp only [Bool.and_eq_true, decide_eq_true_eq] at z
  exact ⟨z.1.1.1, z.1.1.2, z.1.2, z.2⟩
theorem b1_imp (D : Ends) (σ : L2.St) (H : Hp) (h : tB1 D σ H) : tAsg (tLc (iRng1 (tCons (tC (.int 10)) tNil)) (gName 11) tYes (tCall spOne [] E0 (tCons (tVar 1) (tCons (tLst (tCons (tLst (tCons (tCall spOdd [] E0 (tCons (tVar 1) tNil)) tNil)) (tCons (tLst (tCons (tVar 2) tNil)) (tCons (tLst tNil) (tCons (tLst (tCons (tC (.str "a")) (tCons (tLst (tCons (tVar 2) tNil)) tNil))) tNil))))) tNil))) [11]) (gName 3) D σ H := by
  obtain ⟨a, b, q, cs, j, y3, y4, y5, y6, y7, y8, y9, y10, y11, rfl, hB, j0, j1, fin⟩ := h
  have hbx : ∃ o, H b = some o := by
    obtain ⟨c0, c1, c2, h1, _⟩ := hB
    exact ⟨_, h1⟩
  obtain ⟨ob, hbo⟩ := hbx
  refine ⟨10, rfl, by decide, by decide, fun t ht => ?_⟩
  have tb : t ≠ b := fun z => by
    rw [z, hbo] at ht
    cases ht
  obtain ⟨Hs, hHs⟩ : ∃ Hs, upd H t (.lst []) = Hs := ⟨_, rfl⟩
  have hsub : ∀ a o, H a = some o → Hs a = some o := fun a o e => by
    rw [← hHs, upd_ne (ne_of_none e ht)]
    exact e
  have hst : Hs t = some (.lst []) := by
    rw [← hHs, upd_same]
  have hsb := hsub _ _ hbo
  have hsn : ∀ x, Hs x = none → H x = none := fun x z => by
    cases e : H x with
    | none => rfl
    | some o =>
      rw [hsub x o e] at z
      cases z
  have hnt : Hs t ≠ none := by
    rw [hst]
    exact fun z => nomatch z
  have hBs : Bag Hs b q cs := hB.ex hsub
  have hqt : q ≠ t := fun z => by
    obtain ⟨c0, c1, c2, h1, h2, _⟩ := hB
    rw [z, ht] at h2
    cases h2
  refine lc_range (n := 10) (fun i H' => ∃ l xs ds, Things Hs H' i l xs ds ∧ H' t = some (.lst ((List.range i).map fun m => V.ref (l m))) ∧ Bag H' b q cs ∧ ∀ a o, a ≠ b → a ≠ t → Hs a = some o → H' a = some o) ?_ ?_ ?_
  · rw [hHs]
    exact ⟨fun _ => 0, fun _ => [], fun _ => [], Things.zero, hst, hBs, fun a o _ _ e => e⟩
  · rintro i Hi hi ⟨l, xs, ds, T, hti, hBi, keepi⟩
    have ib : ∃ o, Hi b = some o := by
      obtain ⟨c0, c1, c2, h1, _⟩ := hBi
      exact ⟨_, h1⟩
    obtain ⟨oi, hib⟩ := ib
    have subi : ∀ x, Hi x = none → Hs x = none := fun x z => by
      cases e : Hs x with
      | none => rfl
      | some o =>
        by_cases e1 : x = b
        · rw [e1, hib] at z
          cases z
        · by_cases e2 : x = t
          · rw [e2, hti] at z
            cases z
          · rw [keepi x o e1 e2 e] at z
            cases z
    refine ⟨rfl, ?_⟩
    refine yes_ ?_
    refine ⟨.ref b, rfl, .ref b, rfl, b, q, cs, rfl, hBi, fun v d H2 rd nd hB2 hbut2 => ⟨by show 1 ≤ sizeLine; decide, fun p1 n1 => ⟨.int j, rfl, by show 1 ≤ sizeLine; decide, fun p2 n2 => ⟨Nat.zero_le _, fun p3 n3 => ⟨.int j, rfl, by show 1 ≤ sizeLine; decide, fun p4 n4 => ⟨by show 2 ≤ sizeLine; decide, fun p5 n5 => ⟨by show 4 ≤ sizeLine; decide, fun p6 n6 => ?_⟩⟩⟩⟩⟩⟩⟩
    -- what stands where, behind the display
    have x1 : Ex H2 (upd H2 p1 (.lst [v])) := Ex.new n1
    have e1 : (upd H2 p1 (.lst [v])) p1 = some (.lst [v]) := upd_same
    generalize hA1 : upd H2 p1 (.lst [v]) = A1 at *
    have x2 : Ex A1 (upd A1 p2 (.lst [.int j])) := Ex.new n2
    have e2 : (upd A1 p2 (.lst [.int j])) p2 = some (.lst [.int j]) := upd_same
    generalize hA2 : upd A1 p2 (.lst [.int j]) = A2 at *
    have x3 : Ex A2 (upd A2 p3 (.lst [])) := Ex.new n3
    have e3 : (upd A2 p3 (.lst [])) p3 = some (.lst []) := upd_same
    generalize hA3 : upd A2 p3 (.lst []) = A3 at *
    have x4 : Ex A3 (upd A3 p4 (.lst [.int j])) := Ex.new n4
    have e4 : (upd A3 p4 (.lst [.int j])) p4 = some (.lst [.int j]) := upd_same
    generalize hA4 : upd A3 p4 (.lst [.int j]) = A4 at *
    have x5 : Ex A4 (upd A4 p5 (.lst [.str "a", .ref p4])) := Ex.new n5
    have e5 : (upd A4 p5 (.lst [.str "a", .ref p4])) p5 = some (.lst [.str "a", .ref p4]) := upd_same
    generalize hA5 : upd A4 p5 (.lst [.str "a", .ref p4]) = A5 at *
    have x6 : Ex A5 (upd A5 p6 (.lst [.ref p1, .ref p2, .ref p3, .ref p5])) := Ex.new n6
    have e6 : (upd A5 p6 (.lst [.ref p1, .ref p2, .ref p3, .ref p5])) p6 = some (.lst [.ref p1, .ref p2, .ref p3, .ref p5]) := upd_same
    generalize hA6 : upd A5 p6 (.lst [.ref p1, .ref p2, .ref p3, .ref p5]) = A6 at *
    have X6 : Ex H2 A6 := ((((x1.trans x2).trans x3).trans x4).trans x5).trans x6
    have b2 : ∃ o, H2 b = some o := by
      obtain ⟨c0, c1, c2, h1, _⟩ := hB2
      exact ⟨_, h1⟩
    obtain ⟨o2, h2b⟩ := b2
    have free2 : ∀ {x : Addr}, H2 x = none → Hi x = none := fun {x} z => by
      cases e : Hi x with
      | none => rfl
      | some o =>
        by_cases eb : x = b
        · rw [eb, h2b] at z
          cases z
        · rw [hbut2 x o eb e] at z
          cases z
    have f1 : H2 p1 = none := n1
    have f2 : H2 p2 = none := fresh_back x1 n2
    have f3 : H2 p3 = none := fresh_back (x1.trans x2) n3
    have f4 : H2 p4 = none := fresh_back ((x1.trans x2).trans x3) n4
    have f5 : H2 p5 = none := fresh_back (((x1.trans x2).trans x3).trans x4) n5
    have n6b : p6 ≠ b := fun z => by
      have y := ((((x1.trans x2).trans x3).trans x4).trans x5) _ _ h2b
      rw [← z, n6] at y
      cases y
    have n45 : p4 ≠ p5 := fun z => by
      rw [z, n5] at e4
      cases e4
    refine ⟨b, q, p6, cs, _, rfl, hB2.ex X6, e6, n6b, by simp, by show 4 ≤ 1000; decide, fun m u H' hu hB' hbut' hfr' => ?_⟩
    -- what is kept, up to the end of the turn
    have tb2 : t ≠ b := tb
    have h2t : H2 t = some (.lst ((List.range i).map fun m => V.ref (l m))) := hbut2 t _ tb hti
    have ht' : H' t = some (.lst ((List.range i).map fun m => V.ref (l m))) := hbut' t _ tb (X6 _ _ h2t)
    refine ⟨_, ht', by rw [List.length_map, List.length_range]; exact small1000 (by omega), ?_⟩
    generalize hG : upd H' t (.lst ((List.range i).map (fun m => V.ref (l m)) ++ [u])) = G
    have toG : ∀ x o, x ≠ b → x ≠ t → A6 x = some o → G x = some o := fun x o z1 z2 e => by
      rw [← hG, upd_ne z2]
      exact hbut' x o z1 e
    have keepG : ∀ x o, x ≠ b → x ≠ t → Hi x = some o → G x = some o := fun x o z1 z2 e => toG x o z1 z2 (X6 _ _ (hbut2 x o z1 e))
    have newG : ∀ x o, Hi x = none → A6 x = some o → G x = some o := fun x o z e => toG x o (fun y => by rw [y, hib] at z; cases z) (fun y => by rw [y, hti] at z; cases z) e
    have keepS : ∀ x o, Hs x = none → Hi x = some o → G x = some o := fun x o z e => keepG x o (fun y => by rw [y, hsb] at z; cases z) (fun y => by rw [y, hst] at z; cases z) e
    have hGt : G t = some (.lst ((List.range i).map (fun m => V.ref (l m)) ++ [u])) := by
      rw [← hG]
      exact upd_same
    have hBG : Bag G b q cs := by
      obtain ⟨c0, c1, c2, h1, h2, r⟩ := hB'
      refine ⟨c0, c1, c2, ?_, ?_, r⟩
      · rw [← hG, upd_ne (Ne.symm tb)]
        exact h1
      · rw [← hG, upd_ne hqt]
        exact h2
    have keepE : ∀ a o, a ≠ b → a ≠ t → Hs a = some o → G a = some o := fun x o z1 z2 e => keepG x o z1 z2 (keepi x o z1 z2 e)
    have done : ∀ (p : Addr) (zs : List V) (es : List PyData), u = .ref p → H2 p = none → A6 p = some (.lst zs) → RpAll (delH (fence Hi G) p) zs es → ((∀ d ∈ es, Nice 13 2100 d) ∧ es.length ≤ 2) →
        ∃ l xs ds, Things Hs G (i + 1) l xs ds ∧ G t = some (.lst ((List.range (i + 1)).map fun m => V.ref (l m))) ∧ Bag G b q cs ∧ ∀ a o, a ≠ b → a ≠ t → Hs a = some o → G a = some o := by
      intro p zs es eu fp ap rz nz
      refine ⟨put i l p, put i xs zs, put i ds es, T.step subi keepS (free2 fp) (newG p _ (free2 fp) ap) rz nz, ?_, hBG, keepE⟩
      rw [put_range V.ref, ← eu]
      exact hGt
    match m, hu with
    | 0, hu =>
      have eu : V.ref p1 = u := Option.some.inj hu
      refine done p1 [v] [d] eu.symm f1 ((((((x2.trans x3).trans x4).trans x5).trans x6)) _ _ e1) (.cons (Rp.stay rd fun x o e => ?_) .nil) ⟨fun d' hd => ?_, by show 1 ≤ 2; decide⟩
      · obtain ⟨z1, z2⟩ := fence_of e
        rw [delH_ne (ne_of_none z2 f1)]
        exact fence_at z1 (newG x o z1 (X6 _ _ z2))
      · rw [List.mem_singleton.mp hd]
        exact nd.more (by decide) (by decide)
    | 1, hu =>
      have eu : V.ref p2 = u := Option.some.inj hu
      exact done p2 [.int j] [.int j] eu.symm f2 ((((x3.trans x4).trans x5).trans x6) _ _ e2) (.cons (.int j) .nil) ⟨fun d' hd => by
        rw [List.mem_singleton.mp hd]
        exact (nice_int j0 j1).more (by decide) (by decide), by show 1 ≤ 2; decide⟩
    | 2, hu =>
      have eu : V.ref p3 = u := Option.some.inj hu
      exact done p3 [] [] eu.symm f3 (((x4.trans x5).trans x6) _ _ e3) .nil ⟨fun d' hd => (nomatch hd), by decide⟩
    | 3, hu =>
      have eu : V.ref p5 = u := Option.some.inj hu
      refine done p5 [.str "a", .ref p4] [.str "a", .list [.int j]] eu.symm f5 (x6 _ _ e5) (.cons (.str _) (.cons (.lst ?_ (.cons (.int j) .nil)) .nil)) ⟨fun d' hd => ?_, by show 2 ≤ 2; decide⟩
      · rw [delH_ne n45]
        exact fence_at (free2 f4) (newG p4 _ (free2 f4) ((x5.trans x6) _ _ e4))
      · rcases List.mem_cons.mp hd with hd | hd
        · rw [hd]
          exact nice_a.more (by decide) (by decide)
        · rw [List.mem_singleton.mp hd]
          exact (nice_list (m := 1) (fun x hx => by rw [List.mem_singleton.mp hx]; exact nice_int j0 j1) (by show 1 ≤ 1; decide)).more (by decide) (by decide)
    | m + 4, hu => simp at hu
  · rintro H' ⟨l, xs, ds, T, ht', hB', keep⟩
    refine fin t Hs H' l xs ds T ht' hB' (fun x o z e => ?_) hnt hsn
    exact keep x o z (ne_of_none e ht) (hsub x o e)
end
end Kten
set_option maxRecDepth 100000
set_option maxHeartbeats 1000000
namespace Kten
open PySem PySem.Spec PyProof.Rows L2 Evl
/-- an error's class, and its field with what it keeps -/
abbrev EK := Addr × Option (Str × V)
def IsE (H : Hp) (x : V) (k : EK) : Prop := ∃ a, x = .ref a ∧ match k.2 with
  | none => H a = some (ExO (.ref k.1) a)
  | some (f, v) => ∃ dx, ErrF H a k.1 dx f v
theorem IsE.ex {H H' : Hp} {x : V} {k : EK} (h : IsE H x k) (e : Ex H H') : IsE H' x k := by
  obtain ⟨C, fv⟩ := k
  obtain ⟨a, ea, h⟩ := h
  refine ⟨a, ea, ?_⟩
  cases fv with
  | none => exact e _ _ h
  | some p =>
    obtain ⟨dx, h⟩ := h
    exact ⟨dx, h.stay e⟩
theorem IsE.of {H : Hp} {x : V} {k : EK} (h : IsE H x k) : ∃ a, x = .ref a ∧ ErrOf H a k.1 := by
  obtain ⟨C, fv⟩ := k
  obtain ⟨a, ea, h⟩ := h
  refine ⟨a, ea, ?_⟩
  cases fv with
  | none => exact .inl h
  | some p =>
    obtain ⟨dx, h⟩ := h
    exact h.of
abbrev AreE (H : Hp) : List V → List EK → Prop := Paired (IsE H)
theorem AreE.ex {H H' : Hp} {xs : List V} {ks : List EK} (h : AreE H xs ks) (e : Ex H H') : AreE H' xs ks := Paired.mapP h fun _ _ z => z.ex e
theorem AreE.app {H : Hp} : ∀ {xs ys : List V} {ks ls : List EK}, AreE H xs ks → AreE H ys ls → AreE H (xs ++ ys) (ks ++ ls)
  | _, _, _, _, .nil, b => b
  | _, _, _, _, .cons h t, b => .cons h (AreE.app t b)
def EvE (te : TE) (σ : L2.St) (H : Hp) (k : EK) : Prop := ∀ H1, Ex H H1 → ∀ Q : VK, (∀ x H2, Ex H1 H2 → IsE H2 x k → Q x H2) → te σ H1 Q
def EvEs (ta : TA) (σ : L2.St) (H : Hp) (ks : List EK) : Prop := ∀ H1, Ex H H1 → ∀ Q : List V → Hp → Prop, (∀ xs H2, Ex H1 H2 → AreE H2 xs ks → Q xs H2) → ta σ H1 Q
section
variable {K : PySem.W.Frag} {σ : L2.St} {H : Hp} {te : TE} {ta : TA} {k : EK} {ks : List EK} {C : Addr} {f : Str} {v : V}
theorem evEs_nil : EvEs tNil σ H [] := fun H1 _ Q q => q [] H1 (Ex.refl H1) .nil
theorem evEs_cons (h : EvE te σ H k) (t : EvEs ta σ H ks) : EvEs (tCons te ta) σ H (k :: ks) := fun H1 e Q q =>
  h H1 e _ fun x H2 e2 r => t H2 (e.trans e2) _ fun xs H3 e3 rs => q (x :: xs) H3 (e2.trans e3) (.cons (r.ex e3) rs)
theorem evE_new (h : ∀ H1, Ex H H1 → ∀ Q : VK, Q v H1 → te σ H1 Q) : EvE (tErrNew C (spInit K C f) (tCons te tNil)) σ H (C, some (f, v)) := fun H1 e Q q => by
  refine h H1 e _ ⟨by show 1 ≤ 1000; decide, fun a na => ⟨a, v, rfl, upd_same, fun dx nd ne => ⟨rfl, ?_⟩⟩⟩
  have nd1 : H1 dx = none := by
    rw [upd_ne ne] at nd
    exact nd
  refine q (.ref a) _ (fun c o z => ?_) ⟨a, rfl, dx, upd_same, by rw [upd_ne ne, upd_same]⟩
  rw [upd_ne (ne_of_none z na), upd_ne (ne_of_none z nd1), upd_ne (ne_of_none z na)]
  exact z
theorem evE_plain {vs : List V} (h : ∀ H1, Ex H H1 → ∀ Q : List V → Hp → Prop, Q vs H1 → ta σ H1 Q) (hl : vs.length ≤ 1000) : EvE (tErrPlain C ta) σ H (C, none) := fun H1 e Q q =>
  h H1 e _ ⟨Nat.le_of_lt (small1000 hl), fun a na => q (.ref a) _ (Ex.new na) ⟨a, rfl, upd_same⟩⟩
theorem ix_const {i : Nat} {t : Addr} {T : List V} {n : Nat} (hσ : σ[n]? = some (some (.ref t))) (ht : H t = some (.lst T)) (hv : T[i]? = some v) : ∀ H1, Ex H H1 → ∀ Q : VK, Q v H1 → tOp (rIxL K) (tVar n) (tC (.int (i : Nat))) σ H1 Q := fun H1 e Q q =>
  ⟨.ref t, hσ, t, T, i, v, rfl, rfl, .inl (.inl (e _ _ ht)), atI_nat hv, q⟩
end
/-- what the __init__s of the ten classes promise, and where they stand -/
structure Inits (P : Program) (w : World) (K : PySem.W.Frag) (mg : Str → Option Value) (base : Heap) (C : Addr) (f : Str) : Prop where
  ex : ∃ (fI : Addr) (fd : FuncData), OexC K C ∧ PySem.W.findIn K (.ref C) "__init__" = some (some (.ref fI)) ∧ PySem.W.typeIn K (.ref fI) = some (.type "function") ∧
    FnOk P w K mg base CX0 1 fI fd ["self", f] (spInit K C f) ∧ Binds K fd ["self", f] []
theorem pe_init {X : Cx} {C : Addr} {f x : Str} {e : Expr} {ta : TE} {p pos : Pos} (Z : Inits X.prog X.w X.K X.mg X.base C f) (hr : Room 2 X.A) (hgl : Gl X x) (hmg : X.mg x = some (.ref C)) (he : PE X e ta)
    (hdb : (x == ("__debug__" : Str)) = false := by decide) (hse : starEach [e] X.env = (false, eval e X.env) :: starEach [] X.env := by rfl)
    (hse2 : starEach [e] X.env = (false, eval e X.env) :: starEach [] X.env := by rfl) (hpl : (backTo pos (starEach [] X.env)).any (·.1) = false := by rfl) :
    PE X (.Call (.Name x p) [e] [] pos) (tErrNew C (spInit X.K C f) (tCons ta tNil)) := by
  obtain ⟨fI, fd, T, iC, tI, F, B⟩ := Z.ex
  exact pe_errNew T iC tI F hr B hgl hmg (pa_cons he pa_nil hse2) hdb hse hpl
section
variable {P : Program} {w : World} {K : PySem.W.Frag} {mg : Str → Option Value} {base : Heap} {f : Addr} {cdv : Value} {A : Around} {outer : List Env} {s : Shared} {H0 : Hp} {E0' : XK} {cl : Nat → Addr}
def tIxT (K : PySem.W.Frag) (i : Nat) : TE := tOp (rIxL K) (tVar 3) (tC (.int (i : Nat)))
theorem b2_raw (hr : Room 2 (LX P w K mg base f cdv A outer s H0 E0').A) (T : Cls K mg cl) (z0 : Inits P w K mg base (cl 0) "place") (z1 : Inits P w K mg base (cl 1) "index") (z2 : Inits P w K mg base (cl 2) "number") (z3 : Inits P w K mg base (cl 3) "lot") (z4 : Inits P w K mg base (cl 4) "number") :
    PS (LX P w K mg base f cdv A outer s H0 E0') (lawB 1) (tAsg (tLst (tCons (tErrNew (cl 0) (spInit K (cl 0) "place") (tCons (tIxT K 0) tNil)) (tCons (tErrNew (cl 1) (spInit K (cl 1) "index") (tCons (tIxT K 1) tNil)) (tCons (tErrNew (cl 2) (spInit K (cl 2) "number") (tCons (tIxT K 2) tNil)) (tCons (tErrNew (cl 3) (spInit K (cl 3) "lot") (tCons (tIxT K 3) tNil)) (tCons (tErrNew (cl 4) (spInit K (cl 4) "number") (tCons (tIxT K 4) tNil)) tNil)))))) (gName 4)) :=
  ps_set (i := 4) scLaw.nd rfl (.inl sl__law_found) (pe_lst
    (pa_cons (pe_init z0 hr sl_Wrong T.g0 (pe_ix ix_list (pv 3) pe_int (fun _ _ => rfl)))
    (pa_cons (pe_init z1 hr sl_NoRow T.g1 (pe_ix ix_list (pv 3) pe_int (fun _ _ => rfl)))
    (pa_cons (pe_init z2 hr sl_NoThing T.g2 (pe_ix ix_list (pv 3) pe_int (fun _ _ => rfl)))
    (pa_cons (pe_init z3 hr sl_NoLot T.g3 (pe_ix ix_list (pv 3) pe_int (fun _ _ => rfl)))
    (pa_cons (pe_init z4 hr sl_NoNumber T.g4 (pe_ix ix_list (pv 3) pe_int (fun _ _ => rfl))) pa_nil))))))
theorem b3_raw (hr : Room 2 (LX P w K mg base f cdv A outer s H0 E0').A) (T : Cls K mg cl) (z5 : Inits P w K mg base (cl 5) "mark") (z6 : Inits P w K mg base (cl 6) "number") (z7 : Inits P w K mg base (cl 7) "limit") (z8 : Inits P w K mg base (cl 8) "answer") :
    PS (LX P w K mg base f cdv A outer s H0 E0') (lawB 2) (tAsg (tOp rCat (tVar 4) (tLst (tCons (tErrNew (cl 5) (spInit K (cl 5) "mark") (tCons (tIxT K 5) tNil)) (tCons (tErrNew (cl 6) (spInit K (cl 6) "number") (tCons (tIxT K 6) tNil)) (tCons (tErrNew (cl 7) (spInit K (cl 7) "limit") (tCons (tIxT K 7) tNil)) (tCons (tErrNew (cl 8) (spInit K (cl 8) "answer") (tCons (tIxT K 8) tNil)) tNil)))))) (gName 4)) :=
  ps_set (i := 4) scLaw.nd rfl (.inl sl__law_found) (pe_op op_cat (pv 4) (pe_lst
    (pa_cons (pe_init z5 hr sl_NoMark T.g5 (pe_ix ix_list (pv 3) pe_int (fun _ _ => rfl)))
    (pa_cons (pe_init z6 hr sl_Clash T.g6 (pe_ix ix_list (pv 3) pe_int (fun _ _ => rfl)))
    (pa_cons (pe_init z7 hr sl_TooMany T.g7 (pe_ix ix_list (pv 3) pe_int (fun _ _ => rfl)))
    (pa_cons (pe_init z8 hr sl_Refused T.g8 (pe_ix ix_list (pv 3) pe_int (fun _ _ => rfl))) pa_nil))))))
/-- the classes that take what their base takes -/
structure Plain (K : PySem.W.Frag) (C : Addr) : Prop where
  xc : PySem.W.excIn K C [.type "ValueError", .type "Exception", .type "BaseException", .type "object"] "ValueError.__new__" = true
  kp : PySem.W.keepIn K (.ref C) = true
theorem b4_raw (hr : Room 2 (LX P w K mg base f cdv A outer s H0 E0').A) (T : Cls K mg cl) (z9 : Inits P w K mg base (cl 9) "many") (p10 : Plain K (cl 10)) (p11 : Plain K (cl 11)) (p12 : Plain K (cl 12)) (p13 : Plain K (cl 13)) (p14 : Plain K (cl 14)) (p15 : Plain K (cl 15)) :
    PS (LX P w K mg base f cdv A outer s H0 E0') (lawB 3) (tAsg (tOp rCat (tVar 4) (tLst (tCons (tErrNew (cl 9) (spInit K (cl 9) "many") (tCons (tIxT K 9) tNil)) (tCons (tErrPlain (cl 10) tNil) (tCons (tErrPlain (cl 11) tNil) (tCons (tErrPlain (cl 12) tNil) (tCons (tErrPlain (cl 13) tNil) (tCons (tErrPlain (cl 14) tNil) (tCons (tErrPlain (cl 15) tNil) tNil))))))))) (gName 4)) :=
  ps_set (i := 4) scLaw.nd rfl (.inl sl__law_found) (pe_op op_cat (pv 4) (pe_lst
    (pa_cons (pe_init z9 hr sl_NoEntry T.g9 (pe_ix ix_list (pv 3) pe_int (fun _ _ => rfl)))
    (pa_cons (pe_errPlain0 PySem.F.excBase_ValueError p10.xc T.g10 p10.kp sl_NotPossible)
    (pa_cons (pe_errPlain0 PySem.F.excBase_ValueError p11.xc T.g11 p11.kp sl_Unlike)
    (pa_cons (pe_errPlain0 PySem.F.excBase_ValueError p12.xc T.g12 p12.kp sl_BadAnswer)
    (pa_cons (pe_errPlain0 PySem.F.excBase_ValueError p13.xc T.g13 p13.kp sl_Nothing)
    (pa_cons (pe_errPlain0 PySem.F.excBase_ValueError p14.xc T.g14 p14.kp sl_NoText)
    (pa_cons (pe_errPlain0 PySem.F.excBase_ValueError p15.xc T.g15 p15.kp sl_NoCommand) pa_nil)))))))))
end
end Kten
set_option maxRecDepth 100000
set_option maxHeartbeats 1000000
namespace Kten
open PySem PySem.Spec PyProof.Rows L2 Evl
def Tl (l : Nat → Addr) : List V := (List.range 10).map fun m => V.ref (l m)
def ksA (cl l : Nat → Addr) : List EK := [(cl 0, some ("place", .ref (l 0))), (cl 1, some ("index", .ref (l 1))), (cl 2, some ("number", .ref (l 2))), (cl 3, some ("lot", .ref (l 3))), (cl 4, some ("number", .ref (l 4)))]
def ksB (cl l : Nat → Addr) : List EK := [(cl 5, some ("mark", .ref (l 5))), (cl 6, some ("number", .ref (l 6))), (cl 7, some ("limit", .ref (l 7))), (cl 8, some ("answer", .ref (l 8)))]
def ksC (cl l : Nat → Addr) : List EK := [(cl 9, some ("many", .ref (l 9))), (cl 10, none), (cl 11, none), (cl 12, none), (cl 13, none), (cl 14, none), (cl 15, none)]
def tB2 (cl : Nat → Addr) : TS := fun D σ H => ∃ (a b : Addr) (j : Int) (t : Addr) (l : Nat → Addr) (y4 y5 y6 y7 y8 y9 y10 y11 : Option V), σ = sg a b j (some (.ref t)) y4 y5 y6 y7 y8 y9 y10 y11 ∧ H t = some (.lst (Tl l)) ∧
  ∀ (f : Addr) (es : List V) (H' : Hp), Ex H H' → H f = none → H' f = some (.lst es) → AreE H' es (ksA cl l) → D.nx (sg a b j (some (.ref t)) (some (.ref f)) y5 y6 y7 y8 y9 y10 y11) H'
def tB3 (cl : Nat → Addr) (ks : (Nat → Addr) → List EK) (ls : (Nat → Addr) → List EK) : TS := fun D σ H => ∃ (a b : Addr) (j : Int) (t f : Addr) (es : List V) (l : Nat → Addr) (y5 y6 y7 y8 y9 y10 y11 : Option V), σ = sg a b j (some (.ref t)) (some (.ref f)) y5 y6 y7 y8 y9 y10 y11 ∧ H t = some (.lst (Tl l)) ∧
  H f = some (.lst es) ∧ AreE H es (ks l) ∧
  ∀ (f' : Addr) (es' : List V) (H' : Hp), Ex H H' → H f' = none → H' f' = some (.lst es') → AreE H' es' (ks l ++ ls l) → D.nx (sg a b j (some (.ref t)) (some (.ref f')) y5 y6 y7 y8 y9 y10 y11) H'
section
variable {K : PySem.W.Frag} {cl : Nat → Addr}
theorem b2_imp (D : Ends) (σ : L2.St) (H : Hp) (h : tB2 cl D σ H) : tAsg (tLst (tCons (tErrNew (cl 0) (spInit K (cl 0) "place") (tCons (tIxT K 0) tNil)) (tCons (tErrNew (cl 1) (spInit K (cl 1) "index") (tCons (tIxT K 1) tNil)) (tCons (tErrNew (cl 2) (spInit K (cl 2) "number") (tCons (tIxT K 2) tNil)) (tCons (tErrNew (cl 3) (spInit K (cl 3) "lot") (tCons (tIxT K 3) tNil)) (tCons (tErrNew (cl 4) (spInit K (cl 4) "number") (tCons (tIxT K 4) tNil)) tNil)))))) (gName 4) D σ H := by
  obtain ⟨a, b, j, t, l, y4, y5, y6, y7, y8, y9, y10, y11, rfl, ht, fin⟩ := h
  have ix : ∀ (i : Nat) (v : V), (Tl l)[i]? = some v → ∀ H1, Ex H H1 → ∀ Q : VK, Q v H1 → tIxT K i (sg a b j (some (.ref t)) y4 y5 y6 y7 y8 y9 y10 y11) H1 Q := fun i v hv => ix_const rfl ht hv
  have Es := evEs_cons (evE_new (K := K) (C := cl 0) (f := "place") (ix 0 (.ref (l 0)) rfl)) (evEs_cons (evE_new (K := K) (C := cl 1) (f := "index") (ix 1 (.ref (l 1)) rfl)) (evEs_cons (evE_new (K := K) (C := cl 2) (f := "number") (ix 2 (.ref (l 2)) rfl))
    (evEs_cons (evE_new (K := K) (C := cl 3) (f := "lot") (ix 3 (.ref (l 3)) rfl)) (evEs_cons (evE_new (K := K) (C := cl 4) (f := "number") (ix 4 (.ref (l 4)) rfl)) evEs_nil))))
  refine asg_of (Es H (Ex.refl H) _ fun xs H2 e2 r => ⟨?_, fun p np => ?_⟩)
  · rw [Paired.length r]
    show 5 ≤ sizeLine
    decide
  · exact fin p xs _ (e2.trans (Ex.new np)) (fresh_back e2 np) upd_same (AreE.ex r (Ex.new np))
theorem b34_fin {D : Ends} {H : Hp} {a b : Addr} {j : Int} {t f : Addr} {es : List V} {ks ls : List EK} {y5 y6 y7 y8 y9 y10 y11 : Option V} {ta : TA} (hf : H f = some (.lst es)) (re : AreE H es ks) (hk : ks.length ≤ 100) (hl : ls.length ≤ 100)
    (Es : EvEs ta (sg a b j (some (.ref t)) (some (.ref f)) y5 y6 y7 y8 y9 y10 y11) H ls)
    (fin : ∀ (f' : Addr) (es' : List V) (H' : Hp), Ex H H' → H f' = none → H' f' = some (.lst es') → AreE H' es' (ks ++ ls) → D.nx (sg a b j (some (.ref t)) (some (.ref f')) y5 y6 y7 y8 y9 y10 y11) H') :
    tAsg (tOp rCat (tVar 4) (tLst ta)) (gName 4) D (sg a b j (some (.ref t)) (some (.ref f)) y5 y6 y7 y8 y9 y10 y11) H := by
  refine asg_of ⟨.ref f, rfl, Es H (Ex.refl H) _ fun xs H2 e2 r => ⟨?_, fun p np => ?_⟩⟩
  · rw [Paired.length r]
    exact Nat.le_of_lt (small1000 (by omega))
  · have e3 : Ex H2 (upd H2 p (.lst xs)) := Ex.new np
    refine ⟨f, p, es, xs, rfl, rfl, e3 _ _ (e2 _ _ hf), upd_same, ?_, fun p2 np2 => ?_⟩
    · rw [Paired.length r, Paired.length re]
      exact Nat.le_of_lt (small1000 (by omega))
    · have e4 := Ex.new (o := .lst (es ++ xs)) np2
      exact fin p2 (es ++ xs) _ ((e2.trans e3).trans e4) (fresh_back (e2.trans e3) np2) upd_same (AreE.app (AreE.ex re ((e2.trans e3).trans e4)) (AreE.ex r (e3.trans e4)))
theorem b3_imp (D : Ends) (σ : L2.St) (H : Hp) (h : tB3 cl (ksA cl) (ksB cl) D σ H) : tAsg (tOp rCat (tVar 4) (tLst (tCons (tErrNew (cl 5) (spInit K (cl 5) "mark") (tCons (tIxT K 5) tNil)) (tCons (tErrNew (cl 6) (spInit K (cl 6) "number") (tCons (tIxT K 6) tNil)) (tCons (tErrNew (cl 7) (spInit K (cl 7) "limit") (tCons (tIxT K 7) tNil)) (tCons (tErrNew (cl 8) (spInit K (cl 8) "answer") (tCons (tIxT K 8) tNil)) tNil)))))) (gName 4) D σ H := by
  obtain ⟨a, b, j, t, f, es, l, y5, y6, y7, y8, y9, y10, y11, rfl, ht, hf, re, fin⟩ := h
  have ix : ∀ (i : Nat) (v : V), (Tl l)[i]? = some v → ∀ H1, Ex H H1 → ∀ Q : VK, Q v H1 → tIxT K i (sg a b j (some (.ref t)) (some (.ref f)) y5 y6 y7 y8 y9 y10 y11) H1 Q := fun i v hv => ix_const rfl ht hv
  have Es := evEs_cons (evE_new (K := K) (C := cl 5) (f := "mark") (ix 5 (.ref (l 5)) rfl)) (evEs_cons (evE_new (K := K) (C := cl 6) (f := "number") (ix 6 (.ref (l 6)) rfl)) (evEs_cons (evE_new (K := K) (C := cl 7) (f := "limit") (ix 7 (.ref (l 7)) rfl))
    (evEs_cons (evE_new (K := K) (C := cl 8) (f := "answer") (ix 8 (.ref (l 8)) rfl)) evEs_nil)))
  exact b34_fin hf re (by show 5 ≤ 100; decide) (by show 4 ≤ 100; decide) Es fin
theorem plain0 {C : Addr} {σ : L2.St} {H : Hp} : EvE (tErrPlain C tNil) σ H (C, none) := evE_plain (vs := []) (fun H1 _ Q q => q) (by decide)
theorem b4_imp (D : Ends) (σ : L2.St) (H : Hp) (h : tB3 cl (fun l => ksA cl l ++ ksB cl l) (ksC cl) D σ H) : tAsg (tOp rCat (tVar 4) (tLst (tCons (tErrNew (cl 9) (spInit K (cl 9) "many") (tCons (tIxT K 9) tNil)) (tCons (tErrPlain (cl 10) tNil) (tCons (tErrPlain (cl 11) tNil) (tCons (tErrPlain (cl 12) tNil) (tCons (tErrPlain (cl 13) tNil) (tCons (tErrPlain (cl 14) tNil) (tCons (tErrPlain (cl 15) tNil) tNil))))))))) (gName 4) D σ H := by
  obtain ⟨a, b, j, t, f, es, l, y5, y6, y7, y8, y9, y10, y11, rfl, ht, hf, re, fin⟩ := h
  have ix : ∀ (i : Nat) (v : V), (Tl l)[i]? = some v → ∀ H1, Ex H H1 → ∀ Q : VK, Q v H1 → tIxT K i (sg a b j (some (.ref t)) (some (.ref f)) y5 y6 y7 y8 y9 y10 y11) H1 Q := fun i v hv => ix_const rfl ht hv
  have Es := evEs_cons (evE_new (K := K) (C := cl 9) (f := "many") (ix 9 (.ref (l 9)) rfl)) (evEs_cons (plain0 (C := cl 10)) (evEs_cons (plain0 (C := cl 11)) (evEs_cons (plain0 (C := cl 12)) (evEs_cons (plain0 (C := cl 13)) (evEs_cons (plain0 (C := cl 14)) (evEs_cons (plain0 (C := cl 15)) evEs_nil))))))
  exact b34_fin hf re (by show 9 ≤ 100; decide) (by show 7 ≤ 100; decide) Es fin
end
end Kten
set_option maxRecDepth 100000
set_option maxHeartbeats 1000000
namespace Kten
open PySem PySem.Spec PyProof.Rows L2 Evl
section
variable {P : Program} {w : World} {K : PySem.W.Frag} {mg : Str → Option Value} {base : Heap} {f : Addr} {cdv : Value} {A : Around} {outer : List Env} {s : Shared} {H0 : Hp} {E0' : XK} {cl : Nat → Addr}
def t5test (K : PySem.W.Frag) (cl : Nat → Addr) : TT := tTest (tOp (rNeD K) (tCall (spFlags cl) [] E0 (tCons (tVar 6) tNil)) (tLc (iRng1 (tCons (tC (.int 16)) tNil)) (gName 11) tYes (tOp rEq (tVar 11) (tVar 5)) [11]))
def t5or (K : PySem.W.Frag) (cl : Nat → Addr) : TT := tOr (tNot (tB (tCB (rIsErr K) (tCons (tVar 6) (tCons (tC (.ref (cl 16))) tNil))))) (tNot (tB (tCB (rIsErr K) (tCons (tVar 6) (tCons (tC (.ty "ValueError")) tNil)))))
def t5body (K : PySem.W.Frag) (cl : Nat → Addr) : TS := tSeq (tIfS (t5test K cl) (tRet (tC (.bl false))) tNext) (tIfS (t5or K cl) (tRet (tC (.bl false))) tNext)
def t5 (K : PySem.W.Frag) (cl : Nat → Addr) : TS := tFor (iEnum K (tCons (tVar 4) tNil)) (gTup K 2 (gCons (gName 5) (gCons (gName 6) gNil))) (t5body K cl)
theorem b5_raw {fF : Addr} {fdF : FuncData} {k : Nat} (hu : (LX P w K mg base f cdv A outer s H0 E0').A.units + 64 < cLine) (hr : Room k (LX P w K mg base f cdv A outer s H0 E0').A) (T : Cls K mg cl) (GF : FnOk P w K mg base CX0 k fF fdF ["_law_e"] (spFlags cl)) (kF : PySem.W.keepIn K (.ref fF) = true)
    (bF : Binds K fdF ["_law_e"] []) (gF : mg "_law_flags" = some (.ref fF)) (mr : mg "range" = none) (me : mg "enumerate" = none) (mi : mg "isinstance" = none) (mv : mg "ValueError" = none) :
    PS (LX P w K mg base f cdv A outer s H0 E0') (lawB 4) (t5 K cl) :=
  ps_for PassesOwn.never rfl (pi_enum sl_enumerate me (pa_cons (pv 4) pa_nil)) (pg_tup rfl (pgs_cons (pg_name (i := 5) scLaw.nd rfl (.inr sl__law_at)) (pgs_cons (pg_name (i := 6) scLaw.nd rfl (.inl sl__law_e)) pgs_nil)))
    (pss_cons (ps_if (pt_cmpR (op_neD hu) (pe_call GF hr sl__law_flags gF kF bF .nil pass0 (pa_cons (pv 6) pa_nil))
        (pe_lc (own := [("_law_k", 11)]) (g := gName 11) (tt := tYes) rfl scLaw.nd (pi_range1 sl_range mr (pa_cons pe_int pa_nil)) (blkOk_by (N := NL) (sc := defScope sLaw) (by decide +kernel))
          (fun _ _ _ _ _ => pg_name (i := 11) scLaw.nd rfl (Or.inl rfl)) (fun _ _ _ _ _ => pts_nil) (fun _ _ _ _ _ => pe_cmpR op_eq (pv 11) (pv 5) (nomark _))) (nomark _)) (pss_one (ps_ret pe_bl)) pss_nil)
    (pss_one (ps_if (pw_or (pt_not (pt_val (pe_callB call_isErr (by exact sl_isinstance) mi boot_isinstance (pa_cons (pv 6) (pa_cons (pe_glob (v := .ref (cl 16)) (by exact sl_TheseError) T.g16 rfl) pa_nil)))))
      (pw_or1 (pt_not (pt_val (pe_callB call_isErr (by exact sl_isinstance) mi boot_isinstance (pa_cons (pv 6) (pa_cons (pe_bltn (v := .ty "ValueError") (by exact sl_ValueError) mv PyProof.Rows.Boot.«ValueError» rfl) pa_nil))))))).pt (pss_one (ps_ret pe_bl)) pss_nil)))
end
end Kten
set_option maxRecDepth 100000
set_option maxHeartbeats 1000000
namespace Kten
open PySem PySem.Spec PyProof.Rows L2 Evl
def bitsOf (i m : Nat) : List Bool := (List.range m).map fun j => decide (i = j)
theorem dp_bits {K : PySem.W.Frag} {H : Hp} : ∀ bs : List Bool, DpAll K H (bs.map V.bl) (bs.map PyData.bool)
  | [] => .nil
  | b :: bs => .cons (.bl b) (dp_bits bs)
theorem bits_all : ∀ i < 16, (SeqAt.shaped (.list ((bitsOf i 16).map PyData.bool)) && PyData.eqv (.list ((bitsOf i 16).map PyData.bool)) (.list ((bitsOf i 16).map PyData.bool))) = true := by
  intro i hi
  have z : ((List.range 16).all fun i => SeqAt.shaped (.list ((bitsOf i 16).map PyData.bool)) && PyData.eqv (.list ((bitsOf i 16).map PyData.bool)) (.list ((bitsOf i 16).map PyData.bool))) = true := by decide +kernel
  exact List.all_eq_true.mp z i (List.mem_range.mpr hi)
theorem flags_bits (i : Nat) : flagsOf i = (bitsOf i 16).map V.bl := by
  unfold flagsOf bitsOf
  rw [List.map_map]
  rfl
def tB5 (cl : Nat → Addr) : TS := fun D σ H => ∃ (a b : Addr) (j : Int) (y3 : Option V) (f : Addr) (es : List V) (ks : List EK) (y5 y6 y7 y8 y9 y10 y11 : Option V), σ = sg a b j y3 (some (.ref f)) y5 y6 y7 y8 y9 y10 y11 ∧ H f = some (.lst es) ∧ AreE H es ks ∧ ks.length = 16 ∧
  (∀ i k, ks[i]? = some k → k.1 = cl i) ∧ ∀ (y5 y6 : Option V) (H' : Hp), Ex H H' → D.nx (sg a b j y3 (some (.ref f)) y5 y6 y7 y8 y9 y10 y11) H'
theorem are_get {H : Hp} : ∀ {xs : List V} {ks : List EK} {i : Nat} {x : V}, AreE H xs ks → xs[i]? = some x → ∃ k, ks[i]? = some k ∧ IsE H x k
  | _, _, _, _, .nil, e => by simp at e
  | _, _, 0, _, .cons h _, e => by
    simp at e
    subst e
    exact ⟨_, rfl, h⟩
  | _, _, i + 1, x, .cons _ t, e => by
    obtain ⟨k, h1, h2⟩ := are_get (i := i) t (by simpa using e)
    exact ⟨k, by simpa using h1, h2⟩
section
variable {K : PySem.W.Frag} {mg : Str → Option Value} {cl : Nat → Addr}
theorem b5_imp (T : Cls K mg cl) (D : Ends) (σ : L2.St) (H : Hp) (h : tB5 cl D σ H) : t5 K cl D σ H := by
  obtain ⟨a, b, j, y3, f, es, ks, y5, y6, y7, y8, y9, y10, y11, rfl, hf, re, hk, hc, fin⟩ := h
  have he : es.length = 16 := by rw [Paired.length re, hk]
  refine ⟨.ref f, rfl, f, es, rfl, .inl (.inl hf), for_it (walk_enum (K := K) (a := f) (xs := es)) (fun i σ' H' => ∃ y5 y6, σ' = sg a b j y3 (some (.ref f)) y5 y6 y7 y8 y9 y10 y11 ∧ Ex H H') ⟨y5, y6, rfl, Ex.refl H⟩ (fun i σ' H' _ h => ?_) ?_ ?_⟩
  · obtain ⟨_, _, _, e⟩ := h
    exact .inl (.inl (e _ _ hf))
  · rintro i x σ' H1 H2 hi ⟨z5, z6, rfl, e1⟩ ⟨tp, x1, x2, rfl, ntp, rfl, g1, g2⟩
    have hi16 : i < 16 := by omega
    obtain rfl : V.int (i : Nat) = x1 := Option.some.inj g1
    obtain ⟨k, k1, k2⟩ := are_get re g2
    obtain ⟨ai, rfl, ek⟩ := k2.of
    rw [hc i k k1] at ek
    have e2 : Ex H (upd H1 tp (.tup [.int (i : Nat), .ref ai])) := e1.trans (Ex.new ntp)
    generalize hH2 : upd H1 tp (.tup [.int (i : Nat), .ref ai]) = H2 at *
    have htp : H2 tp = some (.tup [.int (i : Nat), .ref ai]) := by
      rw [← hH2]
      exact upd_same
    refine ⟨tp, _, rfl, .inl (.inl htp), rfl, _, _, rfl, _, _, rfl, rfl, ?_⟩
    refine ⟨.ref ai, rfl, ai, i, rfl, by omega, ek.stay e2, fun H3 p s3 n3 e3 => ?_⟩
    refine ⟨16, rfl, by decide, by decide, fun D2 n4 => ?_⟩
    have n4p : p ≠ D2 := ne_of_none e3 n4
    refine lc_range (n := 16) (fun m H' => Same H3 H' ∧ H' D2 = some (.lst ((bitsOf i m).map V.bl))) ⟨same_upd n4, upd_same⟩ ?_ ?_
    · rintro m H' hm ⟨s4, h4⟩
      refine ⟨rfl, ?_⟩
      refine yes_ ?_
      refine ⟨_, rfl, _, rfl, rfl, _, h4, ?_, fun c o e => ?_, ?_⟩
      · rw [List.length_map]
        unfold bitsOf
        rw [List.length_map, List.length_range]
        exact small1000 (by omega)
      · rw [upd_ne (ne_of_none e n4)]
        exact s4 c o e
      · rw [upd_same]
        congr 2
        unfold bitsOf
        rw [List.range_succ, List.map_append, List.map_append]
        congr 1
        show [V.bl (decide (V.int (0 + (m : Int)) = V.int (i : Int)))] = [V.bl (decide (i = m))]
        have ed : decide (V.int (0 + (m : Int)) = V.int (i : Int)) = decide (i = m) := by
          by_cases z : i = m
          · subst z
            rw [decide_eq_true rfl, decide_eq_true]
            rw [Int.zero_add]
          · rw [decide_eq_false z, decide_eq_false]
            intro y
            have y' := V.int.inj y
            omega
        rw [ed]
    · rintro H4 ⟨s4, h4⟩
      have ba := bits_all i hi16
      obtain ⟨b1, b2⟩ := Bool.and_eq_true_iff.mp ba
      have hp : H4 p = some (.lst ((bitsOf i 16).map V.bl)) := by
        rw [← flags_bits]
        exact s4 _ _ e3
      refine ⟨.list ((bitsOf i 16).map PyData.bool), .list ((bitsOf i 16).map PyData.bool), .lst (.inl (.inl hp)) (dp_bits _), .lst (.inl (.inl h4)) (dp_bits _), b1, b1, false, by rw [b2]; rfl, ?_⟩
      refine iteF ?_
      have ek4 : ErrOf H4 ai (cl i) := ek.stay (fun c o z => s4 c o (s3 c o (e2 c o z)))
      refine ⟨.ref ai, rfl, ai, cl i, .ref (cl 16), .ref (cl 16), true, rfl, ek4, T.ek i (by omega), .own _, T.top i (by omega), true, rfl, ?_⟩
      refine iteF ?_
      refine ⟨.ref ai, rfl, ai, cl i, .ty "ValueError", .type "ValueError", true, rfl, ek4, T.ek i (by omega), .ty _, T.val i (by omega), true, rfl, ?_⟩
      refine iteF ?_
      exact ⟨_, _, rfl, fun c o z => s4 c o (s3 c o (e2 c o z))⟩
  · rintro σ' H' ⟨z5, z6, rfl, e⟩
    exact fin z5 z6 H' e
end
end Kten
set_option maxRecDepth 100000
set_option maxHeartbeats 1000000
namespace Kten
open PySem PySem.Spec PyProof.Rows L2 Evl
/-- behind the appends -/
structure More (H H' : Hp) (l : Nat → Addr) (xs : Nat → List V) : Prop where
  rest : ∀ a o, (∀ m, m < 10 → a ≠ l m) → H a = some o → H' a = some o
  got : ∀ m, m < 10 → H' (l m) = some (.lst (xs m ++ [.str "more"]))
def tB6 : TS := fun D σ H => ∃ (a b : Addr) (j : Int) (t : Addr) (Hs : Hp) (l : Nat → Addr) (xs : Nat → List V) (ds : Nat → List PyData) (y4 y5 y6 y7 y8 y9 y10 y11 : Option V), σ = sg a b j (some (.ref t)) y4 y5 y6 y7 y8 y9 y10 y11 ∧
  Things Hs H 10 l xs ds ∧ H t = some (.lst (Tl l)) ∧ Hs t ≠ none ∧ ∀ (y7 : Option V) (H' : Hp), More H H' l xs → D.nx (sg a b j (some (.ref t)) y4 y5 y6 y7 y8 y9 y10 y11) H'
section
variable {P : Program} {w : World} {K : PySem.W.Frag} {mg : Str → Option Value} {base : Heap} {f : Addr} {cdv : Value} {A : Around} {outer : List Env} {s : Shared} {H0 : Hp} {E0' : XK} {cl : Nat → Addr}
theorem b6 : PS (LX P w K mg base f cdv A outer s H0 E0') (lawB 5) tB6 := by
  refine ps_by (ps_for PassesOwn.never rfl (pi_list (pv 3)) (pg_name (i := 7) scLaw.nd rfl (.inl sl__law_thing)) (pss_one (ps_expr (pe_bm PySem.F.plainAttrs_list PySem.F.slot_list_append PySem.F.type_list_append mt_append (pv 7) (pa_cons pe_str pa_nil))))) (fun D σ H h => ?_)
  obtain ⟨a, b, j, t, Hs, l, xs, ds, y4, y5, y6, y7, y8, y9, y10, y11, rfl, T, ht, hst, fin⟩ := h
  have lt : ∀ m, m < 10 → t ≠ l m := fun m hm z => hst (z ▸ T.fresh m hm)
  refine ⟨.ref t, rfl, t, rfl, ⟨_, .inl (.inl ht)⟩, for_list (K := K) (a := t) (xs := Tl l) (fun i σ' H' => ∃ y7, σ' = sg a b j (some (.ref t)) y4 y5 y6 y7 y8 y9 y10 y11 ∧ (∀ a o, (∀ m, m < 10 → a ≠ l m) → H a = some o → H' a = some o) ∧
    (∀ m, m < i → m < 10 → H' (l m) = some (.lst (xs m ++ [.str "more"]))) ∧ (∀ m, i ≤ m → m < 10 → H' (l m) = some (.lst (xs m)))) ⟨y7, rfl, fun _ _ _ e => e, fun m hm => absurd hm (Nat.not_lt_zero m), fun m _ hm => T.at_ m hm⟩ (fun i σ' H' _ h => ?_) ?_ ?_⟩
  · obtain ⟨_, _, k1, _⟩ := h
    exact .inl (.inl (k1 t _ lt ht))
  · rintro i x σ' H' hx ⟨z7, rfl, k1, k2, k3⟩
    have hi : i < 10 := by
      have z := (List.getElem?_eq_some_iff.mp hx).1
      unfold Tl at z
      rw [List.length_map, List.length_range] at z
      exact z
    obtain rfl : V.ref (l i) = x := by
      unfold Tl at hx
      rw [List.getElem?_map, List.getElem?_range hi] at hx
      exact Option.some.inj hx
    have hli := k3 i (Nat.le_refl i) hi
    refine ⟨.ref (l i), rfl, .inl ⟨rfl, _, .inl (.inl hli)⟩, l i, _, _, rfl, rfl, hli, ?_, ?_⟩
    · rw [(T.dat i hi).many]
      have z := (T.nic i hi).2
      exact small1000 (by omega)
    · refine ⟨_, rfl, fun c o n e => ?_, fun m hm hm10 => ?_, fun m hm hm10 => ?_⟩
      · rw [upd_ne (n i hi)]
        exact k1 c o n e
      · by_cases z : m = i
        · subst z
          exact upd_same
        · rw [upd_ne (fun y => z (T.inj m i hm10 hi y))]
          exact k2 m (by omega) hm10
      · rw [upd_ne (fun y => absurd (T.inj m i hm10 hi y) (by omega))]
        exact k3 m (by omega) hm10
  · rintro σ' H' ⟨z7, rfl, k1, k2, k3⟩
    have lT : (Tl l).length = 10 := by
      unfold Tl
      rw [List.length_map, List.length_range]
    exact fin z7 H' ⟨k1, fun m hm => k2 m (by omega) hm⟩
end
end Kten
set_option maxRecDepth 100000
set_option maxHeartbeats 1000000
namespace Kten
open PySem PySem.Spec PyProof.Rows L2 Evl
/-- refs, each the same as itself -/
theorem sm_refs {H : Hp} (n : Nat) : ∀ xs : List V, (∀ x ∈ xs, flatB x = true ∨ ∃ a, x = .ref a) → Paired (Sm H (n + 1)) xs xs
  | [], _ => .nil
  | x :: xs, h => .cons (.inl ⟨rfl, h x List.mem_cons_self⟩) (sm_refs n xs fun y hy => h y (List.mem_cons_of_mem _ hy))
theorem tl_refs (l : Nat → Addr) : ∀ x ∈ Tl l, flatB x = true ∨ ∃ a, x = .ref a := fun x hx => by
  obtain ⟨m, _, rfl⟩ := List.mem_map.mp hx
  exact .inr ⟨_, rfl⟩
def tB7 (cl : Nat → Addr) : TS := fun D σ H => ∃ (a b : Addr) (j : Int) (t f : Addr) (es : List V) (ea dx l : Nat → Addr) (d : List PyData) (y5 y6 y7 y8 y9 y10 y11 : Option V), σ = sg a b j (some (.ref t)) (some (.ref f)) y5 y6 y7 y8 y9 y10 y11 ∧
  H f = some (.lst es) ∧ Ten H cl es ea dx (fun m => .ref (l m)) ∧ H t = some (.lst (Tl l)) ∧ RpAll H (Tl l) d ∧ Shows (.list d) ∧ ∀ H', Ex H H' → D.nx (sg a b j (some (.ref t)) (some (.ref f)) y5 y6 y7 y8 y9 y10 y11) H'
section
variable {P : Program} {w : World} {K : PySem.W.Frag} {mg : Str → Option Value} {base : Heap} {f : Addr} {cdv : Value} {A : Around} {outer : List Env} {s : Shared} {H0 : Hp} {E0' : XK} {cl : Nat → Addr}
theorem b7 {fA fK : Addr} {fdA fdK : FuncData} {k : Nat} (g : (LX P w K mg base f cdv A outer s H0 E0').A.guards = some []) (hr : Room k (LX P w K mg base f cdv A outer s H0 E0').A)
    (GA : FnG P w K mg base k fA fdA ["_law_found", "_law_due"] spAlike) (kA : PySem.W.keepIn K (.ref fA) = true) (bA : Binds K fdA ["_law_found", "_law_due"] []) (gA : mg "_law_alike" = some (.ref fA))
    (GK : FnOk P w K mg base CX0 k fK fdK ["_law_found"] (spKept cl)) (kK : PySem.W.keepIn K (.ref fK) = true) (bK : Binds K fdK ["_law_found"] []) (gK : mg "_law_kept" = some (.ref fK)) :
    PS (LX P w K mg base f cdv A outer s H0 E0') (lawB 6) (tB7 cl) := by
  refine ps_by (ps_if (pt_not (pt_val (pe_callG GA hr g sl__law_alike gA kA bA (pa_cons (pe_call GK hr sl__law_kept gK kK bK .nil pass0 (pa_cons (pv 4) pa_nil)) (pa_cons (pv 3) pa_nil))))) (pss_one (ps_ret pe_bl)) pss_nil) (fun D σ H h => ?_)
  obtain ⟨a, b, j, t, f, es, ea, dx, l, d, y5, y6, y7, y8, y9, y10, y11, rfl, hf, ten, ht, rd, sh, fin⟩ := h
  refine ⟨.ref f, rfl, f, es, ea, dx, fun m => .ref (l m), rfl, hf, ten, fun H' p sm np hp => ?_⟩
  have ex : Ex H H' := fun c o e => sm c o e
  have eT : tenOf (fun m => V.ref (l m)) = Tl l := rfl
  rw [eT] at hp
  have rd' : RpAll H' (Tl l) d := rd.stay ex
  refine ⟨.ref t, rfl, 1, p, t, Tl l, Tl l, .list d, rfl, hp, ex _ _ ht, sm_refs 0 _ (tl_refs l), by decide, .lst hp rd', .lst (ex _ _ ht) rd', sh, true, rfl, ?_⟩
  exact iteF (fin H' ex)
/-! ### a further odd value -/
def tB8 : TS := fun D σ H => ∃ (a b q : Addr) (cs : List Int) (j : Int) (y3 y4 y5 y6 y7 y8 y9 y10 y11 : Option V), σ = sg a b j y3 y4 y5 y6 y7 y8 y9 y10 y11 ∧ Bag H b q cs ∧
  ∀ (v : V) (d : PyData) (H' : Hp), Rb H' H v d → Nice 12 2000 d → Bag H' b q cs → But b H H' → D.nx (sg a b j y3 y4 y5 y6 y7 (some v) y9 y10 y11) H'
theorem b8 {fV : Addr} {fdV : FuncData} {k : Nat} (hr : Room k (LX P w K mg base f cdv A outer s H0 E0').A) (GV : FnOk P w K mg base CX0 k fV fdV ["_law_bag_here"] spOdd) (kV : PySem.W.keepIn K (.ref fV) = true)
    (bV : Binds K fdV ["_law_bag_here"] []) (gV : mg "_law_odd_value" = some (.ref fV)) : PS (LX P w K mg base f cdv A outer s H0 E0') (lawB 7) tB8 := by
  refine ps_by (ps_set (i := 8) scLaw.nd rfl (.inl sl__law_odd) (pe_call GV hr sl__law_odd_value gV kV bV .nil pass0 (pa_cons (pv 1) pa_nil))) (fun D σ H h => ?_)
  obtain ⟨a, b, q, cs, j, y3, y4, y5, y6, y7, y8, y9, y10, y11, rfl, hB, fin⟩ := h
  exact ⟨.ref b, rfl, b, q, cs, rfl, hB, fun v d H' rd nd hB' hbut => fin v d H' rd nd hB' hbut⟩
/-! ### it is kept by three -/
def tB9 : TS := fun D σ H => ∃ (a b : Addr) (j : Int) (v : V) (d : PyData) (y3 y4 y5 y6 y7 y9 y10 y11 : Option V), σ = sg a b j y3 y4 y5 y6 y7 (some v) y9 y10 y11 ∧ Rp H v d ∧ Nice 12 2000 d ∧
  ∀ H', Ex H H' → D.nx (sg a b j y3 y4 y5 y6 y7 (some v) y9 y10 y11) H'
/-- the field of a new error -/
theorem fld_new {K : PySem.W.Frag} {σ : L2.St} {H : Hp} {C : Addr} {n : Str} {v : V} {te : TE} (ek : ErrK K C) (no : PySem.W.findIn K (.ref C) n = some none) (h : ∀ H1, Ex H H1 → ∀ Q : VK, Q v H1 → te σ H1 Q) :
    ∀ H1, Ex H H1 → ∀ Q : VK, (∀ H2, Ex H1 H2 → Q v H2) → tErrF K n (tErrNew C (spInit K C n) (tCons te tNil)) σ H1 Q := fun H1 e Q q =>
  evE_new (K := K) (C := C) (f := n) h H1 e _ fun x H2 e2 ⟨a, ea, dx, hf⟩ => ⟨a, C, dx, v, ea, hf, ek, no, q H2 e2⟩
theorem b9 {fA : Addr} {fdA : FuncData} {k : Nat} (g : (LX P w K mg base f cdv A outer s H0 E0').A.guards = some []) (hr : Room k (LX P w K mg base f cdv A outer s H0 E0').A) (hr2 : Room 2 (LX P w K mg base f cdv A outer s H0 E0').A) (T : Cls K mg cl) (N : Flds K cl)
    (GA : FnG P w K mg base k fA fdA ["_law_found", "_law_due"] spAlike) (kA : PySem.W.keepIn K (.ref fA) = true) (bA : Binds K fdA ["_law_found", "_law_due"] []) (gA : mg "_law_alike" = some (.ref fA))
    (z0 : Inits P w K mg base (cl 0) "place") (z6 : Inits P w K mg base (cl 6) "number") (z8 : Inits P w K mg base (cl 8) "answer") :
    PS (LX P w K mg base f cdv A outer s H0 E0') (lawB 8) tB9 := by
  refine ps_by (ps_if (pt_not (pt_val (pe_callG GA hr g sl__law_alike gA kA bA (pa_cons (pe_lst (pa_cons (pe_errF (pe_init z0 hr2 sl_Wrong T.g0 (pv 8))) (pa_cons (pe_errF (pe_init z8 hr2 sl_Refused T.g8 (pv 8))) (pa_cons (pe_errF (pe_init z6 hr2 sl_Clash T.g6 (pv 8))) pa_nil))))
    (pa_cons (pe_op op_rep (pe_lst (pa_cons (pv 8) pa_nil)) pe_int) pa_nil))))) (pss_one (ps_ret pe_bl)) pss_nil) (fun D σ H h => ?_)
  obtain ⟨a, b, j, v, d, y3, y4, y5, y6, y7, y9, y10, y11, rfl, rd, nd, fin⟩ := h
  have vr : ∀ H1, Ex H H1 → ∀ Q : VK, Q v H1 → tVar 8 (sg a b j y3 y4 y5 y6 y7 (some v) y9 y10 y11) H1 Q := fun H1 _ Q q => ⟨v, rfl, q⟩
  refine fld_new (T.ek 0 (by decide)) N.n0 vr H (Ex.refl H) _ fun H1 e1 => ?_
  refine fld_new (T.ek 8 (by decide)) N.n8 vr H1 e1 _ fun H2 e2 => ?_
  refine fld_new (T.ek 6 (by decide)) N.n6 vr H2 (e1.trans e2) _ fun H3 e3 => ?_
  refine ⟨by show 3 ≤ sizeLine; decide, fun p1 n1 => ?_⟩
  have x1 : Ex H3 (upd H3 p1 (.lst [v, v, v])) := Ex.new n1
  have h1 : (upd H3 p1 (.lst [v, v, v])) p1 = some (.lst [v, v, v]) := upd_same
  generalize hA1 : upd H3 p1 (.lst [v, v, v]) = A1 at *
  refine ⟨v, rfl, by show 1 ≤ sizeLine; decide, fun p2 n2 => ⟨p2, 3, [v], rfl, rfl, upd_same, by decide, by decide, by show 3 ≤ sizeLine; decide, fun p3 n3 => ?_⟩⟩
  have x2 : Ex A1 (upd A1 p2 (.lst [v])) := Ex.new n2
  generalize hA2 : upd A1 p2 (.lst [v]) = A2 at *
  have x3 : Ex A2 (upd A2 p3 (.lst (List.replicate (3 : Int).toNat [v]).flatten)) := Ex.new n3
  have h3 : (upd A2 p3 (.lst (List.replicate (3 : Int).toNat [v]).flatten)) p3 = some (.lst [v, v, v]) := upd_same
  generalize hA3 : upd A2 p3 (.lst (List.replicate (3 : Int).toNat [v]).flatten) = A3 at *
  have eA : Ex H A3 := ((((e1.trans e2).trans e3).trans x1).trans x2).trans x3
  have hp1 := (x2.trans x3) _ _ h1
  have rv : Rp A3 v d := rd.stay eA
  have r3 : RpAll A3 [v, v, v] [d, d, d] := .cons rv (.cons rv (.cons rv .nil))
  refine ⟨1, p1, p3, [v, v, v], [v, v, v], .list [d, d, d], rfl, hp1, h3, sm_refs 0 _ (fun x hx => ?_), by decide, .lst hp1 r3, .lst h3 r3, ?_, true, rfl, ?_⟩
  · have e : x = v := by
      rcases List.mem_cons.mp hx with z | z
      · exact z
      · rcases List.mem_cons.mp z with z | z
        · exact z
        · exact List.mem_singleton.mp z
    rw [e]
    exact rp_flat rd
  · refine (nice_list (m := 3) (ds := [d, d, d]) (n := 12) (W := 2000) (fun x hx => ?_) (by show 3 ≤ 3; decide)).shows (by decide) (by decide)
    have e : x = d := by
      rcases List.mem_cons.mp hx with z | z
      · exact z
      · rcases List.mem_cons.mp z with z | z
        · exact z
        · exact List.mem_singleton.mp z
    rw [e]
    exact nd
  · exact iteF (fin A3 eA)
end
end Kten
set_option maxRecDepth 100000
set_option maxHeartbeats 1000000
namespace Kten
open PySem PySem.Spec PyProof.Rows L2 Evl
theorem err_made {H : Hp} {a dx C : Addr} {f : Str} {v : V} (na : H a = none) (nd : upd H a (exo a C none) dx = none) (ne : dx ≠ a) :
    Ex H (upd (upd (upd H a (exo a C none)) dx (exd dx [(f, v)])) a (exo a C (some dx))) ∧ ErrF (upd (upd (upd H a (exo a C none)) dx (exd dx [(f, v)])) a (exo a C (some dx))) a C dx f v := by
  have nd1 : H dx = none := by
    rw [upd_ne ne] at nd
    exact nd
  refine ⟨fun c o z => ?_, upd_same, by rw [upd_ne ne, upd_same]⟩
  rw [upd_ne (ne_of_none z na), upd_ne (ne_of_none z nd1), upd_ne (ne_of_none z na)]
  exact z
/-- whole = {'a': [turn]} -/
def tB10 : TS := fun D σ H => ∃ (a b : Addr) (j : Int) (y3 y4 y5 y6 y7 y8 y9 y10 y11 : Option V), σ = sg a b j y3 y4 y5 y6 y7 y8 y9 y10 y11 ∧
  ∀ (wd p : Addr) (H' : Hp), Ex H H' → H wd = none → H p = none → wd ≠ p → H' wd = some (.dK [(.inr "a", .ref p)]) → H' p = some (.lst [.int j]) → D.nx (sg a b j y3 y4 y5 y6 y7 y8 (some (.ref wd)) y10 y11) H'
/-- e, part = (Refused(whole), Wrong(([turn],))) -/
def tB11 (cl : Nat → Addr) : TS := fun D σ H => ∃ (a b : Addr) (j : Int) (wd : Addr) (y3 y4 y5 y6 y7 y8 y10 y11 : Option V), σ = sg a b j y3 y4 y5 y6 y7 y8 (some (.ref wd)) y10 y11 ∧
  ∀ (e dx pa dx2 tp pl : Addr) (H' : Hp), Ex H H' → H pl = none → ErrF H' e (cl 8) dx "answer" (.ref wd) → ErrF H' pa (cl 0) dx2 "place" (.ref tp) → H' tp = some (.tup [.ref pl]) → H' pl = some (.lst [.int j]) →
    D.nx (sg a b j y3 y4 y5 (some (.ref e)) y7 y8 (some (.ref wd)) (some (.ref pa)) y11) H'
/-- whole['b'] = odd -/
def tB12 : TS := fun D σ H => ∃ (a b : Addr) (j : Int) (wd p : Addr) (v : V) (y3 y4 y5 y6 y7 y10 y11 : Option V), σ = sg a b j y3 y4 y5 y6 y7 (some v) (some (.ref wd)) y10 y11 ∧ H wd = some (.dK [(.inr "a", .ref p)]) ∧
  D.nx (sg a b j y3 y4 y5 y6 y7 (some v) (some (.ref wd)) y10 y11) (upd H wd (.dK [(.inr "a", .ref p), (.inr "b", v)]))
/-- part.place[0].append(odd) -/
def tB13 (cl : Nat → Addr) : TS := fun D σ H => ∃ (a b : Addr) (j : Int) (pa dx2 tp pl : Addr) (v : V) (y3 y4 y5 y6 y7 y9 y11 : Option V), σ = sg a b j y3 y4 y5 y6 y7 (some v) y9 (some (.ref pa)) y11 ∧ ErrF H pa (cl 0) dx2 "place" (.ref tp) ∧ H tp = some (.tup [.ref pl]) ∧ H pl = some (.lst [.int j]) ∧
  D.nx (sg a b j y3 y4 y5 y6 y7 (some v) y9 (some (.ref pa)) y11) (upd H pl (.lst [.int j, v]))
/-- the second look -/
def tB14 (cl : Nat → Addr) : TS := fun D σ H => ∃ (a b : Addr) (j : Int) (e dx pa dx2 tp pl wd p : Addr) (v : V) (d : PyData) (y3 y4 y5 y7 y11 : Option V), σ = sg a b j y3 y4 y5 (some (.ref e)) y7 (some v) (some (.ref wd)) (some (.ref pa)) y11 ∧
  ErrF H e (cl 8) dx "answer" (.ref wd) ∧ ErrF H pa (cl 0) dx2 "place" (.ref tp) ∧ H tp = some (.tup [.ref pl]) ∧ H pl = some (.lst [.int j, v]) ∧ H wd = some (.dK [(.inr "a", .ref p), (.inr "b", v)]) ∧ H p = some (.lst [.int j]) ∧
  Rp H v d ∧ Nice 12 2000 d ∧ 0 ≤ j ∧ j < 3 ∧ ∀ H', Ex H H' → D.nx (sg a b j y3 y4 y5 (some (.ref e)) y7 (some v) (some (.ref wd)) (some (.ref pa)) y11) H'
theorem put_b (p : Addr) (v : V) : putK [((.inr "a" : Key), V.ref p)] (.inr "b") v = [(.inr "a", .ref p), (.inr "b", v)] := by
  have e : decide ((Sum.inr ("a" : Str) : Key) = Sum.inr ("b" : Str)) = false := by decide +kernel
  unfold putK
  rw [if_neg (by rw [List.any_cons, List.any_nil, e]; decide)]
  rfl
theorem nice_pair {n W : Nat} {x y : PyData} (hx : Nice n W x) (hy : Nice n W y) : Nice (n + 1) (2 * W + 100) (.dict [(.str "a", x), (.str "b", y)]) := by
  have z : ((PyData.str "a").showable && (PyData.str "a").leavesShort 48 && decide ((PyData.str "a").depth ≤ 0) && decide ((PyData.str "a").weight ≤ 40) &&
    ((PyData.str "b").showable && (PyData.str "b").leavesShort 48 && decide ((PyData.str "b").depth ≤ 0) && decide ((PyData.str "b").weight ≤ 40))) = true := by decide +kernel
  simp only [Bool.and_eq_true, decide_eq_true_eq] at z
  obtain ⟨⟨⟨⟨a1, a2⟩, a3⟩, a4⟩, ⟨⟨b1, b2⟩, b3⟩, b4⟩ := z
  obtain ⟨x1, x2, x3, x4⟩ := hx
  obtain ⟨y1, y2, y3, y4⟩ := hy
  refine ⟨?_, ?_, ?_, ?_⟩
  · simp only [PyData.showable, PyData.showableKv] at *
    simp [x1, y1]
  · simp only [PyData.leavesShort, PyData.leavesShortKv] at *
    simp [x2, y2, a2, b2]
  · simp only [PyData.depth, PyData.depthKv] at *
    omega
  · simp only [PyData.weight, PyData.weightKv] at *
    omega
section
variable {P : Program} {w : World} {K : PySem.W.Frag} {mg : Str → Option Value} {base : Heap} {f : Addr} {cdv : Value} {A : Around} {outer : List Env} {s : Shared} {H0 : Hp} {E0' : XK} {cl : Nat → Addr}
theorem b10 : PS (LX P w K mg base f cdv A outer s H0 E0') (lawB 9) tB10 := by
  refine ps_by (ps_set (i := 9) scLaw.nd rfl (.inl sl__law_whole) (pe_disp (pps_cons pe_str (pe_lst (pa_cons (pv 2) pa_nil)) pps_nil) rfl rfl (by simp) (by decide))) (fun D σ H h => ?_)
  obtain ⟨a, b, j, y3, y4, y5, y6, y7, y8, y9, y10, y11, rfl, fin⟩ := h
  refine asg_of fun wd nw => ?_
  refine ⟨.int j, rfl, by show 1 ≤ sizeLine; decide, fun p np => ?_⟩
  have x1 : Ex H (upd H wd (.dK [])) := Ex.new nw
  have h1 : (upd H wd (.dK [])) wd = some (.dK []) := upd_same
  have np0 : H p = none := fresh_back x1 np
  have ne : wd ≠ p := ne_of_none h1 np
  refine ⟨by rw [upd_ne ne]; exact h1, [(.inr "a", .ref p)], rfl, by show 1 ≤ 15; decide, ?_⟩
  refine fin wd p _ (fun c o z => ?_) nw np0 ne upd_same ?_
  · rw [upd_ne (ne_of_none z nw), upd_ne (ne_of_none z np0), upd_ne (ne_of_none z nw)]
    exact z
  · rw [upd_ne (Ne.symm ne), upd_same]
theorem b11 (hr : Room 2 (LX P w K mg base f cdv A outer s H0 E0').A) (T : Cls K mg cl) (z0 : Inits P w K mg base (cl 0) "place") (z8 : Inits P w K mg base (cl 8) "answer") :
    PS (LX P w K mg base f cdv A outer s H0 E0') (lawB 10) (tB11 cl) := by
  refine ps_by (ps_par (i := 6) (j := 10) rfl scLaw.nd rfl rfl (by decide) sl__law_e sl__law_part (pa_cons (pe_init z8 hr sl_Refused T.g8 (pv 9)) (pa_cons (pe_init z0 hr sl_Wrong T.g0 (pe_tup (pa_cons (pe_lst (pa_cons (pv 2) pa_nil)) pa_nil))) pa_nil)) (by rfl)) (fun D σ H h => ?_)
  obtain ⟨a, b, j, wd, y3, y4, y5, y6, y7, y8, y10, y11, rfl, fin⟩ := h
  refine ⟨.ref wd, rfl, by show 1 ≤ 1000; decide, fun e ne => ⟨e, _, rfl, upd_same, fun dx nd nde => ⟨rfl, ?_⟩⟩⟩
  obtain ⟨x1, f1⟩ := err_made (f := "answer") (v := .ref wd) ne nd nde
  generalize hA1 : upd (upd (upd H e (exo e (cl 8) none)) dx (exd dx [("answer", V.ref wd)])) e (exo e (cl 8) (some dx)) = A1 at *
  refine ⟨.int j, rfl, by show 1 ≤ sizeLine; decide, fun pl nl => ⟨by show 1 ≤ sizeLine; decide, fun tp nt => ⟨by show 1 ≤ 1000; decide, fun pa na => ⟨pa, _, rfl, upd_same, fun dx2 nd2 nde2 => ⟨rfl, ?_⟩⟩⟩⟩⟩
  have x2 : Ex A1 (upd A1 pl (.lst [.int j])) := Ex.new nl
  have h2 : (upd A1 pl (.lst [.int j])) pl = some (.lst [.int j]) := upd_same
  generalize hA2 : upd A1 pl (.lst [.int j]) = A2 at *
  have x3 : Ex A2 (upd A2 tp (.tup [.ref pl])) := Ex.new nt
  have h3 : (upd A2 tp (.tup [.ref pl])) tp = some (.tup [.ref pl]) := upd_same
  generalize hA3 : upd A2 tp (.tup [.ref pl]) = A3 at *
  obtain ⟨x4, f4⟩ := err_made (f := "place") (v := .ref tp) na nd2 nde2
  refine ⟨.ref e, .ref pa, rfl, ?_⟩
  exact fin e dx pa dx2 tp pl _ (((x1.trans x2).trans x3).trans x4) (fresh_back x1 nl) (f1.stay ((x2.trans x3).trans x4)) f4 (x4 _ _ h3) (x4 _ _ (x3 _ _ h2))
theorem b12 (hu : (LX P w K mg base f cdv A outer s H0 E0').A.units + 1 < cLine) : PS (LX P w K mg base f cdv A outer s H0 E0') (lawB 11) tB12 := by
  refine ps_by (ps_dput hu (pv 9) pe_str (pv 8) rfl) (fun D σ H h => ?_)
  obtain ⟨a, b, j, wd, p, v, y3, y4, y5, y6, y7, y10, y11, rfl, hw, fin⟩ := h
  refine ⟨v, rfl, .ref wd, rfl, wd, _, rfl, DPut.k (k := .inr "b") hw (by show 1 < sizeLine; decide), ?_⟩
  rw [put_b]
  exact fin
theorem b13 (T : Cls K mg cl) (N : Flds K cl) : PS (LX P w K mg base f cdv A outer s H0 E0') (lawB 12) (tB13 cl) := by
  refine ps_by (ps_expr (pe_bm PySem.F.plainAttrs_list PySem.F.slot_list_append PySem.F.type_list_append mt_append (pe_ix ix_tup (pe_errF (pv 10)) pe_int (fun _ _ => rfl)) (pa_cons (pv 8) pa_nil))) (fun D σ H h => ?_)
  obtain ⟨a, b, j, pa, dx2, tp, pl, v, y3, y4, y5, y6, y7, y9, y11, rfl, hf, htp, hpl, fin⟩ := h
  exact ⟨.ref pa, rfl, pa, cl 0, dx2, .ref tp, rfl, hf, T.ek 0 (by decide), N.n0, tp, [.ref pl], 0, .ref pl, rfl, rfl, .inl (.inl htp), atI_nat (j := 0) rfl, .inl ⟨rfl, _, .inl (.inl hpl)⟩, v, rfl, pl, _, _, rfl, rfl, hpl, by show 1 < sizeLine; decide, fin⟩
theorem b14 {fA : Addr} {fdA : FuncData} {k : Nat} (g : (LX P w K mg base f cdv A outer s H0 E0').A.guards = some []) (hr : Room k (LX P w K mg base f cdv A outer s H0 E0').A) (T : Cls K mg cl) (N : Flds K cl)
    (GA : FnG P w K mg base k fA fdA ["_law_found", "_law_due"] spAlike) (kA : PySem.W.keepIn K (.ref fA) = true) (bA : Binds K fdA ["_law_found", "_law_due"] []) (gA : mg "_law_alike" = some (.ref fA)) :
    PS (LX P w K mg base f cdv A outer s H0 E0') (lawB 13) (tB14 cl) := by
  refine ps_by (ps_if (pt_not (pt_val (pe_callG GA hr g sl__law_alike gA kA bA (pa_cons (pe_lst (pa_cons (pe_errF (pv 6)) (pa_cons (pe_errF (pv 10)) pa_nil)))
    (pa_cons (pe_lst (pa_cons (pv 9) (pa_cons (pe_tup (pa_cons (pe_lst (pa_cons (pv 2) (pa_cons (pv 8) pa_nil))) pa_nil)) pa_nil))) pa_nil))))) (pss_one (ps_ret pe_bl)) pss_nil) (fun D σ H h => ?_)
  obtain ⟨a, b, j, e, dx, pa, dx2, tp, pl, wd, p, v, d, y3, y4, y5, y7, y11, rfl, fe, fp, htp, hpl, hwd, hp, rd, nd, j0, j1, fin⟩ := h
  refine ⟨.ref e, rfl, e, cl 8, dx, .ref wd, rfl, fe, T.ek 8 (by decide), N.n8, .ref pa, rfl, pa, cl 0, dx2, .ref tp, rfl, fp, T.ek 0 (by decide), N.n0, by show 2 ≤ sizeLine; decide, fun q1 n1 => ?_⟩
  have x1 : Ex H (upd H q1 (.lst [.ref wd, .ref tp])) := Ex.new n1
  have h1 : (upd H q1 (.lst [.ref wd, .ref tp])) q1 = some (.lst [.ref wd, .ref tp]) := upd_same
  generalize hA1 : upd H q1 (.lst [.ref wd, .ref tp]) = A1 at *
  refine ⟨.ref wd, rfl, .int j, rfl, v, rfl, by show 2 ≤ sizeLine; decide, fun q2 n2 => ⟨by show 1 ≤ sizeLine; decide, fun q3 n3 => ⟨by show 2 ≤ sizeLine; decide, fun q4 n4 => ?_⟩⟩⟩
  have x2 : Ex A1 (upd A1 q2 (.lst [.int j, v])) := Ex.new n2
  have h2 : (upd A1 q2 (.lst [.int j, v])) q2 = some (.lst [.int j, v]) := upd_same
  generalize hA2 : upd A1 q2 (.lst [.int j, v]) = A2 at *
  have x3 : Ex A2 (upd A2 q3 (.tup [.ref q2])) := Ex.new n3
  have h3 : (upd A2 q3 (.tup [.ref q2])) q3 = some (.tup [.ref q2]) := upd_same
  generalize hA3 : upd A2 q3 (.tup [.ref q2]) = A3 at *
  have x4 : Ex A3 (upd A3 q4 (.lst [.ref wd, .ref q3])) := Ex.new n4
  have h4 : (upd A3 q4 (.lst [.ref wd, .ref q3])) q4 = some (.lst [.ref wd, .ref q3]) := upd_same
  generalize hA4 : upd A3 q4 (.lst [.ref wd, .ref q3]) = A4 at *
  have ex : Ex H A4 := ((x1.trans x2).trans x3).trans x4
  have hq1 := ((x2.trans x3).trans x4) _ _ h1
  have hq2 := (x3.trans x4) _ _ h2
  have hq3 := x4 _ _ h3
  have rv : Rp A4 v d := rd.stay ex
  have ri : Rp A4 (.int j) (.int j) := .int j
  have rw1 : Rp A4 (.ref wd) (.dict [(.str "a", .list [.int j]), (.str "b", d)]) := .dct (kvs := [(.inr "a", .ref p), (.inr "b", v)]) (ds := [.list [.int j], d]) (ex _ _ hwd) (.cons (.lst (ex _ _ hp) (.cons ri .nil)) (.cons rv .nil))
  have rt1 : Rp A4 (.ref tp) (.tuple [.list [.int j, d]]) := .tup (ex _ _ htp) (.cons (.lst (ex _ _ hpl) (.cons ri (.cons rv .nil))) .nil)
  have rt2 : Rp A4 (.ref q3) (.tuple [.list [.int j, d]]) := .tup hq3 (.cons (.lst hq2 (.cons ri (.cons rv .nil))) .nil)
  have sv : Sm A4 1 v v := .inl ⟨rfl, rp_flat rd⟩
  have sj : Sm A4 1 (.int j) (.int j) := .inl ⟨rfl, .inl rfl⟩
  have s2 : Sm A4 2 (.ref pl) (.ref q2) := .inr (.inl ⟨pl, q2, _, _, rfl, rfl, ex _ _ hpl, hq2, .cons sj (.cons sv .nil)⟩)
  have s3 : Sm A4 3 (.ref tp) (.ref q3) := .inr (.inr ⟨tp, q3, _, _, rfl, rfl, ex _ _ htp, hq3, .cons s2 .nil⟩)
  have s0 : Sm A4 3 (.ref wd) (.ref wd) := .inl ⟨rfl, .inr ⟨_, rfl⟩⟩
  have nj : Nice 12 2000 (.int j) := (nice_int j0 j1).more (by decide) (by decide)
  have nl : ∀ x ∈ [PyData.int j, d], Nice 12 2000 x := fun x hx => by
    rcases List.mem_cons.mp hx with z | z
    · rw [z]
      exact nj
    · rw [List.mem_singleton.mp z]
      exact nd
  have n5 : Nice 13 4002 (.list [.int j, d]) := nice_list (m := 2) nl (by show 2 ≤ 2; decide)
  have n6 : Nice 14 4003 (.tuple [.list [.int j, d]]) := nice_tup (m := 1) (fun x hx => by rw [List.mem_singleton.mp hx]; exact n5) (by show 1 ≤ 1; decide)
  have n7 : Nice 13 2001 (.list [.int j]) := nice_list (m := 1) (fun x hx => by rw [List.mem_singleton.mp hx]; exact nj) (by show 1 ≤ 1; decide)
  have n8 : Nice 14 4102 (.dict [(.str "a", .list [.int j]), (.str "b", d)]) := nice_pair n7 (nd.more (by decide) (by decide))
  have n9 : Nice 15 8206 (.list [.dict [(.str "a", .list [.int j]), (.str "b", d)], .tuple [.list [.int j, d]]]) := nice_list (m := 2) (n := 14) (W := 4102) (fun x hx => by
    rcases List.mem_cons.mp hx with z | z
    · rw [z]
      exact n8
    · rw [List.mem_singleton.mp z]
      exact n6.more (by decide) (by decide)) (by show 2 ≤ 2; decide)
  refine ⟨3, q1, q4, _, _, .list [.dict [(.str "a", .list [.int j]), (.str "b", d)], .tuple [.list [.int j, d]]], rfl, hq1, h4, .cons s0 (.cons s3 .nil), by decide, .lst hq1 (.cons rw1 (.cons rt1 .nil)), .lst h4 (.cons rw1 (.cons rt2 .nil)), n9.shows (by decide) (by decide), true, rfl, ?_⟩
  exact iteF (fin A4 ex)
end
end Kten
set_option maxRecDepth 100000
set_option maxHeartbeats 1000000
namespace Kten
open PySem PySem.Spec PyProof.Rows L2 Evl
def tB15 : TS := fun D σ H => ∃ (a b : Addr) (j : Int) (t : Addr) (l : Nat → Addr) (y4 y5 y6 y7 y8 y9 y10 y11 : Option V), σ = sg a b j (some (.ref t)) y4 y5 y6 y7 y8 y9 y10 y11 ∧ H t = some (.lst (Tl l)) ∧
  ∀ (y6 : Option V) (H' : Hp), Ex H H' → D.nx (sg a b j (some (.ref t)) y4 y5 y6 y7 y8 y9 y10 y11) H'
def ksT (cl : Nat → Addr) : List EK := [(cl 16, none), (cl 16, none), (cl 16, none), (cl 16, none)]
section
variable {P : Program} {w : World} {K : PySem.W.Frag} {mg : Str → Option Value} {base : Heap} {f : Addr} {cdv : Value} {A : Around} {outer : List Env} {s : Shared} {H0 : Hp} {E0' : XK} {cl : Nat → Addr}
theorem b15 {fF : Addr} {fdF : FuncData} {k : Nat} (hr : Room k (LX P w K mg base f cdv A outer s H0 E0').A) (T : Cls K mg cl) (p16 : Plain K (cl 16)) (GF : FnOk P w K mg base CX0 k fF fdF ["_law_e"] (spFlags cl)) (kF : PySem.W.keepIn K (.ref fF) = true)
    (bF : Binds K fdF ["_law_e"] []) (gF : mg "_law_flags" = some (.ref fF)) (mi : mg "isinstance" = none) (mv : mg "ValueError" = none) :
    PS (LX P w K mg base f cdv A outer s H0 E0') (lawB 14) tB15 := by
  refine ps_by (ps_for PassesOwn.never rfl (pi_list (pe_lst (pa_cons (pe_errPlain0 PySem.F.excBase_ValueError p16.xc T.g16 p16.kp sl_TheseError)
      (pa_cons (pe_errPlain PySem.F.excBase_ValueError p16.xc T.g16 p16.kp sl_TheseError (pa_cons (pe_ix ix_list (pv 3) pe_int (fun _ _ => rfl)) pa_nil))
      (pa_cons (pe_errPlain PySem.F.excBase_ValueError p16.xc T.g16 p16.kp sl_TheseError (pa_cons (pe_ix ix_list (pv 3) pe_int (fun _ _ => rfl)) (pa_cons (pe_ix ix_list (pv 3) pe_int (fun _ _ => rfl)) pa_nil)))
      (pa_cons (pe_errPlain PySem.F.excBase_ValueError p16.xc T.g16 p16.kp sl_TheseError (pa_cons pe_int (pa_cons pe_int (pa_cons pe_int (pa_cons pe_int (pa_cons pe_int (pa_cons pe_int pa_nil))))))) pa_nil))))))
    (pg_name (i := 6) scLaw.nd rfl (.inl sl__law_e))
    (pss_one (ps_if (pw_or (pt_not (pt_val (pe_callB call_isErr (by exact sl_isinstance) mi boot_isinstance (pa_cons (pv 6) (pa_cons (pe_bltn (v := .ty "ValueError") (by exact sl_ValueError) mv PyProof.Rows.Boot.«ValueError» rfl) pa_nil)))))
      (pw_or1 (pt_cmpR op_in_seq pe_bl (pe_call GF hr (by exact sl__law_flags) gF kF bF .nil pass0 (pa_cons (pv 6) pa_nil)) (by rfl)))).pt (pss_one (ps_ret pe_bl)) pss_nil))) (fun D σ H h => ?_)
  obtain ⟨a, b, j, t, l, y4, y5, y6, y7, y8, y9, y10, y11, rfl, ht, fin⟩ := h
  have ix : ∀ (i : Nat) (v : V), (Tl l)[i]? = some v → ∀ H1, Ex H H1 → ∀ Q : VK, Q v H1 → tIxT K i (sg a b j (some (.ref t)) y4 y5 y6 y7 y8 y9 y10 y11) H1 Q := fun i v hv => ix_const rfl ht hv
  have Es := evEs_cons (evE_plain (C := cl 16) (σ := sg a b j (some (.ref t)) y4 y5 y6 y7 y8 y9 y10 y11) (H := H) (ta := tNil) (vs := []) (fun H1 _ Q q => q) (by decide))
    (evEs_cons (evE_plain (C := cl 16) (ta := tCons (tIxT K 0) tNil) (vs := [.ref (l 0)]) (fun H1 e Q q => ix 0 (.ref (l 0)) rfl H1 e _ q) (by show 1 ≤ 1000; decide))
    (evEs_cons (evE_plain (C := cl 16) (ta := tCons (tIxT K 1) (tCons (tIxT K 2) tNil)) (vs := [.ref (l 1), .ref (l 2)]) (fun H1 e Q q => ix 1 (.ref (l 1)) rfl H1 e _ (ix 2 (.ref (l 2)) rfl H1 e _ q)) (by show 2 ≤ 1000; decide))
    (evEs_cons (evE_plain (C := cl 16) (ta := tCons (tC (.int 1)) (tCons (tC (.int 2)) (tCons (tC (.int 3)) (tCons (tC (.int 4)) (tCons (tC (.int 5)) (tCons (tC (.int 6)) tNil)))))) (vs := [.int 1, .int 2, .int 3, .int 4, .int 5, .int 6]) (fun H1 _ Q q => q) (by decide)) evEs_nil)))
  unfold tFor iList tLst
  refine Es H (Ex.refl H) _ fun es H1 e1 r => ⟨by rw [Paired.length r]; show 4 ≤ sizeLine; decide, fun p np => ?_⟩
  have x1 : Ex H1 (upd H1 p (.lst es)) := Ex.new np
  have hp : (upd H1 p (.lst es)) p = some (.lst es) := upd_same
  generalize hA1 : upd H1 p (.lst es) = A1 at *
  refine ⟨p, rfl, ⟨es, .inl (.inl hp)⟩, for_list (K := K) (a := p) (xs := es) (fun i σ' H' => ∃ y6, σ' = sg a b j (some (.ref t)) y4 y5 y6 y7 y8 y9 y10 y11 ∧ Ex A1 H') ⟨y6, rfl, Ex.refl A1⟩ (fun i σ' H' _ h => ?_) ?_ ?_⟩
  · obtain ⟨_, _, e⟩ := h
    exact .inl (.inl (e _ _ hp))
  · rintro i x σ' H' hx ⟨z6, rfl, e⟩
    obtain ⟨k, k1, k2⟩ := are_get (AreE.ex (AreE.ex r x1) e) hx
    obtain ⟨ai, rfl, ek⟩ := k2.of
    have hk : k.1 = cl 16 := by
      have z := List.mem_of_getElem? k1
      rcases List.mem_cons.mp z with z | z
      · rw [z]
      · rcases List.mem_cons.mp z with z | z
        · rw [z]
        · rcases List.mem_cons.mp z with z | z
          · rw [z]
          · rw [List.mem_singleton.mp z]
    rw [hk] at ek
    refine ⟨.ref ai, rfl, ai, cl 16, .ty "ValueError", .type "ValueError", true, rfl, ek, T.ek 16 (by decide), .ty _, T.val 16 (by decide), true, rfl, ?_⟩
    refine iteF ?_
    refine ⟨.ref ai, rfl, ai, 16, rfl, by decide, ek, fun H2 p2 s2 n2 h2 => ?_⟩
    refine ⟨p2, _, rfl, .inl (.inl (.inl h2)), rfl, by decide +kernel, false, ?_, ?_⟩
    · have z : inV (.bl true) (flagsOf 16) = false := by decide +kernel
      show V.bl (inV (.bl true) (flagsOf 16)) = .bl false
      rw [z]
    · refine iteF ?_
      exact ⟨_, rfl, e.trans fun c o z => s2 c o z⟩
  · rintro σ' H' ⟨z6, rfl, e⟩
    exact fin z6 H' ((e1.trans x1).trans e)
end
end Kten
set_option maxRecDepth 100000
set_option maxHeartbeats 2000000
namespace Kten
open PySem PySem.Spec PyProof.Rows L2 Evl
theorem exo_lst {e C : Addr} {d : Option Addr} {xs : List V} : exo e C d ≠ .lst xs := fun z => by
  have z' : HO.ext _ = HO.lst xs := z
  cases z'
theorem exd_lst {e : Addr} {fs : List (Str × V)} {xs : List V} : exd e fs ≠ .lst xs := fun z => by
  have z' : HO.ext _ = HO.lst xs := z
  cases z'
theorem exo_dK {e C : Addr} {d : Option Addr} {ks : List (Key × V)} : exo e C d ≠ .dK ks := fun z => by
  have z' : HO.ext _ = HO.dK ks := z
  cases z'
theorem exd_dK {e : Addr} {fs : List (Str × V)} {ks : List (Key × V)} : exd e fs ≠ .dK ks := fun z => by
  have z' : HO.ext _ = HO.dK ks := z
  cases z'
theorem ErrF.upd_lst {H : Hp} {a C dx p : Addr} {n : Str} {v : V} {xs : List V} {o : HO} (h : ErrF H a C dx n v) (hp : H p = some (.lst xs)) : ErrF (upd H p o) a C dx n v :=
  ⟨by rw [upd_ne (ne_of h.1 hp exo_lst)]; exact h.1, by rw [upd_ne (ne_of h.2 hp exd_lst)]; exact h.2⟩
theorem ErrF.upd_dK {H : Hp} {a C dx p : Addr} {n : Str} {v : V} {ks : List (Key × V)} {o : HO} (h : ErrF H a C dx n v) (hp : H p = some (.dK ks)) : ErrF (upd H p o) a C dx n v :=
  ⟨by rw [upd_ne (ne_of h.1 hp exo_dK)]; exact h.1, by rw [upd_ne (ne_of h.2 hp exd_dK)]; exact h.2⟩
theorem Things.ex {Hs H H' : Hp} {n : Nat} {l : Nat → Addr} {xs : Nat → List V} {ds : Nat → List PyData} (T : Things Hs H n l xs ds) (e : Ex H H') : Things Hs H' n l xs ds :=
  ⟨T.fresh, T.inj, fun i hi => e _ _ (T.at_ i hi), fun i hi => (T.dat i hi).stay fun a o z => by
    obtain ⟨z1, z2, z3⟩ := cutL_of z
    exact cutL_at z1 z2 (e _ _ z3), T.nic⟩
theorem nice_more : Nice 13 2100 (.str "more") := by
  have z : ((PyData.str "more").showable && (PyData.str "more").leavesShort 48 && decide ((PyData.str "more").depth ≤ 13) && decide ((PyData.str "more").weight ≤ 2100)) = true := by decide +kernel
  simp only [Bool.and_eq_true, decide_eq_true_eq] at z
  exact ⟨z.1.1.1, z.1.1.2, z.1.2, z.2⟩
def dMore (ds : Nat → List PyData) : List PyData := (List.range 10).map fun m => .list (ds m ++ [.str "more"])
theorem more_data {Hs H H' : Hp} {l : Nat → Addr} {xs : Nat → List V} {ds : Nat → List PyData} (T : Things Hs H 10 l xs ds) (M : More H H' l xs) : RpAll H' (Tl l) (dMore ds) := by
  have one : ∀ m, m < 10 → Rp H' (.ref (l m)) (.list (ds m ++ [.str "more"])) := fun m hm =>
    .lst (M.got m hm) (RpAll.app ((T.dat m hm).stay fun a o z => by
      obtain ⟨_, z2, z3⟩ := cutL_of z
      exact M.rest a o z2 z3) (.cons (.str _) .nil))
  have all : ∀ ms : List Nat, (∀ m ∈ ms, m < 10) → RpAll H' (ms.map fun m => V.ref (l m)) (ms.map fun m => PyData.list (ds m ++ [.str "more"])) := by
    intro ms
    induction ms with
    | nil => exact fun _ => .nil
    | cons m ms ih => exact fun h => .cons (one m (h m List.mem_cons_self)) (ih fun x hx => h x (List.mem_cons_of_mem _ hx))
  exact all _ fun m hm => List.mem_range.mp hm
theorem more_shows {Hs H : Hp} {l : Nat → Addr} {xs : Nat → List V} {ds : Nat → List PyData} (T : Things Hs H 10 l xs ds) : Shows (.list (dMore ds)) := by
  refine (nice_list (m := 10) (n := 14) (W := 6303) (fun d hd => ?_) ?_).shows (by decide) (by decide)
  · obtain ⟨m, hm, rfl⟩ := List.mem_map.mp hd
    obtain ⟨n1, n2⟩ := T.nic m (List.mem_range.mp hm)
    refine nice_list (m := 3) (n := 13) (W := 2100) (fun x hx => ?_) (by rw [List.length_append]; show _ + 1 ≤ 3; omega)
    rcases List.mem_append.mp hx with z | z
    · exact n1 x z
    · rw [List.mem_singleton.mp z]
      exact nice_more
  · unfold dMore
    rw [List.length_map, List.length_range]
    decide
theorem isE_some {H : Hp} {x : V} {C : Addr} {n : Str} {v : V} (h : IsE H x (C, some (n, v))) : ∃ a dx, x = .ref a ∧ ErrF H a C dx n v := by
  obtain ⟨a, ea, dx, h⟩ := h
  exact ⟨a, dx, ea, h⟩
/-- the ten of the sixteen -/
theorem ten_of {H : Hp} {es : List V} {cl l : Nat → Addr} (h : AreE H es ((ksA cl l ++ ksB cl l) ++ ksC cl l)) : ∃ ea dx, Ten H cl es ea dx fun m => .ref (l m) := by
  match es, h with
  | _, .cons h0 (.cons h1 (.cons h2 (.cons h3 (.cons h4 (.cons h5 (.cons h6 (.cons h7 (.cons h8 (.cons h9 _))))))))) =>
    obtain ⟨a0, d0, rfl, f0⟩ := isE_some h0
    obtain ⟨a1, d1, rfl, f1⟩ := isE_some h1
    obtain ⟨a2, d2, rfl, f2⟩ := isE_some h2
    obtain ⟨a3, d3, rfl, f3⟩ := isE_some h3
    obtain ⟨a4, d4, rfl, f4⟩ := isE_some h4
    obtain ⟨a5, d5, rfl, f5⟩ := isE_some h5
    obtain ⟨a6, d6, rfl, f6⟩ := isE_some h6
    obtain ⟨a7, d7, rfl, f7⟩ := isE_some h7
    obtain ⟨a8, d8, rfl, f8⟩ := isE_some h8
    obtain ⟨a9, d9, rfl, f9⟩ := isE_some h9
    exact ⟨fun m => [a0, a1, a2, a3, a4, a5, a6, a7, a8, a9].getD m 0, fun m => [d0, d1, d2, d3, d4, d5, d6, d7, d8, d9].getD m 0,
      ⟨rfl, f0, rfl, f1, rfl, f2, rfl, f3, rfl, f4, rfl, f5, rfl, f6, rfl, f7, rfl, f8, rfl, f9⟩⟩
theorem ks_cl (cl l : Nat → Addr) : ∀ i k, ((ksA cl l ++ ksB cl l) ++ ksC cl l)[i]? = some k → k.1 = cl i := by
  intro i k h
  match i, h with
  | 0, h => exact (Option.some.inj h) ▸ rfl
  | 1, h => exact (Option.some.inj h) ▸ rfl
  | 2, h => exact (Option.some.inj h) ▸ rfl
  | 3, h => exact (Option.some.inj h) ▸ rfl
  | 4, h => exact (Option.some.inj h) ▸ rfl
  | 5, h => exact (Option.some.inj h) ▸ rfl
  | 6, h => exact (Option.some.inj h) ▸ rfl
  | 7, h => exact (Option.some.inj h) ▸ rfl
  | 8, h => exact (Option.some.inj h) ▸ rfl
  | 9, h => exact (Option.some.inj h) ▸ rfl
  | 10, h => exact (Option.some.inj h) ▸ rfl
  | 11, h => exact (Option.some.inj h) ▸ rfl
  | 12, h => exact (Option.some.inj h) ▸ rfl
  | 13, h => exact (Option.some.inj h) ▸ rfl
  | 14, h => exact (Option.some.inj h) ▸ rfl
  | 15, h => exact (Option.some.inj h) ▸ rfl
  | i + 16, h => exact nomatch h
theorem Ten.more {H H' : Hp} {cl l : Nat → Addr} {es : List V} {ea dx : Nat → Addr} {va : Nat → V} {xs : Nat → List V} (h : Ten H cl es ea dx va) (at_ : ∀ m, m < 10 → H (l m) = some (.lst (xs m))) (M : More H H' l xs) : Ten H' cl es ea dx va := by
  have one : ∀ {a C d : Addr} {n : Str} {v : V}, ErrF H a C d n v → ErrF H' a C d n v := fun h => ⟨M.rest _ _ (fun m hm => ne_of h.1 (at_ m hm) exo_lst) h.1, M.rest _ _ (fun m hm => ne_of h.2 (at_ m hm) exd_lst) h.2⟩
  exact ⟨h.p0, one h.f0, h.p1, one h.f1, h.p2, one h.f2, h.p3, one h.f3, h.p4, one h.f4, h.p5, one h.f5, h.p6, one h.f6, h.p7, one h.f7, h.p8, one h.f8, h.p9, one h.f9⟩
end Kten
set_option maxRecDepth 100000
set_option maxHeartbeats 2000000
namespace Kten
open PySem PySem.Spec PyProof.Rows L2 Evl
def tTurn (cl : Nat → Addr) : TS := tSeq tB1 (tSeq (tB2 cl) (tSeq (tB3 cl (ksA cl) (ksB cl)) (tSeq (tB3 cl (fun l => ksA cl l ++ ksB cl l) (ksC cl)) (tSeq (tB5 cl) (tSeq tB6 (tSeq (tB7 cl) (tSeq tB8 (tSeq tB9 (tSeq tB10 (tSeq (tB11 cl) (tSeq tB12 (tSeq (tB13 cl) (tSeq (tB14 cl) tB15)))))))))))))
theorem turn (cl : Nat → Addr) (D : Ends) (H : Hp) (a b q : Addr) (cs : List Int) (j : Int) (y3 y4 y5 y6 y7 y8 y9 y10 y11 : Option V) (hB : Bag H b q cs) (j0 : 0 ≤ j) (j1 : j < 3)
    (fin : ∀ (y3 y4 y5 y6 y7 y8 y9 y10 y11 : Option V) (H' : Hp), Bag H' b q cs → D.nx (sg a b j y3 y4 y5 y6 y7 y8 y9 y10 y11) H') : tTurn cl D (sg a b j y3 y4 y5 y6 y7 y8 y9 y10 y11) H := by
  refine ⟨a, b, q, cs, j, y3, y4, y5, y6, y7, y8, y9, y10, y11, rfl, hB, j0, j1, fun t Hs H1 l xs ds T1 ht1 hB1 hbut1 hst hsn => ?_⟩
  have ht1 : H1 t = some (.lst (Tl l)) := ht1
  have bq : H b ≠ none ∧ H q ≠ none := by
    obtain ⟨c0, c1, c2, h1, h2, _⟩ := hB
    refine ⟨fun z => ?_, fun z => ?_⟩
    · rw [h1] at z
      cases z
    · rw [h2] at z
      cases z
  have lb : ∀ m, m < 10 → b ≠ l m := fun m hm z => bq.1 (hsn b (z ▸ T1.fresh m hm))
  have lq : ∀ m, m < 10 → q ≠ l m := fun m hm z => bq.2 (hsn q (z ▸ T1.fresh m hm))
  have lt : ∀ m, m < 10 → t ≠ l m := fun m hm z => hst (z ▸ T1.fresh m hm)
  refine ⟨a, b, j, t, l, _, _, _, _, _, _, _, _, rfl, ht1, fun f es H2 x2 nf hf are => ?_⟩
  refine ⟨a, b, j, t, f, es, l, _, _, _, _, _, _, _, rfl, x2 _ _ ht1, hf, are, fun f2 es2 H3 x3 nf2 hf2 are2 => ?_⟩
  refine ⟨a, b, j, t, f2, es2, l, _, _, _, _, _, _, _, rfl, x3 _ _ (x2 _ _ ht1), hf2, are2, fun f3 es3 H4 x4 nf3 hf3 are3 => ?_⟩
  have T3 : Things Hs H3 10 l xs ds := T1.ex (x2.trans x3)
  have lf : ∀ m, m < 10 → f3 ≠ l m := fun m hm z => by
    have y := T3.at_ m hm
    rw [← z, nf3] at y
    cases y
  refine ⟨a, b, j, _, f3, es3, _, _, _, _, _, _, _, _, rfl, hf3, are3, rfl, ks_cl cl l, fun z5 z6 H5 x5 => ?_⟩
  have T5 : Things Hs H5 10 l xs ds := T3.ex (x4.trans x5)
  have e15 : Ex H1 H5 := ((x2.trans x3).trans x4).trans x5
  refine ⟨a, b, j, t, Hs, l, xs, ds, _, _, _, _, _, _, _, _, rfl, T5, e15 _ _ ht1, hst, fun z7 H6 M => ?_⟩
  obtain ⟨ea, dx, ten⟩ := ten_of (AreE.ex are3 x5)
  have ten6 := ten.more T5.at_ M
  have ht6 : H6 t = some (.lst (Tl l)) := M.rest _ _ lt (e15 _ _ ht1)
  refine ⟨a, b, j, t, f3, es3, ea, dx, l, dMore ds, _, _, _, _, _, _, _, rfl, M.rest _ _ lf (x5 _ _ hf3), ten6, ht6, more_data T5 M, more_shows T5, fun H7 x7 => ?_⟩
  have hB7 : Bag H7 b q cs := by
    obtain ⟨c0, c1, c2, h1, h2, r⟩ := hB1
    exact ⟨c0, c1, c2, x7 _ _ (M.rest _ _ lb (e15 _ _ h1)), x7 _ _ (M.rest _ _ lq (e15 _ _ h2)), r⟩
  refine ⟨a, b, q, cs, j, _, _, _, _, _, _, _, _, _, rfl, hB7, fun v d H8 rd nd hB8 hbut8 => ?_⟩
  have tb : t ≠ b := fun z => by
    obtain ⟨c0, c1, c2, h1, h2, _⟩ := hB7
    have y := x7 _ _ ht6
    rw [z, h1] at y
    have y2 := HO.lst.inj (Option.some.inj y)
    have y3 : ([V.int c0, .int c1, .int c2, .ref q]).length = (Tl l).length := by rw [y2]
    unfold Tl at y3
    rw [List.length_map, List.length_range] at y3
    have y4 : (4 : Nat) = 10 := y3
    exact absurd y4 (by decide)
  have ht8 : H8 t = some (.lst (Tl l)) := hbut8 _ _ tb (x7 _ _ ht6)
  refine ⟨a, b, j, v, d, _, _, _, _, _, _, _, _, rfl, Rb.full rd, nd, fun H9 x9 => ?_⟩
  refine ⟨a, b, j, _, _, _, _, _, _, _, _, _, rfl, fun wd p H10 x10 nwd np nwp hwd hp => ?_⟩
  refine ⟨a, b, j, wd, _, _, _, _, _, _, _, _, rfl, fun e dxe pa dxp tp pl H11 x11 npl fe fp htp hpl => ?_⟩
  refine ⟨a, b, j, wd, p, v, _, _, _, _, _, _, _, rfl, x11 _ _ hwd, ?_⟩
  have hwd11 := x11 _ _ hwd
  have hp11 := x11 _ _ hp
  have npp : p ≠ pl := ne_of_none hp npl
  have wpl : wd ≠ pl := ne_of_none hwd npl
  have fe12 := fe.upd_dK (o := .dK [(.inr "a", .ref p), (.inr "b", v)]) hwd11
  have fp12 := fp.upd_dK (o := .dK [(.inr "a", .ref p), (.inr "b", v)]) hwd11
  have htp12 : (upd H11 wd (.dK [(.inr "a", .ref p), (.inr "b", v)])) tp = some (.tup [.ref pl]) := by
    rw [upd_ne (ne_of htp hwd11 (fun z => nomatch z))]
    exact htp
  have hpl12 : (upd H11 wd (.dK [(.inr "a", .ref p), (.inr "b", v)])) pl = some (.lst [.int j]) := by
    rw [upd_ne (Ne.symm wpl)]
    exact hpl
  have hp12 : (upd H11 wd (.dK [(.inr "a", .ref p), (.inr "b", v)])) p = some (.lst [.int j]) := by
    rw [upd_ne (Ne.symm nwp)]
    exact hp11
  have hwd12 : (upd H11 wd (.dK [(.inr "a", .ref p), (.inr "b", v)])) wd = some (.dK [(.inr "a", .ref p), (.inr "b", v)]) := upd_same
  have k12 : ∀ c o, H9 c = some o → (upd H11 wd (.dK [(.inr "a", .ref p), (.inr "b", v)])) c = some o := fun c o z => by
    rw [upd_ne (ne_of_none z nwd)]
    exact x11 _ _ (x10 _ _ z)
  generalize hH12 : upd H11 wd (.dK [(.inr "a", .ref p), (.inr "b", v)]) = H12 at *
  refine ⟨a, b, j, pa, dxp, tp, pl, v, _, _, _, _, _, _, _, rfl, fp12, htp12, hpl12, ?_⟩
  have fe13 := fe12.upd_lst (o := .lst [.int j, v]) hpl12
  have fp13 := fp12.upd_lst (o := .lst [.int j, v]) hpl12
  have htp13 : (upd H12 pl (.lst [.int j, v])) tp = some (.tup [.ref pl]) := by
    rw [upd_ne (ne_of htp12 hpl12 (fun z => nomatch z))]
    exact htp12
  have hwd13 : (upd H12 pl (.lst [.int j, v])) wd = some (.dK [(.inr "a", .ref p), (.inr "b", v)]) := by
    rw [upd_ne wpl]
    exact hwd12
  have hp13 : (upd H12 pl (.lst [.int j, v])) p = some (.lst [.int j]) := by
    rw [upd_ne npp]
    exact hp12
  have k13 : ∀ c o, H9 c = some o → (upd H12 pl (.lst [.int j, v])) c = some o := fun c o z => by
    rw [upd_ne (ne_of_none (x10 _ _ z) npl)]
    exact k12 c o z
  have hpl13 : (upd H12 pl (.lst [.int j, v])) pl = some (.lst [.int j, v]) := upd_same
  generalize hH13 : upd H12 pl (.lst [.int j, v]) = H13 at *
  refine ⟨a, b, j, e, dxe, pa, dxp, tp, pl, wd, p, v, d, _, _, _, _, _, rfl, fe13, fp13, htp13, hpl13, hwd13, hp13, (Rp.stay (Rb.full rd) fun c o z => k13 c o (x9 _ _ z)), nd, j0, j1, fun H14 x14 => ?_⟩
  refine ⟨a, b, j, t, l, _, _, _, _, _, _, _, _, rfl, x14 _ _ (k13 _ _ (x9 _ _ ht8)), fun z6 H15 x15 => ?_⟩
  refine fin _ _ _ _ _ _ _ _ _ H15 ?_
  obtain ⟨c0, c1, c2, h1, h2, r⟩ := hB8
  exact ⟨c0, c1, c2, x15 _ _ (x14 _ _ (k13 _ _ (x9 _ _ h1))), x15 _ _ (x14 _ _ (k13 _ _ (x9 _ _ h2))), r⟩
end Kten
set_option maxRecDepth 100000
set_option maxHeartbeats 4000000
namespace Kten
open PySem PySem.Spec PyProof.Rows L2 Evl
/-- a def as it stands behind the top, at f, with its name in the module -/
structure Def (K : PySem.W.Frag) (mg : Str → Option Value) (x : Str) (st : Stmt) (ps : List Str) (f : Addr) (fd : FuncData) : Prop where
  fn : Fun K x x st f fd
  bd : Binds K fd ps []
  gl : mg x = some (.ref f)
/-- the law's defs and what of the module they ask -/
structure Txt (K : PySem.W.Frag) (mg : Str → Option Value) (cl : Nat → Addr) (fB fT fA fO fV fF fK : Addr) (dB dT dA dO dV dF dK : FuncData) : Prop where
  bag : Def K mg "_law_bag" sBag ["_law_script"] fB dB
  take : Def K mg "_law_take" sTake ["_law_bag_here", "_law_many"] fT dT
  alike : Def K mg "_law_alike" sAlike ["_law_found", "_law_due"] fA dA
  one : Def K mg "_law_one" sOne ["_law_bag_here", "_law_things"] fO dO
  odd : Def K mg "_law_odd_value" sOdd ["_law_bag_here"] fV dV
  flags : Def K mg "_law_flags" sFlags ["_law_e"] fF dF
  kept : Def K mg "_law_kept" sKept ["_law_found"] fK dK
  cls : Cls K mg cl
  flds : Flds K cl
  pl : ∀ i, 10 ≤ i → i ≤ 16 → Plain K (cl i)
  nLen : mg "len" = none
  nInt : mg "int" = none
  nAbs : mg "abs" = none
  nRange : mg "range" = none
  nRepr : mg "repr" = none
  nEnum : mg "enumerate" = none
  nIsi : mg "isinstance" = none
  nVal : mg "ValueError" = none
def spLaw (K : PySem.W.Frag) : Sp := fun vs H Q _ => ∃ (a : Addr) (ns : List Int), vs = [.ref a] ∧ SqL K H a (ns.map V.int) ∧ ns.length ≤ 63 ∧ ∀ H', Q (.bl true) H'
/-- the __init__s -/
structure AllInits (P : Program) (w : World) (K : PySem.W.Frag) (mg : Str → Option Value) (base : Heap) (cl : Nat → Addr) : Prop where
  z0 : Inits P w K mg base (cl 0) "place"
  z1 : Inits P w K mg base (cl 1) "index"
  z2 : Inits P w K mg base (cl 2) "number"
  z3 : Inits P w K mg base (cl 3) "lot"
  z4 : Inits P w K mg base (cl 4) "number"
  z5 : Inits P w K mg base (cl 5) "mark"
  z6 : Inits P w K mg base (cl 6) "number"
  z7 : Inits P w K mg base (cl 7) "limit"
  z8 : Inits P w K mg base (cl 8) "answer"
  z9 : Inits P w K mg base (cl 9) "many"
section
variable {P : Program} {w : World} {K : PySem.W.Frag} {mg : Str → Option Value} {base : Heap} {f : Addr} {fd : FuncData} {cl : Nat → Addr} {fB fT fA fO fV fF fK : Addr} {dB dT dA dO dV dF dK : FuncData}
theorem ok_law (F : Fun K "law" "law" sLaw f fd) (T : Txt K mg cl fB fT fA fO fV fF fK dB dT dA dO dV dF dK) (Z : AllInits P w K mg base cl) (hsm : ∃ o, base.get? sysModules = some o) : FnG P w K mg base 3 f fd ["_law_script"] (spLaw K) := by
  obtain ⟨o, hm⟩ := hsm
  have GB : FnOk P w K mg base CX0 2 fB dB ["_law_script"] (spBag K) := (ok_bag (k := 0) T.bag.fn T.nAbs).mono (by decide)
  have GT : FnOk P w K mg base CX0 1 fT dT ["_law_bag_here", "_law_many"] spTake := ok_take (k := 0) T.take.fn T.nLen T.nInt
  have GA : FnG P w K mg base 2 fA dA ["_law_found", "_law_due"] spAlike := FnG.le (ok_alike (k := 0) T.alike.fn T.nRepr hm) (by decide)
  have GO : FnOk P w K mg base CX0 2 fO dO ["_law_bag_here", "_law_things"] spOne := ok_one T.one.fn GT T.take.fn.kp T.take.bd T.take.gl T.nLen
  have GV : FnOk P w K mg base CX0 2 fV dV ["_law_bag_here"] spOdd := ok_odd T.odd.fn GT T.take.fn.kp T.take.bd T.take.gl T.nRange
  have GF : FnOk P w K mg base CX0 2 fF dF ["_law_e"] (spFlags cl) := (ok_flags (k := 0) T.flags.fn T.cls T.nIsi).mono (by decide)
  have GK : FnOk P w K mg base CX0 2 fK dK ["_law_found"] (spKept cl) := (ok_kept (k := 0) T.kept.fn T.flds).mono (by decide)
  refine Kten.Fun.okG F scLaw (fun vs H Q E h => ?_) (fun cdv A outer s H vs Q E g hr h => ?_)
  · obtain ⟨a, ns, rfl, _⟩ := h
    rfl
  · obtain ⟨a, ns, rfl, hS, hl, q⟩ := h
    have hr2 : Room 2 (LX P w K mg base f cdv A outer s H E).A := hr
    have gg : (LX P w K mg base f cdv A outer s H E).A.guards = some [] := g
    have hu := hr2.units
    have p := fun i h1 h2 => T.pl i h1 h2
    have B1 : PS (LX P w K mg base f cdv A outer s H E) (lawB 0) tB1 := ps_by (b1_raw hr2 GO T.one.fn.kp T.one.bd T.one.gl GV T.odd.fn.kp T.odd.bd T.odd.gl T.nRange) b1_imp
    have B2 : PS (LX P w K mg base f cdv A outer s H E) (lawB 1) (tB2 cl) := ps_by (b2_raw hr2 T.cls Z.z0 Z.z1 Z.z2 Z.z3 Z.z4) b2_imp
    have B3 : PS (LX P w K mg base f cdv A outer s H E) (lawB 2) (tB3 cl (ksA cl) (ksB cl)) := ps_by (b3_raw hr2 T.cls Z.z5 Z.z6 Z.z7 Z.z8) b3_imp
    have B4 : PS (LX P w K mg base f cdv A outer s H E) (lawB 3) (tB3 cl (fun l => ksA cl l ++ ksB cl l) (ksC cl)) := ps_by (b4_raw hr2 T.cls Z.z9 (p 10 (by decide) (by decide)) (p 11 (by decide) (by decide)) (p 12 (by decide) (by decide)) (p 13 (by decide) (by decide)) (p 14 (by decide) (by decide)) (p 15 (by decide) (by decide))) b4_imp
    have B5 : PS (LX P w K mg base f cdv A outer s H E) (lawB 4) (tB5 cl) := ps_by (b5_raw hu hr2 T.cls GF T.flags.fn.kp T.flags.bd T.flags.gl T.nRange T.nEnum T.nIsi T.nVal) (b5_imp T.cls)
    have B6 : PS (LX P w K mg base f cdv A outer s H E) (lawB 5) tB6 := b6
    have B7 : PS (LX P w K mg base f cdv A outer s H E) (lawB 6) (tB7 cl) := b7 gg hr2 GA T.alike.fn.kp T.alike.bd T.alike.gl GK T.kept.fn.kp T.kept.bd T.kept.gl
    have B8 : PS (LX P w K mg base f cdv A outer s H E) (lawB 7) tB8 := b8 hr2 GV T.odd.fn.kp T.odd.bd T.odd.gl
    have B9 : PS (LX P w K mg base f cdv A outer s H E) (lawB 8) tB9 := b9 gg hr2 hr2 T.cls T.flds GA T.alike.fn.kp T.alike.bd T.alike.gl Z.z0 Z.z6 Z.z8
    have B10 : PS (LX P w K mg base f cdv A outer s H E) (lawB 9) tB10 := b10
    have B11 : PS (LX P w K mg base f cdv A outer s H E) (lawB 10) (tB11 cl) := b11 hr2 T.cls Z.z0 Z.z8
    have B12 : PS (LX P w K mg base f cdv A outer s H E) (lawB 11) tB12 := b12 (by omega)
    have B13 : PS (LX P w K mg base f cdv A outer s H E) (lawB 12) (tB13 cl) := b13 T.cls T.flds
    have B14 : PS (LX P w K mg base f cdv A outer s H E) (lawB 13) (tB14 cl) := b14 gg hr2 T.cls T.flds GA T.alike.fn.kp T.alike.bd T.alike.gl
    have B15 : PS (LX P w K mg base f cdv A outer s H E) (lawB 14) tB15 := b15 hr2 T.cls (p 16 (by decide) (by decide)) GF T.flags.fn.kp T.flags.bd T.flags.gl T.nIsi T.nVal
    have BB : PSs (LX P w K mg base f cdv A outer s H E) [lawB 0, lawB 1, lawB 2, lawB 3, lawB 4, lawB 5, lawB 6, lawB 7, lawB 8, lawB 9, lawB 10, lawB 11, lawB 12, lawB 13, lawB 14] (tTurn cl) :=
      pss_cons B1 (pss_cons B2 (pss_cons B3 (pss_cons B4 (pss_cons B5 (pss_cons B6 (pss_cons B7 (pss_cons B8 (pss_cons B9 (pss_cons B10 (pss_cons B11 (pss_cons B12 (pss_cons B13 (pss_cons B14 (pss_one B15))))))))))))))
    refine ⟨_, pss_cons (ps_set (i := 1) scLaw.nd rfl (.inr sl__law_bag_here) (pe_call GB hr2 sl__law_bag T.bag.gl T.bag.fn.kp T.bag.bd .nil pass0 (pa_cons (pv 0) pa_nil)))
      (pss_cons (ps_for PassesOwn.never rfl (pi_range1 sl_range T.nRange (pa_cons pe_int pa_nil)) (pg_name (i := 2) scLaw.nd rfl (.inr sl__law_turn)) BB)
      (pss_one (ps_ret pe_bl))), ?_⟩
    refine ⟨.ref a, rfl, a, ns, rfl, hS, hl, fun H1 b q1 cs sm nb nq hB => ?_⟩
    refine ⟨3, rfl, by decide, by decide, for_range (lo := 0) (n := 3) (fun i σ' H' => ∃ y2 y3 y4 y5 y6 y7 y8 y9 y10 y11, σ' = [some (.ref a), some (.ref b), y2, y3, y4, y5, y6, y7, y8, y9, y10, y11] ∧ Bag H' b q1 cs) ⟨_, _, _, _, _, _, _, _, _, _, rfl, hB⟩ ?_ ?_⟩
    · rintro i σ' H' hi ⟨y2, y3, y4, y5, y6, y7, y8, y9, y10, y11, rfl, hB'⟩
      refine gn_of ?_
      exact turn cl _ H' a b q1 cs (0 + i) y3 y4 y5 y6 y7 y8 y9 y10 y11 hB' (by omega) (by omega) fun z3 z4 z5 z6 z7 z8 z9 z10 z11 H2 hB2 => ⟨_, _, _, _, _, _, _, _, _, _, rfl, hB2⟩
    · rintro σ' H' ⟨y2, y3, y4, y5, y6, y7, y8, y9, y10, y11, rfl, hB'⟩
      exact q H'
end
end Kten
set_option maxRecDepth 100000
set_option maxHeartbeats 4000000
namespace Kten
open PySem PySem.Spec PyProof.Rows L2 Evl
/-! ### what the top has written -/
def errKB (K : PySem.W.Frag) (C : Addr) : Bool :=
  (PySem.W.clsIn K C).isSome && (decide (PySem.W.findIn K (.ref C) "__getattribute__" = some (some (.builtin "BaseException.__getattribute__"))) && (decide (PySem.W.findIn K (.ref C) "__getattr__" = some none) &&
    (decide (PySem.W.subIn K (.ref C) (.type "BaseException") = some true) && (decide (PySem.W.findIn K (.ref C) "__class__" = some (some (.builtin "object.__class__"))) &&
    (decide (PySem.W.specialIn K (.builtin "object.__class__") "__get__" = some (some (.builtin "getset_descriptor.__get__"))) && (decide (PySem.W.takesIn K (.builtin "object.__class__") = some true) &&
    (decide (PySem.W.mroIn K C (.type "object") = some true) && PySem.W.hasDictIn K C)))))))
theorem errKB_ok {K : PySem.W.Frag} {C : Addr} (h : errKB K C = true) : ErrK K C := by
  unfold errKB at h
  simp only [Bool.and_eq_true, decide_eq_true_eq] at h
  obtain ⟨h1, h2, h3, h4, h5, h6, h7, h8, h9⟩ := h
  exact ⟨h1, h2, h3, h4, h5, h6, h7, h8, h9⟩
def errAll (K : PySem.W.Frag) (cs : List Addr) : Bool := cs.all (errKB K)
def kitAll (K : PySem.W.Frag) (cs : List Addr) : Bool := (List.range 17).all fun i => (List.range 16).all fun j => decide (PySem.W.kitOne K (.ref (cs.getD i 0)) (.ref (cs.getD j 0)) = some (decide (i = j)))
def topAll (K : PySem.W.Frag) (cs : List Addr) : Bool := (List.range 17).all fun i => decide (PySem.W.kitOne K (.ref (cs.getD i 0)) (.ref (cs.getD 16 0)) = some true) && decide (PySem.W.kitOne K (.ref (cs.getD i 0)) (.type "ValueError") = some true)
theorem getD_mem {cs : List Addr} {i : Nat} (h : i < cs.length) : cs.getD i 0 ∈ cs := by
  rw [List.getD_eq_getElem?_getD, List.getElem?_eq_getElem h]
  exact List.getElem_mem h
/-- an __init__ of the text -/
theorem inits_mk {P : Program} {w : World} {K : PySem.W.Frag} {mg : Str → Option Value} {base : Heap} {C fI N : Addr} {f nm q qual : Str} {bs bm sub : List Value} {sn : List Str} {ab : Bool} {col : Option Bool} {dd : Option Addr} {m0 m1 m2 m3 m5 : Option Value} {st : Stmt}
    {oc : Value} {od an : Option Addr} {sl : Array (Option Value)} {kV dc pm cd ct : Value} {p1 p2 p3 p4 : Pos}
    (xL : K.lookup C = some (excClassObj nm q C N bs bm true sn sub ab col dd m0 m1 m2 m3 m5 "ValueError.__new__")) (hbm : PySem.HandSPX.refsVE bm = true) (sa : PySem.W.findIn K (.ref C) "__setattr__" = some (some (.builtin "object.__setattr__")))
    (exC : PySem.W.subIn K (.ref C) (.type "BaseException") = some true) (tyC : PySem.W.typeIn K (.ref C) = some (.type "type")) (kC : PySem.W.keepIn K (.ref C) = true) (iC : PySem.W.findIn K (.ref C) "__init__" = some (some (.ref fI)))
    (tI : PySem.W.typeIn K (.ref fI) = some (.type "function")) (lI : K.lookup fI = some ⟨oc, od, .func (PySem.W.fnOf "__init__" qual (defArgs st) (defBody st) (defScope st) .none kV dc pm an cd ct), sl⟩) (cI : PySem.W.codeIn K cd qual = true) (kI : PySem.W.keepIn K (.ref fI) = true)
    (hno : PySem.W.findIn K (.ref C) f = some none) (sc : FnScope ["self", f] ["self", f] (defScope st)) (hst : defBody st = [.Assign [.Attribute (.Name "self" p1) f p2] (.Name f p3) p4]) (hs : (defScope st).names.lookup ("self" : Str) = some .local) (hf : (defScope st).names.lookup f = some .local)
    (d1 : (f == ("__debug__" : Str)) = false) (d2 : (f == ("__classdict__" : Str)) = false)
    (hb : ∀ (kV doc pm : Value) (an : Option Addr) (cdv ct : Value) (us : List Value), us.length = (["self", f] : List Str).length → bindArgs (PySem.W.fnOf "__init__" qual (defArgs st) (defBody st) (defScope st) .none kV doc pm an cdv ct) ⟨us, []⟩ = pure ((["self", f] : List Str).zip us)) :
    Inits P w K mg base C f := by
  have T : OexC K C := ⟨⟨nm, q, N, bs, bm, sn, sub, ab, col, dd, m0, m1, m2, m3, m5, xL, hbm⟩, sa, exC, tyC, kC⟩
  have F := fun_mk (st := st) lI cI kI
  exact ⟨⟨fI, _, T, iC, tI, ok_init (k := 0) F sc hst hs hf d1 d2 T hno, F.binds hb⟩⟩
abbrev sI0 : Stmt := inClass (topS 2) 0
theorem scI0 : FnScope ["self", "place"] ["self", "place"] (defScope sI0) := ⟨rfl, rfl, rfl, by decide +kernel, rfl, by decide +kernel, by decide +kernel⟩
abbrev sI1 : Stmt := inClass (topS 3) 0
theorem scI1 : FnScope ["self", "index"] ["self", "index"] (defScope sI1) := ⟨rfl, rfl, rfl, by decide +kernel, rfl, by decide +kernel, by decide +kernel⟩
abbrev sI2 : Stmt := inClass (topS 4) 0
theorem scI2 : FnScope ["self", "number"] ["self", "number"] (defScope sI2) := ⟨rfl, rfl, rfl, by decide +kernel, rfl, by decide +kernel, by decide +kernel⟩
abbrev sI3 : Stmt := inClass (topS 5) 0
theorem scI3 : FnScope ["self", "lot"] ["self", "lot"] (defScope sI3) := ⟨rfl, rfl, rfl, by decide +kernel, rfl, by decide +kernel, by decide +kernel⟩
abbrev sI4 : Stmt := inClass (topS 6) 0
theorem scI4 : FnScope ["self", "number"] ["self", "number"] (defScope sI4) := ⟨rfl, rfl, rfl, by decide +kernel, rfl, by decide +kernel, by decide +kernel⟩
abbrev sI5 : Stmt := inClass (topS 7) 0
theorem scI5 : FnScope ["self", "mark"] ["self", "mark"] (defScope sI5) := ⟨rfl, rfl, rfl, by decide +kernel, rfl, by decide +kernel, by decide +kernel⟩
abbrev sI6 : Stmt := inClass (topS 8) 0
theorem scI6 : FnScope ["self", "number"] ["self", "number"] (defScope sI6) := ⟨rfl, rfl, rfl, by decide +kernel, rfl, by decide +kernel, by decide +kernel⟩
abbrev sI7 : Stmt := inClass (topS 11) 0
theorem scI7 : FnScope ["self", "limit"] ["self", "limit"] (defScope sI7) := ⟨rfl, rfl, rfl, by decide +kernel, rfl, by decide +kernel, by decide +kernel⟩
abbrev sI8 : Stmt := inClass (topS 12) 0
theorem scI8 : FnScope ["self", "answer"] ["self", "answer"] (defScope sI8) := ⟨rfl, rfl, rfl, by decide +kernel, rfl, by decide +kernel, by decide +kernel⟩
abbrev sI9 : Stmt := inClass (topS 15) 0
theorem scI9 : FnScope ["self", "many"] ["self", "many"] (defScope sI9) := ⟨rfl, rfl, rfl, by decide +kernel, rfl, by decide +kernel, by decide +kernel⟩
theorem all_mk {P : Program} {w : World} {K : PySem.W.Frag} {h : Heap} {mg : Str → Option Value} {fa : Addr} (X : K.In h) (G : h.Ns mainGlobals mg) (hfa : mg "law" = some (.ref fa))
    {C0 C1 C2 C3 C4 C5 C6 C7 C8 C9 C10 C11 C12 C13 C14 C15 C16 f0 N0 f1 N1 f2 N2 f3 N3 f4 N4 f5 N5 f6 N6 f7 N7 f8 N8 f9 N9 fB fT fA fO fV fF fK fL : Addr}
    {nm0 q0 nm1 q1 nm2 q2 nm3 q3 nm4 q4 nm5 q5 nm6 q6 nm7 q7 nm8 q8 nm9 q9 : Str}
    {bs0 bm0 sub0 bs1 bm1 sub1 bs2 bm2 sub2 bs3 bm3 sub3 bs4 bm4 sub4 bs5 bm5 sub5 bs6 bm6 sub6 bs7 bm7 sub7 bs8 bm8 sub8 bs9 bm9 sub9 : List Value}
    {sn0 sn1 sn2 sn3 sn4 sn5 sn6 sn7 sn8 sn9 : List Str}
    {ab0 ab1 ab2 ab3 ab4 ab5 ab6 ab7 ab8 ab9 : Bool}
    {col0 col1 col2 col3 col4 col5 col6 col7 col8 col9 : Option Bool}
    {m00 m10 m20 m30 m50 m01 m11 m21 m31 m51 m02 m12 m22 m32 m52 m03 m13 m23 m33 m53 m04 m14 m24 m34 m54 m05 m15 m25 m35 m55 m06 m16 m26 m36 m56 m07 m17 m27 m37 m57 m08 m18 m28 m38 m58 m09 m19 m29 m39 m59 : Option Value}
    {dd0 dd1 dd2 dd3 dd4 dd5 dd6 dd7 dd8 dd9 od0 an0 od1 an1 od2 an2 od3 an3 od4 an4 od5 an5 od6 an6 od7 an7 od8 an8 od9 an9 odB anB odT anT odA anA odO anO odV anV odF anF odK anK odL anL : Option Addr}
    {sl0 sl1 sl2 sl3 sl4 sl5 sl6 sl7 sl8 sl9 slB slT slA slO slV slF slK slL : Array (Option Value)}
    {oc0 kV0 dc0 pm0 cd0 ct0 oc1 kV1 dc1 pm1 cd1 ct1 oc2 kV2 dc2 pm2 cd2 ct2 oc3 kV3 dc3 pm3 cd3 ct3 oc4 kV4 dc4 pm4 cd4 ct4 oc5 kV5 dc5 pm5 cd5 ct5 oc6 kV6 dc6 pm6 cd6 ct6 oc7 kV7 dc7 pm7 cd7 ct7 oc8 kV8 dc8 pm8 cd8 ct8 oc9 kV9 dc9 pm9 cd9 ct9 ocB kVB dcB pmB cdB ctB ocT kVT dcT pmT cdT ctT ocA kVA dcA pmA cdA ctA ocO kVO dcO pmO cdO ctO ocV kVV dcV pmV cdV ctV ocF kVF dcF pmF cdF ctF ocK kVK dcK pmK cdK ctK ocL kVL dcL pmL cdL ctL : Value}
    (a0 : PySem.W.nsIn K mainGlobals "Wrong" = some (some (.ref C0)))
    (a1 : PySem.W.nsIn K mainGlobals "NoRow" = some (some (.ref C1)))
    (a2 : PySem.W.nsIn K mainGlobals "NoThing" = some (some (.ref C2)))
    (a3 : PySem.W.nsIn K mainGlobals "NoLot" = some (some (.ref C3)))
    (a4 : PySem.W.nsIn K mainGlobals "NoNumber" = some (some (.ref C4)))
    (a5 : PySem.W.nsIn K mainGlobals "NoMark" = some (some (.ref C5)))
    (a6 : PySem.W.nsIn K mainGlobals "Clash" = some (some (.ref C6)))
    (a7 : PySem.W.nsIn K mainGlobals "TooMany" = some (some (.ref C7)))
    (a8 : PySem.W.nsIn K mainGlobals "Refused" = some (some (.ref C8)))
    (a9 : PySem.W.nsIn K mainGlobals "NoEntry" = some (some (.ref C9)))
    (a10 : PySem.W.nsIn K mainGlobals "NotPossible" = some (some (.ref C10)))
    (a11 : PySem.W.nsIn K mainGlobals "Unlike" = some (some (.ref C11)))
    (a12 : PySem.W.nsIn K mainGlobals "BadAnswer" = some (some (.ref C12)))
    (a13 : PySem.W.nsIn K mainGlobals "Nothing" = some (some (.ref C13)))
    (a14 : PySem.W.nsIn K mainGlobals "NoText" = some (some (.ref C14)))
    (a15 : PySem.W.nsIn K mainGlobals "NoCommand" = some (some (.ref C15)))
    (a16 : PySem.W.nsIn K mainGlobals "TheseError" = some (some (.ref C16)))
    (x0 : K.lookup C0 = some (excClassObj nm0 q0 C0 N0 bs0 bm0 true sn0 sub0 ab0 col0 dd0 m00 m10 m20 m30 m50 "ValueError.__new__"))
    (y0 : PySem.HandSPX.refsVE bm0 = true)
    (s0 : PySem.W.findIn K (.ref C0) "__setattr__" = some (some (.builtin "object.__setattr__")))
    (e0 : PySem.W.subIn K (.ref C0) (.type "BaseException") = some true)
    (t0 : PySem.W.typeIn K (.ref C0) = some (.type "type"))
    (k0 : PySem.W.keepIn K (.ref C0) = true)
    (i0 : PySem.W.findIn K (.ref C0) "__init__" = some (some (.ref f0)))
    (u0 : PySem.W.typeIn K (.ref f0) = some (.type "function"))
    (l0 : K.lookup f0 = some ⟨oc0, od0, .func (PySem.W.fnOf "__init__" "Wrong.__init__" (defArgs sI0) (defBody sI0) (defScope sI0) .none kV0 dc0 pm0 an0 cd0 ct0), sl0⟩)
    (c0 : PySem.W.codeIn K cd0 "Wrong.__init__" = true)
    (w0 : PySem.W.keepIn K (.ref f0) = true)
    (n0 : PySem.W.findIn K (.ref C0) "place" = some none)
    (x1 : K.lookup C1 = some (excClassObj nm1 q1 C1 N1 bs1 bm1 true sn1 sub1 ab1 col1 dd1 m01 m11 m21 m31 m51 "ValueError.__new__"))
    (y1 : PySem.HandSPX.refsVE bm1 = true)
    (s1 : PySem.W.findIn K (.ref C1) "__setattr__" = some (some (.builtin "object.__setattr__")))
    (e1 : PySem.W.subIn K (.ref C1) (.type "BaseException") = some true)
    (t1 : PySem.W.typeIn K (.ref C1) = some (.type "type"))
    (k1 : PySem.W.keepIn K (.ref C1) = true)
    (i1 : PySem.W.findIn K (.ref C1) "__init__" = some (some (.ref f1)))
    (u1 : PySem.W.typeIn K (.ref f1) = some (.type "function"))
    (l1 : K.lookup f1 = some ⟨oc1, od1, .func (PySem.W.fnOf "__init__" "NoRow.__init__" (defArgs sI1) (defBody sI1) (defScope sI1) .none kV1 dc1 pm1 an1 cd1 ct1), sl1⟩)
    (c1 : PySem.W.codeIn K cd1 "NoRow.__init__" = true)
    (w1 : PySem.W.keepIn K (.ref f1) = true)
    (n1 : PySem.W.findIn K (.ref C1) "index" = some none)
    (x2 : K.lookup C2 = some (excClassObj nm2 q2 C2 N2 bs2 bm2 true sn2 sub2 ab2 col2 dd2 m02 m12 m22 m32 m52 "ValueError.__new__"))
    (y2 : PySem.HandSPX.refsVE bm2 = true)
    (s2 : PySem.W.findIn K (.ref C2) "__setattr__" = some (some (.builtin "object.__setattr__")))
    (e2 : PySem.W.subIn K (.ref C2) (.type "BaseException") = some true)
    (t2 : PySem.W.typeIn K (.ref C2) = some (.type "type"))
    (k2 : PySem.W.keepIn K (.ref C2) = true)
    (i2 : PySem.W.findIn K (.ref C2) "__init__" = some (some (.ref f2)))
    (u2 : PySem.W.typeIn K (.ref f2) = some (.type "function"))
    (l2 : K.lookup f2 = some ⟨oc2, od2, .func (PySem.W.fnOf "__init__" "NoThing.__init__" (defArgs sI2) (defBody sI2) (defScope sI2) .none kV2 dc2 pm2 an2 cd2 ct2), sl2⟩)
    (c2 : PySem.W.codeIn K cd2 "NoThing.__init__" = true)
    (w2 : PySem.W.keepIn K (.ref f2) = true)
    (n2 : PySem.W.findIn K (.ref C2) "number" = some none)
    (x3 : K.lookup C3 = some (excClassObj nm3 q3 C3 N3 bs3 bm3 true sn3 sub3 ab3 col3 dd3 m03 m13 m23 m33 m53 "ValueError.__new__"))
    (y3 : PySem.HandSPX.refsVE bm3 = true)
    (s3 : PySem.W.findIn K (.ref C3) "__setattr__" = some (some (.builtin "object.__setattr__")))
    (e3 : PySem.W.subIn K (.ref C3) (.type "BaseException") = some true)
    (t3 : PySem.W.typeIn K (.ref C3) = some (.type "type"))
    (k3 : PySem.W.keepIn K (.ref C3) = true)
    (i3 : PySem.W.findIn K (.ref C3) "__init__" = some (some (.ref f3)))
    (u3 : PySem.W.typeIn K (.ref f3) = some (.type "function"))
    (l3 : K.lookup f3 = some ⟨oc3, od3, .func (PySem.W.fnOf "__init__" "NoLot.__init__" (defArgs sI3) (defBody sI3) (defScope sI3) .none kV3 dc3 pm3 an3 cd3 ct3), sl3⟩)
    (c3 : PySem.W.codeIn K cd3 "NoLot.__init__" = true)
    (w3 : PySem.W.keepIn K (.ref f3) = true)
    (n3 : PySem.W.findIn K (.ref C3) "lot" = some none)
    (x4 : K.lookup C4 = some (excClassObj nm4 q4 C4 N4 bs4 bm4 true sn4 sub4 ab4 col4 dd4 m04 m14 m24 m34 m54 "ValueError.__new__"))
    (y4 : PySem.HandSPX.refsVE bm4 = true)
    (s4 : PySem.W.findIn K (.ref C4) "__setattr__" = some (some (.builtin "object.__setattr__")))
    (e4 : PySem.W.subIn K (.ref C4) (.type "BaseException") = some true)
    (t4 : PySem.W.typeIn K (.ref C4) = some (.type "type"))
    (k4 : PySem.W.keepIn K (.ref C4) = true)
    (i4 : PySem.W.findIn K (.ref C4) "__init__" = some (some (.ref f4)))
    (u4 : PySem.W.typeIn K (.ref f4) = some (.type "function"))
    (l4 : K.lookup f4 = some ⟨oc4, od4, .func (PySem.W.fnOf "__init__" "NoNumber.__init__" (defArgs sI4) (defBody sI4) (defScope sI4) .none kV4 dc4 pm4 an4 cd4 ct4), sl4⟩)
    (c4 : PySem.W.codeIn K cd4 "NoNumber.__init__" = true)
    (w4 : PySem.W.keepIn K (.ref f4) = true)
    (n4 : PySem.W.findIn K (.ref C4) "number" = some none)
    (x5 : K.lookup C5 = some (excClassObj nm5 q5 C5 N5 bs5 bm5 true sn5 sub5 ab5 col5 dd5 m05 m15 m25 m35 m55 "ValueError.__new__"))
    (y5 : PySem.HandSPX.refsVE bm5 = true)
    (s5 : PySem.W.findIn K (.ref C5) "__setattr__" = some (some (.builtin "object.__setattr__")))
    (e5 : PySem.W.subIn K (.ref C5) (.type "BaseException") = some true)
    (t5 : PySem.W.typeIn K (.ref C5) = some (.type "type"))
    (k5 : PySem.W.keepIn K (.ref C5) = true)
    (i5 : PySem.W.findIn K (.ref C5) "__init__" = some (some (.ref f5)))
    (u5 : PySem.W.typeIn K (.ref f5) = some (.type "function"))
    (l5 : K.lookup f5 = some ⟨oc5, od5, .func (PySem.W.fnOf "__init__" "NoMark.__init__" (defArgs sI5) (defBody sI5) (defScope sI5) .none kV5 dc5 pm5 an5 cd5 ct5), sl5⟩)
    (c5 : PySem.W.codeIn K cd5 "NoMark.__init__" = true)
    (w5 : PySem.W.keepIn K (.ref f5) = true)
    (n5 : PySem.W.findIn K (.ref C5) "mark" = some none)
    (x6 : K.lookup C6 = some (excClassObj nm6 q6 C6 N6 bs6 bm6 true sn6 sub6 ab6 col6 dd6 m06 m16 m26 m36 m56 "ValueError.__new__"))
    (y6 : PySem.HandSPX.refsVE bm6 = true)
    (s6 : PySem.W.findIn K (.ref C6) "__setattr__" = some (some (.builtin "object.__setattr__")))
    (e6 : PySem.W.subIn K (.ref C6) (.type "BaseException") = some true)
    (t6 : PySem.W.typeIn K (.ref C6) = some (.type "type"))
    (k6 : PySem.W.keepIn K (.ref C6) = true)
    (i6 : PySem.W.findIn K (.ref C6) "__init__" = some (some (.ref f6)))
    (u6 : PySem.W.typeIn K (.ref f6) = some (.type "function"))
    (l6 : K.lookup f6 = some ⟨oc6, od6, .func (PySem.W.fnOf "__init__" "Clash.__init__" (defArgs sI6) (defBody sI6) (defScope sI6) .none kV6 dc6 pm6 an6 cd6 ct6), sl6⟩)
    (c6 : PySem.W.codeIn K cd6 "Clash.__init__" = true)
    (w6 : PySem.W.keepIn K (.ref f6) = true)
    (n6 : PySem.W.findIn K (.ref C6) "number" = some none)
    (x7 : K.lookup C7 = some (excClassObj nm7 q7 C7 N7 bs7 bm7 true sn7 sub7 ab7 col7 dd7 m07 m17 m27 m37 m57 "ValueError.__new__"))
    (y7 : PySem.HandSPX.refsVE bm7 = true)
    (s7 : PySem.W.findIn K (.ref C7) "__setattr__" = some (some (.builtin "object.__setattr__")))
    (e7 : PySem.W.subIn K (.ref C7) (.type "BaseException") = some true)
    (t7 : PySem.W.typeIn K (.ref C7) = some (.type "type"))
    (k7 : PySem.W.keepIn K (.ref C7) = true)
    (i7 : PySem.W.findIn K (.ref C7) "__init__" = some (some (.ref f7)))
    (u7 : PySem.W.typeIn K (.ref f7) = some (.type "function"))
    (l7 : K.lookup f7 = some ⟨oc7, od7, .func (PySem.W.fnOf "__init__" "TooMany.__init__" (defArgs sI7) (defBody sI7) (defScope sI7) .none kV7 dc7 pm7 an7 cd7 ct7), sl7⟩)
    (c7 : PySem.W.codeIn K cd7 "TooMany.__init__" = true)
    (w7 : PySem.W.keepIn K (.ref f7) = true)
    (n7 : PySem.W.findIn K (.ref C7) "limit" = some none)
    (x8 : K.lookup C8 = some (excClassObj nm8 q8 C8 N8 bs8 bm8 true sn8 sub8 ab8 col8 dd8 m08 m18 m28 m38 m58 "ValueError.__new__"))
    (y8 : PySem.HandSPX.refsVE bm8 = true)
    (s8 : PySem.W.findIn K (.ref C8) "__setattr__" = some (some (.builtin "object.__setattr__")))
    (e8 : PySem.W.subIn K (.ref C8) (.type "BaseException") = some true)
    (t8 : PySem.W.typeIn K (.ref C8) = some (.type "type"))
    (k8 : PySem.W.keepIn K (.ref C8) = true)
    (i8 : PySem.W.findIn K (.ref C8) "__init__" = some (some (.ref f8)))
    (u8 : PySem.W.typeIn K (.ref f8) = some (.type "function"))
    (l8 : K.lookup f8 = some ⟨oc8, od8, .func (PySem.W.fnOf "__init__" "Refused.__init__" (defArgs sI8) (defBody sI8) (defScope sI8) .none kV8 dc8 pm8 an8 cd8 ct8), sl8⟩)
    (c8 : PySem.W.codeIn K cd8 "Refused.__init__" = true)
    (w8 : PySem.W.keepIn K (.ref f8) = true)
    (n8 : PySem.W.findIn K (.ref C8) "answer" = some none)
    (x9 : K.lookup C9 = some (excClassObj nm9 q9 C9 N9 bs9 bm9 true sn9 sub9 ab9 col9 dd9 m09 m19 m29 m39 m59 "ValueError.__new__"))
    (y9 : PySem.HandSPX.refsVE bm9 = true)
    (s9 : PySem.W.findIn K (.ref C9) "__setattr__" = some (some (.builtin "object.__setattr__")))
    (e9 : PySem.W.subIn K (.ref C9) (.type "BaseException") = some true)
    (t9 : PySem.W.typeIn K (.ref C9) = some (.type "type"))
    (k9 : PySem.W.keepIn K (.ref C9) = true)
    (i9 : PySem.W.findIn K (.ref C9) "__init__" = some (some (.ref f9)))
    (u9 : PySem.W.typeIn K (.ref f9) = some (.type "function"))
    (l9 : K.lookup f9 = some ⟨oc9, od9, .func (PySem.W.fnOf "__init__" "NoEntry.__init__" (defArgs sI9) (defBody sI9) (defScope sI9) .none kV9 dc9 pm9 an9 cd9 ct9), sl9⟩)
    (c9 : PySem.W.codeIn K cd9 "NoEntry.__init__" = true)
    (w9 : PySem.W.keepIn K (.ref f9) = true)
    (n9 : PySem.W.findIn K (.ref C9) "many" = some none)
    (x10 : PySem.W.excIn K C10 [.type "ValueError", .type "Exception", .type "BaseException", .type "object"] "ValueError.__new__" = true)
    (k10 : PySem.W.keepIn K (.ref C10) = true)
    (x11 : PySem.W.excIn K C11 [.type "ValueError", .type "Exception", .type "BaseException", .type "object"] "ValueError.__new__" = true)
    (k11 : PySem.W.keepIn K (.ref C11) = true)
    (x12 : PySem.W.excIn K C12 [.type "ValueError", .type "Exception", .type "BaseException", .type "object"] "ValueError.__new__" = true)
    (k12 : PySem.W.keepIn K (.ref C12) = true)
    (x13 : PySem.W.excIn K C13 [.type "ValueError", .type "Exception", .type "BaseException", .type "object"] "ValueError.__new__" = true)
    (k13 : PySem.W.keepIn K (.ref C13) = true)
    (x14 : PySem.W.excIn K C14 [.type "ValueError", .type "Exception", .type "BaseException", .type "object"] "ValueError.__new__" = true)
    (k14 : PySem.W.keepIn K (.ref C14) = true)
    (x15 : PySem.W.excIn K C15 [.type "ValueError", .type "Exception", .type "BaseException", .type "object"] "ValueError.__new__" = true)
    (k15 : PySem.W.keepIn K (.ref C15) = true)
    (x16 : PySem.W.excIn K C16 [.type "ValueError", .type "Exception", .type "BaseException", .type "object"] "ValueError.__new__" = true)
    (k16 : PySem.W.keepIn K (.ref C16) = true)
    (zErr : errAll K [C0, C1, C2, C3, C4, C5, C6, C7, C8, C9, C10, C11, C12, C13, C14, C15, C16] = true)
    (zKit : kitAll K [C0, C1, C2, C3, C4, C5, C6, C7, C8, C9, C10, C11, C12, C13, C14, C15, C16] = true)
    (zTop : topAll K [C0, C1, C2, C3, C4, C5, C6, C7, C8, C9, C10, C11, C12, C13, C14, C15, C16] = true)
    (aB : PySem.W.nsIn K mainGlobals "_law_bag" = some (some (.ref fB)))
    (lB : K.lookup fB = some ⟨ocB, odB, .func (PySem.W.fnOf "_law_bag" "_law_bag" (defArgs sBag) (defBody sBag) (defScope sBag) .none kVB dcB pmB anB cdB ctB), slB⟩)
    (cB : PySem.W.codeIn K cdB "_law_bag" = true)
    (kB : PySem.W.keepIn K (.ref fB) = true)
    (aT : PySem.W.nsIn K mainGlobals "_law_take" = some (some (.ref fT)))
    (lT : K.lookup fT = some ⟨ocT, odT, .func (PySem.W.fnOf "_law_take" "_law_take" (defArgs sTake) (defBody sTake) (defScope sTake) .none kVT dcT pmT anT cdT ctT), slT⟩)
    (cT : PySem.W.codeIn K cdT "_law_take" = true)
    (kT : PySem.W.keepIn K (.ref fT) = true)
    (aA : PySem.W.nsIn K mainGlobals "_law_alike" = some (some (.ref fA)))
    (lA : K.lookup fA = some ⟨ocA, odA, .func (PySem.W.fnOf "_law_alike" "_law_alike" (defArgs sAlike) (defBody sAlike) (defScope sAlike) .none kVA dcA pmA anA cdA ctA), slA⟩)
    (cA : PySem.W.codeIn K cdA "_law_alike" = true)
    (kA : PySem.W.keepIn K (.ref fA) = true)
    (aO : PySem.W.nsIn K mainGlobals "_law_one" = some (some (.ref fO)))
    (lO : K.lookup fO = some ⟨ocO, odO, .func (PySem.W.fnOf "_law_one" "_law_one" (defArgs sOne) (defBody sOne) (defScope sOne) .none kVO dcO pmO anO cdO ctO), slO⟩)
    (cO : PySem.W.codeIn K cdO "_law_one" = true)
    (kO : PySem.W.keepIn K (.ref fO) = true)
    (aV : PySem.W.nsIn K mainGlobals "_law_odd_value" = some (some (.ref fV)))
    (lV : K.lookup fV = some ⟨ocV, odV, .func (PySem.W.fnOf "_law_odd_value" "_law_odd_value" (defArgs sOdd) (defBody sOdd) (defScope sOdd) .none kVV dcV pmV anV cdV ctV), slV⟩)
    (cV : PySem.W.codeIn K cdV "_law_odd_value" = true)
    (kV : PySem.W.keepIn K (.ref fV) = true)
    (aF : PySem.W.nsIn K mainGlobals "_law_flags" = some (some (.ref fF)))
    (lF : K.lookup fF = some ⟨ocF, odF, .func (PySem.W.fnOf "_law_flags" "_law_flags" (defArgs sFlags) (defBody sFlags) (defScope sFlags) .none kVF dcF pmF anF cdF ctF), slF⟩)
    (cF : PySem.W.codeIn K cdF "_law_flags" = true)
    (kF : PySem.W.keepIn K (.ref fF) = true)
    (aK : PySem.W.nsIn K mainGlobals "_law_kept" = some (some (.ref fK)))
    (lK : K.lookup fK = some ⟨ocK, odK, .func (PySem.W.fnOf "_law_kept" "_law_kept" (defArgs sKept) (defBody sKept) (defScope sKept) .none kVK dcK pmK anK cdK ctK), slK⟩)
    (cK : PySem.W.codeIn K cdK "_law_kept" = true)
    (kK : PySem.W.keepIn K (.ref fK) = true)
    (aL : PySem.W.nsIn K mainGlobals "law" = some (some (.ref fL)))
    (lL : K.lookup fL = some ⟨ocL, odL, .func (PySem.W.fnOf "law" "law" (defArgs sLaw) (defBody sLaw) (defScope sLaw) .none kVL dcL pmL anL cdL ctL), slL⟩)
    (cL : PySem.W.codeIn K cdL "law" = true)
    (kL : PySem.W.keepIn K (.ref fL) = true)
    (znLen : PySem.W.nsIn K mainGlobals "len" = some none)
    (znInt : PySem.W.nsIn K mainGlobals "int" = some none)
    (znAbs : PySem.W.nsIn K mainGlobals "abs" = some none)
    (znRange : PySem.W.nsIn K mainGlobals "range" = some none)
    (znRepr : PySem.W.nsIn K mainGlobals "repr" = some none)
    (znEnum : PySem.W.nsIn K mainGlobals "enumerate" = some none)
    (znIsi : PySem.W.nsIn K mainGlobals "isinstance" = some none)
    (znVal : PySem.W.nsIn K mainGlobals "ValueError" = some none) :
    ∃ fd : FuncData, (∀ (s : Shared) (v : Value), BindsTo s fd ⟨[v], []⟩ [("_law_script", v)]) ∧ ∀ base : Heap, K.In base → base.Ns mainGlobals mg → (∃ o, base.get? sysModules = some o) → FnG P w K mg base 3 fa fd ["_law_script"] (spLaw K) := by
  have e := hfa.symm.trans (PySem.W.mg_of X G aL)
  cases e
  have FB := fun_mk (st := sBag) lB cB kB
  have DB : Def K mg "_law_bag" sBag ["_law_script"] fB _ := ⟨FB, FB.binds fun _ _ _ _ _ _ us hl => match us, hl with | [_], _ => rfl, PySem.W.mg_of X G aB⟩
  have FT := fun_mk (st := sTake) lT cT kT
  have DT : Def K mg "_law_take" sTake ["_law_bag_here", "_law_many"] fT _ := ⟨FT, FT.binds fun _ _ _ _ _ _ us hl => match us, hl with | [_, _], _ => rfl, PySem.W.mg_of X G aT⟩
  have FA := fun_mk (st := sAlike) lA cA kA
  have DA : Def K mg "_law_alike" sAlike ["_law_found", "_law_due"] fA _ := ⟨FA, FA.binds fun _ _ _ _ _ _ us hl => match us, hl with | [_, _], _ => rfl, PySem.W.mg_of X G aA⟩
  have FO := fun_mk (st := sOne) lO cO kO
  have DO : Def K mg "_law_one" sOne ["_law_bag_here", "_law_things"] fO _ := ⟨FO, FO.binds fun _ _ _ _ _ _ us hl => match us, hl with | [_, _], _ => rfl, PySem.W.mg_of X G aO⟩
  have FV := fun_mk (st := sOdd) lV cV kV
  have DV : Def K mg "_law_odd_value" sOdd ["_law_bag_here"] fV _ := ⟨FV, FV.binds fun _ _ _ _ _ _ us hl => match us, hl with | [_], _ => rfl, PySem.W.mg_of X G aV⟩
  have FF := fun_mk (st := sFlags) lF cF kF
  have DF : Def K mg "_law_flags" sFlags ["_law_e"] fF _ := ⟨FF, FF.binds fun _ _ _ _ _ _ us hl => match us, hl with | [_], _ => rfl, PySem.W.mg_of X G aF⟩
  have FK := fun_mk (st := sKept) lK cK kK
  have DK : Def K mg "_law_kept" sKept ["_law_found"] fK _ := ⟨FK, FK.binds fun _ _ _ _ _ _ us hl => match us, hl with | [_], _ => rfl, PySem.W.mg_of X G aK⟩
  have FL := fun_mk (st := sLaw) lL cL kL
  let cl : Nat → Addr := fun i => ([C0, C1, C2, C3, C4, C5, C6, C7, C8, C9, C10, C11, C12, C13, C14, C15, C16] : List Addr).getD i 0
  have ek : ∀ i, i ≤ 16 → ErrK K (cl i) := fun i hi => errKB_ok (List.all_eq_true.mp zErr _ (getD_mem (by show i < 17; omega)))
  have kit : ∀ i j, i ≤ 16 → j < 16 → PySem.W.kitOne K (.ref (cl i)) (.ref (cl j)) = some (decide (i = j)) := fun i j hi hj =>
    of_decide_eq_true (List.all_eq_true.mp (List.all_eq_true.mp zKit i (List.mem_range.mpr (by omega))) j (List.mem_range.mpr hj))
  have top := fun i (hi : i ≤ 16) => Bool.and_eq_true_iff.mp (List.all_eq_true.mp zTop i (List.mem_range.mpr (by omega)))
  have TC : Cls K mg cl := ⟨PySem.W.mg_of X G a0, PySem.W.mg_of X G a1, PySem.W.mg_of X G a2, PySem.W.mg_of X G a3, PySem.W.mg_of X G a4, PySem.W.mg_of X G a5, PySem.W.mg_of X G a6, PySem.W.mg_of X G a7, PySem.W.mg_of X G a8, PySem.W.mg_of X G a9, PySem.W.mg_of X G a10, PySem.W.mg_of X G a11, PySem.W.mg_of X G a12, PySem.W.mg_of X G a13, PySem.W.mg_of X G a14, PySem.W.mg_of X G a15, PySem.W.mg_of X G a16, ek, kit, fun i hi => of_decide_eq_true (top i hi).1, fun i hi => of_decide_eq_true (top i hi).2⟩
  have TF : Flds K cl := ⟨ek, n0, n1, n2, n3, n4, n5, n6, n7, n8, n9⟩
  have TP : ∀ i, 10 ≤ i → i ≤ 16 → Plain K (cl i) := fun i h1 h2 => by
    have e : i = 10 ∨ i = 11 ∨ i = 12 ∨ i = 13 ∨ i = 14 ∨ i = 15 ∨ i = 16 := by omega
    rcases e with rfl | rfl | rfl | rfl | rfl | rfl | rfl
    · exact ⟨x10, k10⟩
    · exact ⟨x11, k11⟩
    · exact ⟨x12, k12⟩
    · exact ⟨x13, k13⟩
    · exact ⟨x14, k14⟩
    · exact ⟨x15, k15⟩
    · exact ⟨x16, k16⟩
  have TT : Txt K mg cl fB fT fA fO fV fF fK _ _ _ _ _ _ _ := ⟨DB, DT, DA, DO, DV, DF, DK, TC, TF, TP, PySem.W.mg_none_of X G znLen, PySem.W.mg_none_of X G znInt, PySem.W.mg_none_of X G znAbs, PySem.W.mg_none_of X G znRange, PySem.W.mg_none_of X G znRepr, PySem.W.mg_none_of X G znEnum, PySem.W.mg_none_of X G znIsi, PySem.W.mg_none_of X G znVal⟩
  refine ⟨PySem.W.fnOf "law" "law" (defArgs sLaw) (defBody sLaw) (defScope sLaw) .none kVL dcL pmL anL cdL ctL, fun s v => .of_eq rfl, fun base _ _ hsm => ok_law FL TT ?_ hsm⟩
  have z0 : Inits P w K mg base (cl 0) "place" := inits_mk (st := sI0) x0 y0 s0 e0 t0 k0 i0 u0 l0 c0 w0 n0 scI0 rfl rfl rfl (by decide +kernel) (by decide +kernel) fun _ _ _ _ _ _ us hl => match us, hl with | [_, _], _ => rfl
  have z1 : Inits P w K mg base (cl 1) "index" := inits_mk (st := sI1) x1 y1 s1 e1 t1 k1 i1 u1 l1 c1 w1 n1 scI1 rfl rfl rfl (by decide +kernel) (by decide +kernel) fun _ _ _ _ _ _ us hl => match us, hl with | [_, _], _ => rfl
  have z2 : Inits P w K mg base (cl 2) "number" := inits_mk (st := sI2) x2 y2 s2 e2 t2 k2 i2 u2 l2 c2 w2 n2 scI2 rfl rfl rfl (by decide +kernel) (by decide +kernel) fun _ _ _ _ _ _ us hl => match us, hl with | [_, _], _ => rfl
  have z3 : Inits P w K mg base (cl 3) "lot" := inits_mk (st := sI3) x3 y3 s3 e3 t3 k3 i3 u3 l3 c3 w3 n3 scI3 rfl rfl rfl (by decide +kernel) (by decide +kernel) fun _ _ _ _ _ _ us hl => match us, hl with | [_, _], _ => rfl
  have z4 : Inits P w K mg base (cl 4) "number" := inits_mk (st := sI4) x4 y4 s4 e4 t4 k4 i4 u4 l4 c4 w4 n4 scI4 rfl rfl rfl (by decide +kernel) (by decide +kernel) fun _ _ _ _ _ _ us hl => match us, hl with | [_, _], _ => rfl
  have z5 : Inits P w K mg base (cl 5) "mark" := inits_mk (st := sI5) x5 y5 s5 e5 t5 k5 i5 u5 l5 c5 w5 n5 scI5 rfl rfl rfl (by decide +kernel) (by decide +kernel) fun _ _ _ _ _ _ us hl => match us, hl with | [_, _], _ => rfl
  have z6 : Inits P w K mg base (cl 6) "number" := inits_mk (st := sI6) x6 y6 s6 e6 t6 k6 i6 u6 l6 c6 w6 n6 scI6 rfl rfl rfl (by decide +kernel) (by decide +kernel) fun _ _ _ _ _ _ us hl => match us, hl with | [_, _], _ => rfl
  have z7 : Inits P w K mg base (cl 7) "limit" := inits_mk (st := sI7) x7 y7 s7 e7 t7 k7 i7 u7 l7 c7 w7 n7 scI7 rfl rfl rfl (by decide +kernel) (by decide +kernel) fun _ _ _ _ _ _ us hl => match us, hl with | [_, _], _ => rfl
  have z8 : Inits P w K mg base (cl 8) "answer" := inits_mk (st := sI8) x8 y8 s8 e8 t8 k8 i8 u8 l8 c8 w8 n8 scI8 rfl rfl rfl (by decide +kernel) (by decide +kernel) fun _ _ _ _ _ _ us hl => match us, hl with | [_, _], _ => rfl
  have z9 : Inits P w K mg base (cl 9) "many" := inits_mk (st := sI9) x9 y9 s9 e9 t9 k9 i9 u9 l9 c9 w9 n9 scI9 rfl rfl rfl (by decide +kernel) (by decide +kernel) fun _ _ _ _ _ _ us hl => match us, hl with | [_, _], _ => rfl
  exact ⟨z0, z1, z2, z3, z4, z5, z6, z7, z8, z9⟩
end Kten
set_option maxRecDepth 100000
set_option maxHeartbeats 0
open PySem PySem.W PyProof.Rows
theorem PySem.Challenge.cw_thesesothose_k10_errors_apart_holds : PySem.Challenge.rw_thesesothose_k10_errors_apart.Holds := by
  w_on; o_law; k_head; (case hw => w_witness2)
  k_fill
  refine Kten.walk_ofG (l := PySem.Challenge.rw_thesesothose_k10_errors_apart) (n := 63) (k := 3) (x := "_law_script") (sp := Kten.spLaw) (by decide +kernel) rfl (by decide) rfl ⟨rfl, by decide, by decide⟩ (fun w h Y => PySem.W.kIn_of Y) ?F (fun K H a ns hl _ hS => ⟨a, ns, rfl, hS, hl, fun _ => rfl⟩)
  case F =>
    intro w mg fa h KX G hmg
    refine' Kten.all_mk KX G hmg ?a0 ?a1 ?a2 ?a3 ?a4 ?a5 ?a6 ?a7 ?a8 ?a9 ?a10 ?a11 ?a12 ?a13 ?a14 ?a15 ?a16 ?x0 ?y0 ?s0 ?e0 ?t0 ?k0 ?i0 ?u0 ?l0 ?c0 ?w0 ?n0 ?x1 ?y1 ?s1 ?e1 ?t1 ?k1 ?i1 ?u1 ?l1 ?c1 ?w1 ?n1 ?x2 ?y2 ?s2 ?e2 ?t2 ?k2 ?i2 ?u2 ?l2 ?c2 ?w2 ?n2 ?x3 ?y3 ?s3 ?e3 ?t3 ?k3 ?i3 ?u3 ?l3 ?c3 ?w3 ?n3 ?x4 ?y4 ?s4 ?e4 ?t4 ?k4 ?i4 ?u4 ?l4 ?c4 ?w4 ?n4 ?x5 ?y5 ?s5 ?e5 ?t5 ?k5 ?i5 ?u5 ?l5 ?c5 ?w5 ?n5 ?x6 ?y6 ?s6 ?e6 ?t6 ?k6 ?i6 ?u6 ?l6 ?c6 ?w6 ?n6 ?x7 ?y7 ?s7 ?e7 ?t7 ?k7 ?i7 ?u7 ?l7 ?c7 ?w7 ?n7 ?x8 ?y8 ?s8 ?e8 ?t8 ?k8 ?i8 ?u8 ?l8 ?c8 ?w8 ?n8 ?x9 ?y9 ?s9 ?e9 ?t9 ?k9 ?i9 ?u9 ?l9 ?c9 ?w9 ?n9 ?x10 ?k10 ?x11 ?k11 ?x12 ?k12 ?x13 ?k13 ?x14 ?k14 ?x15 ?k15 ?x16 ?k16 ?zErr ?zKit ?zTop ?aB ?lB ?cB ?kB ?aT ?lT ?cT ?kT ?aA ?lA ?cA ?kA ?aO ?lO ?cO ?kO ?aV ?lV ?cV ?kV ?aF ?lF ?cF ?kF ?aK ?lK ?cK ?kK ?aL ?lL ?cL ?kL ?znLen ?znInt ?znAbs ?znRange ?znRepr ?znEnum ?znIsi ?znVal
    (case a0 => k_is)
    (case a1 => k_is)
    (case a2 => k_is)
    (case a3 => k_is)
    (case a4 => k_is)
    (case a5 => k_is)
    (case a6 => k_is)
    (case a7 => k_is)
    (case a8 => k_is)
    (case a9 => k_is)
    (case a10 => k_is)
    (case a11 => k_is)
    (case a12 => k_is)
    (case a13 => k_is)
    (case a14 => k_is)
    (case a15 => k_is)
    (case a16 => k_is)
    (case x0 => k_is)
    (case y0 => kernel_rfl)
    (case s0 => k_is)
    (case e0 => k_is)
    (case t0 => k_is)
    (case k0 => k_is)
    (case i0 => k_is)
    (case u0 => k_is)
    (case l0 => k_is)
    (case c0 => k_is)
    (case w0 => k_is)
    (case n0 => k_is)
    (case x1 => k_is)
    (case y1 => kernel_rfl)
    (case s1 => k_is)
    (case e1 => k_is)
    (case t1 => k_is)
    (case k1 => k_is)
    (case i1 => k_is)
    (case u1 => k_is)
    (case l1 => k_is)
    (case c1 => k_is)
    (case w1 => k_is)
    (case n1 => k_is)
    (case x2 => k_is)
    (case y2 => kernel_rfl)
    (case s2 => k_is)
    (case e2 => k_is)
    (case t2 => k_is)
    (case k2 => k_is)
    (case i2 => k_is)
    (case u2 => k_is)
    (case l2 => k_is)
    (case c2 => k_is)
    (case w2 => k_is)
    (case n2 => k_is)
    (case x3 => k_is)
    (case y3 => kernel_rfl)
    (case s3 => k_is)
    (case e3 => k_is)
    (case t3 => k_is)
    (case k3 => k_is)
    (case i3 => k_is)
    (case u3 => k_is)
    (case l3 => k_is)
    (case c3 => k_is)
    (case w3 => k_is)
    (case n3 => k_is)
    (case x4 => k_is)
    (case y4 => kernel_rfl)
    (case s4 => k_is)
    (case e4 => k_is)
    (case t4 => k_is)
    (case k4 => k_is)
    (case i4 => k_is)
    (case u4 => k_is)
    (case l4 => k_is)
    (case c4 => k_is)
    (case w4 => k_is)
    (case n4 => k_is)
    (case x5 => k_is)
    (case y5 => kernel_rfl)
    (case s5 => k_is)
    (case e5 => k_is)
    (case t5 => k_is)
    (case k5 => k_is)
    (case i5 => k_is)
    (case u5 => k_is)
    (case l5 => k_is)
    (case c5 => k_is)
    (case w5 => k_is)
    (case n5 => k_is)
    (case x6 => k_is)
    (case y6 => kernel_rfl)
    (case s6 => k_is)
    (case e6 => k_is)
    (case t6 => k_is)
    (case k6 => k_is)
    (case i6 => k_is)
    (case u6 => k_is)
    (case l6 => k_is)
    (case c6 => k_is)
    (case w6 => k_is)
    (case n6 => k_is)
    (case x7 => k_is)
    (case y7 => kernel_rfl)
    (case s7 => k_is)
    (case e7 => k_is)
    (case t7 => k_is)
    (case k7 => k_is)
    (case i7 => k_is)
    (case u7 => k_is)
    (case l7 => k_is)
    (case c7 => k_is)
    (case w7 => k_is)
    (case n7 => k_is)
    (case x8 => k_is)
    (case y8 => kernel_rfl)
    (case s8 => k_is)
    (case e8 => k_is)
    (case t8 => k_is)
    (case k8 => k_is)
    (case i8 => k_is)
    (case u8 => k_is)
    (case l8 => k_is)
    (case c8 => k_is)
    (case w8 => k_is)
    (case n8 => k_is)
    (case x9 => k_is)
    (case y9 => kernel_rfl)
    (case s9 => k_is)
    (case e9 => k_is)
    (case t9 => k_is)
    (case k9 => k_is)
    (case i9 => k_is)
    (case u9 => k_is)
    (case l9 => k_is)
    (case c9 => k_is)
    (case w9 => k_is)
    (case n9 => k_is)
    (case x10 => k_exc)
    (case k10 => k_is)
    (case x11 => k_exc)
    (case k11 => k_is)
    (case x12 => k_exc)
    (case k12 => k_is)
    (case x13 => k_exc)
    (case k13 => k_is)
    (case x14 => k_exc)
    (case k14 => k_is)
    (case x15 => k_exc)
    (case k15 => k_is)
    (case x16 => k_exc)
    (case k16 => k_is)
    (case zErr => kernel_rfl)
    (case zKit => kernel_rfl)
    (case zTop => kernel_rfl)
    (case aB => k_is)
    (case lB => k_is)
    (case cB => k_is)
    (case kB => k_is)
    (case aT => k_is)
    (case lT => k_is)
    (case cT => k_is)
    (case kT => k_is)
    (case aA => k_is)
    (case lA => k_is)
    (case cA => k_is)
    (case kA => k_is)
    (case aO => k_is)
    (case lO => k_is)
    (case cO => k_is)
    (case kO => k_is)
    (case aV => k_is)
    (case lV => k_is)
    (case cV => k_is)
    (case kV => k_is)
    (case aF => k_is)
    (case lF => k_is)
    (case cF => k_is)
    (case kF => k_is)
    (case aK => k_is)
    (case lK => k_is)
    (case cK => k_is)
    (case kK => k_is)
    (case aL => k_is)
    (case lL => k_is)
    (case cL => k_is)
    (case kL => k_is)
    (case znLen => k_is)
    (case znInt => k_is)
    (case znAbs => k_is)
    (case znRange => k_is)
    (case znRepr => k_is)
    (case znEnum => k_is)
    (case znIsi => k_is)
    (case znVal => k_is)
