import PyProof.Rows.All
import Wide.All
import OpenK.AllK
import Wide.FinOn
import HandS.ForMost
import HandS.Wide
import KE.KStateDown
import KE.KNestM
import HandS.ForExc
import HandS.Exc
import HandS.ExcInit
import HandS.ExcField
import HandS.Defaults
import HandS.EndTab
import HandS.HeadWalk
import HandS.Head0
import HandS.Head1
import HandS.Head2
import HandS.HeadEnd
import HandS.HeadHook1
import HandS.HeadHook2
import HandS.Codes
import HandS.Walk
import HandS.IsInst
import HandS.WordsExc
import HandS.SetKeys
import PyProof.EnumMake
import PyProof.TupleIter
import PyProof.Draws
import KE.KeyNested
import KE.KDictWalk
import PyProof.DictFindH
import HandS.DeepEq
import HandS.OwnEq
import HandS.ListItems
import HandS.Iter
import HandS.TryMany
import HandS.TryOnly
import HandS.AnyAll
import HandS.DictComp
import HandS.More
import PyProof.InstNe
import HandS.Lambda
import HandS.Small
import HandS.Conv
import HandS.Finally
import HandS.Style
import HandS.MakeKwOnly
import PySem.Challenge.RW_meettasks_k01_things_made
/-! ## D1 -/
set_option Elab.async false
set_option linter.all false
set_option maxRecDepth 100000
set_option maxHeartbeats 4000000
namespace K01
open PySem L2
abbrev tp (i : Nat) : Stmt := PySem.Challenge.pw_meettasks_k01_things_made.main.body.getD i (.Pass ⟨0, 0, 0, 0⟩)
abbrev sPool : Stmt := tp 20
abbrev sTake : Stmt := tp 21
abbrev sOne : Stmt := tp 22
abbrev sMixed : Stmt := tp 23
/-! ### the spring of draws -/
/-- a pool at p: what is left of a great cell, a seed, how many were drawn (n at most) -/
structure Spring (H : Hp) (p : Addr) (n : Nat) where
  at_ : ∃ a b c : Int, H p = some (.lst [.int a, .int b, .int c]) ∧ 0 ≤ a ∧ 0 ≤ b ∧ b < 2147483647 ∧ 0 ≤ c ∧ c ≤ n
theorem Spring.more {H : Hp} {p : Addr} {n m : Nat} (x : Spring H p n) (h : n ≤ m) : Spring H p m := by
  obtain ⟨a, b, c, e, h1, h2, h3, h4, h5⟩ := x.at_
  exact ⟨a, b, c, e, h1, h2, h3, h4, by omega⟩
theorem Spring.to {H H' : Hp} {p : Addr} {n : Nat} (x : Spring H p n) (e : H' p = H p) : Spring H' p n := by
  obtain ⟨a, b, c, q, h⟩ := x.at_
  exact ⟨a, b, c, e.trans q, h⟩
/-- but for the object at p nothing is changed -/
def But (p : Addr) (H H' : Hp) : Prop := ∀ b, b ≠ p → H' b = H b

/-- one step of a reading -/
local macro_rules | `(tactic| walk_at "rd") => `(tactic| first
  | refine ⟨_, rfl, ?_⟩
  | refine ⟨_, _, rfl, rfl, ((by first | decide | omega | assumption) : (_ : Prop)), ?_⟩
  | refine ⟨_, _, rfl, rfl, (Or.inl ⟨(by omega), (by omega)⟩), ?_⟩
  | refine ⟨_, _, rfl, rfl, And.intro (by omega) (And.intro (by omega) (by omega)), ?_⟩
  | refine ⟨_, _, _, _, rfl, rfl, ((by assumption) : (_ : Prop)), ((by first | rfl | assumption) : (_ : Prop)), ?_⟩
  | refine Or.inl ⟨_, rfl, ?_⟩
  | refine ⟨_, _, rfl, rfl, ?_⟩)
def spTake : Sp := fun vs H Q _ => ∃ (p : Addr) (m : Int) (n : Nat), vs = [.ref p, .int m] ∧ Spring H p n ∧ n ≤ 10000 ∧ 0 < m ∧ m < 2 ^ 30 ∧
  ∀ (H' : Hp) (r : Int), 0 ≤ r → r < m → But p H H' → Spring H' p (n + 1) → Q (.int r) H'
section
variable {P : Program} {w : World} {K : PySem.W.Frag} {mg : Str → Option Value} {base : Heap} {f : Addr} {fd : FuncData}
theorem scTake : FnScope ["pool", "many", "draw", "mixed"] ["pool", "many"] (defScope sTake) := ⟨rfl, rfl, rfl, by decide +kernel, rfl, by decide +kernel, by decide +kernel⟩
theorem ok_take (F : Fun K "_law_take" "_law_take" sTake f fd) (gI : mg "int" = none) : FnOk P w K mg base CX0 1 f fd ["pool", "many"] spTake := by
  refine F.ok scTake (fun vs H Q E h => ?_) (fun cdv A outer s H vs Q E hr h => ?_)
  · obtain ⟨p, m, n, rfl, _⟩ := h
    rfl
  · obtain ⟨p, m, n, rfl, hp, hn, m0, m1, k⟩ := h
    obtain ⟨a, b, c, ep, a0, b0, b1, c0, c1⟩ := hp.at_
    refine ⟨_, pss_cons (ps_if (pt_cmpR op_gt (pe_ix ix_list (pv 0) pe_int (fun _ _ => rfl)) pe_int (nomark _))
        (pss_cons (ps_set (i := 2) scTake.nd rfl (Or.inl rfl) (pe_op op_mod (pe_callTy call_int1 (by rfl) gI (by decide +kernel) (pa_cons (pe_ix ix_list (pv 0) pe_int (fun _ _ => rfl)) pa_nil)) (pv 1)))
          (pss_cons (ps_asg (pe_op op_fdivW (pe_ix ix_list (pv 0) pe_int (fun _ _ => rfl)) (pv 1)) (pg_sub (pv 0) pe_int set_list)) (pss_one (ps_ret (pv 2)))))
        pss_nil)
      (pss_cons (ps_asg (pe_op op_add (pe_ix ix_list (pv 0) pe_int (fun _ _ => rfl)) pe_int) (pg_sub (pv 0) pe_int set_list))
      (pss_cons (ps_set (i := 3) scTake.nd rfl (Or.inl rfl) (pe_op op_mod (pe_callTy call_int1 (by rfl) gI (by decide +kernel) (pa_cons (pe_op op_pow (pe_op op_add (pe_op op_add (pe_ix ix_list (pv 0) pe_int (fun _ _ => rfl)) (pe_op op_mul pe_int (pe_ix ix_list (pv 0) pe_int (fun _ _ => rfl)))) pe_int) pe_int) pa_nil)) pe_int))
      (pss_one (ps_ret (pe_op op_mod (pe_op op_mod (pe_callTy call_int1 (by rfl) gI (by decide +kernel) (pa_cons (pe_op op_mul (pe_op op_add (pv 3) (pe_ix ix_list (pv 0) pe_int (fun _ _ => rfl))) pe_int) pa_nil)) pe_int) (pv 1)))))), ?_⟩
    have g0 : SqL K H p [.int a, .int b, .int c] := SqL.of ep
    repeat walk_at "rd"
    refine ite2 (fun q => ?_) (fun q => ?_)
    · have a1 : 0 < a := of_decide_eq_true q
      repeat walk_at "rd"
      refine ⟨wide_div (b := 31) m0 (by omega) (by decide) (by decide), ?_⟩
      repeat walk_at "rd"
      exact k _ _ (Int.emod_nonneg _ (by omega)) (Int.emod_lt_of_pos _ m0) (fun x hx => upd_ne hx) ⟨⟨a / m, b, c, upd_same, Int.ediv_nonneg a0 (by omega), b0, b1, c0, by omega⟩⟩
    · repeat walk_at "rd"
      have e1 : upd H p (.lst [.int a, .int b, .int (c + 1)]) p = some (.lst [.int a, .int b, .int (c + 1)]) := upd_same
      have g1 : SqL K (upd H p (.lst [.int a, .int b, .int (c + 1)])) p [.int a, .int b, .int (c + 1)] := SqL.of upd_same
      repeat walk_at "rd"
      exact k _ _ (Int.emod_nonneg _ (by omega)) (Int.emod_lt_of_pos _ m0) (fun x hx => upd_ne hx) ⟨⟨a, b, c + 1, upd_same, a0, b0, b1, by omega, by omega⟩⟩
theorem sq_at {K : PySem.W.Frag} {H H' : Hp} {q : Addr} {xs : List V} (e : H' q = H q) (h : SqL K H q xs) : SqL K H' q xs := by
  rcases h with (h | ⟨o, h⟩) | h
  · exact .inl (.inl (e.trans h))
  · exact .inl (.inr ⟨o, e.trans h⟩)
  · exact .inr h
def spOne (K : PySem.W.Frag) : Sp := fun vs H Q _ => ∃ (p q : Addr) (xs : List V) (n : Nat), vs = [.ref p, .ref q] ∧ Spring H p n ∧ n ≤ 10000 ∧ SqL K H q xs ∧ q ≠ p ∧ 0 < xs.length ∧ xs.length ≤ 1000 ∧
  ∀ (H' : Hp) (v : V), v ∈ xs → But p H H' → Spring H' p (n + 1) → Q v H'
theorem scOne : FnScope ["pool", "things"] ["pool", "things"] (defScope sOne) := ⟨rfl, rfl, rfl, by decide +kernel, rfl, by decide +kernel, by decide +kernel⟩
theorem ok_one {fT : Addr} {fdT : FuncData} (F : Fun K "_law_one" "_law_one" sOne f fd) (FT : Fun K "_law_take" "_law_take" sTake fT fdT) (bT : Binds K fdT ["pool", "many"] []) (gT : mg "_law_take" = some (.ref fT))
    (gI : mg "int" = none) (gL : mg "len" = none) : FnOk P w K mg base CX0 2 f fd ["pool", "things"] (spOne K) := by
  have GT : FnOk P w K mg base CX0 1 fT fdT ["pool", "many"] spTake := ok_take FT gI
  refine F.ok scOne (fun vs H Q E h => ?_) (fun cdv A outer s H vs Q E hr h => ?_)
  · obtain ⟨p, q, xs, n, rfl, _⟩ := h
    rfl
  · obtain ⟨p, q, xs, n, rfl, hp, hn, hx, hne, x0, x1, k⟩ := h
    refine ⟨_, pss_one (ps_ret (pe_ix ix_list (pv 1) (pe_call GT hr rfl gT FT.kp bT .nil pass0 (pa_cons (pv 0) (pa_cons (pe_callB call_len_seq (by rfl) gL PySem.boot_len (pa_cons (pv 1) pa_nil)) pa_nil))) (fun _ _ => rfl))), ?_⟩
    refine ⟨_, rfl, _, rfl, _, rfl, q, xs, rfl, .inl hx, p, _, n, rfl, hp, hn, by omega, by omega, fun H' r r0 r1 bt sp => ?_⟩
    obtain ⟨j, rfl⟩ := Int.eq_ofNat_of_zero_le r0
    have hj : j < xs.length := by omega
    have ej : xs[j]? = some xs[j] := List.getElem?_eq_getElem hj
    exact ⟨q, xs, _, xs[j], rfl, rfl, sq_at (bt q hne) hx, atI_nat ej, k H' _ (List.getElem_mem hj) bt sp⟩
theorem cut_to {xs : List V} {j : Nat} (h : j ≤ xs.length) : cutV xs none (some (j : Int)) = xs.take j := by
  unfold cutV
  rw [HT.sIx_none, HT.sIx_nat, Nat.min_eq_left h]
  simp
theorem cut_from {xs : List V} {j : Nat} (h : j + 1 ≤ xs.length) : cutV xs (some ((j : Int) + 1)) none = xs.drop (j + 1) := by
  unfold cutV
  have e : ((j : Int) + 1) = ((j + 1 : Nat) : Int) := by omega
  rw [e, HT.sIx_none, HT.sIx_nat, Nat.min_eq_left h]
  exact List.take_of_length_le (by rw [List.length_drop]; omega)
theorem up_new {H : Hp} {p b : Addr} {o u : HO} (n : H p = none) (e : H b = some u) : upd H p o b = some u := by
  rw [upd_ne (ne_of_none e n)]
  exact e
theorem perm_at {rest : List V} (got : List V) {j : Nat} (h : j < rest.length) : (got ++ [rest[j]] ++ (rest.take j ++ rest.drop (j + 1))).Perm (got ++ rest) := by
  have e : rest = rest.take j ++ rest[j] :: rest.drop (j + 1) := by
    rw [← List.drop_eq_getElem_cons h, List.take_append_drop]
  rw [List.append_assoc]
  refine List.Perm.append_left got ?_
  have q : (rest[j] :: (rest.take j ++ rest.drop (j + 1))).Perm (rest.take j ++ rest[j] :: rest.drop (j + 1)) := List.perm_middle.symm
  rw [← e] at q
  exact q
/-- all but p stays that was there -/
def Ext (p : Addr) (H H' : Hp) : Prop := ∀ b o, b ≠ p → H b = some o → H' b = some o
def spMixed (K : PySem.W.Frag) : Sp := fun vs H Q _ => ∃ (p q : Addr) (xs : List V) (n : Nat), vs = [.ref p, .ref q] ∧ Spring H p n ∧ n + xs.length ≤ 10000 ∧ SqL K H q xs ∧ q ≠ p ∧ xs.length ≤ 1000 ∧
  ∀ (H' : Hp) (l : Addr) (ys : List V), ys.Perm xs → H l = none → Ext p H H' → H' l = some (.lst ys) → Spring H' p (n + xs.length) → Q (.ref l) H'
theorem scMixed : FnScope ["pool", "things", "left", "found", "k", "at"] ["pool", "things"] (defScope sMixed) := ⟨rfl, rfl, rfl, by decide +kernel, rfl, by decide +kernel, by decide +kernel⟩
theorem ok_mixed {fT : Addr} {fdT : FuncData} (F : Fun K "_law_mixed" "_law_mixed" sMixed f fd) (FT : Fun K "_law_take" "_law_take" sTake fT fdT) (bT : Binds K fdT ["pool", "many"] []) (gT : mg "_law_take" = some (.ref fT))
    (gI : mg "int" = none) (gL : mg "len" = none) (gS : mg "list" = none) (gR : mg "range" = none) : FnOk P w K mg base CX0 2 f fd ["pool", "things"] (spMixed K) := by
  have GT : FnOk P w K mg base CX0 1 fT fdT ["pool", "many"] spTake := ok_take FT gI
  refine F.ok scMixed (fun vs H Q E h => ?_) (fun cdv A outer s H vs Q E hr h => ?_)
  · obtain ⟨p, q, xs, n, rfl, _⟩ := h
    rfl
  · obtain ⟨p, q, xs, n, rfl, hp, hn, hx, hne, x1, k⟩ := h
    refine ⟨_, pss_cons (ps_par (by rfl) scMixed.nd (i := 2) (j := 3) rfl rfl (by decide) rfl rfl (pa_cons (pe_callTy call_list_of (by rfl) gS (by decide +kernel) (pa_cons (pv 1) pa_nil)) (pa_cons (pe_lst pa_nil) pa_nil)) (by rfl))
      (pss_cons (ps_for PassesOwn.never rfl (pi_range1 rfl gR (pa_cons (pe_callB call_len_seq (by rfl) gL PySem.boot_len (pa_cons (pv 1) pa_nil)) pa_nil)) (pg_name (i := 4) scMixed.nd rfl (Or.inl rfl))
        (pss_cons (ps_set (i := 5) scMixed.nd rfl (Or.inl rfl) (pe_call GT hr rfl gT FT.kp bT .nil pass0 (pa_cons (pv 0) (pa_cons (pe_callB call_len_seq (by rfl) gL PySem.boot_len (pa_cons (pv 2) pa_nil)) pa_nil))))
        (pss_cons (ps_expr (pe_bm PySem.F.plainAttrs_list PySem.F.slot_list_append PySem.F.type_list_append mt_append (pv 3) (pa_cons (pe_ix ix_list (pv 2) (pv 5) (fun _ _ => rfl)) pa_nil)))
        (pss_one (ps_set (i := 2) scMixed.nd rfl (Or.inl rfl) (pe_op op_cat (pe_slice sl_list (pv 2) po_none (po_some (pv 5))) (pe_slice sl_list (pv 2) (po_some (pe_op op_add (pv 5) pe_int)) po_none)))))))
      (pss_one (ps_ret (pv 3)))), ?_⟩
    refine ⟨_, rfl, q, xs, rfl, .inl hx, fun lf nlf => ?_⟩
    refine ⟨Nat.zero_le _, fun fo nfo => ?_⟩
    have npf : fo ≠ p := fun z => by
      obtain ⟨a, b, c, e, _⟩ := hp.at_
      have nl : p ≠ lf := ne_of_none e nlf
      rw [z, upd_ne nl, e] at nfo
      cases nfo
    have npl : lf ≠ p := fun z => by
      obtain ⟨a, b, c, e, _⟩ := hp.at_
      rw [z, e] at nlf
      cases nlf
    have nlo : lf ≠ fo := fun z => by
      rw [← z, upd_same] at nfo
      cases nfo
    have nfo0 : H fo = none := by
      rw [upd_ne nlo.symm] at nfo
      exact nfo
    have hq0 : SqL K (upd (upd H lf (.lst xs)) fo (.lst [])) q xs := by
      rcases hx with (h | ⟨o, h⟩) | h
      · exact .inl (.inl (by rw [upd_ne (ne_of_none h nfo0), upd_ne (ne_of_none h nlf)]; exact h))
      · exact .inl (.inr ⟨o, by rw [upd_ne (ne_of_none h nfo0), upd_ne (ne_of_none h nlf)]; exact h⟩)
      · exact .inr h
    refine ⟨_, _, rfl, _, rfl, q, xs, rfl, .inl hq0, (xs.length : Int), rfl, by omega, by omega,
      for_range (lo := 0) (n := xs.length) (fun i σ H' => ∃ (l : Addr) (rest got : List V) (kv av : Option V), σ = [some (.ref p), some (.ref q), some (.ref l), some (.ref fo), kv, av] ∧ H' l = some (.lst rest) ∧ H' fo = some (.lst got) ∧
        (got ++ rest).Perm xs ∧ got.length = i ∧ Ext p H H' ∧ Spring H' p (n + i) ∧ l ≠ fo ∧ l ≠ p) ?_ ?_ ?_⟩
    · refine ⟨lf, xs, [], none, none, rfl, ?_, upd_same, List.Perm.refl _, rfl, fun b o hb e => ?_, hp.to ?_, nlo, npl⟩
      · rw [upd_ne nlo, upd_same]
      · rw [upd_ne (ne_of_none e nfo0), upd_ne (ne_of_none e nlf)]
        exact e
      · rw [upd_ne npf.symm, upd_ne npl.symm]
    · rintro i σ H1 hi ⟨l, rest, got, kv, av, rfl, hl, hf, pm, gi, ex, sp, n1, n2⟩
      have len : got.length + rest.length = xs.length := by
        rw [← List.length_append]
        exact pm.length_eq
      refine ⟨_, rfl, _, rfl, l, rest, rfl, .inl (SqL.of hl), p, _, n + i, rfl, sp, by omega, by omega, by omega, fun H2 r r0 r1 bt sp2 => ?_⟩
      obtain ⟨j, rfl⟩ := Int.eq_ofNat_of_zero_le r0
      have hj : j < rest.length := by omega
      have ej : rest[j]? = some rest[j] := List.getElem?_eq_getElem hj
      have hl2 : H2 l = some (.lst rest) := (bt l n2).trans hl
      have hf2 : H2 fo = some (.lst got) := (bt fo npf).trans hf
      refine ⟨_, rfl, .inl ⟨rfl, _, SqL.of hf2⟩, _, rfl, _, rfl, l, rest, _, _, rfl, rfl, SqL.of hl2, atI_nat ej, fo, got, _, rfl, rfl, hf2, Nat.lt_of_le_of_lt (show got.length ≤ 1000 by omega) (by decide), ?_⟩
      have hl3 : upd H2 fo (.lst (got ++ [rest[j]])) l = some (.lst rest) := by
        rw [upd_ne n1]
        exact hl2
      refine ⟨_, rfl, _, rfl, _, rfl, l, rest, rfl, SqL.of hl3, fun p1 np1 => ?_⟩
      have l1 : l ≠ p1 := ne_of_none hl3 np1
      have hl4 : upd (upd H2 fo (.lst (got ++ [rest[j]]))) p1 (.lst (cutV rest none (some (j : Int)))) l = some (.lst rest) := by
        rw [upd_ne l1]
        exact hl3
      refine ⟨_, rfl, _, rfl, _, _, rfl, rfl, _, rfl, l, rest, rfl, SqL.of hl4, fun p2 np2 => ?_⟩
      have p12 : p1 ≠ p2 := fun z => by
        rw [← z, upd_same] at np2
        cases np2
      refine ⟨p1, p2, _, _, rfl, rfl, (by rw [upd_ne p12, upd_same]), upd_same, ?_, fun p3 np3 => ?_⟩
      · have c1 := cutV_length rest none (some (j : Int))
        have c2 := cutV_length rest (some ((j : Int) + 1)) none
        exact Nat.le_trans (show _ ≤ 2000 by omega) (by decide)
      · have e1 : cutV rest none (some (j : Int)) = rest.take j := cut_to (by omega)
        have e2 : cutV rest (some ((j : Int) + 1)) none = rest.drop (j + 1) := cut_from (by omega)
        have h3 : ∀ b o, b ≠ p → H b = some o → upd H2 fo (.lst (got ++ [rest[j]])) b = some o := fun b o hb e => by
          rw [upd_ne (ne_of_none e nfo0), bt b hb]
          exact ex b o hb e
        have sp3 : Spring (upd H2 fo (.lst (got ++ [rest[j]]))) p (n + i + 1) := sp2.to (upd_ne npf.symm)
        obtain ⟨ua, ub, uc, us, _⟩ := id sp3.at_
        have n13 : p3 ≠ fo := (ne_of_none (up_new np2 (up_new np1 upd_same)) np3).symm
        have n23 : p3 ≠ p := (ne_of_none (up_new np2 (up_new np1 us)) np3).symm
        refine ⟨p3, _, got ++ [rest[j]], _, _, rfl, upd_same, up_new np3 (up_new np2 (up_new np1 upd_same)), ?_, by rw [List.length_append, gi]; rfl, fun b o hb e => up_new np3 (up_new np2 (up_new np1 (h3 b o hb e))), ?_, n13, n23⟩
        · rw [e1, e2]
          exact (perm_at got hj).trans pm
        · have z : upd (upd (upd (upd H2 fo (.lst (got ++ [rest[j]]))) p1 (.lst (cutV rest none (some (j : Int))))) p2 (.lst (cutV rest (some ((j : Int) + 1)) none))) p3 (.lst (cutV rest none (some (j : Int)) ++ cutV rest (some ((j : Int) + 1)) none)) p = upd H2 fo (.lst (got ++ [rest[j]])) p := by
            rw [up_new np3 (up_new np2 (up_new np1 us)), us]
          exact (sp3.to z).more (by omega)
    · rintro σ H1 ⟨l, rest, got, kv, av, rfl, hl, hf, pm, gi, ex, sp, n1, n2⟩
      have e0 : rest = [] := by
        have z := pm.length_eq
        rw [List.length_append, gi] at z
        exact List.eq_nil_of_length_eq_zero (by omega)
      subst e0
      rw [List.append_nil] at pm
      exact ⟨_, rfl, k H1 fo got pm nfo0 ex hf sp⟩

end
end K01
/-! ## K01T -/
set_option Elab.async false
set_option linter.all false
set_option maxRecDepth 100000
set_option maxHeartbeats 0
/-! The looks at the heap behind the program's own top. -/
namespace K01
open PySem PySem.Spec PyProof.Rows L2
abbrev R : PySem.W.OpenRow := PySem.W.OpenLaw.row PySem.Challenge.rw_meettasks_k01_things_made
abbrev q28 : Program := PySem.W.view R.prog [28]
noncomputable abbrev endS (w : World) (os : OsState) : Option PySem.W.SharedT := HandSHeadRun.endF (HandSHeadRun.stepQ (HandSHeadRun.denQ HandSHeadRun.tabQ) R.prog w) 20000 R.prog w os
abbrev G : Type := Addr → Option Obj
def clN : List Str := ["TaskError", "BadValues", "BadStart", "BadDeeds", "BadEntries", "Thing"]
def meN : List (Str × Str) := [("BadValues", "__init__"), ("BadStart", "__init__"), ("BadDeeds", "__init__"), ("BadEntries", "__init__"), ("Thing", "__init__"), ("Thing", "__eq__"), ("Thing", "worths"), ("Thing", "start"), ("Thing", "deeds"), ("Thing", "entries")]
def fuN : List Str := ["is_word", "is_list", "check_values", "is_value", "leads_values", "check_deeds", "check_entries", "ordered_tables", "_law_pool", "_law_take", "_law_one", "_law_mixed", "_law_met", "_law_leads", "_law_told", "_law_doors_right"]
def loose : List Str := clN ++ fuN ++ (["LETTERS", "LONGEST_WORD"] : List Str)
/-! ### addresses by names, off the heap -/
def nmG (g : G) (x : Str) : Addr := match g mainGlobals with
  | some o => (match PySem.W.lookIn x o with
    | some (some (.ref a)) => a
    | _ => 0)
  | none => 0
def nsG (g : G) (C : Addr) : Addr := match g C with
  | some ⟨_, _, .cls cd, _⟩ => cd.ns
  | _ => 0
def mtG (g : G) (C : Addr) (m : Str) : Addr := match g (nsG g C) with
  | some o => (match PySem.W.lookIn m o with
    | some (some (.ref a)) => a
    | _ => 0)
  | none => 0
def cdG (g : G) (f : Addr) : Addr := match g f with
  | some ⟨_, _, .func fd, _⟩ => (match fd.code with
    | .ref c => c
    | _ => 0)
  | _ => 0
def asK (g : G) : List Addr := mainGlobals :: ((clN.flatMap fun x => [nmG g x, nsG g (nmG g x)]) ++ ((meN.flatMap fun p => [mtG g (nmG g p.1) p.2, cdG g (mtG g (nmG g p.1) p.2)]) ++ ((fuN ++ (["law"] : List Str)).flatMap fun x => [nmG g x, cdG g (nmG g x)])))
abbrev KK (g : G) : PySem.W.Frag := He.frG g (asK g)
/-! ### a part of the heap, made a value first -/
def forceF {α : Type} : PySem.W.Frag → (PySem.W.Frag → α) → α
  | [], k => k []
  | (a, o) :: r, k => HandSHeadRun.frNat a fun a => forceF r fun r => k ((a, o) :: r)
theorem forceF_eq {α : Type} : ∀ (K : PySem.W.Frag) (k : PySem.W.Frag → α), forceF K k = k K
  | [], k => rfl
  | (a, o) :: r, k => by
    show HandSHeadRun.frNat a (fun a => forceF r fun r => k ((a, o) :: r)) = _
    rw [HandSHeadRun.frNat_eq, forceF_eq r]
/-! ### facts -/
def dDef (x : Str) (i : Nat) : He.DefD := ⟨(x, none), x, x, defArgs (tp i), defBody (tp i), defScope (tp i), [], []⟩
def dMet (C m q : Str) (i j : Nat) : He.DefD := ⟨(C, some m), m, q, defArgs (inClass (tp i) j), defBody (inClass (tp i) j), defScope (inClass (tp i) j), [], []⟩
def letters0 : Str := "abcdefghijklmnopqrstuvwxyz"
def hfa0 : List He.Fa := [.glo "TaskError", .glo "BadValues", .glo "BadStart", .glo "BadDeeds", .glo "BadEntries", .glo "Thing", .glo "is_word", .glo "is_list"]
def hfa1 : List He.Fa := [.glo "check_values", .glo "is_value", .glo "leads_values", .glo "check_deeds", .glo "check_entries", .glo "ordered_tables", .glo "_law_pool", .glo "_law_take"]
def hfa2 : List He.Fa := [.glo "_law_one", .glo "_law_mixed", .glo "_law_met", .glo "_law_leads", .glo "_law_told", .glo "_law_doors_right", .glo "law", .free "isinstance"]
def hfa3 : List He.Fa := [.free "str", .free "len", .free "all", .free "list", .free "tuple", .free "set", .free "enumerate", .free "dict"]
def hfa4 : List He.Fa := [.free "sorted", .free "int", .free "sum", .free "abs", .free "range", .free "bool", .int "LONGEST_WORD" 8, .str "LETTERS" letters0]
def hfa5 : List He.Fa := [.cls "Thing", .noat "Thing" "_values", .noat "Thing" "_first", .noat "Thing" "_led", .noat "Thing" "_let", .meth "Thing" "worths", .meth "Thing" "start", .meth "Thing" "deeds"]
def hfa6 : List He.Fa := [.meth "Thing" "entries", .meth "Thing" "__eq__", .mkr "Thing", .noat "BadValues" "index", .noat "BadStart" "thing", .noat "BadDeeds" "name", .noat "BadEntries" "name", .exm "BadValues" "BadValues" true]
def hfa7 : List He.Fa := [.exm "BadValues" "BadStart" false, .exm "BadValues" "BadDeeds" false, .exm "BadValues" "BadEntries" false, .exm "BadStart" "BadValues" false, .exm "BadStart" "BadStart" true, .exm "BadStart" "BadDeeds" false, .exm "BadStart" "BadEntries" false, .exm "BadDeeds" "BadValues" false]
def hfa8 : List He.Fa := [.exm "BadDeeds" "BadStart" false, .exm "BadDeeds" "BadDeeds" true, .exm "BadDeeds" "BadEntries" false, .exm "BadEntries" "BadValues" false, .exm "BadEntries" "BadStart" false, .exm "BadEntries" "BadDeeds" false, .exm "BadEntries" "BadEntries" true]
def hfa : List He.Fa := hfa0 ++ (hfa1 ++ (hfa2 ++ (hfa3 ++ (hfa4 ++ (hfa5 ++ (hfa6 ++ (hfa7 ++ (hfa8))))))))
def hfn0 : List He.DefD := [dDef "is_word" 3, dDef "is_list" 4, dDef "check_values" 12, dDef "is_value" 13, dDef "leads_values" 14, dDef "check_deeds" 15, dDef "check_entries" 16, dDef "ordered_tables" 17]
def hfn1 : List He.DefD := [dDef "_law_pool" 20, dDef "_law_take" 21, dDef "_law_one" 22, dDef "_law_mixed" 23, dDef "_law_met" 24, dDef "_law_leads" 25, dDef "_law_told" 26, dDef "_law_doors_right" 27]
def hfn2 : List He.DefD := [dDef "law" 28, dMet "BadValues" "__init__" "BadValues.__init__" 7 0, dMet "BadStart" "__init__" "BadStart.__init__" 8 0, dMet "BadDeeds" "__init__" "BadDeeds.__init__" 9 0, dMet "BadEntries" "__init__" "BadEntries.__init__" 10 0, dMet "Thing" "__init__" "Thing.__init__" 18 0, dMet "Thing" "__eq__" "Thing.__eq__" 18 1, dMet "Thing" "worths" "Thing.worths" 18 2]
def hfn3 : List He.DefD := [dMet "Thing" "start" "Thing.start" 18 3, dMet "Thing" "deeds" "Thing.deeds" 18 4, dMet "Thing" "entries" "Thing.entries" 18 5]
def hfn : List He.DefD := hfn0 ++ (hfn1 ++ (hfn2 ++ (hfn3)))
/-- the class of things, its own line and == -/
def thB (K : PySem.W.Frag) (T : Addr) : Bool :=
  decide (PySem.W.mroIn K T (.type "object") = some true) && (He.eqO (PySem.W.findIn K (.ref T) "__ne__") (some (some (.builtin "object.__ne__"))) && (PySem.W.notFirst K T (.type "list") &&
  (He.eqO (PySem.W.findIn K (.ref T) "__class__") (some (some (.builtin "object.__class__"))) && (He.eqO (PySem.W.specialIn K (.builtin "object.__class__") "__get__") (some (some (.builtin "getset_descriptor.__get__"))) &&
  (decide (PySem.W.takesIn K (.builtin "object.__class__") = some true) && (decide (PySem.W.kitOne K (.ref T) (.ref T) = some true) && decide (PySem.W.kitOne K (.type "list") (.ref T) = some false)))))))
/-- an error class with its own __init__ -/
def oexB (K : PySem.W.Frag) (C : Addr) : Bool := match K.lookup C with
  | some ⟨.type "type", _, .cls cd, sl⟩ => (match sl.toList with
    | [_, _, _, _, some (.builtin n), _] => n == "ValueError.__new__" && (!cd.hasDel && (cd.hasDict && (match cd.mro with
      | .ref C' :: bm => C' == C && PySem.HandSPX.refsVE bm
      | _ => false)))
    | _ => false)
  | _ => false
def errB (K : PySem.W.Frag) (C : Addr) : Bool :=
  oexB K C && (He.eqO (PySem.W.findIn K (.ref C) "__setattr__") (some (some (.builtin "object.__setattr__"))) && (decide (PySem.W.subIn K (.ref C) (.type "BaseException") = some true) && (decide (PySem.W.typeIn K (.ref C) = some (.type "type")) && (PySem.W.keepIn K (.ref C) &&
  (L2.xfB K C && (He.eqO (PySem.W.findIn K (.ref C) "__init__") (some (some (.ref (He.ma K C "__init__")))) && decide (PySem.W.typeIn K (.ref (He.ma K C "__init__")) = some (.type "function"))))))))
def errN : List Str := ["BadValues", "BadStart", "BadDeeds", "BadEntries"]
/-- the code object of a def and its table -/
def cdK (K : PySem.W.Frag) (f : Addr) : Addr := match K.lookup f with
  | some ⟨_, _, .func fd, _⟩ => (match fd.code with
    | .ref c => c
    | _ => 0)
  | _ => 0
def tbK (K : PySem.W.Frag) (c : Addr) : Addr := match K.lookup c with
  | some ⟨_, _, .fields vs, _⟩ => (match vs.getD 11 .none with
    | .ref p => p
    | _ => 0)
  | _ => 0
def codeB (K : PySem.W.Frag) (f : Addr) : Bool := match K.lookup f with
  | some ⟨_, _, .func fd, _⟩ => (match fd.code with
    | .ref c => c == cdK K f && PySem.W.codeHdIn K c (tbK K c)
    | _ => false)
  | _ => false
def emptyTab : Option Obj → Bool
  | some ⟨.none, none, .fields a, sl⟩ => a.size == 0 && sl.size == 0
  | _ => false
def exB (g : G) (K : PySem.W.Frag) : Bool := thB K (He.ga K "Thing") && ((errN.all fun x => errB K (He.ga K x)) && (codeB K (He.ga K "_law_doors_right") && (emptyTab (g (tbK K (cdK K (He.ga K "_law_doors_right")))) && (K.lookup (tbK K (cdK K (He.ga K "_law_doors_right")))).isNone)))
abbrev LkT : Type := Bool × He.AlD
def looks (g : G) : LkT := forceF (KK g) fun K => (exB g K, He.obsD hfa hfn K)
def vals : LkT := (true, He.valD hfn)
end K01
/-! ## K01S1 -/
set_option Elab.async false
set_option linter.all false
set_option maxRecDepth 100000
set_option maxHeartbeats 0
namespace K01
open PySem PySem.Spec PyProof.Rows L2
theorem run1 (w : World) : ∀ os : OsState, (endS w os).map (fun s => HandSHeadRun.looksF R.prog (PySem.W.boot_heap w.params) s.abs) = some true := by
  intro os
  kernel_rfl
end K01
/-! ## K01S2 -/
set_option Elab.async false
set_option linter.all false
set_option maxRecDepth 100000
set_option maxHeartbeats 0
namespace K01
open PySem PySem.Spec PyProof.Rows L2
theorem run2 (w : World) : ∀ os : OsState, (endS w os).map (fun s => HandSHeadRun.seenQ q28 loose (importedModules R.prog.main.body) (fun s => PySem.W.xlAt q28 [] s && PySem.W.recOk R.toRowW.records s) s.abs) = some (PySem.W.openGood q28 loose) := by
  intro os
  kernel_rfl
end K01
/-! ## K01SA -/
set_option Elab.async false
set_option linter.all false
set_option maxRecDepth 100000
set_option maxHeartbeats 0
namespace K01
open PySem PySem.Spec PyProof.Rows L2
theorem runA (w : World) : ∀ os : OsState, (endS w os).map (fun s => looks (HandSHeadRun.getT s)) = some vals := by
  intro os
  kernel_rfl
end K01
/-! ## D2 -/
set_option Elab.async false
set_option linter.all false
set_option maxRecDepth 100000
set_option maxHeartbeats 4000000
namespace K01
open PySem L2
open C8 (pss_cut)
/-- one step of a reading -/
local macro_rules | `(tactic| walk_at "rd") => `(tactic| first
  | refine ⟨_, rfl, ?_⟩
  | refine ⟨_, _, rfl, rfl, ((by first | decide | omega | assumption) : (_ : Prop)), ?_⟩
  | refine ⟨_, _, rfl, rfl, (Or.inl ⟨(by omega), (by omega)⟩), ?_⟩
  | refine ⟨_, _, rfl, rfl, And.intro (by omega) (And.intro (by omega) (by omega)), ?_⟩
  | refine ⟨_, _, _, _, rfl, rfl, ((by assumption) : (_ : Prop)), ((by first | rfl | assumption) : (_ : Prop)), ?_⟩
  | refine Or.inl ⟨_, rfl, ?_⟩
  | refine ⟨_, _, rfl, rfl, ?_⟩)
theorem cut_head {xs : List V} {k : Nat} : cutV xs none (some (k : Int)) = xs.take k := by
  unfold cutV
  rw [HT.sIx_none, HT.sIx_nat]
  rw [List.drop_zero, Nat.sub_zero]
  by_cases h : k ≤ xs.length
  · rw [Nat.min_eq_left h]
  · rw [Nat.min_eq_right (by omega), List.take_of_length_le (Nat.le_refl _), List.take_of_length_le (by omega)]
theorem cut_int {ns : List Int} {k i : Nat} {x : V} (h : (cutV (ns.map V.int) none (some (k : Int)))[i]? = some x) : ∃ z, x = .int z := by
  rw [cut_head, ← List.map_take, List.getElem?_map] at h
  cases e : (ns.take k)[i]? with
  | none =>
    rw [e] at h
    cases h
  | some z =>
    rw [e] at h
    exact ⟨z, (Option.some.inj h).symm⟩
theorem back_none {H H' : Hp} {p : Addr} (e : ∀ b o, H b = some o → H' b = some o) (n : H' p = none) : H p = none := by
  cases q : H p with
  | none => rfl
  | some o =>
    rw [e p o q] at n
    cases n
def spPool (K : PySem.W.Frag) : Sp := fun vs H Q _ => ∃ (a : Addr) (ns : List Int) (t : Int), vs = [.ref a, .int t] ∧ SqL K H a (ns.map V.int) ∧ ns.length ≤ 1000 ∧ 0 ≤ t ∧ t ≤ 1000 ∧
  ∀ (H' : Hp) (p : Addr), H p = none → Spring H' p 0 → (∀ b o, H b = some o → H' b = some o) → Q (.ref p) H'
section
variable {P : Program} {w : World} {K : PySem.W.Frag} {mg : Str → Option Value} {base : Heap} {f : Addr} {fd : FuncData}
theorem scPool : FnScope ["script", "turn", "cell", "seed", "one"] ["script", "turn"] (defScope sPool) := ⟨rfl, rfl, rfl, by decide +kernel, rfl, by decide +kernel, by decide +kernel⟩
theorem ok_pool (F : Fun K "_law_pool" "_law_pool" sPool f fd) (gI : mg "int" = none) (gL : mg "len" = none) (gS : mg "sum" = none) (gA : mg "abs" = none) : FnOk P w K mg base CX0 1 f fd ["script", "turn"] (spPool K) := by
  refine F.ok scPool (fun vs H Q E h => ?_) (fun cdv A outer s H vs Q E hr h => ?_)
  · obtain ⟨a, ns, t, rfl, _⟩ := h
    rfl
  · obtain ⟨a, ns, t, rfl, hx, hl, t0, t1, k⟩ := h
    refine ⟨_, pss_cut (ps_set (i := 2) scPool.nd rfl (Or.inl rfl) (pe_ifExp (pt_cmpR op_lt (pv 1) (pe_callB call_len_seq (by rfl) gL PySem.boot_len (pa_cons (pv 0) pa_nil)) (nomark _)) (pe_ix ix_list (pv 0) (pv 1) (fun _ _ => rfl))
          (pe_op op_add (pe_op op_mod (pe_callB (cr_sum rfl) (by rfl) gS (by decide +kernel) (pa_cons (pe_slice sl_list (pv 0) po_none (po_some pe_int)) pa_nil)) pe_int) (pv 1))))
      (pss_cons (ps_set (i := 3) scPool.nd rfl (Or.inl rfl) (pe_op op_add pe_int (pv 1)))
      (pss_cons (ps_for PassesOwn.never rfl (pi_list (pe_slice sl_list (pv 0) po_none (po_some pe_int))) (pg_name (i := 4) scPool.nd rfl (Or.inl rfl))
        (pss_one (ps_set (i := 3) scPool.nd rfl (Or.inl rfl) (pe_op op_mod (pe_callTy call_int1 (by rfl) gI (by decide +kernel) (pa_cons (pe_op op_add (pe_op op_mul (pv 3) pe_int) (pv 4)) pa_nil)) pe_int))))
      (pss_one (ps_ret (pe_lst (pa_cons (pe_ifExp (pt_cmpR op_ge (pe_callB call_abs (by rfl) gA (by decide +kernel) (pa_cons (pv 2) pa_nil)) (pe_op op_pow pe_int pe_int) (nomark _)) (pe_callB call_abs (by rfl) gA (by decide +kernel) (pa_cons (pv 2) pa_nil)) pe_int)
        (pa_cons (pe_op op_mod (pe_callTy call_int1 (by rfl) gI (by decide +kernel) (pa_cons (pe_op op_add (pe_op op_mul (pv 3) pe_int) (pv 2)) pa_nil)) pe_int) (pa_cons pe_int pa_nil)))))))), ?_⟩
    refine ⟨fun σ H2 => ∃ v : Int, σ = [some (.ref a), some (.int t), some (.int v), none, none] ∧ ∀ b o, H b = some o → H2 b = some o, ?_, ?_⟩
    · refine ⟨_, rfl, _, rfl, a, _, rfl, .inl hx, _, _, rfl, rfl, _, rfl, ?_⟩
      rw [List.length_map]
      refine ite2 (fun q => ?_) (fun q => ?_)
      · have tl : t < (ns.length : Int) := of_decide_eq_true q
        obtain ⟨j, rfl⟩ := Int.eq_ofNat_of_zero_le t0
        have hj : j < ns.length := by omega
        have ej : (ns.map V.int)[j]? = some (.int ns[j]) := by rw [List.getElem?_map, List.getElem?_eq_getElem hj] <;> rfl
        exact ⟨_, rfl, _, rfl, a, _, _, _, rfl, rfl, hx, atI_nat ej, ns[j], rfl, fun _ _ e => e⟩
      · refine ⟨_, rfl, _, rfl, a, _, rfl, hx, fun l nl => ⟨l, ns.take 1, rfl, ?_, _, _, rfl, rfl, (show (0 : Int) < 1000003 by decide), _, rfl, _, _, rfl, rfl, _, rfl, fun b o e => up_new nl e⟩⟩
        have e1 : cutV (ns.map V.int) none (some ((1 : Nat) : Int)) = (ns.take 1).map V.int := by rw [cut_head, List.map_take]
        exact SqL.of (by rw [upd_same]; exact congrArg (fun z => some (HO.lst z)) e1)
    · rintro σ H2 ⟨v, rfl, ex⟩
      have hx2 : SqL K H2 a (ns.map V.int) := by
        rcases hx with (h | ⟨o, h⟩) | h
        · exact .inl (.inl (ex _ _ h))
        · exact .inl (.inr ⟨o, ex _ _ h⟩)
        · exact .inr h
      refine ⟨_, rfl, _, _, rfl, rfl, ?_⟩
      refine ⟨_, rfl, _, rfl, a, _, rfl, hx2, fun l nl => ⟨l, rfl, ⟨_, SqL.of upd_same⟩, for_list (K := K) (a := l) (xs := cutV (ns.map V.int) none (some ((6 : Nat) : Int))) (fun i σ H' => ∃ (sd : Int) (o4 : Option V), σ = [some (.ref a), some (.int t), some (.int v), some (.int sd), o4] ∧ 0 ≤ sd ∧ sd < 2147483647 ∧ H' = upd H2 l (.lst (cutV (ns.map V.int) none (some ((6 : Nat) : Int))))) ?_ ?_ ?_ ?_⟩⟩
      · exact ⟨29 + t, none, rfl, by omega, by omega, rfl⟩
      · rintro i σ H' _ ⟨sd, o4, rfl, s0, s1, rfl⟩
        exact SqL.of upd_same
      · rintro i x σ H' hi ⟨sd, o4, rfl, s0, s1, rfl⟩
        obtain ⟨z, rfl⟩ := cut_int hi
        repeat walk_at "rd"
        exact ⟨_, _, rfl, Int.emod_nonneg _ (by decide), Int.emod_lt_of_pos _ (by decide), rfl⟩
      · rintro σ H' ⟨sd, o4, rfl, s0, s1, rfl⟩
        have ex2 : ∀ b o, H b = some o → upd H2 l (.lst (cutV (ns.map V.int) none (some ((6 : Nat) : Int)))) b = some o := fun b o e => up_new nl (ex b o e)
        have av : 0 ≤ (if v < 0 then -v else v) := by split <;> omega
        repeat walk_at "rd"
        refine ite2 (fun q => ?_) (fun q => ?_)
        · repeat walk_at "rd"
          refine ⟨by show 3 ≤ sizeLine; decide, fun p np => k _ p (back_none ex2 np) ⟨⟨_, _, _, upd_same, av, Int.emod_nonneg _ (by decide), Int.emod_lt_of_pos _ (by decide), by decide, by decide⟩⟩ fun b o e => up_new np (ex2 b o e)⟩
        · repeat walk_at "rd"
          refine ⟨by show 3 ≤ sizeLine; decide, fun p np => k _ p (back_none ex2 np) ⟨⟨_, _, _, upd_same, by decide, Int.emod_nonneg _ (by decide), Int.emod_lt_of_pos _ (by decide), by decide, by decide⟩⟩ fun b o e => up_new np (ex2 b o e)⟩
end
end K01
/-! ## B1 -/
set_option Elab.async false
set_option linter.all false
set_option maxRecDepth 100000
set_option maxHeartbeats 4000000
namespace K01
open PySem L2
abbrev sWord : Stmt := tp 3
abbrev sIsList : Stmt := tp 4
abbrev letters : Str := "abcdefghijklmnopqrstuvwxyz"
/-- one step of a reading -/
local macro_rules | `(tactic| walk_at "rd") => `(tactic| first
  | refine ⟨_, rfl, ?_⟩
  | refine ⟨_, _, rfl, rfl, ((by first | decide | omega | assumption) : (_ : Prop)), ?_⟩
  | refine ⟨_, _, _, _, rfl, rfl, ((by assumption) : (_ : Prop)), ((by first | rfl | assumption) : (_ : Prop)), ?_⟩
  | refine Or.inl ⟨_, rfl, ?_⟩
  | refine ⟨_, _, rfl, rfl, ?_⟩)
/-- a text that is a word -/
def wordT (z : Str) : Bool := decide (1 ≤ z.length) && (decide (z.length ≤ 8) && z.cps.toList.all fun c => decide (c ∈ letters.cps.toList))
def isW : V → Bool
  | .str z => wordT z
  | _ => false
/-- the kinds of objects that are passed, but texts -/
def kinds : List String := ["NoneType", "bool", "int", "list", "tuple", "dict"]
def Odd (K : PySem.W.Frag) (H : Hp) (x : V) : Prop := ∃ n ∈ kinds, TyX K H x (.type n)
def Any (K : PySem.W.Frag) (H : Hp) (x : V) : Prop := (∃ z, x = .str z ∧ z.length ≤ 1000) ∨ Odd K H x
theorem odd_str {n : String} (h : n ∈ kinds) : kitB n "str" = some false := by
  simp only [kinds, List.mem_cons, List.not_mem_nil, or_false] at h
  rcases h with rfl | rfl | rfl | rfl | rfl | rfl <;> decide +kernel
theorem odd_isW {K : PySem.W.Frag} {H : Hp} {x : V} (h : Odd K H x) : isW x = false := by
  obtain ⟨n, hn, ty⟩ := h
  cases x with
  | str z =>
    cases ty with
    | base q =>
      cases q
      simp [kinds] at hn
  | _ => rfl
def spWord (K : PySem.W.Frag) : Sp := fun vs H Q _ => ∃ x : V, vs = [x] ∧ Any K H x ∧ ∀ H', Same H H' → Q (.bl (isW x)) H'
section
variable {P : Program} {w : World} {K : PySem.W.Frag} {mg : Str → Option Value} {base : Heap} {f : Addr} {fd : FuncData}
theorem scWord : FnScope ["thing", "sign"] ["thing"] (defScope sWord) := ⟨rfl, rfl, rfl, by decide +kernel, rfl, by decide +kernel, by decide +kernel⟩
theorem ok_word (F : Fun K "is_word" "is_word" sWord f fd) (gI : mg "isinstance" = none) (gS : mg "str" = none) (gL : mg "len" = none) (gA : mg "all" = none) (gT : ∃ t, mg "LETTERS" = some (.str letters t)) (gN : ∃ t, mg "LONGEST_WORD" = some (.int 8 t)) :
    FnOk P w K mg base CX0 1 f fd ["thing"] (spWord K) := by
  obtain ⟨tT, gT⟩ := gT
  obtain ⟨tN, gN⟩ := gN
  refine F.ok scWord (fun vs H Q E h => ?_) (fun cdv A outer s H vs Q E hr h => ?_)
  · obtain ⟨x, rfl, _⟩ := h
    rfl
  · obtain ⟨x, rfl, any, k⟩ := h
    refine ⟨_, pss_cons (ps_if (PW.pt (pw_or (pt_not (pt_val (pe_callB call_isi (by rfl) gI (by decide +kernel) (pa_cons (pv 0) (pa_cons (pe_bltn (v := .ty "str") (by rfl) gS (by decide +kernel) rfl) pa_nil)))))
          (pw_or1 (pt_not (pt_chain op_le op_le pe_int (pe_callB call_len_str (by rfl) gL PySem.boot_len (pa_cons (pv 0) pa_nil)) (pe_glob (v := .int 8) rfl gN ⟨_, rfl⟩))))))
        (pss_one (ps_ret pe_bl)) pss_nil)
      (pss_one (ps_ret (pe_callB (cr_all rfl) (by rfl) gA (by decide +kernel) (pa_cons (pe_lc (own := [("sign", 1)]) (g := gName 1) (tt := tYes) rfl scWord.nd (pi_str (pv 0)) (blkOk_by (N := ["thing", "sign"]) (sc := defScope sWord) (by decide +kernel))
        (fun _ _ _ _ _ => pg_name (i := 1) scWord.nd rfl (Or.inl rfl)) (fun _ _ _ _ _ => pts_nil) (fun _ _ _ _ _ => pe_cmpR op_in_sign (pv 1) (pe_glob (v := .str letters) rfl gT ⟨_, rfl⟩) rfl)) pa_nil)))), ?_⟩
    rcases any with ⟨z, rfl, hz⟩ | odd
    · refine ⟨_, rfl, .str z, .ty "str", _, _, true, rfl, .ty "str", .base (.str z), kit_ty (by decide +kernel), true, rfl, ?_⟩
      refine ⟨_, rfl, z, rfl, Nat.le_trans hz (by decide), _, _, rfl, rfl, _, rfl, ?_⟩
      refine ite2 (fun q1 => ?_) (fun q1 => ?_)
      · refine ⟨_, _, rfl, rfl, _, rfl, ?_⟩
        refine ite2 (fun q2 => ?_) (fun q2 => ?_)
        · have e := k H (Same.refl H)
          have e2 : isW (.str z) = false := by
            have q3 : ¬ ((z.length : Int) ≤ 8) := by simpa using q2
            have q4 : ¬ (z.length ≤ 8) := by omega
            show (decide (1 ≤ z.length) && (decide (z.length ≤ 8) && _)) = false
            rw [decide_eq_false q4, Bool.false_and, Bool.and_false]
          rw [e2] at e
          exact e
        · have z1 : 1 ≤ z.length := by
            have := of_decide_eq_true q1
            omega
          have z8 : z.length ≤ 8 := by
            have q3 : ((z.length : Int) ≤ 8) := by simpa using q2
            omega
          refine ⟨_, rfl, z, rfl, fun D hD => lc_it walk_str (fun i H' => Same H H' ∧ H' D = some (.lst ((z.cps.toList.take i).map fun c => V.bl (decide (c ∈ letters.cps.toList))))) ?_ (fun _ _ _ _ => trivial) ?_ ?_⟩
          · exact ⟨fun b o e => up_new hD e, upd_same⟩
          · rintro i x H1 H2 hi ⟨sm, hl⟩ ⟨rfl, c, ec, rfl⟩
            refine ⟨rfl, ?_⟩
            unfold tYes
            dsimp only
            rw [if_pos rfl]
            refine ⟨_, rfl, c, letters, rfl, rfl, _, hl, ?_, fun b o e => ?_, ?_⟩
            · have q : ((z.cps.toList.take i).map fun c => V.bl (decide (c ∈ letters.cps.toList))).length ≤ z.cps.toList.length := by
                rw [List.length_map, List.length_take]
                exact Nat.min_le_right _ _
              exact Nat.lt_of_le_of_lt q (Nat.lt_of_le_of_lt (show z.cps.toList.length ≤ 8 from by rw [Array.length_toList]; exact z8) (by decide))
            · rw [upd_ne (ne_of_none e hD)]
              exact sm b o e
            · have ec2 : z.cps.toList[i]? = some c := by simpa using ec
              rw [upd_same, List.take_succ, ec2, List.map_append]
              rfl
          · rintro H1 ⟨sm, hl⟩
            have full : z.cps.toList.take z.cps.size = z.cps.toList := List.take_of_length_le (by simp)
            rw [full] at hl
            refine ⟨D, z.cps.toList.map fun c => decide (c ∈ letters.cps.toList), rfl, SqL.of (by rw [hl, List.map_map]; rfl), ?_⟩
            have e := k H1 sm
            have e2 : isW (.str z) = (z.cps.toList.map fun c => decide (c ∈ letters.cps.toList)).all id := by
              show (decide (1 ≤ z.length) && (decide (z.length ≤ 8) && _)) = _
              rw [decide_eq_true z1, decide_eq_true z8, List.all_map]
              rfl
            rw [e2] at e
            exact e
      · have e := k H (Same.refl H)
        have e2 : isW (.str z) = false := by
          have q3 : ¬ (1 ≤ z.length) := fun h => q1 (decide_eq_true (by omega))
          show (decide (1 ≤ z.length) && _) = false
          rw [decide_eq_false q3, Bool.false_and]
        rw [e2] at e
        exact ⟨false, rfl, e⟩
    · obtain ⟨n, hn, ty⟩ := id odd
      refine ⟨_, rfl, x, .ty "str", _, _, false, rfl, .ty "str", ty, kit_ty (odd_str hn), false, rfl, ?_⟩
      have e := k H (Same.refl H)
      rw [odd_isW odd] at e
      exact e
end
end K01
/-! ## ErrK -/
set_option Elab.async false
set_option linter.all false
set_option maxRecDepth 100000
set_option maxHeartbeats 4000000
/-! Own errors of one field: X(e) raised, made from the facts of the class. -/
namespace ErrK
open PySem L2
/-- __init__ of such a class: self.f = v -/
def spIni (C : Addr) (f : Str) : Sp := fun vs H Q _ => ∃ (a : Addr) (v : V), vs = [.ref a, v] ∧ H a = some (exo a C none) ∧
  ∀ dx, H dx = none → dx ≠ a → Q .non (upd (upd H dx (exd dx [(f, v)])) a (exo a C (some dx)))
/-- an error class at C, called x, with the field f -/
structure Err (P : Program) (w : World) (K : PySem.W.Frag) (mg : Str → Option Value) (base : Heap) (x f : Str) (C : Addr) : Prop where
  oex : OexC K C
  gC : mg x = some (.ref C)
  ini : ∃ (fI : Addr) (fd : FuncData), PySem.W.findIn K (.ref C) "__init__" = some (some (.ref fI)) ∧ PySem.W.typeIn K (.ref fI) = some (.type "function") ∧ FnOk P w K mg base CX0 1 fI fd ["self", f] (spIni C f) ∧ Binds K fd ["self", f] []
  no : PySem.W.findIn K (.ref C) f = some none
  xf : XfC K C
section
variable {P : Program} {w : World} {K : PySem.W.Frag} {mg : Str → Option Value} {base : Heap}
theorem ok_ini {x q f : Str} {st : Stmt} {fI C : Addr} {fd : FuncData} (F : Fun K x q st fI fd) (S : FnScope ["self", f] ["self", f] (defScope st)) (hb : ∃ p1 p2 p3 p4 : Pos, defBody st = [.Assign [.Attribute (.Name "self" p1) f p2] (.Name f p3) p4])
    (T : OexC K C) (no : PySem.W.findIn K (.ref C) f = some none) (d1 : (f == ("__debug__" : Str)) = false) (d2 : (f == ("__classdict__" : Str)) = false) : FnOk P w K mg base CX0 1 fI fd ["self", f] (spIni C f) := by
  refine F.ok S (fun vs H Q E h => ?_) (fun cdv A outer s H vs Q E hr h => ?_)
  · obtain ⟨a, v, rfl, _⟩ := h
    rfl
  · obtain ⟨a, v, rfl, ha, k⟩ := h
    obtain ⟨p1, p2, p3, p4, e⟩ := hb
    rw [e]
    have vis : ∀ y ∈ (["self", f] : List Str), Vis (defScope st) y := fun y hy => by
      rcases S.par y hy with z | z
      · exact .inl z
      · exact .inr (.inl z)
    refine ⟨_, pss_one (ps_ost (pe_var (i := 0) rfl (vis _ (by simp))) (pe_var (i := 1) rfl (vis _ (by simp)) d1 d2)), ?_⟩
    exact ⟨v, rfl, _, rfl, a, C, rfl, T, no, .inl ⟨ha, fun dx n ne => k dx n ne⟩⟩
end
/-- behind the argument of X(e), on its way to a raise: its own dict is new, the error itself is let go -/
theorem err_end {C : Addr} {f : Str} {v : V} {H1 : Hp} {Q : XK} (h : ∀ d, H1 d = none → Q (.ref C) (some d) (upd H1 d (.xd [(f, v)]))) :
    [v].length ≤ 1000 ∧ ∀ a, H1 a = none → spIni C f (.ref a :: ([v] ++ [])) (upd H1 a (exo a C none))
      (fun u H2 => u = .non ∧ ∃ (d : Addr) (fs : List (Str × V)), H2 a = some (exo a C (some d)) ∧ H2 d = some (exd d fs) ∧ H1 d = none ∧ Q (.ref C) (some d) (upd (L2.del H2 a) d (.xd fs))) (fun _ _ _ => False) := by
  refine ⟨(show 1 ≤ 1000 by decide), fun a na => ⟨a, v, rfl, upd_same, fun dx nd ne => ⟨rfl, dx, [(f, v)], upd_same, ?_, ?_, ?_⟩⟩⟩
  · rw [upd_ne ne, upd_same]
  · rw [upd_ne ne] at nd
    exact nd
  · rw [upd_ne ne] at nd
    have e : upd (L2.del (upd (upd (upd H1 a (exo a C none)) dx (exd dx [(f, v)])) a (exo a C (some dx))) a) dx (.xd [(f, v)]) = upd H1 dx (.xd [(f, v)]) := by
      funext b
      by_cases hb : b = dx
      · rw [hb, upd_same, upd_same]
      · rw [upd_ne hb, upd_ne hb]
        by_cases ha : b = a
        · rw [ha, L2.del_same, na]
        · rw [L2.del_ne ha, upd_ne ha, upd_ne hb, upd_ne ha]
    rw [e]
    exact h dx nd
theorem pmk_err {X : Cx} {x f : Str} {C : Addr} {e : Expr} {te : TE} {p pos : Pos} (T : Err X.prog X.w X.K X.mg X.base x f C) (hr : Room 2 X.A) (he : PE X e te) (hg : Gl X x := by rfl) (hdb : (x == ("__debug__" : Str)) = false := by decide)
    (hs : starEach (e :: []) X.env = (false, eval e X.env) :: starEach [] X.env := by rfl) (hp : (backTo pos (starEach ([] : List Expr) X.env)).any (·.1) = false := by rfl) : PMk X (.Call (.Name x p) [e] [] pos) (tMkO C (spIni C f) [] (tCons te tNil)) := by
  obtain ⟨fI, fd, iC, tI, F1, hb⟩ := T.ini
  exact pmk_oex (p := p) (pos := pos) T.oex iC tI F1 hr hb .nil pass0 hg T.gC (pa_cons he pa_nil hs) hdb hs hp
end ErrK
/-! ## B2 -/
set_option Elab.async false
set_option linter.all false
set_option maxRecDepth 100000
set_option maxHeartbeats 4000000
namespace K01
open PySem L2 ErrK
open C8 (pss_cut)
abbrev sValues : Stmt := tp 12
abbrev sIsValue : Stmt := tp 13
/-- one step of a reading -/
local macro_rules | `(tactic| walk_at "rd") => `(tactic| first
  | refine ⟨_, rfl, ?_⟩
  | refine ⟨_, _, rfl, rfl, ((by first | decide | omega | assumption) : (_ : Prop)), ?_⟩
  | refine ⟨_, _, _, _, rfl, rfl, ((by assumption) : (_ : Prop)), ((by first | rfl | assumption) : (_ : Prop)), ?_⟩
  | refine Or.inl ⟨_, rfl, ?_⟩
  | refine ⟨_, _, rfl, rfl, ?_⟩)
section
variable {P : Program} {w : World} {K : PySem.W.Frag} {mg : Str → Option Value} {base : Heap} {f : Addr} {fd : FuncData}
def seqK (n : String) : Bool := decide (n = "list") || decide (n = "tuple")
theorem odd_seq {n : String} (h : n ∈ kinds) : PySem.W.kitAny K (.type n) [.type "list", .type "tuple"] = some (seqK n) := by
  simp only [kinds, List.mem_cons, List.not_mem_nil, or_false] at h
  rcases h with rfl | rfl | rfl | rfl | rfl | rfl <;> rfl
theorem tyx_same {H H' : Hp} {x : V} {t : Value} (s : Same H H') (h : TyX K H x t) : TyX K H' x t := by
  cases h with
  | base q =>
    refine .base ?_
    cases q with
    | non => exact .non
    | bl y => exact .bl y
    | int i => exact .int i
    | str y => exact .str y
    | flt y => exact .flt y
    | lst e => exact .lst (s _ _ e)
    | frz e => exact .frz (s _ _ e)
    | tup e => exact .tup (s _ _ e)
    | dK e => exact .dK (s _ _ e)
    | dT e => exact .dT (s _ _ e)
    | ins e cl ha hn htk hm => exact .ins (s _ _ e) cl ha hn htk hm
  | byt b => exact .byt b
  | set e => exact .set (s _ _ e)
  | kList e c => exact .kList e c
  | kTuple e c => exact .kTuple e c
  | kDict e c => exact .kDict e c
  | fTuple e => exact .fTuple (s _ _ e)
  | fDict e => exact .fDict (s _ _ e)
theorem str_seq : PySem.W.kitAny K (.type "str") [.type "list", .type "tuple"] = some (seqK "str") := rfl
/-- is_list: by the kind of the object -/
def spIsList (K : PySem.W.Frag) : Sp := fun vs H Q _ => ∃ (x : V) (n : String), vs = [x] ∧ TyX K H x (.type n) ∧ (n = "str" ∨ n ∈ kinds) ∧ ∀ H', Same H H' → Q (.bl (seqK n)) H'
theorem scIsList : FnScope ["thing"] ["thing"] (defScope sIsList) := ⟨rfl, rfl, rfl, by decide +kernel, rfl, by decide +kernel, by decide +kernel⟩
theorem ok_isList (F : Fun K "is_list" "is_list" sIsList f fd) (gI : mg "isinstance" = none) (gL : mg "list" = none) (gT : mg "tuple" = none) : FnOk P w K mg base CX0 1 f fd ["thing"] (spIsList K) := by
  refine F.ok scIsList (fun vs H Q E h => ?_) (fun cdv A outer s H vs Q E hr h => ?_)
  · obtain ⟨x, n, rfl, _⟩ := h
    rfl
  · obtain ⟨x, n, rfl, ty, hn, k⟩ := h
    refine ⟨_, pss_one (ps_ret (pe_callB call_isiT (by rfl) gI (by decide +kernel) (pa_cons (pv 0) (pa_cons (pe_tup (pa_cons (pe_bltn (v := .ty "list") (by rfl) gL (by decide +kernel) rfl) (pa_cons (pe_bltn (v := .ty "tuple") (by rfl) gT (by decide +kernel) rfl) pa_nil))) pa_nil)))), ?_⟩
    refine ⟨_, rfl, (by show 2 ≤ sizeLine; decide), fun t ht => ⟨_, t, _, .type n, _, seqK n, rfl, upd_same, .cons (.ty _) (.cons (.ty _) .nil), ?_, ?_, ?_⟩⟩
    · exact tyx_same (fun b o e => up_new ht e) ty
    · rcases hn with rfl | hn
      · exact str_seq
      · exact odd_seq hn
    · exact k _ (fun b o e => up_new ht e)
end
end K01
/-! ## R2 -/
set_option Elab.async false
set_option linter.all false
set_option maxRecDepth 100000
set_option maxHeartbeats 4000000
/-! enumerate over a tuple. -/
namespace K01
open PySem PySem.Spec PyProof.Rows L2
open AutoSeq1 (wpAny_loadPart')
section
variable {prog : Program} {w : World} {A : Around} {E : Value → Shared → Prop} {s : Shared}
theorem nextOf_tup_item {it l : Addr} {i : Nat} {items} {x : Value} {Q : Value → Shared → Prop} (hit : s.heap.IsTupleIter it l i)
    (hl : s.heap.IsTuple l items) (hx : items[i]? = some x)
    (hQ : ∀ h', h'.IsTupleIter it l (i + 1) → Heap.SameBut it s.heap h' → Q x { s with heap := h' }) :
    wpAny (model prog w) A (Builtin.SmallTypes.nextOf (.ref it)) Q E s := by
  obtain ⟨o, ho, hc, hd⟩ := id hit
  obtain ⟨ol, hol, _, nl, hdl⟩ := hl
  unfold Builtin.SmallTypes.nextOf
  refine wpAny_bind (wpAny_callSpecial?_slot (name := Str.ofString "__next__") hit.typeIs F.slot_tuple_iterator_next
    (wpAny_call_entry F.slot_tuple_iterator_next hit.typeIs F.entry_tuple_iterator_next ?_ (F.args_tuple_iterator_next_1 _)))
  show wpAny _ _ (field (.ref it) 0 >>= _) _ _ s
  refine wpAny_bind (wpAny_field ho hd (x := .ref l) rfl ?_)
  show wpAny _ _ (if (Value.ref l == Value.none) = true then _ else _) _ _ s
  rw [if_neg (show ¬ ((Value.ref l == Value.none) = true) from Bool.false_ne_true)]
  show wpAny _ _ (field (.ref it) 1 >>= _) _ _ s
  refine wpAny_bind (wpAny_field ho hd (x := .int i 0) rfl ?_)
  show wpAny _ _ (seqItems? (.ref l) >>= _) _ _ s
  refine wpAny_bind (wpAny_seqItems hol hdl ?_)
  simp only [Int.toNat_natCast, hx]
  refine wpAny_bind (wpAny_setField ho hd (by simp) (wpAny_pure ⟨x, rfl, wpAny_pure (hQ _ ?_ (Heap.SameBut.update ..))⟩))
  exact ⟨_, Heap.get?_update_self _ ho (Obj.isFreed_of_fields (Obj.data_mapFields hd _)), (Obj.cls_mapFields ..).trans hc, by
    rw [Obj.data_mapFields hd]; simp [rawInt]⟩
theorem nextOf_tup_end {it l : Addr} {i : Nat} {items} {Q : Value → Shared → Prop} (hh : A.handled = none)
    (hit : s.heap.IsTupleIter it l i) (hl : s.heap.IsTuple l items) (hx : items[i]? = none)
    (hE : ∀ h' e, Heap.ExtBut it s.heap h' → (∃ o, h'.get? e = some o ∧ o.cls = .type "StopIteration") → E (.ref e) { s with heap := h' }) :
    wpAny (model prog w) A (Builtin.SmallTypes.nextOf (.ref it)) Q E s := by
  obtain ⟨o, ho, hc, hd⟩ := id hit
  obtain ⟨ol, hol, _, nl, hdl⟩ := hl
  unfold Builtin.SmallTypes.nextOf
  refine wpAny_bind (wpAny_callSpecial?_slot (name := Str.ofString "__next__") hit.typeIs F.slot_tuple_iterator_next
    (wpAny_call_entry F.slot_tuple_iterator_next hit.typeIs F.entry_tuple_iterator_next ?_ (F.args_tuple_iterator_next_1 _)))
  show wpAny _ _ (field (.ref it) 0 >>= _) _ _ s
  refine wpAny_bind (wpAny_field ho hd (x := .ref l) rfl ?_)
  show wpAny _ _ (if (Value.ref l == Value.none) = true then _ else _) _ _ s
  rw [if_neg (show ¬ ((Value.ref l == Value.none) = true) from Bool.false_ne_true)]
  show wpAny _ _ (field (.ref it) 1 >>= _) _ _ s
  refine wpAny_bind (wpAny_field ho hd (x := .int i 0) rfl ?_)
  show wpAny _ _ (seqItems? (.ref l) >>= _) _ _ s
  refine wpAny_bind (wpAny_seqItems hol hdl ?_)
  simp only [Int.toNat_natCast, hx]
  refine wpAny_bind (wpAny_rule (wpAny_bind (wpAny_setField ho hd (by simp) ?_)))
  show wpAny _ _ (newExc (.type "StopIteration") [] >>= _) _ _ _
  refine wpAny_bind ?_
  simp only [newExc, newTuple]
  refine wpAny_bind (wpAny_newObj_type ?_ (by size_fits))
  refine wpAny_bind (m := firstArgMember _ _) (wpAny_of_eq (a := Value.none) (by first | rfl | (simp only [firstArgMember]; rfl)) ?_)
  refine wpAny_newObj_type ?_ (by size_fits)
  simp only [raiseNew]
  refine wpAny_bind (wpAny_handled ?_)
  first | rw [show A.in1.handled = none from hh] | rw [hh]
  refine wpAny_bind (wpAny_pure (wpAny_throw ?_))
  exact hE _ _ (((Heap.SameBut.update ..).extBut.push _).push _) ⟨_, Heap.get?_push_size _ rfl, rfl⟩
end
theorem tupIter_at {h h' : Heap} {it t : Addr} {i : Nat} (x : h.IsTupleIter it t i) (k : ∀ o, h.get? it = some o → h'.get? it = some o) : h'.IsTupleIter it t i :=
  let ⟨o, ho, r⟩ := x; ⟨o, k o ho, r⟩
theorem tup_at {h h' : Heap} {t : Addr} {xs : Array Value} (x : h.IsTuple t xs) (k : ∀ o, h.get? t = some o → h'.get? t = some o) : h'.IsTuple t xs :=
  let ⟨o, ho, r⟩ := x; ⟨o, k o ho, r⟩
theorem draws_tup {prog : Program} {w : World} {A : Around} (hh : A.handled = none) (it l : Addr) (hne : l ≠ it) (items : Array Value) :
    Draws prog w A it [it, l] items.size (fun i v => items[i]? = some v) (fun i h => h.IsTupleIter it l i ∧ h.IsTuple l items) where
  live := fun _ _ st => let ⟨o, ho, _⟩ := st.1; ⟨o, ho⟩
  frame := fun _ _ _ st hk => ⟨tupIter_at st.1 fun o e => hk it (by simp) o e, tup_at st.2 fun o e => hk l (by simp) o e⟩
  item := fun i s Q E hi st hQ => by
    refine nextOf_tup_item st.1 st.2 (x := items[i]) (by simp [hi]) fun h' hit' hs' => ?_
    exact hQ _ h' s.toks (by simp [hi]) ⟨hit', st.2.extBut hs'.extBut hne⟩ hs'
  done := fun s Q E st hE => nextOf_tup_end hh st.1 st.2 (by simp) hE
theorem meets_enumerate_newT (l : Addr) (items : Array Value) (n : Nat) (dct : Option Addr) (sl : Array (Option Value)) :
    Meets (Builtin.«enumerate.__new__» ⟨[.type "enumerate", .ref l], []⟩) (fun _ R s => s.heap.get? l = some { cls := .type "tuple", dict := dct, data := .seq items n, slots := sl } ∧
      R (.ok (.ret (.ref (s.heap.push { cls := .type "tuple_iterator", data := .fields #[.ref l, .int 0 0] }).objs.size)))
        { s with heap := (s.heap.push { cls := .type "tuple_iterator", data := .fields #[.ref l, .int 0 0] }).push { cls := .type "enumerate", data := .fields #[.none, .bool false, .ref s.heap.objs.size, rawInt 0, .none, .none] } }) :=
  .of_wp fun prog w A R s h => by
    obtain ⟨hp, g, d, tk, os⟩ := s; obtain ⟨hl, h⟩ := h
    have hsub := sub_enumerate
    have hL : Heap.IsTuple (Shared.heap ⟨hp, g, d, tk, os⟩) l items := ⟨_, hl, rfl, n, rfl⟩
    wp_walk using wpAny_loadPart' hl
    refine wpAny_stack_any fun st => wpAny_pure ?_
    split
    · rename_i c _ _ _ _ _
      cases (c == Value.type "enumerate")
      · wp_walk using wpAny_loadPart' hl, wpAny_pyIter_tuple hL
        exact ⟨_, rfl, h⟩
      · wp_walk using wpAny_loadPart' hl, wpAny_pyIter_tuple hL
        exact ⟨_, rfl, h⟩
    · wp_walk using wpAny_loadPart' hl, wpAny_pyIter_tuple hL
      exact ⟨_, rfl, h⟩
section
variable {prog : Program} {w : World} {A : Around} {E : Value → Shared → Prop} {s : Shared}
theorem call_enumerate_tup {l : Addr} {items : Array Value} {Q : Value → Shared → Prop} (hL : s.heap.IsTuple l items)
    (h : ∀ h', IsEnum h' (s.heap.objs.size + 1) s.heap.objs.size 0 .none → h'.IsTupleIter s.heap.objs.size l 0 → h'.objs.size = s.heap.objs.size + 2 →
      (∀ b o, s.heap.get? b = some o → h'.get? b = some o) → Q (.ref (s.heap.objs.size + 1)) { s with heap := h' }) :
    wpAny (model prog w) A (call (.type "enumerate") [.ref l]) Q E s := by
  obtain ⟨⟨c, dct, dt, sl⟩, hl, hc, n, hd⟩ := hL
  replace hc : c = .type "tuple" := hc
  replace hd : dt = .seq items n := hd
  subst hc hd
  refine callType_new F.called_enumerate (by decide) (F.typeCall_enumerate_1 _) (F.newCall_enumerate_1 _) (fun obj => F.args_object_init_2 obj _) F.entry_enumerate_new
    (meets_enumerate_newT l items n dct sl) ⟨hl, ?_⟩
  have hz : (s.heap.push { cls := .type "tuple_iterator", data := .fields #[.ref l, .int 0 0] }).objs.size = s.heap.objs.size + 1 := Heap.size_push ..
  show _ ∧ _
  rw [hz]
  have he : IsEnum ((s.heap.push { cls := .type "tuple_iterator", data := .fields #[.ref l, .int 0 0] }).push
      { cls := .type "enumerate", data := .fields #[.none, .bool false, .ref s.heap.objs.size, rawInt 0, .none, .none] }) (s.heap.objs.size + 1) s.heap.objs.size 0 .none := by
    have := Heap.get?_push_size (s.heap.push { cls := .type "tuple_iterator", data := .fields #[.ref l, .int 0 0] })
      (o := { cls := .type "enumerate", data := .fields #[.none, .bool false, .ref s.heap.objs.size, rawInt 0, .none, .none] }) rfl
    rw [hz] at this; exact this
  refine ⟨⟨_, he, rfl⟩, h _ he ⟨_, Heap.get?_push_of_some _ (Heap.get?_push_size _ rfl), rfl, rfl⟩ (by rw [Heap.size_push, hz]) fun b o x => Heap.get?_push_of_some _ (Heap.get?_push_of_some _ x)⟩
end
/-- the tuple at a as it stands at each turn, each item in a new pair -/
def ItT (K : PySem.W.Frag) (a : Addr) : It :=
  ⟨fun i H => ∃ (xs : List V) (x : V), SqT K H a xs ∧ xs[i]? = some x, fun i H v H' => ∃ T x, v = .ref T ∧ H T = none ∧ H' = upd H T (.tup [.int (i : Nat), x]) ∧ ∀ xs, SqT K H a xs → xs[i]? = some x, fun i H => ∃ xs : List V, SqT K H a xs ∧ xs.length ≤ i⟩
theorem turn_enumT {P : Program} {w : World} {K : PySem.W.Frag} {elts : List Expr} {kk : Nat} {tpos : Pos} (a e it : Addr) :
    Turn P w K (.Tuple elts kk tpos) (ItT K a) [e, it] e (fun i h => (∃ old, IsEnum h e it ((i : Nat) : Int) old) ∧ h.IsTupleIter it a i ∧ e ≠ it) where
  mem := by simp
  obj := fun i h st b hb => by
    obtain ⟨⟨old, he⟩, ⟨o, ho, hc, hd⟩, _⟩ := st
    have e' : b = e ∨ b = it := by simpa using hb
    rcases e' with z | z
    · rw [z]; exact ⟨_, he, fun v q => nomatch q⟩
    · rw [z]; exact ⟨o, ho, fun v q => by rw [hd] at q; cases q⟩
  keep := fun i h h' st k => let ⟨⟨old, he⟩, hi, hne⟩ := st; ⟨⟨old, k e (by simp) _ he⟩, tupIter_at hi fun o q => k it (by simp) o q, hne⟩
  item := by
    intro X hP hw hK hc i pins s σ H E I hf st hg
    subst hP hw hK
    obtain ⟨⟨old, he⟩, hit, hne⟩ := st
    obtain ⟨xs, x, hq, hx⟩ := hg
    obtain ⟨its, rv, p, hz⟩ := I.tuple hq
    obtain ⟨u, hu, ru⟩ := rv.get hx
    have hel : e < s.heap.objs.size := Heap.lt_size he
    have hil : it < s.heap.objs.size := by obtain ⟨_, q, _⟩ := hit; exact Heap.lt_size q
    have nta : a ≠ it := fun z => by
      obtain ⟨o1, q1, c1, _⟩ := hit
      obtain ⟨o2, q2, c2, _⟩ := p
      rw [z, q1] at q2
      cases q2
      rw [c1] at c2
      exact absurd c2 (by decide)
    have nea : e ∉ [it, a] := fun z => by
      have z' : e = it ∨ e = a := by simpa using z
      rcases z' with z' | z'
      · exact hne z'
      · obtain ⟨o2, q2, c2, _⟩ := p
        rw [← z', he] at q2
        cases q2
        have c3 : Value.type "enumerate" = Value.type "tuple" := c2
        exact absurd c3 (by decide)
    have hlen : i < its.toArray.size := by
      have z := (List.getElem?_eq_some_iff.mp hu).1
      simpa using z
    refine wpAny_pyNext_enum_itemD (draws_tup (A := X.A.in1) (I.ok.hd hc) it a nta its.toArray) he ⟨hit, p⟩ hlen hne nea fun x' h' tk px ho hst hT hsz hk => ?_
    have ex : x' = u := by
      have px : its.toArray[i]? = some x' := px
      rw [show its.toArray[i]? = some u by simpa using hu] at px
      exact (Option.some.inj px).symm
    subst ex
    refine ⟨_, rfl, wpAny_letOwnedTupleGo_enum (s := { s with heap := h', toks := tk + 1 }) ho fun h'' he' sb => ?_⟩
    have hT2 : h''.get? s.heap.objs.size = some { cls := .type "tuple", data := .seq #[.int i tk, x'] } := (sb.2 _ (Nat.ne_of_gt hel)).trans hT
    have new : ObjOk X.prog X.w (upd H s.heap.objs.size (.tup [.int (i : Nat), x])) h'' s.heap.objs.size (.tup [.int (i : Nat), x]) :=
      ⟨by show 2 ≤ sizeLine; decide, [.int i tk, x'], .cons ⟨_, rfl⟩ (.cons ru .nil), ⟨_, hT2, rfl, _, rfl⟩⟩
    have I1 : Inv X pins σ (upd H s.heap.objs.size (.tup [.int (i : Nat), x])) { s with heap := h'', toks := tk + 1 } :=
      I.turnedNew (ch := [e, it]) (fun b ob hb q => (sb.2 b (fun z => hb (by simp [z]))).trans (hk b ob (fun z => hb (by simp [z])) (fun z => hb (by simp [z])) q)) hf (Nat.le_refl _) new
    refine ⟨.ref s.heap.objs.size, _, I1, rfl, ⟨_, x, rfl, I.hok.fresh (Nat.le_refl _), rfl, fun ys hy => by rw [I.tuple_inj hy hq]; exact hx⟩, ⟨⟨x', ?_⟩, tupIter_at hst.1 fun o q => (sb.2 it (Ne.symm hne)).trans q, hne⟩, fun b hb => ?_⟩
    · have e1 : ((i + 1 : Nat) : Int) = (i : Int) + 1 := by omega
      rw [e1]; exact he'
    · have hb' : b < s.heap.objs.size := by
        have e' : b = e ∨ b = it := by simpa using hb
        rcases e' with z | z
        · rw [z]; exact hel
        · rw [z]; exact hil
      rw [upd_ne (Nat.ne_of_lt hb')]
      exact (hf b hb).1
  done := by
    intro X hP hw hK hc i pins s σ H E I hf st hg
    subst hP hw hK
    obtain ⟨⟨old, he⟩, hit, hne⟩ := st
    obtain ⟨xs, hq, hx⟩ := hg
    obtain ⟨its, rv, p, hz⟩ := I.tuple hq
    obtain ⟨f0, f1, f2, f3, f4, f5⟩ := hf it (by simp)
    have hl := rv.length
    have nta : a ≠ it := fun z => by
      obtain ⟨o1, q1, c1, _⟩ := hit
      obtain ⟨o2, q2, c2, _⟩ := p
      rw [z, q1] at q2
      cases q2
      rw [c1] at c2
      exact absurd c2 (by decide)
    have fin : ∀ {Q : Option Value → Shared → Prop}, (∀ h', Heap.ExtBut it s.heap h' → Q none { s with heap := h' }) → wpAny (model X.prog X.w) X.A (pyNext (.ref e)) Q E s := fun {Q} hQ => by
      have hT : s.TypeIs (.ref e) "enumerate" := ⟨_, he, rfl⟩
      unfold pyNext
      refine wpAny_bind (wpAny_attempt (wpAny_callSpecial?_slot (name := Str.ofString "__next__") hT F.slot_enumerate_next
        (wpAny_call_entry F.slot_enumerate_next hT F.entry_enumerate_next ?_ (F.args_enumerate_next_1 _))))
      show wpAny _ _ (field (.ref e) 2 >>= _) _ _ _
      refine wpAny_bind (wpAny_field he rfl (x := .ref it) rfl ?_)
      refine wpAny_bind (nextOf_tup_end (I.ok.hd hc) hit p (by simp; omega) fun h' x he' hx' => ?_)
      obtain ⟨o, ho, hc⟩ := hx'
      refine wpAny_bind (wpAny_isInstance (T := "StopIteration") (b := true) ⟨o, ho, hc⟩ isSubtype_stop ?_)
      exact wpAny_pure (hQ _ he')
    exact fin fun h' eb => ⟨rfl, I.turned (t' := s.toks) (fun b o hb q => eb b o hb q) f0 f1 f3 f4 f5⟩
  self := fun A i s Q E st h => let ⟨⟨_, he⟩, _⟩ := st; wpAny_pyIter_enum he h
def iEnum2 (K : PySem.W.Frag) (ta : TA) : TI := fun σ H R => ta σ H fun vs H1 => (∃ a xs, vs = [.ref a] ∧ SqL K H1 a xs ∧ R (Ite K a) H1) ∨ (∃ a xs, vs = [.ref a] ∧ SqT K H1 a xs ∧ R (ItT K a) H1)
theorem pi_enum2 {X : Cx} {e : Expr} {ta : TA} {p pos tpos : Pos} {elts : List Expr} {kk : Nat} (hg : Gl X "enumerate") (hm : X.mg "enumerate" = none) (ha : PA X [e] ta) (hs : starEach [e] X.env = [(false, eval e X.env)] := by rfl) :
    PI X (.Tuple elts kk tpos) (.Call (.Name "enumerate" p) [e] [] pos) (iEnum2 X.K ta) := by
  refine ⟨fun pins s σ H R I h => ?_⟩
  refine Call_ (ld_blt I hg hm boot_enumerate (PyProof.Rows.callWith_type1 (thn (ha.run pos pins s σ H _ I h) fun us s1 ⟨vs, H1, I1, r1, q1⟩ => ?_) hs rfl))
  have fpOk : ∀ {h' : Heap}, ∀ b ∈ [s1.heap.objs.size + 1, s1.heap.objs.size], s1.heap.objs.size ≤ b := fun {h'} b hb => by
    have e' : b = s1.heap.objs.size + 1 ∨ b = s1.heap.objs.size := by simpa using hb
    rcases e' with z | z
    · rw [z]; exact Nat.le_add_right _ _
    · rw [z]; exact Nat.le_refl _
  rcases q1 with ⟨a, xs, ex, hq, q⟩ | ⟨a, xs, ex, hq, q⟩
  · subst ex
    cases r1 with
    | cons r rr =>
      cases rr
      cases r
      obtain ⟨its, rv, p', hz⟩ := I1.list hq
      refine call_enumerate_list p'.isList fun h' he hit hsz hk => wpAny_pyIter_enum he ?_
      have I2 : Inv X pins σ H1 { s1 with heap := h' } := I1.kept (t' := s1.toks) hk
      refine ⟨s1.heap.objs.size + 1, [s1.heap.objs.size + 1, s1.heap.objs.size], _, _, H1, rfl, I2, turn_enum a (s1.heap.objs.size + 1) s1.heap.objs.size, ⟨⟨.none, he⟩, hit, Nat.succ_ne_self _⟩, fun b hb => ?_, q⟩
      have hle := fpOk (h' := h') b hb
      exact I1.fpOk hle (I1.hok.fresh hle)
  · subst ex
    cases r1 with
    | cons r rr =>
      cases rr
      cases r
      obtain ⟨its, rv, p', hz⟩ := I1.tuple hq
      refine call_enumerate_tup p' fun h' he hit hsz hk => wpAny_pyIter_enum he ?_
      have I2 : Inv X pins σ H1 { s1 with heap := h' } := I1.kept (t' := s1.toks) hk
      refine ⟨s1.heap.objs.size + 1, [s1.heap.objs.size + 1, s1.heap.objs.size], _, _, H1, rfl, I2, turn_enumT a (s1.heap.objs.size + 1) s1.heap.objs.size, ⟨⟨.none, he⟩, hit, Nat.succ_ne_self _⟩, fun b hb => ?_, q⟩
      have hle := fpOk (h' := h') b hb
      exact I1.fpOk hle (I1.hok.fresh hle)
theorem walk_enumT {K : PySem.W.Frag} {a : Addr} {xs : List V} : Walk (ItT K a) xs.length (fun H => SqT K H a xs) (YPair (fun i => some (.int (i : Nat))) (fun i => xs[i]?)) := by
  refine ⟨fun i _ hi q => ⟨xs, xs[i], q, by simp [hi]⟩, fun _ q => ⟨xs, q, Nat.le_refl _⟩, fun i H v H' _ q y => ?_⟩
  obtain ⟨T, x, h1, h2, h3, h4⟩ := y
  exact ⟨T, .int (i : Nat), x, h1, h2, h3, rfl, h4 xs q⟩
end K01
/-! ## MX -/
set_option Elab.async false
set_option linter.all false
set_option maxRecDepth 100000
set_option maxHeartbeats 4000000
/-! Dicts with keys of several kinds: None, ints, texts, tuples of such. -/
namespace PySem
open Sem (wp)
/-- an entry: the key, as it stands there, and its value -/
abbrev MEnt := NestedKey × Value × Value
def entM (w : World) (x : MEnt) : DictEntry := ⟨x.1.hash w, x.2.1, x.2.2⟩
def KeyM (h : Heap) (k : NestedKey) (v : Value) : Prop := NestedIs h k v ∧ k.depth ≤ 8
theorem KeyM.inj {h : Heap} {x y : NestedKey} {v : Value} (a : KeyM h x v) (b : KeyM h y v) : x = y := NestedIs.inj _ _ _ a.1 b.1
section
variable {prog : Program} {w : World} {A : Around} {E : Value → Shared → Prop} {s : Shared}
theorem entM_at {es : Array DictEntry} {xs : List MEnt} (he : es.toList = xs.map (entM w)) (j : Nat) : es[j]? = (xs[j]?).map (entM w) := by
  rw [← Array.getElem?_toList, he, List.getElem?_map]
theorem entM_size {es : Array DictEntry} {xs : List MEnt} (he : es.toList = xs.map (entM w)) : es.size = xs.length := by
  rw [← Array.length_toList, he, List.length_map]
theorem tellM {k : NestedKey} {v : Value} {stored : List Value} {Q : Bool → Shared → Prop} (hkey : KeyM s.heap k v)
    (hst : ∀ u ∈ stored, ∃ k', KeyM s.heap k' u) (h : Q false s) : wpAny (model prog w) A (tableMayTell v stored) Q E s := by
  unfold tableMayTell
  split
  · exact wpAny_pure h
  · refine wpAny_bind (quiet_key k _ 8 s hkey.1 hkey.2 _ _ _ ?_)
    simp only [Bool.not_true, Bool.false_eq_true, if_false]
    refine wpAny_bind ?_
    refine wpAny_forIn_list _ (fun rest r s' => s' = s ∧ r = (none, ()) ∧ ∀ u ∈ rest, ∃ k', KeyM s.heap k' u) _ ?_ ?_ _ _ ⟨rfl, rfl, hst⟩
    · rintro x rest r s' ⟨rfl, rfl, hr⟩
      obtain ⟨k', hb⟩ := hr x List.mem_cons_self
      refine wpAny_bind (quiet_key k' _ 8 s' hb.1 hb.2 _ _ _ ?_)
      simp only [Bool.not_true, Bool.false_eq_true, if_false]
      exact wpAny_pure ⟨rfl, rfl, fun v hv => hr v (List.mem_cons_of_mem _ hv)⟩
    · rintro r s' ⟨rfl, rfl, _⟩
      exact wpAny_pure h
theorem idxM {xs : List MEnt} (hn : (xs.map (·.1)).Nodup) {i j : Nat} {k : NestedKey} {p q : Value × Value} (hi : xs[i]? = some (k, p)) (hj : xs[j]? = some (k, q)) : i = j := by
  have hi' : (xs.map (·.1))[i]? = some k := by rw [List.getElem?_map, hi]; rfl
  have hj' : (xs.map (·.1))[j]? = some k := by rw [List.getElem?_map, hj]; rfl
  exact (List.getElem?_inj (List.getElem?_eq_some_iff.mp hi').1 hn).mp (hi'.trans hj'.symm)
theorem eqM {x y : NestedKey} {u v : Value} {Q : Bool → Shared → Prop} (hu : A.units + 8 < cLine) (hx : KeyM s.heap x u) (hy : KeyM s.heap y v) (h : Q (decide (x = y)) s) : wpAny (model prog w) A (eqBool u v) Q E s :=
  eqAt_key x y A s _ _ hx.1 hy.1 (by have := hx.2; omega) _ _ _ _ (by rw [← NestedKey.decide_eq]; exact h)
theorem findM {d : Addr} {o : Obj} {es ep} {xs : List MEnt} {k : NestedKey} {v : Value} {Q : Option Nat → Shared → Prop} (hu : A.units + 8 < cLine) (hkey : KeyM s.heap k v)
    (ho : s.heap.get? d = some o) (hd : o.data = .dict es ep) (he : es.toList = xs.map (entM w)) (his : ∀ x ∈ xs, KeyM s.heap x.1 x.2.1) (hn : (xs.map (·.1)).Nodup)
    (hnone : (∀ (j : Nat) (p : Value × Value), xs[j]? ≠ some (k, p)) → Q none s) (hsome : ∀ (j : Nat) (p : Value × Value), xs[j]? = some (k, p) → Q (some j) s) :
    wpAny (model prog w) A (dictFind d v (k.hash w)) Q E s := by
  have hsz : es.size = xs.length := entM_size he
  have haskey : ∀ (j : Nat) (p : Value × Value), xs[j]? = some (k, p) → ((es[j]?.map (·.hash)) == some (k.hash w)) = true := by
    intro j p hj
    rw [entM_at he j, hj]
    simp [entM]
  have hmem : ∀ e ∈ es, ∃ x ∈ xs, e = entM w x := by
    intro e hin
    have : e ∈ xs.map (entM w) := he ▸ Array.mem_toList_iff.mpr hin
    obtain ⟨x, hx, rfl⟩ := List.mem_map.mp this
    exact ⟨x, hx, rfl⟩
  have hany : ∀ a, v = .ref a → ¬ (es.any fun e => e.key == Value.ref a && e.hash != k.hash w) = true := by
    intro a ea
    subst ea
    rw [← Array.any_toList, List.any_eq_true]
    rintro ⟨e, hin, hc⟩
    obtain ⟨x, hx, rfl⟩ := hmem e (Array.mem_toList_iff.mp hin)
    simp only [entM, Bool.and_eq_true, beq_iff_eq, bne_iff_ne, ne_eq] at hc
    obtain ⟨hxa, hne⟩ := hc
    have := his x hx
    rw [hxa] at this
    exact hne (by rw [KeyM.inj this hkey])
  have hst : ∀ u ∈ (placesWithHash es.size (fun i => es[i]?.map (·.hash)) (k.hash w)).filterMap (fun i => es[i]?.map (·.key)), ∃ k', KeyM s.heap k' u := by
    intro v hv
    obtain ⟨i, _, hi⟩ := List.mem_filterMap.mp hv
    cases hei : es[i]? with
    | none => rw [hei] at hi; cases hi
    | some e =>
      rw [hei] at hi
      obtain rfl : e.key = v := by simpa using hi
      obtain ⟨x, hx, rfl⟩ := hmem e (Array.mem_of_getElem? hei)
      exact ⟨x.1, his x hx⟩
  -- the entry at x
  have entry : ∀ {x : Nat}, x < es.size → ∃ k' u y, xs[x]? = some (k', u, y) ∧ KeyM s.heap k' u ∧ es[x]? = some ⟨k'.hash w, u, y⟩ := by
    intro x hlt
    obtain ⟨⟨k', b, v'⟩, hkv⟩ : ∃ y, xs[x]? = some y := ⟨xs[x]'(by rw [← hsz]; exact hlt), List.getElem?_eq_getElem _⟩
    exact ⟨k', b, v', hkv, his _ (List.mem_of_getElem? hkv), by rw [entM_at he x, hkv]; rfl⟩
  have old : wpAny (model prog w) A (dictWalkPlain d v (k.hash w) es (placesWithHash es.size (fun i => es[i]?.map (·.hash)) (k.hash w))) Q E s := by
    refine wpAny_bind ?_
    refine wpAny_forIn_list _
      (fun rest b s' => s' = s ∧ b = (none, ()) ∧ ∃ i, rest = (List.range' i (es.size - i)).filter (fun i => (es[i]?.map (·.hash)) == some (k.hash w)) ∧ i ≤ es.size ∧
        ∀ j p, j < i → xs[j]? ≠ some (k, p)) _ ?_ ?_ _ _
      ⟨rfl, rfl, 0, by rw [placesWithHash, List.range_eq_range', Nat.sub_zero], Nat.zero_le _, fun _ _ h => absurd h (Nat.not_lt_zero _)⟩
    · rintro x rest b s' ⟨rfl, rfl, i, hr, hi, hno⟩
      obtain ⟨hix, hxn, hpx, hskip, hrest⟩ := filter_range'_cons _ _ _ _ _ hr.symm
      have hlt : x < es.size := by omega
      have hrest' : rest = (List.range' (x + 1) (es.size - (x + 1))).filter (fun i => (es[i]?.map (·.hash)) == some (k.hash w)) := by rw [hrest]; congr 2; omega
      obtain ⟨k', u, y, hkv, hib, hex⟩ := entry hlt
      have hnx : ∀ j p, j < x → xs[j]? ≠ some (k, p) := fun j p hjx hj => by
        rcases Nat.lt_or_ge j i with h | h
        · exact hno j p h hj
        · have := hskip j h hjx
          rw [haskey j p hj] at this
          exact absurd this (by decide)
      have hstay : ¬ k' = k → ∀ j p, j < x + 1 → xs[j]? ≠ some (k, p) := fun hne j p hjx hj => by
        rcases Nat.lt_or_ge j x with h | h
        · exact hnx j p h hj
        · have hjx' : j = x := by omega
          subst hjx'
          rw [hkv] at hj
          injection hj with hj
          injection hj with hj
          exact hne hj
      rw [hex]
      dsimp only
      by_cases hh : (k'.hash w == k.hash w) = true
      · rw [if_pos hh]
        refine wpAny_bind (wpAny_dictEpoch ho hd (wpAny_bind (eqM hu hib hkey (wpAny_bind (wpAny_dictEpoch ho hd ?_)))))
        show wpAny _ _ (if (ep != ep) = true then _ else _) _ E _
        rw [if_neg (by simp)]
        by_cases hkk : k' = k
        · rw [decide_eq_true hkk]
          subst hkk
          exact wpAny_bind (wpAny_rule (wpAny_pure (wpAny_pure (hsome x _ hkv))))
        · rw [decide_eq_false hkk]
          exact wpAny_bind (wpAny_rule (wpAny_pure ⟨rfl, rfl, x + 1, hrest', hlt, hstay hkk⟩))
      · rw [if_neg hh]
        refine wpAny_pure ⟨rfl, rfl, x + 1, hrest', hlt, hstay ?_⟩
        intro hkk
        rw [hkk] at hh; simp at hh
    · rintro b s' ⟨rfl, rfl, i, hr, hi, hno⟩
      have hall : ∀ j, i ≤ j → j < es.size → ((es[j]?.map (·.hash)) == some (k.hash w)) = false := by
        intro j h1 h2
        have := List.filter_eq_nil_iff.mp hr.symm j (List.mem_range'_1.mpr ⟨h1, by omega⟩)
        simpa using this
      refine wpAny_pure (hnone fun j p hj => ?_)
      rcases Nat.lt_or_ge j i with h | h
      · exact hno j p h hj
      · have hjl : j < es.size := by
          rw [hsz]
          rcases Nat.lt_or_ge j xs.length with h' | h'
          · exact h'
          · rw [List.getElem?_eq_none h'] at hj; exact nomatch hj
        have := hall j h hjl
        rw [haskey j p hj] at this
        exact absurd this (by decide)
  have rest3 : wpAny (model prog w) A (do
      let stored := (placesWithHash es.size (fun i => es[i]?.map (·.hash)) (k.hash w)).filterMap fun i => es[i]?.map (·.key)
      let tells ← if stored == [v] then pure false else tableMayTell v stored
      if tells && stored.length ≥ 2 then unsupported "dict.find:order-among-keys-of-one-hash"
      let mut hit : Option Nat := none
      for i in placesWithHash es.size (fun i => es[i]?.map (·.hash)) (k.hash w) do
        if let some e := es[i]? then
          if e.hash == k.hash w then
            let before ← dictEpoch d (keyPart v)
            let same ← eqBool e.key v
            if (← dictEpoch d (keyPart v)) != before then unsupported "dict.changed-during-lookup"
            if same then
              if hit.isSome then unsupported "dict.find:order-among-keys-of-one-hash"
              rule "dict.find.hit"
              if stored.length < 2 then return some i
              hit := some i
            else
              rule "dict.find.same-hash-other-key"
              if tells && !(0 ≤ k.hash w && k.hash w < 32) then unsupported "dict.find:asked-again-or-not-hangs-on-the-table"
      return hit) Q E s := by
    by_cases hone : (((placesWithHash es.size (fun i => es[i]?.map (·.hash)) (k.hash w)).filterMap (fun i => es[i]?.map (·.key))) == [v]) = true <;>
    (dsimp only) <;> (first | rw [if_pos hone] | rw [if_neg hone]) <;> (first | refine wpAny_bind (wpAny_pure ?_) | refine wpAny_bind (tellM hkey hst ?_)) <;> (
      rw [if_neg (by simp)]
      refine wpAny_bind ?_
      refine wpAny_forIn_list _
        (fun rest b s' => s' = s ∧ ∃ i hit, b = (none, hit) ∧ rest = (List.range' i (es.size - i)).filter (fun i => (es[i]?.map (·.hash)) == some (k.hash w)) ∧ i ≤ es.size ∧
          ((hit = none ∧ ∀ j p, j < i → xs[j]? ≠ some (k, p)) ∨ ∃ j p, hit = some j ∧ j < i ∧ xs[j]? = some (k, p))) _ ?_ ?_ _ _
        ⟨rfl, 0, none, rfl, by rw [placesWithHash, List.range_eq_range', Nat.sub_zero], Nat.zero_le _, .inl ⟨rfl, fun _ _ h => absurd h (Nat.not_lt_zero _)⟩⟩
      · rintro x rest b s' ⟨rfl, i, hit, rfl, hr, hi, hH⟩
        obtain ⟨hix, hxn, hpx, hskip, hrest⟩ := filter_range'_cons _ _ _ _ _ hr.symm
        have hlt : x < es.size := by omega
        have hrest' : rest = (List.range' (x + 1) (es.size - (x + 1))).filter (fun i => (es[i]?.map (·.hash)) == some (k.hash w)) := by rw [hrest]; congr 2; omega
        obtain ⟨k', u, y, hkv, hib, hex⟩ := entry hlt
        have hHx : (hit = none ∧ ∀ j p, j < x → xs[j]? ≠ some (k, p)) ∨ ∃ j p, hit = some j ∧ j < x ∧ xs[j]? = some (k, p) := by
          rcases hH with ⟨h0, hno⟩ | ⟨j, p, h1, hji, hj⟩
          · refine .inl ⟨h0, fun j p hjx hj => ?_⟩
            rcases Nat.lt_or_ge j i with h | h
            · exact hno j p h hj
            · have := hskip j h hjx
              rw [haskey j p hj] at this
              exact absurd this (by decide)
          · exact .inr ⟨j, p, h1, by omega, hj⟩
        have hstay : ¬ k' = k → ((hit = none ∧ ∀ j p, j < x + 1 → xs[j]? ≠ some (k, p)) ∨ ∃ j p, hit = some j ∧ j < x + 1 ∧ xs[j]? = some (k, p)) := by
          intro hne
          rcases hHx with ⟨h0, hno⟩ | ⟨j, p, h1, hjx, hj⟩
          · refine .inl ⟨h0, fun j p hjx hj => ?_⟩
            rcases Nat.lt_or_ge j x with h | h
            · exact hno j p h hj
            · have hjx' : j = x := by omega
              subst hjx'
              rw [hkv] at hj
              injection hj with hj
              injection hj with hj
              exact hne hj
          · exact .inr ⟨j, p, h1, by omega, hj⟩
        rw [hex]
        dsimp only
        by_cases hh : (k'.hash w == k.hash w) = true
        · rw [if_pos hh]
          refine wpAny_bind (wpAny_dictEpoch ho hd (wpAny_bind (eqM hu hib hkey (wpAny_bind (wpAny_dictEpoch ho hd ?_)))))
          show wpAny _ _ (if (ep != ep) = true then _ else _) _ E _
          rw [if_neg (by simp)]
          by_cases hkk : k' = k
          · rw [decide_eq_true hkk]
            subst hkk
            rcases hHx with ⟨rfl, _⟩ | ⟨j, p, _, hjx, hj⟩
            · first | rw [if_pos rfl] | skip
              simp only [Option.isSome_none, Bool.false_eq_true, if_false]
              first | refine wpAny_bind (wpAny_pure ?_) | skip
              refine wpAny_bind (wpAny_rule ?_)
              split
              · exact wpAny_pure (wpAny_pure (hsome x _ hkv))
              · exact wpAny_pure ⟨rfl, x + 1, some x, rfl, hrest', hlt, .inr ⟨x, _, rfl, Nat.lt_succ_self x, hkv⟩⟩
            · exact absurd (idxM hn hj hkv) (by omega)
          · rw [decide_eq_false hkk]
            simp only [Bool.false_eq_true, if_false]
            refine wpAny_bind (wpAny_rule ?_)
            first | rw [if_neg (by simp)] | skip
            first
              | exact wpAny_pure ⟨rfl, x + 1, hit, rfl, hrest', hlt, hstay hkk⟩
              | exact wpAny_bind (wpAny_pure (wpAny_pure ⟨rfl, x + 1, hit, rfl, hrest', hlt, hstay hkk⟩))
        · rw [if_neg hh]
          refine wpAny_pure ⟨rfl, x + 1, hit, rfl, hrest', hlt, hstay ?_⟩
          intro hkk
          rw [hkk] at hh; simp at hh
      · rintro b s' ⟨rfl, i, hit, rfl, hr, hi, hH⟩
        have hall : ∀ j, i ≤ j → j < es.size → ((es[j]?.map (·.hash)) == some (k.hash w)) = false := by
          intro j h1 h2
          have := List.filter_eq_nil_iff.mp hr.symm j (List.mem_range'_1.mpr ⟨h1, by omega⟩)
          simpa using this
        rcases hH with ⟨rfl, hno⟩ | ⟨j, p, rfl, _, hj⟩
        · refine wpAny_pure (hnone fun j p hj => ?_)
          rcases Nat.lt_or_ge j i with h | h
          · exact hno j p h hj
          · have hjl : j < es.size := by
              rw [hsz]
              rcases Nat.lt_or_ge j xs.length with h' | h'
              · exact h'
              · rw [List.getElem?_eq_none h'] at hj; exact nomatch hj
            have := hall j h hjl
            rw [haskey j p hj] at this
            exact absurd this (by decide)
        · exact wpAny_pure (hsome j p hj))
  unfold dictFind
  try with_reducible refine wpAny_holding ?_
  refine wpAny_bind (wpAny_dictEntries ho hd ?_)
  cases v with
  | str x t =>
    have ek : k = .text x := by
      cases hkey.1
      rfl
    subst ek
    dsimp only
    by_cases hs : (es.all fun e => isExactStrKey e.key) = true
    · rw [if_pos hs]
      unfold foundByValue
      cases hf : es.findIdx? (fun e => e.key.isStr x) with
      | none =>
        refine wpAny_pure (hnone fun j p hj => ?_)
        have hjl : j < es.size := by
          rw [hsz]
          exact (List.getElem?_eq_some_iff.mp hj).1
        obtain ⟨k', u, y, hkv, hib, hex⟩ := entry hjl
        rw [hj] at hkv
        obtain ⟨rfl, rfl⟩ : NestedKey.text x = k' ∧ p = (u, y) := by
          injection hkv with hkv
          injection hkv with h1 h2
          exact ⟨h1, h2⟩
        have q := Array.findIdx?_eq_none_iff.mp hf _ (Array.mem_of_getElem? hex)
        have hu2 : ∃ t', u = Value.str x t' := by
          have := hib.1
          cases this
          exact ⟨_, rfl⟩
        obtain ⟨t', rfl⟩ := hu2
        simp [Value.isStr] at q
      | some i =>
        obtain ⟨hlt, hi, _⟩ := Array.findIdx?_eq_some_iff_getElem.mp hf
        obtain ⟨k', u, y, hkv, hib, hex⟩ := entry hlt
        have e0 : es[i] = ⟨k'.hash w, u, y⟩ := by
          rw [Array.getElem?_eq_getElem hlt] at hex
          exact Option.some.inj hex
        rw [e0] at hi
        have hk2 : k' = .text x := by
          cases u with
          | str x2 t2 =>
            have h2 := hib.1
            have hx2 : x2 = x := by simpa [Value.isStr] using hi
            subst hx2
            cases h2
            rfl
          | _ => simp [Value.isStr] at hi
        subst hk2
        dsimp only
        rw [hex]
        dsimp only
        refine wpAny_bind (wpAny_dictEpoch ho hd (wpAny_bind (eqM hu hib hkey (wpAny_bind (wpAny_dictEpoch ho hd ?_)))))
        show wpAny _ _ (if (ep != ep) = true then _ else _) _ E _
        rw [if_neg (by simp), decide_eq_true rfl]
        exact wpAny_bind (wpAny_rule (wpAny_pure (hsome i _ hkv)))
    · rw [if_neg hs]
      by_cases hc : ((Value.str x t :: (placesWithHash es.size (fun i => es[i]?.map (·.hash)) (NestedKey.hash w (.text x))).filterMap fun i => es[i]?.map (·.key)).all carriedByValue) = true
      · rw [if_pos hc]; exact old
      · rw [if_neg hc]; exact rest3
  | ref a =>
    dsimp only
    rw [if_neg (show ¬ ((Value.ref a :: (placesWithHash es.size (fun i => es[i]?.map (·.hash)) (k.hash w)).filterMap (fun i => es[i]?.map (·.key))).all carriedByValue) = true by simp [carriedByValue])]
    rw [if_neg (hany a rfl)]
    exact rest3
  | none =>
    dsimp only
    by_cases hc : ((Value.none :: (placesWithHash es.size (fun i => es[i]?.map (·.hash)) (k.hash w)).filterMap fun i => es[i]?.map (·.key)).all carriedByValue) = true
    · rw [if_pos hc]; exact old
    · rw [if_neg hc]; exact rest3
  | bool b =>
    dsimp only
    by_cases hc : ((Value.bool b :: (placesWithHash es.size (fun i => es[i]?.map (·.hash)) (k.hash w)).filterMap fun i => es[i]?.map (·.key)).all carriedByValue) = true
    · rw [if_pos hc]; exact old
    · rw [if_neg hc]; exact rest3
  | int i t =>
    dsimp only
    by_cases hc : ((Value.int i t :: (placesWithHash es.size (fun i => es[i]?.map (·.hash)) (k.hash w)).filterMap fun i => es[i]?.map (·.key)).all carriedByValue) = true
    · rw [if_pos hc]; exact old
    · rw [if_neg hc]; exact rest3
  | _ => exact absurd hkey.1 (by intro z; cases z)
end
end PySem
/-! ## MX2 -/
set_option Elab.async false
set_option linter.all false
set_option maxRecDepth 100000
set_option maxHeartbeats 4000000
namespace PySem
open Sem (wp)
open PySem.Spec PyProof.Rows L2
def DictM (w : World) (h : Heap) (d : Addr) (xs : List MEnt) : Prop := ∃ o es ep, h.get? d = some o ∧ o.ExactDict ∧ o.data = .dict es ep ∧ es.toList = xs.map (entM w) ∧ (xs.map (·.1)).Nodup
theorem KeyM.ext {h h' : Heap} {k : NestedKey} {v : Value} (x : KeyM h k v) (e : ∀ b o, h.get? b = some o → h'.get? b = some o) : KeyM h' k v := ⟨NestedIs.at (fun a o vs n ho _ => e a o ho) k v x.1, x.2⟩
theorem DictM.typeIs {w : World} {s : Shared} {d : Addr} {xs : List MEnt} (x : DictM w s.heap d xs) : s.TypeIs (.ref d) "dict" := let ⟨o, _, _, ho, hc, _⟩ := x; ⟨o, ho, hc.1⟩
theorem DictM.at {w : World} {h h' : Heap} {d : Addr} {xs : List MEnt} (x : DictM w h d xs) (e : ∀ o, h.get? d = some o → h'.get? d = some o) : DictM w h' d xs := let ⟨o, es, ep, ho, r⟩ := x; ⟨o, es, ep, e _ ho, r⟩
theorem DictM.new {w : World} {h : Heap} : DictM w (h.push { cls := .type "dict", data := .dict #[] }) h.objs.size [] := ⟨_, #[], 0, Heap.get?_push_size _ rfl, ⟨rfl, rfl, rfl⟩, rfl, rfl, List.nodup_nil⟩
section
variable {prog : Program} {w : World} {A : Around} {E : Value → Shared → Prop} {s : Shared}
theorem hashM {k : NestedKey} {v : Value} {Q : Int → Shared → Prop} (hu : A.units + 8 < cLine) (hkey : KeyM s.heap k v) (h : ∀ t, Q (k.hash w) { s with toks := t }) : wpAny (model prog w) A (pyHash v) Q E s :=
  pyHash_key k v A s Q hkey.1 (by have := hkey.2; omega) (h _)
theorem getM {d : Addr} {xs : List MEnt} {k : NestedKey} {v : Value} {j : Nat} {p : Value × Value} {Q : Value → Shared → Prop} (hu : A.units + 10 < cLine) (hkey : KeyM s.heap k v) (hm : DictM w s.heap d xs) (hk : ∀ x ∈ xs, KeyM s.heap x.1 x.2.1) (hp : xs[j]? = some (k, p))
    (h : ∀ t, Q p.2 { s with toks := t }) : wpAny (model prog w) A (getItem (.ref d) v) Q E s := by
  unfold getItem
  try with_reducible refine wpAny_holding ?_
  refine wpAny_bind (wpAny_sequenceKey hm.typeIs (by decide) ?_)
  refine wpAny_bind (wpAny_callSpecial?_slot (name := Str.ofString "__getitem__") hm.typeIs slot_dict_getitem
    (wpAny_call_entry slot_dict_getitem hm.typeIs entry_dict_getitem ?_ (args_dict_getitem _ _)))
  show wpAny _ _ (dictGet d v >>= _) _ _ s
  refine wpAny_bind ?_
  obtain ⟨o, es, ep, ho, hc, hd, he, hn⟩ := hm
  unfold dictGet
  try with_reducible refine wpAny_holding ?_
  have hu1 : A.in1.units + 8 < cLine := by
    show A.units + 1 + 8 < cLine
    omega
  refine wpAny_bind (hashM hu1 hkey fun t => wpAny_bind (findM (s := { s with toks := t }) hu1 hkey ho hd he hk hn (fun z => absurd hp (z j p)) fun i q hi => ?_))
  refine wpAny_bind (wpAny_dictEntries (s := { s with toks := t }) ho hd (wpAny_pure ?_))
  have e : i = j := idxM hn hi hp
  subst e
  rw [hp] at hi
  have eq : p = q := by
    injection hi with hi
    injection hi
  subst eq
  have ev : (es[i]?).map (·.val) = some p.2 := by
    rw [entM_at he i, hp]
    rfl
  rw [ev]
  exact wpAny_pure ⟨p.2, rfl, wpAny_pure (h t)⟩
theorem setM {d : Addr} {xs : List MEnt} {k : NestedKey} {key v : Value} {Q : Unit → Shared → Prop} (hu : A.units + 8 < cLine) (hkey : KeyM s.heap k key) (hm : DictM w s.heap d xs) (hk : ∀ x ∈ xs, KeyM s.heap x.1 x.2.1) (hnew : k ∉ xs.map (·.1)) (hz : xs.length ≤ sizeLine)
    (hQ : ∀ h' t, DictM w h' d (xs ++ [(k, key, v)]) → Heap.SameBut d s.heap h' → Q () { s with heap := h', toks := t }) : wpAny (model prog w) A (dictSet d key v) Q E s := by
  obtain ⟨o, es, ep, ho, hc, hd, he, hn⟩ := hm
  unfold dictSet
  try with_reducible refine wpAny_holding ?_
  refine wpAny_bind (hashM hu hkey fun t => ?_)
  unfold dictSetHashed
  try with_reducible refine wpAny_holding ?_
  refine wpAny_bind (findM (s := { s with toks := t }) hu hkey ho hd he hk hn (fun z => ?_) fun i q hi => absurd (List.mem_map.mpr ⟨_, List.mem_of_getElem? hi, rfl⟩) hnew)
  refine wpAny_bind (wpAny_rule (wpAny_updateDictKeys (hz := by have e := entM_size he; omega) (s := { s with toks := t }) ho hd (hQ _ t ⟨_, _, ep + 1, Heap.get?_update_self _ ho (Obj.isFreed_of_dict (Obj.data_mapDictKeys hd _)),
      hc.mapDictKeys _, Obj.data_mapDictKeys hd _, ?_, ?_⟩ (Heap.SameBut.update ..))))
  · simp [he, entM]
  · rw [List.map_append, List.nodup_append]
    refine ⟨hn, by simp, ?_⟩
    intro x hx y hy
    simp only [List.map_cons, List.map_nil, List.mem_singleton] at hy
    subst hy
    exact fun e => hnew (e ▸ hx)
/-- the walk over the pairs -/
theorem upd_loopM {R : Result → Shared → Prop} {S I l : Addr} {items : Array Value} {res : Value} {hB : Heap} (hh : A.handled = none) (hu : A.units + 12 < cLine) (hlI : l ≠ I) (hSI : S ≠ I) (hSl : S ≠ l) (bS : hB.get? S = none) (bI : hB.get? I = none) :
    ∀ (rest : List MEnt) (i : Nat) (acc : List MEnt) (ix : Int) (t : Tok) (s : Shared), items.size = i + rest.length → acc.length + rest.length ≤ sizeLine →
      (∀ (j : Nat) (q : MEnt), rest[j]? = some q → ∃ b : Addr, items[i + j]? = some (.ref b) ∧ IsTup hB b #[q.2.1, q.2.2]) →
      (∀ q ∈ acc ++ rest, KeyM hB q.1 q.2.1) → ((acc ++ rest).map (·.1)).Nodup → (∀ b o, hB.get? b = some o → s.heap.get? b = some o) →
      s.heap.IsListIter I l i → s.heap.IsList l items → DictM w s.heap S acc →
      (∀ h' tk, DictM w h' S (acc ++ rest) → (∀ b o, b ≠ S → b ≠ I → s.heap.get? b = some o → h'.get? b = some o) → R (.ok (.ret res)) { s with heap := h', toks := tk }) →
      codeAny (model prog w) A (.builtin "dict.update.loop" ⟨[.ref S, .ref I, .int ix t, res], []⟩) R s
  | [], i, acc, ix, t, s, hsz, hln, ht, hks, hnd, hb, hit, hl, hm, hR => by
    refine codeAny_builtin ud_entry ?_
    rw [Around.under_plainId ud_plain _]
    show wpAny _ A.in1 (pyNext (.ref I) >>= _) _ _ s
    refine wpAny_bind (wpAny_pyNext_list_end (A := A.in1) hh hit hl (by first | exact Array.getElem?_eq_none (Nat.le_of_eq hsz) | (simp at hsz; simp; omega)) fun h' he => ?_)
    show wpAny _ A.in1 (Builtin.Dict.addKeywords S [] >>= _) _ _ _
    refine wpAny_bind (wpAny_pure (wpAny_pure ?_))
    refine hR h' s.toks ?_ fun b o _ hb e => he b o hb e
    rw [List.append_nil]
    exact hm.at fun o e => he S o hSI e
  | q :: rest, i, acc, ix, t, s, hsz, hln, ht, hks, hnd, hB0, hit, hl, hm, hR => by
    obtain ⟨b, hb, htup⟩ := ht 0 q rfl
    have hbS : b ≠ S := fun z => by
      obtain ⟨o, e, _⟩ := htup
      rw [z, bS] at e
      cases e
    have hbI : b ≠ I := fun z => by
      obtain ⟨o, e, _⟩ := htup
      rw [z, bI] at e
      cases e
    rw [List.length_cons] at hsz hln
    refine codeAny_builtin ud_entry ?_
    rw [Around.under_plainId ud_plain _]
    show wpAny _ A.in1 (pyNext (.ref I) >>= _) _ _ s
    refine wpAny_bind (wpAny_pyNext_list_item (x := .ref b) hit hl (by simpa using hb) fun h1 hit1 hs1 => ?_)
    have ext1 : ∀ c o, hB.get? c = some o → h1.get? c = some o := fun c o e => hs1.extBut c o (fun z => by rw [z, bI] at e; cases e) (hB0 c o e)
    have ht1 : IsTup h1 b #[q.2.1, q.2.2] := htup.keeps ext1
    have hl1 : h1.IsList l items := hl.extBut hs1.extBut hlI
    have hm1 : DictM w h1 S acc := hm.at fun o e => hs1.extBut S o hSI e
    obtain ⟨o, ho, hc, n, hd⟩ := id ht1
    show wpAny _ A.in1 (holding [Value.ref b] _ >>= _) _ _ _
    refine wpAny_bind (wpAny_holding ?_)
    refine wpAny_bind (wpAny_tryCatch ?_)
    unfold Builtin.Dict.pairItems
    refine wpAny_bind (wpAny_typeOf (T := "tuple") ⟨o, ho, hc⟩ ?_)
    rw [if_pos (by first | decide | rfl | simp)]
    refine wpAny_bind (wpAny_seqItems ho hd (wpAny_pure ?_))
    show wpAny _ A.in1 (holding [q.2.1, q.2.2] (dictSet S q.2.1 q.2.2)) _ _ _
    have kq : KeyM h1 q.1 q.2.1 := (hks q (by simp)).ext ext1
    have hka : ∀ x ∈ acc, KeyM h1 x.1 x.2.1 := fun x hx => (hks x (List.mem_append_left _ hx)).ext ext1
    have hnew : q.1 ∉ acc.map (·.1) := fun z => by
      rw [List.map_append, List.nodup_append] at hnd
      exact hnd.2.2 _ z _ (by simp) rfl
    refine wpAny_holding (setM (s := { s with heap := h1 }) (by show A.units + 1 + 8 < cLine; omega) kq hm1 hka hnew (by omega) (fun h2 tk hm2 hs2 => ?_))
    have e2 : acc ++ [(q.1, q.2.1, q.2.2)] ++ rest = acc ++ q :: rest := by simp
    refine wpAny_pure ⟨plainId_quiet ud_plain _, upd_loopM (items := items) (hB := hB) hh hu hlI hSI hSl bS bI rest (i + 1) (acc ++ [(q.1, q.2.1, q.2.2)]) (ix + 1) 0 _ (show items.size = i + 1 + rest.length by omega) ?_ (fun j q' e => ?_) ?_ ?_ (fun c oc e => ?_) ?_ ?_ hm2 fun h' tk hd' k => ?_⟩
    · rw [List.length_append]
      show acc.length + 1 + rest.length ≤ sizeLine
      omega
    · obtain ⟨b', hb', htup'⟩ := ht (j + 1) q' (by simpa using e)
      refine ⟨b', ?_, htup'⟩
      rw [show i + 1 + j = i + (j + 1) by omega]
      exact hb'
    · rw [e2]
      exact hks
    · rw [e2]
      exact hnd
    · exact hs2.extBut c oc (fun z => by rw [z, bS] at e; cases e) (ext1 c oc e)
    · exact hit1.at fun o' e => hs2.extBut I o' (Ne.symm hSI) e
    · exact hl1.extBut hs2.extBut (Ne.symm hSl)
    · rw [e2] at hd'
      exact hR h' tk hd' fun c oc h3 h4 e => k c oc h3 h4 (hs2.extBut c oc h3 (hs1.extBut c oc h4 e))
/-- dict(l) of a list of pairs, all keys unlike -/
theorem call_dictM {l : Addr} {ol : Obj} {items : Array Value} {n : Nat} {prs : List MEnt} {Q : Value → Shared → Prop} (hh : A.handled = none) (hu : A.units + 16 < cLine) (hl : s.heap.get? l = some ol) (hc : ol.cls = .type "list") (hd : ol.dict = none)
    (hdat : ol.data = .seq items n) (hsz : items.size = prs.length) (hln : prs.length ≤ sizeLine)
    (ht : ∀ (j : Nat) (q : MEnt), prs[j]? = some q → ∃ b : Addr, items[j]? = some (.ref b) ∧ IsTup s.heap b #[q.2.1, q.2.2]) (hks : ∀ q ∈ prs, KeyM s.heap q.1 q.2.1) (hnd : (prs.map (·.1)).Nodup)
    (h : ∀ h' tk, DictM w h' s.heap.objs.size prs → (∀ b o, s.heap.get? b = some o → h'.get? b = some o) → Q (.ref s.heap.objs.size) { s with heap := h', toks := tk }) :
    wpAny (model prog w) A (call (.type "dict") [.ref l]) Q E s := by
  refine callType_codes (Q₁ := fun obj s1 => obj = .ref s.heap.objs.size ∧ s1 = { s with heap := s.heap.push { cls := .type "dict", data := .dict #[] } }) PySem.F.kt_called_dict (PySem.F.kt_typeCall_dict_1 _) PySem.F.entry_dict_init (kt_code_dict_new _ ⟨rfl, rfl⟩) ?_
  rintro obj s1 ⟨rfl, rfl⟩
  have hnew : DictM w (s.heap.push { cls := .type "dict", data := .dict #[] }) s.heap.objs.size [] := DictM.new
  have k0 : ∀ b o, s.heap.get? b = some o → (s.heap.push { cls := .type "dict", data := .dict #[] }).get? b = some o := fun b o e => Heap.get?_push_of_some _ e
  refine ⟨DictM.typeIs (s := { s with heap := s.heap.push { cls := .type "dict", data := .dict #[] } }) hnew, PySem.F.args_dict_init_2 _ _, ?_⟩
  unfold Builtin.«dict.__init__»
  refine wpAny_bind ?_
  unfold Builtin.Dict.selfAndRest
  refine wpAny_bind (wpAny_notOrdered_dict (DictM.typeIs (s := { s with heap := s.heap.push { cls := .type "dict", data := .dict #[] } }) hnew) ?_)
  show wpAny _ _ (pure (s.heap.objs.size, [Value.ref l])) _ _ _
  refine wpAny_pure ?_
  show wpAny _ _ (Builtin.Dict.updateFrom "dict.__init__" s.heap.objs.size (.ref l) [] .none) _ _ _
  unfold Builtin.Dict.updateFrom
  refine wpAny_bind (wpAny_typeOf (T := "list") ⟨ol, k0 _ _ hl, hc⟩ ?_)
  rw [if_pos (by first | decide | rfl | simp)]
  refine wpAny_bind (miss_list (k0 _ _ hl) hc hdat hd hh fun h1 tk1 hk1 => ?_)
  rw [if_pos (show (none : Option Value).isNone = true from rfl)]
  refine wpAny_bind (wpAny_rule ?_)
  have hl1 : h1.IsList l items := ⟨ol, hk1 _ _ (k0 _ _ hl), hc, n, hdat⟩
  have hS1 : s.heap.objs.size < h1.objs.size := by
    have e : (s.heap.push { cls := .type "dict", data := .dict #[] }).get? s.heap.objs.size = some { cls := .type "dict", data := .dict #[] } := Heap.get?_push_size _ rfl
    exact Heap.lt_size (hk1 _ _ e)
  refine wpAny_bind (wpAny_pyIter_list hl1 ?_)
  have k2 : ∀ b o, h1.get? b = some o → (h1.push { cls := .type "list_iterator", data := .fields #[.ref l, .int 0 0] }).get? b = some o := fun b o e => Heap.get?_push_of_some _ e
  have hlt : l < s.heap.objs.size := Heap.lt_size hl
  have none_ge : ∀ b, s.heap.objs.size ≤ b → s.heap.get? b = none := fun b hb => by
    cases q : s.heap.get? b with
    | none => rfl
    | some o => exact absurd (Heap.lt_size q) (Nat.not_lt.mpr hb)
  have key := upd_loopM (prog := prog) (w := w) (A := A.in1) (R := wants (fun r s2 => r = .none ∧ Q (.ref s.heap.objs.size) s2) E) (S := s.heap.objs.size) (I := h1.objs.size) (l := l) (items := items) (res := Value.none) (hB := s.heap) hh (by show A.units + 1 + 12 < cLine; omega)
    (Nat.ne_of_lt (Nat.lt_trans hlt hS1)) (Nat.ne_of_lt hS1) (Nat.ne_of_gt hlt) (none_ge _ (Nat.le_refl _)) (none_ge _ (Nat.le_of_lt hS1)) prs 0 [] 0 0
    { s with heap := h1.push { cls := .type "list_iterator", data := .fields #[.ref l, .int 0 0] }, toks := tk1 } (by rw [hsz, Nat.zero_add]) (by rw [List.length_nil, Nat.zero_add]; exact hln)
    (fun j q e => by
      obtain ⟨b, e1, e2⟩ := ht j q e
      exact ⟨b, by rw [Nat.zero_add]; exact e1, e2⟩)
    (by rw [List.nil_append]; exact hks) (by rw [List.nil_append]; exact hnd) (fun c o z => k2 _ _ (hk1 _ _ (k0 _ _ z)))
    ⟨_, Heap.get?_push_size _ rfl, rfl, rfl⟩ (hl1.at fun o e => k2 _ _ e) ((hnew.at fun o e => hk1 _ _ e).at fun o e => k2 _ _ e)
    (fun h' tk hd' k => ⟨rfl, h h' tk (by rw [List.nil_append] at hd'; exact hd') fun b o e => k b o (Nat.ne_of_lt (Heap.lt_size e)) (Nat.ne_of_lt (Nat.lt_trans (Heap.lt_size e) hS1)) (k2 _ _ (hk1 _ _ (k0 _ _ e)))⟩)
  first
    | exact wpAny_pure ⟨plainId_quiet ud_plain _, key⟩
    | exact wpAny_bind (wpAny_pure (wpAny_pure ⟨plainId_quiet ud_plain _, key⟩))
end
end PySem
/-! ## MX3 -/
set_option Elab.async false
set_option linter.all false
set_option maxRecDepth 100000
set_option maxHeartbeats 4000000
/-! Rules: dicts of mixed keys; equality that is false by size; lists of tuples compared. -/
namespace K01
open PySem PySem.Spec PyProof.Rows L2
/-- a key, as a value; tuples of texts alone -/
inductive KeyAt (H : Hp) : NestedKey → V → Prop
  | none : KeyAt H .none .non
  | num (i : Int) : KeyAt H (.num i) (.int i)
  | text (x : Str) : KeyAt H (.text x) (.str x)
  | tup {q : Addr} {x : Str} : H q = some (.tup [.str x]) → KeyAt H (.tup [.text x]) (.ref q)
abbrev VEnt := NestedKey × V × V
def EntR (p : VEnt) (q : MEnt) : Prop := p.1 = q.1 ∧ RelV p.2.1 q.2.1 ∧ RelV p.2.2 q.2.2
def MixO (w : World) (a : Addr) (kvs : List VEnt) : HO := .ext fun h => (a == sysModules) = false ∧ ∃ xs : List MEnt, Paired EntR kvs xs ∧ DictM w h a xs
def KeysAt (H : Hp) (kvs : List VEnt) : Prop := ∀ p ∈ kvs, KeyAt H p.1 p.2.1
theorem KeyAt.up {H H' : Hp} {k : NestedKey} {v : V} (x : KeyAt H k v) (e : ∀ b o, H b = some o → H' b = some o) : KeyAt H' k v := by
  cases x with
  | none => exact .none
  | num i => exact .num i
  | text x => exact .text x
  | tup h => exact .tup (e _ _ h)
theorem KeyAt.up2 {H H' : Hp} {k : NestedKey} {v : V} (x : KeyAt H k v) (e : ∀ b xs, H b = some (.tup xs) → H' b = some (.tup xs)) : KeyAt H' k v := by
  cases x with
  | none => exact .none
  | num i => exact .num i
  | text x => exact .text x
  | tup h => exact .tup (e _ _ h)
section
variable {X : Cx} {pins : List (Addr × Obj)} {σ : L2.St} {H : Hp} {s : Shared}
theorem KeyAt.keyM (I : Inv X pins σ H s) {k : NestedKey} {v : V} {u : Value} (x : KeyAt H k v) (r : RelV v u) : KeyM s.heap k u := by
  cases x with
  | none => cases (show u = Value.none from r); exact ⟨.none, by decide⟩
  | num i => obtain ⟨t, rfl⟩ := (show ∃ t, u = Value.int i t from r); exact ⟨.int i t, by show (0 : Nat) ≤ 8; decide⟩
  | text x => obtain ⟨t, rfl⟩ := (show ∃ t, u = Value.str x t from r); exact ⟨.text x t, by show (0 : Nat) ≤ 8; decide⟩
  | @tup q x h =>
    cases (show u = Value.ref q from r)
    obtain ⟨_, its, rv, o, ho, hc, n, hd⟩ := (show ObjOk X.prog X.w H s.heap q (.tup [.str x]) from I.hok q _ h)
    obtain ⟨y, rfl, ry⟩ := vals1 rv
    obtain ⟨t, rfl⟩ := (show ∃ t, y = Value.str x t from ry)
    exact ⟨.tup ho hc hd (.cons (.text x t) .nil), by show (max 0 0) + 1 ≤ 8; decide⟩
theorem paired_mem2 {α β : Type} {F : α → β → Prop} : ∀ {xs : List α} {ys : List β}, Paired F xs ys → ∀ {y : β}, y ∈ ys → ∃ x ∈ xs, F x y
  | _, _, .cons h t, y, hy => by
    rcases List.mem_cons.mp hy with e | hy
    · rw [e]
      exact ⟨_, List.mem_cons_self, h⟩
    · obtain ⟨x, hx, f⟩ := paired_mem2 t hy
      exact ⟨x, List.mem_cons_of_mem _ hx, f⟩
theorem paired_at {α β : Type} {F : α → β → Prop} : ∀ {xs : List α} {ys : List β}, Paired F xs ys → ∀ {i : Nat} {x : α}, xs[i]? = some x → ∃ y, ys[i]? = some y ∧ F x y
  | _, _, .nil, i, x, h => by simp at h
  | _, _, .cons r t, 0, x, h => by
    have e := Option.some.inj (by simpa using h)
    subst e
    exact ⟨_, rfl, r⟩
  | _, _, .cons r t, i + 1, x, h => by simpa using paired_at t (by simpa using h)
theorem keys_all (I : Inv X pins σ H s) {kvs : List VEnt} {xs : List MEnt} (ks : KeysAt H kvs) (p : Paired EntR kvs xs) : ∀ x ∈ xs, KeyM s.heap x.1 x.2.1 := fun x hx => by
  obtain ⟨y, hy, e, r, _⟩ := paired_mem2 p hx
  rw [← e]
  exact (ks y hy).keyM I r
theorem keys_eq {kvs : List VEnt} {xs : List MEnt} (p : Paired EntR kvs xs) : xs.map (·.1) = kvs.map (·.1) := by
  induction p with
  | nil => rfl
  | cons h _ ih => rw [List.map_cons, List.map_cons, ih, h.1]
theorem prs_of (I : Inv X pins σ H s) : ∀ {ps : List Addr} {kvs : List VEnt}, Paired (fun p (kv : VEnt) => SqT X.K H p [kv.2.1, kv.2.2]) ps kvs →
    ∃ prs : List MEnt, Paired EntR kvs prs ∧ prs.length = ps.length ∧ ∀ (j : Nat) (q : MEnt), prs[j]? = some q → ∃ b : Addr, ps[j]? = some b ∧ IsTup s.heap b #[q.2.1, q.2.2]
  | _, _, .nil => ⟨[], .nil, rfl, fun j q e => by simp at e⟩
  | _, _, .cons (a := p) (b := kv) h t => by
    obtain ⟨prs, r, hl, hp⟩ := prs_of I t
    obtain ⟨its, rv, ht, _⟩ := I.tuple h
    obtain ⟨u, y, ei, ru, ry⟩ := vals2 rv
    subst ei
    refine ⟨(kv.1, u, y) :: prs, .cons ⟨rfl, ru, ry⟩ r, by rw [List.length_cons, List.length_cons, hl], fun j q e => ?_⟩
    cases j with
    | zero =>
      have e' : (kv.1, u, y) = q := Option.some.inj e
      subst e'
      exact ⟨p, rfl, ht⟩
    | succ j =>
      obtain ⟨b, e1, e2⟩ := hp j q (by simpa using e)
      exact ⟨b, by simpa using e1, e2⟩
theorem mixO_ok {w : World} {P : Program} {h : Heap} {a : Addr} {kvs : List VEnt} {xs : List MEnt} (z : (a == sysModules) = false) (p : Paired EntR kvs xs) (d : DictM w h a xs) : ObjOk P w H h a (MixO w a kvs) := by
  refine ⟨⟨z, xs, p, d⟩, ?_, fun h1 h2 ⟨z, xs, p, d⟩ k => ⟨z, xs, p, d.at k⟩⟩
  obtain ⟨o, _, _, ho, _⟩ := d
  exact ⟨o, ho⟩
end
section
variable {X : Cx}
/-- dict(xs) of a list of pairs, the keys unlike and of any of these kinds -/
theorem call_dictMix (hcalm : X.calm = true) (hu : X.A.units + 20 < cLine) : CallR X (.type "dict") (fun xs H Q => ∃ (a : Addr) (ps : List Addr) (kvs : List VEnt), xs = [.ref a] ∧ SqL X.K H a (ps.map V.ref) ∧ Paired (fun p (kv : VEnt) => SqT X.K H p [kv.2.1, kv.2.2]) ps kvs ∧
    KeysAt H kvs ∧ (kvs.map (·.1)).Nodup ∧ ∀ p, H p = none → Q (.ref p) (upd H p (MixO X.w p kvs))) := by
  intro pins s σ H xs us Q I r q
  obtain ⟨a, ps, kvs, ex, hq, hp, ka, hn, q⟩ := q
  subst ex
  obtain ⟨u, eu, rx⟩ := vals1 r
  subst eu
  cases rx
  obtain ⟨its, rv, pl, hz⟩ := I.list hq
  have ei := refs_at rv
  subst ei
  rw [List.length_map] at hz
  obtain ⟨prs, rel, hl, hpr⟩ := prs_of I hp
  obtain ⟨o, n, ho, hc, hd, hdat⟩ := pl
  refine call_dictM (prs := prs) (I.ok.hd hcalm) (by omega) ho hc hd hdat (by simp [hl]) (by rw [hl]; exact hz) (fun j q' e => ?_) (keys_all I ka rel) (by rw [keys_eq rel]; exact hn) fun h' tk hd' k => ?_
  · obtain ⟨b, e1, e2⟩ := hpr j q' e
    exact ⟨b, by simp [e1], e2⟩
  · have hm : (s.heap.objs.size == sysModules) = false := beq_eq_false_iff_ne.mpr (Nat.ne_of_gt I.big)
    exact ⟨.ref s.heap.objs.size, upd H s.heap.objs.size (MixO X.w s.heap.objs.size kvs), I.laid (t' := tk) k (Nat.le_refl _) (mixO_ok hm rel hd'), rfl, q _ (I.hok.fresh (Nat.le_refl _))⟩
/-- isinstance(x, dict): also of such a dict -/
def rIsiM (K : PySem.W.Frag) (w : World) : List V → Hp → VK → Prop := fun xs H Q => rIsi K xs H Q ∨ ∃ a kvs, xs = [.ref a, .ty "dict"] ∧ H a = some (MixO w a kvs) ∧ Q (.bl true) H
theorem call_isiM : CallR X (.builtin "isinstance") (rIsiM X.K X.w) := by
  intro pins s σ H xs us Q I r h
  rcases h with h | ⟨a, kvs, rfl, ha, q⟩
  · exact call_isi pins s σ H xs us Q I r h
  · obtain ⟨u1, u2, rfl, r1, r2⟩ := vals2 r
    cases (show u1 = Value.ref a from r1)
    cases (show u2 = Value.type "dict" from r2)
    obtain ⟨⟨_, _, _, o, es, ep, ho, hx, _⟩, _, _⟩ := (show ObjOk X.prog X.w H s.heap a (MixO X.w a kvs) from I.hok a _ ha)
    exact PySem.W.kia_one PySem.W.kitx_dict I.kIn ⟨o, ho, hx.1⟩ (b := true) (kit_ty (K := X.K) (by decide +kernel)) (fun z => nomatch z) fun tk => ⟨.bl true, H, I.tok tk, rfl, q⟩
end
/-- the keys of such a dict, held -/
def ItM (w : World) (d : Addr) (o : Obj) (kvs : List VEnt) : It :=
  ⟨fun i H => H d = some (.frz o (MixO w d kvs)) ∧ i < kvs.length, fun i H x H' => H' = H ∧ ∃ p, kvs[i]? = some p ∧ x = p.2.1, fun i H => H d = some (.frz o (MixO w d kvs)) ∧ kvs.length ≤ i⟩
section
variable {X : Cx} {pins : List (Addr × Obj)} {σ : L2.St} {H : Hp} {s : Shared} {d : Addr} {o : Obj}
theorem frzM {kvs : List VEnt} (I : Inv X pins σ H s) (h : H d = some (.frz o (MixO X.w d kvs))) :
    (d == sysModules) = false ∧ s.heap.get? d = some o ∧ o.ExactDict ∧ ∃ (es : Array DictEntry) (ep : Nat) (xs : List MEnt), o.data = .dict es ep ∧ es.size = kvs.length ∧ Paired EntR kvs xs ∧ es.toList = xs.map (entM X.w) ∧ (xs.map (·.1)).Nodup := by
  obtain ⟨hd, ⟨z, xs, p, o', es, ep, ho, hx, hdt, he, hn⟩, _, _⟩ := I.hok d _ h
  rw [hd] at ho
  cases ho
  refine ⟨z, hd, hx, es, ep, xs, hdt, ?_, p, he, hn⟩
  rw [entM_size he]
  exact (Paired.length p).symm
end
section
variable {P : Program} {w : World} {K : PySem.W.Frag} {tg : Expr} {d : Addr} {o : Obj} {es : Array DictEntry} {ep : Nat}
theorem turn_M {kvs : List VEnt} (it : Addr) (hod : o.data = .dict es ep) : Turn P w K tg (ItM w d o kvs) [it] it (fun i h => h.IsKeyIter it d i kvs.length ep) where
  mem := by simp
  obj := fun i h st b hb => by
    have e : b = it := by simpa using hb
    subst e
    obtain ⟨oi, e, c, dd⟩ := st
    exact ⟨oi, e, fun v z => by rw [dd] at z; cases z⟩
  keep := fun i h h' st k => st.at fun oi e => k it (by simp) oi e
  item := by
    intro X hP hw hK hc i pins s σ H E I hf st hg
    subst hP hw hK
    obtain ⟨hd, hi⟩ := hg
    obtain ⟨f0, f1, f2, f3, f4, f5⟩ := hf it (by simp)
    obtain ⟨hs, hgd, hx, es', ep', xs, hdt, hsz, p, he, hn⟩ := frzM I hd
    obtain ⟨rfl, rfl⟩ := dict_ep hod hdt
    obtain ⟨q, hq⟩ : ∃ q, kvs[i]? = some q := ⟨kvs[i], List.getElem?_eq_getElem hi⟩
    obtain ⟨m, hm, e1, r1, r2⟩ := paired_at p hq
    rw [← hsz] at st
    have hlt : i < es'.size := by rw [hsz]; exact hi
    have ek : es'[i].key = m.2.1 := by
      have q1 := entM_at he i
      rw [hm, Array.getElem?_eq_getElem hlt] at q1
      rw [Option.some.inj q1]
      rfl
    refine PySem.wpAny_pyNext_keys_item_raw st ⟨o, hgd, hx, hdt⟩ hlt fun h' st' sb => ?_
    have I1 : Inv X pins σ H { s with heap := h' } := I.turned (t' := s.toks) (fun b ob hb e => (sb.2 b hb).trans e) f0 f1 f3 f4 f5
    obtain ⟨oi, e, c, dd⟩ := id st'
    refine ⟨es'[i].key, rfl, go_of (s := { s with heap := h' }) e c dd (by decide) ⟨q.2.1, H, I1, by rw [ek]; exact r1, ⟨rfl, q, hq, rfl⟩, ?_, fun b hb => (hf b hb).1⟩⟩
    show h'.IsKeyIter it d (i + 1) kvs.length _
    rw [← hsz]
    exact st'
  done := by
    intro X hP hw hK hc i pins s σ H E I hf st hg
    subst hP hw hK
    obtain ⟨hd, hi⟩ := hg
    obtain ⟨f0, f1, f2, f3, f4, f5⟩ := hf it (by simp)
    obtain ⟨hs, hgd, hx, es', ep', xs, hdt, hsz, p, he, hn⟩ := frzM I hd
    obtain ⟨rfl, rfl⟩ := dict_ep hod hdt
    exact next_key_end (I.ok.hd hc) st hgd hdt hsz hi fun h' eb => ⟨rfl, I.turned (t' := s.toks) (fun b ob hb e => eb b ob hb e) f0 f1 f3 f4 f5⟩
  self := fun A i s Q E st h => wpAny_pyIter_keyiter st h
end
def iKeysX (w : World) (td : TE) : TI := fun σ H R => td σ H fun x H1 => ∃ d o, x = .ref d ∧ ((∃ kvs, H1 d = some (.frz o (.dK kvs)) ∧ R (Itk d o kvs) H1) ∨ ∃ kvs, H1 d = some (.frz o (MixO w d kvs)) ∧ R (ItM w d o kvs) H1)
section
variable {X : Cx} {tg e i : Expr} {td ty : TE} {apos cpos pos : Pos}
theorem pi_keysX (he : PE X e td) : PI X tg e (iKeysX X.w td) := by
  refine ⟨fun pins s σ H R I h => ?_⟩
  refine thn (he.run pins s σ H _ I h) fun u s1 ⟨x, H1, I1, rx, d, o, ex, q⟩ => ?_
  subst ex
  obtain rfl : u = Value.ref d := rx
  rcases q with ⟨kvs, hd, q⟩ | ⟨kvs, hd, q⟩
  · obtain ⟨hs, hgd, hx, es, ep, vs, hdt, hsz, kv, hm⟩ := I1.frzK hd
    refine iter_keys hs hgd hx hdt (pi_one (tk := s1.toks) I1 _ (turn_keys _ hdt) ⟨_, Heap.get?_push_size _ rfl, rfl, ?_⟩ q)
    rw [hsz] <;> rfl
  · obtain ⟨hs, hgd, hx, es, ep, xs, hdt, hsz, _⟩ := frzM I1 hd
    refine iter_keys hs hgd hx hdt (pi_one (tk := s1.toks) I1 _ (turn_M _ hdt) ⟨_, Heap.get?_push_size _ rfl, rfl, ?_⟩ q)
    rw [hsz] <;> rfl
theorem walk_M {w : World} {d : Addr} {o : Obj} {kvs : List VEnt} : Walk (ItM w d o kvs) kvs.length (fun H => H d = some (.frz o (MixO w d kvs))) (fun i H x H' => H' = H ∧ ∃ p, kvs[i]? = some p ∧ x = p.2.1) :=
  ⟨fun _ _ hi q => ⟨q, hi⟩, fun _ q => ⟨q, Nat.le_refl _⟩, fun _ _ _ _ _ _ y => y⟩
/-- d[k], d such a dict, held, or any other one -/
def tDGetX2 (w : World) (td ty : TE) : TE := fun σ H Q => td σ H fun x H1 => ty σ H1 fun y H2 => ∃ a v, x = .ref a ∧ (DGet H2 a y (some v) ∨ ∃ o kvs k, H2 a = some (.frz o (MixO w a kvs)) ∧ KeysAt H2 kvs ∧ KeyAt H2 k y ∧ ∃ y', (k, y', v) ∈ kvs) ∧ Q v H2
theorem pe_dgetX2 (hu : X.A.units + 16 < cLine) (ho : PE X e td) (hi : PE X i ty) (hs : NoSl i) : PE X (.Subscript e i pos) (tDGetX2 X.w td ty) := by
  refine ⟨fun pins s σ H Q I h => ?_⟩
  refine subD_of PySem.F.slot_dict_getitem.lookup hs (thn (ho.run pins s σ H _ I h) fun u s1 ⟨x, H1, I1, rx, q1⟩ => thn (hi.run pins s1 σ H1 _ I1 q1) fun iv s2 ⟨y, H2, I2, ry, a, v, ex, g, q2⟩ => ?_)
  subst ex
  obtain rfl : u = Value.ref a := rx
  rcases g with g | ⟨o, kvs, k, ha, ks, ky, y', hm⟩
  · exact ⟨dict_typeIs I2 g, d_getItem (by omega) I2 g ry fun w' s3 I3 rw' => ⟨v, H2, I3, rw', q2⟩⟩
  · obtain ⟨hsm, hgd, hx, es, ep, xs, hdt, hsz, p, he, hn⟩ := frzM I2 ha
    refine ⟨⟨o, hgd, hx.1⟩, ?_⟩
    obtain ⟨j, hj⟩ := List.mem_iff_getElem?.mp hm
    obtain ⟨m, hmj, e1, r1, r2⟩ := paired_at p hj
    have hmj' : xs[j]? = some (k, m.2) := by
      rw [hmj]
      have e1' : k = m.1 := e1
      rw [e1']
    exact getM (by omega) (ky.keyM I2 ry) ⟨o, es, ep, hgd, hx, hdt, he, hn⟩ (keys_all I2 ks p) hmj' fun t => ⟨v, H2, I2.tok t, r2, q2⟩
end
end K01
/-! ## R4 -/
set_option Elab.async false
set_option linter.all false
set_option maxRecDepth 100000
set_option maxHeartbeats 4000000
namespace K01
open PySem PySem.Spec PyProof.Rows L2
section
variable {X : Cx} {e : Expr} {te : TE} {p apos cpos pos : Pos}
/-- behind e one thing is held -/
theorem pe_frz (h : PE X e te) : PE X e (fun σ H Q => te σ H fun x H1 => ∃ d u, H1 d = some u ∧ Mut (some u) ∧ ∀ od, Q x (upd H1 d (.frz od u))) := by
  refine ⟨fun pins s σ H Q I hw => ?_⟩
  refine thn (h.run pins s σ H _ I hw) fun v s1 ⟨x, H1, I1, r, d, u, hd, mu, q⟩ => ?_
  obtain ⟨od, I2⟩ := I1.lock hd mu
  exact ⟨x, _, I2, r, q od⟩
theorem vals_snd {kvs : List (Key × V)} {vs : List (Key × Value)} (kv : KV kvs vs) : Vals (kvs.map (·.2)) (vs.map (·.2)) := by
  unfold KV at kv
  induction kv with
  | nil => exact .nil
  | cons h _ ih => exact .cons h.2 ih
/-- list(e.values()) -/
theorem pe_listVals (hc : X.calm = true) (he : PE X e te) (hg : Gl X "list") (hm : X.mg "list" = none) (hv : bootBuiltins "list" = some (.type "list")) (hbase : attributeBase e "values" X.env (eval e X.env) = eval e X.env := by rfl) (hline : (apos.endLine == cpos.line) = true := by rfl)
    (hs : starEach [.Call (.Attribute e "values" apos) [] [] cpos] X.env = (false, eval (.Call (.Attribute e "values" apos) [] [] cpos) X.env) :: starEach [] X.env := by rfl) :
    PE X (.Call (.Name "list" p) [.Call (.Attribute e "values" apos) [] [] cpos] [] pos) (fun σ H Q => te σ H fun x H1 => ∃ d kvs, x = .ref d ∧ H1 d = some (.dK kvs) ∧ ∀ l, H1 l = none → Q (.ref l) (upd H1 l (.lst (kvs.map (·.2))))) := by
  refine ⟨fun pins s σ H Q I hq => ?_⟩
  refine wpAny_Call_Name_kw (ld_blt I hg hm hv ?_)
  refine PyProof.Rows.callWith_type1 ?_ hs rfl
  rw [hs]
  show wpAny _ _ (spliced ((false, eval (.Call (.Attribute e "values" apos) [] [] cpos) X.env) :: backTo pos (starEach [] X.env))) _ _ s
  refine Calls.spliced_cons ?_
  refine wpAny_Call_method (T := "dict") (id := "dict.values") hbase rfl hline F.plainAttrs_dict F.slot_dict_values F.type_dict_values (thn (he.run pins s σ H _ I hq) fun u s1 ⟨x, H1, I1, rx, d, kvs, ex, hd, q⟩ => ?_)
  subst ex
  obtain rfl : u = Value.ref d := rx
  obtain ⟨hz, hs0, vs, kv, hdo⟩ := I1.hok d _ hd
  obtain ⟨ep, hat⟩ := hdo.dictAt
  have lk : kvs.length = vs.length := Paired.length kv
  have I2 : Inv X pins σ H1 { s1 with heap := s1.heap.push { cls := .type "dict_values", data := .fields #[.ref d] } } := I1.kept (t' := s1.toks) fun b ob q => Heap.get?_push_of_some _ q
  refine ⟨hdo.typeIs, hdo.mapOf.noDict, ?_⟩
  show wpAny _ _ (callWith cpos (.builtin "dict.values") [.ref d] [] []) _ X.xe s1
  refine method_meetsIn F.slot_dict_values F.entry_dict_values rfl (PySem.evalArgs_none ⟨rfl, hdo.typeIs, F.args_dict_values_1 _, _, meets_dict_values (mixKind X.prog X.w) d hs0, ⟨vs, hdo⟩, ?_⟩)
  refine Calls.spliced_nil ?_
  refine PySem.W.kdl_call (PySem.W.kdl_values (knd := mixKind X.prog X.w) (r := s1.heap.objs.size) (d := d) (kvs := vs) (ep := ep)) (s := { s1 with heap := s1.heap.push { cls := .type "dict_values", data := .fields #[.ref d] } }) (I1.ok.hd hc) ⟨⟨_, Heap.get?_push_size _ rfl, rfl, rfl⟩, hat.push _⟩ (by omega) fun h' tk acc c hk hS hacc => ?_
  have ev : acc.toList = vs.map (·.2) := PySem.W.kdl_vals_eq acc.toList (by rw [Array.length_toList]; exact hacc.1) fun j v e => hacc.2 j v (by rw [← Array.getElem?_toList]; exact e)
  have rv := vals_snd kv
  rw [← ev] at rv
  refine ⟨.ref (s1.heap.push { cls := .type "dict_values", data := .fields #[.ref d] }).objs.size, _, I2.laid (t' := tk) (o := .lst (kvs.map (·.2))) hk (Nat.le_refl _) ⟨by rw [List.length_map]; exact hz, acc.toList, c, rv, by rw [Array.toArray_toList]; exact hS⟩, rfl, q _ ?_⟩
  exact I2.hok.fresh (Nat.le_refl _)
end
section
variable {X : Cx}
/-- a == b: equal, or two dicts of unlike sizes -/
def rEqL (K : PySem.W.Frag) : R2 := fun x y H Q => (∃ n, n ≤ 60 ∧ EqR K H (EqV K H n) x y ∧ Q (.bl true) H) ∨ ∃ a b ks ls, x = .ref a ∧ y = .ref b ∧ H a = some (.dK ks) ∧ H b = some (.dK ls) ∧ ks.length ≠ ls.length ∧ Q (.bl false) H
theorem op_eqL (hu : X.A.units + 64 < cLine) : OpR X (compareOp .Eq) (rEqL X.K) := by
  intro pins s σ H x y v u Q I rx ry h
  rcases h with h | ⟨a, b, ks, ls, rfl, rfl, ha, hb, hl, q⟩
  · exact op_eqV hu pins s σ H x y v u Q I rx ry h
  · cases (show v = Value.ref a from rx)
    cases (show u = Value.ref b from ry)
    obtain ⟨_, ya, va, ra, da⟩ := (show ObjOk X.prog X.w H s.heap a (.dK ks) from I.hok a _ ha)
    obtain ⟨_, yb, vb, rb, db⟩ := (show ObjOk X.prog X.w H s.heap b (.dK ls) from I.hok b _ hb)
    have e1 : ks.length = va.length := Paired.length ra
    have e2 : ls.length = vb.length := Paired.length rb
    refine PySem.W.rcP_dicts (knd := mixKind X.prog X.w) (r := false) ya yb da db (by omega) (fun z => absurd z (by omega)) _ _ ?_
    rw [Bool.and_false]
    exact ⟨.bl false, H, I, rfl, q⟩
/-- two tuples item by item the same -/
def TupEq (K : PySem.W.Frag) (H : Hp) (x y : V) : Prop := ∃ p q us vs, x = .ref p ∧ y = .ref q ∧ SqT K H p us ∧ SqT K H q vs ∧ Paired (fun u v => u = v ∧ (flatB u = true ∨ ∃ a, u = .ref a)) us vs
theorem range_all {n : Nat} : (List.range n).all (fun _ => true) = true := List.all_eq_true.mpr fun _ _ => rfl
theorem tupEq_at {pins : List (Addr × Obj)} {σ : L2.St} {H : Hp} {s : Shared} (I : Inv X pins σ H s) {A : Around} (hu : A.units + 2 < cLine) {x y : V} {u v : Value} (h : TupEq X.K H x y) (rx : RelV x u) (ry : RelV y v) : SeqAt.EqAt A s u v true := by
  obtain ⟨p, q, us, vs, rfl, rfl, hp, hq, pr⟩ := h
  cases (show u = Value.ref p from rx)
  cases (show v = Value.ref q from ry)
  by_cases e : p = q
  · subst e
    exact SeqAt.EqAt.same _
  · obtain ⟨xs, r1, t1, _⟩ := I.tuple hp
    obtain ⟨ys, r2, t2, _⟩ := I.tuple hq
    have items : ∀ {us vs : List V} {xs ys : List Value}, Paired (fun u v => u = v ∧ (flatB u = true ∨ ∃ a, u = .ref a)) us vs → Vals us xs → Vals vs ys → ∀ j (h1 : j < xs.length) (h2 : j < ys.length), SeqAt.EqAt A.in1 s xs[j] ys[j] true := by
      intro us vs xs ys pr
      induction pr generalizing xs ys with
      | nil =>
        intro r1 r2 j h1
        cases r1
        exact absurd h1 (Nat.not_lt_zero j)
      | cons h _ ih =>
        intro r1 r2 j h1 h2
        cases r1 with
        | cons a1 b1 =>
          cases r2 with
          | cons a2 b2 =>
            cases j with
            | succ j => exact ih b1 b2 j (Nat.lt_of_succ_lt_succ h1) (Nat.lt_of_succ_lt_succ h2)
            | zero =>
              obtain ⟨rfl, f | ⟨a, rfl⟩⟩ := h
              · exact eqAt_same a1 a2 f
              · simp only [List.getElem_cons_zero]
                rw [show _ = Value.ref a from a1, show _ = Value.ref a from a2]
                exact SeqAt.EqAt.same _
    have hsz : xs.toArray.size = ys.toArray.size := by
      rw [List.size_toArray, List.size_toArray, ← r1.length, ← r2.length]
      exact Paired.length pr
    refine SeqAt.EqAt.of_refs e ?_
    have k := SeqAt.RcAt.tuples (A := A) (s := s) (e := fun _ => true) t1 t2 (by omega) fun j h1 h2 => by
      have z := items pr r1 r2 j (by simpa using h1) (by simpa using h2)
      simpa using z
    rw [range_all, hsz] at k
    simpa using k
/-- a != b, two lists of tuples that are the same item by item -/
def rNeW (K : PySem.W.Frag) : R2 := fun x y H Q => ∃ a b xs ys, x = .ref a ∧ y = .ref b ∧ SqL K H a xs ∧ SqL K H b ys ∧ Paired (TupEq K H) xs ys ∧ Q (.bl false) H
theorem op_neW (hu : X.A.units + 64 < cLine) : OpR X (compareOp .NotEq) (rNeW X.K) := by
  intro pins s σ H x y v u Q I rx ry h
  obtain ⟨a, b, xs, ys, rfl, rfl, ha, hb, pr, q⟩ := h
  cases (show v = Value.ref a from rx)
  cases (show u = Value.ref b from ry)
  obtain ⟨us, r1, p1, _⟩ := I.list ha
  obtain ⟨vs, r2, p2, _⟩ := I.list hb
  have items : ∀ {xs ys : List V} {us vs : List Value}, Paired (TupEq X.K H) xs ys → Vals xs us → Vals ys vs → ∀ j (h1 : j < us.length) (h2 : j < vs.length), SeqAt.EqAt X.A.in1 s us[j] vs[j] true := by
    intro xs ys us vs pr
    induction pr generalizing us vs with
    | nil =>
      intro r1 r2 j h1
      cases r1
      exact absurd h1 (Nat.not_lt_zero j)
    | cons h _ ih =>
      intro r1 r2 j h1 h2
      cases r1 with
      | cons a1 b1 =>
        cases r2 with
        | cons a2 b2 =>
          cases j with
          | succ j => exact ih b1 b2 j (Nat.lt_of_succ_lt_succ h1) (Nat.lt_of_succ_lt_succ h2)
          | zero => exact tupEq_at I (A := X.A.in1) (by show X.A.units + 1 + 2 < cLine; omega) h a1 a2
  have hsz : us.toArray.size = vs.toArray.size := by
    rw [List.size_toArray, List.size_toArray, ← r1.length, ← r2.length]
    exact Paired.length pr
  have k := SeqAt.RcNeAt.lists (A := X.A) (s := s) (e := fun _ => true) p1.isList p2.isList hsz (by omega) fun j h1 h2 => by
    have z := items pr r1 r2 j (by simpa using h1) (by simpa using h2)
    simpa using z
  rw [range_all] at k
  exact k X.prog X.w _ _ ⟨.bl false, H, I, rfl, q⟩
end
end K01
/-! ## R9 -/
set_option Elab.async false
set_option linter.all false
set_option maxRecDepth 100000
set_option maxHeartbeats 4000000
/-! Several except clauses, each with a name. -/
namespace K01
open PySem PySem.Spec PyProof.Rows L2
/-- what the clauses wish of an exception of the body, one after the other; slot i is the name's -/
def wManyA (K : PySem.W.Frag) (Wout : WX) (D : Ends) (i m : Nat) : List (Value × (Addr → Value → Option Addr → TS)) → WX
  | [] => Wout
  | (c, ts) :: r => fun cls d σ H => ∃ b, PySem.W.exmOne K cls c = some b ∧
      (b = true → ∀ a, H a = none → σ.length = m → ts a cls d { nx := fun σ' H' => D.nx (σ'.set i none) H', rt := D.rt, bk := fun σ' H' => D.bk (σ'.set i none) H', ct := fun σ' H' => D.ct (σ'.set i none) H' } (σ.set i (some (.ref a))) H) ∧
      (b = false → wManyA K Wout D i m r cls d σ H)
inductive HdsA (X : Cx) (n : Str) : List ExceptHandler → List (Value × (Addr → Value → Option Addr → TS)) → Prop
  | nil : HdsA X n [] []
  | cons {x : Str} {c : Value} {ts : Addr → Value → Option Addr → TS} {b0 : Stmt} {suite : List Stmt} {np pos' : Pos} {hds : List ExceptHandler} {l : List (Value × (Addr → Value → Option Addr → TS))} (hc : Names X x c)
      (hsu : ∀ (a : Addr) (oe : Obj) (cls : Value) (d : Option Addr) (pn : List (Addr × Obj)), Zc cls d oe → (∃ vs, oe.data = .fields vs) → PSs (X.suite a ((a, oe) :: pn)) (b0 :: suite) (ts a cls d)) (r : HdsA X n hds l) :
      HdsA X n (.ExceptHandler (some (.Name x np)) (some n) (b0 :: suite) pos' :: hds) ((c, ts) :: l)
section
variable {X : Cx} {n : Str} {i : Nat} {body : List Stmt} {h0 : ExceptHandler} {hds : List ExceptHandler} {l : List (Value × (Addr → Value → Option Addr → TS))} {pos : Pos} {tb : WX → TS} {Wout : WX}
theorem ps_try_manyA (hs : X.stack = X.env :: X.outer) (hf : X.env.frame = some X.env.locals) (hN : X.N.Nodup) (hi : X.N[i]? = some n) (hln : X.env.kindOf n = some .local) (tk : Takes X Wout)
    (hb : ∀ (W : WX) (pn : List (Addr × Obj)) (xe : Value → Shared → Prop), Takes (X.tr pn xe) W → PassesOwn (model X.prog X.w) X.A X.env xe → PSs (X.tr pn xe) body (tb W))
    (hh : HdsA X n (h0 :: hds) l) : PS X (.Try body (h0 :: hds) [] [] pos) (fun D σ H => tb (wManyA X.K Wout D i X.N.length l) D σ H) := by
  refine ⟨fun pins s σ H D I h => ?_⟩
  have ok := I.ok
  have hfr : X.A.frames = some (X.env :: X.outer) := by rw [ok.frames, hs]
  have hloc : Loc X.env.scope n := .inl hln
  refine wpAny_Try_except ?_
  refine wpAny_mono ((hb (wManyA X.K Wout D i X.N.length l) (X.pn ++ pins) (fun e s1 => wpAny (model X.prog X.w) X.A (noteFrame e X.env) (fun _ s2 => wpAny (model X.prog X.w) X.A (setFlight e none) (fun _ s3 =>
    wpAny (model X.prog X.w) X.A (handleBy e X.env (h0 :: hds)) (SP X pins D) X.xe s3) X.xe s2) X.xe s1) (fun u s' xx => ?_) PassesOwn.looking).run [] s σ H D (I.toTry _) h) (fun f s1 hsp => ?_) (fun e s1 he => he)
  · obtain ⟨a, B, sI, pins', σ', H', cls, d, rfl, J', nb, up, sky, na, os, ag, w⟩ := xx
    have J : Inv X pins σ' H' sI := J'.ofTry ok
    have sky' : Sky B (X.env :: X.outer) a (Zc cls d) X.env.locals s'.heap := by rw [← hs]; exact sky
    show wpAny (model X.prog X.w) X.A (noteFrame (.ref a) X.env) _ _ _
    refine Sky.land Zc.steady hfr hf sky' fun h3 fl3 up3 => ?_
    have J3 : Inv X pins σ' H' { s' with heap := h3 } := J.landed nb fl3.1 (up.trans up3) os ag
    obtain ⟨oe3, vs3, he3, hz3, hd3⟩ := fl3.there
    have notFr : ∀ {h : Heap} {o : Obj} {vs : Array Value}, h.FunFrames B (X.env :: X.outer) → h.get? a = some o → o.data = .fields vs → a ∉ frs (X.env :: X.outer) := fun {h o vs} ff e dd hm => by
      obtain ⟨_, o', e', hnf⟩ := ff.mem hm
      rw [e] at e'; cases e'
      exact hnf _ dd
    have nfr := notFr fl3.2.2.1 he3 hd3
    have nL : a ≠ X.env.locals := fun z => nfr (List.mem_filterMap.mpr ⟨X.env, List.mem_cons_self, by rw [hf, z]⟩)
    have nF : a ∉ X.fs := fun hm => by
      obtain ⟨e, he, q⟩ := List.mem_filterMap.mp hm
      exact nfr (List.mem_filterMap.mpr ⟨e, List.mem_cons_of_mem _ he, q⟩)
    have S3 := J3.suite he3 hd3 na nL nF
    have go : ∀ {hds' : List ExceptHandler} {l' : List (Value × (Addr → Value → Option Addr → TS))}, HdsA X n hds' l' → wManyA X.K Wout D i X.N.length l' cls d σ' H' →
        wpAny (model X.prog X.w) X.A (handleBy (.ref a) X.env hds') (SP X pins D) X.xe { s' with heap := h3 } := by
      intro hds' l' hk
      induction hk with
      | nil =>
        intro w
        refine wpAny_handleBy_nil ?_
        obtain ⟨k1, k2, k3, oe, vs, T, oT, ts', he, hz, hd, h1, hr⟩ := id fl3
        unfold PySem.passOn
        refine wpAny_bind (wpAny_field he hd h1 ?_)
        rw [if_neg (show ¬ ((Value.ref T == Value.none) = true) from by simp)]
        have fin : wpAny (model X.prog X.w) X.A (setFlight (.ref a) X.env.frame) (fun _ s4 => wpAny (model X.prog X.w) X.A (throw (.ref a) : Sem Flow) (SP X pins D) X.xe s4) X.xe { s' with heap := h3 } := by
          rw [hf]
          refine HandSPX.setFlight_upZ fl3 fun h4 hh4 up4 => wpAny_throw (tk _ _ ?_)
          exact ⟨a, B, sI, pins, σ', H', cls, d, rfl, J, nb, (up.trans up3).trans up4, .inr (.inr (by rw [hs]; exact hh4)), na, os, ag, w⟩
        first
          | exact wpAny_bind (wpAny_pure (wpAny_bind fin))
          | exact wpAny_bind fin
      | @cons x c ts b0 suite np pos' hds2 l2 hc hsu r ih =>
        intro w
        obtain ⟨b, hb1, hyes, hno⟩ := w
        refine wpAny_handleBy_cons (codeAny_handlers_test ?_) (by intro q; cases q)
        have LT : PySem.W.Looks (model X.prog X.w) h3 (typeOf (.ref a)) cls := fun A Q E s k q => wpAny_typeOf_ref (k _ _ he3) (by rw [hz3.1]; exact q)
        have LM := PySem.W.exm_one (M := model X.prog X.w) (J3.kIn) LT hb1
        have test : ∀ {Q : Value → Shared → Prop} {E : Value → Shared → Prop}, Q c { s' with heap := h3 } → wpAny (model X.prog X.w) (X.A.mark (some (.ref a))) (eval (.Name x np) X.env) Q E { s' with heap := h3 } := fun {Q E} q => by
          obtain ⟨hg, hdbg, hm | ⟨hm, hv, hnn⟩⟩ := hc
          · exact ld_glob (X := X.suite a ((a, oe3) :: (X.pn ++ pins))) S3 hg hm q hdbg
          · exact ld_blt (X := X.suite a ((a, oe3) :: (X.pn ++ pins))) S3 hg hm hv q hnn hdbg
        refine test (LM.here ?_)
        cases b with
        | true =>
          refine codeAny_handlers_suite_as ?_
          refine HandSPX.lands_againZ fl3 fun h4 fl4 up4 => ?_
          have J4 : Inv X pins σ' H' { s' with heap := h4 } := J.landed nb fl4.1 ((up.trans up3).trans up4) os ag
          obtain ⟨oe4, vs4, he4, hz4, hd4⟩ := fl4.there
          have S4 := J4.suite he4 hd4 na nL nF
          refine store_ok (X := X.suite a ((a, oe4) :: (X.pn ++ pins))) (v := .ref a) S4 hN hi hloc rfl (fun s5 S5 => ?_) (.inr hln)
          refine wpAny_mono ((hsu a oe4 cls d (X.pn ++ pins) hz4 ⟨_, hd4⟩).run [] s5 _ H' _ S5 (hyes rfl a na J.len)) (fun f s6 hsp => ?_) (fun _ _ z => False.elim z)
          have end_ : ∀ {σ6 : L2.St} {H6 : Hp} {Q : Shared → Prop}, Inv (X.suite a ((a, oe4) :: (X.pn ++ pins))) [] σ6 H6 s6 → (∀ s7, Inv X pins (σ6.set i none) H6 s7 → Q s7) →
              wpAny (model X.prog X.w) X.A (do bindName X.env n .none; unbindBehindTheSuite X.env n pos') (fun _ s7 => Q s7) X.xe s6 := fun {σ6 H6 Q} S6 hq => gone_ok (S6.unsuite ok) hN hi hln hq
          cases f with
          | next =>
            obtain ⟨σ6, H6, S6, q6⟩ := hsp
            exact end_ S6 fun s7 J7 => ⟨_, _, J7, q6⟩
          | brk =>
            obtain ⟨σ6, H6, S6, q6⟩ := hsp
            exact end_ S6 fun s7 J7 => ⟨_, _, J7, q6⟩
          | cont =>
            obtain ⟨σ6, H6, S6, q6⟩ := hsp
            exact end_ S6 fun s7 J7 => ⟨_, _, J7, q6⟩
          | ret u =>
            obtain ⟨v6, σ6, H6, S6, r6, q6⟩ := hsp
            exact end_ S6 fun s7 J7 => ⟨_, _, _, J7, r6, q6⟩
        | false =>
          show wpAny _ X.A (handleBy (.ref a) X.env hds2) _ _ _
          exact ih (hno rfl)
    exact go hh w
  · cases f with
    | next =>
      obtain ⟨σ', H', J', q⟩ := hsp
      exact wpAny_execs_nil ⟨σ', H', J'.ofTry ok, q⟩
    | brk =>
      obtain ⟨σ', H', J', q⟩ := hsp
      exact ⟨σ', H', J'.ofTry ok, q⟩
    | cont =>
      obtain ⟨σ', H', J', q⟩ := hsp
      exact ⟨σ', H', J'.ofTry ok, q⟩
    | ret u =>
      obtain ⟨v, σ', H', J', r, q⟩ := hsp
      exact ⟨v, σ', H', J'.ofTry ok, r, q⟩
end
end K01
/-! ## C1 -/
set_option Elab.async false
set_option linter.all false
set_option maxRecDepth 100000
set_option maxHeartbeats 4000000
namespace K01
open PySem L2 ErrK
/-- a def that may be called by its name -/
structure Cl (P : Program) (w : World) (K : PySem.W.Frag) (mg : Str → Option Value) (base : Heap) (CX : CXT) (k : Nat) (x : Str) (sp : Sp) : Prop where
  ex : ∃ (f : Addr) (fd : FuncData) (ps : List Str), FnOk P w K mg base CX k f fd ps sp ∧ mg x = some (.ref f) ∧ PySem.W.keepIn K (.ref f) = true ∧ Binds K fd ps []
theorem pe_cl {X : Cx} {CX : CXT} {k j : Nat} {x : Str} {sp : Sp} {E : XK} {e : Expr} {es : List Expr} {t : TA} {p pos : Pos} (c : Cl X.prog X.w X.K X.mg X.base CX k x sp) (hr : Room j X.A) (hk : k ≤ j) (hx : Passes CX X E) (ha : PA X (e :: es) t) (hg : Gl X x := by rfl)
    (hdb : (x == ("__debug__" : Str)) = false := by decide) (he : starEach (e :: es) X.env = (false, eval e X.env) :: starEach es X.env := by rfl) (hpl : (backTo pos (starEach es X.env)).any (·.1) = false := by rfl) :
    PE X (.Call (.Name x p) (e :: es) [] pos) (tCall sp [] E t) := by
  obtain ⟨f, fd, ps, F, hm, kp, b⟩ := c.ex
  exact pe_call F (hr.mono hk) hg hm kp b .nil hx ha hdb he hpl
theorem any_same {K : PySem.W.Frag} {H H' : Hp} {x : V} (s : Same H H') (h : Any K H x) : Any K H' x := by
  rcases h with h | ⟨n, hn, ty⟩
  · exact .inl h
  · exact .inr ⟨n, hn, tyx_same s ty⟩
theorem sqT_same {K : PySem.W.Frag} {H H' : Hp} {a : Addr} {xs : List V} (s : Same H H') (h : SqT K H a xs) : SqT K H' a xs := by
  rcases h with (h | ⟨o, h⟩) | h
  · exact .inl (.inl (s _ _ h))
  · exact .inl (.inr ⟨o, s _ _ h⟩)
  · exact .inr h
def SqA (K : PySem.W.Frag) (H : Hp) (a : Addr) (xs : List V) : Prop := SqL K H a xs ∨ SqT K H a xs
theorem sqA_same {K : PySem.W.Frag} {H H' : Hp} {a : Addr} {xs : List V} (s : Same H H') (h : SqA K H a xs) : SqA K H' a xs := h.elim (fun q => .inl (s.seq q)) fun q => .inr (sqT_same s q)
theorem ty_sqL {K : PySem.W.Frag} {H : Hp} {a : Addr} {xs : List V} (h : SqL K H a xs) : TyX K H (.ref a) (.type "list") := by
  rcases h with (h | ⟨o, h⟩) | ⟨o, its, n, h, c, _⟩
  · exact .base (.lst h)
  · exact .base (.frz h)
  · exact .kList h c
theorem ty_sqT {K : PySem.W.Frag} {H : Hp} {a : Addr} {xs : List V} (h : SqT K H a xs) : TyX K H (.ref a) (.type "tuple") := by
  rcases h with (h | ⟨o, h⟩) | ⟨o, its, n, h, c, _⟩
  · exact .base (.tup h)
  · exact .fTuple h
  · exact .kTuple h c
theorem ty_sqA {K : PySem.W.Frag} {H : Hp} {a : Addr} {xs : List V} (h : SqA K H a xs) : ∃ n, TyX K H (.ref a) (.type n) ∧ n ∈ kinds ∧ seqK n = true := by
  rcases h with h | h
  · exact ⟨"list", ty_sqL h, by decide, rfl⟩
  · exact ⟨"tuple", ty_sqT h, by decide, rfl⟩
theorem tru_sqA {K : PySem.W.Frag} {H : Hp} {a : Addr} {xs : List V} (h : SqA K H a xs) : TruV K (.ref a) H (!xs.isEmpty) := by
  rcases h with h | h
  · exact .inl ⟨xs, h, rfl⟩
  · exact .inr (.inl ⟨xs, h, rfl⟩)
/-- the first that is no word, or stood before -/
def badFrom (seen : List V) (i : Nat) : List V → Option Nat
  | [] => none
  | x :: r => if isW x = false ∨ x ∈ seen then some i else badFrom (seen ++ [x]) (i + 1) r
def badV (xs : List V) : Option Nat := if xs.isEmpty then some 0 else badFrom [] 0 xs
theorem badFrom_step {pre : List V} {x : V} {r : List V} {i : Nat} : badFrom pre i (x :: r) = if isW x = false ∨ x ∈ pre then some i else badFrom (pre ++ [x]) (i + 1) r := rfl
/-- raised: an error of the class at C whose field f holds v, all else as it was -/
def Rs (H : Hp) (E : XK) (C : Addr) (f : Str) (v : V) : Prop := ∀ (H' : Hp) (d : Addr), Same H H' → H d = none → H' d = some (.xd [(f, v)]) → E (.ref C) (some d) H'
theorem Rs.at {H H1 : Hp} {E : XK} {C : Addr} {f : Str} {v : V} (r : Rs H E C f v) (s : Same H H1) : Rs H1 E C f v := fun H' d s' n e => r H' d (s.trans s') (s.free n) e
def spValues (K : PySem.W.Frag) (C : Addr) : Sp := fun vs H Q E => ∃ x : V, vs = [x] ∧
  ((∃ n, TyX K H x (.type n) ∧ (n = "str" ∨ n ∈ kinds) ∧ seqK n = false ∧ Rs H E C "index" (.int 0)) ∨
   (∃ p xs, x = .ref p ∧ SqA K H p xs ∧ xs.length ≤ 1000 ∧ (∀ y ∈ xs, Any K H y) ∧ (∀ i, badV xs = some i → Rs H E C "index" (.int (i : Nat))) ∧ (badV xs = none → ∀ H', Same H H' → Q .non H')))
/-- the set of what was seen -/
def SeenK (xs : List V) : Key → Bool := fun k => decide (kV k ∈ xs)
theorem seen_nil : SeenK [] = fun _ => false := by
  funext k
  simp [SeenK]
theorem kV_inj {a b : Key} (h : kV a = kV b) : a = b := by
  cases a <;> cases b <;> cases h <;> rfl
theorem seen_snoc (xs : List V) (k : Key) : (fun j => SeenK xs j || decide (j = k)) = SeenK (xs ++ [kV k]) := by
  funext j
  have e : decide (kV j ∈ xs ++ [kV k]) = (decide (kV j ∈ xs) || decide (j = k)) := by
    rw [← Bool.decide_or]
    apply decide_eq_decide.mpr
    rw [List.mem_append, List.mem_singleton]
    exact ⟨fun h => h.elim .inl fun q => .inr (kV_inj q), fun h => h.elim .inl fun q => .inr (by rw [q])⟩
  exact e.symm
section
variable {P : Program} {w : World} {K : PySem.W.Frag} {mg : Str → Option Value} {base : Heap} {f : Addr} {fd : FuncData} {CV : Addr}
theorem scValues : FnScope ["values", "seen", "index", "value"] ["values"] (defScope sValues) := ⟨rfl, rfl, rfl, by decide +kernel, rfl, by decide +kernel, by decide +kernel⟩
theorem isW_str {x : V} (h : isW x = true) : ∃ z, x = .str z := by
  cases x with
  | str z => exact ⟨z, rfl⟩
  | _ => cases h
/-- behind i items nothing was bad -/
theorem bad_go {xs : List V} {i : Nat} {x : V} (hi : xs[i]? = some x) : badFrom (xs.take i) i (xs.drop i) = if isW x = false ∨ x ∈ xs.take i then some i else badFrom (xs.take (i + 1)) (i + 1) (xs.drop (i + 1)) := by
  obtain ⟨hl, e⟩ := List.getElem?_eq_some_iff.mp hi
  rw [List.drop_eq_getElem_cons hl, e, badFrom_step, List.take_succ, hi]
  rfl
theorem ok_values (F : Fun K "check_values" "check_values" sValues f fd) (cW : Cl P w K mg base CX0 1 "is_word" (spWord K)) (cL : Cl P w K mg base CX0 1 "is_list" (spIsList K)) (T : Err P w K mg base "BadValues" "index" CV) (gS : mg "set" = none) (gE : mg "enumerate" = none) :
    FnOk P w K mg base (L2.CX P w) 3 f fd ["values"] (spValues K CV) := by
  refine F.okX scValues (fun vs H Q E h => ?_) (fun cdv A outer s H vs Q E hr h => ?_)
  · obtain ⟨x, rfl, _⟩ := h
    rfl
  · obtain ⟨x, rfl, h⟩ := h
    refine ⟨_, pss_cons (ps_if (PW.pt (pw_or (pt_not (pt_val (pe_cl cL hr (by decide) pass0 (pa_cons (pv 0) pa_nil)))) (pw_or1 (pt_not (pt_truth (pv 0) (by intro _; rfl))))))
        (pss_one (ps_raise rfl (takes_of rfl rfl rfl rfl) (pmk_err T hr pe_int))) pss_nil)
      (pss_cons (ps_set (i := 1) scValues.nd rfl (Or.inl rfl) (pe_callTy0 cr_set0K (by rfl) gS (by decide +kernel)))
      (pss_one (ps_for (passes_of rfl) rfl (pi_enum2 (by rfl) gE (pa_cons (pv 0) pa_nil)) (pg_tup (by rfl) (pgs_cons (pg_name (i := 2) scValues.nd rfl (Or.inl rfl)) (pgs_cons (pg_name (i := 3) scValues.nd rfl (Or.inl rfl)) pgs_nil)))
        (pss_cons (ps_if (PW.pt (pw_or (pt_not (pt_val (pe_cl cW hr (by decide) pass0 (pa_cons (pv 3) pa_nil)))) (pw_or1 (pt_cmpR or_sinK (pv 3) (pv 1) rfl))))
            (pss_one (ps_raise rfl (takes_of rfl rfl rfl rfl) (pmk_err T hr (pv 2)))) pss_nil)
          (pss_one (ps_expr (pe_saddK (pv 1) (pa_cons (pv 3) pa_nil)))))))), ?_⟩
    have same_new : ∀ {H1 : Hp} {d : Addr} {o : HO}, H1 d = none → Same H1 (upd H1 d o) := fun {H1 d o} nd b u e => up_new nd e
    rcases h with ⟨n, ty, hn, sk, r0⟩ | ⟨p, xs, rfl, hx, hl, hany, rb, k⟩
    · refine ⟨_, rfl, x, n, rfl, ty, hn, fun H1 s1 => ⟨false, by rw [sk], ?_⟩⟩
      refine iteT (iteT ?_)
      exact err_end fun d nd => r0 _ d (s1.trans (same_new nd)) (s1.free nd) upd_same
    · obtain ⟨n, ty, hn, sk⟩ := ty_sqA hx
      refine ⟨_, rfl, .ref p, n, rfl, ty, .inr hn, fun H1 s1 => ⟨true, by rw [sk], ?_⟩⟩
      refine iteF ⟨_, rfl, _, tru_sqA (sqA_same s1 hx), ?_⟩
      cases xs with
      | nil =>
        refine iteT ?_
        exact err_end fun d nd => rb 0 rfl _ d (s1.trans (same_new nd)) (s1.free nd) upd_same
      | cons x0 r0 =>
        refine iteF ?_
        have hx1 := sqA_same s1 hx
        have eb : badV (x0 :: r0) = badFrom [] 0 (x0 :: r0) := rfl
        obtain ⟨xs, exs⟩ : ∃ xs, xs = x0 :: r0 := ⟨_, rfl⟩
        rw [← exs] at hx hx1 hl hany rb k eb
        clear exs
        refine ⟨rfl, fun S nS => ?_⟩
        -- behind i turns
        let Pv : Nat → St → Hp → Prop := fun i σ H2 => ∃ (o2 o3 : Option V), σ = [some (.ref p), some (.ref S), o2, o3] ∧ Same H1 H2 ∧ H1 S = none ∧ H2 S = some (SetK P w S (SeenK (xs.take i)) i) ∧ badFrom [] 0 xs = badFrom (xs.take i) i (xs.drop i)
        have h0 : Pv 0 [some (.ref p), some (.ref S), none, none] (upd H1 S (SetK P w S (fun _ => false) 0)) := ⟨none, none, rfl, same_new nS, nS, by rw [upd_same, List.take_zero, seen_nil], by rw [List.take_zero, List.drop_zero]⟩
        have hS0 : Same H1 (upd H1 S (SetK P w S (fun _ => false) 0)) := same_new nS
        refine ⟨_, rfl, ?_⟩
        rcases hx1 with hq | hq
        · refine .inl ⟨p, xs, rfl, hS0.seq hq, for_it walk_enum Pv h0 (fun i σ H2 _ q => by obtain ⟨_, _, _, sm, _⟩ := q; exact sm.seq hq) ?_ ?_⟩
          · rintro i v σ H2 H3 hi ⟨o2, o3, rfl, sm, nS1, hS, eq⟩ ⟨T, y, z, rfl, nT, rfl, e1, e2⟩
            obtain rfl : V.int (i : Nat) = y := Option.some.inj e1
            refine ⟨T, _, rfl, .inl (.inl upd_same), rfl, ?_⟩
            have hz : z ∈ xs := List.mem_of_getElem? e2
            have smT : Same H2 (upd H2 T (.tup [V.int (i : Nat), z])) := same_new nT
            refine ⟨_, _, rfl, _, _, rfl, rfl, _, rfl, z, rfl, any_same (s1.trans (sm.trans smT)) (hany z hz), fun H4 s4 => ?_⟩
            have s14 : Same H1 H4 := sm.trans (smT.trans s4)
            have hS4 : H4 S = some (SetK P w S (SeenK (xs.take i)) i) := s4 _ _ (smT _ _ hS)
            have go := bad_go e2
            rw [eb, eq] at rb
            by_cases hw : isW z = true
            · refine ⟨true, by rw [hw], iteF ?_⟩
              obtain ⟨zz, rfl⟩ := isW_str hw
              refine ⟨_, rfl, _, rfl, Sum.inr zz, S, _, _, rfl, rfl, hS4, _, rfl, ?_⟩
              refine ite2 (fun q1 => ?_) (fun q1 => ?_)
              · have hm : V.str zz ∈ xs.take i := of_decide_eq_true (show SeenK (xs.take i) (Sum.inr zz) = true from q1)
                refine ⟨_, rfl, err_end fun d nd => rb i ?_ _ d ((s1.trans s14).trans (same_new nd)) ((s1.trans s14).free nd) upd_same⟩
                rw [go, if_pos (.inr hm)]
              · have hm : V.str zz ∉ xs.take i := fun z => q1 (show SeenK (xs.take i) (Sum.inr zz) = true from decide_eq_true z)
                refine ⟨_, rfl, ⟨S, _, _, rfl, hS4⟩, _, rfl, S, Sum.inr zz, _, _, rfl, rfl, hS4, ?_, _, _, rfl, fun b o e => ?_, nS1, ?_, ?_⟩
                · show i + 1 < 4096
                  omega
                · rw [upd_ne (ne_of_none e nS1)]
                  exact s14 b o e
                · rw [upd_same, seen_snoc]
                  have e3 : SeenK (xs.take i) (Sum.inr zz) = false := decide_eq_false hm
                  have e2' : xs[i]? = some (V.str zz) := e2
                  rw [e3, List.take_succ, e2']
                  rfl
                · rw [eq, go, if_neg]
                  rintro (z1 | z1)
                  · rw [hw] at z1
                    cases z1
                  · exact hm z1
            · have hw2 : isW z = false := by simpa using hw
              refine ⟨false, by rw [hw2], iteT (iteT ?_)⟩
              refine ⟨_, rfl, err_end fun d nd => rb i ?_ _ d ((s1.trans s14).trans (same_new nd)) ((s1.trans s14).free nd) upd_same⟩
              rw [go, if_pos (.inl hw2)]
          · rintro σ H2 ⟨o2, o3, rfl, sm, _, hS, eq⟩
            rw [List.take_of_length_le (Nat.le_refl _), List.drop_length] at eq
            exact k (eb.trans eq) H2 (s1.trans sm)
        · refine .inr ⟨p, xs, rfl, sqT_same hS0 hq, for_it walk_enumT Pv h0 (fun i σ H2 _ q => by obtain ⟨_, _, _, sm, _⟩ := q; exact sqT_same sm hq) ?_ ?_⟩
          · rintro i v σ H2 H3 hi ⟨o2, o3, rfl, sm, nS1, hS, eq⟩ ⟨T, y, z, rfl, nT, rfl, e1, e2⟩
            obtain rfl : V.int (i : Nat) = y := Option.some.inj e1
            refine ⟨T, _, rfl, .inl (.inl upd_same), rfl, ?_⟩
            have hz : z ∈ xs := List.mem_of_getElem? e2
            have smT : Same H2 (upd H2 T (.tup [V.int (i : Nat), z])) := same_new nT
            refine ⟨_, _, rfl, _, _, rfl, rfl, _, rfl, z, rfl, any_same (s1.trans (sm.trans smT)) (hany z hz), fun H4 s4 => ?_⟩
            have s14 : Same H1 H4 := sm.trans (smT.trans s4)
            have hS4 : H4 S = some (SetK P w S (SeenK (xs.take i)) i) := s4 _ _ (smT _ _ hS)
            have go := bad_go e2
            rw [eb, eq] at rb
            by_cases hw : isW z = true
            · refine ⟨true, by rw [hw], iteF ?_⟩
              obtain ⟨zz, rfl⟩ := isW_str hw
              refine ⟨_, rfl, _, rfl, Sum.inr zz, S, _, _, rfl, rfl, hS4, _, rfl, ?_⟩
              refine ite2 (fun q1 => ?_) (fun q1 => ?_)
              · have hm : V.str zz ∈ xs.take i := of_decide_eq_true (show SeenK (xs.take i) (Sum.inr zz) = true from q1)
                refine ⟨_, rfl, err_end fun d nd => rb i ?_ _ d ((s1.trans s14).trans (same_new nd)) ((s1.trans s14).free nd) upd_same⟩
                rw [go, if_pos (.inr hm)]
              · have hm : V.str zz ∉ xs.take i := fun z => q1 (show SeenK (xs.take i) (Sum.inr zz) = true from decide_eq_true z)
                refine ⟨_, rfl, ⟨S, _, _, rfl, hS4⟩, _, rfl, S, Sum.inr zz, _, _, rfl, rfl, hS4, ?_, _, _, rfl, fun b o e => ?_, nS1, ?_, ?_⟩
                · show i + 1 < 4096
                  omega
                · rw [upd_ne (ne_of_none e nS1)]
                  exact s14 b o e
                · rw [upd_same, seen_snoc]
                  have e3 : SeenK (xs.take i) (Sum.inr zz) = false := decide_eq_false hm
                  have e2' : xs[i]? = some (V.str zz) := e2
                  rw [e3, List.take_succ, e2']
                  rfl
                · rw [eq, go, if_neg]
                  rintro (z1 | z1)
                  · rw [hw] at z1
                    cases z1
                  · exact hm z1
            · have hw2 : isW z = false := by simpa using hw
              refine ⟨false, by rw [hw2], iteT (iteT ?_)⟩
              refine ⟨_, rfl, err_end fun d nd => rb i ?_ _ d ((s1.trans s14).trans (same_new nd)) ((s1.trans s14).free nd) upd_same⟩
              rw [go, if_pos (.inl hw2)]
          · rintro σ H2 ⟨o2, o3, rfl, sm, _, hS, eq⟩
            rw [List.take_of_length_le (Nat.le_refl _), List.drop_length] at eq
            exact k (eb.trans eq) H2 (s1.trans sm)
end
end K01
/-! ## C2 -/
set_option Elab.async false
set_option linter.all false
set_option maxRecDepth 100000
set_option maxHeartbeats 4000000
namespace K01
open PySem L2 ErrK
abbrev sLeadsV : Stmt := tp 14
def isV (x : V) (zs : List Str) : Bool := decide (x ∈ zs.map V.str)
theorem odd_str2 {K : PySem.W.Frag} {H : Hp} {z : Str} (h : Odd K H (.str z)) : False := by
  obtain ⟨n, hn, ty⟩ := h
  cases ty with
  | base q =>
    cases q
    simp [kinds] at hn
theorem odd_isV {K : PySem.W.Frag} {H : Hp} {x : V} (h : Odd K H x) (zs : List Str) : isV x zs = false := by
  refine decide_eq_false fun m => ?_
  obtain ⟨z, _, rfl⟩ := List.mem_map.mp m
  exact odd_str2 h
theorem inV_str (z : Str) (zs : List Str) : inV (.str z) (zs.map V.str) = isV (.str z) zs := by
  unfold inV isV
  rw [List.any_map]
  induction zs with
  | nil => rfl
  | cons y r ih =>
    rw [List.any_cons, ih]
    have e : (eqV (V.str y) (V.str z)) = decide (y = z) := by
      unfold eqV
      first
        | rfl
        | (by_cases q : y = z <;> simp [q])
    show ((eqV (V.str y) (V.str z)) || _) = _
    rw [e, ← Bool.decide_or]
    apply decide_eq_decide.mpr
    simp only [List.map_cons, List.mem_cons, V.str.injEq]
    exact ⟨fun h => h.elim (fun q => .inl q.symm) .inr, fun h => h.elim (fun q => .inl q.symm) .inr⟩
theorem flat_strs (zs : List Str) : (zs.map V.str).all flatV = true := by
  rw [List.all_map]
  exact List.all_eq_true.mpr fun _ _ => rfl
def spIsValue (K : PySem.W.Frag) : Sp := fun vs H Q _ => ∃ (x : V) (p : Addr) (zs : List Str), vs = [x, .ref p] ∧ Any K H x ∧ SqA K H p (zs.map V.str) ∧ ∀ H', Same H H' → Q (.bl (isV x zs)) H'
section
variable {P : Program} {w : World} {K : PySem.W.Frag} {mg : Str → Option Value} {base : Heap} {f : Addr} {fd : FuncData}
theorem scIsValue : FnScope ["thing", "values"] ["thing", "values"] (defScope sIsValue) := ⟨rfl, rfl, rfl, by decide +kernel, rfl, by decide +kernel, by decide +kernel⟩
theorem ok_isValue (F : Fun K "is_value" "is_value" sIsValue f fd) (gI : mg "isinstance" = none) (gS : mg "str" = none) : FnOk P w K mg base CX0 1 f fd ["thing", "values"] (spIsValue K) := by
  refine F.ok scIsValue (fun vs H Q E h => ?_) (fun cdv A outer s H vs Q E hr h => ?_)
  · obtain ⟨x, p, zs, rfl, _⟩ := h
    rfl
  · obtain ⟨x, p, zs, rfl, any, hx, k⟩ := h
    refine ⟨_, pss_one (ps_ret (pe_and (pe_callB call_isi (by rfl) gI (by decide +kernel) (pa_cons (pv 0) (pa_cons (pe_bltn (v := .ty "str") (by rfl) gS (by decide +kernel) rfl) pa_nil))) (pe_one (pe_cmpR op_in_seq (pv 0) (pv 1) rfl)))), ?_⟩
    rcases any with ⟨z, rfl, hz⟩ | odd
    · refine ⟨_, rfl, .str z, .ty "str", _, _, true, rfl, .ty "str", .base (.str z), kit_ty (by decide +kernel), true, rfl, iteT ?_⟩
      refine ⟨_, rfl, _, rfl, p, _, rfl, hx, rfl, flat_strs zs, ?_⟩
      have e := k H (Same.refl H)
      rw [← inV_str] at e
      exact e
    · obtain ⟨n, hn, ty⟩ := id odd
      refine ⟨_, rfl, x, .ty "str", _, _, false, rfl, .ty "str", ty, kit_ty (odd_str hn), false, rfl, iteF ?_⟩
      have e := k H (Same.refl H)
      rw [odd_isV odd] at e
      exact e
end
/-- all keys and all leads are values -/
def leadsB (kvs : List (Key × V)) (zs : List Str) : Bool := kvs.all fun q => isV (kV q.1) zs && isV q.2 zs
theorem valV_mem {kvs : List (Key × V)} (nd : (kvs.map (·.1)).Nodup) : ∀ {q : Key × V}, q ∈ kvs → valV kvs q.1 = some q.2 := by
  induction kvs with
  | nil => intro q h; cases h
  | cons p r ih =>
    intro q h
    rw [List.map_cons, List.nodup_cons] at nd
    rcases List.mem_cons.mp h with e | h
    · rw [e]
      exact valV_pos rfl
    · rw [valV_neg (fun z => nd.1 (by rw [z]; exact List.mem_map.mpr ⟨q, h, rfl⟩))]
      exact ih nd.2 h
/-- a dict held: kinds stay -/
theorem tyx_lock {K : PySem.W.Frag} {H : Hp} {d : Addr} {kvs : List (Key × V)} {o : Obj} {x : V} {t : Value} (e : H d = some (.dK kvs)) (h : TyX K H x t) : TyX K (upd H d (.frz o (.dK kvs))) x t := by
  have other : ∀ {a : Addr} {u : HO}, H a = some u → (∀ ks, u ≠ .dK ks) → upd H d (.frz o (.dK kvs)) a = some u := fun {a u} q n => by
    rw [upd_ne (fun z => by rw [z, e] at q; cases q; exact n _ rfl)]
    exact q
  cases h with
  | base q =>
    cases q with
    | non => exact .base .non
    | bl y => exact .base (.bl y)
    | int i => exact .base (.int i)
    | str y => exact .base (.str y)
    | flt y => exact .base (.flt y)
    | lst q => exact .base (.lst (other q fun _ z => by cases z))
    | frz q => exact .base (.frz (other q fun _ z => by cases z))
    | tup q => exact .base (.tup (other q fun _ z => by cases z))
    | @dK a ks q =>
      by_cases z : a = d
      · rw [z]
        exact .fDict upd_same
      · exact .base (.dK (by rw [upd_ne z]; exact q))
    | dT q => exact .base (.dT (other q fun _ z => by cases z))
    | ins q cl ha hn htk hm => exact .base (.ins (other q fun _ z => by cases z) cl ha hn htk hm)
  | byt b => exact .byt b
  | set q => exact .set (other q fun _ z => by cases z)
  | kList q c => exact .kList q c
  | kTuple q c => exact .kTuple q c
  | kDict q c => exact .kDict q c
  | fTuple q => exact .fTuple (other q fun _ z => by cases z)
  | fDict q => exact .fDict (other q fun _ z => by cases z)
theorem any_lock {K : PySem.W.Frag} {H : Hp} {d : Addr} {kvs : List (Key × V)} {o : Obj} {x : V} (e : H d = some (.dK kvs)) (h : Any K H x) : Any K (upd H d (.frz o (.dK kvs))) x := by
  rcases h with h | ⟨n, hn, ty⟩
  · exact .inl h
  · exact .inr ⟨n, hn, tyx_lock e ty⟩
theorem sqA_upd {K : PySem.W.Frag} {H : Hp} {d p : Addr} {u o : HO} {xs : List V} (e : H d = some u) (hu : (∀ ys, u ≠ .lst ys) ∧ (∀ ys, u ≠ .tup ys) ∧ ∀ q v, u ≠ .frz q v) (h : SqA K H p xs) : SqA K (upd H d o) p xs := by
  have other : ∀ {v : HO}, H p = some v → v ≠ u → upd H d o p = some v := fun {v} q n => by
    rw [upd_ne (fun z => by rw [z, e] at q; exact n (Option.some.inj q).symm)]
    exact q
  rcases h with ((h | ⟨b, h⟩) | h) | ((h | ⟨b, h⟩) | h)
  · exact .inl (.inl (.inl (other h fun z => hu.1 _ z.symm)))
  · exact .inl (.inl (.inr ⟨b, other h fun z => hu.2.2 _ _ z.symm⟩))
  · exact .inl (.inr h)
  · exact .inr (.inl (.inl (other h fun z => hu.2.1 _ z.symm)))
  · exact .inr (.inl (.inr ⟨b, other h fun z => hu.2.2 _ _ z.symm⟩))
  · exact .inr (.inr h)
/-- a lead: no dict, or one of these keys and values -/
def LeadAt (K : PySem.W.Frag) (H : Hp) (x : V) (kvs : Option (List (Key × V))) : Prop :=
  match kvs with
  | none => ∃ n, TyX K H x (.type n) ∧ (n = "str" ∨ n ∈ kinds) ∧ n ≠ "dict"
  | some kvs => ∃ d, x = .ref d ∧ H d = some (.dK kvs) ∧ kvs.length ≤ 1000 ∧ (kvs.map (·.1)).Nodup ∧ ∀ q ∈ kvs, Any K H (kV q.1) ∧ Any K H q.2
def leadB (l : Option (List (Key × V))) (zs : List Str) : Bool :=
  match l with
  | none => false
  | some kvs => leadsB kvs zs
def spLeadsV (K : PySem.W.Frag) : Sp := fun vs H Q _ => ∃ (x : V) (p : Addr) (zs : List Str) (l : Option (List (Key × V))), vs = [x, .ref p] ∧ SqA K H p (zs.map V.str) ∧ LeadAt K H x l ∧ ∀ H', Same H H' → Q (.bl (leadB l zs)) H'
theorem str_dict : kitB "str" "dict" = some false := by decide +kernel
theorem odd_dict {n : String} (h : n ∈ kinds) : kitB n "dict" = some (decide (n = "dict")) := by
  simp only [kinds, List.mem_cons, List.not_mem_nil, or_false] at h
  rcases h with rfl | rfl | rfl | rfl | rfl | rfl <;> decide +kernel
section
variable {P : Program} {w : World} {K : PySem.W.Frag} {mg : Str → Option Value} {base : Heap} {f : Addr} {fd : FuncData}
theorem scLeadsV : FnScope ["table", "values", "value"] ["table", "values"] (defScope sLeadsV) := ⟨rfl, rfl, rfl, by decide +kernel, rfl, by decide +kernel, by decide +kernel⟩
theorem ok_leadsV (F : Fun K "leads_values" "leads_values" sLeadsV f fd) (cV : Cl P w K mg base CX0 1 "is_value" (spIsValue K)) (gI : mg "isinstance" = none) (gD : mg "dict" = none) (gA : mg "all" = none) : FnOk P w K mg base CX0 2 f fd ["table", "values"] (spLeadsV K) := by
  refine F.ok scLeadsV (fun vs H Q E h => ?_) (fun cdv A outer s H vs Q E hr h => ?_)
  · obtain ⟨x, p, zs, l, rfl, _⟩ := h
    rfl
  · obtain ⟨x, p, zs, l, rfl, hx, la, k⟩ := h
    have hu := hu_of hr
    refine ⟨_, pss_cons (ps_if (pt_not (pt_val (pe_callB call_isi (by rfl) gI (by decide +kernel) (pa_cons (pv 0) (pa_cons (pe_bltn (v := .ty "dict") (by rfl) gD (by decide +kernel) rfl) pa_nil)))))
        (pss_one (ps_ret pe_bl)) pss_nil)
      (pss_one (ps_ret (pe_callB (cr_all rfl) (by rfl) gA (by decide +kernel) (pa_cons (pe_lock (pe_lc (own := [("value", 2)]) (g := gName 2) (tt := tYes) rfl scLeadsV.nd (pi_keys (pv 0)) (blkOk_by (N := ["table", "values", "value"]) (sc := defScope sLeadsV) (by decide +kernel))
        (fun _ _ _ _ _ => pg_name (i := 2) scLeadsV.nd rfl (Or.inl rfl)) (fun _ _ _ _ _ => pts_nil)
        (fun _ _ _ _ _ => pe_and (pe_cl cV hr (by decide) pass0 (pa_cons (pv 2) (pa_cons (pv 1) pa_nil))) (pe_one (pe_cl cV hr (by decide) pass0 (pa_cons (pe_dget hu (pv 0) (pv 2) (fun _ _ => rfl)) (pa_cons (pv 1) pa_nil))))))) pa_nil)))), ?_⟩
    cases l with
    | none =>
      obtain ⟨n, ty, hn, nd⟩ := la
      have e := k H (Same.refl H)
      rcases hn with rfl | hn
      · exact ⟨_, rfl, x, .ty "dict", _, _, false, rfl, .ty "dict", ty, kit_ty str_dict, false, rfl, iteT e⟩
      · have q := odd_dict hn
        rw [decide_eq_false nd] at q
        exact ⟨_, rfl, x, .ty "dict", _, _, false, rfl, .ty "dict", ty, kit_ty q, false, rfl, iteT e⟩
    | some kvs =>
      obtain ⟨d, rfl, hd, hl, nd, hq⟩ := la
      refine ⟨_, rfl, .ref d, .ty "dict", _, _, true, rfl, .ty "dict", .base (.dK hd), kit_ty (by decide +kernel), true, rfl, iteF ?_⟩
      refine ⟨d, _, hd, True.intro, fun od => ?_⟩
      refine ⟨_, rfl, d, od, rfl, .inl ⟨kvs, upd_same, fun D nD => ?_⟩⟩
      have ndD : D ≠ d := fun z => by rw [z, upd_same] at nD; cases nD
      have nD0 : H D = none := by rw [upd_ne ndD] at nD; exact nD
      refine lc_it walk_keys (fun i H2 => Same (upd H d (.frz od (.dK kvs))) H2 ∧ H2 D = some (.lst ((kvs.take i).map fun q => V.bl (isV (kV q.1) zs && isV q.2 zs)))) ⟨fun b o e => up_new nD e, upd_same⟩ (fun i H2 _ q => q.1 _ _ upd_same) ?_ ?_
      · rintro i x H1 H2 hi ⟨sm, hD⟩ ⟨rfl, k0, v, e, rfl⟩
        have mem : (k0, v) ∈ kvs := List.mem_of_getElem? e
        have push : ∀ (H3 : Hp) (b : Bool), Same H2 H3 → b = (isV (kV k0) zs && isV v zs) → ∃ acc, H3 D = some (.lst acc) ∧ acc.length < sizeLine ∧ Same (upd H d (.frz od (.dK kvs))) (upd H3 D (.lst (acc ++ [.bl b]))) ∧
            upd H3 D (.lst (acc ++ [.bl b])) D = some (.lst ((kvs.take (i + 1)).map fun q => V.bl (isV (kV q.1) zs && isV q.2 zs))) := fun H3 b s3 eb => by
          refine ⟨_, s3 _ _ hD, ?_, fun c o q => ?_, ?_⟩
          · rw [List.length_map, List.length_take]
            exact Nat.lt_of_le_of_lt (Nat.min_le_right _ _) (Nat.lt_of_le_of_lt hl (by decide))
          · rw [upd_ne (ne_of_none q nD)]
            exact s3 _ _ (sm _ _ q)
          · rw [upd_same, List.take_succ, e, List.map_append, eb]
            rfl
        refine ⟨rfl, ?_⟩
        unfold tYes
        dsimp only
        rw [if_pos rfl]
        have sxl : SqA K (upd H d (.frz od (.dK kvs))) p (zs.map V.str) := sqA_upd hd ⟨fun _ z => (by cases z), fun _ z => (by cases z), fun _ _ z => (by cases z)⟩ hx
        refine ⟨_, rfl, _, rfl, kV k0, p, zs, rfl, any_same sm (any_lock hd (hq _ mem).1), sqA_same sm sxl, fun H3 s3 => ⟨_, rfl, ?_⟩⟩
        refine ite2 (fun q1 => ?_) (fun q1 => ?_)
        · refine ⟨_, rfl, _, rfl, d, v, rfl, .inl ⟨kvs, k0, .inr ⟨od, s3 _ _ (sm _ _ upd_same)⟩, rfl, (valV_mem nd mem).symm⟩, _, rfl, v, p, zs, rfl, any_same (sm.trans s3) (any_lock hd (hq _ mem).2), sqA_same (sm.trans s3) sxl, fun H4 s4 => ?_⟩
          exact push H4 _ (s3.trans s4) (by rw [q1, Bool.true_and])
        · have q2 : isV (kV k0) zs = false := by simpa using q1
          exact push H3 false s3 (by rw [q2, Bool.false_and])
      · rintro H1 ⟨sm, hD⟩
        rw [List.take_of_length_le (Nat.le_refl _)] at hD
        refine ⟨sm _ _ upd_same, D, kvs.map fun q => isV (kV q.1) zs && isV q.2 zs, rfl, SqL.of (by rw [upd_ne ndD, hD, List.map_map]; rfl), ?_⟩
        have e := k (upd H1 d (.dK kvs)) fun b o q => by
          by_cases z : b = d
          · rw [z, hd] at q
            rw [z, upd_same, q]
          · rw [upd_ne z]
            exact sm _ _ (by rw [upd_ne z]; exact q)
        have e2 : leadB (some kvs) zs = (kvs.map fun q => isV (kV q.1) zs && isV q.2 zs).all id := by
          rw [List.all_map]
          rfl
        rw [e2] at e
        exact e
end
end K01
/-! ## C3 -/
set_option Elab.async false
set_option linter.all false
set_option maxRecDepth 100000
set_option maxHeartbeats 4000000
namespace K01
open PySem L2 ErrK
abbrev sDeeds : Stmt := tp 15
abbrev sEntries : Stmt := tp 16
/-- all but d stays that was there -/
def But1 (d : Addr) (H H' : Hp) : Prop := ∀ b o, b ≠ d → H b = some o → H' b = some o
/-- a dict's keys and worths -/
inductive Tab (w : World) (H : Hp) (d : Addr) : List (V × V) → Prop
  | k {kvs : List (Key × V)} : H d = some (.dK kvs) → (kvs.map (·.1)).Nodup → Tab w H d (kvs.map fun q => (kV q.1, q.2))
  | m {kvs : List VEnt} : H d = some (MixO w d kvs) → KeysAt H kvs → Tab w H d (kvs.map fun q => (q.2.1, q.2.2))
/-- the same, held -/
inductive TabF (w : World) (o : Obj) (H : Hp) (d : Addr) : List (V × V) → Prop
  | k {kvs : List (Key × V)} : H d = some (.frz o (.dK kvs)) → (kvs.map (·.1)).Nodup → TabF w o H d (kvs.map fun q => (kV q.1, q.2))
  | m {kvs : List VEnt} : H d = some (.frz o (MixO w d kvs)) → KeysAt H kvs → TabF w o H d (kvs.map fun q => (q.2.1, q.2.2))
theorem Tab.mut {w : World} {H : Hp} {d : Addr} {ps : List (V × V)} (t : Tab w H d ps) : ∃ u, H d = some u ∧ Mut (some u) ∧ (∀ ys, u ≠ .lst ys) ∧ (∀ ys, u ≠ .tup ys) ∧ (∀ q v, u ≠ .frz q v) ∧ ∀ o, TabF w o (upd H d (.frz o u)) d ps := by
  cases t with
  | k h nd => exact ⟨_, h, True.intro, fun _ z => (by cases z), fun _ z => (by cases z), fun _ _ z => (by cases z), fun o => .k upd_same nd⟩
  | m h ks =>
    refine ⟨_, h, True.intro, fun _ z => (by cases z), fun _ z => (by cases z), fun _ _ z => (by cases z), fun o => .m upd_same fun q hq => (ks q hq).up2 fun b xs e => ?_⟩
    rw [upd_ne (fun z => by rw [z, h] at e; cases e)]
    exact e
theorem TabF.same {w : World} {o : Obj} {H H' : Hp} {d : Addr} {ps : List (V × V)} (t : TabF w o H d ps) (s : Same H H') : TabF w o H' d ps := by
  cases t with
  | k h nd => exact .k (s _ _ h) nd
  | m h ks => exact .m (s _ _ h) fun q hq => (ks q hq).up s
/-- what the walk gives -/
def YPs (ps : List (V × V)) : Nat → Hp → V → Hp → Prop := fun i H x H' => H' = H ∧ ∃ v, ps[i]? = some (x, v)
theorem tab_cases {w : World} {o : Obj} {H1 : Hp} {d : Addr} {ps : List (V × V)} (t : TabF w o H1 d ps) :
    (∃ kvs, H1 d = some (.frz o (.dK kvs)) ∧ Walk (Itk d o kvs) ps.length (fun H => H d = H1 d) (YPs ps)) ∨ ∃ kvs, H1 d = some (.frz o (MixO w d kvs)) ∧ Walk (ItM w d o kvs) ps.length (fun H => H d = H1 d) (YPs ps) := by
  cases t with
  | @k kvs h nd =>
    refine .inl ⟨kvs, h, ?_⟩
    rw [List.length_map]
    exact walk_keys.mono (fun H e => e.trans h) fun i H x H' _ _ y => by
      obtain ⟨e, k, v, e1, e2⟩ := y
      exact ⟨e, v, by rw [List.getElem?_map, e1, e2] <;> rfl⟩
  | @m kvs h ks =>
    refine .inr ⟨kvs, h, ?_⟩
    rw [List.length_map]
    exact walk_M.mono (fun H e => e.trans h) fun i H x H' _ _ y => by
      obtain ⟨e, p, e1, e2⟩ := y
      exact ⟨e, p.2.2, by rw [List.getElem?_map, e1, e2] <;> rfl⟩
theorem tab_get {w : World} {o : Obj} {H1 : Hp} {d : Addr} {ps : List (V × V)} {x v : V} (t : TabF w o H1 d ps) (hm : (x, v) ∈ ps) :
    DGet H1 d x (some v) ∨ ∃ o kvs k, H1 d = some (.frz o (MixO w d kvs)) ∧ KeysAt H1 kvs ∧ KeyAt H1 k x ∧ ∃ y', (k, y', v) ∈ kvs := by
  cases t with
  | @k kvs h nd =>
    obtain ⟨q, hq, e⟩ := List.mem_map.mp hm
    obtain ⟨e1, e2⟩ := Prod.mk.inj e
    refine .inl (.inl ⟨kvs, q.1, .inr ⟨o, h⟩, e1.symm, ?_⟩)
    rw [valV_mem nd hq, e2]
  | @m kvs h ks =>
    obtain ⟨q, hq, e⟩ := List.mem_map.mp hm
    obtain ⟨e1, e2⟩ := Prod.mk.inj e
    refine .inr ⟨o, kvs, q.1, h, ks, ?_, q.2.1, ?_⟩
    · rw [← e1]
      exact ks q hq
    · rw [← e2]
      exact hq
/-- an entry: key, worth, what is known of the worth -/
abbrev TEnt := V × V × Option (List (Key × V))
def lenB (l : Option (List (Key × V))) (n : Nat) : Bool := match l with
  | none => false
  | some kvs => decide (kvs.length = n)
def deedOk (zs : List Str) (e : TEnt) : Bool := isW e.1 && (leadB e.2.2 zs && lenB e.2.2 zs.length)
def entOk (zs : List Str) (kd : List (Key × V)) (e : TEnt) : Bool := isW e.1 && (!(decide (e.1 ∈ kd.map fun q => kV q.1)) && leadB e.2.2 zs)
def EntAt (K : PySem.W.Frag) (H : Hp) (e : TEnt) : Prop := Any K H e.1 ∧ (isW e.1 = true → LeadAt K H e.2.1 e.2.2)
def TabAt (w : World) (K : PySem.W.Frag) (H : Hp) (d : Addr) (es : List TEnt) : Prop := Tab w H d (es.map fun e => (e.1, e.2.1)) ∧ es.length ≤ 1000 ∧ ∀ e ∈ es, EntAt K (L2.del H d) e
/-- raised: d may be held -/
def RsB (H : Hp) (E : XK) (C : Addr) (d : Addr) (v : V) : Prop := ∀ (H' : Hp) (x : Addr), But1 d H H' → H x = none → H' x = some (.xd [("name", v)]) → E (.ref C) (some x) H'
def NoDict (K : PySem.W.Frag) (H : Hp) (x : V) : Prop := ∃ n, TyX K H x (.type n) ∧ (n = "str" ∨ n ∈ kinds) ∧ n ≠ "dict"
def spDeeds (w : World) (K : PySem.W.Frag) (C : Addr) : Sp := fun vs H Q E => ∃ (x : V) (p : Addr) (zs : List Str), vs = [x, .ref p] ∧ SqA K H p (zs.map V.str) ∧ zs.length ≤ 1000 ∧
  ((NoDict K H x ∧ Rs H E C "name" .non) ∨
   (∃ d es, x = .ref d ∧ TabAt w K H d es ∧ (∀ e, es.find? (fun e => !deedOk zs e) = some e → RsB H E C d e.1) ∧ (es.all (deedOk zs) = true → ∀ H', Same H H' → Q .non H')))
def spEntries (w : World) (K : PySem.W.Frag) (C : Addr) : Sp := fun vs H Q E => ∃ (x : V) (p dd : Addr) (zs : List Str) (kd : List (Key × V)), vs = [x, .ref p, .ref dd] ∧ SqA K H p (zs.map V.str) ∧ zs.length ≤ 1000 ∧ H dd = some (.dK kd) ∧
  ((NoDict K H x ∧ Rs H E C "name" .non) ∨
   (∃ d es, x = .ref d ∧ d ≠ dd ∧ TabAt w K H d es ∧ (∀ e, es.find? (fun e => !entOk zs kd e) = some e → RsB H E C d e.1) ∧ (es.all (entOk zs kd) = true → ∀ H', Same H H' → Q .non H')))
theorem find_go {α : Type} {p : α → Bool} {es : List α} {i : Nat} {e : α} (hi : es[i]? = some e) (pre : ∀ x ∈ es.take i, p x = true) :
    (p e = false → es.find? (fun x => !p x) = some e) ∧ (p e = true → ∀ x ∈ es.take (i + 1), p x = true) := by
  obtain ⟨hl, ee⟩ := List.getElem?_eq_some_iff.mp hi
  refine ⟨fun h => ?_, fun h x hx => ?_⟩
  · have e1 : es = es.take i ++ e :: es.drop (i + 1) := by rw [← ee, ← List.drop_eq_getElem_cons hl, List.take_append_drop]
    rw [e1, List.find?_append]
    have e2 : (es.take i).find? (fun x => !p x) = none := List.find?_eq_none.mpr fun x hx => by rw [pre x hx]; simp
    rw [e2, List.find?_cons, h]
    rfl
  · rw [List.take_succ, hi, List.mem_append] at hx
    rcases hx with hx | hx
    · exact pre x hx
    · have : x = e := by simpa using hx
      rw [this]
      exact h
theorem lead_same {K : PySem.W.Frag} {H H' : Hp} {x : V} {l : Option (List (Key × V))} (s : Same H H') (h : LeadAt K H x l) : LeadAt K H' x l := by
  cases l with
  | none =>
    obtain ⟨n, ty, r⟩ := h
    exact ⟨n, tyx_same s ty, r⟩
  | some kvs =>
    obtain ⟨d, e, hd, hl, nd, q⟩ := h
    exact ⟨d, e, s _ _ hd, hl, nd, fun r hr => ⟨any_same s (q r hr).1, any_same s (q r hr).2⟩⟩
theorem off_hold {H : Hp} {d : Addr} {o : HO} : Same (L2.del H d) (upd H d o) := fun b u e => by
  by_cases z : b = d
  · rw [z, L2.del_same] at e
    cases e
  · rw [upd_ne z]
    rw [L2.del_ne z] at e
    exact e
section
variable {P : Program} {w : World} {K : PySem.W.Frag} {mg : Str → Option Value} {base : Heap} {f : Addr} {fd : FuncData} {CD : Addr}
theorem scDeeds : FnScope ["deeds", "values", "name"] ["deeds", "values"] (defScope sDeeds) := ⟨rfl, rfl, rfl, by decide +kernel, rfl, by decide +kernel, by decide +kernel⟩
theorem nodict {n : String} (hn : n = "str" ∨ n ∈ kinds) (nd : n ≠ "dict") : PySem.W.kitOne K (.type n) (.type "dict") = some false := by
  rcases hn with rfl | hn
  · exact kit_ty str_dict
  · have q := odd_dict hn
    rw [decide_eq_false nd] at q
    exact kit_ty q
theorem tab_dict {H : Hp} {d : Addr} {ps : List (V × V)} {Q : VK} (t : Tab w H d ps) (q : Q (.bl true) H) : rIsiM K w [.ref d, .ty "dict"] H Q := by
  cases t with
  | k h _ => exact .inl ⟨_, _, _, _, true, rfl, .ty "dict", .base (.dK h), kit_ty (by decide +kernel), q⟩
  | m h _ => exact .inr ⟨d, _, rfl, h, q⟩
theorem ok_deeds (F : Fun K "check_deeds" "check_deeds" sDeeds f fd) (cW : Cl P w K mg base CX0 1 "is_word" (spWord K)) (cT : Cl P w K mg base CX0 2 "leads_values" (spLeadsV K)) (T : Err P w K mg base "BadDeeds" "name" CD)
    (gI : mg "isinstance" = none) (gD : mg "dict" = none) (gL : mg "len" = none) : FnOk P w K mg base (L2.CX P w) 3 f fd ["deeds", "values"] (spDeeds w K CD) := by
  refine F.okX scDeeds (fun vs H Q E h => ?_) (fun cdv A outer s H vs Q E hr h => ?_)
  · obtain ⟨x, p, zs, rfl, _⟩ := h
    rfl
  · obtain ⟨x, p, zs, rfl, hx, hz, h⟩ := h
    have hu : (A.deeper (PyProof.Rows.envOfC "check_deeds" (defScope sDeeds) s.heap.objs.size f cdv)).units + 16 < cLine := by
      have := hr.un
      omega
    refine ⟨_, pss_cons (ps_if (pt_not (pt_val (pe_callB call_isiM (by rfl) gI (by decide +kernel) (pa_cons (pv 0) (pa_cons (pe_bltn (v := .ty "dict") (by rfl) gD (by decide +kernel) rfl) pa_nil)))))
        (pss_one (ps_raise rfl (takes_of rfl rfl rfl rfl) (pmk_err T hr pe_non))) pss_nil)
      (pss_one (ps_lock (ps_for (passes_of rfl) rfl (pi_keysX (pv 0)) (pg_name (i := 2) scDeeds.nd rfl (Or.inl rfl))
        (pss_one (ps_if (PW.pt (pw_or (pt_not (pt_val (pe_cl cW hr (by decide) pass0 (pa_cons (pv 2) pa_nil))))
            (pw_or (pt_not (pt_val (pe_cl cT hr (by decide) pass0 (pa_cons (pe_dgetX2 hu (pv 0) (pv 2) (fun _ _ => rfl)) (pa_cons (pv 1) pa_nil)))))
            (pw_or1 (pt_cmpR op_ne (pe_callB call_lenD (by rfl) gL PySem.boot_len (pa_cons (pe_dgetX2 hu (pv 0) (pv 2) (fun _ _ => rfl)) pa_nil)) (pe_callB call_len_seq (by rfl) gL PySem.boot_len (pa_cons (pv 1) pa_nil)) (nomark _))))))
          (pss_one (ps_raise rfl (takes_of rfl rfl rfl rfl) (pmk_err T hr (pv 2)))) pss_nil))))), ?_⟩
    have same_new : ∀ {H1 : Hp} {d : Addr} {o : HO}, H1 d = none → Same H1 (upd H1 d o) := fun {H1 d o} nd b u e => up_new nd e
    rcases h with ⟨⟨n, ty, hn, nd⟩, r0⟩ | ⟨d, es, rfl, ⟨tab, hl, ents⟩, rb, k⟩
    · refine ⟨_, rfl, .inl ⟨x, .ty "dict", _, _, false, rfl, .ty "dict", ty, nodict hn nd, false, rfl, iteT ?_⟩⟩
      exact err_end fun d nd => r0 _ d (same_new nd) nd upd_same
    · refine ⟨_, rfl, tab_dict tab ⟨true, rfl, iteF ?_⟩⟩
      obtain ⟨u, hd, mu, u1, u2, u3, held⟩ := tab.mut
      refine ⟨d, u, hd, mu, fun od => ?_⟩
      have tf := held od
      have off : Same (L2.del H d) (upd H d (.frz od u)) := off_hold
      have sx : SqA K (upd H d (.frz od u)) p (zs.map V.str) := sqA_upd hd ⟨u1, u2, u3⟩ hx
      refine ⟨_, rfl, d, od, rfl, ?_⟩
      rcases tab_cases tf with ⟨kvs, hk, wk⟩ | ⟨kvs, hk, wk⟩ <;> (
        first | refine .inl ⟨_, hk, ?_⟩ | refine .inr ⟨_, hk, ?_⟩
        have wk2 := wk.mono (G' := fun H1 => Same (upd H d (.frz od u)) H1) (fun H1 s => (s _ _ upd_same).trans upd_same.symm) (fun i H x H' _ _ y => y)
        rw [List.length_map] at wk2
        refine for_it wk2 (fun i σ H1 => ∃ o2 : Option V, σ = [some (.ref d), some (.ref p), o2] ∧ Same (upd H d (.frz od u)) H1 ∧ ∀ e ∈ es.take i, deedOk zs e = true) ⟨none, rfl, Same.refl _, fun e he => by simp at he⟩ (fun i σ H1 _ q => by obtain ⟨_, _, s, _⟩ := q; exact s) ?_ ?_
        · rintro i x σ H1 H2 hi ⟨o2, rfl, sm, pre⟩ ⟨rfl, v, ev⟩
          rw [List.getElem?_map] at ev
          obtain ⟨e, he⟩ : ∃ e, es[i]? = some e := ⟨es[i], List.getElem?_eq_getElem hi⟩
          rw [he] at ev
          obtain ⟨rfl, rfl⟩ : e.1 = x ∧ e.2.1 = v := Prod.mk.inj (Option.some.inj ev)
          clear ev
          have mem : e ∈ es := List.mem_of_getElem? he
          have memp : (e.1, e.2.1) ∈ es.map fun e => (e.1, e.2.1) := List.mem_map.mpr ⟨e, mem, rfl⟩
          obtain ⟨bad, good⟩ := find_go (p := deedOk zs) he pre
          have eat := ents e mem
          have raise : deedOk zs e = false → ∀ H3, Same H2 H3 → ∀ (x : Addr), H3 x = none → E (.ref CD) (some x) (upd H3 x (.xd [("name", e.1)])) := fun q H3 s3 x nx => by
            refine rb e (bad q) _ x (fun b o nb eb => ?_) ?_ upd_same
            · have q1 : H3 b = some o := s3 _ _ (sm _ _ (by rw [upd_ne nb]; exact eb))
              rw [upd_ne (ne_of_none q1 nx)]
              exact q1
            · cases q0 : H x with
              | none => rfl
              | some o =>
                by_cases z : x = d
                · rw [z, s3 _ _ (sm _ _ upd_same)] at nx
                  cases nx
                · rw [s3 _ _ (sm _ _ (by rw [upd_ne z]; exact q0))] at nx
                  cases nx
          refine ⟨_, rfl, e.1, rfl, any_same (off.trans sm) eat.1, fun H3 s3 => ?_⟩
          by_cases hw : isW e.1 = true
          · refine ⟨true, by rw [hw], iteF ?_⟩
            have lead := eat.2 hw
            refine ⟨_, rfl, _, rfl, d, e.2.1, rfl, tab_get (tf.same (sm.trans s3)) memp, _, rfl, e.2.1, p, zs, e.2.2, rfl, sqA_same (sm.trans s3) sx, lead_same (off.trans (sm.trans s3)) lead, fun H4 s4 => ?_⟩
            have s24 : Same H2 H4 := s3.trans s4
            by_cases hb : leadB e.2.2 zs = true
            · refine ⟨true, by rw [hb], iteF ?_⟩
              obtain ⟨ek, ev, l⟩ := e
              cases l with
              | none => cases hb
              | some kv =>
                have l4 := lead_same (off.trans (sm.trans s24)) lead
                obtain ⟨dv, edv, hdv, _⟩ := l4
                have edv : ev = .ref dv := edv
                subst edv
                refine ⟨_, rfl, _, rfl, d, .ref dv, rfl, tab_get (tf.same (sm.trans s24)) memp, dv, kv, rfl, hdv, _, rfl, p, _, rfl, sqA_same (sm.trans s24) sx, rfl, _, rfl, ?_⟩
                refine ite2 (fun q => ?_) (fun q => ?_)
                · have q2 : ¬ kv.length = zs.length := fun z => by
                    rw [List.length_map, z] at q
                    simp at q
                  exact ⟨_, rfl, err_end fun x nx => raise (by
                    unfold deedOk lenB
                    dsimp only
                    rw [decide_eq_false q2, Bool.and_false, Bool.and_false]) H4 s24 x nx⟩
                · have q2 : kv.length = zs.length := by
                    rw [List.length_map] at q
                    have q3 : ¬ ¬ ((V.int (kv.length : Nat)) = V.int (zs.length : Nat)) := by simpa using q
                    have q4 : V.int (kv.length : Nat) = V.int (zs.length : Nat) := Classical.not_not.mp q3
                    have q5 : ((kv.length : Nat) : Int) = (zs.length : Nat) := by injection q4
                    exact Int.ofNat.inj q5
                  refine ⟨_, rfl, sm.trans s24, good ?_⟩
                  unfold deedOk lenB
                  dsimp only at hw hb ⊢
                  rw [hw, hb, decide_eq_true q2]
                  rfl
            · have hb2 : leadB e.2.2 zs = false := by simpa using hb
              refine ⟨false, by rw [hb2], iteT ?_⟩
              exact ⟨_, rfl, err_end fun x nx => raise (by unfold deedOk; rw [hb2, Bool.false_and, Bool.and_false]) H4 s24 x nx⟩
          · have hw2 : isW e.1 = false := by simpa using hw
            refine ⟨false, by rw [hw2], iteT (iteT ?_)⟩
            exact ⟨_, rfl, err_end fun x nx => raise (by unfold deedOk; rw [hw2, Bool.false_and]) H3 s3 x nx⟩
        · rintro σ H1 ⟨o2, rfl, sm, pre⟩
          refine ⟨sm _ _ upd_same, k ?_ _ fun b o q => ?_⟩
          · rw [List.take_of_length_le (Nat.le_refl _)] at pre
            exact List.all_eq_true.mpr pre
          · by_cases z : b = d
            · rw [z, hd] at q
              rw [z, upd_same, q]
            · rw [upd_ne z]
              exact sm _ _ (by rw [upd_ne z]; exact q))
end
end K01
/-! ## C3b -/
set_option Elab.async false
set_option linter.all false
set_option maxRecDepth 100000
set_option maxHeartbeats 4000000
namespace K01
open PySem L2 ErrK
section
variable {P : Program} {w : World} {K : PySem.W.Frag} {mg : Str → Option Value} {base : Heap} {f : Addr} {fd : FuncData} {CD : Addr}
theorem scEntries : FnScope ["entries", "values", "deeds", "name"] ["entries", "values", "deeds"] (defScope sEntries) := ⟨rfl, rfl, rfl, by decide +kernel, rfl, by decide +kernel, by decide +kernel⟩
theorem valV_some {kd : List (Key × V)} {k : Key} (h : (valV kd k).isSome = true) : kV k ∈ kd.map fun q => kV q.1 := by
  induction kd with
  | nil => cases h
  | cons p r ih =>
    by_cases e : p.1 = k
    · rw [List.map_cons, e]
      exact List.mem_cons_self
    · rw [valV_neg e] at h
      exact List.mem_cons_of_mem _ (ih h)
theorem valV_mem2 {kd : List (Key × V)} {k : Key} (h : kV k ∈ kd.map fun q => kV q.1) : (valV kd k).isSome = true := by
  induction kd with
  | nil => cases h
  | cons p r ih =>
    by_cases e : p.1 = k
    · rw [valV_pos e]
      rfl
    · rw [valV_neg e]
      rw [List.map_cons] at h
      rcases List.mem_cons.mp h with q | h
      · exact absurd (kV_inj q).symm e
      · exact ih h
theorem ok_entries (F : Fun K "check_entries" "check_entries" sEntries f fd) (cW : Cl P w K mg base CX0 1 "is_word" (spWord K)) (cT : Cl P w K mg base CX0 2 "leads_values" (spLeadsV K)) (T : Err P w K mg base "BadEntries" "name" CD)
    (gI : mg "isinstance" = none) (gD : mg "dict" = none) : FnOk P w K mg base (L2.CX P w) 3 f fd ["entries", "values", "deeds"] (spEntries w K CD) := by
  refine F.okX scEntries (fun vs H Q E h => ?_) (fun cdv A outer s H vs Q E hr h => ?_)
  · obtain ⟨x, p, dd, zs, kd, rfl, _⟩ := h
    rfl
  · obtain ⟨x, p, dd, zs, kd, rfl, hx, hz, hdd, h⟩ := h
    have hu : (A.deeper (PyProof.Rows.envOfC "check_entries" (defScope sEntries) s.heap.objs.size f cdv)).units + 16 < cLine := by
      have := hr.un
      omega
    have hu1 : (A.deeper (PyProof.Rows.envOfC "check_entries" (defScope sEntries) s.heap.objs.size f cdv)).units + 1 < cLine := by omega
    refine ⟨_, pss_cons (ps_if (pt_not (pt_val (pe_callB call_isiM (by rfl) gI (by decide +kernel) (pa_cons (pv 0) (pa_cons (pe_bltn (v := .ty "dict") (by rfl) gD (by decide +kernel) rfl) pa_nil)))))
        (pss_one (ps_raise rfl (takes_of rfl rfl rfl rfl) (pmk_err T hr pe_non))) pss_nil)
      (pss_one (ps_lock (ps_for (passes_of rfl) rfl (pi_keysX (pv 0)) (pg_name (i := 3) scEntries.nd rfl (Or.inl rfl))
        (pss_one (ps_if (PW.pt (pw_or (pt_not (pt_val (pe_cl cW hr (by decide) pass0 (pa_cons (pv 3) pa_nil))))
            (pw_or (pt_cmp (pc_din hu1 (pv 3) (pv 2)))
            (pw_or1 (pt_not (pt_val (pe_cl cT hr (by decide) pass0 (pa_cons (pe_dgetX2 hu (pv 0) (pv 3) (fun _ _ => rfl)) (pa_cons (pv 1) pa_nil)))))))))
          (pss_one (ps_raise rfl (takes_of rfl rfl rfl rfl) (pmk_err T hr (pv 3)))) pss_nil))))), ?_⟩
    have same_new : ∀ {H1 : Hp} {d : Addr} {o : HO}, H1 d = none → Same H1 (upd H1 d o) := fun {H1 d o} nd b u e => up_new nd e
    rcases h with ⟨⟨n, ty, hn, nd⟩, r0⟩ | ⟨d, es, rfl, nedd, ⟨tab, hl, ents⟩, rb, k⟩
    · refine ⟨_, rfl, .inl ⟨x, .ty "dict", _, _, false, rfl, .ty "dict", ty, nodict hn nd, false, rfl, iteT ?_⟩⟩
      exact err_end fun d nd => r0 _ d (same_new nd) nd upd_same
    · refine ⟨_, rfl, tab_dict tab ⟨true, rfl, iteF ?_⟩⟩
      obtain ⟨u, hd, mu, u1, u2, u3, held⟩ := tab.mut
      refine ⟨d, u, hd, mu, fun od => ?_⟩
      have tf := held od
      have off : Same (L2.del H d) (upd H d (.frz od u)) := off_hold
      have sx : SqA K (upd H d (.frz od u)) p (zs.map V.str) := sqA_upd hd ⟨u1, u2, u3⟩ hx
      refine ⟨_, rfl, d, od, rfl, ?_⟩
      rcases tab_cases tf with ⟨kvs, hk, wk⟩ | ⟨kvs, hk, wk⟩ <;> (
        first | refine .inl ⟨_, hk, ?_⟩ | refine .inr ⟨_, hk, ?_⟩
        have wk2 := wk.mono (G' := fun H1 => Same (upd H d (.frz od u)) H1) (fun H1 s => (s _ _ upd_same).trans upd_same.symm) (fun i H x H' _ _ y => y)
        rw [List.length_map] at wk2
        refine for_it wk2 (fun i σ H1 => ∃ o2 : Option V, σ = [some (.ref d), some (.ref p), some (.ref dd), o2] ∧ Same (upd H d (.frz od u)) H1 ∧ ∀ e ∈ es.take i, entOk zs kd e = true) ⟨none, rfl, Same.refl _, fun e he => by simp at he⟩ (fun i σ H1 _ q => by obtain ⟨_, _, s, _⟩ := q; exact s) ?_ ?_
        · rintro i x σ H1 H2 hi ⟨o2, rfl, sm, pre⟩ ⟨rfl, v, ev⟩
          rw [List.getElem?_map] at ev
          obtain ⟨e, he⟩ : ∃ e, es[i]? = some e := ⟨es[i], List.getElem?_eq_getElem hi⟩
          rw [he] at ev
          obtain ⟨rfl, rfl⟩ : e.1 = x ∧ e.2.1 = v := Prod.mk.inj (Option.some.inj ev)
          clear ev
          have mem : e ∈ es := List.mem_of_getElem? he
          have memp : (e.1, e.2.1) ∈ es.map fun e => (e.1, e.2.1) := List.mem_map.mpr ⟨e, mem, rfl⟩
          obtain ⟨bad, good⟩ := find_go (p := entOk zs kd) he pre
          have eat := ents e mem
          have raise : entOk zs kd e = false → ∀ H3, Same H2 H3 → ∀ (x : Addr), H3 x = none → E (.ref CD) (some x) (upd H3 x (.xd [("name", e.1)])) := fun q H3 s3 x nx => by
            refine rb e (bad q) _ x (fun b o nb eb => ?_) ?_ upd_same
            · have q1 : H3 b = some o := s3 _ _ (sm _ _ (by rw [upd_ne nb]; exact eb))
              rw [upd_ne (ne_of_none q1 nx)]
              exact q1
            · cases q0 : H x with
              | none => rfl
              | some o =>
                by_cases z : x = d
                · rw [z, s3 _ _ (sm _ _ upd_same)] at nx
                  cases nx
                · rw [s3 _ _ (sm _ _ (by rw [upd_ne z]; exact q0))] at nx
                  cases nx
          refine ⟨_, rfl, e.1, rfl, any_same (off.trans sm) eat.1, fun H3 s3 => ?_⟩
          by_cases hw : isW e.1 = true
          · refine ⟨true, by rw [hw], iteF ?_⟩
            have lead := eat.2 hw
            obtain ⟨z, ez⟩ := isW_str hw
            have hdd3 : H3 dd = some (.dK kd) := s3 _ _ (sm _ _ (by rw [upd_ne (Ne.symm nedd)]; exact hdd))
            refine ⟨_, rfl, _, rfl, dd, _, rfl, by rw [ez]; exact DGet.k (k := Sum.inr z) hdd3, _, rfl, ?_⟩
            refine ite2 (fun q => ?_) (fun q => ?_)
            · have m1 : e.1 ∈ kd.map fun q => kV q.1 := by rw [ez]; exact valV_some q
              exact ⟨_, rfl, err_end fun x nx => raise (by
                unfold entOk
                rw [decide_eq_true m1]
                simp) H3 s3 x nx⟩
            · have m1 : e.1 ∉ kd.map fun q => kV q.1 := fun m => q (by rw [ez] at m; exact valV_mem2 m)
              refine ⟨_, rfl, _, rfl, d, e.2.1, rfl, tab_get (tf.same (sm.trans s3)) memp, _, rfl, e.2.1, p, zs, e.2.2, rfl, sqA_same (sm.trans s3) sx, lead_same (off.trans (sm.trans s3)) lead, fun H4 s4 => ?_⟩
              have s24 : Same H2 H4 := s3.trans s4
              by_cases hb : leadB e.2.2 zs = true
              · refine ⟨true, by rw [hb], ?_⟩
                refine ⟨_, rfl, sm.trans s24, good ?_⟩
                unfold entOk
                rw [hw, hb, decide_eq_false m1]
                rfl
              · have hb2 : leadB e.2.2 zs = false := by simpa using hb
                refine ⟨false, by rw [hb2], ?_⟩
                exact ⟨_, rfl, err_end fun x nx => raise (by unfold entOk; rw [hb2, Bool.and_false, Bool.and_false]) H4 s24 x nx⟩
          · have hw2 : isW e.1 = false := by simpa using hw
            refine ⟨false, by rw [hw2], iteT (iteT ?_)⟩
            exact ⟨_, rfl, err_end fun x nx => raise (by unfold entOk; rw [hw2, Bool.false_and]) H3 s3 x nx⟩
        · rintro σ H1 ⟨o2, rfl, sm, pre⟩
          refine ⟨sm _ _ upd_same, k ?_ _ fun b o q => ?_⟩
          · rw [List.take_of_length_le (Nat.le_refl _)] at pre
            exact List.all_eq_true.mpr pre
          · by_cases z : b = d
            · rw [z, hd] at q
              rw [z, upd_same, q]
            · rw [upd_ne z]
              exact sm _ _ (by rw [upd_ne z]; exact q))
end
end K01
/-! ## C4 -/
set_option Elab.async false
set_option linter.all false
set_option maxRecDepth 100000
set_option maxHeartbeats 4000000
namespace K01
open PySem PySem.Spec PyProof.Rows L2 ErrK
abbrev sOrd : Stmt := tp 17
section
variable {X : Cx} {tg : Expr}
def iSeq (K : PySem.W.Frag) (tl : TE) : TI := fun σ H R => tl σ H fun x H1 => ∃ a, x = .ref a ∧ ((∃ xs, SqL K H1 a xs ∧ R (Itl K a) H1) ∨ ∃ xs, SqT K H1 a xs ∧ R (Itt K a) H1)
/-- a list or a tuple -/
theorem pi_seq {l : Expr} {tl : TE} (hl : PE X l tl) : PI X tg l (iSeq X.K tl) := by
  refine ⟨fun pins s σ H R I h => ?_⟩
  refine thn (hl.run pins s σ H _ I h) fun v s1 ⟨x, H1, I1, r1, q1⟩ => ?_
  obtain ⟨a, e, q⟩ := q1
  subst e
  cases r1
  have fp : ∀ b ∈ [s1.heap.objs.size], FpOk X pins H1 b := fun b hb => by
    have e : b = s1.heap.objs.size := by simpa using hb
    subst e
    exact I1.fpOk (Nat.le_refl _) (I1.hok.fresh (Nat.le_refl _))
  rcases q with ⟨xs, hq, q⟩ | ⟨xs, hq, q⟩
  · obtain ⟨its, rv, p, hz⟩ := I1.list hq
    refine wpAny_pyIter_list p.isList ?_
    exact ⟨s1.heap.objs.size, [s1.heap.objs.size], _, _, H1, rfl, I1.kept (t' := s1.toks) fun b o e => Heap.get?_push_of_some _ e, turn_list a _, ⟨_, Heap.get?_push_size _ rfl, rfl, rfl⟩, fp, q⟩
  · obtain ⟨its, rv, p, hz⟩ := I1.tuple hq
    refine wpAny_pyIter_tuple (show s1.heap.IsTuple a its.toArray from p) ?_
    exact ⟨s1.heap.objs.size, [s1.heap.objs.size], _, _, H1, rfl, I1.kept (t' := s1.toks) fun b o e => Heap.get?_push_of_some _ e, turn_tuple a _, ⟨_, Heap.get?_push_size _ rfl, rfl, rfl⟩, fp, q⟩
end
/-- a dict comprehension over a walk -/
theorem dc_it {J : It} {n : Nat} {G : Hp → Prop} {Y : Nat → Hp → V → Hp → Prop} (w : Walk J n G Y) {g : TG} {tt : TT} {tk tv : TE} {vs : List Nat} {σ : L2.St} {H1 : Hp} {D : Addr} {Qd : Hp → Prop} (Pv : Nat → Hp → Prop) (h0 : Pv 0 (upd H1 D (.dK []))) (hG : ∀ i H, i ≤ n → Pv i H → G H)
    (hs : ∀ i x H H', i < n → Pv i H → Y i H x H' → g x (wipe σ vs) H' fun σ2 H2 => wipe σ2 vs = wipe σ vs ∧ tt σ2 H2 fun b H3 =>
      if b = true then tk σ2 H3 fun y H4 => tv σ2 H4 fun z H5 => ∃ kvs k, y = kV k ∧ H5 D = some (.dK kvs) ∧ kvs.length < sizeLine ∧ Pv (i + 1) (upd H5 D (.dK (putK kvs k z))) else Pv (i + 1) H3) (hd : ∀ H, Pv n H → Qd H) :
    ∃ W : Nat → Nat → Hp → Prop, (∃ m, W 0 m (upd H1 D (.dK []))) ∧ ∀ i m H, W i m H →
      (J.stop i H ∧ Qd H) ∨ (J.go i H ∧ ∃ Nx : Hp → Prop, (∀ H', Nx H' → ∃ m', m' < m ∧ W (i + 1) m' H') ∧ ∀ x H', J.yld i H x H' → g x (wipe σ vs) H' fun σ2 H2 => wipe σ2 vs = wipe σ vs ∧ tt σ2 H2 fun b H3 =>
        if b = true then tk σ2 H3 fun y H4 => tv σ2 H4 fun z H5 => ∃ kvs k, y = kV k ∧ H5 D = some (.dK kvs) ∧ kvs.length < sizeLine ∧ Nx (upd H5 D (.dK (putK kvs k z))) else Nx H3) := by
  refine ⟨fun i m H => m = n - i ∧ i ≤ n ∧ Pv i H, ⟨n, by simp, Nat.zero_le _, h0⟩, ?_⟩
  rintro i m H ⟨rfl, hi, p⟩
  have q := hG i H hi p
  by_cases hlt : i < n
  · refine .inr ⟨w.goes i H hlt q, Pv (i + 1), fun H' p' => ⟨n - (i + 1), by omega, rfl, hlt, p'⟩, fun x H' y => hs i x H H' hlt p (w.yields i H x H' hlt q y)⟩
  · have e : i = n := by omega
    subst e
    exact .inl ⟨w.stops H q, hd H p⟩
/-! ### sorted texts: one arrangement alone -/
def leT (a b : Str) : Prop := ltCps b.cps.toList a.cps.toList = false
/-- the sorted arrangement -/
noncomputable def srt (ks : List Str) : List Str := by
  classical exact if h : ∃ ys : List Str, ys.Perm ks ∧ sortedS ys = true then Classical.choose h else ks
theorem lt_irr : ∀ a : List Nat, ltCps a a = false
  | [] => rfl
  | a :: r => by
    show (decide (a < a) || (a == a && ltCps r r)) = false
    rw [lt_irr r]
    simp
theorem le_total_eq : ∀ {a b : List Nat}, ltCps a b = false → ltCps b a = false → a = b
  | [], [], _, _ => rfl
  | [], _ :: _, h, _ => by cases h
  | _ :: _, [], _, h => by cases h
  | a :: r, b :: t, h1, h2 => by
    have h1 : (decide (a < b) || (a == b && ltCps r t)) = false := h1
    have h2 : (decide (b < a) || (b == a && ltCps t r)) = false := h2
    simp only [Bool.or_eq_false_iff, decide_eq_false_iff_not, Bool.and_eq_false_iff, beq_eq_false_iff_ne] at h1 h2
    have e : a = b := by omega
    subst e
    rcases h1.2 with z | z
    · exact absurd rfl z
    · rcases h2.2 with y | y
      · exact absurd rfl y
      · rw [le_total_eq z y]
theorem le_trans' : ∀ {a b c : List Nat}, ltCps b a = false → ltCps c b = false → ltCps c a = false
  | a, b, [], h1, h2 => by
    cases b with
    | nil => exact h1
    | cons y t =>
      cases h2
  | [], b, x :: u, h1, h2 => by rfl
  | z :: v, [], x :: u, h1, h2 => by cases h1
  | z :: v, y :: t, x :: u, h1, h2 => by
    have h1 : (decide (y < z) || (y == z && ltCps t v)) = false := h1
    have h2 : (decide (x < y) || (x == y && ltCps u t)) = false := h2
    show (decide (x < z) || (x == z && ltCps u v)) = false
    simp only [Bool.or_eq_false_iff, decide_eq_false_iff_not, Bool.and_eq_false_iff, beq_eq_false_iff_ne] at h1 h2 ⊢
    refine ⟨by omega, ?_⟩
    by_cases e : x = z
    · have e1 : x = y := by omega
      have e2 : y = z := by omega
      rcases h1.2 with q | q
      · exact absurd e2 q
      · rcases h2.2 with r | r
        · exact absurd e1 r
        · exact .inr (le_trans' q r)
    · exact .inl e
theorem rising_pair : ∀ (r : List Str) (p : Str), risingS p r = true → (p :: r).Pairwise leT
  | [], p, _ => List.pairwise_singleton _ _
  | x :: r, p, h => by
    have h : (!ltCps x.cps.toList p.cps.toList && risingS x r) = true := h
    simp only [Bool.and_eq_true, Bool.not_eq_true'] at h
    have ih := rising_pair r x h.2
    refine List.pairwise_cons.mpr ⟨fun y hy => ?_, ih⟩
    rcases List.mem_cons.mp hy with e | hy
    · rw [e]
      exact h.1
    · exact le_trans' h.1 ((List.pairwise_cons.mp ih).1 y hy)
theorem sorted_pair {ys : List Str} (h : sortedS ys = true) : ys.Pairwise leT := by
  cases ys with
  | nil => exact List.Pairwise.nil
  | cons x r => exact rising_pair r x h
theorem str_ext {a b : Str} (h : a.cps.toList = b.cps.toList) : a = b := by
  obtain ⟨⟨a⟩⟩ := a
  obtain ⟨⟨b⟩⟩ := b
  have h : a = b := h
  rw [h]
theorem pair_unique : ∀ {xs ys : List Str}, xs.Perm ys → xs.Pairwise leT → ys.Pairwise leT → xs = ys
  | [], ys, p, _, _ => (List.nil_perm.mp p).symm
  | x :: xs, [], p, _, _ => absurd (List.perm_nil.mp p) (by simp)
  | x :: xs, y :: ys, p, h1, h2 => by
    obtain ⟨a1, b1⟩ := List.pairwise_cons.mp h1
    obtain ⟨a2, b2⟩ := List.pairwise_cons.mp h2
    have e : x = y := by
      have m1 : x ∈ y :: ys := p.subset List.mem_cons_self
      have m2 : y ∈ x :: xs := p.symm.subset List.mem_cons_self
      rcases List.mem_cons.mp m1 with e | m1
      · exact e
      · rcases List.mem_cons.mp m2 with e | m2
        · exact e.symm
        · exact str_ext (le_total_eq (a2 x m1) (a1 y m2))
    subst e
    rw [pair_unique (List.Perm.cons_inv p) b1 b2]
theorem srt_eq {ks ys : List Str} (p : ys.Perm ks) (h : sortedS ys = true) : ys = srt ks := by
  unfold srt
  have ex : ∃ ys : List Str, ys.Perm ks ∧ sortedS ys = true := ⟨ys, p, h⟩
  rw [dif_pos ex]
  have c := Classical.choose_spec ex
  exact pair_unique (p.trans c.1.symm) (sorted_pair h) (sorted_pair c.2)
abbrev Rows := List (Str × List (Str × Str))
def tx (l : List (Str × Str)) : List (Key × V) := l.map fun q => (Sum.inr q.1, V.str q.2)
def lookR (tb : Rows) (n : Str) : List (Str × Str) := ((tb.find? fun t => decide (t.1 = n)).map (·.2)).getD []
def pick (zs : List Str) (l : List (Str × Str)) : List (Str × Str) := zs.filterMap fun z => (l.lookup z).map fun v => (z, v)
noncomputable def ordR (zs : List Str) (tb : Rows) : Rows := (srt (tb.map (·.1))).map fun n => (n, pick zs (lookR tb n))
def RowAt (H : Hp) (r : Key × V) (t : Str × List (Str × Str)) : Prop := ∃ a, r = (Sum.inr t.1, V.ref a) ∧ H a = some (.dK (tx t.2))
def TbAt (H : Hp) (d : Addr) (tb : Rows) : Prop := ∃ rs : List (Key × V), H d = some (.dK rs) ∧ Paired (RowAt H) rs tb
/-- .. all new -/
def RowNew (H0 H : Hp) (r : Key × V) (t : Str × List (Str × Str)) : Prop := ∃ a, r = (Sum.inr t.1, V.ref a) ∧ H0 a = none ∧ H a = some (.dK (tx t.2))
def TbNew (H0 H : Hp) (d : Addr) (tb : Rows) : Prop := H0 d = none ∧ ∃ rs : List (Key × V), H d = some (.dK rs) ∧ Paired (RowNew H0 H) rs tb
def RowsOk (tb : Rows) : Prop := (tb.map (·.1)).Nodup ∧ tb.length < 64 ∧ ∀ t ∈ tb, (t.2.map (·.1)).Nodup ∧ t.2.length ≤ 1000
def spOrd (K : PySem.W.Frag) : Sp := fun vs H Q _ => ∃ (d p : Addr) (zs : List Str) (tb : Rows), vs = [.ref d, .ref p] ∧ TbAt H d tb ∧ RowsOk tb ∧ SqA K H p (zs.map V.str) ∧ zs.Nodup ∧ zs.length ≤ 1000 ∧
  ∀ (H' : Hp) (D : Addr), Same H H' → TbNew H H' D (ordR zs tb) → Q (.ref D) H'
theorem pick_snoc {zs : List Str} {l : List (Str × Str)} {j : Nat} {z : Str} (h : zs[j]? = some z) : pick (zs.take (j + 1)) l = pick (zs.take j) l ++ (match l.lookup z with | some v => [(z, v)] | none => []) := by
  unfold pick
  rw [List.take_succ, h, List.filterMap_append]
  congr 1
  cases e : l.lookup z <;> simp [List.filterMap, e]
theorem valV_tx (l : List (Str × Str)) (z : Str) : valV (tx l) (Sum.inr z) = (l.lookup z).map V.str := by
  induction l with
  | nil => rfl
  | cons q r ih =>
    obtain ⟨a, b⟩ := q
    show valV ((Sum.inr a, V.str b) :: tx r) (Sum.inr z) = _
    by_cases e : a = z
    · rw [valV_pos (by rw [e]), List.lookup_cons, e]
      simp
    · have e2 : (z == a) = false := beq_eq_false_iff_ne.mpr (Ne.symm e)
      rw [valV_neg (fun q => e (Sum.inr.inj q)), ih, List.lookup_cons, e2]
theorem lookup_pick {zs : List Str} {l : List (Str × Str)} {z : Str} (h : z ∉ zs) : (pick zs l).lookup z = none := by
  induction zs with
  | nil => rfl
  | cons y r ih =>
    have h1 : z ≠ y := fun e => h (by rw [e]; exact List.mem_cons_self)
    have h2 : z ∉ r := fun e => h (List.mem_cons_of_mem _ e)
    unfold pick
    rw [List.filterMap_cons]
    have ih2 := ih h2
    unfold pick at ih2
    cases l.lookup y with
    | none => exact ih2
    | some v =>
      show List.lookup z ((y, v) :: _) = none
      rw [List.lookup_cons, beq_eq_false_iff_ne.mpr h1]
      exact ih2
theorem pick_len (zs : List Str) (l : List (Str × Str)) : (pick zs l).length ≤ zs.length := List.length_filterMap_le _ _
theorem tb_get {H : Hp} {tb : Rows} : ∀ {rs : List (Key × V)}, Paired (RowAt H) rs tb → ∀ {n : Str}, n ∈ tb.map (·.1) → ∃ a, valV rs (Sum.inr n) = some (.ref a) ∧ H a = some (.dK (tx (lookR tb n))) := by
  induction tb with
  | nil => intro rs _ n h; cases h
  | cons t r ih =>
    intro rs p n h
    cases p with
    | @cons x y xs' ys' h1 h2 =>
      obtain ⟨a, e, ha⟩ := h1
      subst e
      by_cases e : t.1 = n
      · refine ⟨a, valV_pos (by rw [e]), ?_⟩
        unfold lookR
        rw [List.find?_cons, decide_eq_true e]
        exact ha
      · rw [List.map_cons] at h
        rcases List.mem_cons.mp h with q | h
        · exact absurd q.symm e
        · obtain ⟨b, e1, e2⟩ := ih h2 h
          refine ⟨b, by rw [valV_neg (fun q => e (Sum.inr.inj q))]; exact e1, ?_⟩
          unfold lookR
          rw [List.find?_cons, decide_eq_false e]
          exact e2
theorem rows_keys {F : (Key × V) → (Str × List (Str × Str)) → Prop} (hF : ∀ r t, F r t → r.1 = Sum.inr t.1) {rs : List (Key × V)} {tb : Rows} (p : Paired F rs tb) : rs.map (·.1) = (tb.map (·.1)).map Sum.inr := by
  induction p with
  | nil => rfl
  | cons h _ ih => rw [List.map_cons, List.map_cons, List.map_cons, ih, hF _ _ h]
theorem valV_none_keys {rs : List (Key × V)} {k : Key} (h : k ∉ rs.map (·.1)) : valV rs k = none := by
  induction rs with
  | nil => rfl
  | cons p r ih =>
    rw [List.map_cons] at h
    rw [valV_neg (fun e => h (by rw [e]; exact List.mem_cons_self))]
    exact ih fun m => h (List.mem_cons_of_mem _ m)
theorem tx_app (a b : List (Str × Str)) : tx (a ++ b) = tx a ++ tx b := List.map_append
theorem paired_snoc {α β : Type} {F : α → β → Prop} {xs : List α} {ys : List β} (p : Paired F xs ys) {x : α} {y : β} (h : F x y) : Paired F (xs ++ [x]) (ys ++ [y]) := by
  induction p with
  | nil => exact .cons h .nil
  | cons a _ ih => exact .cons a ih
section
variable {P : Program} {w : World} {K : PySem.W.Frag} {mg : Str → Option Value} {base : Heap} {f : Addr} {fd : FuncData}
theorem scOrd : FnScope ["tables", "values", "name", "value"] ["tables", "values"] (defScope sOrd) := ⟨rfl, rfl, rfl, by decide +kernel, rfl, by decide +kernel, by decide +kernel⟩
/-- the scope of the comprehension that is handed back -/
def retScope (st : Stmt) : Scope := match defBody st with
  | [.Return (some (.DictComp _ _ _ sc _)) _] => sc
  | _ => defScope st
theorem ok_ord (F : Fun K "ordered_tables" "ordered_tables" sOrd f fd) (gS : mg "sorted" = none) : FnOk P w K mg base CX0 1 f fd ["tables", "values"] (spOrd K) := by
  refine F.ok scOrd (fun vs H Q E h => ?_) (fun cdv A outer s H vs Q E hr h => ?_)
  · obtain ⟨d, p, zs, tb, rfl, _⟩ := h
    rfl
  · obtain ⟨d, p, zs, tb, rfl, ht, ok, hx, nz, hz, k⟩ := h
    have hu := hu_of hr
    refine ⟨_, pss_one (ps_ret (pe_dc (own := [("name", 2)]) (g := gName 2) (tt := tYes) rfl scOrd.nd (pi_list (pe_callB (call_sortedD rfl) (by rfl) gS (by decide +kernel) (pa_cons (pv 0) pa_nil))) (blkOk_by (N := ["tables", "values", "name", "value"]) (sc := defScope sOrd) (by decide +kernel))
      (fun _ _ _ _ _ => pg_name (i := 2) scOrd.nd rfl (Or.inr rfl)) (fun _ _ _ _ _ => pts_nil) (fun _ _ _ _ _ => pv 2)
      (fun _ _ _ _ _ => by
        apply pe_dc (own := [("value", 3)]) (g := gName 3)
        case hc => rfl
        case hN => exact scOrd.nd
        case hi =>
          show PI _ _ _ (iSeq K (tVar 1))
          exact pi_seq (pv 1)
        case ok => exact blkOk_by (N := ["tables", "values", "name", "value"]) (sc := relS (retScope sOrd) (defScope sOrd)) (by decide +kernel)
        case hg => exact fun _ _ _ _ _ => pg_name (i := 3) scOrd.nd rfl (Or.inl rfl)
        case ht => exact fun _ _ _ _ _ => pts_one (pt_cmp (pc_din hu (pv 3) (pe_dget hu (pv 0) (pv 2) (fun _ _ => rfl))))
        case hk => exact fun _ _ _ _ _ => pv 3
        case he => exact fun _ _ _ _ _ => pe_dget hu (pe_dget hu (pv 0) (pv 2) (fun _ _ => rfl)) (pv 3) (fun _ _ => rfl)
        ))), ?_⟩
    obtain ⟨rs, hd, pr⟩ := ht
    obtain ⟨nd, h64, rok⟩ := ok
    have keys : rs.map (·.1) = (tb.map (·.1)).map Sum.inr := rows_keys (fun r t q => by obtain ⟨a, e, _⟩ := q; rw [e]) pr
    refine ⟨_, rfl, d, rs, tb.map (·.1), rfl, .inl hd, keys, by rw [List.length_map]; exact h64, fun ys l perm srtd nl => ⟨l, rfl, ⟨ys.map V.str, SqL.of upd_same⟩, fun D nD => ?_⟩⟩
    have ey := srt_eq perm srtd
    have nys : ys.Nodup := perm.nodup_iff.mpr nd
    have ylen : ys.length < 64 := by rw [perm.length_eq, List.length_map]; exact h64
    have sl : Same H (upd H l (.lst (ys.map V.str))) := fun b o e => up_new nl e
    have nDH : H D = none := sl.free nD
    refine dc_it walk_list (fun i H1 => Same (upd H l (.lst (ys.map V.str))) H1 ∧ ∃ rs1, H1 D = some (.dK rs1) ∧ Paired (fun (r : Key × V) (t : Str × List (Str × Str)) => ∃ a, r = (Sum.inr t.1, V.ref a) ∧ H a = none ∧ a ≠ D ∧ H1 a = some (.dK (tx t.2))) rs1 ((ys.take i).map fun n => (n, pick zs (lookR tb n))))
      ⟨fun b o e => up_new nD e, [], upd_same, .nil⟩ (fun i H1 _ q => q.1.seq (SqL.of upd_same)) ?_ ?_
    · rintro i x H1 H2 hi ⟨sm, rs1, hD, pr1⟩ ⟨rfl, ex⟩
      rw [List.length_map] at hi
      have ex0 : ys[i]? = some ys[i] := List.getElem?_eq_getElem hi
      rw [List.getElem?_map, ex0] at ex
      obtain rfl : V.str ys[i] = x := Option.some.inj ex
      have mem : ys[i] ∈ tb.map (·.1) := perm.subset (List.getElem_mem hi)
      obtain ⟨a, va, ha⟩ := tb_get pr mem
      have s2 : Same H H2 := sl.trans sm
      refine ⟨rfl, ?_⟩
      unfold tYes
      dsimp only
      rw [if_pos rfl]
      refine ⟨_, rfl, _, rfl, p, rfl, ?_⟩
      have sx2 := sqA_same s2 hx
      have inn : ∀ (D2 : Addr), H2 D2 = none → ∀ H5, Same H2 H5 → H5 D2 = some (.dK (tx (pick zs (lookR tb ys[i])))) → ∃ kvs k, V.str ys[i] = kV k ∧ H5 D = some (.dK kvs) ∧ kvs.length < sizeLine ∧ Same (upd H l (.lst (ys.map V.str))) (upd H5 D (.dK (putK kvs k (.ref D2)))) ∧
          ∃ rs1, upd H5 D (.dK (putK kvs k (.ref D2))) D = some (.dK rs1) ∧ Paired (fun (r : Key × V) (t : Str × List (Str × Str)) => ∃ a, r = (Sum.inr t.1, V.ref a) ∧ H a = none ∧ a ≠ D ∧ upd H5 D (.dK (putK kvs k (.ref D2))) a = some (.dK (tx t.2))) rs1 ((ys.take (i + 1)).map fun n => (n, pick zs (lookR tb n))) := fun D2 nD2 H5 s5 h5 => by
        have len1 : rs1.length ≤ ys.length := by
          rw [Paired.length pr1, List.length_map, List.length_take]
          exact Nat.min_le_right _ _
        have nD2D : D2 ≠ D := fun z => by rw [z, hD] at nD2; cases nD2
        have keys1 : rs1.map (·.1) = (ys.take i).map Sum.inr := by
          rw [rows_keys (fun r t q => by obtain ⟨a, e, _⟩ := q; rw [e]) pr1, List.map_map, List.map_map]
          rfl
        have vn : valV rs1 (Sum.inr ys[i]) = none := valV_none_keys (by
          rw [keys1]
          intro m
          obtain ⟨y, hy, ey⟩ := List.mem_map.mp m
          have ey : y = ys[i] := Sum.inr.inj ey
          rw [ey] at hy
          obtain ⟨j, hj, ej⟩ := List.mem_iff_getElem.mp hy
          rw [List.length_take] at hj
          rw [List.getElem_take] at ej
          have := (List.getElem_inj nys).mp ej
          omega)
        refine ⟨rs1, Sum.inr ys[i], rfl, s5 _ _ hD, Nat.lt_of_le_of_lt len1 (Nat.lt_trans ylen (by decide)), fun b o q => ?_, _, upd_same, ?_⟩
        · rw [upd_ne (ne_of_none q nD)]
          exact s5 _ _ (sm _ _ q)
        · rw [putK_new _ vn, List.take_succ, ex0, List.map_append]
          refine paired_snoc (Paired.mapP pr1 fun r t q => ?_) ⟨D2, rfl, s2.free nD2, nD2D, by rw [upd_ne nD2D]; exact h5⟩
          obtain ⟨b, e, n1, n2, h1⟩ := q
          exact ⟨b, e, n1, n2, by rw [upd_ne n2]; exact s5 _ _ h1⟩
      rcases sx2 with q | q <;> (
        first | refine .inl ⟨_, q, fun D2 nD2 => ?_⟩ | refine .inr ⟨_, q, fun D2 nD2 => ?_⟩
        first
          | refine dc_it walk_list (fun j H3 => Same H2 H3 ∧ H3 D2 = some (.dK (tx (pick (zs.take j) (lookR tb ys[i]))))) ⟨fun b o e => up_new nD2 e, upd_same⟩ (fun j H3 _ z => z.1.seq q) ?_ ?_
          | refine dc_it walk_tup (fun j H3 => Same H2 H3 ∧ H3 D2 = some (.dK (tx (pick (zs.take j) (lookR tb ys[i]))))) ⟨fun b o e => up_new nD2 e, upd_same⟩ (fun j H3 _ z => sqT_same z.1 q) ?_ ?_
        · rintro j x H3 H4 hj ⟨sm3, hD2⟩ ⟨rfl, ez⟩
          rw [List.length_map] at hj
          have ez0 : zs[j]? = some zs[j] := List.getElem?_eq_getElem hj
          rw [List.getElem?_map, ez0] at ez
          obtain rfl : V.str zs[j] = x := Option.some.inj ez
          have s3 : Same H H4 := s2.trans sm3
          have hd4 := s3 _ _ hd
          have ha4 := s3 _ _ ha
          have g1 : DGet H4 d (.str ys[i]) (some (.ref a)) := by
            rw [← va]
            exact DGet.k (k := Sum.inr ys[i]) hd4
          have g2 : DGet H4 a (.str zs[j]) (((lookR tb ys[i]).lookup zs[j]).map V.str) := by
            rw [← valV_tx]
            exact DGet.k (k := Sum.inr zs[j]) ha4
          refine ⟨rfl, ?_⟩
          refine ⟨_, rfl, _, rfl, _, rfl, d, .ref a, rfl, g1, a, _, rfl, g2, _, rfl, ?_⟩
          have sn := pick_snoc (l := lookR tb ys[i]) ez0
          cases lk : (lookR tb ys[i]).lookup zs[j] with
          | none =>
            rw [lk] at sn
            refine iteF ⟨sm3, ?_⟩
            rw [sn, List.append_nil]
            exact hD2
          | some v =>
            rw [lk] at sn g2
            refine iteT ⟨_, rfl, _, rfl, _, rfl, d, .ref a, rfl, g1, _, rfl, a, .str v, rfl, g2, _, Sum.inr zs[j], rfl, hD2, ?_, fun b o e => ?_, ?_⟩
            · rw [tx, List.length_map]
              refine Nat.lt_of_le_of_lt (pick_len _ _) (Nat.lt_of_le_of_lt (m := 1000) ?_ (by decide))
              rw [List.length_take]
              omega
            · rw [upd_ne (ne_of_none e nD2)]
              exact sm3 _ _ e
            · have nin : zs[j] ∉ zs.take j := fun m => by
                obtain ⟨k, hk, ek⟩ := List.mem_iff_getElem.mp m
                rw [List.length_take] at hk
                rw [List.getElem_take] at ek
                have := (List.getElem_inj nz).mp ek
                omega
              have vn : valV (tx (pick (zs.take j) (lookR tb ys[i]))) (Sum.inr zs[j]) = none := by
                rw [valV_tx, lookup_pick nin]
                rfl
              rw [upd_same, putK_new _ vn, sn, tx_app]
              rfl
        · rintro H5 ⟨s5, h5⟩
          rw [List.length_map, List.take_of_length_le (Nat.le_refl _)] at h5
          exact inn D2 nD2 H5 s5 h5)
    · rintro H1 ⟨sm, rs1, hD, pr1⟩
      rw [List.length_map, List.take_of_length_le (Nat.le_refl _)] at pr1
      refine k H1 D (sl.trans sm) ⟨nDH, rs1, hD, ?_⟩
      unfold ordR
      rw [← ey]
      exact Paired.mapP pr1 fun r t q => by
        obtain ⟨a, e, n1, _, h1⟩ := q
        exact ⟨a, e, n1, h1⟩
end
end K01
/-! ## C5 -/
set_option Elab.async false
set_option linter.all false
set_option maxRecDepth 100000
set_option maxHeartbeats 4000000
namespace K01
open PySem L2 ErrK
abbrev sThing : Stmt := tp 18
abbrev sInit : Stmt := inClass sThing 0
abbrev sEq : Stmt := inClass sThing 1
abbrev sWorths : Stmt := inClass sThing 2
abbrev sStart : Stmt := inClass sThing 3
abbrev sGetD : Stmt := inClass sThing 4
abbrev sGetE : Stmt := inClass sThing 5
def ValsOk (zs : List Str) : Prop := zs ≠ [] ∧ zs.Nodup ∧ zs.length ≤ 1000 ∧ ∀ z ∈ zs, wordT z = true
def LeadIn (zs : List Str) (l : List (Str × Str)) : Prop := ∀ q ∈ l, q.1 ∈ zs ∧ q.2 ∈ zs
def DeedsOk (zs : List Str) (tb : Rows) : Prop := RowsOk tb ∧ ∀ t ∈ tb, wordT t.1 = true ∧ LeadIn zs t.2 ∧ t.2.length = zs.length
def EntsOk (zs : List Str) (dtb tb : Rows) : Prop := RowsOk tb ∧ ∀ t ∈ tb, wordT t.1 = true ∧ LeadIn zs t.2 ∧ t.1 ∉ dtb.map (·.1)
theorem wordT_len {z : Str} (h : wordT z = true) : z.length ≤ 8 := by
  unfold wordT at h
  simp only [Bool.and_eq_true, decide_eq_true_eq] at h
  exact h.2.1
theorem badFrom_none {xs : List Str} : ∀ {pre : List Str} {i : Nat}, (pre ++ xs).Nodup → (∀ z ∈ xs, wordT z = true) → badFrom (pre.map V.str) i (xs.map V.str) = none := by
  induction xs with
  | nil => intros; rfl
  | cons x r ih =>
    intro pre i nd hw
    rw [List.map_cons, badFrom_step, if_neg]
    · have e : (pre ++ x :: r) = (pre ++ [x]) ++ r := by simp
      rw [e] at nd
      have q := ih (pre := pre ++ [x]) (i := i + 1) nd fun z hz => hw z (List.mem_cons_of_mem _ hz)
      rw [List.map_append] at q
      exact q
    · rintro (z | z)
      · have hx := hw x List.mem_cons_self
        have z : wordT x = false := z
        rw [hx] at z
        cases z
      · obtain ⟨y, hy, ey⟩ := List.mem_map.mp z
        have ey : y = x := by injection ey
        rw [ey] at hy
        rw [List.nodup_append] at nd
        exact nd.2.2 _ hy _ List.mem_cons_self rfl
theorem vals_good {zs : List Str} (h : ValsOk zs) : badV (zs.map V.str) = none := by
  obtain ⟨ne, nd, _, hw⟩ := h
  unfold badV
  cases zs with
  | nil => exact absurd rfl ne
  | cons z r => exact badFrom_none (pre := []) nd hw
section
variable {w : World} {K : PySem.W.Frag} {H : Hp}
theorem any_str {z : Str} (h : z.length ≤ 1000) : Any K H (.str z) := .inl ⟨z, rfl, h⟩
theorem any_word {z : Str} (h : wordT z = true) : Any K H (.str z) := any_str (Nat.le_trans (wordT_len h) (by decide))
theorem lead_in {zs : List Str} (hz : ∀ z ∈ zs, wordT z = true) {a : Addr} {l : List (Str × Str)} (ha : H a = some (.dK (tx l))) (nd : (l.map (·.1)).Nodup) (hl : l.length ≤ 1000) (li : LeadIn zs l) : LeadAt K H (.ref a) (some (tx l)) := by
  refine ⟨a, rfl, ha, by rw [tx, List.length_map]; exact hl, ?_, fun q hq => ?_⟩
  · have e : (tx l).map (·.1) = (l.map (·.1)).map Sum.inr := by
      rw [tx, List.map_map, List.map_map]
      rfl
    rw [e]
    exact List.Pairwise.map _ (fun a b (h : a ≠ b) z => h (Sum.inr.inj z)) nd
  · obtain ⟨r, hr, rfl⟩ := List.mem_map.mp hq
    exact ⟨any_word (hz _ (li r hr).1), any_word (hz _ (li r hr).2)⟩
theorem lead_good {zs : List Str} {l : List (Str × Str)} (li : LeadIn zs l) : leadB (some (tx l)) zs = true := by
  show leadsB (tx l) zs = true
  unfold leadsB tx
  rw [List.all_map, List.all_eq_true]
  intro q hq
  show (isV (.str q.1) zs && isV (.str q.2) zs) = true
  rw [isV, isV, decide_eq_true (List.mem_map.mpr ⟨_, (li q hq).1, rfl⟩), decide_eq_true (List.mem_map.mpr ⟨_, (li q hq).2, rfl⟩)]
  rfl
/-- the entries of such a dict -/
def esOf (rs : List (Key × V)) (tb : Rows) : List TEnt := (rs.zip tb).map fun p => (kV p.1.1, p.1.2, some (tx p.2.2))
theorem esOf_pairs {F : (Key × V) → (Str × List (Str × Str)) → Prop} {rs : List (Key × V)} {tb : Rows} (p : Paired F rs tb) : (esOf rs tb).map (fun e => (e.1, e.2.1)) = rs.map fun q => (kV q.1, q.2) := by
  induction p with
  | nil => rfl
  | cons h _ ih =>
    show _ :: (esOf _ _).map _ = _ :: _
    rw [ih]
theorem esOf_mem {F : (Key × V) → (Str × List (Str × Str)) → Prop} {rs : List (Key × V)} {tb : Rows} (p : Paired F rs tb) : ∀ e ∈ esOf rs tb, ∃ r ∈ rs, ∃ t ∈ tb, F r t ∧ e = (kV r.1, r.2, some (tx t.2)) := by
  induction p with
  | nil => intro e h; cases h
  | @cons x y xs ys h _ ih =>
    intro e he
    have he : e ∈ (kV x.1, x.2, some (tx y.2)) :: esOf xs ys := he
    rcases List.mem_cons.mp he with z | he
    · exact ⟨x, List.mem_cons_self, y, List.mem_cons_self, h, z⟩
    · obtain ⟨r, hr, t, ht, q⟩ := ih e he
      exact ⟨r, List.mem_cons_of_mem _ hr, t, List.mem_cons_of_mem _ ht, q⟩
theorem tb_tab {zs : List Str} (hz : ∀ z ∈ zs, wordT z = true) {d : Addr} {tb : Rows} (t : TbAt H d tb) (ok : RowsOk tb) (hw : ∀ t ∈ tb, wordT t.1 = true ∧ LeadIn zs t.2) :
    ∃ rs, H d = some (.dK rs) ∧ Paired (RowAt H) rs tb ∧ TabAt w K H d (esOf rs tb) := by
  obtain ⟨rs, hd, pr⟩ := t
  refine ⟨rs, hd, pr, ?_, ?_, fun e he => ?_⟩
  · rw [esOf_pairs pr]
    refine .k hd ?_
    rw [rows_keys (fun r t q => by obtain ⟨a, e, _⟩ := q; rw [e]) pr]
    exact List.Pairwise.map _ (fun a b (h : a ≠ b) z => h (Sum.inr.inj z)) ok.1
  · unfold esOf
    rw [List.length_map, List.length_zip]
    have := ok.2.1
    omega
  · obtain ⟨r, hr, t, ht, ⟨a, er, ha⟩, rfl⟩ := esOf_mem pr e he
    have na : a ≠ d := fun z => by
      rw [z, hd] at ha
      have e : rs = tx t.2 := by injection (Option.some.inj ha)
      rw [e] at hr
      obtain ⟨q, _, eq⟩ := List.mem_map.mp hr
      rw [er] at eq
      cases (Prod.mk.inj eq).2
    rw [er]
    refine ⟨any_word (hw t ht).1, fun _ => lead_in hz (by rw [L2.del_ne na]; exact ha) (ok.2.2 t ht).1 (ok.2.2 t ht).2 (hw t ht).2⟩
theorem tb_same {H' : Hp} {d : Addr} {tb : Rows} (s : Same H H') (t : TbAt H d tb) : TbAt H' d tb := by
  obtain ⟨rs, hd, pr⟩ := t
  exact ⟨rs, s _ _ hd, Paired.mapP pr fun r t q => by
    obtain ⟨a, e, h⟩ := q
    exact ⟨a, e, s _ _ h⟩⟩
theorem deeds_good {zs : List Str} {d : Addr} {tb : Rows} {rs : List (Key × V)} (ok : DeedsOk zs tb) (pr : Paired (RowAt H) rs tb) : (esOf rs tb).all (deedOk zs) = true := by
  rw [List.all_eq_true]
  intro e he
  obtain ⟨r, hr, t, ht, ⟨a, er, ha⟩, rfl⟩ := esOf_mem pr e he
  obtain ⟨h1, h2, h3⟩ := ok.2 t ht
  unfold deedOk lenB
  dsimp only
  rw [er, lead_good h2, decide_eq_true (by rw [tx, List.length_map]; exact h3)]
  show (wordT t.1 && (true && true)) = true
  rw [h1]
  rfl
theorem ents_good {zs : List Str} {dtb tb : Rows} {rs rd : List (Key × V)} (ok : EntsOk zs dtb tb) (pd : Paired (RowAt H) rd dtb) (pr : Paired (RowAt H) rs tb) : (esOf rs tb).all (entOk zs rd) = true := by
  rw [List.all_eq_true]
  intro e he
  obtain ⟨r, hr, t, ht, ⟨a, er, ha⟩, rfl⟩ := esOf_mem pr e he
  obtain ⟨h1, h2, h3⟩ := ok.2 t ht
  have kd := rows_keys (fun r t q => by obtain ⟨a, e, _⟩ := q; rw [e]) pd
  have nin : kV r.1 ∉ rd.map fun q => kV q.1 := fun m => by
    obtain ⟨q, hq, eq⟩ := List.mem_map.mp m
    have e1 : q.1 = r.1 := kV_inj eq
    have m2 : r.1 ∈ rd.map (·.1) := List.mem_map.mpr ⟨q, hq, e1⟩
    rw [kd, er] at m2
    obtain ⟨n, hn, en⟩ := List.mem_map.mp m2
    rw [Sum.inr.inj en] at hn
    exact h3 hn
  unfold entOk
  dsimp only
  rw [decide_eq_false nin, er, lead_good h2]
  show (wordT t.1 && (!false && true)) = true
  rw [h1]
  rfl
end
/-- the errors' classes, the thing's class -/
structure Cs where
  V : Addr
  S : Addr
  D : Addr
  E : Addr
  T : Addr
def flds (lv ld le : Addr) (st : Str) : List (Str × V) := [("_values", .ref lv), ("_first", .str st), ("_led", .ref ld), ("_let", .ref le)]
/-- a new thing at t -/
def ThingNew (C : Addr) (H0 H : Hp) (t : Addr) (zs : List Str) (st : Str) (dl el : Rows) : Prop := H0 t = none ∧ ∃ dx lv ld le, H t = some (.ins C dx (flds lv ld le st)) ∧ H0 lv = none ∧ H lv = some (.lst (zs.map V.str)) ∧ TbNew H0 H ld dl ∧ TbNew H0 H le el
def ValBad (K : PySem.W.Frag) (c : Cs) (H : Hp) (x : V) (E : XK) : Prop := (∃ n, TyX K H x (.type n) ∧ (n = "str" ∨ n ∈ kinds) ∧ seqK n = false ∧ Rs H E c.V "index" (.int 0)) ∨
  ∃ p xs, ∃ i : Nat, x = .ref p ∧ SqA K H p xs ∧ xs.length ≤ 1000 ∧ (∀ y ∈ xs, Any K H y) ∧ badV xs = some i ∧ Rs H E c.V "index" (.int i)
def DeedBad (w : World) (K : PySem.W.Frag) (c : Cs) (H : Hp) (zs : List Str) (d : V) (E : XK) : Prop := (NoDict K H d ∧ Rs H E c.D "name" .non) ∨
  ∃ dd es en, d = .ref dd ∧ TabAt w K H dd es ∧ es.find? (fun e => !deedOk zs e) = some en ∧ RsB H E c.D dd en.1
def EntBad (w : World) (K : PySem.W.Frag) (c : Cs) (H : Hp) (zs : List Str) (dd : Addr) (rd : List (Key × V)) (e : V) (E : XK) : Prop := (NoDict K H e ∧ Rs H E c.E "name" .non) ∨
  ∃ de es en, e = .ref de ∧ de ≠ dd ∧ TabAt w K H de es ∧ es.find? (fun e => !entOk zs rd e) = some en ∧ RsB H E c.E de en.1
theorem tbnew_up {H0 Hc H5 He : Hp} {D t : Addr} {u : HO} {tb : Rows} (n : TbNew Hc H5 D tb) (s : Same H0 Hc) (ht : Hc t = some u) (up : ∀ b o, b ≠ t → H5 b = some o → He b = some o) : TbNew H0 He D tb := by
  obtain ⟨nD, rs, hD, pr⟩ := n
  have ne : ∀ {b : Addr}, Hc b = none → b ≠ t := fun {b} h z => by rw [z, ht] at h; cases h
  exact ⟨s.free nD, rs, up _ _ (ne nD) hD, Paired.mapP pr fun r t q => by
    obtain ⟨a, e, n1, h1⟩ := q
    exact ⟨a, e, s.free n1, up _ _ (ne n1) h1⟩⟩
/-- what becomes of Thing(x, s, d, e) -/
def ThingOut (w : World) (K : PySem.W.Frag) (c : Cs) (H : Hp) (x s d e : V) (Q : V → Hp → Prop) (E : XK) : Prop :=
  ValBad K c H x E ∨ ∃ p zs, x = .ref p ∧ SqA K H p (zs.map V.str) ∧ ValsOk zs ∧
    ((Any K H s ∧ isV s zs = false ∧ Rs H E c.S "thing" s) ∨ ∃ st, s = .str st ∧ st ∈ zs ∧
      (DeedBad w K c H zs d E ∨ ∃ dd dtb rd, d = .ref dd ∧ H dd = some (.dK rd) ∧ Paired (RowAt H) rd dtb ∧ DeedsOk zs dtb ∧
        (EntBad w K c H zs dd rd e E ∨ ∃ de etb, e = .ref de ∧ de ≠ dd ∧ TbAt H de etb ∧ EntsOk zs dtb etb ∧
          ∀ (H2 : Hp) (t : Addr), Same H H2 → ThingNew c.T H H2 t zs st (ordR zs dtb) (ordR zs etb) → Q (.ref t) H2)))
def spInit (w : World) (K : PySem.W.Frag) (c : Cs) : Sp := fun vs H Q E => ∃ (t dx : Addr) (x s d e : V) (H0 : Hp), vs = [.ref t, x, s, d, e] ∧ H = upd (upd H0 dx (.own t)) t (.ins c.T dx []) ∧ H0 t = none ∧ H0 dx = none ∧ dx ≠ t ∧
  ThingOut w K c H0 x s d e (fun v H2 => v = .ref t → Q .non H2) E
structure TT (K : PySem.W.Frag) (C : Addr) : Prop where
  cl : Cls K C
  nV : NoAttr K C "_values"
  nF : NoAttr K C "_first"
  nD : NoAttr K C "_led"
  nE : NoAttr K C "_let"
theorem del_same' {H H' : Hp} {d : Addr} (s : Same H H') : Same (L2.del H d) (L2.del H' d) := fun b o e => by
  by_cases z : b = d
  · rw [z, L2.del_same] at e
    cases e
  · rw [L2.del_ne z] at e ⊢
    exact s _ _ e
theorem tabAt_same {w : World} {K : PySem.W.Frag} {H H' : Hp} {d : Addr} {es : List TEnt} (s : Same H H') (t : TabAt w K H d es) : TabAt w K H' d es := by
  obtain ⟨tab, hl, en⟩ := t
  refine ⟨?_, hl, fun e he => ?_⟩
  · generalize es.map (fun e => (e.1, e.2.1)) = ps at tab
    cases tab with
    | k h nd => exact .k (s _ _ h) nd
    | m h ks => exact .m (s _ _ h) fun q hq => (ks q hq).up s
  · obtain ⟨a, l⟩ := en e he
    exact ⟨any_same (del_same' s) a, fun hw => lead_same (del_same' s) (l hw)⟩
theorem nodict_same {K : PySem.W.Frag} {H H' : Hp} {x : V} (s : Same H H') (h : NoDict K H x) : NoDict K H' x := by
  obtain ⟨n, ty, r⟩ := h
  exact ⟨n, tyx_same s ty, r⟩
theorem RsB.at {H H1 : Hp} {E : XK} {C d : Addr} {v : V} (r : RsB H E C d v) (s : Same H H1) : RsB H1 E C d v := fun H' x b n e => r H' x (fun a o na q => b a o na (s _ _ q)) (s.free n) e
theorem rows_same {H H' : Hp} {rs : List (Key × V)} {tb : Rows} (s : Same H H') (p : Paired (RowAt H) rs tb) : Paired (RowAt H') rs tb := Paired.mapP p fun r t q => by
  obtain ⟨a, e, h⟩ := q
  exact ⟨a, e, s _ _ h⟩
end K01
/-! ## C6 -/
set_option Elab.async false
set_option linter.all false
set_option maxRecDepth 100000
set_option maxHeartbeats 4000000
namespace K01
open PySem L2 ErrK
section
variable {P : Program} {w : World} {K : PySem.W.Frag} {mg : Str → Option Value} {base : Heap} {f : Addr} {fd : FuncData} {c : Cs}
theorem scInit : FnScope ["self", "values", "start", "deeds", "entries"] ["self", "values", "start", "deeds", "entries"] (defScope sInit) := ⟨rfl, rfl, rfl, by decide +kernel, rfl, by decide +kernel, by decide +kernel⟩
theorem ok_init (F : Fun K "__init__" "Thing.__init__" sInit f fd) (cV : Cl P w K mg base (L2.CX P w) 3 "check_values" (spValues K c.V)) (cI : Cl P w K mg base CX0 1 "is_value" (spIsValue K)) (cD : Cl P w K mg base (L2.CX P w) 3 "check_deeds" (spDeeds w K c.D))
    (cE : Cl P w K mg base (L2.CX P w) 3 "check_entries" (spEntries w K c.E)) (cO : Cl P w K mg base CX0 1 "ordered_tables" (spOrd K)) (T : Err P w K mg base "BadStart" "thing" c.S) (tt : TT K c.T) (gL : mg "list" = none) :
    FnOk P w K mg base (L2.CX P w) 4 f fd ["self", "values", "start", "deeds", "entries"] (spInit w K c) := by
  refine F.okX scInit (fun vs H Q E h => ?_) (fun cdv A outer s H vs Q E hr h => ?_)
  · obtain ⟨t, dx, x, st, d, e, H0, rfl, _⟩ := h
    rfl
  · obtain ⟨t, dx, x, sv, d, e, H0, rfl, rfl, nt, ndx, ndt, out⟩ := h
    have hx : ∀ (sp : Sp) (E' : XK), E' = E → Passes (L2.CX P w) (cxOf (L2.CX P w) P w K mg base ["self", "values", "start", "deeds", "entries"] "Thing.__init__" (defScope sInit) f cdv A outer s (upd (upd H0 dx (.own t)) t (.ins c.T dx [])) E) E := fun _ _ _ => passes_call (takes_of rfl rfl rfl rfl) fun _ _ _ _ h => h
    have px := hx spTake E rfl
    refine ⟨_, pss_cons (ps_expr (pe_cl cV hr (by decide) px (pa_cons (pv 1) pa_nil)))
      (pss_cons (ps_if (pt_not (pt_val (pe_cl cI hr (by decide) pass0 (pa_cons (pv 2) (pa_cons (pv 1) pa_nil))))) (pss_one (ps_raise rfl (takes_of rfl rfl rfl rfl) (pmk_err T (hr.mono (by decide)) (pv 2)))) pss_nil)
      (pss_cons (ps_expr (pe_cl cD hr (by decide) px (pa_cons (pv 3) (pa_cons (pv 1) pa_nil))))
      (pss_cons (ps_expr (pe_cl cE hr (by decide) px (pa_cons (pv 4) (pa_cons (pv 1) (pa_cons (pv 3) pa_nil)))))
      (pss_cons (ps_fld (pv 0) (pe_callTy call_list_of (by rfl) gL (by decide +kernel) (pa_cons (pv 1) pa_nil)) rfl)
      (pss_cons (ps_fld (pv 0) (pv 2) rfl)
      (pss_cons (ps_fld (pv 0) (pe_cl cO hr (by decide) pass0 (pa_cons (pv 3) (pa_cons (pv 1) pa_nil))) rfl)
      (pss_one (ps_fld (pv 0) (pe_cl cO hr (by decide) pass0 (pa_cons (pv 4) (pa_cons (pv 1) pa_nil))) rfl)))))))), ?_⟩
    have s0 : Same H0 (upd (upd H0 dx (.own t)) t (.ins c.T dx [])) := fun b o q => by
      rw [upd_ne (ne_of_none q nt), upd_ne (ne_of_none q ndx)]
      exact q
    have same_new : ∀ {H1 : Hp} {d : Addr} {o : HO}, H1 d = none → Same H1 (upd H1 d o) := fun {H1 d o} nd b u e => up_new nd e
    generalize hH : upd (upd H0 dx (.own t)) t (.ins c.T dx []) = H at s0
    have ht : H t = some (.ins c.T dx []) := by rw [← hH, upd_same]
    rcases out with vb | ⟨p, zs, rfl, hp, vo, out⟩
    · refine ⟨_, rfl, x, rfl, ?_⟩
      rcases vb with ⟨n, ty, hn, sq, r⟩ | ⟨p, xs, i, rfl, hp, hl, any, bad, r⟩
      · exact .inl ⟨n, tyx_same s0 ty, hn, sq, r.at s0⟩
      · refine .inr ⟨p, xs, rfl, sqA_same s0 hp, hl, fun y hy => any_same s0 (any y hy), fun j hj => ?_, fun hj => ?_⟩
        · rw [bad] at hj
          cases hj
          exact r.at s0
        · rw [bad] at hj
          cases hj
    · obtain ⟨zne, znd, zl, zw⟩ := id vo
      refine ⟨_, rfl, .ref p, rfl, .inr ⟨p, _, rfl, sqA_same s0 hp, by rw [List.length_map]; exact zl, fun y hy => ?_, fun j hj => ?_, fun _ H1 s1 => ?_⟩⟩
      · obtain ⟨z, hz, rfl⟩ := List.mem_map.mp hy
        exact any_word (zw z hz)
      · rw [vals_good vo] at hj
        cases hj
      have s01 := s0.trans s1
      rcases out with ⟨sa, sb, r⟩ | ⟨st, rfl, hst, out⟩
      · refine ⟨_, rfl, _, rfl, sv, p, zs, rfl, any_same s01 sa, sqA_same s01 hp, fun H2 s2 => ⟨false, by rw [sb], iteT ?_⟩⟩
        exact ⟨_, rfl, err_end fun x nx => (r.at (s01.trans s2)) _ x (same_new nx) nx upd_same⟩
      · refine ⟨_, rfl, _, rfl, .str st, p, zs, rfl, any_word (zw st hst), sqA_same s01 hp, fun H2 s2 => ⟨true, by rw [isV, decide_eq_true (List.mem_map.mpr ⟨st, hst, rfl⟩)], iteF ?_⟩⟩
        have s02 := s01.trans s2
        refine ⟨_, rfl, _, rfl, d, p, zs, rfl, sqA_same s02 hp, zl, ?_⟩
        rcases out with (⟨nd, r⟩ | ⟨dd, es, en, rfl, tab, fnd, r⟩) | ⟨dd, dtb, rd, rfl, hd, pd, dok, out⟩
        · exact .inl ⟨nodict_same s02 nd, r.at s02⟩
        · refine .inr ⟨dd, es, rfl, tabAt_same s02 tab, fun e' he' => ?_, fun all => ?_⟩
          · rw [fnd] at he'
            cases he'
            exact r.at s02
          · have := List.all_eq_true.mp all en (List.mem_of_find?_eq_some fnd)
            have q := List.find?_some fnd
            rw [this] at q
            cases q
        · obtain ⟨rd', hd', pd', tab⟩ := tb_tab (w := w) (K := K) zw (tb_same s02 ⟨rd, hd, pd⟩) dok.1 fun t ht => ⟨(dok.2 t ht).1, (dok.2 t ht).2.1⟩
          have erd : rd' = rd := by
            have q := s02 _ _ hd
            rw [hd'] at q
            injection (Option.some.inj q)
          subst erd
          refine .inr ⟨dd, _, rfl, tab, fun e' he' => ?_, fun _ H3 s3 => ?_⟩
          · have := List.all_eq_true.mp (deeds_good (d := dd) dok pd) e' (List.mem_of_find?_eq_some he')
            have q := List.find?_some he'
            rw [this] at q
            cases q
          have s03 := s02.trans s3
          refine ⟨_, rfl, _, rfl, _, rfl, e, p, dd, zs, rd', rfl, sqA_same s03 hp, zl, s03 _ _ hd, ?_⟩
          rcases out with (⟨nd, r⟩ | ⟨de, es, en, rfl, nedd, tab', fnd, r⟩) | ⟨de, etb, rfl, nedd, te, eok, k⟩
          · exact .inl ⟨nodict_same s03 nd, r.at s03⟩
          · refine .inr ⟨de, es, rfl, nedd, tabAt_same s03 tab', fun e' he' => ?_, fun all => ?_⟩
            · rw [fnd] at he'
              cases he'
              exact r.at s03
            · have := List.all_eq_true.mp all en (List.mem_of_find?_eq_some fnd)
              have q := List.find?_some fnd
              rw [this] at q
              cases q
          · obtain ⟨re, he, pe, tabe⟩ := tb_tab (w := w) (K := K) zw (tb_same s03 te) eok.1 fun t ht => ⟨(eok.2 t ht).1, (eok.2 t ht).2.1⟩
            refine .inr ⟨de, _, rfl, nedd, tabe, fun e' he' => ?_, fun _ H4 s4 => ?_⟩
            · have := List.all_eq_true.mp (ents_good eok (rows_same s03 pd) pe) e' (List.mem_of_find?_eq_some he')
              have q := List.find?_some he'
              rw [this] at q
              cases q
            have s04 := s03.trans s4
            have s4t : Same H H4 := s1.trans (s2.trans (s3.trans s4))
            have ht4 := s4t _ _ ht
            refine ⟨_, rfl, p, _, rfl, sqA_same s04 hp, fun lv nlv => ?_⟩
            have tlv : t ≠ lv := ne_of_none ht4 nlv
            refine ⟨_, rfl, t, c.T, dx, _, rfl, by rw [upd_ne tlv]; exact ht4, tt.cl, tt.nV, by decide, ?_⟩
            refine ⟨_, rfl, _, rfl, t, c.T, dx, _, rfl, upd_same, tt.cl, tt.nF, by show 1 < 1000; decide, ?_⟩
            generalize hc : upd (upd (upd H4 lv (HO.lst (zs.map V.str))) t _) t _ = Hc
            have hct : Hc t = some (.ins c.T dx [("_values", .ref lv), ("_first", .str st)]) := by
              rw [← hc, upd_same]
              rfl
            have sc : Same H0 Hc := fun b o q => by
              rw [← hc, upd_ne (ne_of_none q nt), upd_ne (ne_of_none q nt)]
              exact up_new nlv (s04 _ _ q)
            have hcl : Hc lv = some (.lst (zs.map V.str)) := by rw [← hc, upd_ne tlv.symm, upd_ne tlv.symm, upd_same]
            refine ⟨_, rfl, _, rfl, dd, p, zs, dtb, rfl, tb_same sc ⟨rd', hd, pd⟩, dok.1, sqA_same sc hp, znd, zl, fun H5 ld s5 new5 => ?_⟩
            refine ⟨_, rfl, t, c.T, dx, _, rfl, s5 _ _ hct, tt.cl, tt.nD, by show 2 < 1000; decide, ?_⟩
            generalize hd' : upd H5 t _ = Hd
            have hdt : Hd t = some (.ins c.T dx [("_values", .ref lv), ("_first", .str st), ("_led", .ref ld)]) := by
              rw [← hd', upd_same]
              rfl
            have up5 : ∀ b o, b ≠ t → H5 b = some o → Hd b = some o := fun b o nb q => by
              rw [← hd', upd_ne nb]
              exact q
            have sd : Same H0 Hd := fun b o q => up5 _ _ (ne_of_none q nt) (s5 _ _ (sc _ _ q))
            refine ⟨_, rfl, _, rfl, de, p, zs, etb, rfl, tb_same sd te, eok.1, sqA_same sd hp, znd, zl, fun H6 le s6 new6 => ?_⟩
            refine ⟨_, rfl, t, c.T, dx, _, rfl, s6 _ _ hdt, tt.cl, tt.nE, by show 3 < 1000; decide, ?_⟩
            generalize he' : upd H6 t _ = He
            have het : He t = some (.ins c.T dx (flds lv ld le st)) := by
              rw [← he', upd_same]
              rfl
            have up6 : ∀ b o, b ≠ t → H6 b = some o → He b = some o := fun b o nb q => by
              rw [← he', upd_ne nb]
              exact q
            have se : Same H0 He := fun b o q => up6 _ _ (ne_of_none q nt) (s6 _ _ (sd _ _ q))
            refine k He t se ⟨nt, dx, lv, ld, le, het, s04.free nlv, up6 _ _ tlv.symm (s6 _ _ (up5 _ _ tlv.symm (s5 _ _ hcl))), ?_, ?_⟩ rfl
            · exact tbnew_up new5 sc hct fun b o nb q => up6 _ _ nb (s6 _ _ (up5 _ _ nb q))
            · exact tbnew_up new6 sd hdt fun b o nb q => up6 _ _ nb q
end
end K01
/-! ## R5 -/
set_option Elab.async false
set_option linter.all false
set_option maxRecDepth 100000
set_option maxHeartbeats 4000000
namespace OE
open PySem PySem.Spec PyProof.Rows PySem.SeqAt
section
variable {M : Model} {prog : Program} {w : World} {A : Around} {E : Value → Shared → Prop} {s : Shared} {K : PySem.W.Frag} {x y C f : Addr} {ox : Obj} {od : Option Obj}
theorem ne_entry (X : K.In s.heap) (I : PySem.W.InstAt s.heap x ox C od) (hs : PySem.W.findIn K (.ref C) "__eq__" = some (some (.ref f))) (hf : PySem.W.isFn K (.ref f) = true) (hu : A.units < cLine) {Q : Fin → Shared → Prop}
    (h : wpAny (model prog w) A (call (.ref f) [.ref x, .ref y]) (fun v s' => ∃ r, v = .bool r ∧ Q (.done (.ret (.bool (!r)))) s') E s) : wpAny (model prog w) A (Builtin.«object.__ne__» ⟨[.ref x, .ref y], []⟩) Q E s := by
  unfold Builtin.«object.__ne__»
  repeat (first
    | with_reducible refine wpAny_cRoomFor hu ?_
    | (refine wpAny_bind (m := callSpecialIfBound? (.ref x) (Str.ofString "__eq__") [.ref y])
        (PySem.W.ifBound_K X I hs hf (wpAny_mono h (fun r s' hr => by
          obtain ⟨b, rfl, hq⟩ := hr
          repeat (first | exact hq | exact wpAny_pure hq | exact wpAny_truthy_bool hq | (refine wpAny_bind (m := truthy (.bool _)) (wpAny_truthy_bool ?_)) | wp_step)) fun _ _ e => e)))
    | wp_step)
theorem ifBound_ne {args : List Value} {Q : Option Value → Shared → Prop} (X : K.In s.heap) (I : PySem.W.InstAt s.heap x ox C od) (hs : PySem.W.findIn K (.ref C) "__ne__" = some (some (.builtin "object.__ne__")))
    (h : wpAny M A (call (.builtin "object.__ne__") (.ref x :: args)) (fun v => Q (some v)) E s) : wpAny M A (callSpecialIfBound? (.ref x) "__ne__" args) Q E s := by
  simp only [callSpecialIfBound?, bindSpecialIfBound?]
  refine wpAny_holding (wpAny_bind (wpAny_bind (wpAny_bind (I.type.here ((PySem.W.looks_findIn X hs).here ?_)))))
  refine wpAny_bind (wpAny_askSetting (wpAny_ite ?_))
  have fin : wpAny M A (call (.builtin "object.__ne__") ([.ref x] ++ args) >>= fun v => pure (some v)) Q E s := wpAny_bind (wpAny_mono h (fun v s' h' => wpAny_pure h') fun _ _ h' => h')
  split
  · exact wpAny_bind (wpAny_of_eq (F.cmp_object.ne.bind _) (wpAny_pure (by exact fin)))
  · exact wpAny_tryCatch (wpAny_bind (wpAny_of_eq (F.cmp_object.ne.bind _) (wpAny_pure (by exact fin))))
theorem rc_ne {Q : Value → Shared → Prop} (hu : A.units + 1 < cLine) (X : K.In s.heap) (I : PySem.W.InstAt s.heap x ox C od) (J : PySem.W.Looks (model prog w) s.heap (typeOf (.ref y)) (.ref C)) (hm : PySem.W.mroIn K C (.type "object") = some true)
    (hs : PySem.W.findIn K (.ref C) "__eq__" = some (some (.ref f))) (hf : PySem.W.isFn K (.ref f) = true) (hn : PySem.W.findIn K (.ref C) "__ne__" = some (some (.builtin "object.__ne__")))
    (h : wpAny (model prog w) A.in1 (call (.ref f) [.ref x, .ref y]) (fun v s' => ∃ r, v = .bool r ∧ Q (.bool (!r)) s') E s) : wpAny (model prog w) A (richCompare .NotEq (.ref x) (.ref y)) Q E s := by
  have one : wpAny (model prog w) A (tryCompare (.ref x) "__ne__" (.ref y)) (fun r s' => ∃ b, r = some (.bool b) ∧ Q (.bool b) s') E s := by
    unfold tryCompare
    refine wpAny_bind (ifBound_ne X I hn (wpAny_call (codeAny_call_builtin F.cmp_object.ne.plain F.cmpEntry_ne (PySem.W.check_slot F.cmpKind_ne F.cmpSplit_ne (I.type.andThen (PySem.W.looks_mroIn X hm)) (F.cmpArgs_ne _ _)
      (ne_entry (A := A.in1) X I hs hf (by show A.units + 1 < cLine; omega) (wpAny_mono h (fun v s' hv => ?_) fun _ _ e => e))))))
    obtain ⟨r, rfl, hq⟩ := hv
    exact ⟨r, rfl, wpAny_pure ⟨_, rfl, hq⟩⟩
  unfold richCompare
  simp only [oneThing_ref]
  refine wpAny_holding (wpAny_bind (wpAny_cRoomFor (Nat.lt_of_succ_lt hu) ?_))
  rw [cmpInfo_NotEq]
  dsimp only
  refine wpAny_bind (I.type.here (wpAny_bind (J.here ?_)))
  rw [show (Value.ref C != Value.ref C) = false from by simp]
  simp only [Bool.false_eq_true, if_false]
  refine wpAny_bind (wpAny_pure ?_)
  simp only [Bool.false_eq_true, if_false]
  refine wpAny_bind (wpAny_mono one (fun r s' z => ?_) fun _ _ e => e)
  obtain ⟨v, rfl, hq⟩ := z
  exact wpAny_pure hq
end
end OE
namespace K01
open PySem PySem.Spec PyProof.Rows L2
/-- what stands to the right of an own == -/
def EqTo (K : PySem.W.Frag) (H : Hp) (C : Addr) (y : V) : Prop := (∃ b dx fs, y = .ref b ∧ H b = some (.ins C dx fs)) ∨ ∃ b xs, y = .ref b ∧ SqL K H b xs ∧ PySem.W.notFirst K C (.type "list") = true
def rEqO (K : PySem.W.Frag) (C : Addr) (sp : Sp) (E : XK) : R2 := fun x y H Q => ∃ a dx fs, x = .ref a ∧ H a = some (.ins C dx fs) ∧ EqTo K H C y ∧ sp [x, y] H (fun v H' => ∃ r, v = .bl r ∧ Q (.bl r) H') E
def rNeO (C : Addr) (sp : Sp) (E : XK) : R2 := fun x y H Q => ∃ a dx fs b dy gs, x = .ref a ∧ H a = some (.ins C dx fs) ∧ y = .ref b ∧ H b = some (.ins C dy gs) ∧ sp [x, y] H (fun v H' => ∃ r, v = .bl r ∧ Q (.bl (!r)) H') E
section
variable {X : Cx} {CX : CXT} {C f : Addr} {fd : FuncData} {n : Nat} {ps : List Str} {sp : Sp} {E : XK}
/-- the own == is called -/
theorem own_call (F : FnOk X.prog X.w X.K X.mg X.base CX n f fd ps sp) (hb : Binds X.K fd ps []) (hx : Passes CX X E) {A : Around} (sb : Sub X n A) {pins : List (Addr × Obj)} {σ : L2.St} {H : Hp} {s : Shared} (I : Inv X pins σ H s) {a b : Addr} {Q : V → Hp → Prop}
    (h : sp [.ref a, .ref b] H Q E) : wpAny (model X.prog X.w) A (call (.ref f) [.ref a, .ref b]) (EP X pins σ Q) X.xe s := by
  have e0 : Env0 X.prog X.w X.K X.mg X.base A X.stack s H := by
    have e := I.env0
    exact ⟨by rw [sb.fr]; exact e.frames, e.mod, e.bs, e.bsz, e.funs, e.frf, e.hok, e.bare⟩
  have hl := F.len _ _ _ _ h
  have r2 : Vals [V.ref a, V.ref b] [Value.ref a, Value.ref b] := .cons rfl (.cons rfl .nil)
  refine wpAny_call (codeAny_mono (F.run A X.stack s H ⟨[.ref a, .ref b], []⟩ [.ref a, .ref b] [.ref a, .ref b] _ E sb.room e0 (by
    have := hb s [.ref a, .ref b] I.kIn (by simpa using hl)
    simpa using this) r2 h) fun r s' hq => ?_)
  cases r with
  | error e => exact hx pins σ H s e s' I hq
  | ok fl =>
    cases fl with
    | ret w =>
      obtain ⟨z, H', I', rz, q⟩ := I.after hq
      exact ⟨z, H', I', rz, q⟩
    | next => exact False.elim hq
    | brk => exact False.elim hq
    | cont => exact False.elim hq
theorem op_eqO (F : FnOk X.prog X.w X.K X.mg X.base CX n f fd ps sp) (hs : PySem.W.findIn X.K (.ref C) "__eq__" = some (some (.ref f))) (hf : PySem.W.isFn X.K (.ref f) = true) (hb : Binds X.K fd ps []) (hx : Passes CX X E) (hr : Room n X.A) :
    OpR X (compareOp .Eq) (rEqO X.K C sp E) := by
  intro pins s σ H x y v u Q I rx ry h
  obtain ⟨a, dx, fs, rfl, ha, et, h⟩ := h
  cases (show v = Value.ref a from rx)
  obtain ⟨mA, J, _⟩ := ins_get I.hok ha
  obtain ⟨od, J, _⟩ := J.look
  obtain ⟨m, hF⟩ := I.fr
  have sb : Sub X n X.A := ⟨hr, rfl⟩
  show wpAny (model X.prog X.w) X.A (richCompare .Eq (.ref a) u) (EP X pins σ Q) X.xe s
  have key : ∀ (b : Addr) (tb : Value), y = .ref b → PySem.W.Looks (model X.prog X.w) s.heap (typeOf (.ref b)) tb → PySem.W.notFirst X.K C tb = true → wpAny (model X.prog X.w) X.A (richCompare .Eq (.ref a) u) (EP X pins σ Q) X.xe s := fun b tb ey lk nf => by
    subst ey
    cases (show u = Value.ref b from ry)
    refine PySem.W.cmp_K (op := .Eq) (tb := tb) sb.room.units0 hF I.ok.mod.kin J lk nf hs hf (wpAny_mono (own_call F hb hx sb I h) (fun w s' q => ?_) fun _ _ e => e)
    obtain ⟨z, H', I', rz, r, rfl, q⟩ := q
    cases rz
    exact ⟨.bl r, H', I', rfl, q⟩
  rcases et with ⟨b, dy, gs, ey, hb'⟩ | ⟨b, xs, ey, hl, nf⟩
  · obtain ⟨mB, J', _⟩ := ins_get I.hok hb'
    obtain ⟨od', J', _⟩ := J'.look
    exact key b (.ref C) ey J'.type (by simp [PySem.W.notFirst])
  · obtain ⟨vs, r1, p1, _⟩ := I.list hl
    obtain ⟨ob, e1, e2, _⟩ := p1.isList
    exact key b (.type "list") ey (by rw [← e2]; exact (PySem.W.Looks.ld e1).andThen .now) nf
theorem op_neO (F : FnOk X.prog X.w X.K X.mg X.base CX n f fd ps sp) (hm : PySem.W.mroIn X.K C (.type "object") = some true) (hs : PySem.W.findIn X.K (.ref C) "__eq__" = some (some (.ref f))) (hf : PySem.W.isFn X.K (.ref f) = true)
    (hn : PySem.W.findIn X.K (.ref C) "__ne__" = some (some (.builtin "object.__ne__"))) (hb : Binds X.K fd ps []) (hx : Passes CX X E) (hr : Room (n + 1) X.A) : OpR X (compareOp .NotEq) (rNeO C sp E) := by
  intro pins s σ H x y v u Q I rx ry h
  obtain ⟨a, dx, fs, b, dy, gs, rfl, ha, rfl, hb', h⟩ := h
  cases (show v = Value.ref a from rx)
  cases (show u = Value.ref b from ry)
  obtain ⟨mA, J, _⟩ := ins_get I.hok ha
  obtain ⟨od, J, _⟩ := J.look
  obtain ⟨mB, J', _⟩ := ins_get I.hok hb'
  obtain ⟨od', J', _⟩ := J'.look
  have sb : Sub X (n + 1) X.A := ⟨hr, rfl⟩
  show wpAny (model X.prog X.w) X.A (richCompare .NotEq (.ref a) (.ref b)) (EP X pins σ Q) X.xe s
  refine OE.rc_ne (f := f) (by have := sb.in1.room.units0; exact this) I.kIn J J'.type hm hs hf hn (wpAny_mono (own_call F hb hx sb.in1 I h) (fun w s' q => ?_) fun _ _ e => e)
  obtain ⟨z, H', I', rz, r, rfl, q⟩ := q
  cases rz
  exact ⟨r, rfl, .bl (!r), H', I', rfl, q⟩
end
end K01
/-! ## C7 -/
set_option Elab.async false
set_option linter.all false
set_option maxRecDepth 100000
set_option maxHeartbeats 4000000
namespace K01
open PySem PySem.Spec PyProof.Rows L2 ErrK
/-! ordered tables once more -/
theorem srt_perm (ks : List Str) : (srt ks).Perm ks := by
  unfold srt
  split
  · rename_i h
    exact (Classical.choose_spec h).1
  · exact .refl _
theorem srt_srt (ks : List Str) : srt (srt ks) = srt ks := by
  by_cases h : ∃ ys : List Str, ys.Perm ks ∧ sortedS ys = true
  · have e : srt ks = Classical.choose h := by
      unfold srt
      rw [dif_pos h]
    have c := Classical.choose_spec h
    rw [← e] at c
    exact (srt_eq (.refl _) c.2).symm
  · have e : srt ks = ks := by
      unfold srt
      rw [dif_neg h]
    rw [e, e]
theorem look_map {g : Str → List (Str × Str)} {n : Str} : ∀ {ys : List Str}, n ∈ ys → lookR (ys.map fun n => (n, g n)) n = g n
  | y :: r, h => by
    unfold lookR
    rw [List.map_cons, List.find?_cons]
    by_cases e : y = n
    · subst e
      simp
    · rw [decide_eq_false e]
      rcases List.mem_cons.mp h with q | h
      · exact absurd q.symm e
      · exact look_map h
theorem pick_look {l : List (Str × Str)} {z : Str} : ∀ {zs : List Str}, z ∈ zs → (pick zs l).lookup z = l.lookup z
  | y :: r, h => by
    unfold pick
    rw [List.filterMap_cons]
    by_cases e : z = y
    · subst e
      cases ev : l.lookup z with
      | some v =>
        show List.lookup z ((z, v) :: _) = some v
        rw [List.lookup_cons]
        simp
      | none =>
        show List.lookup z (List.filterMap _ r) = none
        by_cases m : z ∈ r
        · rw [← ev]
          exact pick_look m
        · exact lookup_pick m
    · rcases List.mem_cons.mp h with q | h
      · exact absurd q e
      · have ih := pick_look (l := l) h
        unfold pick at ih
        cases l.lookup y with
        | none => exact ih
        | some v =>
          show List.lookup z ((y, v) :: _) = _
          rw [List.lookup_cons, beq_eq_false_iff_ne.mpr e]
          exact ih
theorem filterMap_ext {α β : Type} {f g : α → Option β} : ∀ {l : List α}, (∀ x ∈ l, f x = g x) → l.filterMap f = l.filterMap g
  | [], _ => rfl
  | x :: r, h => by rw [List.filterMap_cons, List.filterMap_cons, h x List.mem_cons_self, filterMap_ext fun y hy => h y (List.mem_cons_of_mem _ hy)]
theorem pick_pick {zs : List Str} {l : List (Str × Str)} : pick zs (pick zs l) = pick zs l := by
  show zs.filterMap _ = zs.filterMap _
  exact filterMap_ext fun z hz => by rw [pick_look hz]
theorem ord_keys (zs : List Str) (tb : Rows) : (ordR zs tb).map (·.1) = srt (tb.map (·.1)) := by
  unfold ordR
  rw [List.map_map]
  exact List.map_id _
theorem ord_ord (zs : List Str) (tb : Rows) : ordR zs (ordR zs tb) = ordR zs tb := by
  show (srt ((ordR zs tb).map (·.1))).map _ = (srt (tb.map (·.1))).map _
  rw [ord_keys, srt_srt]
  refine List.map_congr_left fun n hn => ?_
  have e : lookR (ordR zs tb) n = pick zs (lookR tb n) := look_map (g := fun n => pick zs (lookR tb n)) hn
  rw [e, pick_pick]
theorem pick_keys {zs : List Str} {l : List (Str × Str)} (nz : zs.Nodup) : ((pick zs l).map (·.1)).Nodup := by
  have key : ∀ zs : List Str, ((pick zs l).map (·.1)).Sublist zs := by
    intro zs
    induction zs with
    | nil => exact .slnil
    | cons z r ih =>
      unfold pick at ih ⊢
      rw [List.filterMap_cons]
      cases l.lookup z with
      | none => exact .cons _ ih
      | some v => exact .cons₂ _ ih
  exact nz.sublist (key zs)
theorem ord_rows {zs : List Str} {tb : Rows} (nz : zs.Nodup) (hz : zs.length ≤ 1000) (ok : RowsOk tb) : RowsOk (ordR zs tb) := by
  refine ⟨?_, ?_, fun t ht => ?_⟩
  · rw [ord_keys]
    exact (srt_perm _).nodup_iff.mpr ok.1
  · unfold ordR
    rw [List.length_map, (srt_perm _).length_eq, List.length_map]
    exact ok.2.1
  · unfold ordR at ht
    obtain ⟨n, hn, rfl⟩ := List.mem_map.mp ht
    exact ⟨pick_keys nz, Nat.le_trans (pick_len _ _) hz⟩
/-- the thing at t -/
def ThingAt (C : Addr) (H : Hp) (t : Addr) (zs : List Str) (st : Str) (dl el : Rows) : Prop := ∃ dx lv ld le, H t = some (.ins C dx (flds lv ld le st)) ∧ H lv = some (.lst (zs.map V.str)) ∧ TbAt H ld dl ∧ TbAt H le el
theorem thingAt_same {C : Addr} {H H' : Hp} {t : Addr} {zs : List Str} {st : Str} {dl el : Rows} (s : Same H H') (h : ThingAt C H t zs st dl el) : ThingAt C H' t zs st dl el := by
  obtain ⟨dx, lv, ld, le, h1, h2, h3, h4⟩ := h
  exact ⟨dx, lv, ld, le, s _ _ h1, s _ _ h2, tb_same s h3, tb_same s h4⟩
theorem tbAt_new {H0 H : Hp} {d : Addr} {tb : Rows} (h : TbNew H0 H d tb) : TbAt H d tb := by
  obtain ⟨_, rs, hd, pr⟩ := h
  exact ⟨rs, hd, Paired.mapP pr fun r t q => by
    obtain ⟨a, e, _, h⟩ := q
    exact ⟨a, e, h⟩⟩
theorem thingAt_new {C : Addr} {H0 H : Hp} {t : Addr} {zs : List Str} {st : Str} {dl el : Rows} (h : ThingNew C H0 H t zs st dl el) : ThingAt C H t zs st dl el := by
  obtain ⟨_, dx, lv, ld, le, h1, _, h2, h3, h4⟩ := h
  exact ⟨dx, lv, ld, le, h1, h2, tbAt_new h3, tbAt_new h4⟩
/-- what a thing's tables are -/
structure ThOk (zs : List Str) (dl el : Rows) : Prop where
  vo : ValsOk zs
  dr : RowsOk dl
  er : RowsOk el
def spWorths (C : Addr) : Sp := fun vs H Q _ => ∃ t zs st dl el, vs = [.ref t] ∧ ThingAt C H t zs st dl el ∧ ∀ l, H l = none → Q (.ref l) (upd H l (.lst (zs.map V.str)))
def spStart (C : Addr) : Sp := fun vs H Q _ => ∃ t zs st dl el, vs = [.ref t] ∧ ThingAt C H t zs st dl el ∧ Q (.str st) H
def spGetD (C : Addr) : Sp := fun vs H Q _ => ∃ t zs st dl el, vs = [.ref t] ∧ ThingAt C H t zs st dl el ∧ ThOk zs dl el ∧ ∀ H' D, Same H H' → TbNew H H' D (ordR zs dl) → Q (.ref D) H'
def spGetE (C : Addr) : Sp := fun vs H Q _ => ∃ t zs st dl el, vs = [.ref t] ∧ ThingAt C H t zs st dl el ∧ ThOk zs dl el ∧ ∀ H' D, Same H H' → TbNew H H' D (ordR zs el) → Q (.ref D) H'
section
variable {P : Program} {w : World} {K : PySem.W.Frag} {mg : Str → Option Value} {base : Heap} {f : Addr} {fd : FuncData} {C : Addr}
theorem scSelf {st : Stmt} (h : FnScope ["self"] ["self"] (defScope st)) : FnScope ["self"] ["self"] (defScope st) := h
theorem scWorths : FnScope ["self"] ["self"] (defScope sWorths) := ⟨rfl, rfl, rfl, by decide +kernel, rfl, by decide +kernel, by decide +kernel⟩
theorem scStart : FnScope ["self"] ["self"] (defScope sStart) := ⟨rfl, rfl, rfl, by decide +kernel, rfl, by decide +kernel, by decide +kernel⟩
theorem scGetD : FnScope ["self"] ["self"] (defScope sGetD) := ⟨rfl, rfl, rfl, by decide +kernel, rfl, by decide +kernel, by decide +kernel⟩
theorem scGetE : FnScope ["self"] ["self"] (defScope sGetE) := ⟨rfl, rfl, rfl, by decide +kernel, rfl, by decide +kernel, by decide +kernel⟩
theorem ok_worths (F : Fun K "worths" "Thing.worths" sWorths f fd) (tt : TT K C) (gL : mg "list" = none) : FnOk P w K mg base CX0 1 f fd ["self"] (spWorths C) := by
  refine F.ok scWorths (fun vs H Q E h => ?_) (fun cdv A outer s H vs Q E hr h => ?_)
  · obtain ⟨t, _, _, _, _, rfl, _⟩ := h
    rfl
  · obtain ⟨t, zs, st, dl, el, rfl, ⟨dx, lv, ld, le, ht, hv, _, _⟩, k⟩ := h
    refine ⟨_, pss_one (ps_ret (pe_callTy call_list_of (by rfl) gL (by decide +kernel) (pa_cons (pe_fld (pv 0) rfl) pa_nil))), ?_⟩
    exact ⟨_, rfl, t, C, dx, _, _, rfl, ht, tt.cl, tt.nV, rfl, lv, _, rfl, .inl (SqL.of hv), k⟩
theorem ok_start (F : Fun K "start" "Thing.start" sStart f fd) (tt : TT K C) : FnOk P w K mg base CX0 1 f fd ["self"] (spStart C) := by
  refine F.ok scStart (fun vs H Q E h => ?_) (fun cdv A outer s H vs Q E hr h => ?_)
  · obtain ⟨t, _, _, _, _, rfl, _⟩ := h
    rfl
  · obtain ⟨t, zs, st, dl, el, rfl, ⟨dx, lv, ld, le, ht, hv, _, _⟩, k⟩ := h
    refine ⟨_, pss_one (ps_ret (pe_fld (pv 0) rfl)), ?_⟩
    exact ⟨_, rfl, t, C, dx, _, _, rfl, ht, tt.cl, tt.nF, rfl, k⟩
theorem ok_getD (F : Fun K "deeds" "Thing.deeds" sGetD f fd) (tt : TT K C) (cO : Cl P w K mg base CX0 1 "ordered_tables" (spOrd K)) : FnOk P w K mg base CX0 2 f fd ["self"] (spGetD C) := by
  refine F.ok scGetD (fun vs H Q E h => ?_) (fun cdv A outer s H vs Q E hr h => ?_)
  · obtain ⟨t, _, _, _, _, rfl, _⟩ := h
    rfl
  · obtain ⟨t, zs, st, dl, el, rfl, ⟨dx, lv, ld, le, ht, hv, hd, he⟩, ok, k⟩ := h
    refine ⟨_, pss_one (ps_ret (pe_cl cO hr (by decide) pass0 (pa_cons (pe_fld (pv 0) rfl) (pa_cons (pe_fld (pv 0) rfl) pa_nil)))), ?_⟩
    exact ⟨_, rfl, t, C, dx, _, _, rfl, ht, tt.cl, tt.nD, rfl, _, rfl, t, C, dx, _, _, rfl, ht, tt.cl, tt.nV, rfl, ld, lv, zs, dl, rfl, hd, ok.dr, .inl (SqL.of hv), ok.vo.2.1, ok.vo.2.2.1, k⟩
theorem ok_getE (F : Fun K "entries" "Thing.entries" sGetE f fd) (tt : TT K C) (cO : Cl P w K mg base CX0 1 "ordered_tables" (spOrd K)) : FnOk P w K mg base CX0 2 f fd ["self"] (spGetE C) := by
  refine F.ok scGetE (fun vs H Q E h => ?_) (fun cdv A outer s H vs Q E hr h => ?_)
  · obtain ⟨t, _, _, _, _, rfl, _⟩ := h
    rfl
  · obtain ⟨t, zs, st, dl, el, rfl, ⟨dx, lv, ld, le, ht, hv, hd, he⟩, ok, k⟩ := h
    refine ⟨_, pss_one (ps_ret (pe_cl cO hr (by decide) pass0 (pa_cons (pe_fld (pv 0) rfl) (pa_cons (pe_fld (pv 0) rfl) pa_nil)))), ?_⟩
    exact ⟨_, rfl, t, C, dx, _, _, rfl, ht, tt.cl, tt.nE, rfl, _, rfl, t, C, dx, _, _, rfl, ht, tt.cl, tt.nV, rfl, le, lv, zs, el, rfl, he, ok.er, .inl (SqL.of hv), ok.vo.2.1, ok.vo.2.2.1, k⟩
end
end K01
/-! ## C8a -/
set_option Elab.async false
set_option linter.all false
set_option maxRecDepth 100000
set_option maxHeartbeats 4000000
namespace K01
open PySem PySem.Spec PyProof.Rows L2 ErrK
theorem word_ok {z : Str} (h : wordT z = true) : PyData.strOk z = true := by
  unfold wordT at h
  simp only [Bool.and_eq_true, decide_eq_true_eq, List.all_eq_true] at h
  have hl : ∀ c ∈ letters.cps.toList, c < 0x110000 := by decide +kernel
  unfold PyData.strOk
  rw [← Array.all_toList, List.all_eq_true]
  intro c hc
  exact decide_eq_true (hl c (h.2.2 c hc))
def wD (zs : List Str) : List PyData := zs.map .str
theorem dp_words {K : PySem.W.Frag} {H : Hp} : ∀ zs : List Str, DpAll K H (zs.map V.str) (wD zs)
  | [] => .nil
  | z :: r => .cons (.str z) (dp_words r)
theorem eqv_words : ∀ zs ws : List Str, PyData.eqvAll (wD zs) (wD ws) = decide (zs = ws)
  | [], [] => rfl
  | [], _ :: _ => rfl
  | _ :: _, [] => rfl
  | z :: r, y :: t => by
    show (PyData.eqv (.str z) (.str y) && PyData.eqvAll (wD r) (wD t)) = _
    rw [eqv_words r t]
    show ((z == y) && _) = _
    rw [Bool.eq_iff_iff]
    simp
theorem lay_words : ∀ {zs : List Str}, (∀ z ∈ zs, wordT z = true) → PyData.canLayAll0 (wD zs) = true
  | [], _ => rfl
  | z :: r, h => by
    show (PyData.canLay0 (.str z) && PyData.canLayAll0 (wD r)) = true
    rw [lay_words fun y hy => h y (List.mem_cons_of_mem _ hy)]
    show (PyData.strOk z && true) = true
    rw [word_ok (h z List.mem_cons_self)]
    rfl
theorem depth_words : ∀ zs : List Str, PyData.depthAll (wD zs) = 0
  | [] => rfl
  | z :: r => by
    show max (PyData.depth (.str z)) (PyData.depthAll (wD r)) = 0
    rw [depth_words r]
    rfl
theorem shaped_words {zs : List Str} (h : ∀ z ∈ zs, wordT z = true) : SeqAt.shaped (.list (wD zs)) = true := by
  unfold SeqAt.shaped
  show (PyData.canLayAll0 (wD zs) && decide (PyData.depthAll (wD zs) + 1 ≤ 64)) = true
  rw [lay_words h, depth_words]
  rfl
theorem look_mem {tb : Rows} (nd : (tb.map (·.1)).Nodup) : ∀ {t : Str × List (Str × Str)}, t ∈ tb → lookR tb t.1 = t.2 := by
  induction tb with
  | nil => intro t h; cases h
  | cons a r ih =>
    intro t h
    rw [List.map_cons, List.nodup_cons] at nd
    unfold lookR
    rw [List.find?_cons]
    rcases List.mem_cons.mp h with e | h
    · subst e
      simp
    · have ne : a.1 ≠ t.1 := fun z => nd.1 (by rw [z]; exact List.mem_map.mpr ⟨t, h, rfl⟩)
      rw [decide_eq_false ne]
      exact ih nd.2 h
theorem paired_left {α β : Type} {F : α → β → Prop} {xs : List α} {ys : List β} (p : Paired F xs ys) : ∀ x ∈ xs, ∃ y ∈ ys, F x y := by
  induction p with
  | nil => intro x h; cases h
  | cons h _ ih =>
    intro x hx
    rcases List.mem_cons.mp hx with e | hx
    · subst e
      exact ⟨_, List.mem_cons_self, h⟩
    · obtain ⟨y, hy, q⟩ := ih x hx
      exact ⟨y, List.mem_cons_of_mem _ hy, q⟩
theorem tx_nd {l : List (Str × Str)} (h : (l.map (·.1)).Nodup) : ((tx l).map (·.1)).Nodup := by
  have e : (tx l).map (·.1) = (l.map (·.1)).map Sum.inr := by
    rw [tx, List.map_map, List.map_map]
    rfl
  rw [e]
  exact List.Pairwise.map _ (fun a b (h : a ≠ b) z => h (Sum.inr.inj z)) h
theorem rows_eq {K : PySem.W.Frag} {H : Hp} {a b : Addr} {tb : Rows} (ok : RowsOk tb) (h : TbAt H a tb) (h' : TbAt H b tb) : EqR K H (EqV K H 2) (.ref a) (.ref b) := by
  obtain ⟨rs, ha, pa⟩ := h
  obtain ⟨ls, hb, pb⟩ := h'
  refine .inr ⟨a, b, rs, ls, rfl, rfl, ha, hb, by rw [Paired.length pa, Paired.length pb], fun p hp => ?_⟩
  obtain ⟨t, ht, a1, rfl, h1⟩ := paired_left pa p hp
  obtain ⟨a2, e2, h2⟩ := tb_get pb (List.mem_map.mpr ⟨t, ht, rfl⟩)
  rw [look_mem ok.1 ht] at h2
  refine ⟨_, e2, .inr (.inr (.inr ⟨a1, a2, _, _, rfl, rfl, h1, h2, rfl, fun q hq => ⟨q.2, valV_mem (tx_nd (ok.2.2 t ht).1) hq, .inl ⟨rfl, ?_⟩⟩⟩))⟩
  obtain ⟨r, _, rfl⟩ := List.mem_map.mp hq
  rfl
/-- what == of two things answers -/
def EqOut (zs zs' : List Str) (st st' : Str) (dl dl' el el' : Rows) (Q : Bool → Prop) : Prop :=
  (zs ≠ zs' ∧ Q false) ∨ (zs = zs' ∧ ((st ≠ st' ∧ Q false) ∨ (st = st' ∧ ((dl.length ≠ dl'.length ∧ Q false) ∨ (dl = dl' ∧ ((el.length ≠ el'.length ∧ Q false) ∨ (el = el' ∧ Q true)))))))
def spEqT (K : PySem.W.Frag) (C : Addr) : Sp := fun vs H Q _ => ∃ t zs st dl el y, vs = [.ref t, y] ∧ ThingAt C H t zs st dl el ∧ ThOk zs dl el ∧
  ((∃ b xs, y = .ref b ∧ SqL K H b xs ∧ Q (.bl false) H) ∨ ∃ b zs' st' dl' el', y = .ref b ∧ ThingAt C H b zs' st' dl' el' ∧ ThOk zs' dl' el' ∧ wordT st = true ∧ wordT st' = true ∧ EqOut zs zs' st st' dl dl' el el' fun r => Q (.bl r) H)
/-- what isinstance of a thing asks -/
structure TI (K : PySem.W.Frag) (C : Addr) : Prop where
  ha : PySem.W.findIn K (.ref C) "__class__" = some (some (.builtin "object.__class__"))
  hn : PySem.W.specialIn K (.builtin "object.__class__") "__get__" = some (some (.builtin "getset_descriptor.__get__"))
  htk : PySem.W.takesIn K (.builtin "object.__class__") = some true
  hm : PySem.W.mroIn K C (.type "object") = some true
  yes : PySem.W.kitOne K (.ref C) (.ref C) = some true
  no : PySem.W.kitOne K (.type "list") (.ref C) = some false
section
variable {P : Program} {w : World} {K : PySem.W.Frag} {mg : Str → Option Value} {base : Heap} {f : Addr} {fd : FuncData} {C : Addr}
theorem scEq : FnScope ["self", "other"] ["self", "other"] (defScope sEq) := ⟨rfl, rfl, rfl, by decide +kernel, rfl, by decide +kernel, by decide +kernel⟩
theorem ok_eq (F : Fun K "__eq__" "Thing.__eq__" sEq f fd) (tt : TT K C) (ti : TI K C) (gT : mg "Thing" = some (.ref C)) (gI : mg "isinstance" = none) : FnOk P w K mg base CX0 1 f fd ["self", "other"] (spEqT K C) := by
  refine F.ok scEq (fun vs H Q E h => ?_) (fun cdv A outer s H vs Q E hr h => ?_)
  · obtain ⟨t, _, _, _, _, y, rfl, _⟩ := h
    rfl
  · obtain ⟨t, zs, st, dl, el, y, rfl, ⟨dx, lv, ld, le, ht, hv, hd, he⟩, ok, h⟩ := h
    have hu : (A.deeper (PyProof.Rows.envOfC "Thing.__eq__" (defScope sEq) s.heap.objs.size f cdv)).units + 64 < cLine := by
      have := hr.units
      exact this
    refine ⟨_, pss_one (ps_ret (pe_and (pe_callB call_isi (by rfl) gI (by decide +kernel) (pa_cons (pv 1) (pa_cons (pe_glob (v := .ref C) (by rfl) gT rfl) pa_nil)))
      (pe_and (pe_cmpR (op_eqD hu) (pe_fld (pv 0) rfl) (pe_fld (pv 1) rfl) rfl)
      (pe_and (pe_cmpR (op_eqD hu) (pe_fld (pv 0) rfl) (pe_fld (pv 1) rfl) rfl)
      (pe_and (pe_cmpR (op_eqL hu) (pe_fld (pv 0) rfl) (pe_fld (pv 1) rfl) rfl)
      (pe_one (pe_cmpR (op_eqL hu) (pe_fld (pv 0) rfl) (pe_fld (pv 1) rfl) rfl))))))), ?_⟩
    rcases h with ⟨b, xs, rfl, hl, k⟩ | ⟨b, zs', st', dl', el', rfl, ⟨dx', lv', ld', le', ht', hv', hd', he'⟩, ok', wst, wst', h⟩
    · refine ⟨_, rfl, _, _, .type "list", _, false, rfl, .own C, ty_sqL hl, ti.no, _, rfl, ?_⟩
      rw [if_neg (by decide)]
      exact k
    · refine ⟨_, rfl, _, _, .ref C, _, true, rfl, .own C, .base (.ins ht' tt.cl ti.ha ti.hn ti.htk ti.hm), ti.yes, _, rfl, ?_⟩
      rw [if_pos rfl]
      refine ⟨_, rfl, t, C, dx, _, _, rfl, ht, tt.cl, tt.nV, rfl, _, rfl, b, C, dx', _, _, rfl, ht', tt.cl, tt.nV, rfl, .list (wD zs), .list (wD zs'), .lst (SqL.of hv) (dp_words zs), .lst (SqL.of hv') (dp_words zs'), shaped_words ok.vo.2.2.2, shaped_words ok'.vo.2.2.2, _, rfl, ?_⟩
      rw [show PyData.eqv (.list (wD zs)) (.list (wD zs')) = decide (zs = zs') from eqv_words zs zs']
      rcases h with ⟨ne, k⟩ | ⟨rfl, h⟩
      · rw [decide_eq_false ne, if_neg (by decide)]
        exact k
      rw [decide_eq_true rfl, if_pos rfl]
      have sh : ∀ z : Str, wordT z = true → SeqAt.shaped (.str z) = true := fun z hz => by
        unfold SeqAt.shaped
        show (PyData.strOk z && _) = true
        rw [word_ok hz]
        rfl
      refine ⟨_, rfl, t, C, dx, _, _, rfl, ht, tt.cl, tt.nF, rfl, _, rfl, b, C, dx', _, _, rfl, ht', tt.cl, tt.nF, rfl, .str st, .str st', .str _, .str _, sh st wst, sh st' wst', _, rfl, ?_⟩
      rw [show PyData.eqv (.str st) (.str st') = (st == st') from rfl]
      rcases h with ⟨ne, k⟩ | ⟨rfl, h⟩
      · rw [beq_eq_false_iff_ne.mpr ne, if_neg (by decide)]
        exact k
      rw [beq_self_eq_true, if_pos rfl]
      refine ⟨_, rfl, t, C, dx, _, _, rfl, ht, tt.cl, tt.nD, rfl, _, rfl, b, C, dx', _, _, rfl, ht', tt.cl, tt.nD, rfl, ?_⟩
      rcases h with ⟨ne, k⟩ | ⟨rfl, h⟩
      · obtain ⟨rs, h1, p1⟩ := hd
        obtain ⟨ls, h2, p2⟩ := hd'
        refine .inr ⟨ld, ld', rs, ls, rfl, rfl, h1, h2, by rw [Paired.length p1, Paired.length p2]; exact ne, _, rfl, ?_⟩
        rw [if_neg (by decide)]
        exact k
      refine .inl ⟨2, by decide, rows_eq ok.dr hd hd', _, rfl, ?_⟩
      rw [if_pos rfl]
      refine ⟨_, rfl, t, C, dx, _, _, rfl, ht, tt.cl, tt.nE, rfl, _, rfl, b, C, dx', _, _, rfl, ht', tt.cl, tt.nE, rfl, ?_⟩
      rcases h with ⟨ne, k⟩ | ⟨rfl, k⟩
      · obtain ⟨rs, h1, p1⟩ := he
        obtain ⟨ls, h2, p2⟩ := he'
        exact .inr ⟨le, le', rs, ls, rfl, rfl, h1, h2, by rw [Paired.length p1, Paired.length p2]; exact ne, k⟩
      exact .inl ⟨2, by decide, rows_eq ok.er he he', k⟩
end
end K01
/-! ## C9 -/
set_option Elab.async false
set_option linter.all false
set_option maxRecDepth 100000
set_option maxHeartbeats 4000000
namespace K01
open PySem PySem.Spec PyProof.Rows L2 ErrK LamX
abbrev sMet : Stmt := tp 24
def Cs.at (c : Cs) : Nat → Addr
  | 0 => c.V
  | 1 => c.S
  | 2 => c.D
  | _ => c.E
def fldN : Nat → Str
  | 0 => "index"
  | 1 => "thing"
  | _ => "name"
def kindN : Nat → Str
  | 0 => "values"
  | 1 => "start"
  | 2 => "deeds"
  | _ => "entries"
structure Errs (P : Program) (w : World) (K : PySem.W.Frag) (mg : Str → Option Value) (base : Heap) (c : Cs) : Prop where
  v : Err P w K mg base "BadValues" "index" c.V
  s : Err P w K mg base "BadStart" "thing" c.S
  d : Err P w K mg base "BadDeeds" "name" c.D
  e : Err P w K mg base "BadEntries" "name" c.E
  m : ∀ i j, i < 4 → j < 4 → PySem.W.exmOne K (.ref (c.at i)) (.ref (c.at j)) = some (decide (i = j))
/-- what a call that was met let out -/
def MetE (c : Cs) (Q : VK) : XK := fun cls d H' => ∃ i, i < 4 ∧ cls = .ref (c.at i) ∧ ∃ dd v, d = some dd ∧ H' dd = some (.xd [(fldN i, v)]) ∧ ∀ t, H' t = none → Q (.ref t) (upd H' t (.tup [.str (kindN i), v]))
def TMet (c : Cs) : (XK → Hp → VK → Prop) → Hp → VK → Prop := fun tl H Q => tl (MetE c Q) H fun v H' => [V.str "told", v].length ≤ sizeLine ∧ ∀ t, H' t = none → Q (.ref t) (upd H' t (.tup [.str "told", v]))
section
variable {X : Cx}
theorem suite_get {n : Nat} {x : Addr} {σ : L2.St} (h : σ.length = 2) : (σ.set 1 (some (V.ref x)))[1]? = some (some (.ref x)) := by
  rw [List.getElem?_set_self]
  omega
abbrev metX (X : Cx) (g : Addr) (cdg : Value) (s : Shared) (H : Hp) : Cx := (cxOf C8.CX0 X.prog X.w X.K X.mg X.base ["ask", "e"] "_law_met" (defScope sMet) g cdg X.A X.stack s H C8.E0).nox
theorem met_gives {c : Cs} {g : Addr} {cdg : Value} {q : Str} (es : Errs X.prog X.w X.K X.mg X.base c) : GivesTo X ["ask", "e"] "_law_met" (defScope sMet) g cdg (defBody sMet) "ask" q (TMet c) := by
  intro f c' s H Q tl act hc h
  have nd : (["ask", "e"] : List Str).Nodup := by decide +kernel
  refine ⟨_, pss_one (ps_try_manyA (X := metX X g cdg s H) (n := "e") (i := 1) (Wout := fun _ _ _ _ => False)
      (tb := fun W D σ H => ∃ Ech : XK, (∀ cls d σ' H', Ech cls d H' → W cls d σ' H') ∧ σ[0]? = some (some (.ref f)) ∧ H c' = some (CodeO c' q) ∧ tl Ech H fun v H' => [V.str "told", v].length ≤ sizeLine ∧ ∀ t, H' t = none → D.rt (.ref t) (upd H' t (.tup [.str "told", v])))
      rfl rfl nd rfl rfl LamX.takes0 (fun W pn xe tk _ => ?_)
      (.cons (c := .ref c.V) (ts := fun a cls d D σ H => σ[1]? = some (some (.ref a)) ∧ cls = .ref c.V ∧ ∃ dd v, d = some dd ∧ H dd = some (.xd [("index", v)]) ∧ ∀ t, H t = none → D.rt (.ref t) (upd H t (.tup [.str "values", v]))) ⟨rfl, by decide, .inl es.v.gC⟩ (fun a oe cls d pn hz hd => ?_)
      (.cons (c := .ref c.S) (ts := fun a cls d D σ H => σ[1]? = some (some (.ref a)) ∧ cls = .ref c.S ∧ ∃ dd v, d = some dd ∧ H dd = some (.xd [("thing", v)]) ∧ ∀ t, H t = none → D.rt (.ref t) (upd H t (.tup [.str "start", v]))) ⟨rfl, by decide, .inl es.s.gC⟩ (fun a oe cls d pn hz hd => ?_)
      (.cons (c := .ref c.D) (ts := fun a cls d D σ H => σ[1]? = some (some (.ref a)) ∧ cls = .ref c.D ∧ ∃ dd v, d = some dd ∧ H dd = some (.xd [("name", v)]) ∧ ∀ t, H t = none → D.rt (.ref t) (upd H t (.tup [.str "deeds", v]))) ⟨rfl, by decide, .inl es.d.gC⟩ (fun a oe cls d pn hz hd => ?_)
      (.cons (c := .ref c.E) (ts := fun a cls d D σ H => σ[1]? = some (some (.ref a)) ∧ cls = .ref c.E ∧ ∃ dd v, d = some dd ∧ H dd = some (.xd [("name", v)]) ∧ ∀ t, H t = none → D.rt (.ref t) (upd H t (.tup [.str "entries", v]))) ⟨rfl, by decide, .inl es.e.gC⟩ (fun a oe cls d pn hz hd => ?_)
      .nil))))), ?_⟩
  · refine ⟨fun pins s' σ H' D I h' => ?_⟩
    obtain ⟨Ech, hW, h1, h2, h3⟩ := h'
    exact (pss_one (ps_ret (pe_tup (pa_cons pe_str (pa_cons (act W pn xe Ech _ _ tk hW) pa_nil))))).run pins s' σ H' D I ⟨h1, h2, h3⟩
  · refine ⟨fun pins s' σ H' D I h' => ?_⟩
    obtain ⟨h1, h2, dd, v, h3, h4, h5⟩ := h'
    refine (pss_one (ps_ret (pe_tup (pa_cons pe_str (pa_cons (pe_xf (X := metX X g cdg s H) (a := a) (pn := pn) (C := c.V) es.v.xf es.v.no hz hd (pv 1)) pa_nil))))).run pins s' σ H' D I ?_
    exact ⟨.ref a, h1, rfl, h2, dd, _, v, h3, h4, rfl, by show 2 ≤ sizeLine; decide, h5⟩
  · refine ⟨fun pins s' σ H' D I h' => ?_⟩
    obtain ⟨h1, h2, dd, v, h3, h4, h5⟩ := h'
    refine (pss_one (ps_ret (pe_tup (pa_cons pe_str (pa_cons (pe_xf (X := metX X g cdg s H) (a := a) (pn := pn) (C := c.S) es.s.xf es.s.no hz hd (pv 1)) pa_nil))))).run pins s' σ H' D I ?_
    exact ⟨.ref a, h1, rfl, h2, dd, _, v, h3, h4, rfl, by show 2 ≤ sizeLine; decide, h5⟩
  · refine ⟨fun pins s' σ H' D I h' => ?_⟩
    obtain ⟨h1, h2, dd, v, h3, h4, h5⟩ := h'
    refine (pss_one (ps_ret (pe_tup (pa_cons pe_str (pa_cons (pe_xf (X := metX X g cdg s H) (a := a) (pn := pn) (C := c.D) es.d.xf es.d.no hz hd (pv 1)) pa_nil))))).run pins s' σ H' D I ?_
    exact ⟨.ref a, h1, rfl, h2, dd, _, v, h3, h4, rfl, by show 2 ≤ sizeLine; decide, h5⟩
  · refine ⟨fun pins s' σ H' D I h' => ?_⟩
    obtain ⟨h1, h2, dd, v, h3, h4, h5⟩ := h'
    refine (pss_one (ps_ret (pe_tup (pa_cons pe_str (pa_cons (pe_xf (X := metX X g cdg s H) (a := a) (pn := pn) (C := c.E) es.e.xf es.e.no hz hd (pv 1)) pa_nil))))).run pins s' σ H' D I ?_
    exact ⟨.ref a, h1, rfl, h2, dd, _, v, h3, h4, rfl, by show 2 ≤ sizeLine; decide, h5⟩
  · refine ⟨MetE c Q, fun cls d σ' H' me => ?_, rfl, hc, h⟩
    obtain ⟨i, hi, rfl, dd, v, e1, e2, e3⟩ := me
    have st : ∀ (a : Addr), σ'.length = 2 → (σ'.set 1 (some (V.ref a)))[1]? = some (some (.ref a)) := fun a hl => by
      rw [List.getElem?_set_self]
      omega
    have i4 : i = 0 ∨ i = 1 ∨ i = 2 ∨ i = 3 := by omega
    rcases i4 with rfl | rfl | rfl | rfl
    · exact ⟨true, es.m 0 0 (by decide) (by decide), fun _ a na hl => ⟨st a hl, rfl, dd, v, e1, e2, e3⟩, fun z => (by cases z)⟩
    · exact ⟨false, es.m 1 0 (by decide) (by decide), fun z => (by cases z), fun _ => ⟨true, es.m 1 1 (by decide) (by decide), fun _ a na hl => ⟨st a hl, rfl, dd, v, e1, e2, e3⟩, fun z => (by cases z)⟩⟩
    · exact ⟨false, es.m 2 0 (by decide) (by decide), fun z => (by cases z), fun _ => ⟨false, es.m 2 1 (by decide) (by decide), fun z => (by cases z), fun _ => ⟨true, es.m 2 2 (by decide) (by decide), fun _ a na hl => ⟨st a hl, rfl, dd, v, e1, e2, e3⟩, fun z => (by cases z)⟩⟩⟩
    · exact ⟨false, es.m 3 0 (by decide) (by decide), fun z => (by cases z), fun _ => ⟨false, es.m 3 1 (by decide) (by decide), fun z => (by cases z), fun _ => ⟨false, es.m 3 2 (by decide) (by decide), fun z => (by cases z), fun _ => ⟨true, es.m 3 3 (by decide) (by decide), fun _ a na hl => ⟨st a hl, rfl, dd, v, e1, e2, e3⟩, fun z => (by cases z)⟩⟩⟩⟩
end
end K01
/-! ## L1 -/
set_option Elab.async false
set_option linter.all false
set_option maxRecDepth 100000
set_option maxHeartbeats 4000000
namespace K01
open PySem PySem.Spec PyProof.Rows L2 ErrK
abbrev sLeads : Stmt := tp 25
theorem perm_strs {ys : List V} {zs : List Str} (h : ys.Perm (zs.map V.str)) : ∃ ws : List Str, ys = ws.map V.str ∧ ws.Perm zs := by
  let u : V → Str := fun v => match v with
    | .str s => s
    | _ => ""
  have e1 : (zs.map V.str).map u = zs := by
    rw [List.map_map]
    exact List.map_id _
  refine ⟨ys.map u, ?_, by rw [← e1]; exact h.map u⟩
  have all : ∀ y ∈ ys, ∃ s, y = V.str s := fun y hy => by
    obtain ⟨z, _, e⟩ := List.mem_map.mp (h.subset hy)
    exact ⟨z, e.symm⟩
  rw [List.map_map]
  have : ∀ y ∈ ys, y = (V.str ∘ u) y := fun y hy => by
    obtain ⟨s, rfl⟩ := all y hy
    rfl
  conv => lhs; rw [← List.map_id ys]
  exact List.map_congr_left this
section
variable {K : PySem.W.Frag} {H H' : Hp} {p a : Addr}
theorem ext_trans {H1 H2 H3 : Hp} (x : Ext p H1 H2) (y : Ext p H2 H3) : Ext p H1 H3 := fun b o n e => y b o n (x b o n e)
theorem ext_rfl : Ext p H H := fun _ _ _ e => e
theorem ext_new {d : Addr} {o : HO} (n : H d = none) : Ext p H (upd H d o) := fun b u _ e => up_new n e
theorem ext_but (b : But p H H') : Ext p H H' := fun c o n e => (b c n).trans e
theorem ext_same (s : Same H H') : Ext p H H' := fun b o _ e => s b o e
theorem ext_free {n : Nat} (x : Ext p H H') (sp : Spring H p n) {d : Addr} (nd : H' d = none) (ne : d ≠ p) : H d = none := by
  cases e : H d with
  | none => rfl
  | some o =>
    rw [x d o ne e] at nd
    cases nd
theorem spring_some {n : Nat} (sp : Spring H p n) : ∃ xs, H p = some (.lst xs) := by
  obtain ⟨a, b, c, e, _⟩ := sp.at_
  exact ⟨_, e⟩
theorem ne_spring {n : Nat} (sp : Spring H p n) {d : Addr} (nd : H d = none) : d ≠ p := fun z => by
  obtain ⟨xs, e⟩ := spring_some sp
  rw [z, e] at nd
  cases nd
theorem sqL_ext {xs : List V} (ne : a ≠ p) (x : Ext p H H') (h : SqL K H a xs) : SqL K H' a xs := by
  rcases h with (h | ⟨o, h⟩) | h
  · exact .inl (.inl (x _ _ ne h))
  · exact .inl (.inr ⟨o, x _ _ ne h⟩)
  · exact .inr h
theorem sqT_ext {n : Nat} {xs : List V} (sp : Spring H p n) (x : Ext p H H') (h : SqT K H a xs) : SqT K H' a xs := by
  obtain ⟨ys, e⟩ := spring_some sp
  rcases h with (h | ⟨o, h⟩) | h
  · refine .inl (.inl (x _ _ (fun z => ?_) h))
    rw [z, e] at h
    cases h
  · refine .inl (.inr ⟨o, x _ _ (fun z => ?_) h⟩)
    rw [z, e] at h
    cases h
  · exact .inr h
end
theorem putK_all : ∀ (more kvs : List (Key × V)), ((kvs ++ more).map (·.1)).Nodup → mergeK kvs more = kvs ++ more
  | [], kvs, _ => by
    rw [List.append_nil]
    rfl
  | q :: r, kvs, h => by
    have nin : q.1 ∉ kvs.map (·.1) := fun m => by
      rw [List.map_append, List.nodup_append] at h
      exact h.2.2 _ m _ (List.mem_map.mpr ⟨q, List.mem_cons_self, rfl⟩) rfl
    show mergeK (putK kvs q.1 q.2) r = _
    rw [putK_new _ (valV_none_keys nin)]
    have e : kvs ++ q :: r = (kvs ++ [(q.1, q.2)]) ++ r := by simp
    rw [e] at h ⊢
    exact putK_all r _ h
/-- a drawn lead: its keys are of the values, each once; all of them, where it's whole -/
structure LdOk (zs : List Str) (whole : Bool) (l : List (Str × Str)) : Prop where
  nd : (l.map (·.1)).Nodup
  li : LeadIn zs l
  le : l.length ≤ zs.length
  all : whole = true → l.length = zs.length
def spLeads (K : PySem.W.Frag) : Sp := fun vs H Q _ => ∃ (p a q : Addr) (ns zs : List Str) (whole : Bool) (n : Nat), vs = [.ref p, .ref a, .ref q, .bl whole] ∧ Spring H p n ∧ n ≤ 2000 ∧ SqL K H a (ns.map V.str) ∧ a ≠ p ∧ SqL K H q (zs.map V.str) ∧ q ≠ p ∧
  ns.length ≤ 6 ∧ zs.length ≤ 6 ∧ zs ≠ [] ∧ ns.Nodup ∧ zs.Nodup ∧
  ∀ (H' : Hp) (D : Addr) (tb : Rows), Ext p H H' → Spring H' p (n + 13 * ns.length) → TbNew H H' D tb → tb.map (·.1) = ns → (∀ t ∈ tb, LdOk zs whole t.2) → Q (.ref D) H'
end K01
/-! ## L2b -/
set_option Elab.async false
set_option linter.all false
set_option maxRecDepth 100000
set_option maxHeartbeats 4000000
namespace K01
open PySem PySem.Spec PyProof.Rows L2 ErrK
open C8 (pss_cut)
/-- all but lists is kept -/
def NL (H H' : Hp) : Prop := ∀ b o, H b = some o → (∀ ys, o ≠ HO.lst ys) → H' b = some o
theorem sqT_nl {K : PySem.W.Frag} {H H' : Hp} {a : Addr} {xs : List V} (n : NL H H') (h : SqT K H a xs) : SqT K H' a xs := by
  rcases h with (h | ⟨o, h⟩) | h
  · exact .inl (.inl (n _ _ h fun _ z => (by cases z)))
  · exact .inl (.inr ⟨o, n _ _ h fun _ z => (by cases z)⟩)
  · exact .inr h
section
variable {P : Program} {w : World} {K : PySem.W.Frag} {mg : Str → Option Value} {base : Heap} {f : Addr} {fd : FuncData}
abbrev nLeads : List Str := ["pool", "names", "values", "is_whole", "found", "name", "some", "value"]
theorem scLeads : FnScope nLeads ["pool", "names", "values", "is_whole"] (defScope sLeads) := ⟨rfl, rfl, rfl, by decide +kernel, rfl, by decide +kernel, by decide +kernel⟩
theorem ok_leads (F : Fun K "_law_leads" "_law_leads" sLeads f fd) (cT : Cl P w K mg base CX0 1 "_law_take" spTake) (c1 : Cl P w K mg base CX0 2 "_law_one" (spOne K)) (cM : Cl P w K mg base CX0 2 "_law_mixed" (spMixed K))
    (gD : mg "dict" = none) (gL : mg "len" = none) : FnOk P w K mg base CX0 3 f fd ["pool", "names", "values", "is_whole"] (spLeads K) := by
  refine F.ok scLeads (fun vs H Q E h => ?_) (fun cdv A outer s H vs Q E hr h => ?_)
  · obtain ⟨p, a, q, ns, zs, whole, n, rfl, _⟩ := h
    rfl
  · obtain ⟨p, a, q, ns, zs, whole, n, rfl, hp, hn, ha, nap, hq, nqp, l6, z6, zne, nns, nzs, k⟩ := h
    have hu := hu_of hr
    refine ⟨_, pss_cons (ps_set (i := 4) scLeads.nd rfl (Or.inl rfl) pe_dnewK)
      (pss_cons (ps_for PassesOwn.never rfl (pi_list (pv 1)) (pg_name (i := 5) scLeads.nd rfl (Or.inl rfl))
        (pss_cons (ps_set (i := 6) scLeads.nd rfl (Or.inl rfl) (pe_cl cM hr (by decide) pass0 (pa_cons (pv 0) (pa_cons (pv 2) pa_nil))))
        (pss_cut (ps_set (i := 6) scLeads.nd rfl (Or.inl rfl) (pe_ifExp (pt_val (pv 3)) (pv 6) (pe_slice sl_list (pv 6) po_none (po_some (pe_cl cT hr (by decide) pass0 (pa_cons (pv 0) (pa_cons (pe_op op_add (pe_callB call_len_seq (by rfl) gL PySem.boot_len (pa_cons (pv 2) pa_nil)) pe_int) pa_nil)))))))
        (pss_one (ps_asg (pe_callTy (call_dictP rfl) (by rfl) gD (by decide +kernel) (pa_cons (pe_lc (own := [("value", 7)]) (g := gName 7) (tt := tYes) rfl scLeads.nd (pi_list (pv 6)) (blkOk_by (N := nLeads) (sc := defScope sLeads) (by decide +kernel))
            (fun _ _ _ _ _ => pg_name (i := 7) scLeads.nd rfl (Or.inl rfl)) (fun _ _ _ _ _ => pts_nil)
            (fun _ _ _ _ _ => pe_tup (pa_cons (pv 7) (pa_cons (pe_cl c1 hr (by decide) pass0 (pa_cons (pv 0) (pa_cons (pv 2) pa_nil))) pa_nil)))) pa_nil)) (pg_sub (pv 4) (pv 5) (set_dict hu)))))))
      (pss_one (ps_ret (pv 4)))), ?_⟩
    intro D nD
    have nDp := ne_spring hp nD
    have exD : Ext p H (upd H D (.dK [])) := ext_new nD
    refine ⟨_, rfl, a, rfl, ⟨ns.map V.str, sqL_ext nap exD ha⟩, ?_⟩
    refine for_list (K := K) (a := a) (xs := ns.map V.str) (fun i σ H1 => ∃ (o5 o6 : Option V) (rs : List (Key × V)) (tb : Rows), σ = [some (.ref p), some (.ref a), some (.ref q), some (.bl whole), some (.ref D), o5, o6, none] ∧ Ext p H H1 ∧ Spring H1 p (n + 13 * i) ∧
        H1 D = some (.dK rs) ∧ Paired (fun (r : Key × V) (t : Str × List (Str × Str)) => ∃ b, r = (Sum.inr t.1, V.ref b) ∧ H b = none ∧ b ≠ D ∧ H1 b = some (.dK (tx t.2))) rs tb ∧ tb.map (·.1) = ns.take i ∧ ∀ t ∈ tb, LdOk zs whole t.2) ?_ ?_ ?_ ?_
    · exact ⟨none, none, [], [], rfl, exD, hp.to (upd_ne nDp.symm), upd_same, .nil, rfl, fun t h => (by cases h)⟩
    · rintro i σ H1 _ ⟨_, _, _, _, _, ex, _⟩
      exact sqL_ext nap ex ha
    · rintro i x σ H1 hi ⟨o5, o6, rs, tb, rfl, ex, sp, hD, pr, keys, ok⟩
      have hi0 : i < ns.length := by
        obtain ⟨z, _⟩ := List.getElem?_eq_some_iff.mp hi
        rw [List.length_map] at z
        exact z
      have en : ns[i]? = some ns[i] := List.getElem?_eq_getElem hi0
      rw [List.getElem?_map, en] at hi
      obtain rfl : V.str ns[i] = x := Option.some.inj hi
      have nDp1 : D ≠ p := nDp
      refine ⟨_, rfl, _, rfl, p, q, _, n + 13 * i, rfl, sp, by rw [List.length_map]; omega, sqL_ext nqp ex hq, nqp, by rw [List.length_map]; omega, fun H2 l ys pm nl ex2 hl sp2 => ?_⟩
      obtain ⟨ws, rfl, pw⟩ := perm_strs pm
      have wlen : ws.length = zs.length := pw.length_eq
      have wnd : ws.Nodup := pw.nodup_iff.mpr nzs
      rw [List.length_map] at sp2
      have exA := ext_trans ex ex2
      have nlp := ne_spring sp nl
      refine ⟨fun σ H3 => ∃ (l2 : Addr) (us : List Str), σ = [some (.ref p), some (.ref a), some (.ref q), some (.bl whole), some (.ref D), some (.str ns[i]), some (.ref l2), none] ∧ Ext p H1 H3 ∧ Spring H3 p (n + 13 * i + 7) ∧ H3 l2 = some (.lst (us.map V.str)) ∧ l2 ≠ p ∧
        us.Nodup ∧ (∀ u ∈ us, u ∈ zs) ∧ us.length ≤ zs.length ∧ (whole = true → us.length = zs.length), ?_, ?_⟩
      · refine ⟨_, rfl, _, rfl, ?_⟩
        cases whole with
        | true =>
          rw [if_pos rfl]
          exact ⟨_, rfl, l, ws, rfl, ex2, sp2.more (by omega), hl, nlp, wnd, fun u hu => pw.subset hu, by omega, fun _ => wlen⟩
        | false =>
          rw [if_neg (by decide)]
          refine ⟨_, rfl, _, rfl, _, rfl, q, _, rfl, .inl (sqL_ext nqp exA hq), _, _, rfl, rfl, ?_⟩
          have zl : (List.map V.str zs).length = zs.length := List.length_map _
          refine ⟨p, _, _, rfl, sp2, by omega, by omega, by omega, fun H3 r r0 r1 bt sp3 => ?_⟩
          obtain ⟨j, rfl⟩ := Int.eq_ofNat_of_zero_le r0
          have hl3 : H3 l = some (.lst (ws.map V.str)) := (bt l nlp).trans hl
          refine ⟨_, rfl, l, _, rfl, SqL.of hl3, fun p1 np1 => ?_⟩
          have e1 : cutV (ws.map V.str) none (some (j : Int)) = (ws.take j).map V.str := by rw [cut_head, List.map_take]
          obtain ⟨xs3, es3⟩ := spring_some sp3
          refine ⟨p1, ws.take j, rfl, ext_trans ex2 (ext_trans (ext_but bt) (ext_new np1)), (sp3.to (upd_ne (ne_of_none es3 np1))).more (by omega), by rw [upd_same, e1], (ne_of_none es3 np1).symm, wnd.sublist (List.take_sublist _ _), fun u hu => pw.subset (List.mem_of_mem_take hu), ?_, fun z => (by cases z)⟩
          rw [List.length_take]
          omega
      · rintro σ H3 ⟨l2, us, rfl, ex3, sp3, hl2, nl2, und, uin, ule, uall⟩
        have nl2s : SqL K H3 l2 (us.map V.str) := SqL.of hl2
        have ulen : us.length ≤ 6 := by omega
        refine ⟨_, rfl, l2, rfl, ⟨_, nl2s⟩, fun D2 nD2 => ?_⟩
        have nD2p := ne_spring sp3 nD2
        have ex13 : Ext p H H3 := ext_trans ex ex3
        refine lc_it walk_list (fun j H4 => ∃ (ps : List Addr) (l' : List (Str × Str)), Ext p H3 H4 ∧ Spring H4 p (n + 13 * i + 7 + j) ∧ H4 D2 = some (.lst (ps.map V.ref)) ∧ Paired (fun t (kv : Key × V) => SqT K H4 t [kV kv.1, kv.2]) ps (tx l') ∧ l'.map (·.1) = us.take j ∧ LeadIn zs l')
          ⟨[], [], ext_new nD2, sp3.to (upd_ne nD2p.symm), upd_same, .nil, rfl, fun z h => (by cases h)⟩ (fun j H4 _ q => by
            obtain ⟨_, _, e4, _⟩ := q
            exact sqL_ext nl2 e4 nl2s) ?_ ?_
        · rintro j x H4 H5 hj ⟨ps, l', ex4, sp4, hD2, pr4, keys4, li4⟩ ⟨rfl, ez⟩
          rw [List.length_map] at hj
          have ez0 : us[j]? = some us[j] := List.getElem?_eq_getElem hj
          rw [List.getElem?_map, ez0] at ez
          obtain rfl : V.str us[j] = x := Option.some.inj ez
          refine ⟨rfl, ?_⟩
          unfold tYes
          dsimp only
          rw [if_pos rfl]
          have zl : (List.map V.str zs).length = zs.length := List.length_map _
          have zpos : 0 < zs.length := List.length_pos_iff.mpr zne
          refine ⟨_, rfl, _, rfl, _, rfl, p, q, _, _, rfl, sp4, by omega, sqL_ext nqp (ext_trans ex13 ex4) hq, nqp, by omega, by omega, fun H6 v vin bt sp6 => ?_⟩
          obtain ⟨z, hz, rfl⟩ := List.mem_map.mp vin
          refine ⟨by show 2 ≤ sizeLine; decide, fun t nt => ?_⟩
          have nD2t : D2 ≠ t := fun e => by
            rw [← e, bt D2 nD2p, hD2] at nt
            cases nt
          have ntp := ne_spring sp6 nt
          have len4 : ps.length = j := by
            rw [Paired.length pr4, tx, List.length_map]
            have := congrArg List.length keys4
            rw [List.length_map, List.length_take] at this
            omega
          refine ⟨ps.map V.ref, by rw [upd_ne nD2t, bt D2 nD2p]; exact hD2, by rw [List.length_map, len4]; exact Nat.lt_of_lt_of_le hj (Nat.le_trans ulen (by decide)), ?_⟩
          have fin : ∀ b o, b ≠ p → b ≠ D2 → H5 b = some o → upd (upd H6 t (.tup [V.str us[j], V.str z])) D2 (.lst (ps.map V.ref ++ [V.ref t])) b = some o := fun b o nb nd e => by
            have e6 := (bt b nb).trans e
            rw [upd_ne nd, upd_ne (ne_of_none e6 nt)]
            exact e6
          obtain ⟨x5, e5⟩ := spring_some sp4
          have nl5 : NL H5 (upd (upd H6 t (.tup [V.str us[j], V.str z])) D2 (.lst (ps.map V.ref ++ [V.ref t]))) := fun b o e no => fin b o (fun z => no x5 (by rw [z, e5] at e; exact (Option.some.inj e).symm)) (fun z => no _ (by rw [z, hD2] at e; exact (Option.some.inj e).symm)) e
          refine ⟨ps ++ [t], l' ++ [(us[j], z)], fun b o nb e => fin b o nb (ne_of_none e nD2) (ex4 b o nb e), (sp6.to (by rw [upd_ne nD2p.symm, upd_ne ntp.symm])).more (by omega), by rw [upd_same, List.map_append]; rfl, ?_, ?_, fun y hy => ?_⟩
          · rw [tx_app]
            refine paired_snoc (Paired.mapP pr4 fun t' kv q => sqT_nl nl5 q) ?_
            exact .inl (.inl (by rw [upd_ne nD2t.symm, upd_same]; rfl))
          · rw [List.map_append, keys4, List.take_succ, ez0]
            rfl
          · rcases List.mem_append.mp hy with hy | hy
            · exact li4 y hy
            · rw [List.mem_singleton.mp hy]
              exact ⟨uin _ (List.getElem_mem hj), hz⟩
        · rintro H4 ⟨ps, l', ex4, sp4, hD2, pr4, keys4, li4⟩
          rw [List.length_map] at sp4 keys4
          rw [List.take_of_length_le (Nat.le_refl _)] at keys4
          have lnd : (l'.map (·.1)).Nodup := by rw [keys4]; exact und
          have llen : l'.length = us.length := by
            have := congrArg List.length keys4
            rw [List.length_map] at this
            exact this
          refine ⟨D2, ps, tx l', rfl, SqL.of hD2, pr4, fun dl ndl => ?_⟩
          have mk : mergeK [] (tx l') = tx l' := putK_all (tx l') [] (by rw [List.nil_append]; exact tx_nd lnd)
          rw [mk]
          have ex14 := ext_trans ex3 ex4
          have hD4 : H4 D = some (.dK rs) := ex14 D _ nDp hD
          have nDdl : D ≠ dl := ne_of_none hD4 ndl
          have ndlp := ne_spring sp4 ndl
          have e0 : H dl = none := ext_free (ext_trans ex ex14) hp ndl ndlp
          have rlen : rs.length = i := by
            rw [Paired.length pr]
            have := congrArg List.length keys
            rw [List.length_map, List.length_take] at this
            omega
          refine ⟨_, rfl, _, rfl, D, _, rfl, DPut.k (k := Sum.inr ns[i]) (show upd H4 dl (.dK (tx l')) D = some (.dK rs) by rw [upd_ne nDdl]; exact hD4) (by rw [rlen]; exact Nat.lt_of_lt_of_le hi0 (Nat.le_trans l6 (by decide))), ?_⟩
          have keysR : rs.map (·.1) = (ns.take i).map Sum.inr := by
            rw [rows_keys (fun r t q => by obtain ⟨b, e, _⟩ := q; rw [e]) pr, keys]
          have vn : valV rs (Sum.inr ns[i]) = none := valV_none_keys (by
            rw [keysR]
            intro m
            obtain ⟨y, hy, ey⟩ := List.mem_map.mp m
            rw [Sum.inr.inj ey] at hy
            obtain ⟨j, hj, ej⟩ := List.mem_iff_getElem.mp hy
            rw [List.length_take] at hj
            rw [List.getElem_take] at ej
            have := (List.getElem_inj nns).mp ej
            omega)
          have fin : ∀ b o, b ≠ p → b ≠ D → H1 b = some o → upd (upd H4 dl (.dK (tx l'))) D (.dK (rs ++ [(Sum.inr ns[i], .ref dl)])) b = some o := fun b o nb nd e => by
            have e4 := ex14 b o nb e
            rw [upd_ne nd, upd_ne (ne_of_none e4 ndl)]
            exact e4
          rw [putK_new _ vn]
          refine ⟨_, _, _, tb ++ [(ns[i], l')], rfl, fun b o nb e => fin b o nb (ne_of_none e nD) (ex b o nb e), (sp4.to (by rw [upd_ne nDp.symm, upd_ne ndlp.symm])).more (by omega), upd_same, ?_, ?_, fun t ht => ?_⟩
          · obtain ⟨x1, e1⟩ := spring_some sp
            refine paired_snoc (Paired.mapP pr fun r t q => ?_) ⟨dl, rfl, e0, nDdl.symm, by rw [upd_ne nDdl.symm, upd_same]⟩
            obtain ⟨b, e, n1, n2, h2⟩ := q
            exact ⟨b, e, n1, n2, fin b _ (fun z => by rw [z, e1] at h2; cases h2) n2 h2⟩
          · rw [List.map_append, keys, List.take_succ, en]
            rfl
          · rcases List.mem_append.mp ht with ht | ht
            · exact ok t ht
            · rw [List.mem_singleton.mp ht]
              exact ⟨lnd, li4, by rw [llen]; exact ule, fun z => by rw [llen]; exact uall z⟩
    · rintro σ H1 ⟨o5, o6, rs, tb, rfl, ex, sp, hD, pr, keys, ok⟩
      rw [List.length_map] at sp keys
      rw [List.take_of_length_le (Nat.le_refl _)] at keys
      exact ⟨_, rfl, k H1 D tb ex sp ⟨nD, rs, hD, Paired.mapP pr fun r t q => by
        obtain ⟨b, e, h1, _, h2⟩ := q
        exact ⟨b, e, h1, h2⟩⟩ keys ok⟩
end
end K01
/-! ## L3 -/
set_option Elab.async false
set_option linter.all false
set_option maxRecDepth 100000
set_option maxHeartbeats 4000000
namespace K01
open PySem PySem.Spec PyProof.Rows L2 ErrK
abbrev sTold : Stmt := tp 26
/-- a lead as a list of pairs at lb -/
def PairsAt (H : Hp) (lb : Addr) (l : List (Str × Str)) : Prop := ∃ ps : List Addr, H lb = some (.lst (ps.map V.ref)) ∧ Paired (fun c (q : Str × Str) => H c = some (.tup [V.str q.1, V.str q.2])) ps l
def RowTAt (H : Hp) (b : Addr) (t : Str × List (Str × Str)) : Prop := ∃ lb, H b = some (.tup [V.str t.1, .ref lb]) ∧ PairsAt H lb t.2
/-- rows as a list of pairs at l -/
def RowsAt (H : Hp) (l : Addr) (tb : Rows) : Prop := ∃ bs : List Addr, H l = some (.lst (bs.map V.ref)) ∧ Paired (RowTAt H) bs tb
def pairsD (l : List (Str × Str)) : List PyData := l.map fun q => .tuple [.str q.1, .str q.2]
def rowsD (tb : Rows) : List PyData := tb.map fun t => .tuple [.str t.1, .list (pairsD t.2)]
section
variable {K : PySem.W.Frag} {H H' : Hp}
theorem pairs_same (s : Same H H') {lb : Addr} {l : List (Str × Str)} (h : PairsAt H lb l) : PairsAt H' lb l := by
  obtain ⟨ps, h1, h2⟩ := h
  exact ⟨ps, s _ _ h1, Paired.mapP h2 fun c q e => s _ _ e⟩
theorem rowT_same (s : Same H H') {b : Addr} {t : Str × List (Str × Str)} (h : RowTAt H b t) : RowTAt H' b t := by
  obtain ⟨lb, h1, h2⟩ := h
  exact ⟨lb, s _ _ h1, pairs_same s h2⟩
theorem rowsAt_same (s : Same H H') {l : Addr} {tb : Rows} (h : RowsAt H l tb) : RowsAt H' l tb := by
  obtain ⟨bs, h1, h2⟩ := h
  exact ⟨bs, s _ _ h1, Paired.mapP h2 fun b t q => rowT_same s q⟩
theorem sqT_of {a : Addr} {xs : List V} (h : H a = some (.tup xs)) : SqT K H a xs := .inl (.inl h)
theorem dp_pairs {lb : Addr} {l : List (Str × Str)} (h : PairsAt H lb l) : Dp K H (.ref lb) (.list (pairsD l)) := by
  obtain ⟨ps, h1, h2⟩ := h
  refine .lst (SqL.of h1) ?_
  clear h1
  induction h2 with
  | nil => exact .nil
  | cons h _ ih => exact .cons (.tup (sqT_of h) (.cons (.str _) (.cons (.str _) .nil))) ih
theorem dp_rows {l : Addr} {tb : Rows} (h : RowsAt H l tb) : Dp K H (.ref l) (.list (rowsD tb)) := by
  obtain ⟨bs, h1, h2⟩ := h
  refine .lst (SqL.of h1) ?_
  clear h1
  induction h2 with
  | nil => exact .nil
  | cons h _ ih =>
    obtain ⟨lb, h1, h2⟩ := h
    exact .cons (.tup (sqT_of h1) (.cons (.str _) (.cons (dp_pairs h2) .nil))) ih
end
def spTold (K : PySem.W.Frag) : Sp := fun vs H Q _ => ∃ (d p : Addr) (zs : List Str) (tb : Rows), vs = [.ref d, .ref p] ∧ TbAt H d tb ∧ RowsOk tb ∧ SqL K H p (zs.map V.str) ∧ zs.Nodup ∧ zs.length ≤ 1000 ∧
  ∀ (H' : Hp) (D : Addr), Same H H' → H D = none → RowsAt H' D (ordR zs tb) → Q (.ref D) H'
section
variable {P : Program} {w : World} {K : PySem.W.Frag} {mg : Str → Option Value} {base : Heap} {f : Addr} {fd : FuncData}
abbrev nTold : List Str := ["leads", "values", "name", "value"]
theorem scTold : FnScope nTold ["leads", "values"] (defScope sTold) := ⟨rfl, rfl, rfl, by decide +kernel, rfl, by decide +kernel, by decide +kernel⟩
/-- the scope of the comprehension that is handed back -/
def retScopeL (st : Stmt) : Scope := match defBody st with
  | [.Return (some (.ListComp _ _ sc _)) _] => sc
  | _ => defScope st
theorem ok_told (F : Fun K "_law_told" "_law_told" sTold f fd) (gS : mg "sorted" = none) : FnOk P w K mg base CX0 1 f fd ["leads", "values"] (spTold K) := by
  refine F.ok scTold (fun vs H Q E h => ?_) (fun cdv A outer s H vs Q E hr h => ?_)
  · obtain ⟨d, p, zs, tb, rfl, _⟩ := h
    rfl
  · obtain ⟨d, p, zs, tb, rfl, ht, ok, hx, nz, hz, k⟩ := h
    have hu := hu_of hr
    refine ⟨_, pss_one (ps_ret (pe_lc (own := [("name", 2)]) (g := gName 2) (tt := tYes) rfl scTold.nd (pi_list (pe_callB (call_sortedD rfl) (by rfl) gS (by decide +kernel) (pa_cons (pv 0) pa_nil))) (blkOk_by (N := nTold) (sc := defScope sTold) (by decide +kernel))
      (fun _ _ _ _ _ => pg_name (i := 2) scTold.nd rfl (Or.inr rfl)) (fun _ _ _ _ _ => pts_nil)
      (fun _ _ _ _ _ => pe_tup (pa_cons (pv 2) (pa_cons (by
        apply pe_lc (own := [("value", 3)]) (g := gName 3)
        case hc => rfl
        case hN => exact scTold.nd
        case hi =>
          show PI _ _ _ (iList K (tVar 1))
          exact pi_list (pv 1)
        case ok => exact blkOk_by (N := nTold) (sc := relS (retScopeL sTold) (defScope sTold)) (by decide +kernel)
        case hg => exact fun _ _ _ _ _ => pg_name (i := 3) scTold.nd rfl (Or.inl rfl)
        case ht => exact fun _ _ _ _ _ => pts_one (pt_cmp (pc_din hu (pv 3) (pe_dget hu (pv 0) (pv 2) (fun _ _ => rfl))))
        case he => exact fun _ _ _ _ _ => pe_tup (pa_cons (pv 3) (pa_cons (pe_dget hu (pe_dget hu (pv 0) (pv 2) (fun _ _ => rfl)) (pv 3) (fun _ _ => rfl)) pa_nil))
        ) pa_nil))))), ?_⟩
    obtain ⟨rs, hd, pr⟩ := ht
    obtain ⟨nd, h64, rok⟩ := ok
    have keys : rs.map (·.1) = (tb.map (·.1)).map Sum.inr := rows_keys (fun r t q => by obtain ⟨a, e, _⟩ := q; rw [e]) pr
    refine ⟨_, rfl, d, rs, tb.map (·.1), rfl, .inl hd, keys, by rw [List.length_map]; exact h64, fun ys l perm srtd nl => ⟨l, rfl, ⟨ys.map V.str, SqL.of upd_same⟩, fun D nD => ?_⟩⟩
    have ey := srt_eq perm srtd
    have nys : ys.Nodup := perm.nodup_iff.mpr nd
    have ylen : ys.length < 64 := by rw [perm.length_eq, List.length_map]; exact h64
    have sl : Same H (upd H l (.lst (ys.map V.str))) := fun b o e => up_new nl e
    have nDH : H D = none := sl.free nD
    refine lc_it walk_list (fun i H1 => Same (upd H l (.lst (ys.map V.str))) H1 ∧ ∃ bs : List Addr, H1 D = some (.lst (bs.map V.ref)) ∧ Paired (fun b (t : Str × List (Str × Str)) => ∃ lb, lb ≠ D ∧ H1 b = some (.tup [V.str t.1, .ref lb]) ∧ PairsAt H1 lb t.2) bs ((ys.take i).map fun n => (n, pick zs (lookR tb n))))
      ⟨fun b o e => up_new nD e, [], upd_same, .nil⟩ (fun i H1 _ q => q.1.seq (SqL.of upd_same)) ?_ ?_
    · rintro i x H1 H2 hi ⟨sm, bs, hD, pr1⟩ ⟨rfl, ex⟩
      rw [List.length_map] at hi
      have ex0 : ys[i]? = some ys[i] := List.getElem?_eq_getElem hi
      rw [List.getElem?_map, ex0] at ex
      obtain rfl : V.str ys[i] = x := Option.some.inj ex
      have mem : ys[i] ∈ tb.map (·.1) := perm.subset (List.getElem_mem hi)
      obtain ⟨a, va, ha⟩ := tb_get pr mem
      have s2 : Same H H2 := sl.trans sm
      have blen : bs.length = i := by
        rw [Paired.length pr1, List.length_map, List.length_take]
        omega
      refine ⟨rfl, ?_⟩
      unfold tYes
      dsimp only
      rw [if_pos rfl]
      refine ⟨_, rfl, _, rfl, p, rfl, ⟨_, s2.seq hx⟩, fun D2 nD2 => ?_⟩
      have nD2D : D2 ≠ D := fun z => by rw [z, hD] at nD2; cases nD2
      refine lc_it walk_list (fun j H3 => Same H2 H3 ∧ ∃ ps : List Addr, H3 D2 = some (.lst (ps.map V.ref)) ∧ Paired (fun c (q : Str × Str) => H3 c = some (.tup [V.str q.1, V.str q.2])) ps (pick (zs.take j) (lookR tb ys[i]))) ⟨fun b o e => up_new nD2 e, [], upd_same, .nil⟩ (fun j H3 _ z => z.1.seq (s2.seq hx)) ?_ ?_
      · rintro j x H3 H4 hj ⟨sm3, ps, hD2, pr3⟩ ⟨rfl, ez⟩
        rw [List.length_map] at hj
        have ez0 : zs[j]? = some zs[j] := List.getElem?_eq_getElem hj
        rw [List.getElem?_map, ez0] at ez
        obtain rfl : V.str zs[j] = x := Option.some.inj ez
        have s3 : Same H H4 := s2.trans sm3
        have hd4 := s3 _ _ hd
        have ha4 := s3 _ _ ha
        have g1 : DGet H4 d (.str ys[i]) (some (.ref a)) := by
          rw [← va]
          exact DGet.k (k := Sum.inr ys[i]) hd4
        have g2 : DGet H4 a (.str zs[j]) (((lookR tb ys[i]).lookup zs[j]).map V.str) := by
          rw [← valV_tx]
          exact DGet.k (k := Sum.inr zs[j]) ha4
        refine ⟨rfl, ?_⟩
        refine ⟨_, rfl, _, rfl, _, rfl, d, .ref a, rfl, g1, a, _, rfl, g2, _, rfl, ?_⟩
        have sn := pick_snoc (l := lookR tb ys[i]) ez0
        cases lk : (lookR tb ys[i]).lookup zs[j] with
        | none =>
          rw [lk] at sn
          refine iteF ⟨sm3, ps, hD2, ?_⟩
          rw [sn, List.append_nil]
          exact pr3
        | some v =>
          rw [lk] at sn g2
          refine iteT ⟨_, rfl, _, rfl, _, rfl, d, .ref a, rfl, g1, _, rfl, a, .str v, rfl, g2, by show 2 ≤ sizeLine; decide, fun t nt => ?_⟩
          have nD2t : D2 ≠ t := ne_of_none hD2 nt
          have plen : ps.length ≤ zs.length := by
            rw [Paired.length pr3]
            refine Nat.le_trans (pick_len _ _) ?_
            rw [List.length_take]
            omega
          refine ⟨ps.map V.ref, by rw [upd_ne nD2t]; exact hD2, by rw [List.length_map]; exact Nat.lt_of_le_of_lt plen (Nat.lt_of_le_of_lt hz (by decide)), fun b o e => ?_, ps ++ [t], by rw [upd_same, List.map_append]; rfl, ?_⟩
          · rw [upd_ne (ne_of_none e nD2)]
            exact up_new nt (sm3 _ _ e)
          · rw [sn]
            refine paired_snoc (Paired.mapP pr3 fun c q e => ?_) (by rw [upd_ne nD2t.symm, upd_same])
            rw [upd_ne (fun z => by rw [z, hD2] at e; cases e)]
            exact up_new nt e
      · rintro H5 ⟨s5, ps, hD2, pr5⟩
        rw [List.length_map, List.take_of_length_le (Nat.le_refl _)] at pr5
        refine ⟨by show 2 ≤ sizeLine; decide, fun t nt => ?_⟩
        have hD5 := s5 _ _ hD
        have nDt : D ≠ t := ne_of_none hD5 nt
        have nD2t : D2 ≠ t := ne_of_none hD2 nt
        have keep : ∀ b o, b ≠ D → H5 b = some o → upd (upd H5 t (.tup [V.str ys[i], .ref D2])) D (.lst (bs.map V.ref ++ [V.ref t])) b = some o := fun b o nb e => by
          rw [upd_ne nb]
          exact up_new nt e
        have tupD : ∀ {c : Addr} {xs : List V}, H5 c = some (.tup xs) → c ≠ D := fun {c xs} e z => by
          rw [z, hD5] at e
          cases e
        have pk : ∀ {lb : Addr} {l : List (Str × Str)}, lb ≠ D → PairsAt H5 lb l → PairsAt (upd (upd H5 t (.tup [V.str ys[i], .ref D2])) D (.lst (bs.map V.ref ++ [V.ref t]))) lb l := fun {lb l} nb q => by
          obtain ⟨ps, h1, h2⟩ := q
          exact ⟨ps, keep _ _ nb h1, Paired.mapP h2 fun c q e => keep _ _ (tupD e) e⟩
        refine ⟨bs.map V.ref, by rw [upd_ne nDt]; exact hD5, by rw [List.length_map, blen]; exact Nat.lt_trans hi (Nat.lt_trans ylen (by decide)), fun b o e => keep b o (ne_of_none e nD) (s5 _ _ (sm _ _ e)), bs ++ [t], by rw [upd_same, List.map_append]; rfl, ?_⟩
        rw [List.take_succ, ex0, List.map_append]
        refine paired_snoc (Paired.mapP pr1 fun b tt q => ?_) ⟨D2, nD2D, by rw [upd_ne nDt.symm, upd_same], pk nD2D ⟨ps, hD2, pr5⟩⟩
        obtain ⟨lb, n1, h1, h2⟩ := q
        exact ⟨lb, n1, keep _ _ (tupD (s5 _ _ h1)) (s5 _ _ h1), pk n1 (pairs_same s5 h2)⟩
    · rintro H1 ⟨sm, bs, hD, pr1⟩
      rw [List.length_map, List.take_of_length_le (Nat.le_refl _)] at pr1
      refine k H1 D (sl.trans sm) nDH ⟨bs, hD, ?_⟩
      unfold ordR
      rw [← ey]
      exact Paired.mapP pr1 fun b t q => by
        obtain ⟨lb, _, h1, h2⟩ := q
        exact ⟨lb, h1, h2⟩
end
end K01
/-! ## M1 -/
set_option Elab.async false
set_option linter.all false
set_option maxRecDepth 100000
set_option maxHeartbeats 4000000
namespace K01
open PySem PySem.Spec PyProof.Rows L2 ErrK LamX
/-- but for p and the tables all is kept -/
def XN (p : Addr) (H H' : Hp) : Prop := ∀ b o, b ≠ p → (∀ ps, o ≠ HO.tbl ps) → H b = some o → H' b = some o
section
variable {p : Addr} {H H1 H2 H' : Hp} {T : List (Addr × Str)}
theorem xn_trans (x : XN p H H1) (y : XN p H1 H2) : XN p H H2 := fun b o n t e => y b o n t (x b o n t e)
theorem xn_ext (x : Ext p H H') : XN p H H' := fun b o n _ e => x b o n e
theorem xn_extN (x : ExtN H H') : XN p H H' := fun b o _ t e => x b o e t
theorem xn_same (s : Same H H') : XN p H H' := fun b o _ _ e => s b o e
theorem xn_rfl : XN p H H := fun _ _ _ _ e => e
theorem codeO_lst {c : Addr} {q : Str} (xs : List V) : CodeO c q ≠ .lst xs := fun z => by
  unfold CodeO at z
  cases z
theorem tabs_ext {n : Nat} (t : Tabs T H) (sp : Spring H p n) (x : Ext p H H') : Tabs T H' := fun q hq => by
  obtain ⟨xs, e⟩ := spring_some sp
  obtain ⟨ps, h1, h2, h3⟩ := t q hq
  refine ⟨ps, x _ _ (fun z => by rw [z, e] at h1; cases h1) h1, h2, fun pos cv hc => ?_⟩
  obtain ⟨c, e1, e2⟩ := h3 pos cv hc
  refine ⟨c, e1, x _ _ (fun z => ?_) e2⟩
  rw [z, e] at e2
  exact codeO_lst xs (Option.some.inj e2).symm
theorem spring_xn {n : Nat} (sp : Spring H p n) (x : ExtN H H') : Spring H' p n := by
  obtain ⟨a, b, c, e, r⟩ := sp.at_
  exact ⟨a, b, c, x _ _ e (fun _ z => by cases z), r⟩
theorem tb_xn {d : Addr} {tb : Rows} {n : Nat} (sp : Spring H p n) (x : XN p H H') (t : TbAt H d tb) : TbAt H' d tb := by
  obtain ⟨xs, e⟩ := spring_some sp
  have ne : ∀ {b : Addr} {u : HO}, H b = some u → (∀ ys, u ≠ .lst ys) → b ≠ p := fun {b u} h no z => by
    rw [z, e] at h
    exact no xs (Option.some.inj h).symm
  obtain ⟨rs, hd, pr⟩ := t
  exact ⟨rs, x _ _ (ne hd fun _ z => by cases z) (fun _ z => by cases z) hd, Paired.mapP pr fun r t q => by
    obtain ⟨a, er, h⟩ := q
    exact ⟨a, er, x _ _ (ne h fun _ z => by cases z) (fun _ z => by cases z) h⟩⟩
theorem sqL_xn {K : PySem.W.Frag} {a : Addr} {xs : List V} (ne : a ≠ p) (x : XN p H H') (h : SqL K H a xs) : SqL K H' a xs := by
  rcases h with (h | ⟨o, h⟩) | h
  · exact .inl (.inl (x _ _ ne (fun _ z => by cases z) h))
  · exact .inl (.inr ⟨o, x _ _ ne (fun _ z => by cases z) h⟩)
  · exact .inr h
theorem sqT_xn {K : PySem.W.Frag} {n : Nat} {a : Addr} {xs : List V} (sp : Spring H p n) (x : XN p H H') (h : SqT K H a xs) : SqT K H' a xs := by
  obtain ⟨ys, e⟩ := spring_some sp
  rcases h with (h | ⟨o, h⟩) | h
  · refine .inl (.inl (x _ _ (fun z => ?_) (fun _ z => by cases z) h))
    rw [z, e] at h
    cases h
  · refine .inl (.inr ⟨o, x _ _ (fun z => ?_) (fun _ z => by cases z) h⟩)
    rw [z, e] at h
    cases h
  · exact .inr h
end
/-- the thing's class may be called -/
structure MkT (P : Program) (w : World) (K : PySem.W.Frag) (mg : Str → Option Value) (base : Heap) (c : Cs) : Prop where
  ex : ∃ (f : Addr) (fd : FuncData) (ps : List Str), Mk K c.T f ∧ FnOk P w K mg base (L2.CX P w) 4 f fd ps (spInit w K c) ∧ Binds K fd ps []
  gT : mg "Thing" = some (.ref c.T)
theorem pe_thing {X : Cx} {c : Cs} {E : XK} {e : Expr} {es : List Expr} {t : TA} {p pos : Pos} {j : Nat} (m : MkT X.prog X.w X.K X.mg X.base c) (hr : Room j X.A) (hj : 5 ≤ j) (hx : Passes (L2.CX X.prog X.w) X E) (ha : PA X (e :: es) t) (hg : Gl X "Thing" := by rfl)
    (he : starEach (e :: es) X.env = (false, eval e X.env) :: starEach es X.env := by rfl) (hpl : (backTo pos (starEach es X.env)).any (·.1) = false := by rfl) :
    PE X (.Call (.Name "Thing" p) (e :: es) [] pos) (tMake c.T (spInit X.w X.K c) [] E t) := by
  obtain ⟨f, fd, ps, M, F, b⟩ := m.ex
  exact pe_make M F (hr.mono hj) hg m.gT b .nil hx ha (by decide) he hpl
/-- Thing(x, s, d, e) lets out the error i with the value v; all but Ch is kept -/
def Bad (w : World) (K : PySem.W.Frag) (c : Cs) (H : Hp) (x s d e : V) (i : Nat) (v : V) (Ch : Addr → Prop) : Prop :=
  ∀ (Q : V → Hp → Prop) (E : XK), (∀ H' dd, (∀ b o, ¬ Ch b → H b = some o → H' b = some o) → H dd = none → H' dd = some (.xd [(fldN i, v)]) → E (.ref (c.at i)) (some dd) H') → ThingOut w K c H x s d e Q E
theorem met_out {w : World} {K : PySem.W.Frag} {c : Cs} {H : Hp} {x s d e v : V} {i : Nat} {Ch : Addr → Prop} {R Q : VK} (hi : i < 4) (b : Bad w K c H x s d e i v Ch)
    (h : ∀ H' t, (∀ b o, ¬ Ch b → H b = some o → H' b = some o) → H' t = some (.tup [.str (kindN i), v]) → R (.ref t) H') :
    ∀ x0 dx, H x0 = none → H dx = none → dx ≠ x0 → spInit w K c (.ref x0 :: ([x, s, d, e] ++ [])) (upd (upd H dx (.own x0)) x0 (.ins c.T dx [])) Q (MetE c R) :=
  fun x0 dx n1 n2 n3 => ⟨x0, dx, x, s, d, e, H, rfl, rfl, n1, n2, n3, b _ _ fun H' dd keep nd ed => ⟨i, hi, rfl, dd, v, rfl, ed, fun t nt => h _ t (fun b o nc e => up_new nt (keep b o nc e)) upd_same⟩⟩
section
variable {w : World} {K : PySem.W.Frag} {c : Cs} {H : Hp} {x s d e v : V} {i : Nat} {zs : List Str} {vp : Addr}
/-- the values are none -/
theorem bad_kind {n : String} (ty : TyX K H x (.type n)) (hn : n = "str" ∨ n ∈ kinds) (sq : seqK n = false) : Bad w K c H x s d e 0 (.int 0) (fun _ => False) := fun Q E h => .inl (.inl ⟨n, ty, hn, sq, fun H' dd sm nd ed => h H' dd (fun b o _ e => sm b o e) nd ed⟩)
theorem bad_vals {p : Addr} {xs : List V} {i : Nat} (hp : SqA K H p xs) (hl : xs.length ≤ 1000) (any : ∀ y ∈ xs, Any K H y) (bad : badV xs = some i) : Bad w K c H (.ref p) s d e 0 (.int i) (fun _ => False) := fun Q E h =>
  .inl (.inr ⟨p, xs, i, rfl, hp, hl, any, bad, fun H' dd sm nd ed => h H' dd (fun b o _ e => sm b o e) nd ed⟩)
theorem bad_start (hp : SqA K H vp (zs.map V.str)) (vo : ValsOk zs) (a : Any K H s) (no : isV s zs = false) : Bad w K c H (.ref vp) s d e 1 s (fun _ => False) := fun Q E h =>
  .inr ⟨vp, zs, rfl, hp, vo, .inl ⟨a, no, fun H' dd sm nd ed => h H' dd (fun b o _ e => sm b o e) nd ed⟩⟩
theorem bad_nodeeds {st : Str} (hp : SqA K H vp (zs.map V.str)) (vo : ValsOk zs) (hs : st ∈ zs) (nd : NoDict K H d) : Bad w K c H (.ref vp) (.str st) d e 2 .non (fun _ => False) := fun Q E h =>
  .inr ⟨vp, zs, rfl, hp, vo, .inr ⟨st, rfl, hs, .inl (.inl ⟨nd, fun H' dd sm nd ed => h H' dd (fun b o _ e => sm b o e) nd ed⟩)⟩⟩
theorem bad_deeds {st : Str} {da : Addr} {es : List TEnt} {en : TEnt} (hp : SqA K H vp (zs.map V.str)) (vo : ValsOk zs) (hs : st ∈ zs) (tab : TabAt w K H da es) (fnd : es.find? (fun e => !deedOk zs e) = some en) : Bad w K c H (.ref vp) (.str st) (.ref da) e 2 en.1 (· = da) := fun Q E h =>
  .inr ⟨vp, zs, rfl, hp, vo, .inr ⟨st, rfl, hs, .inl (.inr ⟨da, es, en, rfl, tab, fnd, fun H' dd sm nd ed => h H' dd (fun b o nb e => sm b o nb e) nd ed⟩)⟩⟩
theorem bad_noents {st : Str} {da : Addr} {dtb : Rows} (hp : SqA K H vp (zs.map V.str)) (vo : ValsOk zs) (hs : st ∈ zs) (hd : TbAt H da dtb) (dok : DeedsOk zs dtb) (nd : NoDict K H e) : Bad w K c H (.ref vp) (.str st) (.ref da) e 3 .non (fun _ => False) := fun Q E h => by
  obtain ⟨rd, hd, pd⟩ := hd
  exact .inr ⟨vp, zs, rfl, hp, vo, .inr ⟨st, rfl, hs, .inr ⟨da, dtb, rd, rfl, hd, pd, dok, .inl (.inl ⟨nd, fun H' dd sm nd ed => h H' dd (fun b o _ e => sm b o e) nd ed⟩)⟩⟩⟩
theorem bad_ents {st : Str} {da ea : Addr} {dtb : Rows} {rd : List (Key × V)} {es : List TEnt} {en : TEnt} (hp : SqA K H vp (zs.map V.str)) (vo : ValsOk zs) (hs : st ∈ zs) (hd : H da = some (.dK rd)) (pd : Paired (RowAt H) rd dtb) (dok : DeedsOk zs dtb) (ne : ea ≠ da)
    (tab : TabAt w K H ea es) (fnd : es.find? (fun e => !entOk zs rd e) = some en) : Bad w K c H (.ref vp) (.str st) (.ref da) (.ref ea) 3 en.1 (· = ea) := fun Q E h =>
  .inr ⟨vp, zs, rfl, hp, vo, .inr ⟨st, rfl, hs, .inr ⟨da, dtb, rd, rfl, hd, pd, dok, .inl (.inr ⟨ea, es, en, rfl, ne, tab, fnd, fun H' dd sm nd ed => h H' dd (fun b o nb e => sm b o nb e) nd ed⟩)⟩⟩⟩
end
end K01
/-! ## M2 -/
set_option Elab.async false
set_option linter.all false
set_option maxRecDepth 100000
set_option maxHeartbeats 4000000
namespace K01
open PySem PySem.Spec PyProof.Rows L2 ErrK LamX
abbrev sDoors : Stmt := tp 27
/-- _law_met, to be called with a lambda -/
structure Lm (P : Program) (w : World) (K : PySem.W.Frag) (mg : Str → Option Value) (base : Heap) (c : Cs) : Prop where
  ex : ∃ (g : Addr) (oc : Value) (od : Option Addr) (dV kV doc pm : Value) (an : Option Addr) (cdv ct : Value) (osl : Array (Option Value)), mg "_law_met" = some (.ref g) ∧ PySem.W.keepIn K (.ref g) = true ∧
    K.lookup g = some ⟨oc, od, .func (PySem.W.fnOf "_law_met" "_law_met" (defArgs sMet) (defBody sMet) (defScope sMet) dV kV doc pm an cdv ct), osl⟩ ∧ PySem.W.codeIn K cdv "_law_met" = true ∧
    L2.Binds K (PySem.W.fnOf "_law_met" "_law_met" (defArgs sMet) (defBody sMet) (defScope sMet) dV kV doc pm an cdv ct) ["ask"] []
  es : Errs P w K mg base c
theorem scMet : FnScope ["ask", "e"] ["ask"] (defScope sMet) := ⟨rfl, rfl, rfl, by decide +kernel, rfl, by decide +kernel, by decide +kernel⟩
theorem pe_met {X : Cx} {c : Cs} {cd P : Addr} {params : Arguments} {body : Expr} {scope : Scope} {t : XK → TE} {p lpos pos : Pos} {j k : Nat} (m : Lm X.prog X.w X.K X.mg X.base c) (TB : TabB X.base X.mg cd P) (hcode : X.env.code = .ref cd) (hr : Room j X.A) (hj : k + 2 ≤ j)
    (L : LamS X.env.scope scope) (hdef : defaultsOf params X.env = ([], [])) (hbind : ∀ (q : Str) (cl : List (Str × Addr)) (pm cv ctv : Value), bindArgs (PySem.W.kla_fn "<lambda>" q params body scope cl pm cv ctv) ⟨[], []⟩ = pure [])
    (hbody : ∀ (A : Around) (outer : List Env) (s : Shared) (H : Hp) (E : XK) (f c' : Addr), Room k (A.deeper (lamEnv X scope s.heap.objs.size f c')) → PE (lamCx X A outer s H E scope f c') body (t E)) (hg : Gl X "_law_met" := by rfl) :
    PE X (.Call (.Name "_law_met" p) [.Lambda params body scope lpos] [] pos) (tLam [(P, X.env.qual ++ "<lambda>")] (TMet c) t) := by
  obtain ⟨g, oc, od, dV, kV, doc, pm, an, cdv, ct, osl, hm, hk, lk, hcg, hb⟩ := m.ex
  exact pe_lamcall hg hm hk lk hcg hb scMet rfl (Or.inl rfl) (met_gives m.es) TB hcode (List.mem_singleton.mpr rfl) (fun q hq _ => by rw [List.mem_singleton.mp hq]) (hr.mono hj) L hdef hbind hbody
/-- a def whose code object is at cd -/
structure FunC (K : PySem.W.Frag) (x qual : Str) (st : Stmt) (f : Addr) (fd : FuncData) (cd : Addr) : Prop where
  ex : ∃ (oc : Value) (od : Option Addr) (kV doc pm : Value) (an : Option Addr) (ct : Value) (osl : Array (Option Value)),
    fd = PySem.W.fnOf x qual (defArgs st) (defBody st) (defScope st) .none kV doc pm an (.ref cd) ct ∧ K.lookup f = some ⟨oc, od, .func fd, osl⟩ ∧ PySem.W.codeIn K (.ref cd) qual = true
  kp : PySem.W.keepIn K (.ref f) = true
section
variable {P : Program} {w : World} {K : PySem.W.Frag} {mg : Str → Option Value} {base : Heap}
theorem FunC.ok {x qual : Str} {st : Stmt} {f cd : Addr} {fd : FuncData} {N ps : List Str} {k : Nat} {sp : Sp} (F : FunC K x qual st f fd cd) (S : FnScope N ps (defScope st)) (len : ∀ vs H Q E, sp vs H Q E → vs.length = ps.length)
    (hbody : ∀ (A : Around) (outer : List Env) (s : Shared) (H : Hp) (vs : List V) (Q : VK) (E : XK), Room k (A.deeper (envOfC qual (defScope st) s.heap.objs.size f (.ref cd))) → sp vs H Q E →
      ∃ t, PSs (cxOf CX0 P w K mg base N qual (defScope st) f (.ref cd) A outer s H E).nox (defBody st) t ∧ t { nx := fun _ H' => Q .non H', rt := Q } (start N vs) H) : FnOk P w K mg base CX0 (k + 1) f fd ps sp := by
  obtain ⟨oc, od, kV, doc, pm, an, ct, osl, rfl, lk, hcd⟩ := F.ex
  refine fn_of lk hcd S len fun A outer s H vs Q E hr hsp => ?_
  obtain ⟨t, h, q⟩ := hbody A outer s H vs Q E hr hsp
  exact ⟨t, h.nox, q⟩
abbrev nDoors : List Str := ["pool", "values", "start", "deeds", "entries", "odd", "loose", "found", "whole", "some", "less", "wrong", "lead", "key", "name", "value"]
theorem scDoors : FnScope nDoors ["pool", "values", "start", "deeds", "entries"] (defScope sDoors) := ⟨rfl, rfl, rfl, by decide +kernel, rfl, by decide +kernel, by decide +kernel⟩
abbrev doorX (P : Program) (w : World) (K : PySem.W.Frag) (mg : Str → Option Value) (base : Heap) (f cd : Addr) (A : Around) (outer : List Env) (s : Shared) (H : Hp) (E : XK) : Cx :=
  (cxOf CX0 P w K mg base nDoors "_law_doors_right" (defScope sDoors) f (.ref cd) A outer s H E).nox
end
end K01
/-! ## M3 -/
set_option Elab.async false
set_option linter.all false
set_option maxRecDepth 100000
set_option maxHeartbeats 4000000
namespace K01
open PySem PySem.Spec PyProof.Rows L2 ErrK LamX
/-- what the def calls -/
structure DoorC (P : Program) (w : World) (K : PySem.W.Frag) (mg : Str → Option Value) (base : Heap) (c : Cs) (cd Pt : Addr) : Prop where
  one : Cl P w K mg base CX0 2 "_law_one" (spOne K)
  lm : Lm P w K mg base c
  mkT : MkT P w K mg base c
  tb : TabB base mg cd Pt
  gL : mg "len" = none
  gI : mg "isinstance" = none
  gB : mg "bool" = none
  gD : mg "dict" = none
  gS : mg "list" = none
/-- one statement, from Pre to Post -/
def Step (X : Cx) (st : Stmt) (Pre Post : L2.St → Hp → Prop) : Prop := ∃ t, PS X st t ∧ ∀ (D : Ends) σ H, Pre σ H → (∀ σ' H', Post σ' H' → D.nx σ' H') → t D σ H
/-- the body from a place on -/
def Part (X : Cx) (ss : List Stmt) (Pre : L2.St → Hp → Prop) (Q : VK) : Prop := ∃ t, PSs X ss t ∧ ∀ σ H, Pre σ H → t { nx := fun _ H' => Q .non H', rt := Q } σ H
abbrev dst (i : Nat) : Stmt := (defBody sDoors).getD i (.Pass ⟨0, 0, 0, 0⟩)
theorem part_step {X : Cx} {st : Stmt} {ss : List Stmt} {Pre Post : L2.St → Hp → Prop} {Q : VK} (S : Step X st Pre Post) (B : Part X ss Post Q) : Part X (st :: ss) Pre Q := by
  obtain ⟨t, p, k⟩ := S
  obtain ⟨t2, p2, k2⟩ := B
  exact ⟨_, pss_cons p p2, fun σ H h => k _ σ H h fun σ' H' q => k2 σ' H' q⟩
section
variable {P : Program} {w : World} {K : PySem.W.Frag} {mg : Str → Option Value} {base : Heap} {f cd Pt : Addr} {c : Cs} {A : Around} {outer : List Env} {s : Shared} {H : Hp} {E : XK}
theorem lamPass (X : Cx) (A : Around) (outer : List Env) (s : Shared) (H : Hp) (E : XK) (scope : Scope) (f c' : Addr) : Passes (L2.CX X.prog X.w) (lamCx X A outer s H E scope f c') E := passes_call (takes_of rfl rfl rfl rfl) fun _ _ _ _ h => h
theorem pe_thingL (X : Cx) {c : Cs} {A : Around} {outer : List Env} {s : Shared} {H : Hp} {E : XK} {scope : Scope} {f c' : Addr} {e : Expr} {es : List Expr} {t : TA} {p pos : Pos} (m : MkT X.prog X.w X.K X.mg X.base c) (hr : Room 5 (A.deeper (lamEnv X scope s.heap.objs.size f c')))
    (ha : PA (lamCx X A outer s H E scope f c') (e :: es) t) (hg : Gl (lamCx X A outer s H E scope f c') "Thing" := by rfl)
    (he : starEach (e :: es) (lamCx X A outer s H E scope f c').env = (false, eval e (lamCx X A outer s H E scope f c').env) :: starEach es (lamCx X A outer s H E scope f c').env := by rfl) (hpl : (backTo pos (starEach es (lamCx X A outer s H E scope f c').env)).any (·.1) = false := by rfl) :
    PE (lamCx X A outer s H E scope f c') (.Call (.Name "Thing" p) (e :: es) [] pos) (tMake c.T (spInit X.w X.K c) [] E t) :=
  pe_thing (X := lamCx X A outer s H E scope f c') m hr (by decide) (lamPass X A outer s H E scope f c') ha hg he hpl
abbrev dHr (A : Around) (s : Shared) (f cd : Addr) : Prop := Room 7 (A.deeper (envOfC "_law_doors_right" (defScope sDoors) s.heap.objs.size f (.ref cd)))
end
end K01
/-! ## M4 -/
set_option Elab.async false
set_option linter.all false
set_option maxRecDepth 100000
set_option maxHeartbeats 2000000
namespace K01
open PySem PySem.Spec PyProof.Rows L2 ErrK LamX
/-- what the def is handed -/
structure DoorIn (K : PySem.W.Frag) (H : Hp) (p vq dd de : Addr) (zs : List Str) (st : Str) (dtb etb : Rows) (n : Nat) : Prop where
  sp : Nonempty (Spring H p n)
  nn : n ≤ 5000
  hv : H vq = some (.lst (zs.map V.str))
  vo : ValsOk zs
  z4 : zs.length ≤ 4
  hs : st ∈ zs
  hd : TbAt H dd dtb
  dok : DeedsOk zs dtb
  he : TbAt H de etb
  eok : EntsOk zs dtb etb
  dl : dtb.length ≤ 2
  el : etb.length ≤ 2
  dy : ∀ t ∈ dtb, t.1 ≠ ("yy" : Str)
  ey : ∀ t ∈ etb, t.1 ≠ ("yy" : Str)
  zz : ("zz" : Str) ∉ zs
abbrev dT (Pt : Addr) : List (Addr × Str) := [(Pt, (("_law_doors_right" : Str) ++ ".<locals>.") ++ "<lambda>")]
def OddF (zs : List Str) (p : Addr) (H : Hp) (x : V) : Prop := (∃ z : Str, x = .str z ∧ z ∉ zs ∧ z.length ≤ 1000) ∨ x = .non ∨ x = .int 5 ∨ x = .bl true ∨ ∃ a o, x = .ref a ∧ a ≠ p ∧ H a = some o ∧ (o = .lst [.str "a"] ∨ o = .dK [])
def LooseF (p : Addr) (H : Hp) (x : V) : Prop := x = .non ∨ x = .int 5 ∨ x = .str "ab" ∨ ∃ a, x = .ref a ∧ a ≠ p ∧ H a = some (.dK [])
theorem odd_xn {zs : List Str} {p : Addr} {H H' : Hp} {x : V} (k : XN p H H') (h : OddF zs p H x) : OddF zs p H' x := by
  rcases h with h | h | h | h | ⟨a, o, e, ne, ho, r⟩
  · exact .inl h
  · exact .inr (.inl h)
  · exact .inr (.inr (.inl h))
  · exact .inr (.inr (.inr (.inl h)))
  · exact .inr (.inr (.inr (.inr ⟨a, o, e, ne, k a o ne (fun ps z => by rcases r with r | r <;> (rw [r] at z; cases z)) ho, r⟩)))
theorem loose_xn {p : Addr} {H H' : Hp} {x : V} (k : XN p H H') (h : LooseF p H x) : LooseF p H' x := by
  rcases h with h | h | h | ⟨a, e, ne, ho⟩
  · exact .inl h
  · exact .inr (.inl h)
  · exact .inr (.inr (.inl h))
  · exact .inr (.inr (.inr ⟨a, e, ne, k a _ ne (fun _ z => by cases z) ho⟩))
/-- where the def stands: what is kept since its start -/
structure At (H H1 : Hp) (p Pt : Addr) (n m : Nat) : Prop where
  xn : XN p H H1
  sp : Nonempty (Spring H1 p (n + m))
  tb : Tabs (dT Pt) H1
theorem sp_some {H : Hp} {p : Addr} {n : Nat} (h : Nonempty (Spring H p n)) : ∃ xs, H p = some (.lst xs) := h.elim fun q => spring_some q
theorem ne_sp {H : Hp} {p : Addr} {n : Nat} (h : Nonempty (Spring H p n)) {d : Addr} (nd : H d = none) : d ≠ p := h.elim fun q => ne_spring q nd
section
variable {P : Program} {w : World} {K : PySem.W.Frag} {mg : Str → Option Value} {base : Heap} {f cd Pt : Addr} {c : Cs} {A : Around} {outer : List Env} {s : Shared} {H : Hp} {E : XK} {p vq dd de : Addr} {zs : List Str} {st : Str} {dtb etb : Rows} {n : Nat}
theorem step0 (hr : dHr A s f cd) (d : DoorC P w K mg base c cd Pt) (I : DoorIn K H p vq dd de zs st dtb etb n) : Step (doorX P w K mg base f cd A outer s H E) (dst 0)
    (fun σ H1 => σ = L2.start nDoors [.ref p, .ref vq, .str st, .ref dd, .ref de] ∧ At H H1 p Pt n 0)
    (fun σ H1 => ∃ odd loose, σ = [some (.ref p), some (.ref vq), some (.str st), some (.ref dd), some (.ref de), some odd, some loose, none, none, none, none, none, none, none, none, none] ∧ At H H1 p Pt n 2 ∧ OddF zs p H1 odd ∧ LooseF p H1 loose) := by
  refine ⟨_, ps_asg (pe_tup (pa_cons (pe_cl d.one hr (by decide) pass0 (pa_cons (pv 0) (pa_cons (pe_lst (pa_cons pe_str (pa_cons pe_str (pa_cons pe_non (pa_cons pe_int (pa_cons pe_bl (pa_cons (pe_lst (pa_cons pe_str pa_nil)) (pa_cons pe_dnewK (pa_cons pe_str pa_nil))))))))) pa_nil)))
        (pa_cons (pe_cl d.one hr (by decide) pass0 (pa_cons (pv 0) (pa_cons (pe_lst (pa_cons pe_non (pa_cons pe_int (pa_cons pe_str (pa_cons pe_dnewK pa_nil))))) pa_nil))) pa_nil))) (pg_tup (by rfl) (pgs_cons (pg_name (i := 5) scDoors.nd rfl (Or.inr rfl)) (pgs_cons (pg_name (i := 6) scDoors.nd rfl (Or.inr rfl)) pgs_nil))), ?_⟩
  rintro D σ H1 ⟨rfl, a⟩ k
  obtain ⟨sp1⟩ := a.sp
  refine ⟨_, rfl, by show 1 ≤ sizeLine; decide, fun l1 n1 d1 m1 => ⟨by show 8 ≤ sizeLine; decide, fun L1 N1 => ?_⟩⟩
  have ex1 : Ext p H1 (upd (upd (upd H1 l1 (.lst [.str "a"])) d1 (.dK [])) L1 (.lst [.str "A", .str "", .non, .int 5, .bl true, .ref l1, .ref d1, .str "abcdefghi"])) := fun b o _ e => up_new N1 (up_new m1 (up_new n1 e))
  have l1p := ne_spring sp1 n1
  have h1l : upd (upd (upd H1 l1 (.lst [.str "a"])) d1 (.dK [])) L1 (.lst [.str "A", .str "", .non, .int 5, .bl true, .ref l1, .ref d1, .str "abcdefghi"]) l1 = some (.lst [.str "a"]) := up_new N1 (up_new m1 upd_same)
  have h1d : upd (upd (upd H1 l1 (.lst [.str "a"])) d1 (.dK [])) L1 (.lst [.str "A", .str "", .non, .int 5, .bl true, .ref l1, .ref d1, .str "abcdefghi"]) d1 = some (.dK []) := up_new N1 upd_same
  have d1p : d1 ≠ p := fun z => by
    obtain ⟨xs, e⟩ := spring_some sp1
    rw [z, up_new n1 e] at m1
    cases m1
  have L1p : L1 ≠ p := fun z => by
    obtain ⟨xs, e⟩ := spring_some sp1
    rw [z, up_new m1 (up_new n1 e)] at N1
    cases N1
  have sp1' := sp1.to (H' := upd (upd (upd H1 l1 (.lst [.str "a"])) d1 (.dK [])) L1 (.lst [.str "A", .str "", .non, .int 5, .bl true, .ref l1, .ref d1, .str "abcdefghi"])) (by rw [upd_ne L1p.symm, upd_ne d1p.symm, upd_ne l1p.symm])
  refine ⟨p, L1, _, n + 0, rfl, sp1', by have := I.nn; omega, SqL.of upd_same, L1p, by show 0 < 8; decide, by show 8 ≤ 1000; decide, fun H2 odd vin bt sp2 => ?_⟩
  have exA := ext_trans ex1 (ext_but bt)
  have oddF : OddF zs p H2 odd := by
    have nw : ∀ z : Str, wordT z = false → z ∉ zs := fun z hz m => by
      have := I.vo.2.2.2 z m
      rw [hz] at this
      cases this
    simp only [List.mem_cons, List.not_mem_nil, or_false] at vin
    rcases vin with rfl | rfl | rfl | rfl | rfl | rfl | rfl | rfl
    · exact .inl ⟨_, rfl, nw _ (by decide +kernel), by decide +kernel⟩
    · exact .inl ⟨_, rfl, nw _ (by decide +kernel), by decide +kernel⟩
    · exact .inr (.inl rfl)
    · exact .inr (.inr (.inl rfl))
    · exact .inr (.inr (.inr (.inl rfl)))
    · exact .inr (.inr (.inr (.inr ⟨_, _, rfl, l1p, (bt _ l1p).trans h1l, .inl rfl⟩)))
    · exact .inr (.inr (.inr (.inr ⟨_, _, rfl, d1p, (bt _ d1p).trans h1d, .inr rfl⟩)))
    · exact .inl ⟨_, rfl, nw _ (by decide +kernel), by decide +kernel⟩
  clear vin h1l h1d sp1' ex1
  refine ⟨_, rfl, fun d2 m2 => ⟨by show 4 ≤ sizeLine; decide, fun L2' N2 => ?_⟩⟩
  have d2p := ne_spring sp2 m2
  have L2p : L2' ≠ p := fun z => by
    obtain ⟨xs, e⟩ := spring_some sp2
    rw [z, up_new m2 e] at N2
    cases N2
  have h2d : upd (upd H2 d2 (.dK [])) L2' (.lst [.non, .int 5, .str "ab", .ref d2]) d2 = some (.dK []) := up_new N2 upd_same
  have sp2' := sp2.to (H' := upd (upd H2 d2 (.dK [])) L2' (.lst [.non, .int 5, .str "ab", .ref d2])) (by rw [upd_ne L2p.symm, upd_ne d2p.symm])
  refine ⟨p, L2', _, n + 0 + 1, rfl, sp2', by have := I.nn; omega, SqL.of upd_same, L2p, by show 0 < 4; decide, by show 4 ≤ 1000; decide, fun H3 loose vin bt2 sp3 => ?_⟩
  have ex23 : Ext p H2 H3 := fun b o nb e => (bt2 b nb).trans (up_new N2 (up_new m2 e))
  have looseF : LooseF p H3 loose := by
    simp only [List.mem_cons, List.not_mem_nil, or_false] at vin
    rcases vin with rfl | rfl | rfl | rfl
    · exact .inl rfl
    · exact .inr (.inl rfl)
    · exact .inr (.inr (.inl rfl))
    · exact .inr (.inr (.inr ⟨_, rfl, d2p, (bt2 _ d2p).trans h2d⟩))
  refine ⟨by show 2 ≤ sizeLine; decide, fun t nt => ?_⟩
  have ex34 : Ext p H3 (upd H3 t (.tup [odd, loose])) := ext_new nt
  refine ⟨t, _, rfl, .inl (.inl upd_same), rfl, ?_⟩
  refine ⟨_, _, rfl, _, _, rfl, rfl, ?_⟩
  refine k _ _ ⟨odd, loose, rfl, ⟨xn_trans a.xn (xn_ext (ext_trans exA (ext_trans ex23 ex34))), ⟨sp3.to (upd_ne (ne_spring sp3 nt).symm)⟩, tabs_ext a.tb sp1 (ext_trans exA (ext_trans ex23 ex34))⟩, odd_xn (xn_ext (ext_trans ex23 ex34)) oddF, loose_xn (xn_ext ex34) looseF⟩
end
end K01
/-! ## M5 -/
set_option Elab.async false
set_option linter.all false
set_option maxRecDepth 100000
set_option maxHeartbeats 2000000
namespace K01
open PySem PySem.Spec PyProof.Rows L2 ErrK LamX
/-- what was there at the start is not fo -/
def Off (H : Hp) (p fo : Addr) : Prop := ∀ b o, b ≠ p → (∀ ps, o ≠ HO.tbl ps) → H b = some o → b ≠ fo
/-- the list of what was met so far -/
def Found (H1 : Hp) (fo : Addr) (prs : List (Str × V)) : Prop := ∃ ts : List Addr, H1 fo = some (.lst (ts.map V.ref)) ∧ Paired (fun t (q : Str × V) => H1 t = some (.tup [.str q.1, q.2])) ts prs
theorem off_new {H H1 : Hp} {p fo : Addr} (x : XN p H H1) (n : H1 fo = none) : Off H p fo := fun b o nb nt e z => by
  have := x b o nb nt e
  rw [z, n] at this
  cases this
theorem tabs_upd {H1 : Hp} {Pt fo : Addr} {xs : List V} {o : HO} (t : Tabs (dT Pt) H1) (h : H1 fo = some (.lst xs)) : Tabs (dT Pt) (upd H1 fo o) := fun q hq => by
  obtain ⟨ps, h1, h2, h3⟩ := t q hq
  refine ⟨ps, by rw [upd_ne (fun z => by rw [z, h] at h1; cases h1)]; exact h1, h2, fun pos cv hc => ?_⟩
  obtain ⟨c, e1, e2⟩ := h3 pos cv hc
  refine ⟨c, e1, ?_⟩
  rw [upd_ne (fun z => by rw [z, h] at e2; exact codeO_lst xs (Option.some.inj e2).symm)]
  exact e2
theorem tabs_new {H1 : Hp} {Pt fo : Addr} {o : HO} (t : Tabs (dT Pt) H1) (h : H1 fo = none) : Tabs (dT Pt) (upd H1 fo o) := t.ext fun b u e => up_new h e
/-- the first one -/
theorem found_new {H H1 H2 : Hp} {p Pt fo t : Addr} {n m : Nat} {k : Str} {v : V} (a : At H H1 p Pt n m) (h : H1 t = some (.tup [.str k, v])) (nf : H1 fo = none) :
    At H (upd H1 fo (.lst [.ref t])) p Pt n m ∧ Found (upd H1 fo (.lst [.ref t])) fo [(k, v)] ∧ Off H p fo ∧ fo ≠ p := by
  obtain ⟨sp⟩ := a.sp
  have nfp := ne_spring sp nf
  refine ⟨⟨xn_trans a.xn (xn_ext (ext_new nf)), ⟨sp.to (upd_ne nfp.symm)⟩, tabs_new a.tb nf⟩, ⟨[t], upd_same, .cons ?_ .nil⟩, off_new a.xn nf, nfp⟩
  exact up_new nf h
/-- one more; from H1 to H2 the call -/
theorem found_more {H H1 H2 : Hp} {p Pt fo t : Addr} {n m m' : Nat} {k : Str} {v : V} {prs : List (Str × V)} {ts : List Addr} (a : At H H2 p Pt n m') (x : XN p H1 H2) (sp1 : Nonempty (Spring H1 p (n + m))) (h1 : H1 fo = some (.lst (ts.map V.ref))) (h2 : Paired (fun t (q : Str × V) => H1 t = some (.tup [.str q.1, q.2])) ts prs)
    (h : H2 t = some (.tup [.str k, v])) (of : Off H p fo) (nfp : fo ≠ p) : At H (upd H2 fo (.lst (ts.map V.ref ++ [.ref t]))) p Pt n m' ∧ Found (upd H2 fo (.lst (ts.map V.ref ++ [.ref t]))) fo (prs ++ [(k, v)]) := by
  have hf2 : H2 fo = some (.lst (ts.map V.ref)) := x _ _ nfp (fun _ z => by cases z) h1
  obtain ⟨sp⟩ := a.sp
  obtain ⟨xs1, e1⟩ := sp_some sp1
  have tupF : ∀ {b : Addr} {us : List V}, H2 b = some (.tup us) → b ≠ fo := fun {b us} e z => by
    rw [z, hf2] at e
    cases e
  refine ⟨⟨fun b o nb nt e => ?_, ⟨sp.to (upd_ne nfp.symm)⟩, tabs_upd a.tb hf2⟩, ts ++ [t], by rw [upd_same, List.map_append]; rfl, paired_snoc (Paired.mapP h2 fun b q e => ?_) (by rw [upd_ne (tupF h)]; exact h)⟩
  · rw [upd_ne (of b o nb nt e)]
    exact a.xn b o nb nt e
  · have e2 : H2 b = some (.tup [.str q.1, q.2]) := x _ _ (fun z => by rw [z, e1] at e; cases e) (fun _ z => by cases z) e
    rw [upd_ne (tupF e2)]
    exact e2
/-- odd and loose ones are not the list -/
theorem odd_off {zs : List Str} {p fo : Addr} {H1 H2 : Hp} {x : V} {o : HO} {ts : List Addr} {t : Addr} (h : OddF zs p H1 x) (hf : H1 fo = some (.lst ((t :: ts).map V.ref))) (k : XN p H1 H2) : OddF zs p (upd H2 fo o) x := by
  rcases h with h | h | h | h | ⟨a, u, e, ne, ho, r⟩
  · exact .inl h
  · exact .inr (.inl h)
  · exact .inr (.inr (.inl h))
  · exact .inr (.inr (.inr (.inl h)))
  · refine .inr (.inr (.inr (.inr ⟨a, u, e, ne, ?_, r⟩)))
    have naf : a ≠ fo := fun z => by
      rw [z, hf] at ho
      rcases r with r | r
      · rw [r] at ho
        cases ho
      · rw [r] at ho
        cases ho
    rw [upd_ne naf]
    exact k a u ne (fun ps z => by rcases r with r | r <;> (rw [r] at z; cases z)) ho
theorem loose_off {p fo : Addr} {H1 H2 : Hp} {x : V} {o : HO} {xs : List V} (h : LooseF p H1 x) (hf : H1 fo = some (.lst xs)) (k : XN p H1 H2) : LooseF p (upd H2 fo o) x := by
  rcases h with h | h | h | ⟨a, e, ne, ho⟩
  · exact .inl h
  · exact .inr (.inl h)
  · exact .inr (.inr (.inl h))
  · refine .inr (.inr (.inr ⟨a, e, ne, ?_⟩))
    have naf : a ≠ fo := fun z => by
      rw [z, hf] at ho
      cases ho
    rw [upd_ne naf]
    exact k a _ ne (fun _ z => by cases z) ho
theorem badFrom_app {rest : List V} : ∀ {xs pre : List Str} {i : Nat}, (pre ++ xs).Nodup → (∀ z ∈ xs, wordT z = true) → badFrom (pre.map V.str) i (xs.map V.str ++ rest) = badFrom ((pre ++ xs).map V.str) (i + xs.length) rest := by
  intro xs
  induction xs with
  | nil =>
    intro pre i _ _
    rw [List.append_nil]
    rfl
  | cons x r ih =>
    intro pre i nd hw
    rw [List.map_cons, List.cons_append, badFrom_step, if_neg]
    · have e : (pre ++ x :: r) = (pre ++ [x]) ++ r := by simp
      rw [e] at nd
      have q := ih (pre := pre ++ [x]) (i := i + 1) nd fun z hz => hw z (List.mem_cons_of_mem _ hz)
      rw [List.map_append] at q
      rw [List.length_cons, e, show i + (r.length + 1) = i + 1 + r.length by omega]
      exact q
    · rintro (z | z)
      · have hx := hw x List.mem_cons_self
        have z : wordT x = false := z
        rw [hx] at z
        cases z
      · obtain ⟨y, hy, ey⟩ := List.mem_map.mp z
        have ey : y = x := by injection ey
        rw [ey] at hy
        rw [List.nodup_append] at nd
        exact nd.2.2 _ hy _ List.mem_cons_self rfl
end K01
/-! ## M6 -/
set_option Elab.async false
set_option linter.all false
set_option maxRecDepth 100000
set_option maxHeartbeats 2000000
namespace K01
open PySem PySem.Spec PyProof.Rows L2 ErrK LamX
section
variable {P : Program} {w : World} {K : PySem.W.Frag} {mg : Str → Option Value} {base : Heap} {f cd Pt : Addr} {c : Cs} {A : Around} {outer : List Env} {s : Shared} {H : Hp} {E : XK} {p vq dd de : Addr} {zs : List Str} {st : Str} {dtb etb : Rows} {n : Nat}
/-- the slots while the first five calls are met -/
abbrev sl1 (p vq dd de : Addr) (st : Str) (odd loose : V) (fo : Option V) : L2.St := [some (.ref p), some (.ref vq), some (.str st), some (.ref dd), some (.ref de), some odd, some loose, fo, none, none, none, none, none, none, none, none]
def Pre1 (H : Hp) (p vq dd de Pt : Addr) (zs : List Str) (st : Str) (n : Nat) (prs : V → List (Str × V)) (m : Nat) : L2.St → Hp → Prop := fun σ H1 => ∃ odd loose fo, σ = sl1 p vq dd de st odd loose (some (.ref fo)) ∧ At H H1 p Pt n m ∧ OddF zs p H1 odd ∧ LooseF p H1 loose ∧ Found H1 fo (prs odd) ∧ Off H p fo ∧ fo ≠ p
theorem vq_at {H1 : Hp} {m : Nat} (I : DoorIn K H p vq dd de zs st dtb etb n) (nvp : vq ≠ p) (a : At H H1 p Pt n m) : H1 vq = some (.lst (zs.map V.str)) := a.xn _ _ nvp (fun _ z => by cases z) I.hv
theorem step1 (hr : dHr A s f cd) (d : DoorC P w K mg base c cd Pt) (I : DoorIn K H p vq dd de zs st dtb etb n) (nvp : vq ≠ p) : Step (doorX P w K mg base f cd A outer s H E) (dst 1)
    (fun σ H1 => ∃ odd loose, σ = sl1 p vq dd de st odd loose none ∧ At H H1 p Pt n 2 ∧ OddF zs p H1 odd ∧ LooseF p H1 loose)
    (Pre1 H p vq dd de Pt zs st n (fun _ => [("values", .int zs.length)]) 3) := by
  refine ⟨_, ps_set (i := 7) scDoors.nd rfl (Or.inl rfl) (pe_lst (pa_cons (pe_met (k := 5) d.lm d.tb rfl hr (by decide) (lamS_by (sc := defScope sDoors) (by decide +kernel)) rfl (fun _ _ _ _ _ => rfl)
        (fun A' o' s' H' E' f' c' hr' => pe_thingL (doorX P w K mg base f cd A outer s H E) d.mkT hr' (pa_cons (pe_op op_cat (pv 1) (pe_lst (pa_cons (pe_cl d.one hr' (by decide) pass0 (pa_cons (pv 0) (pa_cons (pe_op op_cat (pv 1) (pe_lst (pa_cons pe_non (pa_cons pe_str pa_nil)))) pa_nil))) (pa_cons pe_non pa_nil)))) (pa_cons pe_int (pa_cons pe_int (pa_cons pe_int pa_nil)))))) pa_nil)), ?_⟩
  rintro D σ H1 ⟨odd, loose, rfl, a, oF, lF⟩ k
  obtain ⟨ne, nd, zl, hw⟩ := id I.vo
  have zlen : (zs.map V.str).length = zs.length := List.length_map _
  have z4 := I.z4
  refine ⟨a.tb, fun H2 eN t2 => ?_⟩
  obtain ⟨sp1⟩ := a.sp
  have sp2 := spring_xn sp1 eN
  have hv2 : H2 vq = some (.lst (zs.map V.str)) := eN _ _ (vq_at I nvp a) (fun _ z => by cases z)
  refine ⟨_, rfl, _, rfl, _, rfl, by show 2 ≤ sizeLine; decide, fun l1 n1 => ?_⟩
  have hv3 := up_new (o := .lst [V.non, V.str "A"]) n1 hv2
  refine ⟨vq, l1, _, _, rfl, rfl, hv3, upd_same, ?_, fun l2 n2 => ?_⟩
  · rw [zlen]
    exact Nat.le_trans (show zs.length + 2 ≤ 10 by omega) (by decide)
  have ex2 : Ext p H2 (upd (upd H2 l1 (.lst [V.non, V.str "A"])) l2 (.lst (zs.map V.str ++ [V.non, V.str "A"]))) := fun b o _ e => up_new n2 (up_new n1 e)
  have l1p := ne_spring sp2 n1
  have l2p : l2 ≠ p := fun z => by
    obtain ⟨xs, e⟩ := spring_some sp2
    rw [z, up_new n1 e] at n2
    cases n2
  refine ⟨p, l2, _, n + 2, rfl, sp2.to (by rw [upd_ne l2p.symm, upd_ne l1p.symm]), by have := I.nn; omega, SqL.of upd_same, l2p, by rw [List.length_append]; exact Nat.lt_of_lt_of_le (show 0 < 2 by decide) (Nat.le_add_left _ _), by rw [List.length_append, zlen]; exact Nat.le_trans (show zs.length + 2 ≤ 10 by omega) (by decide), fun H3 v vin bt sp3 => ?_⟩
  have ex3 := ext_trans ex2 (ext_but bt)
  have hv4 : H3 vq = some (.lst (zs.map V.str)) := ex3 _ _ nvp hv2
  refine ⟨by show 2 ≤ sizeLine; decide, fun l3 n3 => ⟨vq, l3, _, _, rfl, rfl, up_new n3 hv4, upd_same, ?_, fun l4 n4 => ?_⟩⟩
  · rw [zlen]
    exact Nat.le_trans (show zs.length + 2 ≤ 10 by omega) (by decide)
  have ex4 : Ext p H2 (upd (upd H3 l3 (.lst [v, V.non])) l4 (.lst (zs.map V.str ++ [v, V.non]))) := fun b o nb e => up_new n4 (up_new n3 (ex3 b o nb e))
  have l3p := ne_spring sp3 n3
  have l4p : l4 ≠ p := fun z => by
    obtain ⟨xs, e⟩ := spring_some sp3
    rw [z, up_new n3 e] at n4
    cases n4
  have sp4 := sp3.to (H' := upd (upd H3 l3 (.lst [v, V.non])) l4 (.lst (zs.map V.str ++ [v, V.non]))) (by rw [upd_ne l4p.symm, upd_ne l3p.symm])
  have bad : badV (zs.map V.str ++ [v, V.non]) = some zs.length := by
    have e0 : badV (zs.map V.str ++ [v, V.non]) = badFrom [] 0 (zs.map V.str ++ [v, V.non]) := by
      unfold badV
      rw [if_neg]
      cases zs <;> simp
    rw [e0]
    have q := badFrom_app (rest := [v, V.non]) (xs := zs) (pre := []) (i := 0) nd hw
    rw [List.nil_append, Nat.zero_add] at q
    refine Eq.trans q ?_
    rw [badFrom_step, if_pos]
    rcases List.mem_append.mp vin with m | m
    · exact .inr m
    · simp only [List.mem_cons, List.not_mem_nil, or_false] at m
      rcases m with rfl | rfl
      · exact .inl rfl
      · exact .inl (by decide +kernel)
  have any4 : ∀ y ∈ zs.map V.str ++ [v, V.non], Any K (upd (upd H3 l3 (.lst [v, V.non])) l4 (.lst (zs.map V.str ++ [v, V.non]))) y := fun y hy => by
    have str : ∀ y ∈ zs.map V.str, Any K (upd (upd H3 l3 (.lst [v, V.non])) l4 (.lst (zs.map V.str ++ [v, V.non]))) y := fun y hy => by
      obtain ⟨z, hz, rfl⟩ := List.mem_map.mp hy
      exact any_word (hw z hz)
    have non : Any K (upd (upd H3 l3 (.lst [v, V.non])) l4 (.lst (zs.map V.str ++ [v, V.non]))) V.non := .inr ⟨"NoneType", by decide, .base .non⟩
    have vv : Any K (upd (upd H3 l3 (.lst [v, V.non])) l4 (.lst (zs.map V.str ++ [v, V.non]))) v := by
      rcases List.mem_append.mp vin with m | m
      · exact str v m
      · simp only [List.mem_cons, List.not_mem_nil, or_false] at m
        rcases m with rfl | rfl
        · exact non
        · exact any_str (by decide +kernel)
    rcases List.mem_append.mp hy with m | m
    · exact str y m
    · simp only [List.mem_cons, List.not_mem_nil, or_false] at m
      rcases m with rfl | rfl
      · exact vv
      · exact non
  have len4 : (zs.map V.str ++ [v, V.non]).length ≤ 1000 := by
    rw [List.length_append, zlen]
    exact Nat.le_trans (show zs.length + 2 ≤ 10 by omega) (by decide)
  refine fun x0 dx m1 m2 m3 => met_out (by decide) (bad_vals (.inl (SqL.of upd_same)) len4 any4 bad) (fun H' t keep ht => ?_) x0 dx m1 m2 m3
  have exE : Ext p H2 H' := ext_trans ex4 fun b o _ e => keep b o (fun z => z) e
  have a5 : At H H' p Pt n 3 := ⟨xn_trans a.xn (xn_trans (xn_extN eN) (xn_ext exE)), ⟨sp4.to (by
    obtain ⟨xs, e⟩ := spring_some sp4
    rw [e]
    exact keep _ _ (fun z => z) e)⟩, tabs_ext t2 sp2 exE⟩
  refine ⟨by show 1 ≤ sizeLine; decide, fun fo nfo => ?_⟩
  obtain ⟨a6, fd, of, nfp⟩ := found_new (H2 := H') a5 ht nfo
  have x16 : XN p H1 (upd H' fo (.lst [.ref t])) := xn_trans (xn_trans (xn_extN eN) (xn_ext exE)) (xn_ext (ext_new nfo))
  exact k _ _ ⟨odd, loose, fo, rfl, a6, odd_xn x16 oF, loose_xn x16 lF, fd, of, nfp⟩
end
end K01
/-! ## M7 -/
set_option Elab.async false
set_option linter.all false
set_option maxRecDepth 100000
set_option maxHeartbeats 2000000
namespace K01
open PySem PySem.Spec PyProof.Rows L2 ErrK LamX
section
variable {P : Program} {w : World} {K : PySem.W.Frag} {mg : Str → Option Value} {base : Heap} {f cd Pt : Addr} {c : Cs} {A : Around} {outer : List Env} {s : Shared} {H : Hp} {E : XK} {p vq dd de : Addr} {zs : List Str} {st : Str} {dtb etb : Rows} {n : Nat}
/-- behind a further call -/
theorem more_met {H1 H' : Hp} {odd loose : V} {fo t : Addr} {prs : V → List (Str × V)} {kv : V → Str × V} {m m' : Nat} (a : At H H1 p Pt n m) (oF : OddF zs p H1 odd) (lF : LooseF p H1 loose) {ts : List Addr} (hf : H1 fo = some (.lst (ts.map V.ref)))
    (pr : Paired (fun t (q : Str × V) => H1 t = some (.tup [.str q.1, q.2])) ts (prs odd)) (ne : prs odd ≠ []) (small : (prs odd).length ≤ 100) (of : Off H p fo) (nfp : fo ≠ p) (a' : At H H' p Pt n m') (x : XN p H1 H') (ht : H' t = some (.tup [.str (kv odd).1, (kv odd).2])) {D : Ends}
    (k : ∀ σ' H', Pre1 H p vq dd de Pt zs st n (fun o => prs o ++ [kv o]) m' σ' H' → D.nx σ' H') : ∃ l xs y, V.ref fo = .ref l ∧ [V.ref t] = [y] ∧ H' l = some (.lst xs) ∧ xs.length < sizeLine ∧ D.nx (sl1 p vq dd de st odd loose (some (.ref fo))) (upd H' l (.lst (xs ++ [y]))) := by
  obtain ⟨a6, fd⟩ := found_more (m := m) a' x a.sp hf pr ht of nfp
  have hf2 : H' fo = some (.lst (ts.map V.ref)) := x _ _ nfp (fun _ z => by cases z) hf
  cases ts with
  | nil =>
    cases e : prs odd with
    | nil => exact absurd e ne
    | cons q r =>
      rw [e] at pr
      cases pr
  | cons t0 ts =>
    have len : ((t0 :: ts).map V.ref).length < sizeLine := by
      rw [List.length_map, Paired.length pr]
      exact Nat.lt_of_le_of_lt small (by decide)
    exact ⟨fo, _, _, rfl, rfl, hf2, len, k _ _ ⟨odd, loose, fo, rfl, a6, odd_off oF hf x, loose_off lF hf x, fd, of, nfp⟩⟩
theorem step2 (hr : dHr A s f cd) (d : DoorC P w K mg base c cd Pt) (I : DoorIn K H p vq dd de zs st dtb etb n) (nvp : vq ≠ p) : Step (doorX P w K mg base f cd A outer s H E) (dst 2)
    (Pre1 H p vq dd de Pt zs st n (fun _ => [("values", .int zs.length)]) 3)
    (Pre1 H p vq dd de Pt zs st n (fun _ => [("values", .int zs.length), ("values", .int 0)]) 4) := by
  refine ⟨_, ps_expr (pe_bm PySem.F.plainAttrs_list PySem.F.slot_list_append PySem.F.type_list_append mt_append (pv 7) (pa_cons (pe_met (k := 5) d.lm d.tb rfl hr (by decide) (lamS_by (sc := defScope sDoors) (by decide +kernel)) rfl (fun _ _ _ _ _ => rfl)
        (fun A' o' s' H' E' f' c' hr' => pe_thingL (doorX P w K mg base f cd A outer s H E) d.mkT hr' (pa_cons (pe_cl d.one hr' (by decide) pass0 (pa_cons (pv 0) (pa_cons (pe_lst (pa_cons (pv 6) (pa_cons (pe_lst pa_nil) (pa_cons (pe_tup pa_nil) pa_nil)))) pa_nil))) (pa_cons pe_int (pa_cons pe_int (pa_cons pe_int pa_nil)))))) pa_nil)), ?_⟩
  rintro D σ H1 ⟨odd, loose, fo, rfl, a, oF, lF, ⟨ts, hf, pr⟩, of, nfp⟩ k
  refine ⟨_, rfl, .inl ⟨rfl, _, SqL.of hf⟩, a.tb, fun H2 eN t2 => ?_⟩
  obtain ⟨sp1⟩ := a.sp
  have sp2 := spring_xn sp1 eN
  refine ⟨_, rfl, _, rfl, by show 0 ≤ sizeLine; decide, fun l1 n1 => ⟨by show 0 ≤ sizeLine; decide, fun t1 m1 => ⟨by show 3 ≤ sizeLine; decide, fun L NL => ?_⟩⟩⟩
  have l1p := ne_spring sp2 n1
  have t1p : t1 ≠ p := fun z => by
    obtain ⟨xs, e⟩ := spring_some sp2
    rw [z, up_new n1 e] at m1
    cases m1
  have Lp : L ≠ p := fun z => by
    obtain ⟨xs, e⟩ := spring_some sp2
    rw [z, up_new m1 (up_new n1 e)] at NL
    cases NL
  have ex2 : Ext p H2 (upd (upd (upd H2 l1 (.lst [])) t1 (.tup [])) L (.lst [loose, .ref l1, .ref t1])) := fun b o _ e => up_new NL (up_new m1 (up_new n1 e))
  have hl1 : upd (upd (upd H2 l1 (.lst [])) t1 (.tup [])) L (.lst [loose, .ref l1, .ref t1]) l1 = some (.lst []) := up_new NL (up_new m1 upd_same)
  have ht1 : upd (upd (upd H2 l1 (.lst [])) t1 (.tup [])) L (.lst [loose, .ref l1, .ref t1]) t1 = some (.tup []) := up_new NL upd_same
  refine ⟨p, L, _, n + 3, rfl, sp2.to (by rw [upd_ne Lp.symm, upd_ne t1p.symm, upd_ne l1p.symm]), by have := I.nn; omega, SqL.of upd_same, Lp, by show 0 < 3; decide, by show 3 ≤ 1000; decide, fun H3 v vin bt sp3 => ?_⟩
  have ex3 := ext_trans ex2 (ext_but bt)
  have x13 : XN p H1 H3 := xn_trans (xn_extN eN) (xn_ext ex3)
  have lF3 := loose_xn x13 lF
  have bad : Bad w K c H3 v (.int 5) (.int 5) (.int 5) 0 (.int 0) (fun _ => False) := by
    simp only [List.mem_cons, List.not_mem_nil, or_false] at vin
    rcases vin with rfl | rfl | rfl
    · rcases lF3 with rfl | rfl | rfl | ⟨a0, rfl, _, h0⟩
      · exact bad_kind (.base .non) (.inr (by decide)) rfl
      · exact bad_kind (.base (.int 5)) (.inr (by decide)) rfl
      · exact bad_kind (.base (.str _)) (.inl rfl) rfl
      · exact bad_kind (.base (.dK h0)) (.inr (by decide)) rfl
    · exact bad_vals (xs := []) (i := 0) (.inl (SqL.of ((bt _ l1p).trans hl1))) (by decide) (fun y h => by cases h) rfl
    · exact bad_vals (xs := []) (i := 0) (.inr (sqT_of ((bt _ t1p).trans ht1))) (by decide) (fun y h => by cases h) rfl
  refine fun x0 dx m1 m2 m3 => met_out (by decide) bad (fun H' t keep ht => ?_) x0 dx m1 m2 m3
  have exE : Ext p H2 H' := ext_trans ex3 fun b o _ e => keep b o (fun z => z) e
  have a5 : At H H' p Pt n 4 := ⟨xn_trans a.xn (xn_trans (xn_extN eN) (xn_ext exE)), ⟨sp3.to (by
    obtain ⟨xs, e⟩ := spring_some sp3
    rw [e]
    exact keep _ _ (fun z => z) e)⟩, tabs_ext t2 sp2 exE⟩
  exact more_met (prs := fun _ => [("values", .int zs.length)]) (kv := fun _ => ("values", .int 0)) a oF lF hf pr (List.cons_ne_nil _ _) (by show 1 ≤ 100; decide) of nfp a5 (xn_trans (xn_extN eN) (xn_ext exE)) ht k
end
end K01
/-! ## M8 -/
set_option Elab.async false
set_option linter.all false
set_option maxRecDepth 100000
set_option maxHeartbeats 2000000
namespace K01
open PySem PySem.Spec PyProof.Rows L2 ErrK LamX
section
variable {P : Program} {w : World} {K : PySem.W.Frag} {mg : Str → Option Value} {base : Heap} {f cd Pt : Addr} {c : Cs} {A : Around} {outer : List Env} {s : Shared} {H : Hp} {E : XK} {p vq dd de : Addr} {zs : List Str} {st : Str} {dtb etb : Rows} {n : Nat}
theorem odd_any {H1 : Hp} {odd : V} (oF : OddF zs p H1 odd) : Any K H1 odd ∧ isV odd zs = false := by
  have no : ∀ v : V, (∀ z, v ≠ .str z) → isV v zs = false := fun v h => by
    rw [isV, decide_eq_false]
    intro m
    obtain ⟨z, _, e⟩ := List.mem_map.mp m
    exact h z e.symm
  rcases oF with ⟨z, rfl, nz, hl⟩ | rfl | rfl | rfl | ⟨a, o, rfl, _, ho, rfl | rfl⟩
  · refine ⟨any_str hl, ?_⟩
    rw [isV, decide_eq_false]
    intro m
    obtain ⟨y, hy, e⟩ := List.mem_map.mp m
    have e : y = z := by injection e
    exact nz (by rw [← e]; exact hy)
  · exact ⟨.inr ⟨"NoneType", by decide, .base .non⟩, no _ fun _ z => by cases z⟩
  · exact ⟨.inr ⟨"int", by decide, .base (.int 5)⟩, no _ fun _ z => by cases z⟩
  · exact ⟨.inr ⟨"bool", by decide, .base (.bl true)⟩, no _ fun _ z => by cases z⟩
  · exact ⟨.inr ⟨"list", by decide, .base (.lst ho)⟩, no _ fun _ z => by cases z⟩
  · exact ⟨.inr ⟨"dict", by decide, .base (.dK ho)⟩, no _ fun _ z => by cases z⟩
/-- the call in which nothing is drawn -/
theorem at_keep {H1 H2 H3 H' : Hp} {m : Nat} {Ch : Addr → Prop} (a : At H H1 p Pt n m) (eN : ExtN H1 H2) (t2 : Tabs (dT Pt) H2) (e3 : Ext p H2 H3) (sp3 : Nonempty (Spring H3 p (n + m))) (ch : ∀ b, Ch b → H2 b = none) (keep : ∀ b o, ¬ Ch b → H3 b = some o → H' b = some o) : At H H' p Pt n m ∧ XN p H1 H' := by
  obtain ⟨sp1⟩ := a.sp
  have sp2 := spring_xn sp1 eN
  have exE : Ext p H2 H' := fun b o nb e => keep b o (fun z => by rw [ch b z] at e; cases e) (e3 b o nb e)
  obtain ⟨xs2, e2⟩ := spring_some sp2
  obtain ⟨sp3⟩ := sp3
  refine ⟨⟨xn_trans a.xn (xn_trans (xn_extN eN) (xn_ext exE)), ⟨sp3.to ?_⟩, tabs_ext t2 sp2 exE⟩, xn_trans (xn_extN eN) (xn_ext exE)⟩
  obtain ⟨xs, e⟩ := spring_some sp3
  rw [e]
  exact keep _ _ (fun z => by rw [ch p z] at e2; cases e2) e
abbrev pr2 (zs : List Str) : List (Str × V) := [("values", .int zs.length), ("values", .int 0)]
abbrev pr3 (zs : List Str) (o : V) : List (Str × V) := [("values", .int zs.length), ("values", .int 0), ("start", o)]
abbrev pr4 (zs : List Str) (o : V) : List (Str × V) := [("values", .int zs.length), ("values", .int 0), ("start", o), ("deeds", .non)]
abbrev pr5 (zs : List Str) (o : V) : List (Str × V) := [("values", .int zs.length), ("values", .int 0), ("start", o), ("deeds", .non), ("entries", .non)]
theorem step3 (hr : dHr A s f cd) (d : DoorC P w K mg base c cd Pt) (I : DoorIn K H p vq dd de zs st dtb etb n) (nvp : vq ≠ p) : Step (doorX P w K mg base f cd A outer s H E) (dst 3)
    (Pre1 H p vq dd de Pt zs st n (fun _ => pr2 zs) 4) (Pre1 H p vq dd de Pt zs st n (pr3 zs) 4) := by
  refine ⟨_, ps_expr (pe_bm PySem.F.plainAttrs_list PySem.F.slot_list_append PySem.F.type_list_append mt_append (pv 7) (pa_cons (pe_met (k := 5) d.lm d.tb rfl hr (by decide) (lamS_by (sc := defScope sDoors) (by decide +kernel)) rfl (fun _ _ _ _ _ => rfl)
        (fun A' o' s' H' E' f' c' hr' => pe_thingL (doorX P w K mg base f cd A outer s H E) d.mkT hr' (pa_cons (pv 1) (pa_cons (pv 5) (pa_cons pe_int (pa_cons pe_int pa_nil)))))) pa_nil)), ?_⟩
  rintro D σ H1 ⟨odd, loose, fo, rfl, a, oF, lF, ⟨ts, hf, pr⟩, of, nfp⟩ k
  refine ⟨_, rfl, .inl ⟨rfl, _, SqL.of hf⟩, a.tb, fun H2 eN t2 => ?_⟩
  have hv2 : H2 vq = some (.lst (zs.map V.str)) := eN _ _ (vq_at I nvp a) (fun _ z => by cases z)
  obtain ⟨any, no⟩ := odd_any (K := K) (odd_xn (xn_extN eN) oF)
  refine ⟨_, rfl, _, rfl, fun x0 dx m1 m2 m3 => met_out (by decide) (bad_start (.inl (SqL.of hv2)) I.vo any no) (fun H' t keep ht => ?_) x0 dx m1 m2 m3⟩
  obtain ⟨a5, x5⟩ := at_keep a eN t2 ext_rfl (a.sp.elim fun q => ⟨spring_xn q eN⟩) (fun b z => z.elim) keep
  exact more_met (prs := fun _ => pr2 zs) (kv := fun o => ("start", o)) a oF lF hf pr (List.cons_ne_nil _ _) (by show 2 ≤ 100; decide) of nfp a5 x5 ht k
theorem step4 (hr : dHr A s f cd) (d : DoorC P w K mg base c cd Pt) (I : DoorIn K H p vq dd de zs st dtb etb n) (nvp : vq ≠ p) : Step (doorX P w K mg base f cd A outer s H E) (dst 4)
    (Pre1 H p vq dd de Pt zs st n (pr3 zs) 4) (Pre1 H p vq dd de Pt zs st n (pr4 zs) 4) := by
  refine ⟨_, ps_expr (pe_bm PySem.F.plainAttrs_list PySem.F.slot_list_append PySem.F.type_list_append mt_append (pv 7) (pa_cons (pe_met (k := 5) d.lm d.tb rfl hr (by decide) (lamS_by (sc := defScope sDoors) (by decide +kernel)) rfl (fun _ _ _ _ _ => rfl)
        (fun A' o' s' H' E' f' c' hr' => pe_thingL (doorX P w K mg base f cd A outer s H E) d.mkT hr' (pa_cons (pv 1) (pa_cons (pv 2) (pa_cons (pe_ifExp (pt_not (pt_val (pe_callB (r := rIsi K) (id := "isinstance") (X := lamCx (doorX P w K mg base f cd A outer s H E) A' o' s' H' E' _ f' c') call_isi (by rfl) d.gI (by decide +kernel) (pa_cons (pv 6) (pa_cons (pe_bltn (v := .ty "dict") (by rfl) d.gD (by decide +kernel) rfl) pa_nil))))) (pv 6) pe_non) (pa_cons pe_int pa_nil)))))) pa_nil)), ?_⟩
  rintro D σ H1 ⟨odd, loose, fo, rfl, a, oF, lF, ⟨ts, hf, pr⟩, of, nfp⟩ k
  refine ⟨_, rfl, .inl ⟨rfl, _, SqL.of hf⟩, a.tb, fun H2 eN t2 => ?_⟩
  have hv2 : H2 vq = some (.lst (zs.map V.str)) := eN _ _ (vq_at I nvp a) (fun _ z => by cases z)
  have lF2 := loose_xn (xn_extN eN) lF
  have go : ∀ (Qn : V → Hp → Prop) (v : V), NoDict K H2 v → ∀ x0 dx, H2 x0 = none → H2 dx = none → dx ≠ x0 → spInit w K c (.ref x0 :: ([.ref vq, .str st, v, .int 5] ++ [])) (upd (upd H2 dx (.own x0)) x0 (.ins c.T dx [])) Qn (MetE c fun x H1 => rAppend (.ref fo) [x] H1 fun _ H3 => D.nx (sl1 p vq dd de st odd loose (some (.ref fo))) H3) := fun Qn v nd x0 dx m1 m2 m3 =>
    met_out (by decide) (bad_nodeeds (.inl (SqL.of hv2)) I.vo I.hs nd) (fun H' t keep ht => by
      obtain ⟨a5, x5⟩ := at_keep a eN t2 ext_rfl (a.sp.elim fun q => ⟨spring_xn q eN⟩) (fun b z => z.elim) keep
      exact more_met (prs := pr3 zs) (kv := fun o => ("deeds", .non)) a oF lF hf pr (List.cons_ne_nil _ _) (by show 3 ≤ 100; decide) of nfp a5 x5 ht k) x0 dx m1 m2 m3
  refine ⟨_, rfl, _, rfl, _, rfl, ?_⟩
  rcases lF2 with rfl | rfl | rfl | ⟨a0, rfl, _, h0⟩
  · refine ⟨_, .ty "dict", .type "NoneType", _, false, rfl, .ty "dict", .base .non, kit_ty (by decide +kernel), _, rfl, ?_⟩
    exact iteT (⟨_, rfl, fun x0 dx m1 m2 m3 => go _ _ ⟨"NoneType", .base .non, .inr (by decide), by decide⟩ x0 dx m1 m2 m3⟩)
  · refine ⟨_, .ty "dict", .type "int", _, false, rfl, .ty "dict", .base (.int 5), kit_ty (by decide +kernel), _, rfl, ?_⟩
    exact iteT (⟨_, rfl, fun x0 dx m1 m2 m3 => go _ _ ⟨"int", .base (.int 5), .inr (by decide), by decide⟩ x0 dx m1 m2 m3⟩)
  · refine ⟨_, .ty "dict", .type "str", _, false, rfl, .ty "dict", .base (.str _), kit_ty (by decide +kernel), _, rfl, ?_⟩
    exact iteT (⟨_, rfl, fun x0 dx m1 m2 m3 => go _ _ ⟨"str", .base (.str _), .inl rfl, by decide⟩ x0 dx m1 m2 m3⟩)
  · refine ⟨_, .ty "dict", .type "dict", _, true, rfl, .ty "dict", .base (.dK h0), kit_ty (by decide +kernel), _, rfl, ?_⟩
    exact iteF (fun x0 dx m1 m2 m3 => go _ _ ⟨"NoneType", .base .non, .inr (by decide), by decide⟩ x0 dx m1 m2 m3)
end
end K01
/-! ## M9 -/
set_option Elab.async false
set_option linter.all false
set_option maxRecDepth 100000
set_option maxHeartbeats 2000000
namespace K01
open PySem PySem.Spec PyProof.Rows L2 ErrK LamX
section
variable {P : Program} {w : World} {K : PySem.W.Frag} {mg : Str → Option Value} {base : Heap} {f cd Pt : Addr} {c : Cs} {A : Around} {outer : List Env} {s : Shared} {H : Hp} {E : XK} {p vq dd de : Addr} {zs : List Str} {st : Str} {dtb etb : Rows} {n : Nat}
theorem step5 (hr : dHr A s f cd) (d : DoorC P w K mg base c cd Pt) (I : DoorIn K H p vq dd de zs st dtb etb n) (nvp : vq ≠ p) : Step (doorX P w K mg base f cd A outer s H E) (dst 5)
    (Pre1 H p vq dd de Pt zs st n (pr4 zs) 4) (Pre1 H p vq dd de Pt zs st n (pr5 zs) 4) := by
  refine ⟨_, ps_expr (pe_bm PySem.F.plainAttrs_list PySem.F.slot_list_append PySem.F.type_list_append mt_append (pv 7) (pa_cons (pe_met (k := 5) d.lm d.tb rfl hr (by decide) (lamS_by (sc := defScope sDoors) (by decide +kernel)) rfl (fun _ _ _ _ _ => rfl)
        (fun A' o' s' H' E' f' c' hr' => pe_thingL (doorX P w K mg base f cd A outer s H E) d.mkT hr' (pa_cons (pv 1) (pa_cons (pv 2) (pa_cons (pv 3) (pa_cons (pe_ifExp (pt_not (pt_val (pe_callB (r := rIsi K) (id := "isinstance") (X := lamCx (doorX P w K mg base f cd A outer s H E) A' o' s' H' E' _ f' c') call_isi (by rfl) d.gI (by decide +kernel) (pa_cons (pv 6) (pa_cons (pe_bltn (v := .ty "dict") (by rfl) d.gD (by decide +kernel) rfl) pa_nil))))) (pv 6) (pe_lst pa_nil)) pa_nil)))))) pa_nil)), ?_⟩
  rintro D σ H1 ⟨odd, loose, fo, rfl, a, oF, lF, ⟨ts, hf, pr⟩, of, nfp⟩ k
  refine ⟨_, rfl, .inl ⟨rfl, _, SqL.of hf⟩, a.tb, fun H2 eN t2 => ?_⟩
  have hv2 : H2 vq = some (.lst (zs.map V.str)) := eN _ _ (vq_at I nvp a) (fun _ z => by cases z)
  have lF2 := loose_xn (xn_extN eN) lF
  obtain ⟨sp0⟩ := I.sp
  obtain ⟨sp1⟩ := a.sp
  have sp2 := spring_xn sp1 eN
  have hd2 : TbAt H2 dd dtb := tb_xn sp0 (xn_trans a.xn (xn_extN eN)) I.hd
  have go : ∀ (H3 : Hp) (e3 : Same H2 H3) (Qn : V → Hp → Prop) (v : V), NoDict K H3 v → ∀ x0 dx, H3 x0 = none → H3 dx = none → dx ≠ x0 → spInit w K c (.ref x0 :: ([.ref vq, .str st, .ref dd, v] ++ [])) (upd (upd H3 dx (.own x0)) x0 (.ins c.T dx [])) Qn (MetE c fun x H1 => rAppend (.ref fo) [x] H1 fun _ H3 => D.nx (sl1 p vq dd de st odd loose (some (.ref fo))) H3) := fun H3 e3 Qn v nd x0 dx m1 m2 m3 =>
    met_out (by decide) (bad_noents (.inl (SqL.of (e3 _ _ hv2))) I.vo I.hs (tb_same e3 hd2) I.dok nd) (fun H' t keep ht => by
      obtain ⟨a5, x5⟩ := at_keep a eN t2 (ext_same e3) ⟨sp2.to (by
        obtain ⟨xs, e⟩ := spring_some sp2
        rw [e]
        exact e3 _ _ e)⟩ (fun b z => z.elim) keep
      exact more_met (prs := pr4 zs) (kv := fun o => ("entries", .non)) a oF lF hf pr (List.cons_ne_nil _ _) (by show 4 ≤ 100; decide) of nfp a5 x5 ht k) x0 dx m1 m2 m3
  have sr := Same.refl H2
  refine ⟨_, rfl, _, rfl, _, rfl, _, rfl, ?_⟩
  rcases lF2 with rfl | rfl | rfl | ⟨a0, rfl, _, h0⟩
  · refine ⟨_, .ty "dict", .type "NoneType", _, false, rfl, .ty "dict", .base .non, kit_ty (by decide +kernel), _, rfl, ?_⟩
    exact iteT ⟨_, rfl, fun x0 dx m1 m2 m3 => go _ sr _ _ ⟨"NoneType", .base .non, .inr (by decide), by decide⟩ x0 dx m1 m2 m3⟩
  · refine ⟨_, .ty "dict", .type "int", _, false, rfl, .ty "dict", .base (.int 5), kit_ty (by decide +kernel), _, rfl, ?_⟩
    exact iteT ⟨_, rfl, fun x0 dx m1 m2 m3 => go _ sr _ _ ⟨"int", .base (.int 5), .inr (by decide), by decide⟩ x0 dx m1 m2 m3⟩
  · refine ⟨_, .ty "dict", .type "str", _, false, rfl, .ty "dict", .base (.str _), kit_ty (by decide +kernel), _, rfl, ?_⟩
    exact iteT ⟨_, rfl, fun x0 dx m1 m2 m3 => go _ sr _ _ ⟨"str", .base (.str _), .inl rfl, by decide⟩ x0 dx m1 m2 m3⟩
  · refine ⟨_, .ty "dict", .type "dict", _, true, rfl, .ty "dict", .base (.dK h0), kit_ty (by decide +kernel), _, rfl, ?_⟩
    exact iteF ⟨by show 0 ≤ sizeLine; decide, fun l1 n1 => fun x0 dx m1 m2 m3 => go _ (fun b o e => up_new n1 e) _ _ ⟨"list", .base (.lst upd_same), .inr (by decide), by decide⟩ x0 dx m1 m2 m3⟩
/-- what was met, held against what is due -/
theorem step6 (hr : dHr A s f cd) (d : DoorC P w K mg base c cd Pt) (I : DoorIn K H p vq dd de zs st dtb etb n) (nvp : vq ≠ p) : Step (doorX P w K mg base f cd A outer s H E) (dst 6)
    (Pre1 H p vq dd de Pt zs st n (pr5 zs) 4) (Pre1 H p vq dd de Pt zs st n (pr5 zs) 4) := by
  have hu : (A.deeper (envOfC "_law_doors_right" (defScope sDoors) s.heap.objs.size f (.ref cd))).units + 64 < cLine := hr.units
  refine ⟨_, ps_if (pt_cmpR (op_neW (X := doorX P w K mg base f cd A outer s H E) hu) (pv 7) (pe_lst (pa_cons (pe_tup (pa_cons pe_str (pa_cons (pe_callB call_len_seq (by rfl) d.gL PySem.boot_len (pa_cons (pv 1) pa_nil)) pa_nil)))
        (pa_cons (pe_tup (pa_cons pe_str (pa_cons pe_int pa_nil))) (pa_cons (pe_tup (pa_cons pe_str (pa_cons (pv 5) pa_nil))) (pa_cons (pe_tup (pa_cons pe_str (pa_cons pe_non pa_nil))) (pa_cons (pe_tup (pa_cons pe_str (pa_cons pe_non pa_nil))) pa_nil)))))) (nomark _))
      (pss_one (ps_ret pe_bl)) pss_nil, ?_⟩
  rintro D σ H1 ⟨odd, loose, fo, rfl, a, oF, lF, ⟨ts, hf, pr⟩, of, nfp⟩ k
  have hv1 := vq_at I nvp a
  have zlen : (zs.map V.str).length = zs.length := List.length_map _
  have of' : flatB odd = true ∨ ∃ a, odd = .ref a := by
    rcases oF with ⟨z, rfl, _⟩ | rfl | rfl | rfl | ⟨a, _, rfl, _⟩
    · exact .inl rfl
    · exact .inl rfl
    · exact .inl rfl
    · exact .inl rfl
    · exact .inr ⟨_, rfl⟩
  refine ⟨_, rfl, _, rfl, _, _, rfl, .inl (SqL.of hv1), by show 2 ≤ sizeLine; decide, fun t1 n1 => ⟨by show 2 ≤ sizeLine; decide, fun t2 n2 => ⟨_, rfl, by show 2 ≤ sizeLine; decide, fun t3 n3 => ⟨by show 2 ≤ sizeLine; decide, fun t4 n4 => ⟨by show 2 ≤ sizeLine; decide, fun t5 n5 => ⟨by show 5 ≤ sizeLine; decide, fun L nL => ?_⟩⟩⟩⟩⟩⟩
  rw [zlen] at *
  have up : ∀ b o, H1 b = some o → upd (upd (upd (upd (upd (upd H1 t1 (.tup [.str "values", .int zs.length])) t2 (.tup [.str "values", .int 0])) t3 (.tup [.str "start", odd])) t4 (.tup [.str "deeds", .non])) t5 (.tup [.str "entries", .non])) L (.lst [.ref t1, .ref t2, .ref t3, .ref t4, .ref t5]) b = some o := fun b o e => up_new nL (up_new n5 (up_new n4 (up_new n3 (up_new n2 (up_new n1 e)))))
  cases pr with
  | cons e1 pr =>
    cases pr with
    | cons e2 pr =>
      cases pr with
      | cons e3 pr =>
        cases pr with
        | cons e4 pr =>
          cases pr with
          | cons e5 pr =>
            cases pr with
            | nil =>
              have fin : Pre1 H p vq dd de Pt zs st n (pr5 zs) 4 (sl1 p vq dd de st odd loose (some (.ref fo))) (upd (upd (upd (upd (upd (upd H1 t1 (.tup [.str "values", .int zs.length])) t2 (.tup [.str "values", .int 0])) t3 (.tup [.str "start", odd])) t4 (.tup [.str "deeds", .non])) t5 (.tup [.str "entries", .non])) L (.lst [.ref t1, .ref t2, .ref t3, .ref t4, .ref t5])) := by
                obtain ⟨sp1⟩ := a.sp
                refine ⟨odd, loose, fo, rfl, ⟨xn_trans a.xn (xn_same up), ⟨sp1.to ?_⟩, a.tb.ext up⟩, odd_xn (xn_same up) oF, loose_xn (xn_same up) lF, ⟨_, up _ _ hf, .cons (up _ _ e1) (.cons (up _ _ e2) (.cons (up _ _ e3) (.cons (up _ _ e4) (.cons (up _ _ e5) .nil))))⟩, of, nfp⟩
                obtain ⟨xs, e⟩ := spring_some sp1
                rw [up _ _ e, e]
              have str : ∀ z : Str, (V.str z = V.str z) ∧ (flatB (V.str z) = true ∨ ∃ a, V.str z = .ref a) := fun z => ⟨rfl, .inl rfl⟩
              refine ⟨fo, L, _, _, rfl, rfl, SqL.of (up _ _ hf), SqL.of upd_same, ?_, false, rfl, iteF (k _ _ fin)⟩
              exact .cons ⟨_, _, _, _, rfl, rfl, sqT_of (up _ _ e1), sqT_of (up_new nL (up_new n5 (up_new n4 (up_new n3 (up_new n2 upd_same))))), .cons (str _) (.cons ⟨rfl, .inl rfl⟩ .nil)⟩
                (.cons ⟨_, _, _, _, rfl, rfl, sqT_of (up _ _ e2), sqT_of (up_new nL (up_new n5 (up_new n4 (up_new n3 upd_same)))), .cons (str _) (.cons ⟨rfl, .inl rfl⟩ .nil)⟩
                (.cons ⟨_, _, _, _, rfl, rfl, sqT_of (up _ _ e3), sqT_of (up_new nL (up_new n5 (up_new n4 upd_same))), .cons (str _) (.cons ⟨rfl, of'⟩ .nil)⟩
                (.cons ⟨_, _, _, _, rfl, rfl, sqT_of (up _ _ e4), sqT_of (up_new nL (up_new n5 upd_same)), .cons (str _) (.cons ⟨rfl, .inl rfl⟩ .nil)⟩
                (.cons ⟨_, _, _, _, rfl, rfl, sqT_of (up _ _ e5), sqT_of (up_new nL upd_same), .cons (str _) (.cons ⟨rfl, .inl rfl⟩ .nil)⟩ .nil))))
/-- what is kept when odd, loose and found are done with -/
def Pre2 (H : Hp) (p vq dd de Pt : Addr) (st : Str) (n m : Nat) : L2.St → Hp → Prop := fun σ H1 => ∃ o5 o6 o7, σ = [some (.ref p), some (.ref vq), some (.str st), some (.ref dd), some (.ref de), o5, o6, o7, none, none, none, none, none, none, none, none] ∧ At H H1 p Pt n m
theorem step7 (hr : dHr A s f cd) (d : DoorC P w K mg base c cd Pt) (I : DoorIn K H p vq dd de zs st dtb etb n) : Step (doorX P w K mg base f cd A outer s H E) (dst 7)
    (Pre1 H p vq dd de Pt zs st n (pr5 zs) 4) (Pre2 H p vq dd de Pt st n 4) := by
  refine ⟨_, ps_if (pt_cmpR op_ne (pe_callB (r := rIsi K) call_isi (by rfl) d.gI (by decide +kernel) (pa_cons (pe_ix ix_tup (pe_ix ix_list (pv 7) pe_int (fun _ _ => rfl)) pe_int (fun _ _ => rfl)) (pa_cons (pe_bltn (v := .ty "bool") (by rfl) d.gB (by decide +kernel) rfl) pa_nil)))
        (pe_callB (r := rIsi K) call_isi (by rfl) d.gI (by decide +kernel) (pa_cons (pv 5) (pa_cons (pe_bltn (v := .ty "bool") (by rfl) d.gB (by decide +kernel) rfl) pa_nil))) (nomark _))
      (pss_one (ps_ret pe_bl)) pss_nil, ?_⟩
  rintro D σ H1 ⟨odd, loose, fo, rfl, a, oF, lF, ⟨ts, hf, pr⟩, of, nfp⟩ k
  obtain ⟨t, b, ty, kt⟩ : ∃ (t : Value) (b : Bool), TyX K H1 odd t ∧ PySem.W.kitOne K t (.type "bool") = some b := by
    rcases oF with ⟨z, rfl, _⟩ | rfl | rfl | rfl | ⟨a, o, rfl, _, ho, rfl | rfl⟩
    · exact ⟨_, false, .base (.str _), kit_ty (by decide +kernel)⟩
    · exact ⟨_, false, .base .non, kit_ty (by decide +kernel)⟩
    · exact ⟨_, false, .base (.int 5), kit_ty (by decide +kernel)⟩
    · exact ⟨_, true, .base (.bl true), kit_ty (by decide +kernel)⟩
    · exact ⟨_, false, .base (.lst ho), kit_ty (by decide +kernel)⟩
    · exact ⟨_, false, .base (.dK ho), kit_ty (by decide +kernel)⟩
  cases pr with
  | cons e1 pr =>
    cases pr with
    | cons e2 pr =>
      cases pr with
      | @cons t3 _ _ _ e3 pr =>
        refine ⟨_, rfl, fo, _, _, .ref t3, rfl, rfl, SqL.of hf, atI_nat (j := 2) rfl, t3, _, _, odd, rfl, rfl, sqT_of e3, atI_nat (j := 1) rfl, odd, .ty "bool", t, _, b, rfl, .ty "bool", ty, kt, ?_⟩
        refine ⟨_, rfl, odd, .ty "bool", t, _, b, rfl, .ty "bool", ty, kt, rfl, ?_⟩
        refine ⟨false, by rw [decide_eq_true rfl] <;> rfl, iteF (k _ _ ⟨_, _, _, rfl, a⟩)⟩
end
end K01
/-! ## N1 -/
set_option Elab.async false
set_option linter.all false
set_option maxRecDepth 100000
set_option maxHeartbeats 2000000
namespace K01
open PySem PySem.Spec PyProof.Rows L2 ErrK LamX
def wholeL (zs : List Str) (st : Str) : List (Str × Str) := zs.map fun z => (z, st)
theorem wholeL_keys (zs : List Str) (st : Str) : (wholeL zs st).map (·.1) = zs := by
  unfold wholeL
  rw [List.map_map]
  exact List.map_id _
theorem wholeL_app (a b : List Str) (st : Str) : wholeL (a ++ b) st = wholeL a st ++ wholeL b st := List.map_append
section
variable {P : Program} {w : World} {K : PySem.W.Frag} {mg : Str → Option Value} {base : Heap} {f cd Pt : Addr} {c : Cs} {A : Around} {outer : List Env} {s : Shared} {H : Hp} {E : XK} {p vq dd de : Addr} {zs : List Str} {st : Str} {dtb etb : Rows} {n : Nat}
/-- a list of pairs under way: behind the pairs of l -/
def PsAt (H1 H4 : Hp) (D2 : Addr) (l : List (Str × Str)) : Prop := Same H1 H4 ∧ ∃ ps : List Addr, H4 D2 = some (.lst (ps.map V.ref)) ∧ Paired (fun t (kv : Key × V) => H4 t = some (.tup [kV kv.1, kv.2])) ps (tx l)
theorem ps_more {H1 H4 : Hp} {D2 t : Addr} {l : List (Str × Str)} {a b : Str} (nD2 : H1 D2 = none) (h : PsAt H1 H4 D2 l) (small : l.length ≤ 100) (nt : H4 t = none) : ∃ acc, upd H4 t (.tup [V.str a, V.str b]) D2 = some (.lst acc) ∧ acc.length < sizeLine ∧ PsAt H1 (upd (upd H4 t (.tup [V.str a, V.str b])) D2 (.lst (acc ++ [.ref t]))) D2 (l ++ [(a, b)]) := by
  obtain ⟨sm, ps, hD2, pr⟩ := h
  have nDt : D2 ≠ t := ne_of_none hD2 nt
  refine ⟨_, by rw [upd_ne nDt]; exact hD2, ?_, fun b o e => ?_, ps ++ [t], by rw [upd_same, List.map_append]; rfl, ?_⟩
  · rw [List.length_map, Paired.length pr, tx, List.length_map]
    exact Nat.lt_of_le_of_lt small (by decide)
  · rw [upd_ne (ne_of_none e nD2)]
    exact up_new nt (sm _ _ e)
  · rw [tx_app]
    refine paired_snoc (Paired.mapP pr fun c q e => ?_) (by rw [upd_ne nDt.symm, upd_same]; rfl)
    rw [upd_ne (fun z => by rw [z, hD2] at e; cases e)]
    exact up_new nt e
def Pre3 (H : Hp) (p vq dd de Pt : Addr) (zs : List Str) (st : Str) (n m : Nat) : L2.St → Hp → Prop := fun σ H1 => ∃ o5 o6 o7 wd sm, σ = [some (.ref p), some (.ref vq), some (.str st), some (.ref dd), some (.ref de), o5, o6, o7, some (.ref wd), some (.str sm), none, none, none, none, none, none] ∧ At H H1 p Pt n m ∧
  H1 wd = some (.dK (tx (wholeL zs st))) ∧ wd ≠ p ∧ sm ∈ zs
theorem step8 (hr : dHr A s f cd) (d : DoorC P w K mg base c cd Pt) (I : DoorIn K H p vq dd de zs st dtb etb n) (nvp : vq ≠ p) : Step (doorX P w K mg base f cd A outer s H E) (dst 8)
    (Pre2 H p vq dd de Pt st n 4) (Pre3 H p vq dd de Pt zs st n 5) := by
  refine ⟨_, ps_asg (pe_tup (pa_cons (pe_callTy (call_dictP rfl) (by rfl) d.gD (by decide +kernel) (pa_cons (pe_lc (own := [("value", 15)]) (g := gName 15) (tt := tYes) rfl scDoors.nd (pi_list (pv 1)) (blkOk_by (N := nDoors) (sc := defScope sDoors) (by decide +kernel))
        (fun _ _ _ _ _ => pg_name (i := 15) scDoors.nd rfl (Or.inl rfl)) (fun _ _ _ _ _ => pts_nil) (fun _ _ _ _ _ => pe_tup (pa_cons (pv 15) (pa_cons (pv 2) pa_nil)))) pa_nil))
      (pa_cons (pe_cl d.one hr (by decide) pass0 (pa_cons (pv 0) (pa_cons (pv 1) pa_nil))) pa_nil))) (pg_tup (by rfl) (pgs_cons (pg_name (i := 8) scDoors.nd rfl (Or.inr rfl)) (pgs_cons (pg_name (i := 9) scDoors.nd rfl (Or.inr rfl)) pgs_nil))), ?_⟩
  rintro D σ H1 ⟨o5, o6, o7, rfl, a⟩ k
  have hv1 := vq_at I nvp a
  obtain ⟨zne, znd, zl, hw⟩ := id I.vo
  have z4 := I.z4
  have zlen : (zs.map V.str).length = zs.length := List.length_map _
  have sq1 : SqL K H1 vq (zs.map V.str) := SqL.of hv1
  refine ⟨_, rfl, vq, rfl, ⟨_, sq1⟩, fun D2 nD2 => ?_⟩
  refine lc_it walk_list (fun j H4 => PsAt H1 H4 D2 (wholeL (zs.take j) st)) ⟨fun b o e => up_new nD2 e, [], upd_same, .nil⟩ (fun j H4 _ q => q.1.seq sq1) ?_ ?_
  · rintro j x H4 H5 hj q ⟨rfl, ez⟩
    rw [zlen] at hj
    have ez0 : zs[j]? = some zs[j] := List.getElem?_eq_getElem hj
    rw [List.getElem?_map, ez0] at ez
    obtain rfl : V.str zs[j] = x := Option.some.inj ez
    refine ⟨rfl, ?_⟩
    unfold tYes
    dsimp only
    rw [if_pos rfl]
    refine ⟨_, rfl, _, rfl, by show 2 ≤ sizeLine; decide, fun t nt => ?_⟩
    rw [List.take_succ, ez0, wholeL_app]
    exact ps_more nD2 q (by rw [wholeL, List.length_map, List.length_take]; omega) nt
  · rintro H4 ⟨sm, ps, hD2, pr⟩
    rw [zlen, List.take_of_length_le (Nat.le_refl _)] at pr
    refine ⟨D2, ps, tx (wholeL zs st), rfl, SqL.of hD2, Paired.mapP pr fun t q e => sqT_of e, fun wd nwd => ?_⟩
    have mk : mergeK [] (tx (wholeL zs st)) = tx (wholeL zs st) := putK_all _ [] (by rw [List.nil_append]; exact tx_nd (by rw [wholeL_keys]; exact znd))
    rw [mk]
    obtain ⟨sp1⟩ := a.sp
    have s5 : Same H1 (upd H4 wd (.dK (tx (wholeL zs st)))) := fun b o e => up_new nwd (sm _ _ e)
    have sp5 := sp1.to (H' := upd H4 wd (.dK (tx (wholeL zs st)))) (by
      obtain ⟨xs, e⟩ := spring_some sp1
      rw [e]
      exact s5 _ _ e)
    have wdp : wd ≠ p := fun z => by
      obtain ⟨xs, e⟩ := spring_some sp1
      have := sm _ _ e
      rw [← z, nwd] at this
      cases this
    have zpos : 0 < zs.length := List.length_pos_iff.mpr zne
    refine ⟨_, rfl, _, rfl, p, vq, _, n + 4, rfl, sp5, by have := I.nn; omega, s5.seq sq1, nvp, by omega, by omega, fun H6 v vin bt sp6 => ?_⟩
    obtain ⟨z, hz, rfl⟩ := List.mem_map.mp vin
    refine ⟨by show 2 ≤ sizeLine; decide, fun t nt => ⟨t, _, rfl, .inl (.inl upd_same), rfl, ?_⟩⟩
    have e16 : Ext p H1 (upd H6 t (.tup [.ref wd, V.str z])) := fun b o nb e => up_new nt ((bt b nb).trans (s5 _ _ e))
    refine ⟨_, _, rfl, _, _, rfl, rfl, k _ _ ⟨o5, o6, o7, wd, z, rfl, ⟨xn_trans a.xn (xn_ext e16), ⟨sp6.to (upd_ne (ne_spring sp6 nt).symm)⟩, tabs_ext a.tb sp1 e16⟩, up_new nt ((bt _ wdp).trans upd_same), wdp, hz⟩⟩
end
end K01
/-! ## N2 -/
set_option Elab.async false
set_option linter.all false
set_option maxRecDepth 100000
set_option maxHeartbeats 2000000
namespace K01
open PySem PySem.Spec PyProof.Rows L2 ErrK LamX
def but1 (zs : List Str) (sm : Str) : List Str := zs.filter fun z => !decide (V.str z = V.str sm)
section
variable {P : Program} {w : World} {K : PySem.W.Frag} {mg : Str → Option Value} {base : Heap} {f cd Pt : Addr} {c : Cs} {A : Around} {outer : List Env} {s : Shared} {H : Hp} {E : XK} {p vq dd de : Addr} {zs : List Str} {st : Str} {dtb etb : Rows} {n : Nat}
def Pre4 (H : Hp) (p vq dd de Pt : Addr) (zs : List Str) (st : Str) (n m : Nat) : L2.St → Hp → Prop := fun σ H1 => ∃ o5 o6 o7 wd sm ld, σ = [some (.ref p), some (.ref vq), some (.str st), some (.ref dd), some (.ref de), o5, o6, o7, some (.ref wd), some (.str sm), some (.ref ld), none, none, none, none, none] ∧ At H H1 p Pt n m ∧
  H1 wd = some (.dK (tx (wholeL zs st))) ∧ wd ≠ p ∧ sm ∈ zs ∧ H1 ld = some (.dK (tx (wholeL (but1 zs sm) st))) ∧ ld ≠ p
theorem but1_nd (h : zs.Nodup) (sm : Str) : (but1 zs sm).Nodup := h.sublist List.filter_sublist
theorem step9 (hr : dHr A s f cd) (d : DoorC P w K mg base c cd Pt) (I : DoorIn K H p vq dd de zs st dtb etb n) (nvp : vq ≠ p) : Step (doorX P w K mg base f cd A outer s H E) (dst 9)
    (Pre3 H p vq dd de Pt zs st n 5) (Pre4 H p vq dd de Pt zs st n 5) := by
  refine ⟨_, ps_set (i := 10) scDoors.nd rfl (Or.inl rfl) (pe_callTy (call_dictP rfl) (by rfl) d.gD (by decide +kernel) (pa_cons (pe_lc (own := [("value", 15)]) (g := gName 15) rfl scDoors.nd (pi_list (pv 1)) (blkOk_by (N := nDoors) (sc := defScope sDoors) (by decide +kernel))
        (fun _ _ _ _ _ => pg_name (i := 15) scDoors.nd rfl (Or.inl rfl)) (fun _ _ _ _ _ => pts_one (pt_cmpR op_ne (pv 15) (pv 9) (nomark _))) (fun _ _ _ _ _ => pe_tup (pa_cons (pv 15) (pa_cons (pv 2) pa_nil)))) pa_nil)), ?_⟩
  rintro D σ H1 ⟨o5, o6, o7, wd, sm, rfl, a, hwd, wdp, hsm⟩ k
  have hv1 := vq_at I nvp a
  obtain ⟨zne, znd, zl, hw⟩ := id I.vo
  have z4 := I.z4
  have zlen : (zs.map V.str).length = zs.length := List.length_map _
  have sq1 : SqL K H1 vq (zs.map V.str) := SqL.of hv1
  refine ⟨_, rfl, vq, rfl, ⟨_, sq1⟩, fun D2 nD2 => ?_⟩
  refine lc_it walk_list (fun j H4 => PsAt H1 H4 D2 (wholeL (but1 (zs.take j) sm) st)) ⟨fun b o e => up_new nD2 e, [], upd_same, .nil⟩ (fun j H4 _ q => q.1.seq sq1) ?_ ?_
  · rintro j x H4 H5 hj q ⟨rfl, ez⟩
    rw [zlen] at hj
    have ez0 : zs[j]? = some zs[j] := List.getElem?_eq_getElem hj
    rw [List.getElem?_map, ez0] at ez
    obtain rfl : V.str zs[j] = x := Option.some.inj ez
    have eb : but1 (zs.take (j + 1)) sm = but1 (zs.take j) sm ++ (if (!decide (V.str zs[j] = V.str sm)) = true then [zs[j]] else []) := by
      unfold but1
      rw [List.take_succ, ez0, List.filter_append]
      congr 1
      show List.filter _ [zs[j]] = _
      rw [List.filter_cons, List.filter_nil]
    have small : (wholeL (but1 (zs.take j) sm) st).length ≤ 100 := by
      unfold wholeL but1
      rw [List.length_map]
      refine Nat.le_trans (List.length_filter_le _ _) ?_
      rw [List.length_take]
      omega
    refine ⟨rfl, _, rfl, _, rfl, rfl, _, rfl, ?_⟩
    rw [eb, wholeL_app]
    refine ite2 (fun q1 => ?_) (fun q1 => ?_)
    · rw [if_pos q1]
      refine ⟨_, rfl, _, rfl, by show 2 ≤ sizeLine; decide, fun t nt => ?_⟩
      exact ps_more nD2 q small nt
    · rw [if_neg q1]
      show PsAt H1 H5 D2 (_ ++ [])
      rw [List.append_nil]
      exact q
  · rintro H4 ⟨sm4, ps, hD2, pr⟩
    rw [zlen, List.take_of_length_le (Nat.le_refl _)] at pr
    refine ⟨D2, ps, tx (wholeL (but1 zs sm) st), rfl, SqL.of hD2, Paired.mapP pr fun t q e => sqT_of e, fun ld nld => ?_⟩
    have mk : mergeK [] (tx (wholeL (but1 zs sm) st)) = tx (wholeL (but1 zs sm) st) := putK_all _ [] (by rw [List.nil_append]; exact tx_nd (by rw [wholeL_keys]; exact but1_nd znd sm))
    rw [mk]
    obtain ⟨sp1⟩ := a.sp
    have s5 : Same H1 (upd H4 ld (.dK (tx (wholeL (but1 zs sm) st)))) := fun b o e => up_new nld (sm4 _ _ e)
    have sp5 := sp1.to (H' := upd H4 ld (.dK (tx (wholeL (but1 zs sm) st)))) (by
      obtain ⟨xs, e⟩ := spring_some sp1
      rw [e]
      exact s5 _ _ e)
    have ldp : ld ≠ p := fun z => by
      obtain ⟨xs, e⟩ := spring_some sp1
      have := sm4 _ _ e
      rw [← z, nld] at this
      cases this
    exact k _ _ ⟨o5, o6, o7, wd, sm, ld, rfl, ⟨xn_trans a.xn (xn_same s5), ⟨sp5⟩, a.tb.ext s5⟩, s5 _ _ hwd, wdp, hsm, upd_same, ldp⟩
end
end K01
/-! ## N3 -/
set_option Elab.async false
set_option linter.all false
set_option maxRecDepth 100000
set_option maxHeartbeats 2000000
namespace K01
open PySem PySem.Spec PyProof.Rows L2 ErrK LamX LiI
/-- the reading of dict(list(d.items()) + [(k, v)]) -/
def tMore (K : PySem.W.Frag) (td tk tv : TE) : TE := tCB (fun xs H Q => ∃ (a : Addr) (ps : List Addr) (kvs : List (Key × V)), xs = [.ref a] ∧ SqL K H a (ps.map V.ref) ∧ Paired (fun p kv => SqT K H p [kV kv.1, kv.2]) ps kvs ∧ ∀ p, H p = none → Q (.ref p) (upd H p (.dK (mergeK [] kvs))))
  (tCons (tOp rCat (tListItems td) (tLst (tCons (tTup (tCons tk (tCons tv tNil))) tNil))) tNil)
theorem dct_more {K : PySem.W.Frag} {td tk tv : TE} {σ : L2.St} {H1 : Hp} {R : VK} {d : Addr} {kvs : List (Key × V)} {key : Key} {Pv : Hp → V → Prop} (hd : H1 d = some (.dK kvs)) (ht : ∀ R : VK, R (.ref d) H1 → td σ H1 R) (hk : ∀ (H : Hp) (R : VK), R (kV key) H → tk σ H R)
    (hv : ∀ (H : Hp) (R : VK), Same H1 H → (∀ H' v, Same H H' → Pv H' v → R v H') → tv σ H R) (st : ∀ H H' v, Same H H' → Pv H v → Pv H' v) (nd : (kvs.map (·.1)).Nodup) (nin : key ∉ kvs.map (·.1)) (len : kvs.length ≤ 100)
    (k : ∀ H' D v, Same H1 H' → H1 D = none → Pv H' v → H' D = some (.dK (kvs ++ [(key, v)])) → R (.ref D) H') : tMore K td tk tv σ H1 R := by
  refine ht _ ⟨d, kvs, rfl, hd, fun H2 l ts s2 nl nts nlt hl pr => ?_⟩
  refine hk _ _ (hv _ _ s2 fun H3 v s3 pv3 => ?_)
  refine ⟨by show 2 ≤ sizeLine; decide, fun t nt => ⟨by show 1 ≤ sizeLine; decide, fun m nm => ?_⟩⟩
  have up3 : ∀ b o, H3 b = some o → upd (upd H3 t (.tup [kV key, v])) m (.lst [.ref t]) b = some o := fun b o e => up_new nm (up_new nt e)
  have tl : ts.length = kvs.length := Paired.length pr
  refine ⟨l, m, _, _, rfl, rfl, up3 _ _ (s3 _ _ hl), upd_same, ?_, fun q nq => ?_⟩
  · rw [List.length_map, tl]
    exact Nat.le_trans (show kvs.length + 1 ≤ 101 by omega) (by decide)
  have up4 : ∀ b o, H3 b = some o → upd (upd (upd H3 t (.tup [kV key, v])) m (.lst [.ref t])) q (.lst (ts.map V.ref ++ [.ref t])) b = some o := fun b o e => up_new nq (up3 b o e)
  refine ⟨q, ts ++ [t], kvs ++ [(key, v)], rfl, SqL.of (by rw [upd_same, List.map_append]; rfl), ?_, fun D nD => ?_⟩
  · exact paired_snoc (Paired.mapP pr fun c x e => sqT_of (up4 _ _ (s3 _ _ e))) (sqT_of (up_new nq (up_new nm upd_same)))
  · have mk : mergeK [] (kvs ++ [(key, v)]) = kvs ++ [(key, v)] := putK_all _ [] (by
      rw [List.nil_append, List.map_append, List.nodup_append]
      refine ⟨nd, List.nodup_cons.mpr ⟨by simp, List.nodup_nil⟩, fun a ha b hb e => ?_⟩
      have hb : b = key := List.mem_singleton.mp hb
      rw [e, hb] at ha
      exact nin ha)
    rw [mk]
    have s4 : Same H1 (upd (upd (upd (upd H3 t (.tup [kV key, v])) m (.lst [.ref t])) q (.lst (ts.map V.ref ++ [.ref t]))) D (.dK (kvs ++ [(key, v)]))) := fun b o e => up_new nD (up4 b o (s3 _ _ (s2 b o e)))
    refine k _ D v s4 ?_ (st H3 _ v (fun b o e => up_new nD (up4 b o e)) pv3) upd_same
    cases e : H1 D with
    | none => rfl
    | some o =>
      rw [up4 _ _ (s3 _ _ (s2 _ _ e))] at nD
      cases nD
/-- a lead that may be wrong -/
def LeadF (p : Addr) (st : Str) (H : Hp) (x : V) (l : Option (List (Key × V))) : Prop :=
  (x = .non ∧ l = none) ∨ (x = .int 5 ∧ l = none) ∨ (∃ a, x = .ref a ∧ a ≠ p ∧ H a = some (.lst []) ∧ l = none) ∨
    ∃ a kvs, x = .ref a ∧ a ≠ p ∧ H a = some (.dK kvs) ∧ l = some kvs ∧ kvs.length ≤ 100 ∧ (kvs.map (·.1)).Nodup ∧ (∀ q ∈ kvs, q.1 = .inl 5 ∨ ∃ z : Str, q.1 = .inr z ∧ z.length ≤ 1000) ∧ ∀ q ∈ kvs, q.2 = .non ∨ (∃ z : Str, q.2 = .str z ∧ z.length ≤ 1000) ∨ ∃ b, q.2 = .ref b ∧ b ≠ p ∧ H b = some (.lst [.str st])
theorem leadF_xn {p : Addr} {st : Str} {H H' : Hp} {x : V} {l : Option (List (Key × V))} (k : XN p H H') (h : LeadF p st H x l) : LeadF p st H' x l := by
  rcases h with h | h | ⟨a, e, ne, ha, hl⟩ | ⟨a, kvs, e, ne, ha, hl, h1, h2, h3, h4⟩
  · exact .inl h
  · exact .inr (.inl h)
  · exact .inr (.inr (.inl ⟨a, e, ne, k a _ ne (fun _ z => by cases z) ha, hl⟩))
  · refine .inr (.inr (.inr ⟨a, kvs, e, ne, k a _ ne (fun _ z => by cases z) ha, hl, h1, h2, h3, fun q hq => ?_⟩))
    rcases h4 q hq with h | h | ⟨b, eb, nb, hb⟩
    · exact .inl h
    · exact .inr (.inl h)
    · exact .inr (.inr ⟨b, eb, nb, k b _ nb (fun _ z => by cases z) hb⟩)
theorem leadF_at {K : PySem.W.Frag} {p : Addr} {st : Str} {H : Hp} {x : V} {l : Option (List (Key × V))} (h : LeadF p st H x l) : LeadAt K H x l := by
  rcases h with ⟨rfl, rfl⟩ | ⟨rfl, rfl⟩ | ⟨a, rfl, _, ha, rfl⟩ | ⟨a, kvs, rfl, _, ha, rfl, h1, h2, h3, h4⟩
  · exact ⟨"NoneType", .base .non, .inr (by decide), by decide⟩
  · exact ⟨"int", .base (.int 5), .inr (by decide), by decide⟩
  · exact ⟨"list", .base (.lst ha), .inr (by decide), by decide⟩
  · refine ⟨a, rfl, ha, Nat.le_trans h1 (by decide), h2, fun q hq => ⟨?_, ?_⟩⟩
    · rcases h3 q hq with e | ⟨z, e, hz⟩
      · rw [e]
        exact .inr ⟨"int", by decide, .base (.int 5)⟩
      · rw [e]
        exact any_str hz
    · rcases h4 q hq with e | ⟨z, e, hz⟩ | ⟨b, e, _, hb⟩
      · rw [e]
        exact .inr ⟨"NoneType", by decide, .base .non⟩
      · rw [e]
        exact any_str hz
      · rw [e]
        exact .inr ⟨"list", by decide, .base (.lst hb)⟩
end K01
/-! ## N4 -/
set_option Elab.async false
set_option linter.all false
set_option maxRecDepth 100000
set_option maxHeartbeats 2000000
namespace K01
open PySem PySem.Spec PyProof.Rows L2 ErrK LamX LiI
def badD (l : Option (List (Key × V))) (zs : List Str) : Bool := leadB l zs && lenB l zs.length
def WrongAt (N : Nat) (p : Addr) (st : Str) (zs : List Str) (H1 : Hp) (wl : Addr) : Prop := ∃ ws, H1 wl = some (.lst ws) ∧ ws ≠ [] ∧ ws.length ≤ N ∧ ∀ x ∈ ws, ∃ l, LeadF p st H1 x l ∧ badD l zs = false
theorem isV_odd {v : V} {zs : List Str} (h : ∀ z ∈ zs, v ≠ .str z) : isV v zs = false := by
  rw [isV, decide_eq_false]
  intro m
  obtain ⟨z, hz, e⟩ := List.mem_map.mp m
  exact h z hz e.symm
theorem bad_last {kvs : List (Key × V)} {k : Key} {v : V} {zs : List Str} (h : isV (kV k) zs = false ∨ isV v zs = false) : leadB (some (kvs ++ [(k, v)])) zs = false := by
  show leadsB _ zs = false
  unfold leadsB
  rw [List.all_append]
  have : ([(k, v)].all fun q => isV (kV q.1) zs && isV q.2 zs) = false := by
    show ((isV (kV k) zs && isV v zs) && true) = false
    rcases h with h | h <;> rw [h] <;> simp
  rw [this, Bool.and_false]
theorem badD_lead {l : Option (List (Key × V))} {zs : List Str} (h : leadB l zs = false) : badD l zs = false := by
  unfold badD
  rw [h]
  rfl
theorem badD_len {kvs : List (Key × V)} {zs : List Str} (h : kvs.length ≠ zs.length) : badD (some kvs) zs = false := by
  unfold badD lenB
  dsimp only
  rw [decide_eq_false h, Bool.and_false]
theorem but1_len {zs : List Str} {sm : Str} (h : sm ∈ zs) : (but1 zs sm).length < zs.length := by
  unfold but1
  exact List.length_filter_lt_length_iff_exists.mpr ⟨sm, h, by simp⟩
theorem but1_no {zs : List Str} {sm : Str} : sm ∉ but1 zs sm := fun m => by
  have := (List.mem_filter.mp m).2
  simp at this
theorem tx_keys (l : List (Str × Str)) : (tx l).map (·.1) = (l.map (·.1)).map Sum.inr := by
  rw [tx, List.map_map, List.map_map]
  rfl
theorem tx_len (l : List (Str × Str)) : (tx l).length = l.length := by rw [tx, List.length_map]
theorem tx_nin {l : List (Str × Str)} {z : Str} (h : z ∉ l.map (·.1)) : (Sum.inr z : Key) ∉ (tx l).map (·.1) := fun m => by
  rw [tx_keys] at m
  obtain ⟨y, hy, e⟩ := List.mem_map.mp m
  rw [Sum.inr.inj e] at hy
  exact h hy
theorem tx_nin5 {l : List (Str × Str)} : (Sum.inl 5 : Key) ∉ (tx l).map (·.1) := fun m => by
  rw [tx_keys] at m
  obtain ⟨y, hy, e⟩ := List.mem_map.mp m
  cases e
/-- such a dict as a lead -/
theorem leadF_more {p a : Addr} {st : Str} {H : Hp} {zs : List Str} {ks : List Str} {k : Key} {v : V} (hw : ∀ z ∈ zs, wordT z = true) (hs : st ∈ zs) (sub : ∀ z ∈ ks, z ∈ zs) (nd : ks.Nodup) (len : ks.length ≤ 10) (ne : a ≠ p) (ha : H a = some (.dK (tx (wholeL ks st) ++ [(k, v)])))
    (nin : k ∉ (tx (wholeL ks st)).map (·.1)) (kg : k = .inl 5 ∨ ∃ z : Str, k = .inr z ∧ z.length ≤ 1000) (vg : v = .non ∨ (∃ z : Str, v = .str z ∧ z.length ≤ 1000) ∨ ∃ b, v = .ref b ∧ b ≠ p ∧ H b = some (.lst [.str st])) : LeadF p st H (.ref a) (some (tx (wholeL ks st) ++ [(k, v)])) := by
  have small : ∀ z ∈ zs, z.length ≤ 1000 := fun z hz => Nat.le_trans (wordT_len (hw z hz)) (by decide)
  refine .inr (.inr (.inr ⟨a, _, rfl, ne, ha, rfl, ?_, ?_, fun q hq => ?_, fun q hq => ?_⟩))
  · rw [List.length_append, tx_len, wholeL, List.length_map]
    exact Nat.le_trans (show ks.length + 1 ≤ 11 by omega) (by decide)
  · rw [List.map_append, List.nodup_append]
    refine ⟨tx_nd (by rw [wholeL_keys]; exact nd), List.nodup_cons.mpr ⟨by simp, List.nodup_nil⟩, fun a ha b hb e => ?_⟩
    have hb : b = k := List.mem_singleton.mp hb
    rw [e, hb] at ha
    exact nin ha
  · rcases List.mem_append.mp hq with m | m
    · obtain ⟨r, hr, rfl⟩ := List.mem_map.mp m
      obtain ⟨y, hy, rfl⟩ := List.mem_map.mp hr
      exact .inr ⟨y, rfl, small _ (sub y hy)⟩
    · rw [List.mem_singleton.mp m]
      exact kg
  · rcases List.mem_append.mp hq with m | m
    · obtain ⟨r, hr, rfl⟩ := List.mem_map.mp m
      obtain ⟨y, hy, rfl⟩ := List.mem_map.mp hr
      exact .inr (.inl ⟨st, rfl, small _ hs⟩)
    · rw [List.mem_singleton.mp m]
      exact vg
theorem leadF_whole {p a : Addr} {st : Str} {H : Hp} {zs : List Str} {ks : List Str} (hw : ∀ z ∈ zs, wordT z = true) (hs : st ∈ zs) (sub : ∀ z ∈ ks, z ∈ zs) (nd : ks.Nodup) (len : ks.length ≤ 10) (ne : a ≠ p) (ha : H a = some (.dK (tx (wholeL ks st)))) : LeadF p st H (.ref a) (some (tx (wholeL ks st))) := by
  have small : ∀ z ∈ zs, z.length ≤ 1000 := fun z hz => Nat.le_trans (wordT_len (hw z hz)) (by decide)
  refine .inr (.inr (.inr ⟨a, _, rfl, ne, ha, rfl, ?_, tx_nd (by rw [wholeL_keys]; exact nd), fun q hq => ?_, fun q hq => ?_⟩))
  · rw [tx_len, wholeL, List.length_map]
    exact Nat.le_trans len (by decide)
  · obtain ⟨r, hr, rfl⟩ := List.mem_map.mp hq
    obtain ⟨y, hy, rfl⟩ := List.mem_map.mp hr
    exact .inr ⟨y, rfl, small _ (sub y hy)⟩
  · obtain ⟨r, hr, rfl⟩ := List.mem_map.mp hq
    obtain ⟨y, hy, rfl⟩ := List.mem_map.mp hr
    exact .inr (.inl ⟨st, rfl, small _ hs⟩)
section
variable {P : Program} {w : World} {K : PySem.W.Frag} {mg : Str → Option Value} {base : Heap} {f cd Pt : Addr} {c : Cs} {A : Around} {outer : List Env} {s : Shared} {H : Hp} {E : XK} {p vq dd de : Addr} {zs : List Str} {st : Str} {dtb etb : Rows} {n : Nat}
def Pre5 (H : Hp) (p vq dd de Pt : Addr) (zs : List Str) (st : Str) (n m : Nat) : L2.St → Hp → Prop := fun σ H1 => ∃ o5 o6 o7 wd sm ld wl, σ = [some (.ref p), some (.ref vq), some (.str st), some (.ref dd), some (.ref de), o5, o6, o7, some (.ref wd), some (.str sm), some (.ref ld), some (.ref wl), none, none, none, none] ∧ At H H1 p Pt n m ∧
  H1 wd = some (.dK (tx (wholeL zs st))) ∧ wd ≠ p ∧ sm ∈ zs ∧ H1 ld = some (.dK (tx (wholeL (but1 zs sm) st))) ∧ ld ≠ p ∧ WrongAt 6 p st zs H1 wl ∧ wl ≠ p
theorem same_ne {H1 H2 : Hp} {m : Nat} (a : At H H1 p Pt n m) (sm : Same H1 H2) {D : Addr} (nD : H1 D = none) : D ≠ p := ne_sp a.sp nD
theorem at_same {H1 H2 : Hp} {m : Nat} (a : At H H1 p Pt n m) (sm : Same H1 H2) : At H H2 p Pt n m := by
  obtain ⟨sp⟩ := a.sp
  refine ⟨xn_trans a.xn (xn_same sm), ⟨sp.to ?_⟩, a.tb.ext sm⟩
  obtain ⟨xs, e⟩ := spring_some sp
  rw [e]
  exact sm _ _ e
theorem step10 (hr : dHr A s f cd) (d : DoorC P w K mg base c cd Pt) (I : DoorIn K H p vq dd de zs st dtb etb n) : Step (doorX P w K mg base f cd A outer s H E) (dst 10)
    (Pre4 H p vq dd de Pt zs st n 5) (Pre5 H p vq dd de Pt zs st n 5) := by
  refine ⟨_, ps_set (i := 11) scDoors.nd rfl (Or.inl rfl) (pe_lst (pa_cons pe_non (pa_cons pe_int (pa_cons (pe_lst pa_nil) (pa_cons (pv 10)
      (pa_cons (pe_callTy (call_dictP rfl) (by rfl) d.gD (by decide +kernel) (pa_cons (pe_op op_cat (pe_listItems rfl (pv 8) (by rfl) d.gS (by decide +kernel)) (pe_lst (pa_cons (pe_tup (pa_cons pe_str (pa_cons (pv 2) pa_nil))) pa_nil))) pa_nil))
      (pa_cons (pe_callTy (call_dictP rfl) (by rfl) d.gD (by decide +kernel) (pa_cons (pe_op op_cat (pe_listItems rfl (pv 10) (by rfl) d.gS (by decide +kernel)) (pe_lst (pa_cons (pe_tup (pa_cons (pv 9) (pa_cons pe_str pa_nil))) pa_nil))) pa_nil)) pa_nil))))))), ?_⟩
  rintro D σ H1 ⟨o5, o6, o7, wd, sm, ld, rfl, a, hwd, wdp, hsm, hld, ldp⟩ k
  obtain ⟨zne, znd, zl, hw⟩ := id I.vo
  have z4 := I.z4
  have bnd := but1_nd znd sm
  have bsub : ∀ z ∈ but1 zs sm, z ∈ zs := fun z hz => (List.mem_filter.mp hz).1
  have blen := but1_len hsm
  have zzs : (("zz" : Str)).length ≤ 1000 := by decide +kernel
  have noZZ : isV (.str "zz") zs = false := isV_odd fun z hz e => by
    have e : ("zz" : Str) = z := by injection e
    exact I.zz (by rw [e]; exact hz)
  refine ⟨by show 0 ≤ sizeLine; decide, fun l1 n1 => ⟨_, rfl, ?_⟩⟩
  have s1 : Same H1 (upd H1 l1 (.lst [])) := fun b o e => up_new n1 e
  refine dct_more (K := K) (td := tVar 8) (tk := tC (.str "zz")) (tv := tVar 2) (key := .inr "zz") (Pv := fun _ v => v = .str st) (s1 _ _ hwd) (fun R h => ⟨_, rfl, h⟩) (fun H R h => h) (fun H R sm h => ⟨_, rfl, h H _ (Same.refl H) rfl⟩) (fun _ _ _ _ h => h) (tx_nd (by rw [wholeL_keys]; exact znd)) (tx_nin (by rw [wholeL_keys]; exact I.zz)) (by rw [tx_len, wholeL, List.length_map]; omega) fun H2 D1 v1 s2 nD1 ev hD1 => ?_
  subst ev
  have s12 := s1.trans s2
  refine dct_more (K := K) (td := tVar 10) (tk := tVar 9) (tv := tC (.str "zz")) (key := .inr sm) (Pv := fun _ v => v = .str "zz") (s12 _ _ hld) (fun R h => ⟨_, rfl, h⟩) (fun H R h => ⟨_, rfl, h⟩) (fun H R sm h => h H _ (Same.refl H) rfl) (fun _ _ _ _ h => h) (tx_nd (by rw [wholeL_keys]; exact bnd)) (tx_nin (by rw [wholeL_keys]; exact but1_no)) (by rw [tx_len, wholeL, List.length_map]; omega) fun H3 D2 v2 s3 nD2 ev hD2 => ?_
  subst ev
  refine ⟨by show 6 ≤ sizeLine; decide, fun wl nwl => ?_⟩
  have s4 : Same H3 (upd H3 wl (.lst [.non, .int 5, .ref l1, .ref ld, .ref D1, .ref D2])) := fun b o e => up_new nwl e
  have s14 := s12.trans (s3.trans s4)
  have D1p : D1 ≠ p := ne_sp (at_same a s1).sp nD1
  have D2p : D2 ≠ p := ne_sp (at_same a s12).sp nD2
  have wlp : wl ≠ p := ne_sp (at_same a (s12.trans s3)).sp nwl
  have l1p : l1 ≠ p := ne_sp a.sp n1
  refine k _ _ ⟨o5, o6, o7, wd, sm, ld, wl, rfl, at_same a s14, s14 _ _ hwd, wdp, hsm, s14 _ _ hld, ldp, ⟨_, upd_same, by simp, by show 6 ≤ 6; decide, fun x hx => ?_⟩, wlp⟩
  simp only [List.mem_cons, List.not_mem_nil, or_false] at hx
  rcases hx with rfl | rfl | rfl | rfl | rfl | rfl
  · exact ⟨none, .inl ⟨rfl, rfl⟩, badD_lead rfl⟩
  · exact ⟨none, .inr (.inl ⟨rfl, rfl⟩), badD_lead rfl⟩
  · exact ⟨none, .inr (.inr (.inl ⟨l1, rfl, l1p, s4 _ _ (s3 _ _ (s2 _ _ upd_same)), rfl⟩)), badD_lead rfl⟩
  · exact ⟨_, leadF_whole hw I.hs bsub bnd (by omega) ldp (s14 _ _ hld), badD_len (by rw [tx_len, wholeL, List.length_map]; omega)⟩
  · exact ⟨_, leadF_more hw I.hs (fun z hz => hz) znd (by omega) D1p (s4 _ _ (s3 _ _ hD1)) (tx_nin (by rw [wholeL_keys]; exact I.zz)) (.inr ⟨_, rfl, zzs⟩) (.inr (.inl ⟨st, rfl, Nat.le_trans (wordT_len (hw _ I.hs)) (by decide)⟩)), badD_lead (bad_last (.inl noZZ))⟩
  · exact ⟨_, leadF_more hw I.hs bsub bnd (by omega) D2p (s4 _ _ hD2) (tx_nin (by rw [wholeL_keys]; exact but1_no)) (.inr ⟨_, rfl, Nat.le_trans (wordT_len (hw _ hsm)) (by decide)⟩) (.inr (.inl ⟨_, rfl, zzs⟩)), badD_lead (bad_last (.inr noZZ))⟩
end
end K01
/-! ## N5 -/
set_option Elab.async false
set_option linter.all false
set_option maxRecDepth 100000
set_option maxHeartbeats 2000000
namespace K01
open PySem PySem.Spec PyProof.Rows L2 ErrK LamX LiI
section
variable {P : Program} {w : World} {K : PySem.W.Frag} {mg : Str → Option Value} {base : Heap} {f cd Pt : Addr} {c : Cs} {A : Around} {outer : List Env} {s : Shared} {H : Hp} {E : XK} {p vq dd de : Addr} {zs : List Str} {st : Str} {dtb etb : Rows} {n : Nat}
def Pre6 (H : Hp) (p vq dd de Pt : Addr) (zs : List Str) (st : Str) (n m : Nat) : L2.St → Hp → Prop := fun σ H1 => ∃ o5 o6 o7 wd o9 o10 wl, σ = [some (.ref p), some (.ref vq), some (.str st), some (.ref dd), some (.ref de), o5, o6, o7, some (.ref wd), o9, o10, some (.ref wl), none, none, none, none] ∧ At H H1 p Pt n m ∧
  H1 wd = some (.dK (tx (wholeL zs st))) ∧ wd ≠ p ∧ WrongAt 9 p st zs H1 wl ∧ wl ≠ p
theorem step11 (hr : dHr A s f cd) (d : DoorC P w K mg base c cd Pt) (I : DoorIn K H p vq dd de zs st dtb etb n) : Step (doorX P w K mg base f cd A outer s H E) (dst 11)
    (Pre5 H p vq dd de Pt zs st n 5) (Pre6 H p vq dd de Pt zs st n 5) := by
  refine ⟨_, ps_set (i := 11) scDoors.nd rfl (Or.inl rfl) (pe_op op_cat (pv 11) (pe_lst
      (pa_cons (pe_callTy (call_dictP rfl) (by rfl) d.gD (by decide +kernel) (pa_cons (pe_op op_cat (pe_listItems rfl (pv 10) (by rfl) d.gS (by decide +kernel)) (pe_lst (pa_cons (pe_tup (pa_cons (pv 9) (pa_cons pe_non pa_nil))) pa_nil))) pa_nil))
      (pa_cons (pe_callTy (call_dictP rfl) (by rfl) d.gD (by decide +kernel) (pa_cons (pe_op op_cat (pe_listItems rfl (pv 10) (by rfl) d.gS (by decide +kernel)) (pe_lst (pa_cons (pe_tup (pa_cons (pv 9) (pa_cons (pe_lst (pa_cons (pv 2) pa_nil)) pa_nil))) pa_nil))) pa_nil))
      (pa_cons (pe_callTy (call_dictP rfl) (by rfl) d.gD (by decide +kernel) (pa_cons (pe_op op_cat (pe_listItems rfl (pv 10) (by rfl) d.gS (by decide +kernel)) (pe_lst (pa_cons (pe_tup (pa_cons pe_int (pa_cons (pv 2) pa_nil))) pa_nil))) pa_nil)) pa_nil))))), ?_⟩
  rintro D σ H1 ⟨o5, o6, o7, wd, sm, ld, wl, rfl, a, hwd, wdp, hsm, hld, ldp, ⟨ws, hwl, wne, wlen, wok⟩, wlp⟩ k
  obtain ⟨zne, znd, zl, hw⟩ := id I.vo
  have z4 := I.z4
  have bnd := but1_nd znd sm
  have bsub : ∀ z ∈ but1 zs sm, z ∈ zs := fun z hz => (List.mem_filter.mp hz).1
  have blen := but1_len hsm
  have nin : (Sum.inr sm : Key) ∉ (tx (wholeL (but1 zs sm) st)).map (·.1) := tx_nin (by rw [wholeL_keys]; exact but1_no)
  have knd : ((tx (wholeL (but1 zs sm) st)).map (·.1)).Nodup := tx_nd (by rw [wholeL_keys]; exact bnd)
  have l100 : (tx (wholeL (but1 zs sm) st)).length ≤ 100 := by rw [tx_len, wholeL, List.length_map]; omega
  have sml : sm.length ≤ 1000 := Nat.le_trans (wordT_len (hw _ hsm)) (by decide)
  have stl : st.length ≤ 1000 := Nat.le_trans (wordT_len (hw _ I.hs)) (by decide)
  refine ⟨_, rfl, ?_⟩
  refine dct_more (K := K) (td := tVar 10) (tk := tVar 9) (tv := tC .non) (key := .inr sm) (Pv := fun _ v => v = .non) hld (fun R h => ⟨_, rfl, h⟩) (fun H R h => ⟨_, rfl, h⟩) (fun H R sm h => h H _ (Same.refl H) rfl) (fun _ _ _ _ h => h) knd nin l100 fun H2 D1 v1 s2 nD1 ev hD1 => ?_
  subst ev
  refine dct_more (K := K) (td := tVar 10) (tk := tVar 9) (tv := tLst (tCons (tVar 2) tNil)) (key := .inr sm) (Pv := fun H v => ∃ b, v = .ref b ∧ b ≠ p ∧ H b = some (.lst [.str st])) (s2 _ _ hld) (fun R h => ⟨_, rfl, h⟩) (fun H R h => ⟨_, rfl, h⟩)
    (fun H4 R sm h => ⟨_, rfl, by show 1 ≤ sizeLine; decide, fun b nb => h _ _ (fun c o e => up_new nb e) ⟨b, rfl, ne_sp (at_same a (s2.trans sm)).sp nb, upd_same⟩⟩) (fun _ _ _ s h => by
      obtain ⟨b, e, n, h⟩ := h
      exact ⟨b, e, n, s _ _ h⟩) knd nin l100 fun H3 D2 v2 s3 nD2 ev hD2 => ?_
  have s13 := s2.trans s3
  refine dct_more (K := K) (td := tVar 10) (tk := tC (.int 5)) (tv := tVar 2) (key := .inl 5) (Pv := fun _ v => v = .str st) (s13 _ _ hld) (fun R h => ⟨_, rfl, h⟩) (fun H R h => h) (fun H R sm h => ⟨_, rfl, h H _ (Same.refl H) rfl⟩) (fun _ _ _ _ h => h) knd tx_nin5 l100 fun H4 D3 v3 s4 nD3 ev3 hD3 => ?_
  subst ev3
  have s14 := s13.trans s4
  refine ⟨by show 3 ≤ sizeLine; decide, fun ml nml => ?_⟩
  have s5 : Same H4 (upd H4 ml (.lst [.ref D1, .ref D2, .ref D3])) := fun b o e => up_new nml e
  have s15 := s14.trans s5
  refine ⟨wl, ml, _, _, rfl, rfl, s15 _ _ hwl, upd_same, Nat.le_trans (show ws.length + 3 ≤ 23 by omega) (by decide), fun xl nxl => ?_⟩
  have s6 : Same H1 (upd (upd H4 ml (.lst [.ref D1, .ref D2, .ref D3])) xl (.lst (ws ++ [.ref D1, .ref D2, .ref D3]))) := fun b o e => up_new nxl (s15 b o e)
  have s46 : Same H4 (upd (upd H4 ml (.lst [.ref D1, .ref D2, .ref D3])) xl (.lst (ws ++ [.ref D1, .ref D2, .ref D3]))) := fun b o e => up_new nxl (s5 b o e)
  have D1p : D1 ≠ p := ne_sp a.sp nD1
  have D2p : D2 ≠ p := ne_sp (at_same a s2).sp nD2
  have D3p : D3 ≠ p := ne_sp (at_same a s13).sp nD3
  have xlp : xl ≠ p := ne_sp (at_same a s15).sp nxl
  refine k _ _ ⟨o5, o6, o7, wd, _, _, xl, rfl, at_same a s6, s6 _ _ hwd, wdp, ⟨_, upd_same, by simp, by rw [List.length_append]; exact Nat.le_trans (show ws.length + 3 ≤ 9 by omega) (Nat.le_refl _), fun x hx => ?_⟩, xlp⟩
  rcases List.mem_append.mp hx with hx | hx
  · obtain ⟨l, h1, h2⟩ := wok x hx
    exact ⟨l, leadF_xn (xn_same s6) h1, h2⟩
  · simp only [List.mem_cons, List.not_mem_nil, or_false] at hx
    rcases hx with rfl | rfl | rfl
    · exact ⟨_, leadF_more hw I.hs bsub bnd (by omega) D1p (s46 _ _ (s4 _ _ (s3 _ _ hD1))) nin (.inr ⟨_, rfl, sml⟩) (.inl rfl), badD_lead (bad_last (.inr (isV_odd fun z hz e => by cases e)))⟩
    · obtain ⟨b, rfl, nb, hb⟩ := ev
      exact ⟨_, leadF_more hw I.hs bsub bnd (by omega) D2p (s46 _ _ (s4 _ _ hD2)) nin (.inr ⟨_, rfl, sml⟩) (.inr (.inr ⟨b, rfl, nb, s46 _ _ (s4 _ _ hb)⟩)), badD_lead (bad_last (.inr (isV_odd fun z hz e => by cases e)))⟩
    · exact ⟨_, leadF_more hw I.hs bsub bnd (by omega) D3p (s46 _ _ hD3) tx_nin5 (.inl rfl) (.inr (.inl ⟨st, rfl, stl⟩)), badD_lead (bad_last (.inl (isV_odd fun z hz e => by cases e)))⟩
end
end K01
/-! ## N6 -/
set_option Elab.async false
set_option linter.all false
set_option maxRecDepth 100000
set_option maxHeartbeats 2000000
namespace K01
open PySem PySem.Spec PyProof.Rows L2 ErrK LamX LiI
/-- a wrong name -/
def KeyF (p : Addr) (H : Hp) (x : V) : Prop := (∃ z : Str, x = .str z ∧ wordT z = false ∧ z.length ≤ 1000) ∨ x = .non ∨ x = .int 5 ∨ ∃ a, x = .ref a ∧ a ≠ p ∧ H a = some (.tup [.str "a"])
theorem keyF_xn {p : Addr} {H H' : Hp} {x : V} (k : XN p H H') (h : KeyF p H x) : KeyF p H' x := by
  rcases h with h | h | h | ⟨a, e, ne, ha⟩
  · exact .inl h
  · exact .inr (.inl h)
  · exact .inr (.inr (.inl h))
  · exact .inr (.inr (.inr ⟨a, e, ne, k a _ ne (fun _ z => by cases z) ha⟩))
section
variable {P : Program} {w : World} {K : PySem.W.Frag} {mg : Str → Option Value} {base : Heap} {f cd Pt : Addr} {c : Cs} {A : Around} {outer : List Env} {s : Shared} {H : Hp} {E : XK} {p vq dd de : Addr} {zs : List Str} {st : Str} {dtb etb : Rows} {n : Nat}
abbrev sl7 (p vq dd de : Addr) (st : Str) (o5 o6 o7 : Option V) (wd : Addr) (o9 o10 o11 : Option V) (lead key : Option V) : L2.St := [some (.ref p), some (.ref vq), some (.str st), some (.ref dd), some (.ref de), o5, o6, o7, some (.ref wd), o9, o10, o11, lead, key, none, none]
def Pre7 (H : Hp) (p vq dd de Pt : Addr) (zs : List Str) (st : Str) (n m : Nat) : L2.St → Hp → Prop := fun σ H1 => ∃ o5 o6 o7 wd o9 o10 o11 lead l, σ = sl7 p vq dd de st o5 o6 o7 wd o9 o10 o11 (some lead) none ∧ At H H1 p Pt n m ∧
  H1 wd = some (.dK (tx (wholeL zs st))) ∧ wd ≠ p ∧ LeadF p st H1 lead l ∧ badD l zs = false
def Pre8 (H : Hp) (p vq dd de Pt : Addr) (zs : List Str) (st : Str) (n m : Nat) : L2.St → Hp → Prop := fun σ H1 => ∃ o5 o6 o7 wd o9 o10 o11 lead l key, σ = sl7 p vq dd de st o5 o6 o7 wd o9 o10 o11 (some lead) (some key) ∧ At H H1 p Pt n m ∧
  H1 wd = some (.dK (tx (wholeL zs st))) ∧ wd ≠ p ∧ LeadF p st H1 lead l ∧ badD l zs = false ∧ KeyF p H1 key
theorem step12 (hr : dHr A s f cd) (d : DoorC P w K mg base c cd Pt) (I : DoorIn K H p vq dd de zs st dtb etb n) : Step (doorX P w K mg base f cd A outer s H E) (dst 12)
    (Pre6 H p vq dd de Pt zs st n 5) (Pre7 H p vq dd de Pt zs st n 6) := by
  refine ⟨_, ps_set (i := 12) scDoors.nd rfl (Or.inr rfl) (pe_cl d.one hr (by decide) pass0 (pa_cons (pv 0) (pa_cons (pv 11) pa_nil))), ?_⟩
  rintro D σ H1 ⟨o5, o6, o7, wd, o9, o10, wl, rfl, a, hwd, wdp, ⟨ws, hwl, wne, wlen, wok⟩, wlp⟩ k
  obtain ⟨sp1⟩ := a.sp
  refine ⟨_, rfl, _, rfl, p, wl, ws, n + 5, rfl, sp1, by have := I.nn; omega, SqL.of hwl, wlp, List.length_pos_iff.mpr wne, Nat.le_trans wlen (by decide), fun H2 v vin bt sp2 => ?_⟩
  have e2 : Ext p H1 H2 := ext_but bt
  obtain ⟨l, h1, h2⟩ := wok v vin
  exact k _ _ ⟨o5, o6, o7, wd, o9, o10, _, v, l, rfl, ⟨xn_trans a.xn (xn_ext e2), ⟨sp2⟩, tabs_ext a.tb sp1 e2⟩, e2 _ _ wdp hwd, wdp, leadF_xn (xn_ext e2) h1, h2⟩
theorem step13 (hr : dHr A s f cd) (d : DoorC P w K mg base c cd Pt) (I : DoorIn K H p vq dd de zs st dtb etb n) : Step (doorX P w K mg base f cd A outer s H E) (dst 13)
    (Pre7 H p vq dd de Pt zs st n 6) (Pre8 H p vq dd de Pt zs st n 7) := by
  refine ⟨_, ps_set (i := 13) scDoors.nd rfl (Or.inr rfl) (pe_cl d.one hr (by decide) pass0 (pa_cons (pv 0) (pa_cons (pe_lst (pa_cons pe_str (pa_cons pe_str (pa_cons pe_non (pa_cons pe_int (pa_cons pe_str (pa_cons (pe_tup (pa_cons pe_str pa_nil)) pa_nil))))))) pa_nil))), ?_⟩
  rintro D σ H1 ⟨o5, o6, o7, wd, o9, o10, o11, lead, l, rfl, a, hwd, wdp, lf, lb⟩ k
  obtain ⟨sp1⟩ := a.sp
  refine ⟨_, rfl, by show 1 ≤ sizeLine; decide, fun t nt => ⟨by show 6 ≤ sizeLine; decide, fun L nL => ?_⟩⟩
  have tp := ne_spring sp1 nt
  have s3 : Same H1 (upd (upd H1 t (.tup [.str "a"])) L (.lst [.str "A", .str "", .non, .int 5, .str "abcdefghi", .ref t])) := fun b o e => up_new nL (up_new nt e)
  have Lp : L ≠ p := fun z => by
    obtain ⟨xs, e⟩ := spring_some sp1
    rw [z, up_new nt e] at nL
    cases nL
  have h1t : upd (upd H1 t (.tup [.str "a"])) L (.lst [.str "A", .str "", .non, .int 5, .str "abcdefghi", .ref t]) t = some (.tup [.str "a"]) := up_new nL upd_same
  obtain ⟨sp3⟩ := (at_same a s3).sp
  refine ⟨p, L, _, n + 6, rfl, sp3, by have := I.nn; omega, SqL.of upd_same, Lp, by show 0 < 6; decide, by show 6 ≤ 1000; decide, fun H2 v vin bt sp2 => ?_⟩
  have e2 : Ext p H1 H2 := ext_trans (ext_same s3) (ext_but bt)
  refine k _ _ ⟨o5, o6, o7, wd, o9, o10, o11, lead, l, v, rfl, ⟨xn_trans a.xn (xn_ext e2), ⟨sp2⟩, tabs_ext a.tb sp1 e2⟩, e2 _ _ wdp hwd, wdp, leadF_xn (xn_ext e2) lf, lb, ?_⟩
  simp only [List.mem_cons, List.not_mem_nil, or_false] at vin
  rcases vin with rfl | rfl | rfl | rfl | rfl | rfl
  · exact .inl ⟨_, rfl, by decide +kernel, by decide +kernel⟩
  · exact .inl ⟨_, rfl, by decide +kernel, by decide +kernel⟩
  · exact .inr (.inl rfl)
  · exact .inr (.inr (.inl rfl))
  · exact .inl ⟨_, rfl, by decide +kernel, by decide +kernel⟩
  · exact .inr (.inr (.inr ⟨t, rfl, tp, (bt _ tp).trans h1t⟩))
end
end K01
/-! ## N7 -/
set_option Elab.async false
set_option linter.all false
set_option maxRecDepth 100000
set_option maxHeartbeats 2000000
namespace K01
open PySem PySem.Spec PyProof.Rows L2 ErrK LamX LiI
def vOf (rs : List (Key × V)) (tb : Rows) : List VEnt := (rs.zip tb).map fun p => (.text p.2.1, kV p.1.1, p.1.2)
theorem vOf_es (rs : List (Key × V)) (tb : Rows) : (vOf rs tb).map (fun q => (q.2.1, q.2.2)) = (esOf rs tb).map fun e => (e.1, e.2.1) := by
  unfold vOf esOf
  rw [List.map_map, List.map_map]
  rfl
theorem vOf_keys {F : (Key × V) → (Str × List (Str × Str)) → Prop} {rs : List (Key × V)} {tb : Rows} (p : Paired F rs tb) : (vOf rs tb).map (·.1) = tb.map fun t => NestedKey.text t.1 := by
  induction p with
  | nil => rfl
  | cons _ _ ih =>
    show _ :: (vOf _ _).map _ = _ :: _
    rw [ih]
theorem vOf_at {H0 H : Hp} {rs : List (Key × V)} {tb : Rows} (p : Paired (RowAt H0) rs tb) : KeysAt H (vOf rs tb) := by
  induction p with
  | nil => intro q h; cases h
  | cons h _ ih =>
    obtain ⟨a, e, _⟩ := h
    intro q hq
    rcases List.mem_cons.mp (show q ∈ _ :: vOf _ _ from hq) with e2 | hq
    · rw [e2, e]
      exact .text _
    · exact ih q hq
theorem vOf_ps {G : Addr → (Key × V) → Prop} {G' : Addr → VEnt → Prop} (hG : ∀ t (q : Key × V) n, G t q → G' t (n, kV q.1, q.2)) {F : (Key × V) → (Str × List (Str × Str)) → Prop} {ts : List Addr} {rs : List (Key × V)} (p1 : Paired G ts rs) : ∀ {tb : Rows}, Paired F rs tb → Paired G' ts (vOf rs tb) := by
  induction p1 with
  | nil =>
    intro tb p2
    cases p2
    exact .nil
  | cons h _ ih =>
    intro tb p2
    cases p2 with
    | cons h2 r2 => exact .cons (hG _ _ _ h) (ih r2)
/-- the reading of dict(list(d.items()) + [(k1, v1), (k2, v2)]), the keys of all kinds -/
def tMix (K : PySem.W.Frag) (w : World) (td tk1 tv1 tk2 tv2 : TE) : TE := tCB (fun xs H Q => ∃ (a : Addr) (ps : List Addr) (kvs : List VEnt), xs = [.ref a] ∧ SqL K H a (ps.map V.ref) ∧ Paired (fun p (kv : VEnt) => SqT K H p [kv.2.1, kv.2.2]) ps kvs ∧
    KeysAt H kvs ∧ (kvs.map (·.1)).Nodup ∧ ∀ p, H p = none → Q (.ref p) (upd H p (MixO w p kvs)))
  (tCons (tOp rCat (tListItems td) (tLst (tCons (tTup (tCons tk1 (tCons tv1 tNil))) (tCons (tTup (tCons tk2 (tCons tv2 tNil))) tNil)))) tNil)
theorem dct_mix {K : PySem.W.Frag} {w : World} {td tk1 tv1 tk2 tv2 : TE} {σ : L2.St} {H1 : Hp} {R : VK} {d : Addr} {rs : List (Key × V)} {tb : Rows} {n1 n2 : NestedKey} {k1 k2 : V} {Pv1 Pv2 : Hp → V → Prop} (hd : H1 d = some (.dK rs)) (pr0 : Paired (RowAt H1) rs tb)
    (ht : ∀ R : VK, R (.ref d) H1 → td σ H1 R) (hk1 : ∀ (H : Hp) (R : VK), R k1 H → tk1 σ H R) (hv1 : ∀ (H : Hp) (R : VK), Same H1 H → (∀ H' v, Same H H' → Pv1 H' v → R v H') → tv1 σ H R) (st1 : ∀ H H' v, Same H H' → Pv1 H v → Pv1 H' v)
    (hk2 : ∀ (H : Hp) (R : VK), R k2 H → tk2 σ H R) (hv2 : ∀ (H : Hp) (R : VK), Same H1 H → (∀ H' v, Same H H' → Pv2 H' v → R v H') → tv2 σ H R) (st2 : ∀ H H' v, Same H H' → Pv2 H v → Pv2 H' v)
    (kn1 : KeyAt H1 n1 k1) (kn2 : KeyAt H1 n2 k2) (nd : ((tb.map fun t => NestedKey.text t.1) ++ [n1, n2]).Nodup) (len : tb.length ≤ 64)
    (k : ∀ Hm D v1 v2, Same H1 Hm → Hm D = none → Pv1 Hm v1 → Pv2 Hm v2 → R (.ref D) (upd Hm D (MixO w D (vOf rs tb ++ [(n1, k1, v1), (n2, k2, v2)])))) : tMix K w td tk1 tv1 tk2 tv2 σ H1 R := by
  refine ht _ ⟨d, rs, rfl, hd, fun H2 l ts s2 nl nts nlt hl pr => ?_⟩
  have tl : ts.length = tb.length := (Paired.length pr).trans (Paired.length pr0)
  refine hk1 _ _ (hv1 _ _ s2 fun H3 v1 s3 pv1 => ⟨by show 2 ≤ sizeLine; decide, fun t1 nt1 => ?_⟩)
  have s4 : Same H3 (upd H3 t1 (.tup [k1, v1])) := fun b o e => up_new nt1 e
  refine hk2 _ _ (hv2 _ _ (Same.trans s2 (s3.trans s4)) fun H5 v2 s5 pv2 => ⟨by show 2 ≤ sizeLine; decide, fun t2 nt2 => ⟨by show 2 ≤ sizeLine; decide, fun m nm => ?_⟩⟩)
  have s6 : Same H5 (upd (upd H5 t2 (.tup [k2, v2])) m (.lst [.ref t1, .ref t2])) := fun b o e => up_new nm (up_new nt2 e)
  have h1t : H5 t1 = some (.tup [k1, v1]) := s5 _ _ upd_same
  refine ⟨l, m, _, _, rfl, rfl, s6 _ _ (s5 _ _ (s4 _ _ (s3 _ _ hl))), upd_same, ?_, fun q nq => ?_⟩
  · rw [List.length_map, tl]
    exact Nat.le_trans (show tb.length + 2 ≤ 66 by omega) (by decide)
  have s7 : Same H5 (upd (upd (upd H5 t2 (.tup [k2, v2])) m (.lst [.ref t1, .ref t2])) q (.lst (ts.map V.ref ++ [.ref t1, .ref t2]))) := fun b o e => up_new nq (s6 b o e)
  have s27 := s3.trans (s4.trans (s5.trans s7))
  have s17 : Same H1 _ := Same.trans s2 s27
  refine ⟨q, ts ++ [t1, t2], vOf rs tb ++ [(n1, k1, v1), (n2, k2, v2)], rfl, SqL.of (by rw [upd_same, List.map_append]; rfl), ?_, ?_, ?_, fun D nD => ?_⟩
  · have base := vOf_ps (G := fun t (q : Key × V) => H2 t = some (.tup [kV q.1, q.2])) (G' := fun t (kv : VEnt) => SqT K (upd (upd (upd H5 t2 (.tup [k2, v2])) m (.lst [.ref t1, .ref t2])) q (.lst (ts.map V.ref ++ [.ref t1, .ref t2]))) t [kv.2.1, kv.2.2]) (fun t x nk e => sqT_of (s27 _ _ e)) pr pr0
    have e2 := paired_snoc (paired_snoc base (x := t1) (y := (n1, k1, v1)) (sqT_of (s7 _ _ h1t))) (x := t2) (y := (n2, k2, v2)) (sqT_of (up_new nq (up_new nm upd_same)))
    rw [List.append_assoc, List.append_assoc] at e2
    exact e2
  · intro x hx
    rcases List.mem_append.mp hx with hx | hx
    · exact vOf_at pr0 x hx
    · simp only [List.mem_cons, List.not_mem_nil, or_false] at hx
      rcases hx with rfl | rfl
      · exact kn1.up s17
      · exact kn2.up s17
  · rw [List.map_append, vOf_keys pr0]
    exact nd
  · exact k _ D v1 v2 s17 nD (st1 _ _ _ (s4.trans (s5.trans s7)) pv1) (st2 _ _ _ s7 pv2)
end K01
/-! ## N8 -/
set_option Elab.async false
set_option linter.all false
set_option maxRecDepth 100000
set_option maxHeartbeats 2000000
namespace K01
open PySem PySem.Spec PyProof.Rows L2 ErrK LamX LiI
def rMix (K : PySem.W.Frag) (w : World) : List V → Hp → VK → Prop := fun xs H Q => ∃ (a : Addr) (ps : List Addr) (kvs : List VEnt), xs = [.ref a] ∧ SqL K H a (ps.map V.ref) ∧ Paired (fun p (kv : VEnt) => SqT K H p [kv.2.1, kv.2.2]) ps kvs ∧
    KeysAt H kvs ∧ (kvs.map (·.1)).Nodup ∧ ∀ p, H p = none → Q (.ref p) (upd H p (MixO w p kvs))
theorem call_mix {X : Cx} {K : PySem.W.Frag} {w : World} (hK : X.K = K) (hW : X.w = w) (hcalm : X.calm = true) (hu : X.A.units + 64 < cLine) : CallR X (.type "dict") (rMix K w) := by
  subst hK hW
  exact call_dictMix hcalm (by omega)
theorem keyF_at {K : PySem.W.Frag} {p : Addr} {H : Hp} {x : V} (h : KeyF p H x) : ∃ nk, KeyAt H nk x ∧ (∀ z, wordT z = true → nk ≠ .text z) ∧ Any K H x ∧ isW x = false := by
  rcases h with ⟨z, rfl, hz, hl⟩ | rfl | rfl | ⟨a, rfl, _, ha⟩
  · refine ⟨.text z, .text z, fun y hy e => ?_, any_str hl, hz⟩
    have e : z = y := by injection e
    rw [e, hy] at hz
    cases hz
  · exact ⟨.none, .none, (fun _ _ e => by cases e), .inr ⟨"NoneType", by decide, .base .non⟩, rfl⟩
  · exact ⟨.num 5, .num 5, (fun _ _ e => by cases e), .inr ⟨"int", by decide, .base (.int 5)⟩, rfl⟩
  · exact ⟨_, .tup ha, (fun _ _ e => by cases e), .inr ⟨"tuple", by decide, .base (.tup ha)⟩, rfl⟩
theorem same_hold {Hm : Hp} {D : Addr} {o : HO} (nD : Hm D = none) : Same Hm (L2.del (upd Hm D o) D) := fun b u e => by
  have ne : b ≠ D := ne_of_none e nD
  rw [L2.del_ne ne, upd_ne ne]
  exact e
theorem yy_word : wordT "yy" = true := by decide +kernel
/-- the dict with two more names -/
theorem mix_tab {K : PySem.W.Frag} {w : World} {Hm : Hp} {D : Addr} {zs : List Str} {rs : List (Key × V)} {tb : Rows} {n1 n2 : NestedKey} {k1 k2 v1 v2 : V} {l1 l2 : Option (List (Key × V))} (zw : ∀ z ∈ zs, wordT z = true) (pr : Paired (RowAt Hm) rs tb) (ok : RowsOk tb) (hw : ∀ t ∈ tb, wordT t.1 = true ∧ LeadIn zs t.2) (nD : Hm D = none)
    (kn1 : KeyAt Hm n1 k1) (kn2 : KeyAt Hm n2 k2) (e1 : EntAt K (L2.del (upd Hm D (MixO w D (vOf rs tb ++ [(n1, k1, v1), (n2, k2, v2)]))) D) (k1, v1, l1)) (e2 : EntAt K (L2.del (upd Hm D (MixO w D (vOf rs tb ++ [(n1, k1, v1), (n2, k2, v2)]))) D) (k2, v2, l2)) :
    TabAt w K (upd Hm D (MixO w D (vOf rs tb ++ [(n1, k1, v1), (n2, k2, v2)]))) D (esOf rs tb ++ [(k1, v1, l1), (k2, v2, l2)]) := by
  have sm : Same Hm (upd Hm D (MixO w D (vOf rs tb ++ [(n1, k1, v1), (n2, k2, v2)]))) := fun b o e => up_new nD e
  refine ⟨?_, ?_, fun e he => ?_⟩
  · have q : Tab w (upd Hm D (MixO w D (vOf rs tb ++ [(n1, k1, v1), (n2, k2, v2)]))) D ((vOf rs tb ++ [(n1, k1, v1), (n2, k2, v2)]).map fun q => (q.2.1, q.2.2)) := .m upd_same fun x hx => by
      rcases List.mem_append.mp hx with hx | hx
      · exact vOf_at pr x hx
      · simp only [List.mem_cons, List.not_mem_nil, or_false] at hx
        rcases hx with rfl | rfl
        · exact kn1.up sm
        · exact kn2.up sm
    rw [List.map_append, vOf_es] at q
    rw [List.map_append]
    exact q
  · have h1 : (esOf rs tb).length ≤ tb.length := by
      unfold esOf
      rw [List.length_map, List.length_zip]
      exact Nat.min_le_right _ _
    have h2 := ok.2.1
    rw [List.length_append]
    show _ + 2 ≤ 1000
    omega
  · rcases List.mem_append.mp he with he | he
    · obtain ⟨r, hr, t, ht, ⟨a, er, ha⟩, rfl⟩ := esOf_mem pr e he
      rw [er]
      exact ⟨any_word (hw t ht).1, fun _ => lead_in zw (same_hold nD _ _ ha) (ok.2.2 t ht).1 (ok.2.2 t ht).2 (hw t ht).2⟩
    · simp only [List.mem_cons, List.not_mem_nil, or_false] at he
      rcases he with rfl | rfl
      · exact e1
      · exact e2
theorem find_first {pr : TEnt → Bool} {as : List TEnt} {e1 e2 : TEnt} (h : as.all (fun e => !pr e) = true) (h1 : pr e1 = true) : (as ++ [e1, e2]).find? pr = some e1 := by
  rw [List.find?_append, List.find?_eq_none.mpr fun x hx => by
    have := List.all_eq_true.mp h x hx
    simpa using this]
  simp [List.find?, h1]
section
variable {P : Program} {w : World} {K : PySem.W.Frag} {mg : Str → Option Value} {base : Heap} {f cd Pt : Addr} {c : Cs} {A : Around} {outer : List Env} {s : Shared} {H : Hp} {E : XK} {p vq dd de : Addr} {zs : List Str} {st : Str} {dtb etb : Rows} {n : Nat}
def Pre9 (H : Hp) (p vq dd de Pt : Addr) (zs : List Str) (st : Str) (n : Nat) (prs : V → List (Str × V)) (m : Nat) : L2.St → Hp → Prop := fun σ H1 => ∃ o5 o6 fo wd o9 o10 o11 o12 key, σ = sl7 p vq dd de st o5 o6 (some (.ref fo)) wd o9 o10 o11 o12 (some key) ∧ At H H1 p Pt n m ∧
  H1 wd = some (.dK (tx (wholeL zs st))) ∧ wd ≠ p ∧ KeyF p H1 key ∧ Found H1 fo (prs key) ∧ Off H p fo ∧ fo ≠ p
/-- the names and two more are each once -/
theorem names_nd {tb : Rows} {nk : NestedKey} (ok : (tb.map (·.1)).Nodup) (hw : ∀ t ∈ tb, wordT t.1 = true) (hy : ∀ t ∈ tb, t.1 ≠ ("yy" : Str)) (hk : ∀ z, wordT z = true → nk ≠ .text z) : ((tb.map fun t => NestedKey.text t.1) ++ [.text "yy", nk]).Nodup := by
  rw [List.nodup_append]
  refine ⟨?_, List.nodup_cons.mpr ⟨fun m => hk _ yy_word (List.mem_singleton.mp m).symm, List.nodup_cons.mpr ⟨by simp, List.nodup_nil⟩⟩, fun a ha b hb e => ?_⟩
  · have e : (tb.map fun t => NestedKey.text t.1) = (tb.map (·.1)).map NestedKey.text := by
      rw [List.map_map]
      rfl
    rw [e]
    exact List.Pairwise.map _ (fun a b (h : a ≠ b) z => h (by injection z)) ok
  · obtain ⟨t, ht, rfl⟩ := List.mem_map.mp ha
    subst e
    simp only [List.mem_cons, List.not_mem_nil, or_false] at hb
    rcases hb with hb | hb
    · exact hy t ht (by injection hb)
    · exact hk _ (hw t ht) hb.symm
theorem step14 (hr : dHr A s f cd) (d : DoorC P w K mg base c cd Pt) (I : DoorIn K H p vq dd de zs st dtb etb n) (nvp : vq ≠ p) : Step (doorX P w K mg base f cd A outer s H E) (dst 14)
    (Pre8 H p vq dd de Pt zs st n 7) (Pre9 H p vq dd de Pt zs st n (fun _ => [("deeds", .str "yy")]) 7) := by
  refine ⟨_, ps_set (i := 7) scDoors.nd rfl (Or.inl rfl) (pe_lst (pa_cons (pe_met (k := 5) d.lm d.tb rfl hr (by decide) (lamS_by (sc := defScope sDoors) (by decide +kernel)) rfl (fun _ _ _ _ _ => rfl)
        (fun A' o' s' H' E' f' c' hr' => pe_thingL (doorX P w K mg base f cd A outer s H E) d.mkT hr' (pa_cons (pv 1) (pa_cons (pv 2) (pa_cons (pe_callTy (r := rMix K w) (X := lamCx (doorX P w K mg base f cd A outer s H E) A' o' s' H' E' _ f' c') (call_mix rfl rfl rfl hr'.units) (by rfl) d.gD (by decide +kernel)
          (pa_cons (pe_op op_cat (pe_listItems rfl (pv 3) (by rfl) d.gS (by decide +kernel)) (pe_lst (pa_cons (pe_tup (pa_cons pe_str (pa_cons (pv 12) pa_nil))) (pa_cons (pe_tup (pa_cons (pv 13) (pa_cons (pv 8) pa_nil))) pa_nil)))) pa_nil)) (pa_cons pe_int pa_nil)))))) pa_nil)), ?_⟩
  rintro D σ H1 ⟨o5, o6, o7, wd, o9, o10, o11, lead, l, key, rfl, a, hwd, wdp, lf, lb, kf⟩ k
  refine ⟨a.tb, fun H2 eN t2 => ?_⟩
  obtain ⟨zne, znd, zl, hw⟩ := id I.vo
  have z4 := I.z4
  have hv2 : H2 vq = some (.lst (zs.map V.str)) := eN _ _ (vq_at I nvp a) (fun _ z => by cases z)
  have hwd2 : H2 wd = some (.dK (tx (wholeL zs st))) := eN _ _ hwd (fun _ z => by cases z)
  have lf2 := leadF_xn (xn_extN eN) lf
  have kf2 := keyF_xn (xn_extN eN) kf
  obtain ⟨sp0⟩ := I.sp
  obtain ⟨sp1⟩ := a.sp
  have sp2 := spring_xn sp1 eN
  obtain ⟨rs, hd2, pr2⟩ := tb_xn sp0 (xn_trans a.xn (xn_extN eN)) I.hd
  obtain ⟨nk, ka, knw, _, _⟩ := keyF_at (K := K) kf2
  have dw : ∀ t ∈ dtb, wordT t.1 = true ∧ LeadIn zs t.2 := fun t ht => ⟨(I.dok.2 t ht).1, (I.dok.2 t ht).2.1⟩
  refine ⟨_, rfl, _, rfl, ?_⟩
  refine dct_mix (K := K) (w := w) (td := tVar 3) (tk1 := tC (.str "yy")) (tv1 := tVar 12) (tk2 := tVar 13) (tv2 := tVar 8) (n1 := .text "yy") (n2 := nk) (k1 := .str "yy") (k2 := key) (Pv1 := fun _ v => v = lead) (Pv2 := fun _ v => v = .ref wd) hd2 pr2 (fun R h => ⟨_, rfl, h⟩) (fun H R h => h) (fun H R sm h => ⟨_, rfl, h H _ (Same.refl H) rfl⟩) (fun _ _ _ _ h => h)
    (fun H R h => ⟨_, rfl, h⟩) (fun H R sm h => ⟨_, rfl, h H _ (Same.refl H) rfl⟩) (fun _ _ _ _ h => h) (.text _) ka (names_nd I.dok.1.1 (fun t ht => (dw t ht).1) I.dy knw) (by have := I.dl; omega) fun Hm Dm v1 v2 sm nD ev1 ev2 => ?_
  rw [ev1, ev2]
  have smD := same_hold (o := MixO w Dm (vOf rs dtb ++ [(.text "yy", .str "yy", lead), (nk, key, .ref wd)])) nD
  have s2D := sm.trans smD
  have s23 : Same H2 (upd Hm Dm (MixO w Dm (vOf rs dtb ++ [(.text "yy", .str "yy", lead), (nk, key, .ref wd)]))) := fun b o e => up_new nD (sm b o e)
  have prm : Paired (RowAt Hm) rs dtb := Paired.mapP pr2 fun r t q => by
    obtain ⟨b, e, h⟩ := q
    exact ⟨b, e, sm _ _ h⟩
  have e1 : EntAt K (L2.del (upd Hm Dm (MixO w Dm (vOf rs dtb ++ [(.text "yy", .str "yy", lead), (nk, key, .ref wd)]))) Dm) (.str "yy", lead, l) := ⟨any_word yy_word, fun _ => leadF_at (leadF_xn (xn_same s2D) lf2)⟩
  have whl : LeadF p st (L2.del (upd Hm Dm (MixO w Dm (vOf rs dtb ++ [(.text "yy", .str "yy", lead), (nk, key, .ref wd)]))) Dm) (.ref wd) (some (tx (wholeL zs st))) := leadF_whole hw I.hs (fun z hz => hz) znd (by omega) wdp (s2D _ _ hwd2)
  have e2 : EntAt K (L2.del (upd Hm Dm (MixO w Dm (vOf rs dtb ++ [(.text "yy", .str "yy", lead), (nk, key, .ref wd)]))) Dm) (key, .ref wd, some (tx (wholeL zs st))) := by
    obtain ⟨_, _, _, any, _⟩ := keyF_at (K := K) (keyF_xn (xn_same s2D) kf2)
    exact ⟨any, fun _ => leadF_at whl⟩
  have tab := mix_tab hw prm I.dok.1 dw nD (.text _) (ka.up sm) e1 e2
  have fnd : (esOf rs dtb ++ [((.str "yy" : V), lead, l), (key, .ref wd, some (tx (wholeL zs st)))]).find? (fun e => !deedOk zs e) = some (.str "yy", lead, l) := by
    refine find_first ?_ ?_
    · have := deeds_good (d := Dm) I.dok prm
      rw [List.all_eq_true] at this ⊢
      intro x hx
      rw [Bool.not_not]
      exact this x hx
    · show (!(isW (.str "yy") && badD l zs)) = true
      rw [lb, Bool.and_false]
      rfl
  refine fun x0 dx m1 m2 m3 => met_out (by decide) (bad_deeds (.inl (SqL.of (s23 _ _ hv2))) I.vo I.hs tab fnd) (fun H' t keep ht => ?_) x0 dx m1 m2 m3
  have spm : Nonempty (Spring (upd Hm Dm (MixO w Dm (vOf rs dtb ++ [(.text "yy", .str "yy", lead), (nk, key, .ref wd)]))) p (n + 7)) := ⟨sp2.to (by
    obtain ⟨xs, e⟩ := spring_some sp2
    rw [e]
    exact s23 _ _ e)⟩
  obtain ⟨a5, x5⟩ := at_keep a eN t2 (ext_same s23) spm (fun b z => by rw [z]; exact Same.free sm nD) keep
  refine ⟨by show 1 ≤ sizeLine; decide, fun fo nfo => ?_⟩
  obtain ⟨a6, fd, of, nfp⟩ := found_new (H2 := H') a5 ht nfo
  have x16 : XN p H1 (upd H' fo (.lst [.ref t])) := xn_trans x5 (xn_ext (ext_new nfo))
  exact k _ _ ⟨o5, o6, fo, wd, o9, o10, o11, some lead, key, rfl, a6, x16 _ _ wdp (fun _ z => by cases z) hwd, wdp, keyF_xn x16 kf, fd, of, nfp⟩
end
end K01
/-! ## O1 -/
set_option Elab.async false
set_option linter.all false
set_option maxRecDepth 100000
set_option maxHeartbeats 2000000
namespace K01
open PySem PySem.Spec PyProof.Rows L2 ErrK LamX LiI
theorem key_off {p fo : Addr} {H1 H2 : Hp} {x : V} {o : HO} {xs : List V} (h : KeyF p H1 x) (hf : H1 fo = some (.lst xs)) (k : XN p H1 H2) : KeyF p (upd H2 fo o) x := by
  rcases h with h | h | h | ⟨a, e, ne, ho⟩
  · exact .inl h
  · exact .inr (.inl h)
  · exact .inr (.inr (.inl h))
  · refine .inr (.inr (.inr ⟨a, e, ne, ?_⟩))
    have naf : a ≠ fo := fun z => by
      rw [z, hf] at ho
      cases ho
    rw [upd_ne naf]
    exact k a _ ne (fun _ z => by cases z) ho
theorem names_nd2 {tb : Rows} {nk : NestedKey} (ok : (tb.map (·.1)).Nodup) (hw : ∀ t ∈ tb, wordT t.1 = true) (hy : ∀ t ∈ tb, t.1 ≠ ("yy" : Str)) (hk : ∀ z, wordT z = true → nk ≠ .text z) : ((tb.map fun t => NestedKey.text t.1) ++ [nk, .text "yy"]).Nodup := by
  have q := names_nd ok hw hy hk
  exact (List.Perm.append_left _ (List.Perm.swap _ _ _)).nodup_iff.mp q
section
variable {P : Program} {w : World} {K : PySem.W.Frag} {mg : Str → Option Value} {base : Heap} {f cd Pt : Addr} {c : Cs} {A : Around} {outer : List Env} {s : Shared} {H : Hp} {E : XK} {p vq dd de : Addr} {zs : List Str} {st : Str} {dtb etb : Rows} {n : Nat}
/-- behind a further call, the second row of calls -/
theorem more9 {H1 H' : Hp} {o5 o6 o9 o10 o11 o12 : Option V} {wd : Addr} {key : V} {fo t : Addr} {prs : V → List (Str × V)} {kv : V → Str × V} {m m' : Nat} (a : At H H1 p Pt n m) (hwd : H1 wd = some (.dK (tx (wholeL zs st)))) (wdp : wd ≠ p) (kf : KeyF p H1 key) {ts : List Addr} (hf : H1 fo = some (.lst (ts.map V.ref)))
    (pr : Paired (fun t (q : Str × V) => H1 t = some (.tup [.str q.1, q.2])) ts (prs key)) (small : (prs key).length ≤ 100) (of : Off H p fo) (nfp : fo ≠ p) (a' : At H H' p Pt n m') (x : XN p H1 H') (ht : H' t = some (.tup [.str (kv key).1, (kv key).2])) {D : Ends}
    (k : ∀ σ' H', Pre9 H p vq dd de Pt zs st n (fun o => prs o ++ [kv o]) m' σ' H' → D.nx σ' H') : ∃ l xs y, V.ref fo = .ref l ∧ [V.ref t] = [y] ∧ H' l = some (.lst xs) ∧ xs.length < sizeLine ∧ D.nx (sl7 p vq dd de st o5 o6 (some (.ref fo)) wd o9 o10 o11 o12 (some key)) (upd H' l (.lst (xs ++ [y]))) := by
  obtain ⟨a6, fd⟩ := found_more (m := m) a' x a.sp hf pr ht of nfp
  have hf2 : H' fo = some (.lst (ts.map V.ref)) := x _ _ nfp (fun _ z => by cases z) hf
  have len : (ts.map V.ref).length < sizeLine := by
    rw [List.length_map, Paired.length pr]
    exact Nat.lt_of_le_of_lt small (by decide)
  have nwf : wd ≠ fo := fun z => by
    rw [z, hf] at hwd
    cases hwd
  refine ⟨fo, _, _, rfl, rfl, hf2, len, k _ _ ⟨o5, o6, fo, wd, o9, o10, o11, o12, key, rfl, a6, ?_, wdp, key_off kf hf x, fd, of, nfp⟩⟩
  rw [upd_ne nwf]
  exact x _ _ wdp (fun _ z => by cases z) hwd
abbrev qr1 : List (Str × V) := [("deeds", .str "yy")]
abbrev qr2 (k : V) : List (Str × V) := [("deeds", .str "yy"), ("deeds", k)]
abbrev qr3 (k : V) : List (Str × V) := [("deeds", .str "yy"), ("deeds", k), ("entries", k)]
abbrev qr4 (k : V) : List (Str × V) := [("deeds", .str "yy"), ("deeds", k), ("entries", k), ("entries", .str "yy")]
theorem step15 (hr : dHr A s f cd) (d : DoorC P w K mg base c cd Pt) (I : DoorIn K H p vq dd de zs st dtb etb n) (nvp : vq ≠ p) : Step (doorX P w K mg base f cd A outer s H E) (dst 15)
    (Pre9 H p vq dd de Pt zs st n (fun _ => qr1) 7) (Pre9 H p vq dd de Pt zs st n qr2 7) := by
  refine ⟨_, ps_expr (pe_bm PySem.F.plainAttrs_list PySem.F.slot_list_append PySem.F.type_list_append mt_append (pv 7) (pa_cons (pe_met (k := 5) d.lm d.tb rfl hr (by decide) (lamS_by (sc := defScope sDoors) (by decide +kernel)) rfl (fun _ _ _ _ _ => rfl)
        (fun A' o' s' H' E' f' c' hr' => pe_thingL (doorX P w K mg base f cd A outer s H E) d.mkT hr' (pa_cons (pv 1) (pa_cons (pv 2) (pa_cons (pe_callTy (r := rMix K w) (X := lamCx (doorX P w K mg base f cd A outer s H E) A' o' s' H' E' _ f' c') (call_mix rfl rfl rfl hr'.units) (by rfl) d.gD (by decide +kernel)
          (pa_cons (pe_op op_cat (pe_listItems rfl (pv 3) (by rfl) d.gS (by decide +kernel)) (pe_lst (pa_cons (pe_tup (pa_cons (pv 13) (pa_cons (pv 8) pa_nil))) (pa_cons (pe_tup (pa_cons pe_str (pa_cons pe_int pa_nil))) pa_nil)))) pa_nil)) (pa_cons pe_int pa_nil)))))) pa_nil)), ?_⟩
  rintro D σ H1 ⟨o5, o6, fo, wd, o9, o10, o11, o12, key, rfl, a, hwd, wdp, kf, ⟨ts, hf, pr⟩, of, nfp⟩ k
  refine ⟨_, rfl, .inl ⟨rfl, _, SqL.of hf⟩, a.tb, fun H2 eN t2 => ?_⟩
  obtain ⟨zne, znd, zl, hw⟩ := id I.vo
  have z4 := I.z4
  have hv2 : H2 vq = some (.lst (zs.map V.str)) := eN _ _ (vq_at I nvp a) (fun _ z => by cases z)
  have hwd2 : H2 wd = some (.dK (tx (wholeL zs st))) := eN _ _ hwd (fun _ z => by cases z)
  have kf2 := keyF_xn (xn_extN eN) kf
  obtain ⟨sp0⟩ := I.sp
  obtain ⟨sp1⟩ := a.sp
  have sp2 := spring_xn sp1 eN
  obtain ⟨rs, hd2, pr2⟩ := tb_xn sp0 (xn_trans a.xn (xn_extN eN)) I.hd
  obtain ⟨nk, ka, knw, _, nokey⟩ := keyF_at (K := K) kf2
  have dw : ∀ t ∈ dtb, wordT t.1 = true ∧ LeadIn zs t.2 := fun t ht => ⟨(I.dok.2 t ht).1, (I.dok.2 t ht).2.1⟩
  refine ⟨_, rfl, _, rfl, ?_⟩
  refine dct_mix (K := K) (w := w) (td := tVar 3) (tk2 := tC (.str "yy")) (tv2 := tC (.int 5)) (tk1 := tVar 13) (tv1 := tVar 8) (n2 := .text "yy") (n1 := nk) (k2 := .str "yy") (k1 := key) (Pv2 := fun _ v => v = .int 5) (Pv1 := fun _ v => v = .ref wd) hd2 pr2 (fun R h => ⟨_, rfl, h⟩)
    (fun H R h => ⟨_, rfl, h⟩) (fun H R sm h => ⟨_, rfl, h H _ (Same.refl H) rfl⟩) (fun _ _ _ _ h => h) (fun H R h => h) (fun H R sm h => h H _ (Same.refl H) rfl) (fun _ _ _ _ h => h) ka (.text _) (names_nd2 I.dok.1.1 (fun t ht => (dw t ht).1) I.dy knw) (by have := I.dl; omega) fun Hm Dm v1 v2 sm nD ev1 ev2 => ?_
  rw [ev1, ev2]
  have smD := same_hold (o := MixO w Dm (vOf rs dtb ++ [(nk, key, .ref wd), (.text "yy", .str "yy", .int 5)])) nD
  have s2D := sm.trans smD
  have s23 : Same H2 (upd Hm Dm (MixO w Dm (vOf rs dtb ++ [(nk, key, .ref wd), (.text "yy", .str "yy", .int 5)]))) := fun b o e => up_new nD (sm b o e)
  have prm : Paired (RowAt Hm) rs dtb := Paired.mapP pr2 fun r t q => by
    obtain ⟨b, e, h⟩ := q
    exact ⟨b, e, sm _ _ h⟩
  have e2 : EntAt K (L2.del (upd Hm Dm (MixO w Dm (vOf rs dtb ++ [(nk, key, .ref wd), (.text "yy", .str "yy", .int 5)]))) Dm) (.str "yy", .int 5, none) := ⟨any_word yy_word, fun _ => ⟨"int", .base (.int 5), .inr (by decide), by decide⟩⟩
  have whl : LeadF p st (L2.del (upd Hm Dm (MixO w Dm (vOf rs dtb ++ [(nk, key, .ref wd), (.text "yy", .str "yy", .int 5)]))) Dm) (.ref wd) (some (tx (wholeL zs st))) := leadF_whole hw I.hs (fun z hz => hz) znd (by omega) wdp (s2D _ _ hwd2)
  have e1 : EntAt K (L2.del (upd Hm Dm (MixO w Dm (vOf rs dtb ++ [(nk, key, .ref wd), (.text "yy", .str "yy", .int 5)]))) Dm) (key, .ref wd, some (tx (wholeL zs st))) := by
    obtain ⟨_, _, _, any, _⟩ := keyF_at (K := K) (keyF_xn (xn_same s2D) kf2)
    exact ⟨any, fun _ => leadF_at whl⟩
  have tab := mix_tab hw prm I.dok.1 dw nD (ka.up sm) (.text _) e1 e2
  have fnd : (esOf rs dtb ++ [((key, V.ref wd, some (tx (wholeL zs st))) : TEnt), ((V.str "yy", V.int 5, none) : TEnt)]).find? (fun e => !deedOk zs e) = some (key, .ref wd, some (tx (wholeL zs st))) := by
    refine find_first ?_ ?_
    · have := deeds_good (d := Dm) I.dok prm
      rw [List.all_eq_true] at this ⊢
      intro x hx
      rw [Bool.not_not]
      exact this x hx
    · show (!(isW key && _)) = true
      rw [nokey, Bool.false_and]
      rfl
  refine fun x0 dx m1 m2 m3 => met_out (by decide) (bad_deeds (.inl (SqL.of (s23 _ _ hv2))) I.vo I.hs tab fnd) (fun H' t keep ht => ?_) x0 dx m1 m2 m3
  have spm : Nonempty (Spring (upd Hm Dm (MixO w Dm (vOf rs dtb ++ [(nk, key, .ref wd), (.text "yy", .str "yy", .int 5)]))) p (n + 7)) := ⟨sp2.to (by
    obtain ⟨xs, e⟩ := spring_some sp2
    rw [e]
    exact s23 _ _ e)⟩
  obtain ⟨a5, x5⟩ := at_keep a eN t2 (ext_same s23) spm (fun b z => by rw [z]; exact Same.free sm nD) keep
  exact more9 (prs := fun _ => qr1) (kv := fun o => ("deeds", o)) a hwd wdp kf hf pr (by show 1 ≤ 100; decide) of nfp a5 x5 ht k
end
end K01
/-! ## O2 -/
set_option Elab.async false
set_option linter.all false
set_option maxRecDepth 100000
set_option maxHeartbeats 2000000
namespace K01
open PySem PySem.Spec PyProof.Rows L2 ErrK LamX LiI
section
variable {P : Program} {w : World} {K : PySem.W.Frag} {mg : Str → Option Value} {base : Heap} {f cd Pt : Addr} {c : Cs} {A : Around} {outer : List Env} {s : Shared} {H : Hp} {E : XK} {p vq dd de : Addr} {zs : List Str} {st : Str} {dtb etb : Rows} {n : Nat}
theorem step16 (hr : dHr A s f cd) (d : DoorC P w K mg base c cd Pt) (I : DoorIn K H p vq dd de zs st dtb etb n) (nvp : vq ≠ p) : Step (doorX P w K mg base f cd A outer s H E) (dst 16)
    (Pre9 H p vq dd de Pt zs st n qr2 7) (Pre9 H p vq dd de Pt zs st n qr3 7) := by
  refine ⟨_, ps_expr (pe_bm PySem.F.plainAttrs_list PySem.F.slot_list_append PySem.F.type_list_append mt_append (pv 7) (pa_cons (pe_met (k := 5) d.lm d.tb rfl hr (by decide) (lamS_by (sc := defScope sDoors) (by decide +kernel)) rfl (fun _ _ _ _ _ => rfl)
        (fun A' o' s' H' E' f' c' hr' => pe_thingL (doorX P w K mg base f cd A outer s H E) d.mkT hr' (pa_cons (pv 1) (pa_cons (pv 2) (pa_cons (pv 3) (pa_cons (pe_callTy (r := rMix K w) (X := lamCx (doorX P w K mg base f cd A outer s H E) A' o' s' H' E' _ f' c') (call_mix rfl rfl rfl hr'.units) (by rfl) d.gD (by decide +kernel)
          (pa_cons (pe_op op_cat (pe_listItems rfl (pv 4) (by rfl) d.gS (by decide +kernel)) (pe_lst (pa_cons (pe_tup (pa_cons (pv 13) (pa_cons pe_dnewK pa_nil))) (pa_cons (pe_tup (pa_cons pe_str (pa_cons pe_int pa_nil))) pa_nil)))) pa_nil)) pa_nil)))))) pa_nil)), ?_⟩
  rintro D σ H1 ⟨o5, o6, fo, wd, o9, o10, o11, o12, key, rfl, a, hwd, wdp, kf, ⟨ts, hf, pr⟩, of, nfp⟩ k
  refine ⟨_, rfl, .inl ⟨rfl, _, SqL.of hf⟩, a.tb, fun H2 eN t2 => ?_⟩
  obtain ⟨zne, znd, zl, hw⟩ := id I.vo
  have z4 := I.z4
  have hv2 : H2 vq = some (.lst (zs.map V.str)) := eN _ _ (vq_at I nvp a) (fun _ z => by cases z)
  have kf2 := keyF_xn (xn_extN eN) kf
  obtain ⟨sp0⟩ := I.sp
  obtain ⟨sp1⟩ := a.sp
  have sp2 := spring_xn sp1 eN
  obtain ⟨rd, hd2, pd2⟩ := tb_xn sp0 (xn_trans a.xn (xn_extN eN)) I.hd
  obtain ⟨rs, he2, pr2⟩ := tb_xn sp0 (xn_trans a.xn (xn_extN eN)) I.he
  obtain ⟨nk, ka, knw, _, nokey⟩ := keyF_at (K := K) kf2
  have dw : ∀ t ∈ etb, wordT t.1 = true ∧ LeadIn zs t.2 := fun t ht => ⟨(I.eok.2 t ht).1, (I.eok.2 t ht).2.1⟩
  have ne2 : ∀ H4 : Hp, Same H2 H4 → ∀ b, H4 b = none → b ≠ p := fun H4 sm b nb z => by
    obtain ⟨xs, e⟩ := spring_some sp2
    rw [z, sm _ _ e] at nb
    cases nb
  refine ⟨_, rfl, _, rfl, _, rfl, ?_⟩
  refine dct_mix (K := K) (w := w) (td := tVar 4) (tk2 := tC (.str "yy")) (tv2 := tC (.int 5)) (tk1 := tVar 13) (tv1 := tDNewK) (n2 := .text "yy") (n1 := nk) (k2 := .str "yy") (k1 := key) (Pv2 := fun _ v => v = .int 5) (Pv1 := fun H v => ∃ b, v = .ref b ∧ b ≠ p ∧ H b = some (.dK [])) he2 pr2 (fun R h => ⟨_, rfl, h⟩)
    (fun H R h => ⟨_, rfl, h⟩) (fun H4 R sm h => fun b nb => h _ _ (fun c o e => up_new nb e) ⟨b, rfl, ne2 H4 sm b nb, upd_same⟩) (fun _ _ _ s h => by
      obtain ⟨b, e, n, h⟩ := h
      exact ⟨b, e, n, s _ _ h⟩) (fun H R h => h) (fun H R sm h => h H _ (Same.refl H) rfl) (fun _ _ _ _ h => h) ka (.text _) (names_nd2 I.eok.1.1 (fun t ht => (dw t ht).1) I.ey knw) (by have := I.el; omega) fun Hm Dm v1 v2 sm nD ev1 ev2 => ?_
  obtain ⟨b1, ev1, nb1, hb1⟩ := ev1
  rw [ev1, ev2]
  have smD := same_hold (o := MixO w Dm (vOf rs etb ++ [(nk, key, .ref b1), (.text "yy", .str "yy", .int 5)])) nD
  have s2D := sm.trans smD
  have s23 : Same H2 (upd Hm Dm (MixO w Dm (vOf rs etb ++ [(nk, key, .ref b1), (.text "yy", .str "yy", .int 5)]))) := fun b o e => up_new nD (sm b o e)
  have prm : Paired (RowAt Hm) rs etb := Paired.mapP pr2 fun r t q => by
    obtain ⟨b, e, h⟩ := q
    exact ⟨b, e, sm _ _ h⟩
  have e2 : EntAt K (L2.del (upd Hm Dm (MixO w Dm (vOf rs etb ++ [(nk, key, .ref b1), (.text "yy", .str "yy", .int 5)]))) Dm) (.str "yy", .int 5, none) := ⟨any_word yy_word, fun _ => ⟨"int", .base (.int 5), .inr (by decide), by decide⟩⟩
  have e1 : EntAt K (L2.del (upd Hm Dm (MixO w Dm (vOf rs etb ++ [(nk, key, .ref b1), (.text "yy", .str "yy", .int 5)]))) Dm) (key, .ref b1, some []) := by
    obtain ⟨_, _, _, any, _⟩ := keyF_at (K := K) (keyF_xn (xn_same s2D) kf2)
    exact ⟨any, fun z => by rw [nokey] at z; cases z⟩
  have tab := mix_tab hw prm I.eok.1 dw nD (ka.up sm) (.text _) e1 e2
  have fnd : (esOf rs etb ++ [((key, V.ref b1, some []) : TEnt), ((V.str "yy", V.int 5, none) : TEnt)]).find? (fun e => !entOk zs rd e) = some (key, .ref b1, some []) := by
    refine find_first ?_ ?_
    · have := ents_good I.eok (Paired.mapP pd2 fun r t q => by
        obtain ⟨b, e, h⟩ := q
        exact (⟨b, e, sm _ _ h⟩ : RowAt Hm r t)) prm
      rw [List.all_eq_true] at this ⊢
      intro x hx
      rw [Bool.not_not]
      exact this x hx
    · show (!(isW key && _)) = true
      rw [nokey, Bool.false_and]
      rfl
  have ndd : Dm ≠ dd := fun z => by
    rw [z, sm _ _ hd2] at nD
    cases nD
  refine fun x0 dx m1 m2 m3 => met_out (by decide) (bad_ents (.inl (SqL.of (s23 _ _ hv2))) I.vo I.hs (s23 _ _ hd2) (rows_same s23 pd2) I.dok ndd tab fnd) (fun H' t keep ht => ?_) x0 dx m1 m2 m3
  have spm : Nonempty (Spring (upd Hm Dm (MixO w Dm (vOf rs etb ++ [(nk, key, .ref b1), (.text "yy", .str "yy", .int 5)]))) p (n + 7)) := ⟨sp2.to (by
    obtain ⟨xs, e⟩ := spring_some sp2
    rw [e]
    exact s23 _ _ e)⟩
  obtain ⟨a5, x5⟩ := at_keep a eN t2 (ext_same s23) spm (fun b z => by rw [z]; exact Same.free sm nD) keep
  exact more9 (prs := qr2) (kv := fun o => ("entries", o)) a hwd wdp kf hf pr (by show 2 ≤ 100; decide) of nfp a5 x5 ht k
end
end K01
/-! ## O3 -/
set_option Elab.async false
set_option linter.all false
set_option maxRecDepth 100000
set_option maxHeartbeats 2000000
namespace K01
open PySem PySem.Spec PyProof.Rows L2 ErrK LamX LiI
theorem leadF_one {p a : Addr} {st : Str} {H : Hp} {k : Key} {v : V} (ne : a ≠ p) (ha : H a = some (.dK [(k, v)])) (kg : k = .inl 5 ∨ ∃ z : Str, k = .inr z ∧ z.length ≤ 1000) (vg : v = .non ∨ (∃ z : Str, v = .str z ∧ z.length ≤ 1000) ∨ ∃ b, v = .ref b ∧ b ≠ p ∧ H b = some (.lst [.str st])) : LeadF p st H (.ref a) (some [(k, v)]) :=
  .inr (.inr (.inr ⟨a, _, rfl, ne, ha, rfl, (by decide : 1 ≤ 100), List.nodup_cons.mpr ⟨by simp, List.nodup_nil⟩, fun q hq => by rw [List.mem_singleton.mp hq]; exact kg, fun q hq => by rw [List.mem_singleton.mp hq]; exact vg⟩))
section
variable {P : Program} {w : World} {K : PySem.W.Frag} {mg : Str → Option Value} {base : Heap} {f cd Pt : Addr} {c : Cs} {A : Around} {outer : List Env} {s : Shared} {H : Hp} {E : XK} {p vq dd de : Addr} {zs : List Str} {st : Str} {dtb etb : Rows} {n : Nat}
def Pre10 (H : Hp) (p vq dd de Pt : Addr) (zs : List Str) (st : Str) (n : Nat) (prs : V → List (Str × V)) (m : Nat) : L2.St → Hp → Prop := fun σ H1 => ∃ o5 o6 fo wd o9 o10 o11 lead l key, σ = sl7 p vq dd de st o5 o6 (some (.ref fo)) wd o9 o10 o11 (some lead) (some key) ∧ At H H1 p Pt n m ∧
  H1 wd = some (.dK (tx (wholeL zs st))) ∧ wd ≠ p ∧ LeadF p st H1 lead l ∧ leadB l zs = false ∧ KeyF p H1 key ∧ Found H1 fo (prs key) ∧ Off H p fo ∧ fo ≠ p
theorem found_xn {H1 H2 : Hp} {fo : Addr} {prs : List (Str × V)} {m : Nat} (sp : Nonempty (Spring H1 p m)) (nfp : fo ≠ p) (x : XN p H1 H2) (h : Found H1 fo prs) : Found H2 fo prs := by
  obtain ⟨ts, h1, h2⟩ := h
  obtain ⟨xs, e⟩ := sp_some sp
  exact ⟨ts, x _ _ nfp (fun _ z => by cases z) h1, Paired.mapP h2 fun t q h => x _ _ (fun z => by rw [z, e] at h; cases h) (fun _ z => by cases z) h⟩
theorem step17 (hr : dHr A s f cd) (d : DoorC P w K mg base c cd Pt) (I : DoorIn K H p vq dd de zs st dtb etb n) : Step (doorX P w K mg base f cd A outer s H E) (dst 17)
    (Pre9 H p vq dd de Pt zs st n qr3 7) (Pre10 H p vq dd de Pt zs st n qr3 8) := by
  refine ⟨_, ps_set (i := 12) scDoors.nd rfl (Or.inr rfl) (pe_cl d.one hr (by decide) pass0 (pa_cons (pv 0) (pa_cons (pe_lst (pa_cons pe_non (pa_cons pe_int (pa_cons (pe_lst pa_nil)
      (pa_cons (pe_disp (pps_cons pe_str (pv 2) pps_nil) rfl rfl (by simp) (by decide)) (pa_cons (pe_disp (pps_cons (pv 2) pe_str pps_nil) rfl rfl (by simp) (by decide))
      (pa_cons (pe_disp (pps_cons (pv 2) pe_non pps_nil) rfl rfl (by simp) (by decide)) (pa_cons (pe_disp (pps_cons pe_int (pv 2) pps_nil) rfl rfl (by simp) (by decide)) pa_nil)))))))) pa_nil))), ?_⟩
  rintro D σ H1 ⟨o5, o6, fo, wd, o9, o10, o11, o12, key, rfl, a, hwd, wdp, kf, fd, of, nfp⟩ k
  obtain ⟨zne, znd, zl, hw⟩ := id I.vo
  obtain ⟨sp1⟩ := a.sp
  have stl : st.length ≤ 1000 := Nat.le_trans (wordT_len (hw _ I.hs)) (by decide)
  have zzl : (("zz" : Str)).length ≤ 1000 := by decide +kernel
  have noZZ : isV (.str "zz") zs = false := isV_odd fun z hz e => by
    have e : ("zz" : Str) = z := by injection e
    exact I.zz (by rw [e]; exact hz)
  have mk1 : ∀ (k : Key) (v : V), mergeK [] [(k, v)] = [(k, v)] := fun k v => putK_all [(k, v)] [] (by simp)
  refine ⟨_, rfl, by show 0 ≤ sizeLine; decide, fun l1 n1 => fun d1 m1 => ⟨_, rfl, upd_same, [(.inr "zz", .str st)], rfl, (by show 1 ≤ 15; decide), fun d2 m2 => ⟨_, rfl, upd_same, [(.inr st, .str "zz")], rfl, (by show 1 ≤ 15; decide), fun d3 m3 => ⟨_, rfl, upd_same, [(.inr st, .non)], rfl, (by show 1 ≤ 15; decide), fun d4 m4 => ⟨_, rfl, upd_same, [(.inl 5, .str st)], rfl, (by show 1 ≤ 15; decide), ?_⟩⟩⟩⟩⟩
  rw [mk1, mk1, mk1, mk1] at *
  have st1 : Same H1 (upd H1 l1 (.lst [])) := fun b o e => up_new n1 e
  have one : ∀ (Hx : Hp) (dx : Addr) (o : HO), Hx dx = none → Same Hx (upd (upd Hx dx (.dK [])) dx o) := fun Hx dx o nx b u e => by
    rw [upd_ne (ne_of_none e nx)]
    exact up_new nx e
  generalize e2 : upd (upd (upd H1 l1 (.lst [])) d1 (.dK [])) d1 (.dK [(.inr "zz", .str st)]) = H2 at *
  have s2 : Same (upd H1 l1 (.lst [])) H2 := by rw [← e2]; exact one _ _ _ m1
  generalize e3 : upd (upd H2 d2 (.dK [])) d2 (.dK [(.inr st, .str "zz")]) = H3 at *
  have s3 : Same H2 H3 := by rw [← e3]; exact one _ _ _ m2
  generalize e4 : upd (upd H3 d3 (.dK [])) d3 (.dK [(.inr st, .non)]) = H4 at *
  have s4 : Same H3 H4 := by rw [← e4]; exact one _ _ _ m3
  generalize e5 : upd (upd H4 d4 (.dK [])) d4 (.dK [(.inl 5, .str st)]) = H5 at *
  have s5 : Same H4 H5 := by rw [← e5]; exact one _ _ _ m4
  have h2 : H2 d1 = some (.dK [(.inr "zz", .str st)]) := by rw [← e2, upd_same]
  have h3 : H3 d2 = some (.dK [(.inr st, .str "zz")]) := by rw [← e3, upd_same]
  have h4 : H4 d3 = some (.dK [(.inr st, .non)]) := by rw [← e4, upd_same]
  have h5 : H5 d4 = some (.dK [(.inl 5, .str st)]) := by rw [← e5, upd_same]
  refine ⟨by show 7 ≤ sizeLine; decide, fun L nL => ?_⟩
  have s6 : Same H5 (upd H5 L (.lst [.non, .int 5, .ref l1, .ref d1, .ref d2, .ref d3, .ref d4])) := fun b o e => up_new nL e
  have s16 := st1.trans (s2.trans (s3.trans (s4.trans (s5.trans s6))))
  have l1p := ne_sp a.sp n1
  have d1p := ne_sp (at_same a st1).sp m1
  have d2p := ne_sp (at_same a (st1.trans s2)).sp m2
  have d3p := ne_sp (at_same a (st1.trans (s2.trans s3))).sp m3
  have d4p := ne_sp (at_same a (st1.trans (s2.trans (s3.trans s4)))).sp m4
  have Lp := ne_sp (at_same a (st1.trans (s2.trans (s3.trans (s4.trans s5))))).sp nL
  obtain ⟨sp6⟩ := (at_same a s16).sp
  refine ⟨p, L, _, n + 7, rfl, sp6, by have := I.nn; omega, SqL.of upd_same, Lp, by show 0 < 7; decide, by show 7 ≤ 1000; decide, fun H7 v vin bt sp7 => ?_⟩
  have e17 : Ext p H1 H7 := ext_trans (ext_same s16) (ext_but bt)
  have to7 : ∀ b o, b ≠ p → H5 b = some o → H7 b = some o := fun b o nb e => (bt b nb).trans (s6 _ _ e)
  have x17 : XN p H1 H7 := xn_ext e17
  have fin : ∀ l, LeadF p st H7 v l → leadB l zs = false → D.nx (sl7 p vq dd de st o5 o6 (some (.ref fo)) wd o9 o10 o11 (some v) (some key)) H7 := fun l h1 h2 =>
    k _ _ ⟨o5, o6, fo, wd, o9, o10, o11, v, l, key, rfl, ⟨xn_trans a.xn x17, ⟨sp7⟩, tabs_ext a.tb sp1 e17⟩, e17 _ _ wdp hwd, wdp, h1, h2, keyF_xn x17 kf, found_xn a.sp nfp x17 fd, of, nfp⟩
  simp only [List.mem_cons, List.not_mem_nil, or_false] at vin
  rcases vin with rfl | rfl | rfl | rfl | rfl | rfl | rfl
  · exact fin none (.inl ⟨rfl, rfl⟩) rfl
  · exact fin none (.inr (.inl ⟨rfl, rfl⟩)) rfl
  · exact fin none (.inr (.inr (.inl ⟨l1, rfl, l1p, to7 _ _ l1p (s5 _ _ (s4 _ _ (s3 _ _ (s2 _ _ upd_same)))), rfl⟩))) rfl
  · exact fin _ (leadF_one d1p (to7 _ _ d1p (s5 _ _ (s4 _ _ (s3 _ _ h2)))) (.inr ⟨_, rfl, zzl⟩) (.inr (.inl ⟨_, rfl, stl⟩))) (bad_last (kvs := []) (.inl noZZ))
  · exact fin _ (leadF_one d2p (to7 _ _ d2p (s5 _ _ (s4 _ _ h3))) (.inr ⟨_, rfl, stl⟩) (.inr (.inl ⟨_, rfl, zzl⟩))) (bad_last (kvs := []) (.inr noZZ))
  · exact fin _ (leadF_one d3p (to7 _ _ d3p (s5 _ _ h4)) (.inr ⟨_, rfl, stl⟩) (.inl rfl)) (bad_last (kvs := []) (.inr (isV_odd fun z hz e => by cases e)))
  · exact fin _ (leadF_one d4p (to7 _ _ d4p h5) (.inl rfl) (.inr (.inl ⟨_, rfl, stl⟩))) (bad_last (kvs := []) (.inl (isV_odd fun z hz e => by cases e)))
end
end K01
/-! ## O4 -/
set_option Elab.async false
set_option linter.all false
set_option maxRecDepth 100000
set_option maxHeartbeats 2000000
namespace K01
open PySem PySem.Spec PyProof.Rows L2 ErrK LamX LiI
section
variable {P : Program} {w : World} {K : PySem.W.Frag} {mg : Str → Option Value} {base : Heap} {f cd Pt : Addr} {c : Cs} {A : Around} {outer : List Env} {s : Shared} {H : Hp} {E : XK} {p vq dd de : Addr} {zs : List Str} {st : Str} {dtb etb : Rows} {n : Nat}
theorem step18 (hr : dHr A s f cd) (d : DoorC P w K mg base c cd Pt) (I : DoorIn K H p vq dd de zs st dtb etb n) (nvp : vq ≠ p) : Step (doorX P w K mg base f cd A outer s H E) (dst 18)
    (Pre10 H p vq dd de Pt zs st n qr3 8) (Pre9 H p vq dd de Pt zs st n qr4 8) := by
  refine ⟨_, ps_expr (pe_bm PySem.F.plainAttrs_list PySem.F.slot_list_append PySem.F.type_list_append mt_append (pv 7) (pa_cons (pe_met (k := 5) d.lm d.tb rfl hr (by decide) (lamS_by (sc := defScope sDoors) (by decide +kernel)) rfl (fun _ _ _ _ _ => rfl)
        (fun A' o' s' H' E' f' c' hr' => pe_thingL (doorX P w K mg base f cd A outer s H E) d.mkT hr' (pa_cons (pv 1) (pa_cons (pv 2) (pa_cons (pv 3) (pa_cons (pe_callTy (r := rMix K w) (X := lamCx (doorX P w K mg base f cd A outer s H E) A' o' s' H' E' _ f' c') (call_mix rfl rfl rfl hr'.units) (by rfl) d.gD (by decide +kernel)
          (pa_cons (pe_op op_cat (pe_listItems rfl (pv 4) (by rfl) d.gS (by decide +kernel)) (pe_lst (pa_cons (pe_tup (pa_cons pe_str (pa_cons (pv 12) pa_nil))) (pa_cons (pe_tup (pa_cons (pv 13) (pa_cons pe_dnewK pa_nil))) pa_nil)))) pa_nil)) pa_nil)))))) pa_nil)), ?_⟩
  rintro D σ H1 ⟨o5, o6, fo, wd, o9, o10, o11, lead, l, key, rfl, a, hwd, wdp, lf, lb, kf, ⟨ts, hf, pr⟩, of, nfp⟩ k
  refine ⟨_, rfl, .inl ⟨rfl, _, SqL.of hf⟩, a.tb, fun H2 eN t2 => ?_⟩
  obtain ⟨zne, znd, zl, hw⟩ := id I.vo
  have z4 := I.z4
  have hv2 : H2 vq = some (.lst (zs.map V.str)) := eN _ _ (vq_at I nvp a) (fun _ z => by cases z)
  have kf2 := keyF_xn (xn_extN eN) kf
  have lf2 := leadF_xn (xn_extN eN) lf
  obtain ⟨sp0⟩ := I.sp
  obtain ⟨sp1⟩ := a.sp
  have sp2 := spring_xn sp1 eN
  obtain ⟨rd, hd2, pd2⟩ := tb_xn sp0 (xn_trans a.xn (xn_extN eN)) I.hd
  obtain ⟨rs, he2, pr2⟩ := tb_xn sp0 (xn_trans a.xn (xn_extN eN)) I.he
  obtain ⟨nk, ka, knw, _, nokey⟩ := keyF_at (K := K) kf2
  have dw : ∀ t ∈ etb, wordT t.1 = true ∧ LeadIn zs t.2 := fun t ht => ⟨(I.eok.2 t ht).1, (I.eok.2 t ht).2.1⟩
  have ne2 : ∀ H4 : Hp, Same H2 H4 → ∀ b, H4 b = none → b ≠ p := fun H4 sm b nb z => by
    obtain ⟨xs, e⟩ := spring_some sp2
    rw [z, sm _ _ e] at nb
    cases nb
  refine ⟨_, rfl, _, rfl, _, rfl, ?_⟩
  refine dct_mix (K := K) (w := w) (td := tVar 4) (tk1 := tC (.str "yy")) (tv1 := tVar 12) (tk2 := tVar 13) (tv2 := tDNewK) (n1 := .text "yy") (n2 := nk) (k1 := .str "yy") (k2 := key) (Pv1 := fun _ v => v = lead) (Pv2 := fun H v => ∃ b, v = .ref b ∧ b ≠ p ∧ H b = some (.dK [])) he2 pr2 (fun R h => ⟨_, rfl, h⟩)
    (fun H R h => h) (fun H R sm h => ⟨_, rfl, h H _ (Same.refl H) rfl⟩) (fun _ _ _ _ h => h) (fun H R h => ⟨_, rfl, h⟩) (fun H4 R sm h => fun b nb => h _ _ (fun c o e => up_new nb e) ⟨b, rfl, ne2 H4 sm b nb, upd_same⟩) (fun _ _ _ s h => by
      obtain ⟨b, e, n, h⟩ := h
      exact ⟨b, e, n, s _ _ h⟩) (.text _) ka (names_nd I.eok.1.1 (fun t ht => (dw t ht).1) I.ey knw) (by have := I.el; omega) fun Hm Dm v1 v2 sm nD ev1 ev2 => ?_
  obtain ⟨b1, ev2, nb1, hb1⟩ := ev2
  rw [ev1, ev2]
  have smD := same_hold (o := MixO w Dm (vOf rs etb ++ [(.text "yy", .str "yy", lead), (nk, key, .ref b1)])) nD
  have s2D := sm.trans smD
  have s23 : Same H2 (upd Hm Dm (MixO w Dm (vOf rs etb ++ [(.text "yy", .str "yy", lead), (nk, key, .ref b1)]))) := fun b o e => up_new nD (sm b o e)
  have prm : Paired (RowAt Hm) rs etb := Paired.mapP pr2 fun r t q => by
    obtain ⟨b, e, h⟩ := q
    exact ⟨b, e, sm _ _ h⟩
  have e1 : EntAt K (L2.del (upd Hm Dm (MixO w Dm (vOf rs etb ++ [(.text "yy", .str "yy", lead), (nk, key, .ref b1)]))) Dm) (.str "yy", lead, l) := ⟨any_word yy_word, fun _ => leadF_at (leadF_xn (xn_same s2D) lf2)⟩
  have e2 : EntAt K (L2.del (upd Hm Dm (MixO w Dm (vOf rs etb ++ [(.text "yy", .str "yy", lead), (nk, key, .ref b1)]))) Dm) (key, .ref b1, some []) := by
    obtain ⟨_, _, _, any, _⟩ := keyF_at (K := K) (keyF_xn (xn_same s2D) kf2)
    exact ⟨any, fun z => by rw [nokey] at z; cases z⟩
  have tab := mix_tab hw prm I.eok.1 dw nD (.text _) (ka.up sm) e1 e2
  have fnd : (esOf rs etb ++ [((V.str "yy", lead, l) : TEnt), ((key, V.ref b1, some []) : TEnt)]).find? (fun e => !entOk zs rd e) = some (.str "yy", lead, l) := by
    refine find_first ?_ ?_
    · have := ents_good I.eok (Paired.mapP pd2 fun r t q => by
        obtain ⟨b, e, h⟩ := q
        exact (⟨b, e, sm _ _ h⟩ : RowAt Hm r t)) prm
      rw [List.all_eq_true] at this ⊢
      intro x hx
      rw [Bool.not_not]
      exact this x hx
    · show (!(isW (.str "yy") && (_ && leadB l zs))) = true
      rw [lb, Bool.and_false, Bool.and_false]
      rfl
  have ndd : Dm ≠ dd := fun z => by
    rw [z, sm _ _ hd2] at nD
    cases nD
  refine fun x0 dx m1 m2 m3 => met_out (by decide) (bad_ents (.inl (SqL.of (s23 _ _ hv2))) I.vo I.hs (s23 _ _ hd2) (rows_same s23 pd2) I.dok ndd tab fnd) (fun H' t keep ht => ?_) x0 dx m1 m2 m3
  have spm : Nonempty (Spring (upd Hm Dm (MixO w Dm (vOf rs etb ++ [(.text "yy", .str "yy", lead), (nk, key, .ref b1)]))) p (n + 8)) := ⟨sp2.to (by
    obtain ⟨xs, e⟩ := spring_some sp2
    rw [e]
    exact s23 _ _ e)⟩
  obtain ⟨a5, x5⟩ := at_keep a eN t2 (ext_same s23) spm (fun b z => by rw [z]; exact Same.free sm nD) keep
  exact more9 (prs := qr3) (kv := fun o => ("entries", .str "yy")) a hwd wdp kf hf pr (by show 3 ≤ 100; decide) of nfp a5 x5 ht k
end
end K01
/-! ## O5 -/
set_option Elab.async false
set_option linter.all false
set_option maxRecDepth 100000
set_option maxHeartbeats 2000000
namespace K01
open PySem PySem.Spec PyProof.Rows L2 ErrK LamX LiI
section
variable {P : Program} {w : World} {K : PySem.W.Frag} {mg : Str → Option Value} {base : Heap} {f cd Pt : Addr} {c : Cs} {A : Around} {outer : List Env} {s : Shared} {H : Hp} {E : XK} {p vq dd de : Addr} {zs : List Str} {st : Str} {dtb etb : Rows} {n : Nat}
def Pre11 (H : Hp) (p vq dd de Pt : Addr) (st : Str) (n m : Nat) : L2.St → Hp → Prop := fun σ H1 => ∃ o5 o6 o7 o8 o9 o10 o11 o12 key, σ = [some (.ref p), some (.ref vq), some (.str st), some (.ref dd), some (.ref de), o5, o6, o7, o8, o9, o10, o11, o12, some key, none, none] ∧ At H H1 p Pt n m ∧ KeyF p H1 key
theorem step19 (hr : dHr A s f cd) (d : DoorC P w K mg base c cd Pt) (I : DoorIn K H p vq dd de zs st dtb etb n) : Step (doorX P w K mg base f cd A outer s H E) (dst 19)
    (Pre9 H p vq dd de Pt zs st n qr4 8) (Pre11 H p vq dd de Pt st n 8) := by
  have hu : (A.deeper (envOfC "_law_doors_right" (defScope sDoors) s.heap.objs.size f (.ref cd))).units + 64 < cLine := hr.units
  refine ⟨_, ps_if (pt_cmpR (op_neW (X := doorX P w K mg base f cd A outer s H E) hu) (pv 7) (pe_lst (pa_cons (pe_tup (pa_cons pe_str (pa_cons pe_str pa_nil)))
        (pa_cons (pe_tup (pa_cons pe_str (pa_cons (pv 13) pa_nil))) (pa_cons (pe_tup (pa_cons pe_str (pa_cons (pv 13) pa_nil))) (pa_cons (pe_tup (pa_cons pe_str (pa_cons pe_str pa_nil))) pa_nil))))) (nomark _))
      (pss_one (ps_ret pe_bl)) pss_nil, ?_⟩
  rintro D σ H1 ⟨o5, o6, fo, wd, o9, o10, o11, o12, key, rfl, a, hwd, wdp, kf, ⟨ts, hf, pr⟩, of, nfp⟩ k
  have ok' : flatB key = true ∨ ∃ a, key = .ref a := by
    rcases kf with ⟨z, rfl, _⟩ | rfl | rfl | ⟨a, rfl, _⟩
    · exact .inl rfl
    · exact .inl rfl
    · exact .inl rfl
    · exact .inr ⟨_, rfl⟩
  refine ⟨_, rfl, by show 2 ≤ sizeLine; decide, fun t1 n1 => ⟨_, rfl, by show 2 ≤ sizeLine; decide, fun t2 n2 => ⟨_, rfl, by show 2 ≤ sizeLine; decide, fun t3 n3 => ⟨by show 2 ≤ sizeLine; decide, fun t4 n4 => ⟨by show 4 ≤ sizeLine; decide, fun L nL => ?_⟩⟩⟩⟩⟩
  have up : ∀ b o, H1 b = some o → upd (upd (upd (upd (upd H1 t1 (.tup [.str "deeds", .str "yy"])) t2 (.tup [.str "deeds", key])) t3 (.tup [.str "entries", key])) t4 (.tup [.str "entries", .str "yy"])) L (.lst [.ref t1, .ref t2, .ref t3, .ref t4]) b = some o := fun b o e => up_new nL (up_new n4 (up_new n3 (up_new n2 (up_new n1 e))))
  cases pr with
  | cons e1 pr =>
    cases pr with
    | cons e2 pr =>
      cases pr with
      | cons e3 pr =>
        cases pr with
        | cons e4 pr =>
          cases pr with
          | nil =>
            have str : ∀ z : Str, (V.str z = V.str z) ∧ (flatB (V.str z) = true ∨ ∃ a, V.str z = .ref a) := fun z => ⟨rfl, .inl rfl⟩
            refine ⟨fo, L, _, _, rfl, rfl, SqL.of (up _ _ hf), SqL.of upd_same, ?_, false, rfl, iteF (k _ _ ⟨_, _, _, _, _, _, _, _, key, rfl, at_same a up, keyF_xn (xn_same up) kf⟩)⟩
            exact .cons ⟨_, _, _, _, rfl, rfl, sqT_of (up _ _ e1), sqT_of (up_new nL (up_new n4 (up_new n3 (up_new n2 upd_same)))), .cons (str _) (.cons (str _) .nil)⟩
              (.cons ⟨_, _, _, _, rfl, rfl, sqT_of (up _ _ e2), sqT_of (up_new nL (up_new n4 (up_new n3 upd_same))), .cons (str _) (.cons ⟨rfl, ok'⟩ .nil)⟩
              (.cons ⟨_, _, _, _, rfl, rfl, sqT_of (up _ _ e3), sqT_of (up_new nL (up_new n4 upd_same)), .cons (str _) (.cons ⟨rfl, ok'⟩ .nil)⟩
              (.cons ⟨_, _, _, _, rfl, rfl, sqT_of (up _ _ e4), sqT_of (up_new nL upd_same), .cons (str _) (.cons (str _) .nil)⟩ .nil)))
end
end K01
/-! ## O6 -/
set_option Elab.async false
set_option linter.all false
set_option maxRecDepth 100000
set_option maxHeartbeats 2000000
namespace K01
open PySem PySem.Spec PyProof.Rows L2 ErrK LamX LiI
theorem names_ndG {tb : Rows} {nk : NestedKey} {y : Str} (ok : (tb.map (·.1)).Nodup) (hw : ∀ t ∈ tb, wordT t.1 = true) (wy : wordT y = true) (hy : ∀ t ∈ tb, t.1 ≠ y) (hk : ∀ z, wordT z = true → nk ≠ .text z) : ((tb.map fun t => NestedKey.text t.1) ++ [.text y, nk]).Nodup := by
  rw [List.nodup_append]
  refine ⟨?_, List.nodup_cons.mpr ⟨fun m => hk _ wy (List.mem_singleton.mp m).symm, List.nodup_cons.mpr ⟨by simp, List.nodup_nil⟩⟩, fun a ha b hb e => ?_⟩
  · have e : (tb.map fun t => NestedKey.text t.1) = (tb.map (·.1)).map NestedKey.text := by
      rw [List.map_map]
      rfl
    rw [e]
    exact List.Pairwise.map _ (fun a b (h : a ≠ b) z => h (by injection z)) ok
  · obtain ⟨t, ht, rfl⟩ := List.mem_map.mp ha
    subst e
    simp only [List.mem_cons, List.not_mem_nil, or_false] at hb
    rcases hb with hb | hb
    · exact hy t ht (by injection hb)
    · exact hk _ (hw t ht) hb.symm
section
variable {P : Program} {w : World} {K : PySem.W.Frag} {mg : Str → Option Value} {base : Heap} {f cd Pt : Addr} {c : Cs} {A : Around} {outer : List Env} {s : Shared} {H : Hp} {E : XK} {p vq dd de : Addr} {zs : List Str} {st : Str} {dtb etb : Rows} {n : Nat}
/-- what becomes of a right def -/
def Fin (H : Hp) (p Pt : Addr) (n : Nat) (Q : VK) : Prop := ∀ H' m, m ≤ 20 → At H H' p Pt n m → Q (.bl true) H'
def Pre12 (H : Hp) (p vq dd de Pt : Addr) (st : Str) (dtb : Rows) (n m : Nat) : L2.St → Hp → Prop := fun σ H1 => ∃ o5 o6 o7 o8 o9 o10 o11 o12 key nm, σ = [some (.ref p), some (.ref vq), some (.str st), some (.ref dd), some (.ref de), o5, o6, o7, o8, o9, o10, o11, o12, some key, some (.str nm), none] ∧ At H H1 p Pt n m ∧ KeyF p H1 key ∧ nm ∈ dtb.map (·.1)
theorem part22 {Q : VK} (hr : dHr A s f cd) (d : DoorC P w K mg base c cd Pt) (I : DoorIn K H p vq dd de zs st dtb etb n) (nvp : vq ≠ p) (F : Fin H p Pt n Q) : Part (doorX P w K mg base f cd A outer s H E) [dst 22] (Pre12 H p vq dd de Pt st dtb n 9) Q := by
  have hu : (A.deeper (envOfC "_law_doors_right" (defScope sDoors) s.heap.objs.size f (.ref cd))).units + 64 < cLine := hr.units
  refine ⟨_, pss_one (ps_ret (pe_cmpR (op_eqD (X := doorX P w K mg base f cd A outer s H E) hu) (pe_met (k := 5) d.lm d.tb rfl hr (by decide) (lamS_by (sc := defScope sDoors) (by decide +kernel)) rfl (fun _ _ _ _ _ => rfl)
        (fun A' o' s' H' E' f' c' hr' => pe_thingL (doorX P w K mg base f cd A outer s H E) d.mkT hr' (pa_cons (pv 1) (pa_cons (pv 2) (pa_cons (pv 3) (pa_cons (pe_callTy (r := rMix K w) (X := lamCx (doorX P w K mg base f cd A outer s H E) A' o' s' H' E' _ f' c') (call_mix rfl rfl rfl hr'.units) (by rfl) d.gD (by decide +kernel)
          (pa_cons (pe_op op_cat (pe_listItems rfl (pv 4) (by rfl) d.gS (by decide +kernel)) (pe_lst (pa_cons (pe_tup (pa_cons (pv 14) (pa_cons pe_dnewK pa_nil))) (pa_cons (pe_tup (pa_cons (pv 13) (pa_cons pe_dnewK pa_nil))) pa_nil)))) pa_nil)) pa_nil))))))
      (pe_tup (pa_cons pe_str (pa_cons (pv 14) pa_nil))) (nomark _))), ?_⟩
  rintro σ H1 ⟨o5, o6, o7, o8, o9, o10, o11, o12, key, nm, rfl, a, kf, hnm⟩
  refine ⟨a.tb, fun H2 eN t2 => ?_⟩
  obtain ⟨zne, znd, zl, hw⟩ := id I.vo
  have z4 := I.z4
  have hv2 : H2 vq = some (.lst (zs.map V.str)) := eN _ _ (vq_at I nvp a) (fun _ z => by cases z)
  have kf2 := keyF_xn (xn_extN eN) kf
  obtain ⟨sp0⟩ := I.sp
  obtain ⟨sp1⟩ := a.sp
  have sp2 := spring_xn sp1 eN
  obtain ⟨rd, hd2, pd2⟩ := tb_xn sp0 (xn_trans a.xn (xn_extN eN)) I.hd
  obtain ⟨rs, he2, pr2⟩ := tb_xn sp0 (xn_trans a.xn (xn_extN eN)) I.he
  obtain ⟨nk, ka, knw, _, nokey⟩ := keyF_at (K := K) kf2
  have dw : ∀ t ∈ etb, wordT t.1 = true ∧ LeadIn zs t.2 := fun t ht => ⟨(I.eok.2 t ht).1, (I.eok.2 t ht).2.1⟩
  obtain ⟨tn, htn, etn⟩ := List.mem_map.mp hnm
  have wnm : wordT nm = true := by rw [← etn]; exact (I.dok.2 tn htn).1
  have nnm : ∀ t ∈ etb, t.1 ≠ nm := fun t ht e => (I.eok.2 t ht).2.2 (by rw [e]; exact hnm)
  have ne2 : ∀ H4 : Hp, Same H2 H4 → ∀ b, H4 b = none → b ≠ p := fun H4 sm b nb z => by
    obtain ⟨xs, e⟩ := spring_some sp2
    rw [z, sm _ _ e] at nb
    cases nb
  refine ⟨_, rfl, _, rfl, _, rfl, ?_⟩
  refine dct_mix (K := K) (w := w) (td := tVar 4) (tk1 := tVar 14) (tv1 := tDNewK) (tk2 := tVar 13) (tv2 := tDNewK) (n1 := .text nm) (n2 := nk) (k1 := .str nm) (k2 := key) (Pv1 := fun H v => ∃ b, v = .ref b ∧ b ≠ p ∧ H b = some (.dK [])) (Pv2 := fun H v => ∃ b, v = .ref b ∧ b ≠ p ∧ H b = some (.dK [])) he2 pr2 (fun R h => ⟨_, rfl, h⟩)
    (fun H R h => ⟨_, rfl, h⟩) (fun H4 R sm h => fun b nb => h _ _ (fun c o e => up_new nb e) ⟨b, rfl, ne2 H4 sm b nb, upd_same⟩) (fun _ _ _ s h => by
      obtain ⟨b, e, n, h⟩ := h
      exact ⟨b, e, n, s _ _ h⟩) (fun H R h => ⟨_, rfl, h⟩) (fun H4 R sm h => fun b nb => h _ _ (fun c o e => up_new nb e) ⟨b, rfl, ne2 H4 sm b nb, upd_same⟩) (fun _ _ _ s h => by
      obtain ⟨b, e, n, h⟩ := h
      exact ⟨b, e, n, s _ _ h⟩) (.text _) ka (names_ndG I.eok.1.1 (fun t ht => (dw t ht).1) wnm nnm knw) (by have := I.el; omega) fun Hm Dm v1 v2 sm nD ev1 ev2 => ?_
  obtain ⟨b1, ev1, nb1, hb1⟩ := ev1
  obtain ⟨b2, ev2, nb2, hb2⟩ := ev2
  rw [ev1, ev2]
  have smD := same_hold (o := MixO w Dm (vOf rs etb ++ [(.text nm, .str nm, .ref b1), (nk, key, .ref b2)])) nD
  have s2D := sm.trans smD
  have s23 : Same H2 (upd Hm Dm (MixO w Dm (vOf rs etb ++ [(.text nm, .str nm, .ref b1), (nk, key, .ref b2)]))) := fun b o e => up_new nD (sm b o e)
  have prm : Paired (RowAt Hm) rs etb := Paired.mapP pr2 fun r t q => by
    obtain ⟨b, e, h⟩ := q
    exact ⟨b, e, sm _ _ h⟩
  have e1 : EntAt K (L2.del (upd Hm Dm (MixO w Dm (vOf rs etb ++ [(.text nm, .str nm, .ref b1), (nk, key, .ref b2)]))) Dm) (.str nm, .ref b1, some []) := ⟨any_word wnm, fun _ => ⟨b1, rfl, smD _ _ hb1, Nat.zero_le _, List.nodup_nil, fun q h => by cases h⟩⟩
  have e2 : EntAt K (L2.del (upd Hm Dm (MixO w Dm (vOf rs etb ++ [(.text nm, .str nm, .ref b1), (nk, key, .ref b2)]))) Dm) (key, .ref b2, some []) := by
    obtain ⟨_, _, _, any, _⟩ := keyF_at (K := K) (keyF_xn (xn_same s2D) kf2)
    exact ⟨any, fun z => by rw [nokey] at z; cases z⟩
  have tab := mix_tab hw prm I.eok.1 dw nD (.text _) (ka.up sm) e1 e2
  have kin : (V.str nm) ∈ rd.map fun q => kV q.1 := by
    have kd := rows_keys (fun r t q => by obtain ⟨a, e, _⟩ := q; rw [e]) pd2
    have m : (Sum.inr nm : Key) ∈ rd.map (·.1) := by
      rw [kd]
      exact List.mem_map.mpr ⟨nm, hnm, rfl⟩
    obtain ⟨q, hq, eq⟩ := List.mem_map.mp m
    exact List.mem_map.mpr ⟨q, hq, by rw [eq]; rfl⟩
  have fnd : (esOf rs etb ++ [((V.str nm, V.ref b1, some []) : TEnt), ((key, V.ref b2, some []) : TEnt)]).find? (fun e => !entOk zs rd e) = some (.str nm, .ref b1, some []) := by
    refine find_first ?_ ?_
    · have := ents_good I.eok (Paired.mapP pd2 fun r t q => by
        obtain ⟨b, e, h⟩ := q
        exact (⟨b, e, sm _ _ h⟩ : RowAt Hm r t)) prm
      rw [List.all_eq_true] at this ⊢
      intro x hx
      rw [Bool.not_not]
      exact this x hx
    · show (!(isW (.str nm) && (!(decide ((V.str nm) ∈ rd.map fun q => kV q.1)) && _))) = true
      rw [decide_eq_true kin]
      simp
  have ndd : Dm ≠ dd := fun z => by
    rw [z, sm _ _ hd2] at nD
    cases nD
  refine fun x0 dx m1 m2 m3 => met_out (by decide) (bad_ents (.inl (SqL.of (s23 _ _ hv2))) I.vo I.hs (s23 _ _ hd2) (rows_same s23 pd2) I.dok ndd tab fnd) (fun H' t keep ht => ?_) x0 dx m1 m2 m3
  have spm : Nonempty (Spring (upd Hm Dm (MixO w Dm (vOf rs etb ++ [(.text nm, .str nm, .ref b1), (nk, key, .ref b2)]))) p (n + 9)) := ⟨sp2.to (by
    obtain ⟨xs, e⟩ := spring_some sp2
    rw [e]
    exact s23 _ _ e)⟩
  obtain ⟨a5, x5⟩ := at_keep a eN t2 (ext_same s23) spm (fun b z => by rw [z]; exact Same.free sm nD) keep
  refine ⟨_, rfl, by show 2 ≤ sizeLine; decide, fun t' nt' => ?_⟩
  have s6 : Same H' (upd H' t' (.tup [.str "entries", .str nm])) := fun b o e => up_new nt' e
  have dp : ∀ {Hx : Hp} {b : Addr}, Hx b = some (.tup [.str "entries", .str nm]) → Dp K Hx (.ref b) (.tuple [.str "entries", .str nm]) := fun h => .tup (sqT_of h) (.cons (.str _) (.cons (.str _) .nil))
  have sh : SeqAt.shaped (.tuple [.str "entries", .str nm]) = true := by
    unfold SeqAt.shaped
    show ((PyData.strOk "entries" && (PyData.strOk nm && true)) && _) = true
    rw [word_ok wnm, show PyData.strOk "entries" = true from by decide +kernel]
    rfl
  refine ⟨_, _, dp (s6 _ _ ht), dp upd_same, sh, sh, ?_⟩
  have eq : PyData.eqv (.tuple [.str "entries", .str nm]) (.tuple [.str "entries", .str nm]) = true := by
    show ((("entries" : Str) == "entries") && ((nm == nm) && true)) = true
    rw [beq_self_eq_true, beq_self_eq_true]
    rfl
  rw [eq]
  exact F _ 9 (by decide) (at_same a5 s6)
theorem part20 {Q : VK} (hr : dHr A s f cd) (d : DoorC P w K mg base c cd Pt) (I : DoorIn K H p vq dd de zs st dtb etb n) (nvp : vq ≠ p) (F : Fin H p Pt n Q) : Part (doorX P w K mg base f cd A outer s H E) [dst 20, dst 21, dst 22] (Pre11 H p vq dd de Pt st n 8) Q := by
  have hu : (A.deeper (envOfC "_law_doors_right" (defScope sDoors) s.heap.objs.size f (.ref cd))).units + 64 < cLine := hr.units
  obtain ⟨t22, p22, k22⟩ := part22 (E := E) (outer := outer) hr d I nvp F
  refine ⟨_, pss_cons (ps_if (pt_cmpR (op_eqL (X := doorX P w K mg base f cd A outer s H E) hu) (pv 3) pe_dnewK (nomark _)) (pss_one (ps_ret pe_bl)) pss_nil)
    (pss_cons (ps_set (i := 14) scDoors.nd rfl (Or.inr rfl) (pe_cl d.one hr (by decide) pass0 (pa_cons (pv 0) (pa_cons (pe_callTy (call_listD rfl) (by rfl) d.gS (by decide +kernel) (pa_cons (pv 3) pa_nil)) pa_nil)))) p22), ?_⟩
  rintro σ H1 ⟨o5, o6, o7, o8, o9, o10, o11, o12, key, rfl, a, kf⟩
  obtain ⟨sp0⟩ := I.sp
  obtain ⟨sp1⟩ := a.sp
  obtain ⟨rd, hd1, pd1⟩ := tb_xn sp0 a.xn I.hd
  refine ⟨_, rfl, fun b nb => ?_⟩
  have s2 : Same H1 (upd H1 b (.dK [])) := fun c o e => up_new nb e
  have a2 := at_same a s2
  cases dtb with
  | nil =>
    cases pd1
    refine .inl ⟨1, by decide, .inr ⟨dd, b, [], [], rfl, rfl, s2 _ _ hd1, upd_same, rfl, fun q h => by cases h⟩, true, rfl, iteT (F _ 8 (by decide) a2)⟩
  | cons t0 dtb' =>
    have rl : rd.length ≠ ([] : List (Key × V)).length := by
      rw [Paired.length pd1]
      exact fun z => by cases z
    refine .inr ⟨dd, b, rd, [], rfl, rfl, s2 _ _ hd1, upd_same, rl, false, rfl, iteF ?_⟩
    refine ⟨_, rfl, _, rfl, dd, rd, rfl, .inl (s2 _ _ hd1), fun l nl => ?_⟩
    have s3 : Same H1 (upd (upd H1 b (.dK [])) l (.lst (rd.map fun kv => kV kv.1))) := fun c o e => up_new nl (s2 _ _ e)
    obtain ⟨sp3⟩ := (at_same a s3).sp
    have lp := ne_sp a2.sp nl
    have len : (rd.map fun kv => kV kv.1).length = (t0 :: dtb').length := by rw [List.length_map, Paired.length pd1]
    refine ⟨p, l, _, n + 8, rfl, sp3, by have := I.nn; omega, SqL.of upd_same, lp, by rw [len]; exact Nat.succ_pos _, by rw [len]; exact Nat.le_trans I.dl (by decide), fun H4 v vin bt sp4 => ?_⟩
    have e14 : Ext p H1 H4 := ext_trans (ext_same s3) (ext_but bt)
    obtain ⟨q, hq, rfl⟩ := List.mem_map.mp vin
    obtain ⟨t, ht, ad, eq, _⟩ := paired_left pd1 q hq
    rw [eq]
    exact k22 _ _ ⟨o5, o6, o7, o8, o9, o10, o11, o12, key, t.1, rfl, ⟨xn_trans a.xn (xn_ext e14), ⟨sp4⟩, tabs_ext a.tb sp1 e14⟩, keyF_xn (xn_ext e14) kf, List.mem_map.mpr ⟨t, ht, rfl⟩⟩
end
end K01
/-! ## O7 -/
set_option Elab.async false
set_option linter.all false
set_option maxRecDepth 100000
set_option maxHeartbeats 2000000
namespace K01
open PySem PySem.Spec PyProof.Rows L2 ErrK LamX LiI
theorem doors_body : defBody sDoors = [dst 0, dst 1, dst 2, dst 3, dst 4, dst 5, dst 6, dst 7, dst 8, dst 9, dst 10, dst 11, dst 12, dst 13, dst 14, dst 15, dst 16, dst 17, dst 18, dst 19, dst 20, dst 21, dst 22] := by
  kernel_rfl
def spDoors (K : PySem.W.Frag) (Pt : Addr) : Sp := fun vs H Q _ => ∃ (p vq dd de : Addr) (zs : List Str) (st : Str) (dtb etb : Rows) (n : Nat), vs = [.ref p, .ref vq, .str st, .ref dd, .ref de] ∧ DoorIn K H p vq dd de zs st dtb etb n ∧ vq ≠ p ∧ Tabs (dT Pt) H ∧ Fin H p Pt n Q
section
variable {P : Program} {w : World} {K : PySem.W.Frag} {mg : Str → Option Value} {base : Heap} {f cd Pt : Addr} {fd : FuncData} {c : Cs}
theorem ok_doors (F : FunC K "_law_doors_right" "_law_doors_right" sDoors f fd cd) (d : DoorC P w K mg base c cd Pt) : FnOk P w K mg base CX0 8 f fd ["pool", "values", "start", "deeds", "entries"] (spDoors K Pt) := by
  refine F.ok scDoors (fun vs H Q E h => ?_) (fun A outer s H vs Q E hr h => ?_)
  · obtain ⟨p, vq, dd, de, zs, st, dtb, etb, n, rfl, _⟩ := h
    rfl
  · obtain ⟨p, vq, dd, de, zs, st, dtb, etb, n, rfl, I, nvp, tb, F⟩ := h
    have B : Part (doorX P w K mg base f cd A outer s H E) (defBody sDoors) (fun σ H1 => σ = L2.start nDoors [.ref p, .ref vq, .str st, .ref dd, .ref de] ∧ At H H1 p Pt n 0) Q := by
      rw [doors_body]
      exact part_step (step0 hr d I) (part_step (step1 hr d I nvp) (part_step (step2 hr d I nvp) (part_step (step3 hr d I nvp) (part_step (step4 hr d I nvp) (part_step (step5 hr d I nvp) (part_step (step6 hr d I nvp) (part_step (step7 hr d I)
        (part_step (step8 hr d I nvp) (part_step (step9 hr d I nvp) (part_step (step10 hr d I) (part_step (step11 hr d I) (part_step (step12 hr d I) (part_step (step13 hr d I) (part_step (step14 hr d I nvp) (part_step (step15 hr d I nvp) (part_step (step16 hr d I nvp)
        (part_step (step17 hr d I) (part_step (step18 hr d I nvp) (part_step (step19 hr d I) (part20 hr d I nvp F))))))))))))))))))))
    obtain ⟨t, pt, kt⟩ := B
    exact ⟨t, pt, kt _ _ ⟨rfl, xn_rfl, I.sp, tb⟩⟩
end
end K01
/-! ## P1 -/
set_option Elab.async false
set_option linter.all false
set_option maxRecDepth 100000
set_option maxHeartbeats 2000000
namespace K01
open PySem PySem.Spec PyProof.Rows L2 ErrK LamX LiI
abbrev sLaw : Stmt := tp 28
def lawLoop : List Stmt := match defBody sLaw with
  | .For _ _ b _ _ :: _ => b
  | _ => []
abbrev lst' (i : Nat) : Stmt := lawLoop.getD i (.Pass ⟨0, 0, 0, 0⟩)
abbrev nLaw : List Str := ["script", "turn", "pool", "values", "start", "names", "many", "deeds", "entries", "handed", "thing", "twin", "lead", "told", "more", "whole", "name", "value"]
theorem scLaw : FnScope nLaw ["script"] (defScope sLaw) := ⟨rfl, rfl, rfl, by decide +kernel, rfl, by decide +kernel, by decide +kernel⟩
theorem loop_len : lawLoop.length = 22 := by kernel_rfl
/-- what the law calls -/
structure LawC (P : Program) (w : World) (K : PySem.W.Frag) (mg : Str → Option Value) (base : Heap) (c : Cs) (Pt : Addr) : Prop where
  pool : Cl P w K mg base CX0 1 "_law_pool" (spPool K)
  mixed : Cl P w K mg base CX0 2 "_law_mixed" (spMixed K)
  take : Cl P w K mg base CX0 1 "_law_take" spTake
  one : Cl P w K mg base CX0 2 "_law_one" (spOne K)
  leads : Cl P w K mg base CX0 3 "_law_leads" (spLeads K)
  told : Cl P w K mg base CX0 1 "_law_told" (spTold K)
  doors : Cl P w K mg base CX0 8 "_law_doors_right" (spDoors K Pt)
  mkT : MkT P w K mg base c
  gL : mg "len" = none
  gD : mg "dict" = none
  gS : mg "list" = none
  gT : mg "tuple" = none
  gR : mg "range" = none
abbrev lawX (P : Program) (w : World) (K : PySem.W.Frag) (mg : Str → Option Value) (base : Heap) (f : Addr) (cdv : Value) (A : Around) (outer : List Env) (s : Shared) (H : Hp) (E : XK) : Cx := (cxOf CX0 P w K mg base nLaw "law" (defScope sLaw) f cdv A outer s H E).nox
abbrev lHr (A : Around) (s : Shared) (f : Addr) (cdv : Value) : Prop := Room 8 (A.deeper (envOfC "law" (defScope sLaw) s.heap.objs.size f cdv))
theorem passX0 {X : Cx} : Passes (L2.CX X.prog X.w) X E0 := passes_call LamX.takes0 fun _ _ _ _ h => h
end K01
/-! ## P2 -/
set_option Elab.async false
set_option linter.all false
set_option maxRecDepth 100000
set_option maxHeartbeats 2000000
namespace K01
open PySem PySem.Spec PyProof.Rows L2 ErrK LamX LiI
abbrev LS (scr : Addr) (t : Int) (a2 a3 a4 a5 a6 a7 a8 a9 a10 a11 a12 a13 a14 a15 : Option V) : L2.St := [some (.ref scr), some (.int t), a2, a3, a4, a5, a6, a7, a8, a9, a10, a11, a12, a13, a14, a15, none, none]
abbrev lots : List Str := ["no", "yes", "a", "z", "abcdefgh", "m"]
abbrev dnames : List Str := ["drop", "get", "no", "b", "turn", "abcdefgh"]
/-- what is kept from the turn's start -/
def Old (H0 H1 : Hp) : Prop := ∀ b o, H0 b = some o → (∀ ps, o ≠ HO.tbl ps) → H1 b = some o
theorem old_ext {H0 H1 H2 : Hp} {p : Addr} (o : Old H0 H1) (np : H0 p = none) (x : Ext p H1 H2) : Old H0 H2 := fun b u e n => x b u (ne_of_none e np) (o b u e n)
theorem old_same {H0 H1 H2 : Hp} (o : Old H0 H1) (x : Same H1 H2) : Old H0 H2 := fun b u e n => x b u (o b u e n)
/-- a pool in use -/
structure Pl (H0 H1 : Hp) (Pt p : Addr) (n : Nat) : Prop where
  old : Old H0 H1
  tb : Tabs (dT Pt) H1
  np : H0 p = none
  sp : Nonempty (Spring H1 p n)
theorem pl_ext {H0 H1 H2 : Hp} {Pt p : Addr} {n m : Nat} (l : Pl H0 H1 Pt p n) (x : Ext p H1 H2) (sp : Spring H2 p m) : Pl H0 H2 Pt p m := by
  obtain ⟨sp1⟩ := l.sp
  exact ⟨old_ext l.old l.np x, tabs_ext l.tb sp1 x, l.np, ⟨sp⟩⟩
theorem pl_same {H0 H1 H2 : Hp} {Pt p : Addr} {n : Nat} (l : Pl H0 H1 Pt p n) (x : Same H1 H2) : Pl H0 H2 Pt p n := by
  obtain ⟨sp⟩ := l.sp
  refine ⟨old_same l.old x, l.tb.ext x, l.np, ⟨sp.to ?_⟩⟩
  obtain ⟨xs, e⟩ := spring_some sp
  rw [e]
  exact x _ _ e
/-- the values -/
structure Vl (H1 : Hp) (p vq : Addr) (zs : List Str) : Prop where
  hv : H1 vq = some (.lst (zs.map V.str))
  vp : vq ≠ p
  vo : ValsOk zs
  z4 : zs.length ≤ 4
  zz : ("zz" : Str) ∉ zs
theorem vl_ext {H1 H2 : Hp} {p vq : Addr} {zs : List Str} (v : Vl H1 p vq zs) (x : Ext p H1 H2) : Vl H2 p vq zs := ⟨x _ _ v.vp v.hv, v.vp, v.vo, v.z4, v.zz⟩
theorem vals_ok {ws : List Str} {k : Nat} (h : ws.Perm lots) (hk : 1 ≤ k) (h4 : k ≤ 4) : ValsOk (ws.take k) ∧ (ws.take k).length ≤ 4 ∧ ("zz" : Str) ∉ ws.take k := by
  have len : ws.length = 6 := h.length_eq
  have nd : ws.Nodup := h.nodup_iff.mpr (by decide +kernel)
  have sub : ∀ z ∈ ws.take k, z ∈ lots := fun z hz => h.subset (List.mem_of_mem_take hz)
  have tl : (ws.take k).length = k := by
    rw [List.length_take]
    omega
  have wd : ∀ z ∈ lots, wordT z = true ∧ z ≠ ("zz" : Str) := by decide +kernel
  refine ⟨⟨fun e => ?_, nd.sublist (List.take_sublist _ _), by omega, fun z hz => (wd z (sub z hz)).1⟩, by omega, fun m => (wd _ (sub _ m)).2 rfl⟩
  rw [e] at tl
  have tl : 0 = k := tl
  omega
section
variable {P : Program} {w : World} {K : PySem.W.Frag} {mg : Str → Option Value} {base : Heap} {f Pt : Addr} {cdv : Value} {c : Cs} {A : Around} {outer : List Env} {s : Shared} {H : Hp} {E : XK} {H0 : Hp} {scr : Addr} {ns : List Int} {turn : Int}
def LP0 (H0 : Hp) (scr : Addr) (t : Int) (Pt : Addr) : L2.St → Hp → Prop := fun σ H1 => ∃ a : Nat → Option V, σ = LS scr t (a 2) (a 3) (a 4) (a 5) (a 6) (a 7) (a 8) (a 9) (a 10) (a 11) (a 12) (a 13) (a 14) (a 15) ∧ H1 = H0 ∧ Tabs (dT Pt) H0
def LP1 (H0 : Hp) (scr : Addr) (t : Int) (Pt : Addr) : L2.St → Hp → Prop := fun σ H1 => ∃ (a : Nat → Option V) (p : Addr), σ = LS scr t (some (.ref p)) (a 3) (a 4) (a 5) (a 6) (a 7) (a 8) (a 9) (a 10) (a 11) (a 12) (a 13) (a 14) (a 15) ∧ Pl H0 H1 Pt p 0
def LP2 (H0 : Hp) (scr : Addr) (t : Int) (Pt : Addr) : L2.St → Hp → Prop := fun σ H1 => ∃ (a : Nat → Option V) (p vq : Addr) (zs : List Str), σ = LS scr t (some (.ref p)) (some (.ref vq)) (a 4) (a 5) (a 6) (a 7) (a 8) (a 9) (a 10) (a 11) (a 12) (a 13) (a 14) (a 15) ∧ Pl H0 H1 Pt p 7 ∧ Vl H1 p vq zs
def LP3 (H0 : Hp) (scr : Addr) (t : Int) (Pt : Addr) : L2.St → Hp → Prop := fun σ H1 => ∃ (a : Nat → Option V) (p vq : Addr) (zs : List Str) (st : Str), σ = LS scr t (some (.ref p)) (some (.ref vq)) (some (.str st)) (a 5) (a 6) (a 7) (a 8) (a 9) (a 10) (a 11) (a 12) (a 13) (a 14) (a 15) ∧ Pl H0 H1 Pt p 8 ∧ Vl H1 p vq zs ∧ st ∈ zs
def LP4 (H0 : Hp) (scr : Addr) (t : Int) (Pt : Addr) : L2.St → Hp → Prop := fun σ H1 => ∃ (a : Nat → Option V) (p vq nq : Addr) (zs : List Str) (st : Str) (nms : List Str), σ = LS scr t (some (.ref p)) (some (.ref vq)) (some (.str st)) (some (.ref nq)) (a 6) (a 7) (a 8) (a 9) (a 10) (a 11) (a 12) (a 13) (a 14) (a 15) ∧ Pl H0 H1 Pt p 14 ∧ Vl H1 p vq zs ∧ st ∈ zs ∧ H1 nq = some (.lst (nms.map V.str)) ∧ nq ≠ p ∧ nms.Perm dnames
def LP5 (H0 : Hp) (scr : Addr) (t : Int) (Pt : Addr) : L2.St → Hp → Prop := fun σ H1 => ∃ (a : Nat → Option V) (p vq nq : Addr) (zs : List Str) (st : Str) (nms : List Str) (many : Nat), σ = LS scr t (some (.ref p)) (some (.ref vq)) (some (.str st)) (some (.ref nq)) (some (.int many)) (a 7) (a 8) (a 9) (a 10) (a 11) (a 12) (a 13) (a 14) (a 15) ∧ Pl H0 H1 Pt p 15 ∧ Vl H1 p vq zs ∧ st ∈ zs ∧ H1 nq = some (.lst (nms.map V.str)) ∧ nq ≠ p ∧ nms.Perm dnames ∧ many ≤ 2
theorem lst0 (hr : lHr A s f cdv) (d : LawC P w K mg base c Pt) (hscr : SqL K H0 scr (ns.map V.int)) (hns : ns.length ≤ 1000) (ht : 0 ≤ turn ∧ turn ≤ 2) : Step (lawX P w K mg base f cdv A outer s H E) (lst' 0) (LP0 H0 scr turn Pt) (LP1 H0 scr turn Pt) := by
  refine ⟨_, ps_set (i := 2) scLaw.nd rfl (Or.inl rfl) (pe_cl d.pool hr (by decide) pass0 (pa_cons (pv 0) (pa_cons (pv 1) pa_nil))), ?_⟩
  rintro D σ H1 ⟨a, rfl, rfl, tb⟩ k
  exact ⟨_, rfl, _, rfl, scr, ns, turn, rfl, hscr, hns, ht.1, by omega, fun H2 p np sp sm => k _ _ ⟨a, p, rfl, ⟨fun b u e _ => sm b u e, tb.ext sm, np, ⟨sp⟩⟩⟩⟩
theorem lst1 (hr : lHr A s f cdv) (d : LawC P w K mg base c Pt) : Step (lawX P w K mg base f cdv A outer s H E) (lst' 1) (LP1 H0 scr turn Pt) (LP2 H0 scr turn Pt) := by
  refine ⟨_, ps_set (i := 3) scLaw.nd rfl (Or.inl rfl) (pe_slice sl_list (pe_cl d.mixed hr (by decide) pass0 (pa_cons (pv 2) (pa_cons (pe_lst (pa_cons pe_str (pa_cons pe_str (pa_cons pe_str (pa_cons pe_str (pa_cons pe_str (pa_cons pe_str pa_nil))))))) pa_nil))) po_none
      (po_some (pe_op op_add pe_int (pe_cl d.take hr (by decide) pass0 (pa_cons (pv 2) (pa_cons pe_int pa_nil)))))), ?_⟩
  rintro D σ H1 ⟨a, p, rfl, pl⟩ k
  obtain ⟨sp⟩ := pl.sp
  refine ⟨_, rfl, by show 6 ≤ sizeLine; decide, fun L nL => ?_⟩
  have Lp := ne_spring sp nL
  refine ⟨p, L, lots.map V.str, 0, rfl, sp.to (upd_ne Lp.symm), by show 6 ≤ 10000; decide, SqL.of upd_same, Lp, by show 6 ≤ 1000; decide, fun H2 l ys pm nl ex2 hl sp2 => ?_⟩
  obtain ⟨ws, rfl, pw⟩ := perm_strs pm
  have lp : l ≠ p := fun z => by
    obtain ⟨xs, e⟩ := spring_some sp
    rw [z, up_new nL e] at nl
    cases nl
  refine ⟨_, rfl, p, 4, _, rfl, sp2, by show 6 ≤ 10000; decide, by decide, by decide, fun H3 r r0' r1 bt sp3 => ?_⟩
  obtain ⟨j, rfl⟩ := Int.eq_ofNat_of_zero_le r0'
  have hl3 : H3 l = some (.lst (ws.map V.str)) := (bt l lp).trans hl
  refine ⟨_, _, rfl, rfl, _, rfl, l, _, rfl, SqL.of hl3, fun vq nvq => ?_⟩
  have e1 : cutV (ws.map V.str) none (some ((1 : Int) + (j : Int))) = (ws.take (1 + j)).map V.str := by
    rw [show (1 : Int) + (j : Int) = ((1 + j : Nat) : Int) by omega, cut_head, List.map_take]
  rw [e1]
  have e13 : Ext p H1 (upd H3 vq (.lst ((ws.take (1 + j)).map V.str))) := fun b o nb e => up_new nvq ((bt b nb).trans (ex2 b o nb (up_new nL e)))
  obtain ⟨vo, z4, zz⟩ := vals_ok pw (k := 1 + j) (by omega) (by omega)
  have vp := ne_spring sp3 nvq
  exact k _ _ ⟨a, p, vq, _, rfl, pl_ext pl e13 (sp3.to (upd_ne vp.symm)), ⟨upd_same, vp, vo, z4, zz⟩⟩
theorem lst2 (hr : lHr A s f cdv) (d : LawC P w K mg base c Pt) : Step (lawX P w K mg base f cdv A outer s H E) (lst' 2) (LP2 H0 scr turn Pt) (LP3 H0 scr turn Pt) := by
  refine ⟨_, ps_set (i := 4) scLaw.nd rfl (Or.inr rfl) (pe_cl d.one hr (by decide) pass0 (pa_cons (pv 2) (pa_cons (pv 3) pa_nil))), ?_⟩
  rintro D σ H1 ⟨a, p, vq, zs, rfl, pl, vl⟩ k
  obtain ⟨sp⟩ := pl.sp
  have zlen : (zs.map V.str).length = zs.length := List.length_map _
  have z4 := vl.z4
  have zpos := List.length_pos_iff.mpr vl.vo.1
  refine ⟨_, rfl, _, rfl, p, vq, _, 7, rfl, sp, by decide, SqL.of vl.hv, vl.vp, by omega, by omega, fun H2 v vin bt sp2 => ?_⟩
  obtain ⟨z, hz, rfl⟩ := List.mem_map.mp vin
  exact k _ _ ⟨a, p, vq, zs, z, rfl, pl_ext pl (ext_but bt) sp2, vl_ext vl (ext_but bt), hz⟩
theorem lst3 (hr : lHr A s f cdv) (d : LawC P w K mg base c Pt) : Step (lawX P w K mg base f cdv A outer s H E) (lst' 3) (LP3 H0 scr turn Pt) (LP4 H0 scr turn Pt) := by
  refine ⟨_, ps_set (i := 5) scLaw.nd rfl (Or.inl rfl) (pe_cl d.mixed hr (by decide) pass0 (pa_cons (pv 2) (pa_cons (pe_lst (pa_cons pe_str (pa_cons pe_str (pa_cons pe_str (pa_cons pe_str (pa_cons pe_str (pa_cons pe_str pa_nil))))))) pa_nil))), ?_⟩
  rintro D σ H1 ⟨a, p, vq, zs, st, rfl, pl, vl, hst⟩ k
  obtain ⟨sp⟩ := pl.sp
  refine ⟨_, rfl, by show 6 ≤ sizeLine; decide, fun L nL => ?_⟩
  have Lp := ne_spring sp nL
  refine ⟨p, L, dnames.map V.str, 8, rfl, sp.to (upd_ne Lp.symm), by show 8 + 6 ≤ 10000; decide, SqL.of upd_same, Lp, by show 6 ≤ 1000; decide, fun H2 l ys pm nl ex2 hl sp2 => ?_⟩
  obtain ⟨ws, rfl, pw⟩ := perm_strs pm
  have lp : l ≠ p := fun z => by
    obtain ⟨xs, e⟩ := spring_some sp
    rw [z, up_new nL e] at nl
    cases nl
  have e12 : Ext p H1 H2 := fun b o nb e => ex2 b o nb (up_new nL e)
  exact k _ _ ⟨a, p, vq, l, zs, st, ws, rfl, pl_ext pl e12 sp2, vl_ext vl e12, hst, hl, lp, pw⟩
theorem lst4 (hr : lHr A s f cdv) (d : LawC P w K mg base c Pt) : Step (lawX P w K mg base f cdv A outer s H E) (lst' 4) (LP4 H0 scr turn Pt) (LP5 H0 scr turn Pt) := by
  refine ⟨_, ps_set (i := 6) scLaw.nd rfl (Or.inl rfl) (pe_cl d.take hr (by decide) pass0 (pa_cons (pv 2) (pa_cons pe_int pa_nil))), ?_⟩
  rintro D σ H1 ⟨a, p, vq, nq, zs, st, nms, rfl, pl, vl, hst, hnq, nqp, pn⟩ k
  obtain ⟨sp⟩ := pl.sp
  refine ⟨_, rfl, p, 3, 14, rfl, sp, by decide, by decide, by decide, fun H3 r r0' r1 bt sp3 => ?_⟩
  obtain ⟨j, rfl⟩ := Int.eq_ofNat_of_zero_le r0'
  exact k _ _ ⟨a, p, vq, nq, zs, st, nms, j, rfl, pl_ext pl (ext_but bt) sp3, vl_ext vl (ext_but bt), hst, (bt nq nqp).trans hnq, nqp, pn, by omega⟩
end
end K01
/-! ## P3 -/
set_option Elab.async false
set_option linter.all false
set_option maxRecDepth 100000
set_option maxHeartbeats 2000000
namespace K01
open PySem PySem.Spec PyProof.Rows L2 ErrK LamX LiI
/-- the drawn leads -/
structure Dl (H1 : Hp) (p dd de : Addr) (zs : List Str) (dtb etb : Rows) : Prop where
  hd : TbAt H1 dd dtb
  dok : DeedsOk zs dtb
  he : TbAt H1 de etb
  eok : EntsOk zs dtb etb
  dl : dtb.length ≤ 2
  el : etb.length ≤ 2
  dy : ∀ t ∈ dtb, t.1 ≠ ("yy" : Str)
  ey : ∀ t ∈ etb, t.1 ≠ ("yy" : Str)
  ne : de ≠ dd
theorem cut_tail {xs : List V} {j : Nat} (h : j ≤ xs.length) : cutV xs (some (j : Int)) none = xs.drop j := by
  unfold cutV
  rw [HT.sIx_none, HT.sIx_nat, Nat.min_eq_left h]
  exact List.take_of_length_le (by rw [List.length_drop]; omega)
theorem rows_ok {zs ns : List Str} {tb : Rows} {wh : Bool} (nz : zs.length ≤ 1000) (nd : ns.Nodup) (len : ns.length ≤ 6) (keys : tb.map (·.1) = ns) (ok : ∀ t ∈ tb, LdOk zs wh t.2) : RowsOk tb := by
  refine ⟨by rw [keys]; exact nd, ?_, fun t ht => ⟨(ok t ht).nd, Nat.le_trans (ok t ht).le nz⟩⟩
  have := congrArg List.length keys
  rw [List.length_map] at this
  omega
section
variable {P : Program} {w : World} {K : PySem.W.Frag} {mg : Str → Option Value} {base : Heap} {f Pt : Addr} {cdv : Value} {c : Cs} {A : Around} {outer : List Env} {s : Shared} {H : Hp} {E : XK} {H0 : Hp} {scr : Addr} {ns : List Int} {turn : Int}
def LP6 (H0 : Hp) (scr : Addr) (t : Int) (Pt : Addr) : L2.St → Hp → Prop := fun σ H1 => ∃ (a : Nat → Option V) (p vq dd de : Addr) (zs : List Str) (st : Str) (dtb etb : Rows) (n : Nat), σ = LS scr t (some (.ref p)) (some (.ref vq)) (some (.str st)) (a 5) (a 6) (some (.ref dd)) (some (.ref de)) (a 9) (a 10) (a 11) (a 12) (a 13) (a 14) (a 15) ∧ Pl H0 H1 Pt p n ∧ n ≤ 100 ∧ Vl H1 p vq zs ∧ st ∈ zs ∧ Dl H1 p dd de zs dtb etb
theorem lst5 (hr : lHr A s f cdv) (d : LawC P w K mg base c Pt) : Step (lawX P w K mg base f cdv A outer s H E) (lst' 5) (LP5 H0 scr turn Pt) (LP6 H0 scr turn Pt) := by
  refine ⟨_, ps_asg (pe_tup (pa_cons (pe_cl d.leads hr (by decide) pass0 (pa_cons (pv 2) (pa_cons (pe_slice sl_list (pv 5) po_none (po_some (pv 6))) (pa_cons (pv 3) (pa_cons pe_bl pa_nil)))))
      (pa_cons (pe_cl d.leads hr (by decide) pass0 (pa_cons (pv 2) (pa_cons (pe_slice sl_list (pe_slice sl_list (pv 5) (po_some (pv 6)) po_none) po_none (po_some (pe_cl d.take hr (by decide) pass0 (pa_cons (pv 2) (pa_cons pe_int pa_nil))))) (pa_cons (pv 3) (pa_cons pe_bl pa_nil))))) pa_nil)))
      (pg_tup (by rfl) (pgs_cons (pg_name (i := 7) scLaw.nd rfl (Or.inr rfl)) (pgs_cons (pg_name (i := 8) scLaw.nd rfl (Or.inr rfl)) pgs_nil))), ?_⟩
  rintro D σ H1 ⟨a, p, vq, nq, zs, st, nms, many, rfl, pl, vl, hst, hnq, nqp, pn, hm⟩ k
  obtain ⟨sp⟩ := pl.sp
  have z4 := vl.z4
  have nlen : nms.length = 6 := pn.length_eq
  have nnd : nms.Nodup := pn.nodup_iff.mpr (by decide +kernel)
  have wdn : ∀ z ∈ dnames, wordT z = true ∧ z ≠ ("yy" : Str) := by decide +kernel
  refine ⟨_, rfl, _, rfl, _, rfl, _, rfl, nq, _, rfl, SqL.of hnq, fun l1 nl1 => ?_⟩
  have e1 : cutV (nms.map V.str) none (some ((many : Nat) : Int)) = (nms.take many).map V.str := by rw [cut_head, List.map_take]
  rw [e1]
  have l1p := ne_spring sp nl1
  have sp1 := sp.to (H' := upd H1 l1 (.lst ((nms.take many).map V.str))) (upd_ne l1p.symm)
  have s1 : Same H1 (upd H1 l1 (.lst ((nms.take many).map V.str))) := fun b o e => up_new nl1 e
  have tkl : (nms.take many).length = many := by
    rw [List.length_take]
    omega
  refine ⟨_, rfl, p, l1, vq, nms.take many, zs, true, 15, rfl, sp1, by decide, SqL.of upd_same, l1p, SqL.of (s1 _ _ vl.hv), vl.vp, by omega, by omega, vl.vo.1, nnd.sublist (List.take_sublist _ _), vl.vo.2.1, fun H2 dd dtb ex2 sp2 tn2 keys2 ok2 => ?_⟩
  rw [tkl] at sp2
  have e12 : Ext p H1 H2 := ext_trans (ext_same s1) ex2
  refine ⟨_, rfl, _, rfl, _, rfl, _, rfl, nq, _, rfl, SqL.of (e12 _ _ nqp hnq), fun l2 nl2 => ?_⟩
  have e2 : cutV (nms.map V.str) (some ((many : Nat) : Int)) none = (nms.drop many).map V.str := by rw [cut_tail (by rw [List.length_map]; omega), List.map_drop]
  rw [e2]
  have l2p := ne_spring sp2 nl2
  have sp3 := sp2.to (H' := upd H2 l2 (.lst ((nms.drop many).map V.str))) (upd_ne l2p.symm)
  refine ⟨_, rfl, p, 3, _, rfl, sp3, by omega, by decide, by decide, fun H3 r r0' r1 bt sp4 => ?_⟩
  obtain ⟨j, rfl⟩ := Int.eq_ofNat_of_zero_le r0'
  have hl2 : H3 l2 = some (.lst ((nms.drop many).map V.str)) := (bt l2 l2p).trans upd_same
  refine ⟨_, rfl, l2, _, rfl, SqL.of hl2, fun l3 nl3 => ?_⟩
  have e3 : cutV ((nms.drop many).map V.str) none (some ((j : Nat) : Int)) = ((nms.drop many).take j).map V.str := by rw [cut_head, List.map_take]
  rw [e3]
  have l3p := ne_spring sp4 nl3
  have sp5 := sp4.to (H' := upd H3 l3 (.lst (((nms.drop many).take j).map V.str))) (upd_ne l3p.symm)
  have e25 : Ext p H2 (upd H3 l3 (.lst (((nms.drop many).take j).map V.str))) := fun b o nb e => up_new nl3 ((bt b nb).trans (up_new nl2 e))
  have tk2 : ((nms.drop many).take j).length ≤ 2 := by
    rw [List.length_take]
    omega
  have sub2 : ((nms.drop many).take j).Sublist nms := (List.take_sublist _ _).trans (List.drop_sublist _ _)
  refine ⟨_, rfl, p, l3, vq, (nms.drop many).take j, zs, false, _, rfl, sp5, by omega, SqL.of upd_same, l3p, SqL.of (e25 _ _ vl.vp (e12 _ _ vl.vp vl.hv)), vl.vp, by omega, by omega, vl.vo.1, nnd.sublist sub2, vl.vo.2.1, fun H6 de etb ex6 sp6 tn6 keys6 ok6 => ?_⟩
  refine ⟨by show 2 ≤ sizeLine; decide, fun t nt => ⟨t, _, rfl, .inl (.inl upd_same), rfl, ?_⟩⟩
  have e26 : Ext p H2 (upd H6 t (.tup [.ref dd, .ref de])) := ext_trans e25 (ext_trans ex6 (ext_new nt))
  have e16 := ext_trans e12 e26
  have sp7 := sp6.to (H' := upd H6 t (.tup [.ref dd, .ref de])) (upd_ne (ne_spring sp6 nt).symm)
  have rok : RowsOk dtb := rows_ok vl.vo.2.2.1 (nnd.sublist (List.take_sublist _ _)) (by omega) keys2 ok2
  have rok6 : RowsOk etb := rows_ok vl.vo.2.2.1 (nnd.sublist sub2) (by omega) keys6 ok6
  have in2 : ∀ t ∈ dtb, t.1 ∈ nms.take many := fun t ht => by
    rw [← keys2]
    exact List.mem_map.mpr ⟨t, ht, rfl⟩
  have in6 : ∀ t ∈ etb, t.1 ∈ (nms.drop many).take j := fun t ht => by
    rw [← keys6]
    exact List.mem_map.mpr ⟨t, ht, rfl⟩
  have w2 : ∀ t ∈ dtb, wordT t.1 = true ∧ t.1 ≠ ("yy" : Str) := fun t ht => wdn _ (pn.subset (List.mem_of_mem_take (in2 t ht)))
  have w6 : ∀ t ∈ etb, wordT t.1 = true ∧ t.1 ≠ ("yy" : Str) := fun t ht => wdn _ (pn.subset (List.mem_of_mem_drop (List.mem_of_mem_take (in6 t ht))))
  have disj : ∀ t ∈ etb, t.1 ∉ dtb.map (·.1) := fun t ht m => by
    rw [keys2] at m
    have h1 := List.mem_of_mem_take (in6 t ht)
    have nd' : (nms.take many ++ nms.drop many).Nodup := by rw [List.take_append_drop]; exact nnd
    exact (List.nodup_append.mp nd').2.2 _ m _ h1 rfl
  have len2 : dtb.length ≤ 2 := by
    have := congrArg List.length keys2
    rw [List.length_map, tkl] at this
    omega
  have len6 : etb.length ≤ 2 := by
    have := congrArg List.length keys6
    rw [List.length_map] at this
    omega
  have n26 : de ≠ dd := fun z => by
    obtain ⟨nde, _⟩ := tn6
    obtain ⟨_, rs, hdd, _⟩ := tn2
    have := e25 _ _ (fun z2 => by rw [z2] at hdd; obtain ⟨xs, e⟩ := spring_some sp2; rw [e] at hdd; cases hdd) hdd
    rw [← z, nde] at this
    cases this
  have x1 : XN p H2 (upd H6 t (.tup [.ref dd, .ref de])) := xn_ext e26
  refine ⟨_, _, rfl, _, _, rfl, rfl, k _ _ ⟨fun i => match i with | 5 => some (.ref nq) | 6 => some (.int many) | i => a i, p, vq, dd, de, zs, st, dtb, etb, _, rfl, pl_ext pl e16 sp7, ?_, vl_ext vl e16, hst, ⟨tb_xn sp2 x1 (tbAt_new tn2), ⟨rok, fun t ht => ⟨(w2 t ht).1, (ok2 t ht).li, (ok2 t ht).all rfl⟩⟩, tb_xn sp6 (xn_ext (ext_new nt)) (tbAt_new tn6), ⟨rok6, fun t ht => ⟨(w6 t ht).1, (ok6 t ht).li, disj t ht⟩⟩, len2, len6, fun t ht => (w2 t ht).2, fun t ht => (w6 t ht).2, n26⟩⟩⟩
  omega
end
end K01
/-! ## P4 -/
set_option Elab.async false
set_option linter.all false
set_option maxRecDepth 100000
set_option maxHeartbeats 2000000
namespace K01
open PySem PySem.Spec PyProof.Rows L2 ErrK LamX LiI
/-- the thing's parts that are handed: a list, two tables -/
structure Hd (Ha H1 : Hp) (q v0 h1 h2 : Addr) (zs : List Str) (dtb etb : Rows) : Prop where
  aq : H1 q = some (.lst [.ref v0, .ref h1, .ref h2])
  nq : Ha q = none
  av : H1 v0 = some (.lst (zs.map V.str))
  nv : Ha v0 = none
  t1 : TbNew Ha H1 h1 dtb
  t2 : TbNew Ha H1 h2 etb
  ne : h2 ≠ h1
theorem tbnew_same {Ha H1 H2 : Hp} {D : Addr} {tb : Rows} (t : TbNew Ha H1 D tb) (s : Same H1 H2) : TbNew Ha H2 D tb := by
  obtain ⟨n, rs, h, pr⟩ := t
  exact ⟨n, rs, s _ _ h, Paired.mapP pr fun r t q => by
    obtain ⟨a, e, n1, h1⟩ := q
    exact ⟨a, e, n1, s _ _ h1⟩⟩
theorem tbnew_base {Ha Hb H1 : Hp} {D : Addr} {tb : Rows} (t : TbNew Hb H1 D tb) (s : Same Ha Hb) : TbNew Ha H1 D tb := by
  obtain ⟨n, rs, h, pr⟩ := t
  exact ⟨s.free n, rs, h, Paired.mapP pr fun r t q => by
    obtain ⟨a, e, n1, h1⟩ := q
    exact ⟨a, e, s.free n1, h1⟩⟩
section
variable {P : Program} {w : World} {K : PySem.W.Frag} {mg : Str → Option Value} {base : Heap} {f Pt : Addr} {cdv : Value} {c : Cs} {A : Around} {outer : List Env} {s : Shared} {H : Hp} {E : XK} {H0 : Hp} {scr : Addr} {ns : List Int} {turn : Int}
def LP7 (H0 : Hp) (scr : Addr) (t : Int) (Pt : Addr) : L2.St → Hp → Prop := fun σ H1 => ∃ (a : Nat → Option V) (Ha : Hp) (p vq dd de hq v0 h1 h2 : Addr) (zs : List Str) (st : Str) (dtb etb : Rows) (n : Nat), σ = LS scr t (some (.ref p)) (some (.ref vq)) (some (.str st)) (a 5) (a 6) (some (.ref dd)) (some (.ref de)) (some (.ref hq)) (a 10) (a 11) (a 12) (a 13) (a 14) (a 15) ∧ Pl H0 Ha Pt p n ∧ n ≤ 100 ∧ Vl Ha p vq zs ∧ st ∈ zs ∧ Dl Ha p dd de zs dtb etb ∧ Same Ha H1 ∧ Hd Ha H1 hq v0 h1 h2 zs dtb etb
/-- a table copied row by row: what is had behind j rows; Hx: ahead of the lock -/
def CpAt (Hx Hl H4 : Hp) (D2 : Addr) (tb : Rows) : Prop := Same Hl H4 ∧ ∃ (ps : List Addr) (rs : List (Key × V)), H4 D2 = some (.lst (ps.map V.ref)) ∧ Paired (fun t (kv : Key × V) => H4 t = some (.tup [kV kv.1, kv.2])) ps rs ∧ Paired (RowNew Hx H4) rs tb
theorem cp_more {Hx Hl H4 : Hp} {D2 b t : Addr} {tb : Rows} {nm : Str} {l : List (Str × Str)} (nD2 : Hl D2 = none) (lx : ∀ c, Hl c = none → Hx c = none) (h : CpAt Hx Hl H4 D2 tb) (small : tb.length ≤ 100) (nb : H4 b = none) (nt : upd H4 b (.dK (tx l)) t = none) :
    ∃ acc, upd (upd H4 b (.dK (tx l))) t (.tup [.str nm, .ref b]) D2 = some (.lst acc) ∧ acc.length < sizeLine ∧ CpAt Hx Hl (upd (upd (upd H4 b (.dK (tx l))) t (.tup [.str nm, .ref b])) D2 (.lst (acc ++ [.ref t]))) D2 (tb ++ [(nm, l)]) := by
  obtain ⟨sm, ps, rs, hD2, p1, p2⟩ := h
  have s5 : Same H4 (upd (upd H4 b (.dK (tx l))) t (.tup [.str nm, .ref b])) := fun c o e => up_new nt (up_new nb e)
  have nDb : D2 ≠ b := ne_of_none hD2 nb
  have hb5 : upd (upd H4 b (.dK (tx l))) t (.tup [.str nm, .ref b]) b = some (.dK (tx l)) := up_new nt upd_same
  have hD5 := s5 _ _ hD2
  have nDt : D2 ≠ t := ne_of_none (up_new (o := .dK (tx l)) nb hD2) nt
  refine ⟨_, hD5, ?_, fun c o e => ?_, ps ++ [t], rs ++ [(.inr nm, .ref b)], by rw [upd_same, List.map_append]; rfl, ?_, ?_⟩
  · rw [List.length_map, Paired.length p1, Paired.length p2]
    exact Nat.lt_of_le_of_lt small (by decide)
  · rw [upd_ne (ne_of_none e nD2)]
    exact s5 _ _ (sm _ _ e)
  · refine paired_snoc (Paired.mapP p1 fun c q e => ?_) (by rw [upd_ne nDt.symm, upd_same]; rfl)
    rw [upd_ne (fun z => by rw [z, hD2] at e; cases e)]
    exact s5 _ _ e
  · refine paired_snoc (Paired.mapP p2 fun r q e => ?_) ⟨b, rfl, lx _ (sm.free nb), by rw [upd_ne nDb.symm]; exact hb5⟩
    obtain ⟨a, e1, n1, h1⟩ := e
    refine ⟨a, e1, n1, ?_⟩
    rw [upd_ne (fun z => by rw [z, hD2] at h1; cases h1)]
    exact s5 _ _ h1
theorem lst6 (hr : lHr A s f cdv) (d : LawC P w K mg base c Pt) : Step (lawX P w K mg base f cdv A outer s H E) (lst' 6) (LP6 H0 scr turn Pt) (LP7 H0 scr turn Pt) := by
  have hu : (A.deeper (envOfC "law" (defScope sLaw) s.heap.objs.size f cdv)).units + 1 < cLine := by
    have := hr.units
    exact Nat.lt_of_le_of_lt (by omega) this
  refine ⟨_, ps_set (i := 9) scLaw.nd rfl (Or.inl rfl) (pe_lst (pa_cons (pe_callTy call_list_of (by rfl) d.gS (by decide +kernel) (pa_cons (pv 3) pa_nil))
      (pa_cons (pe_callTy (call_dictP rfl) (by rfl) d.gD (by decide +kernel) (pa_cons (pe_lock (pe_lc (own := [("name", 16)]) (g := gName 16) (tt := tYes) rfl scLaw.nd (pi_keys (pv 7)) (blkOk_by (N := nLaw) (sc := defScope sLaw) (by decide +kernel)) (fun _ _ _ _ _ => pg_name (i := 16) scLaw.nd rfl (Or.inl rfl)) (fun _ _ _ _ _ => pts_nil)
        (fun _ _ _ _ _ => pe_tup (pa_cons (pv 16) (pa_cons (pe_callTy call_dictD (by rfl) d.gD (by decide +kernel) (pa_cons (pe_dget hu (pv 7) (pv 16) (fun _ _ => rfl)) pa_nil)) pa_nil))))) pa_nil))
      (pa_cons (pe_callTy (call_dictP rfl) (by rfl) d.gD (by decide +kernel) (pa_cons (pe_lock (pe_lc (own := [("name", 16)]) (g := gName 16) (tt := tYes) rfl scLaw.nd (pi_keys (pv 8)) (blkOk_by (N := nLaw) (sc := defScope sLaw) (by decide +kernel)) (fun _ _ _ _ _ => pg_name (i := 16) scLaw.nd rfl (Or.inl rfl)) (fun _ _ _ _ _ => pts_nil)
        (fun _ _ _ _ _ => pe_tup (pa_cons (pv 16) (pa_cons (pe_callTy call_dictD (by rfl) d.gD (by decide +kernel) (pa_cons (pe_dget hu (pv 8) (pv 16) (fun _ _ => rfl)) pa_nil)) pa_nil))))) pa_nil)) pa_nil)))), ?_⟩
  rintro D σ H1 ⟨a, p, vq, dd, de, zs, st, dtb, etb, n, rfl, pl, hn, vl, hst, dl⟩ k
  refine ⟨_, rfl, vq, _, rfl, .inl (SqL.of vl.hv), fun v0 nv0 => ?_⟩
  obtain ⟨rs1, hd1, pr1⟩ := dl.hd
  have sv : Same H1 (upd H1 v0 (.lst (zs.map V.str))) := fun b o e => up_new nv0 e
  generalize hHx : upd H1 v0 (.lst (zs.map V.str)) = Hx at *
  have hv0 : Hx v0 = some (.lst (zs.map V.str)) := by rw [← hHx, upd_same]
  refine ⟨dd, _, sv _ _ hd1, True.intro, fun od => ?_⟩
  generalize hHl : upd Hx dd (.frz od (.dK rs1)) = Hl at *
  have hld : Hl dd = some (.frz od (.dK rs1)) := by rw [← hHl, upd_same]
  have lx : ∀ c, Hl c = none → Hx c = none := fun c e => by
    by_cases z : c = dd
    · rw [z, hld] at e
      cases e
    · rw [← hHl, upd_ne z] at e
      exact e
  have xl : ∀ b o, b ≠ dd → Hx b = some o → Hl b = some o := fun b o nb e => by
    rw [← hHl, upd_ne nb]
    exact e
  have rl1 : rs1.length = dtb.length := Paired.length pr1
  refine ⟨_, rfl, dd, od, rfl, .inl ⟨rs1, hld, fun D2 nD2 => ?_⟩⟩
  refine lc_it walk_keys (fun j H4 => CpAt Hx Hl H4 D2 (dtb.take j)) ⟨fun b o e => up_new nD2 e, [], [], upd_same, .nil, .nil⟩ (fun j H4 _ q => q.1 _ _ hld) ?_ ?_
  · rintro j x H4 H5 hj q ⟨rfl, k0, v, e, rfl⟩
    obtain ⟨t, et, ad, er, hta⟩ := L2.paired_get pr1 e
    obtain ⟨rfl, rfl⟩ := Prod.mk.inj er
    have nad : ad ≠ dd := fun z => by
      rw [z, hd1] at hta
      have := Option.some.inj hta
      injection this with this
      have m : (Sum.inr t.1, V.ref ad) ∈ rs1 := List.mem_of_getElem? e
      rw [this] at m
      obtain ⟨y, _, ey⟩ := List.mem_map.mp m
      cases (Prod.mk.inj ey).2
    refine ⟨rfl, ?_⟩
    unfold tYes
    dsimp only
    rw [if_pos rfl]
    have mem : (Sum.inr t.1, V.ref ad) ∈ rs1 := List.mem_of_getElem? e
    have ndk : (rs1.map (·.1)).Nodup := by
      rw [rows_keys (fun r t q => by obtain ⟨a, e, _⟩ := q; rw [e]) pr1]
      exact List.Pairwise.map _ (fun a b (h : a ≠ b) z => h (Sum.inr.inj z)) dl.dok.1.1
    refine ⟨_, rfl, _, rfl, _, rfl, dd, .ref ad, rfl, .inl ⟨rs1, .inr t.1, .inr ⟨od, q.1 _ _ hld⟩, rfl, (valV_mem ndk mem).symm⟩, ad, tx t.2, rfl, .inl (q.1 _ _ (xl _ _ nad (sv _ _ hta))), fun b nb => ⟨by show 2 ≤ sizeLine; decide, fun tt nt => ?_⟩⟩
    rw [List.take_succ, et]
    exact cp_more nD2 lx q (by rw [List.length_take]; have := dl.dl; omega) nb nt
  · rintro H4 ⟨sm, ps, rows, hD2, p1, p2⟩
    rw [rl1, List.take_of_length_le (Nat.le_refl _)] at p2
    refine ⟨sm _ _ hld, ?_⟩
    -- unlocked
    have su : Same Hx (upd H4 dd (.dK rs1)) := fun b o e => by
      by_cases z : b = dd
      · rw [z, sv _ _ hd1] at e
        rw [z, upd_same]
        exact e
      · rw [upd_ne z]
        exact sm _ _ (xl _ _ z e)
    have ndd : D2 ≠ dd := fun z => by
      rw [z, hld] at nD2
      cases nD2
    have tupU : ∀ {b : Addr} {xs : List V}, H4 b = some (.tup xs) → upd H4 dd (.dK rs1) b = some (.tup xs) := fun {b xs} e => by
      rw [upd_ne (fun z => by rw [z, sm _ _ hld] at e; cases e)]
      exact e
    refine ⟨D2, ps, rows, rfl, SqL.of (by rw [upd_ne ndd]; exact hD2), Paired.mapP p1 fun t q e => sqT_of (tupU e), fun h1 nh1 => ?_⟩
    have keysR : rows.map (·.1) = (dtb.map (·.1)).map Sum.inr := rows_keys (fun r t q => by obtain ⟨a, e, _⟩ := q; rw [e]) p2
    have mk : mergeK [] rows = rows := putK_all _ [] (by
      rw [List.nil_append, keysR]
      exact List.Pairwise.map _ (fun a b (h : a ≠ b) z => h (Sum.inr.inj z)) dl.dok.1.1)
    rw [mk]
    have s5 : Same Hx (upd (upd H4 dd (.dK rs1)) h1 (.dK rows)) := fun b o e => up_new nh1 (su b o e)
    have s15 : Same H1 (upd (upd H4 dd (.dK rs1)) h1 (.dK rows)) := sv.trans s5
    have T1 : TbNew H1 (upd (upd H4 dd (.dK rs1)) h1 (.dK rows)) h1 dtb := ⟨(sv.trans su).free nh1, rows, upd_same, Paired.mapP p2 fun r t q => by
      obtain ⟨b, e, n1, hb⟩ := q
      exact ⟨b, e, sv.free n1, up_new nh1 (by rw [upd_ne (fun z => by rw [z, sm _ _ hld] at hb; cases hb)]; exact hb)⟩⟩
    have hv5 := s5 _ _ hv0
    generalize upd (upd H4 dd (.dK rs1)) h1 (.dK rows) = H5 at *
    obtain ⟨rs2, hd2, pr2⟩ := tb_same s15 dl.he
    refine ⟨de, _, hd2, True.intro, fun od2 => ?_⟩
    generalize hHl2 : upd H5 de (.frz od2 (.dK rs2)) = Hl2 at *
    have hld2 : Hl2 de = some (.frz od2 (.dK rs2)) := by rw [← hHl2, upd_same]
    have lx2 : ∀ c, Hl2 c = none → H5 c = none := fun c e => by
      by_cases z : c = de
      · rw [z, hld2] at e
        cases e
      · rw [← hHl2, upd_ne z] at e
        exact e
    have xl2 : ∀ b o, b ≠ de → H5 b = some o → Hl2 b = some o := fun b o nb e => by
      rw [← hHl2, upd_ne nb]
      exact e
    have rl2 : rs2.length = etb.length := Paired.length pr2
    refine ⟨_, rfl, de, od2, rfl, .inl ⟨rs2, hld2, fun D3 nD3 => ?_⟩⟩
    refine lc_it walk_keys (fun j H6 => CpAt H5 Hl2 H6 D3 (etb.take j)) ⟨fun b o e => up_new nD3 e, [], [], upd_same, .nil, .nil⟩ (fun j H6 _ q => q.1 _ _ hld2) ?_ ?_
    · rintro j x H6 H7 hj q ⟨rfl, k0, v, e, rfl⟩
      obtain ⟨t, et, ad, er, hta⟩ := L2.paired_get pr2 e
      obtain ⟨rfl, rfl⟩ := Prod.mk.inj er
      have nad : ad ≠ de := fun z => by
        rw [z, hd2] at hta
        have := Option.some.inj hta
        injection this with this
        have m : (Sum.inr t.1, V.ref ad) ∈ rs2 := List.mem_of_getElem? e
        rw [this] at m
        obtain ⟨y, _, ey⟩ := List.mem_map.mp m
        cases (Prod.mk.inj ey).2
      refine ⟨rfl, ?_⟩
      unfold tYes
      dsimp only
      rw [if_pos rfl]
      have mem : (Sum.inr t.1, V.ref ad) ∈ rs2 := List.mem_of_getElem? e
      have ndk : (rs2.map (·.1)).Nodup := by
        rw [rows_keys (fun r t q => by obtain ⟨a, e, _⟩ := q; rw [e]) pr2]
        exact List.Pairwise.map _ (fun a b (h : a ≠ b) z => h (Sum.inr.inj z)) dl.eok.1.1
      refine ⟨_, rfl, _, rfl, _, rfl, de, .ref ad, rfl, .inl ⟨rs2, .inr t.1, .inr ⟨od2, q.1 _ _ hld2⟩, rfl, (valV_mem ndk mem).symm⟩, ad, tx t.2, rfl, .inl (q.1 _ _ (xl2 _ _ nad hta)), fun b nb => ⟨by show 2 ≤ sizeLine; decide, fun tt nt => ?_⟩⟩
      rw [List.take_succ, et]
      exact cp_more nD3 lx2 q (by rw [List.length_take]; have := dl.el; omega) nb nt
    · rintro H6 ⟨sm6, ps6, rows6, hD3, p61, p62⟩
      rw [rl2, List.take_of_length_le (Nat.le_refl _)] at p62
      refine ⟨sm6 _ _ hld2, ?_⟩
      have su6 : Same H5 (upd H6 de (.dK rs2)) := fun b o e => by
        by_cases z : b = de
        · rw [z, hd2] at e
          rw [z, upd_same]
          exact e
        · rw [upd_ne z]
          exact sm6 _ _ (xl2 _ _ z e)
      have ndd6 : D3 ≠ de := fun z => by
        rw [z, hld2] at nD3
        cases nD3
      have tupU6 : ∀ {b : Addr} {xs : List V}, H6 b = some (.tup xs) → upd H6 de (.dK rs2) b = some (.tup xs) := fun {b xs} e => by
        rw [upd_ne (fun z => by rw [z, sm6 _ _ hld2] at e; cases e)]
        exact e
      refine ⟨D3, ps6, rows6, rfl, SqL.of (by rw [upd_ne ndd6]; exact hD3), Paired.mapP p61 fun t q e => sqT_of (tupU6 e), fun h2 nh2 => ?_⟩
      have keysR6 : rows6.map (·.1) = (etb.map (·.1)).map Sum.inr := rows_keys (fun r t q => by obtain ⟨a, e, _⟩ := q; rw [e]) p62
      have mk6 : mergeK [] rows6 = rows6 := putK_all _ [] (by
        rw [List.nil_append, keysR6]
        exact List.Pairwise.map _ (fun a b (h : a ≠ b) z => h (Sum.inr.inj z)) dl.eok.1.1)
      rw [mk6]
      have s7 : Same H5 (upd (upd H6 de (.dK rs2)) h2 (.dK rows6)) := fun b o e => up_new nh2 (su6 b o e)
      have T2 : TbNew H1 (upd (upd H6 de (.dK rs2)) h2 (.dK rows6)) h2 etb := ⟨(s15.trans su6).free nh2, rows6, upd_same, Paired.mapP p62 fun r t q => by
        obtain ⟨b, e, n1, hb⟩ := q
        exact ⟨b, e, s15.free n1, up_new nh2 (by rw [upd_ne (fun z => by rw [z, sm6 _ _ hld2] at hb; cases hb)]; exact hb)⟩⟩
      refine ⟨by show 3 ≤ sizeLine; decide, fun hq nhq => ?_⟩
      have s8 : Same (upd (upd H6 de (.dK rs2)) h2 (.dK rows6)) (upd (upd (upd H6 de (.dK rs2)) h2 (.dK rows6)) hq (.lst [.ref v0, .ref h1, .ref h2])) := fun b o e => up_new nhq e
      have ne12 : h2 ≠ h1 := fun z => by
        obtain ⟨_, rs, hh1, _⟩ := T1
        rw [z, su6 _ _ hh1] at nh2
        cases nh2
      exact k _ _ ⟨a, H1, p, vq, dd, de, hq, v0, h1, h2, zs, st, dtb, etb, n, rfl, pl, hn, vl, hst, dl, s15.trans (s7.trans s8), ⟨upd_same, (s15.trans s7).free nhq, s8 _ _ (s7 _ _ hv5), nv0, tbnew_same T1 (s7.trans s8), tbnew_same T2 s8, ne12⟩⟩
end
end K01
/-! ## P5 -/
set_option Elab.async false
set_option linter.all false
set_option maxRecDepth 100000
set_option maxHeartbeats 2000000
namespace K01
open PySem PySem.Spec PyProof.Rows L2 ErrK LamX LiI
/-- a right thing is made -/
theorem good_make {w : World} {K : PySem.W.Frag} {c : Cs} {H : Hp} {p dd de x0 dx : Addr} {zs : List Str} {st : Str} {dtb etb : Rows} {Qx : Hp → Prop} {E : XK} (n1 : H x0 = none) (n2 : H dx = none) (n3 : dx ≠ x0) (hp : SqA K H p (zs.map V.str)) (vo : ValsOk zs) (hst : st ∈ zs) (hd : TbAt H dd dtb) (dok : DeedsOk zs dtb) (he : TbAt H de etb) (eok : EntsOk zs dtb etb) (ne : de ≠ dd)
    (k : ∀ H2, Same H H2 → ThingNew c.T H H2 x0 zs st (ordR zs dtb) (ordR zs etb) → Qx H2) : spInit w K c (.ref x0 :: ([.ref p, .str st, .ref dd, .ref de] ++ [])) (upd (upd H dx (.own x0)) x0 (.ins c.T dx [])) (fun v H2 => v = .non ∧ Qx H2) E := by
  obtain ⟨rd, hd, pd⟩ := hd
  exact ⟨x0, dx, .ref p, .str st, .ref dd, .ref de, H, rfl, rfl, n1, n2, n3, .inr ⟨p, zs, rfl, hp, vo, .inr ⟨st, rfl, hst, .inr ⟨dd, dtb, rd, rfl, hd, pd, dok, .inr ⟨de, etb, rfl, ne, he, eok, fun H2 t sm tn ht => by
    obtain rfl : t = x0 := by injection ht
    exact ⟨rfl, k H2 sm tn⟩⟩⟩⟩⟩⟩
theorem thingNew_same {C : Addr} {Ha H1 H2 : Hp} {t : Addr} {zs : List Str} {st : Str} {dl el : Rows} (h : ThingNew C Ha H1 t zs st dl el) (s : Same H1 H2) : ThingNew C Ha H2 t zs st dl el := by
  obtain ⟨n, dx, lv, ld, le, h1, n2, h2, h3, h4⟩ := h
  exact ⟨n, dx, lv, ld, le, s _ _ h1, n2, s _ _ h2, tbnew_same h3 s, tbnew_same h4 s⟩
theorem thingNew_base {C : Addr} {Ha Hb H1 : Hp} {t : Addr} {zs : List Str} {st : Str} {dl el : Rows} (h : ThingNew C Hb H1 t zs st dl el) (s : Same Ha Hb) : ThingNew C Ha H1 t zs st dl el := by
  obtain ⟨n, dx, lv, ld, le, h1, n2, h2, h3, h4⟩ := h
  exact ⟨s.free n, dx, lv, ld, le, h1, s.free n2, h2, tbnew_base h3 s, tbnew_base h4 s⟩
section
variable {P : Program} {w : World} {K : PySem.W.Frag} {mg : Str → Option Value} {base : Heap} {f Pt : Addr} {cdv : Value} {c : Cs} {A : Around} {outer : List Env} {s : Shared} {H : Hp} {E : XK} {H0 : Hp} {scr : Addr} {ns : List Int} {turn : Int}
/-- what a turn has made: Ha ahead of what is handed, Hb behind it, Hs with both things -/
structure Mk2 (H0 Ha Hb Hs : Hp) (c : Cs) (Pt p vq dd de hq v0 h1 h2 t t2 : Addr) (zs : List Str) (st : Str) (dtb etb : Rows) (n : Nat) : Prop where
  pl : Pl H0 Ha Pt p n
  hn : n ≤ 100
  vl : Vl Ha p vq zs
  hst : st ∈ zs
  dl : Dl Ha p dd de zs dtb etb
  ab : Same Ha Hb
  hd : Hd Ha Hb hq v0 h1 h2 zs dtb etb
  bs : Same Hb Hs
  th : ThingNew c.T Hb Hs t zs st (ordR zs dtb) (ordR zs etb)
  tw : ThingNew c.T Hb Hs t2 zs st (ordR zs dtb) (ordR zs etb)
def LP8 (H0 : Hp) (scr : Addr) (t : Int) (Pt : Addr) (c : Cs) : L2.St → Hp → Prop := fun σ H1 => ∃ (a : Nat → Option V) (Ha Hb : Hp) (p vq dd de hq v0 h1 h2 th tw : Addr) (zs : List Str) (st : Str) (dtb etb : Rows) (n : Nat), σ = LS scr t (some (.ref p)) (some (.ref vq)) (some (.str st)) (a 5) (a 6) (some (.ref dd)) (some (.ref de)) (some (.ref hq)) (some (.ref th)) (some (.ref tw)) (a 12) (a 13) (a 14) (a 15) ∧
  Mk2 H0 Ha Hb H1 c Pt p vq dd de hq v0 h1 h2 th tw zs st dtb etb n
theorem lst7 (hr : lHr A s f cdv) (d : LawC P w K mg base c Pt) : Step (lawX P w K mg base f cdv A outer s H E) (lst' 7) (LP7 H0 scr turn Pt) (LP8 H0 scr turn Pt c) := by
  refine ⟨_, ps_par (by rfl) scLaw.nd (i := 10) (j := 11) rfl rfl (by decide) rfl rfl (pa_cons (pe_thing (E := E0) d.mkT hr (by decide) passX0 (pa_cons (pe_ix ix_list (pv 9) pe_int (fun _ _ => rfl)) (pa_cons (pv 4) (pa_cons (pe_ix ix_list (pv 9) pe_int (fun _ _ => rfl)) (pa_cons (pe_ix ix_list (pv 9) pe_int (fun _ _ => rfl)) pa_nil)))))
      (pa_cons (pe_thing (E := E0) d.mkT hr (by decide) passX0 (pa_cons (pe_tupleOf (by rfl) d.gT (pv 3)) (pa_cons (pv 4) (pa_cons (pv 7) (pa_cons (pv 8) pa_nil))))) pa_nil)) (by rfl), ?_⟩
  rintro D σ H1 ⟨a, Ha, p, vq, dd, de, hq, v0, h1, h2, zs, st, dtb, etb, n, rfl, pl, hn, vl, hst, dl, ab, hd⟩ k
  have sq : SqL K H1 hq [.ref v0, .ref h1, .ref h2] := SqL.of hd.aq
  refine ⟨_, rfl, hq, _, _, .ref v0, rfl, rfl, sq, atI_nat (j := 0) rfl, _, rfl, _, rfl, hq, _, _, .ref h1, rfl, rfl, sq, atI_nat (j := 1) rfl, _, rfl, hq, _, _, .ref h2, rfl, rfl, sq, atI_nat (j := 2) rfl, ?_⟩
  refine fun th dx m1 m2 m3 => good_make m1 m2 m3 (.inl (SqL.of hd.av)) vl.vo hst (tbAt_new hd.t1) dl.dok (tbAt_new hd.t2) dl.eok hd.ne fun H2 s2 tn => ?_
  have sa2 := ab.trans s2
  refine ⟨_, rfl, .inl ⟨vq, _, rfl, SqL.of (sa2 _ _ vl.hv), fun tq ntq => ⟨_, rfl, _, rfl, _, rfl, ?_⟩⟩⟩
  have s3 : Same H2 (upd H2 tq (.tup (zs.map V.str))) := fun b o e => up_new ntq e
  have sa3 := sa2.trans s3
  refine fun tw dx2 m4 m5 m6 => good_make m4 m5 m6 (.inr (sqT_of upd_same)) vl.vo hst (tb_same sa3 dl.hd) dl.dok (tb_same sa3 dl.he) dl.eok dl.ne fun H4 s4 tn2 => ?_
  have s14 := s2.trans (s3.trans s4)
  exact ⟨_, _, rfl, k _ _ ⟨a, Ha, H1, p, vq, dd, de, hq, v0, h1, h2, th, tw, zs, st, dtb, etb, n, rfl, pl, hn, vl, hst, dl, ab, hd, s14, thingNew_same tn (s3.trans s4), thingNew_base tn2 (s2.trans s3)⟩⟩
end
end K01
/-! ## P6 -/
set_option Elab.async false
set_option linter.all false
set_option maxRecDepth 100000
set_option maxHeartbeats 2000000
namespace K01
open PySem PySem.Spec PyProof.Rows L2 ErrK LamX LiI
/-- what is kept of both things made: all but what was handed alone -/
def Kp (Ha Hb Hs H1 : Hp) : Prop := ∀ b o, (Ha b ≠ none ∨ Hb b = none) → Hs b = some o → H1 b = some o
theorem kp_same {Ha Hb Hs H1 H2 : Hp} (k : Kp Ha Hb Hs H1) (s : Same H1 H2) : Kp Ha Hb Hs H2 := fun b o c e => s _ _ (k b o c e)
theorem kp_mid {Ha Hb Hs H1 : Hp} {m : Addr} {o : HO} (k : Kp Ha Hb Hs H1) (na : Ha m = none) (nb : Hb m ≠ none) : Kp Ha Hb Hs (upd H1 m o) := fun b u c e => by
  have ne : b ≠ m := fun z => by
    rw [z] at c
    rcases c with c | c
    · exact c na
    · exact nb c
  rw [upd_ne ne]
  exact k b u c e
/-- a handed table: its rows are dicts of the middle -/
def MidT (Ha Hb H1 : Hp) (d : Addr) : Prop := ∃ rs : List (Key × V), H1 d = some (.dK rs) ∧ rs.length ≤ 10 ∧ ∀ v ∈ rs.map (·.2), ∃ b kvs, v = V.ref b ∧ Ha b = none ∧ Hb b ≠ none ∧ H1 b = some (.dK kvs)
theorem mid_of {Ha Hb H1 : Hp} {d : Addr} {tb : Rows} (t : TbNew Ha Hb d tb) (len : tb.length ≤ 2) (keep : ∀ b o, (∀ ys, o ≠ HO.lst ys) → Hb b = some o → H1 b = some o) : MidT Ha Hb H1 d := by
  obtain ⟨_, rs, h, pr⟩ := t
  refine ⟨rs, keep _ _ (fun _ z => by cases z) h, by rw [Paired.length pr]; omega, fun v hv => ?_⟩
  obtain ⟨q, hq, rfl⟩ := List.mem_map.mp hv
  obtain ⟨t1, _, b, e1, n1, hb⟩ := paired_left pr q hq
  rw [e1]
  exact ⟨b, _, rfl, n1, by rw [hb]; exact Option.some_ne_none _, keep _ _ (fun _ z => by cases z) hb⟩
section
variable {P : Program} {w : World} {K : PySem.W.Frag} {mg : Str → Option Value} {base : Heap} {f Pt : Addr} {cdv : Value} {c : Cs} {A : Around} {outer : List Env} {s : Shared} {H : Hp} {E : XK} {H0 : Hp} {scr : Addr} {ns : List Int} {turn : Int}
def LP9 (H0 : Hp) (scr : Addr) (t : Int) (Pt : Addr) (c : Cs) : L2.St → Hp → Prop := fun σ H1 => ∃ (a : Nat → Option V) (Ha Hb Hs : Hp) (p vq dd de hq v0 h1 h2 th tw : Addr) (zs : List Str) (st : Str) (dtb etb : Rows) (n : Nat), σ = LS scr t (some (.ref p)) (some (.ref vq)) (some (.str st)) (a 5) (a 6) (some (.ref dd)) (some (.ref de)) (some (.ref hq)) (some (.ref th)) (some (.ref tw)) (a 12) (a 13) (a 14) (a 15) ∧
  Mk2 H0 Ha Hb Hs c Pt p vq dd de hq v0 h1 h2 th tw zs st dtb etb n ∧ Kp Ha Hb Hs H1 ∧ H1 hq = some (.lst [.ref v0, .ref h1, .ref h2]) ∧ MidT Ha Hb H1 h1 ∧ MidT Ha Hb H1 h2
theorem lst8 (hr : lHr A s f cdv) (d : LawC P w K mg base c Pt) : Step (lawX P w K mg base f cdv A outer s H E) (lst' 8) (LP8 H0 scr turn Pt c) (LP9 H0 scr turn Pt c) := by
  refine ⟨_, ps_expr (pe_bm PySem.F.plainAttrs_list PySem.F.slot_list_append PySem.F.type_list_append mt_append (pe_ix ix_list (pv 9) pe_int (fun _ _ => rfl)) (pa_cons pe_str pa_nil)), ?_⟩
  rintro D σ H1 ⟨a, Ha, Hb, p, vq, dd, de, hq, v0, h1, h2, th, tw, zs, st, dtb, etb, n, rfl, m⟩ k
  have hqs := m.bs _ _ m.hd.aq
  have hvs := m.bs _ _ m.hd.av
  have z4 := m.vl.z4
  refine ⟨_, rfl, hq, _, _, .ref v0, rfl, rfl, SqL.of hqs, atI_nat (j := 0) rfl, .inl ⟨rfl, _, SqL.of hvs⟩, v0, _, _, rfl, rfl, hvs, by rw [List.length_map]; exact Nat.lt_of_le_of_lt z4 (by decide), ?_⟩
  have kp : Kp Ha Hb H1 (upd H1 v0 (.lst (zs.map V.str ++ [.str "more"]))) := kp_mid (fun b o _ e => e) m.hd.nv (by rw [m.hd.av]; exact fun z => by cases z)
  have off : ∀ {b : Addr} {o : HO}, (∀ ys, o ≠ .lst ys) → H1 b = some o → upd H1 v0 (.lst (zs.map V.str ++ [.str "more"])) b = some o := fun {b o} no e => by
    rw [upd_ne (fun z => by rw [z, hvs] at e; exact no _ (Option.some.inj e).symm)]
    exact e
  have qv : hq ≠ v0 := fun z => by
    rw [z, hvs] at hqs
    have e := Option.some.inj hqs
    injection e with e
    cases hz : zs with
    | nil => exact m.vl.vo.1 hz
    | cons x r =>
      rw [hz] at e
      injection e with e1 _
      cases e1
  exact k _ _ ⟨a, Ha, Hb, H1, p, vq, dd, de, hq, v0, h1, h2, th, tw, zs, st, dtb, etb, n, rfl, m, kp, by rw [upd_ne qv]; exact hqs, mid_of m.hd.t1 m.dl.dl fun b o no e => off no (m.bs _ _ e), mid_of m.hd.t2 m.dl.el fun b o no e => off no (m.bs _ _ e)⟩
end
end K01
/-! ## P7 -/
set_option Elab.async false
set_option linter.all false
set_option maxRecDepth 100000
set_option maxHeartbeats 2000000
namespace K01
open PySem PySem.Spec PyProof.Rows L2 ErrK LamX LiI
section
variable {P : Program} {w : World} {K : PySem.W.Frag} {mg : Str → Option Value} {base : Heap} {f Pt : Addr} {cdv : Value} {c : Cs} {A : Around} {outer : List Env} {s : Shared} {H : Hp} {E : XK} {H0 : Hp} {scr : Addr} {ns : List Int} {turn : Int}
def LP10 (H0 : Hp) (scr : Addr) (t : Int) (Pt : Addr) (c : Cs) : L2.St → Hp → Prop := fun σ H1 => ∃ (a : Nat → Option V) (Ha Hb Hs : Hp) (p vq dd de hq v0 h1 h2 th tw : Addr) (zs : List Str) (st : Str) (dtb etb : Rows) (n : Nat), σ = LS scr t (some (.ref p)) (some (.ref vq)) (some (.str st)) (a 5) (a 6) (some (.ref dd)) (some (.ref de)) (a 9) (some (.ref th)) (some (.ref tw)) (a 12) (a 13) (a 14) (a 15) ∧
  Mk2 H0 Ha Hb Hs c Pt p vq dd de hq v0 h1 h2 th tw zs st dtb etb n ∧ Kp Ha Hb Hs H1
/-- going over dicts, each cleared -/
theorem lst9 (hr : lHr A s f cdv) (d : LawC P w K mg base c Pt) : Step (lawX P w K mg base f cdv A outer s H E) (lst' 9) (LP9 H0 scr turn Pt c) (LP10 H0 scr turn Pt c) := by
  refine ⟨_, ps_for PassesOwn.never rfl (pi_list (pe_op op_cat (pe_listVals rfl (pe_ix ix_list (pv 9) pe_int (fun _ _ => rfl)) (by rfl) d.gS (by decide +kernel)) (pe_listVals rfl (pe_ix ix_list (pv 9) pe_int (fun _ _ => rfl)) (by rfl) d.gS (by decide +kernel)))) (pg_name (i := 12) scLaw.nd rfl (Or.inl rfl))
      (pss_one (ps_expr (pe_dclear (pv 12)))), ?_⟩
  rintro D σ H1 ⟨a, Ha, Hb, Hs, p, vq, dd, de, hq, v0, h1, h2, th, tw, zs, st, dtb, etb, n, rfl, m, kp, hqs, ⟨rs1, t1, len1, r1⟩, ⟨rs2, t2, len2, r2⟩⟩ k
  refine ⟨_, rfl, hq, _, _, .ref h1, rfl, rfl, SqL.of hqs, atI_nat (j := 1) rfl, h1, rs1, rfl, t1, fun l1 nl1 => ?_⟩
  have s2 : Same H1 (upd H1 l1 (.lst (rs1.map (·.2)))) := fun b o e => up_new nl1 e
  refine ⟨_, rfl, hq, _, _, .ref h2, rfl, rfl, SqL.of (s2 _ _ hqs), atI_nat (j := 2) rfl, h2, rs2, rfl, s2 _ _ t2, fun l2 nl2 => ?_⟩
  have s3 : Same H1 (upd (upd H1 l1 (.lst (rs1.map (·.2)))) l2 (.lst (rs2.map (·.2)))) := fun b o e => up_new nl2 (s2 _ _ e)
  refine ⟨l1, l2, _, _, rfl, rfl, up_new nl2 upd_same, upd_same, by rw [List.length_map, List.length_map]; exact Nat.le_trans (show rs1.length + rs2.length ≤ 20 by omega) (by decide), fun L nL => ⟨L, rfl, ⟨_, SqL.of upd_same⟩, ?_⟩⟩
  have s4 : Same H1 (upd (upd (upd H1 l1 (.lst (rs1.map (·.2)))) l2 (.lst (rs2.map (·.2)))) L (.lst (rs1.map (·.2) ++ rs2.map (·.2)))) := fun b o e => up_new nL (s3 _ _ e)
  have all : ∀ v ∈ rs1.map (·.2) ++ rs2.map (·.2), ∃ b kvs, v = V.ref b ∧ Ha b = none ∧ Hb b ≠ none ∧ H1 b = some (.dK kvs) := fun v hv => by
    rcases List.mem_append.mp hv with hv | hv
    · exact r1 v hv
    · exact r2 v hv
  refine for_list (K := K) (a := L) (xs := rs1.map (·.2) ++ rs2.map (·.2)) (fun i σ H2 => ∃ o12 : Option V, σ = LS scr turn (some (.ref p)) (some (.ref vq)) (some (.str st)) (a 5) (a 6) (some (.ref dd)) (some (.ref de)) (some (.ref hq)) (some (.ref th)) (some (.ref tw)) o12 (a 13) (a 14) (a 15) ∧ Kp Ha Hb Hs H2 ∧ H2 L = some (.lst (rs1.map (·.2) ++ rs2.map (·.2))) ∧
      ∀ v ∈ rs1.map (·.2) ++ rs2.map (·.2), ∃ b kvs, v = V.ref b ∧ Ha b = none ∧ Hb b ≠ none ∧ H2 b = some (.dK kvs)) ?_ ?_ ?_ ?_
  · refine ⟨_, rfl, kp_same kp s4, upd_same, fun v hv => ?_⟩
    obtain ⟨b, kvs, e, n1, n2, hb⟩ := all v hv
    exact ⟨b, kvs, e, n1, n2, s4 _ _ hb⟩
  · rintro i σ H2 _ ⟨_, _, _, hL, _⟩
    exact SqL.of hL
  · rintro i x σ H2 hi ⟨o12, rfl, kp2, hL, all2⟩
    obtain ⟨b, kvs, rfl, n1, n2, hb⟩ := all2 x (List.mem_of_getElem? hi)
    refine ⟨_, rfl, .inr (.inr (.inl ⟨rfl, .inl ⟨kvs, hb⟩⟩)), b, kvs, rfl, rfl, hb, ?_⟩
    have bL : L ≠ b := fun z => by
      rw [z, hb] at hL
      cases hL
    refine ⟨_, rfl, kp_mid kp2 n1 n2, by rw [upd_ne bL]; exact hL, fun v hv => ?_⟩
    obtain ⟨b', kvs', e, n1', n2', hb'⟩ := all2 v hv
    by_cases z : b' = b
    · exact ⟨b', [], e, n1', n2', by rw [z, upd_same]⟩
    · exact ⟨b', kvs', e, n1', n2', by rw [upd_ne z]; exact hb'⟩
  · rintro σ H2 ⟨o12, rfl, kp2, _, _⟩
    exact k _ _ ⟨fun i => match i with | 9 => some (.ref hq) | 12 => o12 | i => a i, Ha, Hb, Hs, p, vq, dd, de, hq, v0, h1, h2, th, tw, zs, st, dtb, etb, n, rfl, m, kp2⟩
end
end K01
/-! ## P8 -/
set_option Elab.async false
set_option linter.all false
set_option maxRecDepth 100000
set_option maxHeartbeats 2000000
namespace K01
open PySem PySem.Spec PyProof.Rows L2 ErrK LamX LiI
/-- a method of the thing -/
structure ThM (P : Program) (w : World) (K : PySem.W.Frag) (mg : Str → Option Value) (base : Heap) (C : Addr) (m : Str) (k : Nat) (sp : Sp) : Prop where
  ex : ∃ (f : Addr) (fd : FuncData) (ps : List Str), Meth K C m f ∧ FnOk P w K mg base CX0 k f fd ps sp ∧ L2.Binds K fd ps []
  cl : Cls K C
theorem pe_m0 {X : Cx} {C : Addr} {m : Str} {k j : Nat} {sp : Sp} {o : Expr} {ta : TE} {apos pos : Pos} {pl : Sem Bool} (M : ThM X.prog X.w X.K X.mg X.base C m k sp) (hr : Room j X.A) (hj : k ≤ j) (he : PE X o ta)
    (ht : eval (.Call (.Attribute o m apos) [] [] pos) X.env = (do
      let ov ← eval o X.env
      standAt apos.atName
      let (f, first) ← holding [ov] (getMethod ov m pl)
      callWith pos f first (backTo pos (starEach [] X.env)) (backToKw pos (keywordEach [] X.env))) := by rfl) : PE X (.Call (.Attribute o m apos) [] [] pos) (tMeth C m sp [] E0 ta tNil) := by
  obtain ⟨f, fd, ps, h, F, b⟩ := M.ex
  exact pe_meth0 he M.cl h F (hr.mono hj) b .nil pass0 ht
structure ThMs (P : Program) (w : World) (K : PySem.W.Frag) (mg : Str → Option Value) (base : Heap) (C : Addr) : Prop where
  worths : ThM P w K mg base C "worths" 1 (spWorths C)
  start : ThM P w K mg base C "start" 1 (spStart C)
  deeds : ThM P w K mg base C "deeds" 2 (spGetD C)
  entries : ThM P w K mg base C "entries" 2 (spGetE C)
theorem thing_kp {C : Addr} {Ha Hb Hs H1 : Hp} {t : Addr} {zs : List Str} {st : Str} {dl el : Rows} (k : Kp Ha Hb Hs H1) (h : ThingNew C Hb Hs t zs st dl el) : ThingAt C H1 t zs st dl el := by
  obtain ⟨n, dx, lv, ld, le, h1, n2, h2, h3, h4⟩ := h
  have tb : ∀ {d : Addr} {tb : Rows}, TbNew Hb Hs d tb → TbAt H1 d tb := fun {d tb} t => by
    obtain ⟨nd, rs, h, pr⟩ := t
    exact ⟨rs, k _ _ (.inr nd) h, Paired.mapP pr fun r t q => by
      obtain ⟨b, e, n1, hb⟩ := q
      exact ⟨b, e, k _ _ (.inr n1) hb⟩⟩
  exact ⟨dx, lv, ld, le, k _ _ (.inr n) h1, k _ _ (.inr n2) h2, tb h3, tb h4⟩
theorem th_ok {zs : List Str} {dtb etb : Rows} (vo : ValsOk zs) (d : RowsOk dtb) (e : RowsOk etb) : ThOk zs (ordR zs dtb) (ordR zs etb) := ⟨vo, ord_rows vo.2.1 vo.2.2.1 d, ord_rows vo.2.1 vo.2.2.1 e⟩
section
variable {P : Program} {w : World} {K : PySem.W.Frag} {mg : Str → Option Value} {base : Heap} {f Pt : Addr} {cdv : Value} {c : Cs} {A : Around} {outer : List Env} {s : Shared} {H : Hp} {E : XK} {H0 : Hp} {scr : Addr} {ns : List Int} {turn : Int}
theorem lst10 (hr : lHr A s f cdv) (M : ThMs P w K mg base c.T) : Step (lawX P w K mg base f cdv A outer s H E) (lst' 10) (LP10 H0 scr turn Pt c) (LP10 H0 scr turn Pt c) := by
  refine ⟨_, ps_expr (pe_bm PySem.F.plainAttrs_list PySem.F.slot_list_append PySem.F.type_list_append mt_append (pe_m0 M.worths hr (by decide) (pv 10)) (pa_cons pe_str pa_nil)), ?_⟩
  rintro D σ H1 ⟨a, Ha, Hb, Hs, p, vq, dd, de, hq, v0, h1, h2, th, tw, zs, st, dtb, etb, n, rfl, m, kp⟩ k
  have z4 := m.vl.z4
  have ta := thing_kp kp m.th
  obtain ⟨dx, lv, ld, le, hth, _⟩ := id ta
  refine ⟨_, rfl, th, dx, _, rfl, hth, rfl, th, zs, st, _, _, rfl, ta, fun l nl => ⟨.inl ⟨rfl, _, SqL.of upd_same⟩, l, _, _, rfl, rfl, upd_same, by rw [List.length_map]; exact Nat.lt_of_le_of_lt z4 (by decide), ?_⟩⟩
  exact k _ _ ⟨a, Ha, Hb, Hs, p, vq, dd, de, hq, v0, h1, h2, th, tw, zs, st, dtb, etb, n, rfl, m, kp_same kp fun b o e => by
    rw [upd_ne (ne_of_none e nl)]
    exact up_new nl e⟩
theorem lst11 (hr : lHr A s f cdv) (M : ThMs P w K mg base c.T) : Step (lawX P w K mg base f cdv A outer s H E) (lst' 11) (LP10 H0 scr turn Pt c) (LP10 H0 scr turn Pt c) := by
  refine ⟨_, ps_expr (pe_dclear (pe_m0 M.deeds hr (by decide) (pv 10))), ?_⟩
  rintro D σ H1 ⟨a, Ha, Hb, Hs, p, vq, dd, de, hq, v0, h1, h2, th, tw, zs, st, dtb, etb, n, rfl, m, kp⟩ k
  have ta := thing_kp kp m.th
  obtain ⟨dx, lv, ld, le, hth, _⟩ := id ta
  refine ⟨_, rfl, th, dx, _, rfl, hth, rfl, th, zs, st, _, _, rfl, ta, th_ok m.vl.vo m.dl.dok.1 m.dl.eok.1, fun H2 D2 s2 tn => ?_⟩
  obtain ⟨nd, rs, hD, pr⟩ := tn
  refine ⟨.inr (.inr (.inl ⟨rfl, .inl ⟨rs, hD⟩⟩)), D2, rs, rfl, rfl, hD, ?_⟩
  exact k _ _ ⟨a, Ha, Hb, Hs, p, vq, dd, de, hq, v0, h1, h2, th, tw, zs, st, dtb, etb, n, rfl, m, kp_same kp fun b o e => by
    rw [upd_ne (ne_of_none e nd)]
    exact s2 _ _ e⟩
theorem lst12 (hr : lHr A s f cdv) (d : LawC P w K mg base c Pt) (M : ThMs P w K mg base c.T) : Step (lawX P w K mg base f cdv A outer s H E) (lst' 12) (LP10 H0 scr turn Pt c) (LP10 H0 scr turn Pt c) := by
  refine ⟨_, ps_for PassesOwn.never rfl (pi_list (pe_op op_cat (pe_listVals rfl (pe_m0 M.entries hr (by decide) (pv 10)) (by rfl) d.gS (by decide +kernel)) (pe_listVals rfl (pe_m0 M.deeds hr (by decide) (pv 10)) (by rfl) d.gS (by decide +kernel)))) (pg_name (i := 12) scLaw.nd rfl (Or.inl rfl))
      (pss_one (ps_expr (pe_dclear (pv 12)))), ?_⟩
  rintro D σ H1 ⟨a, Ha, Hb, Hs, p, vq, dd, de, hq, v0, h1, h2, th, tw, zs, st, dtb, etb, n, rfl, m, kp⟩ k
  have ta := thing_kp kp m.th
  have tk := th_ok m.vl.vo m.dl.dok.1 m.dl.eok.1
  obtain ⟨dx, lv, ld, le, hth, _⟩ := id ta
  refine ⟨_, rfl, th, dx, _, rfl, hth, rfl, th, zs, st, _, _, rfl, ta, tk, fun H2 D2 s2 ⟨nd2, rs1, hD2, pr2⟩ => ⟨D2, rs1, rfl, hD2, fun l1 nl1 => ?_⟩⟩
  have s3 : Same H2 (upd H2 l1 (.lst (rs1.map (·.2)))) := fun b o e => up_new nl1 e
  have s13 := s2.trans s3
  have len1 : rs1.length < 64 := by
    rw [Paired.length pr2]
    exact (ord_rows m.vl.vo.2.1 m.vl.vo.2.2.1 (ord_rows m.vl.vo.2.1 m.vl.vo.2.2.1 m.dl.eok.1)).2.1
  refine ⟨_, rfl, th, dx, _, rfl, s13 _ _ hth, rfl, th, zs, st, _, _, rfl, thingAt_same s13 ta, tk, fun H4 D4 s4 ⟨nd4, rs2, hD4, pr4⟩ => ⟨D4, rs2, rfl, hD4, fun l2 nl2 => ?_⟩⟩
  have s5 : Same H4 (upd H4 l2 (.lst (rs2.map (·.2)))) := fun b o e => up_new nl2 e
  have len2 : rs2.length < 64 := by
    rw [Paired.length pr4]
    exact (ord_rows m.vl.vo.2.1 m.vl.vo.2.2.1 (ord_rows m.vl.vo.2.1 m.vl.vo.2.2.1 m.dl.dok.1)).2.1
  refine ⟨l1, l2, _, _, rfl, rfl, s5 _ _ (s4 _ _ upd_same), upd_same, by rw [List.length_map, List.length_map]; exact Nat.le_trans (show rs1.length + rs2.length ≤ 128 by omega) (by decide), fun L nL => ⟨L, rfl, ⟨_, SqL.of upd_same⟩, ?_⟩⟩
  have s15 : Same H1 (upd (upd H4 l2 (.lst (rs2.map (·.2)))) L (.lst (rs1.map (·.2) ++ rs2.map (·.2)))) := fun b o e => up_new nL (s5 _ _ (s4 _ _ (s13 _ _ e)))
  have all : ∀ v ∈ rs1.map (·.2) ++ rs2.map (·.2), ∃ b kvs, v = V.ref b ∧ H1 b = none ∧ upd (upd H4 l2 (.lst (rs2.map (·.2)))) L (.lst (rs1.map (·.2) ++ rs2.map (·.2))) b = some (.dK kvs) := fun v hv => by
    rcases List.mem_append.mp hv with hv | hv
    · obtain ⟨q, hq, rfl⟩ := List.mem_map.mp hv
      obtain ⟨t1, _, b, e1, n1, hb⟩ := paired_left pr2 q hq
      rw [e1]
      exact ⟨b, _, rfl, n1, up_new nL (s5 _ _ (s4 _ _ (s3 _ _ hb)))⟩
    · obtain ⟨q, hq, rfl⟩ := List.mem_map.mp hv
      obtain ⟨t1, _, b, e1, n1, hb⟩ := paired_left pr4 q hq
      rw [e1]
      exact ⟨b, _, rfl, s13.free n1, up_new nL (s5 _ _ hb)⟩
  refine for_list (K := K) (a := L) (xs := rs1.map (·.2) ++ rs2.map (·.2)) (fun i σ H2 => ∃ o12 : Option V, σ = LS scr turn (some (.ref p)) (some (.ref vq)) (some (.str st)) (a 5) (a 6) (some (.ref dd)) (some (.ref de)) (a 9) (some (.ref th)) (some (.ref tw)) o12 (a 13) (a 14) (a 15) ∧ Same H1 H2 ∧ H2 L = some (.lst (rs1.map (·.2) ++ rs2.map (·.2))) ∧
      ∀ v ∈ rs1.map (·.2) ++ rs2.map (·.2), ∃ b kvs, v = V.ref b ∧ H1 b = none ∧ H2 b = some (.dK kvs)) ?_ ?_ ?_ ?_
  · exact ⟨_, rfl, s15, upd_same, all⟩
  · rintro i σ H2 _ ⟨_, _, _, hL, _⟩
    exact SqL.of hL
  · rintro i x σ H2 hi ⟨o12, rfl, sm2, hL, all2⟩
    obtain ⟨b, kvs, rfl, n1, hb⟩ := all2 x (List.mem_of_getElem? hi)
    refine ⟨_, rfl, .inr (.inr (.inl ⟨rfl, .inl ⟨kvs, hb⟩⟩)), b, kvs, rfl, rfl, hb, ?_⟩
    have bL : L ≠ b := fun z => by
      rw [z, hb] at hL
      cases hL
    refine ⟨_, rfl, fun c o e => by rw [upd_ne (ne_of_none e n1)]; exact sm2 _ _ e, by rw [upd_ne bL]; exact hL, fun v hv => ?_⟩
    obtain ⟨b', kvs', e, n1', hb'⟩ := all2 v hv
    by_cases z : b' = b
    · exact ⟨b', [], e, n1', by rw [z, upd_same]⟩
    · exact ⟨b', kvs', e, n1', by rw [upd_ne z]; exact hb'⟩
  · rintro σ H2 ⟨o12, rfl, sm2, _, _⟩
    exact k _ _ ⟨fun i => match i with | 12 => o12 | i => a i, Ha, Hb, Hs, p, vq, dd, de, hq, v0, h1, h2, th, tw, zs, st, dtb, etb, n, rfl, m, kp_same kp sm2⟩
end
end K01
/-! ## P9 -/
set_option Elab.async false
set_option linter.all false
set_option maxRecDepth 100000
set_option maxHeartbeats 2000000
namespace K01
open PySem PySem.Spec PyProof.Rows L2 ErrK LamX LiI
/-- rows told so far -/
def RwAt (Hl H4 : Hp) (D2 : Addr) (tb : Rows) : Prop := Same Hl H4 ∧ ∃ bs : List Addr, H4 D2 = some (.lst (bs.map V.ref)) ∧ Paired (fun b (t : Str × List (Str × Str)) => ∃ lb, lb ≠ D2 ∧ H4 b = some (.tup [V.str t.1, .ref lb]) ∧ PairsAt H4 lb t.2) bs tb
theorem rw_more {Hl H4 H5 : Hp} {D2 lb t : Addr} {tb : Rows} {nm : Str} {l : List (Str × Str)} (nD2 : Hl D2 = none) (h : RwAt Hl H4 D2 tb) (small : tb.length ≤ 100) (s5 : Same H4 H5) (nlb : H4 lb = none) (hp : PairsAt H5 lb l) (nt : H5 t = none) :
    ∃ acc, upd H5 t (.tup [.str nm, .ref lb]) D2 = some (.lst acc) ∧ acc.length < sizeLine ∧ RwAt Hl (upd (upd H5 t (.tup [.str nm, .ref lb])) D2 (.lst (acc ++ [.ref t]))) D2 (tb ++ [(nm, l)]) := by
  obtain ⟨sm, bs, hD2, p1⟩ := h
  have hD5 := s5 _ _ hD2
  have nDt : D2 ≠ t := ne_of_none hD5 nt
  have nlD : lb ≠ D2 := fun z => by
    rw [z, hD2] at nlb
    cases nlb
  have keep : ∀ b o, b ≠ D2 → H5 b = some o → upd (upd H5 t (.tup [.str nm, .ref lb])) D2 (.lst (bs.map V.ref ++ [.ref t])) b = some o := fun b o nb e => by
    rw [upd_ne nb]
    exact up_new nt e
  have tupD : ∀ {c : Addr} {xs : List V}, H5 c = some (.tup xs) → c ≠ D2 := fun {c xs} e z => by
    rw [z, hD5] at e
    cases e
  have pk : ∀ {lb : Addr} {l : List (Str × Str)}, lb ≠ D2 → PairsAt H5 lb l → PairsAt (upd (upd H5 t (.tup [.str nm, .ref lb])) D2 (.lst (bs.map V.ref ++ [.ref t]))) lb l → True := fun _ _ _ => trivial
  have pk2 : ∀ {l2 : Addr} {l : List (Str × Str)}, l2 ≠ D2 → PairsAt H5 l2 l → PairsAt (upd (upd H5 t (.tup [.str nm, .ref lb])) D2 (.lst (bs.map V.ref ++ [.ref t]))) l2 l := fun {l2 l} nb q => by
    obtain ⟨ps, h1, h2⟩ := q
    exact ⟨ps, keep _ _ nb h1, Paired.mapP h2 fun c q e => keep _ _ (tupD e) e⟩
  refine ⟨_, up_new nt hD5, ?_, fun c o e => ?_, bs ++ [t], by rw [upd_same, List.map_append]; rfl, ?_⟩
  · rw [List.length_map, Paired.length p1]
    exact Nat.lt_of_le_of_lt small (by decide)
  · exact keep _ _ (ne_of_none e nD2) (s5 _ _ (sm _ _ e))
  · refine paired_snoc (Paired.mapP p1 fun b tt q => ?_) ⟨lb, nlD, by rw [upd_ne nDt.symm, upd_same], pk2 nlD hp⟩
    obtain ⟨l2, n1, h1, h2⟩ := q
    exact ⟨l2, n1, keep _ _ (tupD (s5 _ _ h1)) (s5 _ _ h1), pk2 n1 (pairs_same s5 h2)⟩
theorem rw_rows {Hl H4 : Hp} {D2 : Addr} {tb : Rows} (h : RwAt Hl H4 D2 tb) : RowsAt H4 D2 tb := by
  obtain ⟨_, bs, h1, p⟩ := h
  exact ⟨bs, h1, Paired.mapP p fun b t q => by
    obtain ⟨lb, _, h1, h2⟩ := q
    exact ⟨lb, h1, h2⟩⟩
/-- list(lead.items()) of a lead -/
theorem pairs_of {H' : Hp} {p : Addr} {ts : List Addr} {l : List (Str × Str)} (h : H' p = some (.lst (ts.map V.ref))) (pr : Paired (fun (t : Addr) (q : Key × V) => H' t = some (.tup [kV q.1, q.2])) ts (tx l)) : PairsAt H' p l := by
  refine ⟨ts, h, ?_⟩
  clear h
  induction l generalizing ts with
  | nil =>
    cases pr
    exact .nil
  | cons q r ih =>
    cases pr with
    | cons h1 h2 => exact .cons h1 (ih h2)
section
variable {P : Program} {w : World} {K : PySem.W.Frag} {mg : Str → Option Value} {base : Heap} {f Pt : Addr} {cdv : Value} {c : Cs} {A : Around} {outer : List Env} {s : Shared} {H : Hp} {E : XK} {H0 : Hp} {scr : Addr} {ns : List Int} {turn : Int}
def LP13 (H0 : Hp) (scr : Addr) (t : Int) (Pt : Addr) (c : Cs) : L2.St → Hp → Prop := fun σ H1 => ∃ (a : Nat → Option V) (Ha Hb Hs : Hp) (p vq dd de hq v0 h1 h2 th tw tl l0 R : Addr) (zs : List Str) (st : Str) (dtb etb : Rows) (n : Nat), σ = LS scr t (some (.ref p)) (some (.ref vq)) (some (.str st)) (a 5) (a 6) (some (.ref dd)) (some (.ref de)) (a 9) (some (.ref th)) (some (.ref tw)) (a 12) (some (.ref tl)) (a 14) (a 15) ∧
  Mk2 H0 Ha Hb Hs c Pt p vq dd de hq v0 h1 h2 th tw zs st dtb etb n ∧ Kp Ha Hb Hs H1 ∧ H1 tl = some (.lst [.ref l0, .str st, .ref R]) ∧ H1 l0 = some (.lst (zs.map V.str)) ∧ RowsAt H1 R (ordR zs dtb)
theorem lst13 (hr : lHr A s f cdv) (d : LawC P w K mg base c Pt) (M : ThMs P w K mg base c.T) : Step (lawX P w K mg base f cdv A outer s H E) (lst' 13) (LP10 H0 scr turn Pt c) (LP13 H0 scr turn Pt c) := by
  refine ⟨_, ps_set (i := 13) scLaw.nd rfl (Or.inl rfl) (pe_lst (pa_cons (pe_m0 M.worths hr (by decide) (pv 10)) (pa_cons (pe_m0 M.start hr (by decide) (pv 10)) (pa_cons
      (pe_lc (own := [("name", 16), ("lead", 12)]) (g := gTup K 2 (gCons (gName 16) (gCons (gName 12) gNil))) (tt := tYes) rfl scLaw.nd (pi_items (pe_frz (pe_m0 M.deeds hr (by decide) (pv 10)))) (blkOk_by (N := nLaw) (sc := defScope sLaw) (by decide +kernel))
        (fun _ _ _ _ _ => pg_tup (by rfl) (pgs_cons (pg_name (i := 16) scLaw.nd rfl (Or.inl rfl)) (pgs_cons (pg_name (i := 12) scLaw.nd rfl (Or.inl rfl)) pgs_nil))) (fun _ _ _ _ _ => pts_nil)
        (fun _ _ _ _ _ => pe_tup (pa_cons (pv 16) (pa_cons (pe_listItems rfl (pv 12) (by rfl) d.gS (by decide +kernel)) pa_nil)))) pa_nil)))), ?_⟩
  rintro D σ H1 ⟨a, Ha, Hb, Hs, p, vq, dd, de, hq, v0, h1, h2, th, tw, zs, st, dtb, etb, n, rfl, m, kp⟩ k
  have ta := thing_kp kp m.th
  have tk := th_ok m.vl.vo m.dl.dok.1 m.dl.eok.1
  obtain ⟨dx, lv, ld, le, hth, _⟩ := id ta
  refine ⟨_, rfl, th, dx, _, rfl, hth, rfl, th, zs, st, _, _, rfl, ta, fun l0 nl0 => ?_⟩
  have s2 : Same H1 (upd H1 l0 (.lst (zs.map V.str))) := fun b o e => up_new nl0 e
  refine ⟨_, rfl, th, dx, _, rfl, s2 _ _ hth, rfl, th, zs, st, _, _, rfl, thingAt_same s2 ta, ?_⟩
  refine ⟨_, rfl, th, dx, _, rfl, s2 _ _ hth, rfl, th, zs, st, _, _, rfl, thingAt_same s2 ta, tk, fun H3 D2 s3 ⟨nD2, rs, hD2, pr⟩ => ?_⟩
  rw [ord_ord] at pr
  refine ⟨D2, _, hD2, True.intro, fun od => ?_⟩
  generalize hHl : upd H3 D2 (.frz od (.dK rs)) = Hl at *
  have hld : Hl D2 = some (.frz od (.dK rs)) := by rw [← hHl, upd_same]
  have xl : ∀ b o, b ≠ D2 → H3 b = some o → Hl b = some o := fun b o nb e => by
    rw [← hHl, upd_ne nb]
    exact e
  have ndD : ∀ {b : Addr} {o : HO}, (∀ ys, o ≠ .dK ys) → H3 b = some o → b ≠ D2 := fun {b o} no e z => by
    rw [z, hD2] at e
    exact no _ (Option.some.inj e).symm
  have rl : rs.length = (ordR zs dtb).length := Paired.length pr
  have small : (ordR zs dtb).length ≤ 64 := Nat.le_of_lt tk.dr.2.1
  refine ⟨D2, od, rs, rfl, hld, fun D3 nD3 => ?_⟩
  refine lc_it walk_items (fun j H4 => RwAt Hl H4 D3 ((ordR zs dtb).take j)) ⟨fun b o e => up_new nD3 e, [], upd_same, .nil⟩ (fun j H4 _ q => q.1 _ _ hld) ?_ ?_
  · rintro j x H4 H5 hj q ⟨T, y, z, rfl, nT, rfl, e1, e2⟩
    have hj2 : j < (ordR zs dtb).length := by omega
    have er : rs[j]? = some rs[j] := List.getElem?_eq_getElem hj
    obtain ⟨t, et, ad, erf, nad, hta⟩ := L2.paired_get pr er
    dsimp only at e1 e2
    rw [er, erf] at e1 e2
    obtain rfl : V.str t.1 = y := Option.some.inj e1
    obtain rfl : V.ref ad = z := Option.some.inj e2
    have nadD : ad ≠ D2 := fun z => by
      rw [z, hD2] at hta
      have := Option.some.inj hta
      injection this with this
      have mm : (Sum.inr t.1, V.ref ad) ∈ rs := by
        rw [← erf]
        exact List.getElem_mem hj
      rw [this] at mm
      obtain ⟨y, _, ey⟩ := List.mem_map.mp mm
      cases (Prod.mk.inj ey).2
    refine ⟨T, _, rfl, .inl (.inl upd_same), rfl, _, _, rfl, _, _, rfl, rfl, rfl, ?_⟩
    unfold tYes
    dsimp only
    rw [if_pos rfl]
    have sT : Same H4 (upd H4 T (.tup [V.str t.1, V.ref ad])) := fun b o e => up_new nT e
    refine ⟨_, rfl, _, rfl, ad, tx t.2, rfl, sT _ _ (q.1 _ _ (xl _ _ nadD hta)), fun H6 lb ts s6 nlb nts _ hlb pts => ⟨by show 2 ≤ sizeLine; decide, fun tt nt => ?_⟩⟩
    rw [List.take_succ, et]
    exact rw_more nD3 q (by rw [List.length_take]; omega) (sT.trans s6) (sT.free nlb) (pairs_of hlb pts) nt
  · rintro H4 q
    have q2 := q
    rw [rl, List.take_of_length_le (Nat.le_refl _)] at q2
    refine ⟨by show 3 ≤ sizeLine; decide, fun tl ntl => ?_⟩
    have s34 : ∀ b o, b ≠ D2 → H3 b = some o → H4 b = some o := fun b o nb e => q2.1 _ _ (xl _ _ nb e)
    have s14 : Same H1 (upd H4 tl (.lst [.ref l0, .str st, .ref D3])) := fun b o e => by
      have e3 := s3 _ _ (s2 _ _ e)
      refine up_new ntl (s34 _ _ (fun z => ?_) e3)
      rw [z] at e
      have := s2 _ _ e
      rw [nD2] at this
      cases this
    have l0D : l0 ≠ D2 := fun z => by
      rw [← z, upd_same] at nD2
      cases nD2
    have sl : Same H4 (upd H4 tl (.lst [.ref l0, .str st, .ref D3])) := fun b o e => up_new ntl e
    exact k _ _ ⟨a, Ha, Hb, Hs, p, vq, dd, de, hq, v0, h1, h2, th, tw, tl, l0, D3, zs, st, dtb, etb, n, rfl, m, kp_same kp s14, upd_same, sl _ _ (s34 _ _ l0D (s3 _ _ upd_same)), rowsAt_same sl (rw_rows q2)⟩
end
end K01
/-! ## P10 -/
set_option Elab.async false
set_option linter.all false
set_option maxRecDepth 100000
set_option maxHeartbeats 2000000
namespace K01
open PySem PySem.Spec PyProof.Rows L2 ErrK LamX LiI
/-- the thing's == and != -/
structure EqM (P : Program) (w : World) (K : PySem.W.Frag) (mg : Str → Option Value) (base : Heap) (C : Addr) : Prop where
  ex : ∃ (f : Addr) (fd : FuncData) (ps : List Str), FnOk P w K mg base CX0 1 f fd ps (spEqT K C) ∧ PySem.W.findIn K (.ref C) "__eq__" = some (some (.ref f)) ∧ PySem.W.isFn K (.ref f) = true ∧ L2.Binds K fd ps []
  hm : PySem.W.mroIn K C (.type "object") = some true
  hn : PySem.W.findIn K (.ref C) "__ne__" = some (some (.builtin "object.__ne__"))
  nf : PySem.W.notFirst K C (.type "list") = true
theorem op_eqT {X : Cx} {C : Addr} {j : Nat} (M : EqM X.prog X.w X.K X.mg X.base C) (hr : Room j X.A) (hj : 1 ≤ j) : OpR X (compareOp .Eq) (rEqO X.K C (spEqT X.K C) E0) := by
  obtain ⟨f, fd, ps, F, hs, hf, hb⟩ := M.ex
  exact op_eqO F hs hf hb pass0 (hr.mono hj)
theorem op_neT {X : Cx} {C : Addr} {j : Nat} (M : EqM X.prog X.w X.K X.mg X.base C) (hr : Room j X.A) (hj : 2 ≤ j) : OpR X (compareOp .NotEq) (rNeO C (spEqT X.K C) E0) := by
  obtain ⟨f, fd, ps, F, hs, hf, hb⟩ := M.ex
  exact op_neO F M.hm hs hf M.hn hb pass0 (hr.mono hj)
/-- rows of words can be laid -/
def RowsW (tb : Rows) : Prop := ∀ t ∈ tb, wordT t.1 = true ∧ ∀ q ∈ t.2, wordT q.1 = true ∧ wordT q.2 = true
theorem lay_pairs : ∀ {l : List (Str × Str)}, (∀ q ∈ l, wordT q.1 = true ∧ wordT q.2 = true) → PyData.canLayAll0 (pairsD l) = true
  | [], _ => rfl
  | q :: r, h => by
    show ((PyData.strOk q.1 && (PyData.strOk q.2 && true)) && PyData.canLayAll0 (pairsD r)) = true
    rw [lay_pairs fun y hy => h y (List.mem_cons_of_mem _ hy), word_ok (h q List.mem_cons_self).1, word_ok (h q List.mem_cons_self).2]
    rfl
theorem lay_rows : ∀ {tb : Rows}, RowsW tb → PyData.canLayAll0 (rowsD tb) = true
  | [], _ => rfl
  | t :: r, h => by
    show ((PyData.strOk t.1 && (PyData.canLayAll0 (pairsD t.2) && true)) && PyData.canLayAll0 (rowsD r)) = true
    rw [lay_rows fun y hy => h y (List.mem_cons_of_mem _ hy), word_ok (h t List.mem_cons_self).1, lay_pairs (h t List.mem_cons_self).2]
    rfl
theorem depth_pairs : ∀ l : List (Str × Str), PyData.depthAll (pairsD l) ≤ 1
  | [] => Nat.zero_le _
  | q :: r => by
    show max (max 0 (max 0 0) + 1) (PyData.depthAll (pairsD r)) ≤ 1
    have := depth_pairs r
    omega
theorem depth_rows : ∀ tb : Rows, PyData.depthAll (rowsD tb) ≤ 3
  | [] => Nat.zero_le _
  | t :: r => by
    show max (max 0 (max (PyData.depthAll (pairsD t.2) + 1) 0) + 1) (PyData.depthAll (rowsD r)) ≤ 3
    have := depth_rows r
    have := depth_pairs t.2
    omega
theorem shaped_rows {tb : Rows} (h : RowsW tb) : SeqAt.shaped (.list (rowsD tb)) = true := by
  unfold SeqAt.shaped
  show (PyData.canLayAll0 (rowsD tb) && decide (PyData.depthAll (rowsD tb) + 1 ≤ 64)) = true
  rw [lay_rows h, decide_eq_true (by have := depth_rows tb; omega)]
  rfl
theorem ord_words {zs : List Str} {tb : Rows} (hw : ∀ z ∈ zs, wordT z = true) (h : ∀ t ∈ tb, wordT t.1 = true ∧ LeadIn zs t.2) (nd : (tb.map (·.1)).Nodup) : RowsW (ordR zs tb) := by
  intro t ht
  unfold ordR at ht
  obtain ⟨nm, hn, rfl⟩ := List.mem_map.mp ht
  have hn2 : nm ∈ tb.map (·.1) := (srt_perm _).subset hn
  obtain ⟨t0, ht0, rfl⟩ := List.mem_map.mp hn2
  refine ⟨(h t0 ht0).1, fun q hq => ?_⟩
  rw [look_mem nd ht0] at hq
  unfold pick at hq
  obtain ⟨z, hz, ez⟩ := List.mem_filterMap.mp hq
  cases lk : t0.2.lookup z with
  | none =>
    rw [lk] at ez
    cases ez
  | some v =>
    rw [lk] at ez
    obtain rfl : (z, v) = q := Option.some.inj ez
    have mem : (z, v) ∈ t0.2 := PySem.mem_of_lookup lk
    exact ⟨hw z hz, hw v ((h t0 ht0).2 _ mem).2⟩
def toldD (zs : List Str) (st : Str) (tb : Rows) : PyData := .list [.list (wD zs), .str st, .list (rowsD tb)]
theorem shaped_told {zs : List Str} {st : Str} {tb : Rows} (hw : ∀ z ∈ zs, wordT z = true) (hs : wordT st = true) (h : RowsW tb) : SeqAt.shaped (toldD zs st tb) = true := by
  unfold SeqAt.shaped toldD
  show ((PyData.canLayAll0 (wD zs) && (PyData.strOk st && (PyData.canLayAll0 (rowsD tb) && true))) && decide (max (PyData.depthAll (wD zs) + 1) (max 0 (max (PyData.depthAll (rowsD tb) + 1) 0)) + 1 ≤ 64)) = true
  rw [lay_words hw, word_ok hs, lay_rows h, decide_eq_true (by have := depth_rows tb; have := depth_words zs; omega)]
  rfl
end K01
/-! ## P11 -/
set_option Elab.async false
set_option linter.all false
set_option maxRecDepth 100000
set_option maxHeartbeats 2000000
namespace K01
open PySem PySem.Spec PyProof.Rows L2 ErrK LamX LiI
section
variable {P : Program} {w : World} {K : PySem.W.Frag} {mg : Str → Option Value} {base : Heap} {f Pt : Addr} {cdv : Value} {c : Cs} {A : Around} {outer : List Env} {s : Shared} {H : Hp} {E : XK} {H0 : Hp} {scr : Addr} {ns : List Int} {turn : Int}
/-- what is told of the leads still stands -/
theorem dl_kp {Ha Hb Hs H1 : Hp} {p dd de : Addr} {zs : List Str} {dtb etb : Rows} (ab : Same Ha Hb) (bs : Same Hb Hs) (k : Kp Ha Hb Hs H1) (d : Dl Ha p dd de zs dtb etb) : Dl H1 p dd de zs dtb etb := by
  have go : ∀ b o, Ha b = some o → H1 b = some o := fun b o e => k b o (.inl (by rw [e]; exact Option.some_ne_none _)) (bs _ _ (ab _ _ e))
  exact ⟨tb_same go d.hd, d.dok, tb_same go d.he, d.eok, d.dl, d.el, d.dy, d.ey, d.ne⟩
theorem same_kp {Ha Hb Hs H1 : Hp} (ab : Same Ha Hb) (bs : Same Hb Hs) (k : Kp Ha Hb Hs H1) : Same Ha H1 := fun b o e => k b o (.inl (by rw [e]; exact Option.some_ne_none _)) (bs _ _ (ab _ _ e))
theorem lst14 (hr : lHr A s f cdv) (d : LawC P w K mg base c Pt) (M : EqM P w K mg base c.T) : Step (lawX P w K mg base f cdv A outer s H E) (lst' 14) (LP13 H0 scr turn Pt c) (LP10 H0 scr turn Pt c) := by
  have hu : (A.deeper (envOfC "law" (defScope sLaw) s.heap.objs.size f cdv)).units + 64 < cLine := hr.units
  refine ⟨_, ps_if (PW.pt (pw_or (pt_cmpR (op_neD (X := lawX P w K mg base f cdv A outer s H E) hu) (pv 13) (pe_lst (pa_cons (pv 3) (pa_cons (pv 4) (pa_cons (pe_cl d.told hr (by decide) pass0 (pa_cons (pv 7) (pa_cons (pv 3) pa_nil))) pa_nil)))) (nomark _))
      (pw_or (pt_cmpR (op_neT (X := lawX P w K mg base f cdv A outer s H E) M hr (by decide)) (pv 10) (pv 11) (nomark _)) (pw_or1 (pt_cmpR (op_eqT (X := lawX P w K mg base f cdv A outer s H E) M hr (by decide)) (pv 10) (pv 3) (nomark _))))))
    (pss_one (ps_ret pe_bl)) pss_nil, ?_⟩
  rintro D σ H1 ⟨a, Ha, Hb, Hs, p, vq, dd, de, hq, v0, h1, h2, th, tw, tl, l0, R, zs, st, dtb, etb, n, rfl, m, kp, htl, hl0, hR⟩ k
  have z4 := m.vl.z4
  have sa := same_kp m.ab m.bs kp
  have hv1 := sa _ _ m.vl.hv
  have dl1 := dl_kp m.ab m.bs kp m.dl
  have tk := th_ok m.vl.vo m.dl.dok.1 m.dl.eok.1
  have wst : wordT st = true := m.vl.vo.2.2.2 _ m.hst
  have rw1 : RowsW (ordR zs dtb) := ord_words m.vl.vo.2.2.2 (fun t ht => ⟨(m.dl.dok.2 t ht).1, (m.dl.dok.2 t ht).2.1⟩) m.dl.dok.1.1
  refine ⟨_, rfl, _, rfl, _, rfl, _, rfl, _, rfl, dd, vq, zs, dtb, rfl, dl1.hd, dl1.dok.1, SqL.of hv1, m.vl.vo.2.1, m.vl.vo.2.2.1, fun H2 R2 s2 n2 hR2 => ⟨by show 3 ≤ sizeLine; decide, fun L nL => ?_⟩⟩
  have s3 : Same H2 (upd H2 L (.lst [.ref vq, .str st, .ref R2])) := fun b o e => up_new nL e
  have s13 := s2.trans s3
  have sh := shaped_told m.vl.vo.2.2.2 wst rw1
  have dp : ∀ {Hx : Hp} {x l r : Addr}, Hx x = some (.lst [.ref l, .str st, .ref r]) → Hx l = some (.lst (zs.map V.str)) → RowsAt Hx r (ordR zs dtb) → Dp K Hx (.ref x) (toldD zs st (ordR zs dtb)) := fun h1 h2 h3 =>
    .lst (SqL.of h1) (.cons (.lst (SqL.of h2) (dp_words zs)) (.cons (.str st) (.cons (dp_rows h3) .nil)))
  have refl : PyData.eqv (toldD zs st (ordR zs dtb)) (toldD zs st (ordR zs dtb)) = true := PySem.SeqAt.eqv_refl _ (SeqAt.canLay_of_shaped sh)
  refine ⟨toldD zs st (ordR zs dtb), toldD zs st (ordR zs dtb), dp (s13 _ _ htl) (s13 _ _ hl0) (rowsAt_same s13 hR), dp upd_same (s13 _ _ hv1) (rowsAt_same s3 hR2), sh, sh, false, by rw [refl]; rfl, iteF ?_⟩
  have ta := thingAt_same s13 (thing_kp kp m.th)
  have tb := thingAt_same s13 (thing_kp kp m.tw)
  obtain ⟨dx, lv, ld, le, hth, _⟩ := id ta
  obtain ⟨dx2, lv2, ld2, le2, htw, _⟩ := id tb
  refine ⟨_, rfl, _, rfl, th, dx, _, tw, dx2, _, rfl, hth, rfl, htw, th, zs, st, _, _, .ref tw, rfl, ta, tk, .inr ⟨tw, zs, st, _, _, rfl, tb, tk, wst, wst, .inr ⟨rfl, .inr ⟨rfl, .inr ⟨rfl, .inr ⟨rfl, true, rfl, false, rfl, iteF ?_⟩⟩⟩⟩⟩⟩
  refine ⟨_, rfl, _, rfl, th, dx, _, rfl, hth, .inr ⟨vq, _, rfl, SqL.of (s13 _ _ hv1), M.nf⟩, th, zs, st, _, _, .ref vq, rfl, ta, tk, .inl ⟨vq, _, rfl, SqL.of (s13 _ _ hv1), false, rfl, false, rfl, iteF ?_⟩⟩
  exact k _ _ ⟨fun i => match i with | 13 => some (.ref tl) | i => a i, Ha, Hb, Hs, p, vq, dd, de, hq, v0, h1, h2, th, tw, zs, st, dtb, etb, n, rfl, m, kp_same kp s13⟩
end
end K01
/-! ## P12 -/
set_option Elab.async false
set_option linter.all false
set_option maxRecDepth 100000
set_option maxHeartbeats 2000000
namespace K01
open PySem PySem.Spec PyProof.Rows L2 ErrK LamX LiI
section
variable {P : Program} {w : World} {K : PySem.W.Frag} {mg : Str → Option Value} {base : Heap} {f Pt : Addr} {cdv : Value} {c : Cs} {A : Around} {outer : List Env} {s : Shared} {H : Hp} {E : XK} {H0 : Hp} {scr : Addr} {ns : List Int} {turn : Int}
theorem lst15 (hr : lHr A s f cdv) (d : LawC P w K mg base c Pt) (M : ThMs P w K mg base c.T) : Step (lawX P w K mg base f cdv A outer s H E) (lst' 15) (LP10 H0 scr turn Pt c) (LP10 H0 scr turn Pt c) := by
  have hu : (A.deeper (envOfC "law" (defScope sLaw) s.heap.objs.size f cdv)).units + 64 < cLine := hr.units
  refine ⟨_, ps_if (pt_cmpR (op_neD (X := lawX P w K mg base f cdv A outer s H E) hu)
      (pe_lc (own := [("name", 16), ("lead", 12)]) (g := gTup K 2 (gCons (gName 16) (gCons (gName 12) gNil))) (tt := tYes) rfl scLaw.nd (pi_items (pe_frz (pe_m0 M.entries hr (by decide) (pv 10)))) (blkOk_by (N := nLaw) (sc := defScope sLaw) (by decide +kernel))
        (fun _ _ _ _ _ => pg_tup (by rfl) (pgs_cons (pg_name (i := 16) scLaw.nd rfl (Or.inl rfl)) (pgs_cons (pg_name (i := 12) scLaw.nd rfl (Or.inl rfl)) pgs_nil))) (fun _ _ _ _ _ => pts_nil)
        (fun _ _ _ _ _ => pe_tup (pa_cons (pv 16) (pa_cons (pe_listItems rfl (pv 12) (by rfl) d.gS (by decide +kernel)) pa_nil))))
      (pe_cl d.told hr (by decide) pass0 (pa_cons (pv 8) (pa_cons (pv 3) pa_nil))) (nomark _)) (pss_one (ps_ret pe_bl)) pss_nil, ?_⟩
  rintro D σ H1 ⟨a, Ha, Hb, Hs, p, vq, dd, de, hq, v0, h1, h2, th, tw, zs, st, dtb, etb, n, rfl, m, kp⟩ k
  have ta := thing_kp kp m.th
  have tk := th_ok m.vl.vo m.dl.dok.1 m.dl.eok.1
  obtain ⟨dx, lv, ld, le, hth, _⟩ := id ta
  have dl1 := dl_kp m.ab m.bs kp m.dl
  have hv1 := same_kp m.ab m.bs kp _ _ m.vl.hv
  have rw1 : RowsW (ordR zs etb) := ord_words m.vl.vo.2.2.2 (fun t ht => ⟨(m.dl.eok.2 t ht).1, (m.dl.eok.2 t ht).2.1⟩) m.dl.eok.1.1
  refine ⟨_, rfl, th, dx, _, rfl, hth, rfl, th, zs, st, _, _, rfl, ta, tk, fun H3 D2 s3 ⟨nD2, rs, hD2, pr⟩ => ?_⟩
  rw [ord_ord] at pr
  refine ⟨D2, _, hD2, True.intro, fun od => ?_⟩
  generalize hHl : upd H3 D2 (.frz od (.dK rs)) = Hl at *
  have hld : Hl D2 = some (.frz od (.dK rs)) := by rw [← hHl, upd_same]
  have xl : ∀ b o, b ≠ D2 → H3 b = some o → Hl b = some o := fun b o nb e => by
    rw [← hHl, upd_ne nb]
    exact e
  have ndD : ∀ {b : Addr} {o : HO}, (∀ ys, o ≠ .dK ys) → H3 b = some o → b ≠ D2 := fun {b o} no e z => by
    rw [z, hD2] at e
    exact no _ (Option.some.inj e).symm
  have rl : rs.length = (ordR zs etb).length := Paired.length pr
  have small : (ordR zs etb).length ≤ 64 := Nat.le_of_lt tk.er.2.1
  refine ⟨D2, od, rs, rfl, hld, fun D3 nD3 => ?_⟩
  refine lc_it walk_items (fun j H4 => RwAt Hl H4 D3 ((ordR zs etb).take j)) ⟨fun b o e => up_new nD3 e, [], upd_same, .nil⟩ (fun j H4 _ q => q.1 _ _ hld) ?_ ?_
  · rintro j x H4 H5 hj q ⟨T, y, z, rfl, nT, rfl, e1, e2⟩
    have hj2 : j < (ordR zs etb).length := by omega
    have er : rs[j]? = some rs[j] := List.getElem?_eq_getElem hj
    obtain ⟨t, et, ad, erf, nad, hta⟩ := L2.paired_get pr er
    dsimp only at e1 e2
    rw [er, erf] at e1 e2
    obtain rfl : V.str t.1 = y := Option.some.inj e1
    obtain rfl : V.ref ad = z := Option.some.inj e2
    have nadD : ad ≠ D2 := fun z => by
      rw [z, hD2] at hta
      have := Option.some.inj hta
      injection this with this
      have mm : (Sum.inr t.1, V.ref ad) ∈ rs := by
        rw [← erf]
        exact List.getElem_mem hj
      rw [this] at mm
      obtain ⟨y, _, ey⟩ := List.mem_map.mp mm
      cases (Prod.mk.inj ey).2
    refine ⟨T, _, rfl, .inl (.inl upd_same), rfl, _, _, rfl, _, _, rfl, rfl, rfl, ?_⟩
    unfold tYes
    dsimp only
    rw [if_pos rfl]
    have sT : Same H4 (upd H4 T (.tup [V.str t.1, V.ref ad])) := fun b o e => up_new nT e
    refine ⟨_, rfl, _, rfl, ad, tx t.2, rfl, sT _ _ (q.1 _ _ (xl _ _ nadD hta)), fun H6 lb ts s6 nlb nts _ hlb pts => ⟨by show 2 ≤ sizeLine; decide, fun tt nt => ?_⟩⟩
    rw [List.take_succ, et]
    exact rw_more nD3 q (by rw [List.length_take]; omega) (sT.trans s6) (sT.free nlb) (pairs_of hlb pts) nt
  · rintro H4 q
    have q2 := q
    rw [rl, List.take_of_length_le (Nat.le_refl _)] at q2
    have s34 : ∀ b o, b ≠ D2 → H3 b = some o → H4 b = some o := fun b o nb e => q2.1 _ _ (xl _ _ nb e)
    have s14 : Same H1 H4 := fun b o e => s34 _ _ (fun z => by rw [z] at e; rw [nD2] at e; cases e) (s3 _ _ e)
    refine ⟨_, rfl, _, rfl, de, vq, zs, etb, rfl, tb_same s14 dl1.he, dl1.eok.1, SqL.of (s14 _ _ hv1), m.vl.vo.2.1, m.vl.vo.2.2.1, fun H5 R2 s5 n2 hR2 => ?_⟩
    have sh := shaped_rows rw1
    refine ⟨.list (rowsD (ordR zs etb)), .list (rowsD (ordR zs etb)), dp_rows (rowsAt_same s5 (rw_rows q2)), dp_rows hR2, sh, sh, false, by rw [PySem.SeqAt.eqv_refl _ (SeqAt.canLay_of_shaped sh)]; rfl, iteF ?_⟩
    exact k _ _ ⟨a, Ha, Hb, Hs, p, vq, dd, de, hq, v0, h1, h2, th, tw, zs, st, dtb, etb, n, rfl, m, kp_same kp (s14.trans s5)⟩
end
end K01
/-! ## P13 -/
set_option Elab.async false
set_option linter.all false
set_option maxRecDepth 100000
set_option maxHeartbeats 2000000
namespace K01
open PySem PySem.Spec PyProof.Rows L2 ErrK LamX LiI
section
variable {P : Program} {w : World} {K : PySem.W.Frag} {mg : Str → Option Value} {base : Heap} {f Pt : Addr} {cdv : Value} {c : Cs} {A : Around} {outer : List Env} {s : Shared} {H : Hp} {E : XK} {H0 : Hp} {scr : Addr} {ns : List Int} {turn : Int}
theorem paired_rows_snoc {H1 : Hp} {rs : List (Key × V)} {tb : Rows} {b : Addr} {nm : Str} {l : List (Str × Str)} (p : Paired (RowAt H1) rs tb) (h : H1 b = some (.dK (tx l))) : Paired (RowAt H1) (rs ++ [(.inr nm, .ref b)]) (tb ++ [(nm, l)]) := paired_snoc p ⟨b, rfl, h⟩
theorem rows_nin {H1 : Hp} {rs : List (Key × V)} {tb : Rows} {nm : Str} (p : Paired (RowAt H1) rs tb) (h : ∀ t ∈ tb, t.1 ≠ nm) : (Sum.inr nm : Key) ∉ rs.map (·.1) := fun m => by
  rw [rows_keys (fun r t q => by obtain ⟨a, e, _⟩ := q; rw [e]) p] at m
  obtain ⟨y, hy, e⟩ := List.mem_map.mp m
  obtain ⟨t, ht, rfl⟩ := List.mem_map.mp hy
  exact h t ht (Sum.inr.inj e)
theorem rows_knd {H1 : Hp} {rs : List (Key × V)} {tb : Rows} (p : Paired (RowAt H1) rs tb) (h : (tb.map (·.1)).Nodup) : (rs.map (·.1)).Nodup := by
  rw [rows_keys (fun r t q => by obtain ⟨a, e, _⟩ := q; rw [e]) p]
  exact List.Pairwise.map _ (fun a b (h : a ≠ b) z => h (Sum.inr.inj z)) h
theorem rowsOk_more {tb : Rows} {nm : Str} {l : List (Str × Str)} (ok : RowsOk tb) (hn : ∀ t ∈ tb, t.1 ≠ nm) (len : tb.length ≤ 2) (hl : (l.map (·.1)).Nodup ∧ l.length ≤ 1000) : RowsOk (tb ++ [(nm, l)]) := by
  refine ⟨?_, by rw [List.length_append]; show tb.length + 1 < 64; omega, fun t ht => ?_⟩
  · rw [List.map_append, List.nodup_append]
    refine ⟨ok.1, List.nodup_cons.mpr ⟨by simp, List.nodup_nil⟩, fun a ha b hb e => ?_⟩
    obtain ⟨t, ht, rfl⟩ := List.mem_map.mp ha
    have hb : b = nm := List.mem_singleton.mp hb
    exact hn t ht (e.trans hb)
  · rcases List.mem_append.mp ht with ht | ht
    · exact ok.2.2 t ht
    · rw [List.mem_singleton.mp ht]
      exact hl
theorem entsMore {zs : List Str} {dtb etb : Rows} (ok : EntsOk zs dtb etb) (len : etb.length ≤ 2) (ey : ∀ t ∈ etb, t.1 ≠ ("yy" : Str)) (dy : ∀ t ∈ dtb, t.1 ≠ ("yy" : Str)) : EntsOk zs dtb (etb ++ [(("yy" : Str), ([] : List (Str × Str)))]) := by
  refine ⟨rowsOk_more ok.1 ey len ⟨List.nodup_nil, Nat.zero_le _⟩, fun t ht => ?_⟩
  rcases List.mem_append.mp ht with ht | ht
  · exact ok.2 t ht
  · rw [List.mem_singleton.mp ht]
    refine ⟨yy_word, (fun q h => by cases h), fun m => ?_⟩
    obtain ⟨t, ht, e⟩ := List.mem_map.mp m
    exact dy t ht e
def LP16 (H0 : Hp) (scr : Addr) (t : Int) (Pt : Addr) (c : Cs) : L2.St → Hp → Prop := fun σ H1 => ∃ (a : Nat → Option V) (Ha Hb Hs : Hp) (p vq dd de hq v0 h1 h2 th tw mo : Addr) (zs : List Str) (st : Str) (dtb etb : Rows) (n : Nat), σ = LS scr t (some (.ref p)) (some (.ref vq)) (some (.str st)) (a 5) (a 6) (some (.ref dd)) (some (.ref de)) (a 9) (some (.ref th)) (some (.ref tw)) (a 12) (a 13) (some (.ref mo)) (a 15) ∧
  Mk2 H0 Ha Hb Hs c Pt p vq dd de hq v0 h1 h2 th tw zs st dtb etb n ∧ Kp Ha Hb Hs H1 ∧ TbAt H1 mo (etb ++ [(("yy" : Str), ([] : List (Str × Str)))]) ∧ mo ≠ dd
theorem lst16 (hr : lHr A s f cdv) (d : LawC P w K mg base c Pt) : Step (lawX P w K mg base f cdv A outer s H E) (lst' 16) (LP10 H0 scr turn Pt c) (LP16 H0 scr turn Pt c) := by
  refine ⟨_, ps_set (i := 14) scLaw.nd rfl (Or.inl rfl) (pe_callTy (call_dictP rfl) (by rfl) d.gD (by decide +kernel) (pa_cons (pe_op op_cat (pe_listItems rfl (pv 8) (by rfl) d.gS (by decide +kernel)) (pe_lst (pa_cons (pe_tup (pa_cons pe_str (pa_cons pe_dnewK pa_nil))) pa_nil))) pa_nil)), ?_⟩
  rintro D σ H1 ⟨a, Ha, Hb, Hs, p, vq, dd, de, hq, v0, h1, h2, th, tw, zs, st, dtb, etb, n, rfl, m, kp⟩ k
  have dl1 := dl_kp m.ab m.bs kp m.dl
  obtain ⟨rs, he, pr⟩ := dl1.he
  refine dct_more (K := K) (td := tVar 8) (tk := tC (.str "yy")) (tv := tDNewK) (key := .inr "yy") (Pv := fun H v => ∃ b, v = .ref b ∧ H b = some (.dK [])) he (fun R h => ⟨_, rfl, h⟩) (fun H R h => h) (fun H4 R sm h => fun b nb => h _ _ (fun c o e => up_new nb e) ⟨b, rfl, upd_same⟩) (fun _ _ _ s h => by
      obtain ⟨b, e, h⟩ := h
      exact ⟨b, e, s _ _ h⟩) (rows_knd pr dl1.eok.1.1) (rows_nin pr dl1.ey) (by rw [Paired.length pr]; have := dl1.el; omega) fun H2 mo v s2 nmo ev hmo => ?_
  obtain ⟨b, rfl, hb⟩ := ev
  obtain ⟨rd, hdd, _⟩ := dl1.hd
  refine k _ _ ⟨a, Ha, Hb, Hs, p, vq, dd, de, hq, v0, h1, h2, th, tw, mo, zs, st, dtb, etb, n, rfl, m, kp_same kp s2, ⟨_, hmo, paired_rows_snoc (rows_same s2 pr) hb⟩, fun z => ?_⟩
  rw [z, hdd] at nmo
  cases nmo
end
end K01
/-! ## P14 -/
set_option Elab.async false
set_option linter.all false
set_option maxRecDepth 100000
set_option maxHeartbeats 2000000
namespace K01
open PySem PySem.Spec PyProof.Rows L2 ErrK LamX LiI
theorem rev_ne {zs : List Str} (nd : zs.Nodup) (h : 1 < zs.length) : zs ≠ zs.reverse := fun e => by
  have e0 : zs[0]? = zs.reverse[0]? := by rw [← e]
  rw [List.getElem?_reverse (by omega), List.getElem?_eq_getElem (by omega), List.getElem?_eq_getElem (by omega)] at e0
  have := (List.getElem_inj nd).mp (Option.some.inj e0)
  omega
theorem vals_rev {zs : List Str} (h : ValsOk zs) : ValsOk zs.reverse := ⟨fun e => h.1 (List.reverse_eq_nil_iff.mp e), (List.reverse_perm zs).nodup_iff.mpr h.2.1, by rw [List.length_reverse]; exact h.2.2.1, fun z hz => h.2.2.2 z (List.mem_reverse.mp hz)⟩
theorem in_rev {zs : List Str} {l : List (Str × Str)} (h : LeadIn zs l) : LeadIn zs.reverse l := fun q hq => ⟨List.mem_reverse.mpr (h q hq).1, List.mem_reverse.mpr (h q hq).2⟩
theorem deeds_rev {zs : List Str} {tb : Rows} (h : DeedsOk zs tb) : DeedsOk zs.reverse tb := ⟨h.1, fun t ht => ⟨(h.2 t ht).1, in_rev (h.2 t ht).2.1, by rw [List.length_reverse]; exact (h.2 t ht).2.2⟩⟩
theorem ents_rev {zs : List Str} {dtb tb : Rows} (h : EntsOk zs dtb tb) : EntsOk zs.reverse dtb tb := ⟨h.1, fun t ht => ⟨(h.2 t ht).1, in_rev (h.2 t ht).2.1, (h.2 t ht).2.2⟩⟩
theorem ord_len (zs : List Str) (tb : Rows) : (ordR zs tb).length = tb.length := by
  unfold ordR
  rw [List.length_map, (srt_perm _).length_eq, List.length_map]
section
variable {P : Program} {w : World} {K : PySem.W.Frag} {mg : Str → Option Value} {base : Heap} {f Pt : Addr} {cdv : Value} {c : Cs} {A : Around} {outer : List Env} {s : Shared} {H : Hp} {E : XK} {H0 : Hp} {scr : Addr} {ns : List Int} {turn : Int}
theorem lst17 (hr : lHr A s f cdv) (d : LawC P w K mg base c Pt) (M : EqM P w K mg base c.T) : Step (lawX P w K mg base f cdv A outer s H E) (lst' 17) (LP16 H0 scr turn Pt c) (LP10 H0 scr turn Pt c) := by
  refine ⟨_, ps_if (PW.pt (pw_or (pt_cmpR (op_eqT (X := lawX P w K mg base f cdv A outer s H E) M hr (by decide)) (pv 10) (pe_thing (E := E0) d.mkT hr (by decide) passX0 (pa_cons (pv 3) (pa_cons (pv 4) (pa_cons (pv 7) (pa_cons (pv 14) pa_nil))))) (nomark _))
      (pw_or1 (PW.pt (pw_and (pt_cmpR op_gt (pe_callB call_len_seq (by rfl) d.gL PySem.boot_len (pa_cons (pv 3) pa_nil)) pe_int (nomark _))
        (pw_and1 (pt_cmpR (op_eqT (X := lawX P w K mg base f cdv A outer s H E) M hr (by decide)) (pv 10) (pe_thing (E := E0) d.mkT hr (by decide) passX0 (pa_cons (pe_revL (pv 3)) (pa_cons (pv 4) (pa_cons (pv 7) (pa_cons (pv 8) pa_nil))))) (nomark _))))))))
    (pss_one (ps_ret pe_bl)) pss_nil, ?_⟩
  rintro D σ H1 ⟨a, Ha, Hb, Hs, p, vq, dd, de, hq, v0, h1, h2, th, tw, mo, zs, st, dtb, etb, n, rfl, m, kp, hmo, nmo⟩ k
  have sa := same_kp m.ab m.bs kp
  have hv1 := sa _ _ m.vl.hv
  have dl1 := dl_kp m.ab m.bs kp m.dl
  have tk := th_ok m.vl.vo m.dl.dok.1 m.dl.eok.1
  have wst : wordT st = true := m.vl.vo.2.2.2 _ m.hst
  have eok' := entsMore m.dl.eok m.dl.el m.dl.ey m.dl.dy
  have ta := thing_kp kp m.th
  obtain ⟨dx, lv, ld, le, hth, _⟩ := id ta
  have fin : ∀ H2, Same H1 H2 → D.nx (LS scr turn (some (.ref p)) (some (.ref vq)) (some (.str st)) (a 5) (a 6) (some (.ref dd)) (some (.ref de)) (a 9) (some (.ref th)) (some (.ref tw)) (a 12) (a 13) (some (.ref mo)) (a 15)) H2 := fun H2 s2 =>
    k _ _ ⟨fun i => match i with | 14 => some (.ref mo) | i => a i, Ha, Hb, Hs, p, vq, dd, de, hq, v0, h1, h2, th, tw, zs, st, dtb, etb, n, rfl, m, kp_same kp s2⟩
  refine ⟨_, rfl, _, rfl, _, rfl, _, rfl, _, rfl, fun t1 d1 m1 m2 m3 => good_make m1 m2 m3 (.inl (SqL.of hv1)) m.vl.vo m.hst dl1.hd dl1.dok hmo eok' nmo fun H2 s2 tn => ?_⟩
  have tb := thingAt_new tn
  obtain ⟨dx2, lv2, ld2, le2, ht1, _⟩ := id tb
  refine ⟨th, dx, _, rfl, s2 _ _ hth, .inl ⟨t1, dx2, _, rfl, ht1⟩, th, zs, st, _, _, .ref t1, rfl, thingAt_same s2 ta, tk, .inr ⟨t1, zs, st, _, _, rfl, tb, th_ok m.vl.vo m.dl.dok.1 eok'.1, wst, wst, .inr ⟨rfl, .inr ⟨rfl, .inr ⟨rfl, .inl ⟨?_, false, rfl, false, rfl, iteF ?_⟩⟩⟩⟩⟩⟩
  · rw [ord_len, ord_len, List.length_append]
    show etb.length ≠ etb.length + 1
    omega
  have zl : (List.map V.str zs).length = zs.length := List.length_map _
  refine ⟨_, rfl, vq, _, rfl, .inl (SqL.of (s2 _ _ hv1)), _, _, rfl, rfl, _, rfl, ?_⟩
  rw [zl]
  refine ite2 (fun q => ?_) (fun q => iteF (fin _ s2))
  have gt : 1 < zs.length := by
    have := of_decide_eq_true q
    omega
  have st2 : Same H1 H2 := s2
  refine ⟨_, rfl, _, rfl, vq, _, rfl, SqL.of (s2 _ _ hv1), fun rv nrv => ?_⟩
  have s3 : Same H2 (upd H2 rv (.lst (zs.map V.str).reverse)) := fun b o e => up_new nrv e
  have s13 := s2.trans s3
  have er : (zs.map V.str).reverse = zs.reverse.map V.str := List.map_reverse.symm
  have sqr : SqL K (upd H2 rv (.lst (zs.map V.str).reverse)) rv (zs.reverse.map V.str) := SqL.of (by rw [upd_same, er])
  refine ⟨_, rfl, _, rfl, _, rfl, fun t2 d2 m4 m5 m6 => good_make m4 m5 m6 (.inl sqr) (vals_rev m.vl.vo) (List.mem_reverse.mpr m.hst) (tb_same s13 dl1.hd) (deeds_rev dl1.dok) (tb_same s13 dl1.he) (ents_rev dl1.eok) dl1.ne fun H4 s4 tn2 => ?_⟩
  have tb2 := thingAt_new tn2
  obtain ⟨dx3, lv3, ld3, le3, ht2, _⟩ := id tb2
  have s14 := s13.trans s4
  exact ⟨th, dx, _, rfl, s14 _ _ hth, .inl ⟨t2, dx3, _, rfl, ht2⟩, th, zs, st, _, _, .ref t2, rfl, thingAt_same s14 ta, tk, .inr ⟨t2, zs.reverse, st, _, _, rfl, tb2, th_ok (vals_rev m.vl.vo) m.dl.dok.1 m.dl.eok.1, wst, wst, .inl ⟨rev_ne m.vl.vo.2.1 gt, false, rfl, false, rfl, iteF (fin _ s14)⟩⟩⟩
end
end K01
/-! ## P15 -/
set_option Elab.async false
set_option linter.all false
set_option maxRecDepth 100000
set_option maxHeartbeats 2000000
namespace K01
open PySem PySem.Spec PyProof.Rows L2 ErrK LamX LiI
theorem whole_in {zs : List Str} {st : Str} (hs : st ∈ zs) : LeadIn zs (wholeL zs st) := fun q hq => by
  obtain ⟨z, hz, rfl⟩ := List.mem_map.mp hq
  exact ⟨hz, hs⟩
theorem deedsMore {zs : List Str} {st : Str} {dtb : Rows} (vo : ValsOk zs) (hs : st ∈ zs) (ok : DeedsOk zs dtb) (len : dtb.length ≤ 2) (dy : ∀ t ∈ dtb, t.1 ≠ ("yy" : Str)) : DeedsOk zs (dtb ++ [(("yy" : Str), wholeL zs st)]) := by
  have wl : (wholeL zs st).length = zs.length := by
    unfold wholeL
    rw [List.length_map]
  refine ⟨rowsOk_more ok.1 dy len ⟨by rw [wholeL_keys]; exact vo.2.1, by rw [wl]; exact vo.2.2.1⟩, fun t ht => ?_⟩
  rcases List.mem_append.mp ht with ht | ht
  · exact ok.2 t ht
  · rw [List.mem_singleton.mp ht]
    exact ⟨yy_word, whole_in hs, wl⟩
theorem ents_off {zs : List Str} {dtb etb : Rows} {l : List (Str × Str)} (ok : EntsOk zs dtb etb) (ey : ∀ t ∈ etb, t.1 ≠ ("yy" : Str)) : EntsOk zs (dtb ++ [(("yy" : Str), l)]) etb := ⟨ok.1, fun t ht => ⟨(ok.2 t ht).1, (ok.2 t ht).2.1, fun m => by
  rw [List.map_append] at m
  rcases List.mem_append.mp m with m | m
  · exact (ok.2 t ht).2.2 m
  · exact ey t ht (List.mem_singleton.mp m)⟩⟩
section
variable {P : Program} {w : World} {K : PySem.W.Frag} {mg : Str → Option Value} {base : Heap} {f Pt : Addr} {cdv : Value} {c : Cs} {A : Around} {outer : List Env} {s : Shared} {H : Hp} {E : XK} {H0 : Hp} {scr : Addr} {ns : List Int} {turn : Int}
def LP18 (H0 : Hp) (scr : Addr) (t : Int) (Pt : Addr) (c : Cs) : L2.St → Hp → Prop := fun σ H1 => ∃ (a : Nat → Option V) (Ha Hb Hs : Hp) (p vq dd de hq v0 h1 h2 th tw wd : Addr) (zs : List Str) (st : Str) (dtb etb : Rows) (n : Nat), σ = LS scr t (some (.ref p)) (some (.ref vq)) (some (.str st)) (a 5) (a 6) (some (.ref dd)) (some (.ref de)) (a 9) (some (.ref th)) (some (.ref tw)) (a 12) (a 13) (a 14) (some (.ref wd)) ∧
  Mk2 H0 Ha Hb Hs c Pt p vq dd de hq v0 h1 h2 th tw zs st dtb etb n ∧ Kp Ha Hb Hs H1 ∧ H1 wd = some (.dK (tx (wholeL zs st)))
theorem lst18 (hr : lHr A s f cdv) (d : LawC P w K mg base c Pt) : Step (lawX P w K mg base f cdv A outer s H E) (lst' 18) (LP10 H0 scr turn Pt c) (LP18 H0 scr turn Pt c) := by
  refine ⟨_, ps_set (i := 15) scLaw.nd rfl (Or.inl rfl) (pe_callTy (call_dictP rfl) (by rfl) d.gD (by decide +kernel) (pa_cons (pe_lc (own := [("value", 17)]) (g := gName 17) (tt := tYes) rfl scLaw.nd (pi_list (pv 3)) (blkOk_by (N := nLaw) (sc := defScope sLaw) (by decide +kernel))
        (fun _ _ _ _ _ => pg_name (i := 17) scLaw.nd rfl (Or.inl rfl)) (fun _ _ _ _ _ => pts_nil) (fun _ _ _ _ _ => pe_tup (pa_cons (pv 17) (pa_cons (pv 4) pa_nil)))) pa_nil)), ?_⟩
  rintro D σ H1 ⟨a, Ha, Hb, Hs, p, vq, dd, de, hq, v0, h1, h2, th, tw, zs, st, dtb, etb, n, rfl, m, kp⟩ k
  have hv1 := same_kp m.ab m.bs kp _ _ m.vl.hv
  obtain ⟨zne, znd, zl, hw⟩ := id m.vl.vo
  have z4 := m.vl.z4
  have zlen : (zs.map V.str).length = zs.length := List.length_map _
  have sq1 : SqL K H1 vq (zs.map V.str) := SqL.of hv1
  refine ⟨_, rfl, vq, rfl, ⟨_, sq1⟩, fun D2 nD2 => ?_⟩
  refine lc_it walk_list (fun j H4 => PsAt H1 H4 D2 (wholeL (zs.take j) st)) ⟨fun b o e => up_new nD2 e, [], upd_same, .nil⟩ (fun j H4 _ q => q.1.seq sq1) ?_ ?_
  · rintro j x H4 H5 hj q ⟨rfl, ez⟩
    rw [zlen] at hj
    have ez0 : zs[j]? = some zs[j] := List.getElem?_eq_getElem hj
    rw [List.getElem?_map, ez0] at ez
    obtain rfl : V.str zs[j] = x := Option.some.inj ez
    refine ⟨rfl, ?_⟩
    unfold tYes
    dsimp only
    rw [if_pos rfl]
    refine ⟨_, rfl, _, rfl, by show 2 ≤ sizeLine; decide, fun t nt => ?_⟩
    rw [List.take_succ, ez0, wholeL_app]
    exact ps_more nD2 q (by rw [wholeL, List.length_map, List.length_take]; omega) nt
  · rintro H4 ⟨sm, ps, hD2, pr⟩
    rw [zlen, List.take_of_length_le (Nat.le_refl _)] at pr
    refine ⟨D2, ps, tx (wholeL zs st), rfl, SqL.of hD2, Paired.mapP pr fun t q e => sqT_of e, fun wd nwd => ?_⟩
    have mk : mergeK [] (tx (wholeL zs st)) = tx (wholeL zs st) := putK_all _ [] (by rw [List.nil_append]; exact tx_nd (by rw [wholeL_keys]; exact znd))
    rw [mk]
    exact k _ _ ⟨a, Ha, Hb, Hs, p, vq, dd, de, hq, v0, h1, h2, th, tw, wd, zs, st, dtb, etb, n, rfl, m, kp_same kp fun b o e => up_new nwd (sm _ _ e), upd_same⟩
theorem lst19 (hr : lHr A s f cdv) (d : LawC P w K mg base c Pt) (M : EqM P w K mg base c.T) : Step (lawX P w K mg base f cdv A outer s H E) (lst' 19) (LP18 H0 scr turn Pt c) (LP10 H0 scr turn Pt c) := by
  refine ⟨_, ps_if (pt_cmpR (op_eqT (X := lawX P w K mg base f cdv A outer s H E) M hr (by decide)) (pv 10) (pe_thing (E := E0) d.mkT hr (by decide) passX0 (pa_cons (pv 3) (pa_cons (pv 4) (pa_cons
        (pe_callTy (call_dictP rfl) (by rfl) d.gD (by decide +kernel) (pa_cons (pe_op op_cat (pe_listItems rfl (pv 7) (by rfl) d.gS (by decide +kernel)) (pe_lst (pa_cons (pe_tup (pa_cons pe_str (pa_cons (pv 15) pa_nil))) pa_nil))) pa_nil)) (pa_cons (pv 8) pa_nil))))) (nomark _))
    (pss_one (ps_ret pe_bl)) pss_nil, ?_⟩
  rintro D σ H1 ⟨a, Ha, Hb, Hs, p, vq, dd, de, hq, v0, h1, h2, th, tw, wd, zs, st, dtb, etb, n, rfl, m, kp, hwd⟩ k
  have sa := same_kp m.ab m.bs kp
  have hv1 := sa _ _ m.vl.hv
  have dl1 := dl_kp m.ab m.bs kp m.dl
  have tk := th_ok m.vl.vo m.dl.dok.1 m.dl.eok.1
  have wst : wordT st = true := m.vl.vo.2.2.2 _ m.hst
  have dok' := deedsMore m.vl.vo m.hst m.dl.dok m.dl.dl m.dl.dy
  have eok' := ents_off (l := wholeL zs st) m.dl.eok m.dl.ey
  have ta := thing_kp kp m.th
  obtain ⟨dx, lv, ld, le, hth, _⟩ := id ta
  obtain ⟨rs, hd, pr⟩ := dl1.hd
  refine ⟨_, rfl, _, rfl, _, rfl, ?_⟩
  refine dct_more (K := K) (td := tVar 7) (tk := tC (.str "yy")) (tv := tVar 15) (key := .inr "yy") (Pv := fun _ v => v = .ref wd) hd (fun R h => ⟨_, rfl, h⟩) (fun H R h => h) (fun H4 R sm h => ⟨_, rfl, h _ _ (Same.refl _) rfl⟩) (fun _ _ _ _ h => h) (rows_knd pr dl1.dok.1.1) (rows_nin pr dl1.dy) (by rw [Paired.length pr]; have := dl1.dl; omega) fun H2 mo v s2 nmo ev hmo => ?_
  subst ev
  have nme : de ≠ mo := fun z => by
    obtain ⟨re, hee, _⟩ := dl1.he
    rw [z, nmo] at hee
    cases hee
  refine ⟨_, rfl, fun t1 d1 m1 m2 m3 => good_make m1 m2 m3 (.inl (SqL.of (s2 _ _ hv1))) m.vl.vo m.hst ⟨_, hmo, paired_rows_snoc (rows_same s2 pr) (s2 _ _ hwd)⟩ dok' (tb_same s2 dl1.he) eok' nme fun H3 s3 tn => ?_⟩
  have tb := thingAt_new tn
  obtain ⟨dx2, lv2, ld2, le2, ht1, _⟩ := id tb
  have s13 := s2.trans s3
  refine ⟨th, dx, _, rfl, s13 _ _ hth, .inl ⟨t1, dx2, _, rfl, ht1⟩, th, zs, st, _, _, .ref t1, rfl, thingAt_same s13 ta, tk, .inr ⟨t1, zs, st, _, _, rfl, tb, th_ok m.vl.vo dok'.1 m.dl.eok.1, wst, wst, .inr ⟨rfl, .inr ⟨rfl, .inl ⟨?_, false, rfl, false, rfl, iteF ?_⟩⟩⟩⟩⟩
  · rw [ord_len, ord_len, List.length_append]
    show dtb.length ≠ dtb.length + 1
    omega
  exact k _ _ ⟨fun i => match i with | 15 => some (.ref wd) | i => a i, Ha, Hb, Hs, p, vq, dd, de, hq, v0, h1, h2, th, tw, zs, st, dtb, etb, n, rfl, m, kp_same kp s13⟩
end
end K01
/-! ## P16 -/
set_option Elab.async false
set_option linter.all false
set_option maxRecDepth 100000
set_option maxHeartbeats 2000000
namespace K01
open PySem PySem.Spec PyProof.Rows L2 ErrK LamX LiI
section
variable {P : Program} {w : World} {K : PySem.W.Frag} {mg : Str → Option Value} {base : Heap} {f Pt : Addr} {cdv : Value} {c : Cs} {A : Around} {outer : List Env} {s : Shared} {H : Hp} {E : XK} {H0 : Hp} {scr : Addr} {ns : List Int} {turn : Int}
theorem but1_mem {zs : List Str} {st : Str} (nd : zs.Nodup) (h : 1 < zs.length) : but1 zs st ≠ [] := fun e => by
  have all : ∀ z ∈ zs, z = st := fun z hz => by
    by_cases q : z = st
    · exact q
    · have : z ∈ but1 zs st := List.mem_filter.mpr ⟨hz, by simp [q]⟩
      rw [e] at this
      cases this
  have h0 : zs[0] = zs[1] := (all _ (List.getElem_mem _)).trans (all _ (List.getElem_mem _)).symm
  have := (List.getElem_inj nd).mp h0
  cases this
theorem lst20 (hr : lHr A s f cdv) (d : LawC P w K mg base c Pt) (M : EqM P w K mg base c.T) : Step (lawX P w K mg base f cdv A outer s H E) (lst' 20) (LP10 H0 scr turn Pt c) (LP10 H0 scr turn Pt c) := by
  refine ⟨_, ps_if (PW.pt (pw_and (pt_cmpR op_gt (pe_callB call_len_seq (by rfl) d.gL PySem.boot_len (pa_cons (pv 3) pa_nil)) pe_int (nomark _))
        (pw_and1 (pt_cmpR (op_eqT (X := lawX P w K mg base f cdv A outer s H E) M hr (by decide)) (pv 10) (pe_thing (E := E0) d.mkT hr (by decide) passX0 (pa_cons (pv 3) (pa_cons
          (pe_ix ix_list (pe_lc (own := [("value", 17)]) (g := gName 17) rfl scLaw.nd (pi_list (pv 3)) (blkOk_by (N := nLaw) (sc := defScope sLaw) (by decide +kernel))
            (fun _ _ _ _ _ => pg_name (i := 17) scLaw.nd rfl (Or.inl rfl)) (fun _ _ _ _ _ => pts_one (pt_cmpR op_ne (pv 17) (pv 4) (nomark _))) (fun _ _ _ _ _ => pv 17)) pe_int (fun _ _ => rfl))
          (pa_cons (pv 7) (pa_cons (pv 8) pa_nil))))) (nomark _)))))
    (pss_one (ps_ret pe_bl)) pss_nil, ?_⟩
  rintro D σ H1 ⟨a, Ha, Hb, Hs, p, vq, dd, de, hq, v0, h1, h2, th, tw, zs, st, dtb, etb, n, rfl, m, kp⟩ k
  have sa := same_kp m.ab m.bs kp
  have hv1 := sa _ _ m.vl.hv
  have dl1 := dl_kp m.ab m.bs kp m.dl
  have tk := th_ok m.vl.vo m.dl.dok.1 m.dl.eok.1
  have wst : wordT st = true := m.vl.vo.2.2.2 _ m.hst
  have ta := thing_kp kp m.th
  obtain ⟨dx, lv, ld, le, hth, _⟩ := id ta
  have zlen : (zs.map V.str).length = zs.length := List.length_map _
  have z4 := m.vl.z4
  have sq1 : SqL K H1 vq (zs.map V.str) := SqL.of hv1
  have fin : ∀ H2, Same H1 H2 → D.nx (LS scr turn (some (.ref p)) (some (.ref vq)) (some (.str st)) (a 5) (a 6) (some (.ref dd)) (some (.ref de)) (a 9) (some (.ref th)) (some (.ref tw)) (a 12) (a 13) (a 14) (a 15)) H2 := fun H2 s2 =>
    k _ _ ⟨a, Ha, Hb, Hs, p, vq, dd, de, hq, v0, h1, h2, th, tw, zs, st, dtb, etb, n, rfl, m, kp_same kp s2⟩
  refine ⟨_, rfl, vq, _, rfl, .inl sq1, _, _, rfl, rfl, _, rfl, ?_⟩
  rw [zlen]
  refine ite2 (fun q => ?_) (fun q => iteF (fin _ (Same.refl H1)))
  have gt : 1 < zs.length := by
    have := of_decide_eq_true q
    omega
  refine ⟨_, rfl, _, rfl, _, rfl, vq, rfl, ⟨_, sq1⟩, fun D2 nD2 => ?_⟩
  refine lc_it walk_list (fun j H4 => Same H1 H4 ∧ H4 D2 = some (.lst ((but1 (zs.take j) st).map V.str))) ⟨fun b o e => up_new nD2 e, upd_same⟩ (fun j H4 _ q => q.1.seq sq1) ?_ ?_
  · rintro j x H4 H5 hj ⟨sm, hD⟩ ⟨rfl, ez⟩
    rw [zlen] at hj
    have ez0 : zs[j]? = some zs[j] := List.getElem?_eq_getElem hj
    rw [List.getElem?_map, ez0] at ez
    obtain rfl : V.str zs[j] = x := Option.some.inj ez
    have eb : but1 (zs.take (j + 1)) st = but1 (zs.take j) st ++ (if (!decide (V.str zs[j] = V.str st)) = true then [zs[j]] else []) := by
      unfold but1
      rw [List.take_succ, ez0, List.filter_append]
      congr 1
      show List.filter _ [zs[j]] = _
      rw [List.filter_cons, List.filter_nil]
    refine ⟨rfl, _, rfl, _, rfl, rfl, _, rfl, ?_⟩
    rw [eb]
    refine ite2 (fun q1 => ?_) (fun q1 => ?_)
    · rw [if_pos q1]
      refine ⟨_, rfl, _, hD, ?_, fun b o e => ?_, ?_⟩
      · rw [List.length_map]
        have : (but1 (zs.take j) st).length ≤ zs.length := by
          unfold but1
          refine Nat.le_trans (List.length_filter_le _ _) ?_
          rw [List.length_take]
          omega
        exact Nat.lt_of_le_of_lt (show _ ≤ 4 by omega) (by decide)
      · rw [upd_ne (ne_of_none e nD2)]
        exact sm _ _ e
      · rw [upd_same, List.map_append]
        rfl
    · rw [if_neg q1, List.append_nil]
      exact ⟨sm, hD⟩
  · rintro H4 ⟨sm, hD⟩
    rw [zlen, List.take_of_length_le (Nat.le_refl _)] at hD
    have ne := but1_mem (st := st) m.vl.vo.2.1 gt
    obtain ⟨z, r, ezr⟩ : ∃ z r, but1 zs st = z :: r := by
      cases e : but1 zs st with
      | nil => exact absurd e ne
      | cons z r => exact ⟨z, r, rfl⟩
    have hz : z ∈ but1 zs st := by rw [ezr]; exact List.mem_cons_self
    have zin : z ∈ zs := (List.mem_filter.mp hz).1
    have zst : st ≠ z := fun e => but1_no (by rw [← e] at hz; exact hz)
    rw [ezr] at hD
    refine ⟨D2, _, _, .str z, rfl, rfl, SqL.of hD, atI_nat (j := 0) rfl, _, rfl, _, rfl, fun t2 d2 m4 m5 m6 => good_make m4 m5 m6 (.inl (sm.seq sq1)) m.vl.vo zin (tb_same sm dl1.hd) dl1.dok (tb_same sm dl1.he) dl1.eok dl1.ne fun H6 s6 tn2 => ?_⟩
    have tb2 := thingAt_new tn2
    obtain ⟨dx3, lv3, ld3, le3, ht2, _⟩ := id tb2
    have s16 := sm.trans s6
    exact ⟨th, dx, _, rfl, s16 _ _ hth, .inl ⟨t2, dx3, _, rfl, ht2⟩, th, zs, st, _, _, .ref t2, rfl, thingAt_same s16 ta, tk, .inr ⟨t2, zs, z, _, _, rfl, tb2, tk, wst, m.vl.vo.2.2.2 _ zin, .inr ⟨rfl, .inl ⟨zst, false, rfl, false, rfl, iteF (fin _ s16)⟩⟩⟩⟩
/-- a turn's end -/
def LPend (H0 : Hp) (scr : Addr) (t : Int) (Pt : Addr) : L2.St → Hp → Prop := fun σ H1 => ∃ a : Nat → Option V, σ = LS scr t (a 2) (a 3) (a 4) (a 5) (a 6) (a 7) (a 8) (a 9) (a 10) (a 11) (a 12) (a 13) (a 14) (a 15) ∧ Old H0 H1 ∧ Tabs (dT Pt) H1
theorem lst21 (hr : lHr A s f cdv) (d : LawC P w K mg base c Pt) : Step (lawX P w K mg base f cdv A outer s H E) (lst' 21) (LP10 H0 scr turn Pt c) (LPend H0 scr turn Pt) := by
  refine ⟨_, ps_if (pt_not (pt_val (pe_cl d.doors hr (by decide) pass0 (pa_cons (pv 2) (pa_cons (pv 3) (pa_cons (pv 4) (pa_cons (pv 7) (pa_cons (pv 8) pa_nil)))))))) (pss_one (ps_ret pe_bl)) pss_nil, ?_⟩
  rintro D σ H1 ⟨a, Ha, Hb, Hs, p, vq, dd, de, hq, v0, h1, h2, th, tw, zs, st, dtb, etb, n, rfl, m, kp⟩ k
  have sa := same_kp m.ab m.bs kp
  have dl1 := dl_kp m.ab m.bs kp m.dl
  obtain ⟨sp⟩ := m.pl.sp
  have sp1 := sp.to (H' := H1) (by
    obtain ⟨xs, e⟩ := spring_some sp
    rw [e]
    exact sa _ _ e)
  refine ⟨_, rfl, _, rfl, _, rfl, _, rfl, _, rfl, p, vq, dd, de, zs, st, dtb, etb, n, rfl, ⟨⟨sp1⟩, Nat.le_trans m.hn (by decide), sa _ _ m.vl.hv, m.vl.vo, m.vl.z4, m.hst, dl1.hd, dl1.dok, dl1.he, dl1.eok, dl1.dl, dl1.el, dl1.dy, dl1.ey, m.vl.zz⟩, m.vl.vp, m.pl.tb.ext sa, fun H2 mm hmm at2 => ⟨true, rfl, iteF ?_⟩⟩
  refine k _ _ ⟨fun i => match i with | 2 => some (.ref p) | 3 => some (.ref vq) | 4 => some (.str st) | 7 => some (.ref dd) | 8 => some (.ref de) | 10 => some (.ref th) | 11 => some (.ref tw) | i => a i, rfl, fun b o e nt => ?_, at2.tb⟩
  exact at2.xn b o (ne_of_none e m.pl.np) nt (sa _ _ (m.pl.old b o e nt))
end
end K01
/-! ## P17 -/
set_option Elab.async false
set_option linter.all false
set_option maxRecDepth 100000
set_option maxHeartbeats 2000000
namespace K01
open PySem PySem.Spec PyProof.Rows L2 ErrK LamX LiI
/-- whichever reading stands for these statements -/
def tAny (X : Cx) (ss : List Stmt) : TS := fun D σ H => ∃ t, PSs X ss t ∧ t D σ H
theorem pss_any {X : Cx} {ss : List Stmt} : PSs X ss (tAny X ss) := ⟨fun pins s σ H D I ⟨t, p, h⟩ => p.run pins s σ H D I h⟩
def Seq (X : Cx) (ss : List Stmt) (Pre Post : L2.St → Hp → Prop) : Prop := ∃ t, PSs X ss t ∧ ∀ (D : Ends) σ H, Pre σ H → (∀ σ' H', Post σ' H' → D.nx σ' H') → t D σ H
theorem seq_one {X : Cx} {st : Stmt} {Pre Post : L2.St → Hp → Prop} (S : Step X st Pre Post) : Seq X [st] Pre Post := by
  obtain ⟨t, p, k⟩ := S
  exact ⟨_, pss_one p, k⟩
theorem seq_cons {X : Cx} {st : Stmt} {ss : List Stmt} {Pre Mid Post : L2.St → Hp → Prop} (S : Step X st Pre Mid) (B : Seq X ss Mid Post) : Seq X (st :: ss) Pre Post := by
  obtain ⟨t, p, k⟩ := S
  obtain ⟨t2, p2, k2⟩ := B
  exact ⟨_, pss_cons p p2, fun D σ H h kk => k _ σ H h fun σ' H' q => k2 _ σ' H' q kk⟩
theorem law_loop : lawLoop = [lst' 0, lst' 1, lst' 2, lst' 3, lst' 4, lst' 5, lst' 6, lst' 7, lst' 8, lst' 9, lst' 10, lst' 11, lst' 12, lst' 13, lst' 14, lst' 15, lst' 16, lst' 17, lst' 18, lst' 19, lst' 20, lst' 21] := by
  kernel_rfl
section
variable {P : Program} {w : World} {K : PySem.W.Frag} {mg : Str → Option Value} {base : Heap} {f Pt : Addr} {cdv : Value} {c : Cs} {A : Around} {outer : List Env} {s : Shared} {H : Hp} {E : XK} {H0 : Hp} {scr : Addr} {ns : List Int} {turn : Int}
theorem turn_ok (hr : lHr A s f cdv) (d : LawC P w K mg base c Pt) (T : ThMs P w K mg base c.T) (M : EqM P w K mg base c.T) (hscr : SqL K H0 scr (ns.map V.int)) (hns : ns.length ≤ 1000) (ht : 0 ≤ turn ∧ turn ≤ 2) : Seq (lawX P w K mg base f cdv A outer s H E) lawLoop (LP0 H0 scr turn Pt) (LPend H0 scr turn Pt) := by
  rw [law_loop]
  exact seq_cons (lst0 hr d hscr hns ht) (seq_cons (lst1 hr d) (seq_cons (lst2 hr d) (seq_cons (lst3 hr d) (seq_cons (lst4 hr d) (seq_cons (lst5 hr d) (seq_cons (lst6 hr d) (seq_cons (lst7 hr d) (seq_cons (lst8 hr d) (seq_cons (lst9 hr d)
    (seq_cons (lst10 hr T) (seq_cons (lst11 hr T) (seq_cons (lst12 hr d T) (seq_cons (lst13 hr d T) (seq_cons (lst14 hr d M) (seq_cons (lst15 hr d T) (seq_cons (lst16 hr d) (seq_cons (lst17 hr d M) (seq_cons (lst18 hr d) (seq_cons (lst19 hr d M) (seq_cons (lst20 hr d M) (seq_one (lst21 hr d))))))))))))))))))))))
end
end K01
/-! ## P18 -/
set_option Elab.async false
set_option linter.all false
set_option maxRecDepth 100000
set_option maxHeartbeats 2000000
namespace K01
open PySem PySem.Spec PyProof.Rows L2 ErrK LamX LiI
def kwN : List Str := ["entries", "deeds", "start", "values"]
def kwV {α : Type} (us ws : List α) : List α := match us, ws with
  | [t], [e, d, s, v] => [t, v, s, d, e]
  | _, _ => []
/-- the thing's class called by names -/
structure MkK (P : Program) (w : World) (K : PySem.W.Frag) (mg : Str → Option Value) (base : Heap) (c : Cs) : Prop where
  ex : ∃ (f : Addr) (fd : FuncData) (ps : List Str), Mk K c.T f ∧ FnOk P w K mg base (L2.CX P w) 4 f fd ps (spInit w K c) ∧ KBn K fd ps 1 kwN kwV kwV
  gT : mg "Thing" = some (.ref c.T)
theorem pe_mk4 {X : Cx} {c : Cs} {j : Nat} {E : XK} {kws : List Keyword} {tk : TA} {p pos : Pos} (M : MkK X.prog X.w X.K X.mg X.base c) (hr : Room j X.A) (hj : 5 ≤ j) (hx : Passes (L2.CX X.prog X.w) X E) (hkw : PK X kws tk) (hg : Gl X "Thing" := by rfl)
    (hall : (backToKw pos (keywordEach kws X.env)).all (·.1.isSome) = true := by rfl) (hks : (backToKw pos (keywordEach kws X.env)).filterMap (·.1) = kwN := by rfl)
    (hpl : ((backTo pos (starEach [] X.env)).any (·.1) || (backToKw pos (keywordEach kws X.env)).any (·.1.isNone)) = false := by rfl) : PE X (.Call (.Name "Thing" p) [] kws pos) (tMakeK c.T 0 4 (spInit X.w X.K c) kwV E tNil tk) := by
  obtain ⟨f, fd, ps, hM, F, hb⟩ := M.ex
  exact pe_makeK0 (p := p) (pos := pos) hM F (hr.mono hj) hg M.gT hb hx hkw hall hks (by decide) hpl
def spLaw (K : PySem.W.Frag) (Pt : Addr) : Sp := fun vs H Q _ => ∃ (scr : Addr) (ns : List Int), vs = [.ref scr] ∧ SqL K H scr (ns.map V.int) ∧ ns.length ≤ 1000 ∧ Tabs (dT Pt) H ∧ ∀ H', Q (.bl true) H'
theorem a_ok : ValsOk ["a"] := ⟨by simp, by simp, by simp, fun z hz => by
  rw [List.mem_singleton.mp hz]
  decide +kernel⟩
section
variable {P : Program} {w : World} {K : PySem.W.Frag} {mg : Str → Option Value} {base : Heap} {f Pt : Addr} {fd : FuncData} {c : Cs}
theorem ok_law (F : Fun K "law" "law" sLaw f fd) (d : LawC P w K mg base c Pt) (T : ThMs P w K mg base c.T) (M : EqM P w K mg base c.T) (kw : MkK P w K mg base c) : FnOk P w K mg base CX0 9 f fd ["script"] (spLaw K Pt) := by
  refine F.ok scLaw (fun vs H Q E h => ?_) (fun cdv A outer s H vs Q E hr h => ?_)
  · obtain ⟨scr, ns, rfl, _⟩ := h
    rfl
  · obtain ⟨scr, ns, rfl, hscr, hns, tb, k⟩ := h
    refine ⟨_, pss_cons (ps_for PassesOwn.never rfl (pi_range1 rfl d.gR (pa_cons pe_int pa_nil)) (pg_name (i := 1) scLaw.nd rfl (Or.inl rfl)) (show PSs (lawX P w K mg base f cdv A outer s H E) lawLoop (tAny (lawX P w K mg base f cdv A outer s H E) lawLoop) from pss_any))
      (pss_one (ps_ret (pe_cmpR (op_eqT (X := lawX P w K mg base f cdv A outer s H E) M hr (by decide)) (pe_mk4 (E := E0) kw hr (by decide) passX0 (pk_cons pe_dnewK (pk_cons pe_dnewK (pk_cons pe_str (pk_cons (pe_lst (pa_cons pe_str pa_nil)) pk_nil)))))
        (pe_thing (E := E0) d.mkT hr (by decide) passX0 (pa_cons (pe_lst (pa_cons pe_str pa_nil)) (pa_cons pe_str (pa_cons pe_dnewK (pa_cons pe_dnewK pa_nil))))) (nomark _)))), ?_⟩
    refine ⟨3, rfl, by decide, by decide, ?_⟩
    refine for_range (lo := 0) (n := 3) (fun i σ H1 => ∃ (o1 : Option V) (a : Nat → Option V), σ = [some (.ref scr), o1, a 2, a 3, a 4, a 5, a 6, a 7, a 8, a 9, a 10, a 11, a 12, a 13, a 14, a 15, none, none] ∧ Old H H1 ∧ Tabs (dT Pt) H1) ?_ ?_ ?_
    · exact ⟨none, fun _ => none, rfl, fun b o e _ => e, tb⟩
    · rintro i σ H1 hi ⟨o1, a, rfl, old, tb1⟩
      have hscr1 : SqL K H1 scr (ns.map V.int) := by
        rcases hscr with (h | ⟨o, h⟩) | h
        · exact .inl (.inl (old _ _ h fun _ z => by cases z))
        · exact .inl (.inr ⟨o, old _ _ h fun _ z => by cases z⟩)
        · exact .inr h
      obtain ⟨t, p, kt⟩ := turn_ok (P := P) (w := w) (mg := mg) (base := base) (f := f) (Pt := Pt) (cdv := cdv) (c := c) (outer := outer) (H := H) (E := E) (turn := 0 + i) hr d T M hscr1 hns ⟨by omega, by omega⟩
      exact ⟨t, p, kt _ _ _ ⟨a, rfl, rfl, tb1⟩ fun σ' H' ⟨a', e, old', tb'⟩ => ⟨some (.int (0 + i)), a', e, fun b o e nt => old' b o (old b o e nt) nt, tb'⟩⟩
    · rintro σ H1 ⟨o1, a, rfl, _, _⟩
      have wa : wordT "a" = true := by decide +kernel
      have rok : RowsOk [] := ⟨List.nodup_nil, by decide, fun t h => by cases h⟩
      have dok : DeedsOk ["a"] [] := ⟨rok, fun t h => by cases h⟩
      have eok : EntsOk ["a"] [] [] := ⟨rok, fun t h => by cases h⟩
      have mem : ("a" : Str) ∈ (["a"] : List Str) := List.mem_cons_self
      have tkk := th_ok a_ok rok rok
      refine fun e1 ne1 d1 nd1 => ⟨by show 1 ≤ sizeLine; decide, fun l1 nl1 => ⟨rfl, rfl, fun x dx m1 m2 m3 => ?_⟩⟩
      have he1 : upd (upd (upd H1 e1 (.dK [])) d1 (.dK [])) l1 (.lst [.str "a"]) e1 = some (.dK []) := up_new nl1 (up_new nd1 upd_same)
      have hd1 : upd (upd (upd H1 e1 (.dK [])) d1 (.dK [])) l1 (.lst [.str "a"]) d1 = some (.dK []) := up_new nl1 upd_same
      have ned : e1 ≠ d1 := fun z => by
        rw [← z, upd_same] at nd1
        cases nd1
      refine good_make (zs := ["a"]) (dtb := []) (etb := []) m1 m2 m3 (.inl (SqL.of upd_same)) a_ok mem ⟨[], hd1, .nil⟩ dok ⟨[], he1, .nil⟩ eok ned fun H2 s2 tn => ?_
      refine ⟨by show 1 ≤ sizeLine; decide, fun l2 nl2 => fun d2 nd2 e2 ne2 => fun y dy m4 m5 m6 => ?_⟩
      have hl2 : upd (upd (upd H2 l2 (.lst [.str "a"])) d2 (.dK [])) e2 (.dK []) l2 = some (.lst [.str "a"]) := up_new ne2 (up_new nd2 upd_same)
      have hd2 : upd (upd (upd H2 l2 (.lst [.str "a"])) d2 (.dK [])) e2 (.dK []) d2 = some (.dK []) := up_new ne2 upd_same
      have ned2 : e2 ≠ d2 := fun z => by
        rw [z, upd_same] at ne2
        cases ne2
      refine good_make (zs := ["a"]) (dtb := []) (etb := []) m4 m5 m6 (.inl (SqL.of hl2)) a_ok mem ⟨[], hd2, .nil⟩ dok ⟨[], upd_same, .nil⟩ eok ned2 fun H4 s4 tn2 => ?_
      have s24 : Same H2 H4 := fun b o e => s4 _ _ (up_new ne2 (up_new nd2 (up_new nl2 e)))
      have ta := thingAt_same s24 (thingAt_new tn)
      have tb2 := thingAt_new tn2
      obtain ⟨dx1, lv, ld, le, hx, _⟩ := id ta
      obtain ⟨dx2, lv2, ld2, le2, hy, _⟩ := id tb2
      exact ⟨x, dx1, _, rfl, hx, .inl ⟨y, dx2, _, rfl, hy⟩, x, ["a"], "a", _, _, .ref y, rfl, ta, tkk, .inr ⟨y, ["a"], "a", _, _, rfl, tb2, tkk, wa, wa, .inr ⟨rfl, .inr ⟨rfl, .inr ⟨rfl, .inr ⟨rfl, true, rfl, k _⟩⟩⟩⟩⟩⟩
end
end K01
/-! ## H1 -/
set_option Elab.async false
set_option linter.all false
set_option maxRecDepth 100000
set_option maxHeartbeats 2000000
/-! What the looks say: defs, the error classes, the class of things. -/
namespace K01
open PySem PySem.Spec PyProof.Rows L2 ErrK LamX LiI
theorem looks_eq {g : G} : looks g = (exB g (KK g), He.obsD hfa hfn (KK g)) := forceF_eq _ _
/-- what the looks have told of the heap -/
structure Told (g : G) : Prop where
  ex : exB g (KK g) = true
  sd : He.SaysD hfa hfn (KK g)
theorem told_of {g : G} (h : looks g = vals) : Told g := by
  rw [looks_eq] at h
  unfold vals at h
  exact ⟨congrArg Prod.fst h, congrArg Prod.snd h⟩
section
variable {K : PySem.W.Frag} {x q : Str} {st : Stmt} {f C : Addr} {fd : FuncData}
theorem fun_of (F : FunD K x q (defArgs st) (defBody st) (defScope st) [] [] f fd) : Fun K x q st f fd := by
  obtain ⟨oc, od, dV, kV, doc, pm, an, cdv, ct, osl, rfl, lk, hcd, hD, hK⟩ := F.ex
  rcases hD with ⟨_, rfl⟩ | ⟨e, _⟩
  · exact ⟨⟨oc, od, kV, doc, pm, an, cdv, ct, osl, rfl, lk, hcd⟩, F.kp⟩
  · exact absurd rfl e
theorem funC_of (F : Fun K x q st f fd) (c : codeB K f = true) : FunC K x q st f fd (cdK K f) ∧ PySem.W.codeHdIn K (cdK K f) (tbK K (cdK K f)) = true := by
  obtain ⟨oc, od, kV, doc, pm, an, cdv, ct, osl, rfl, lk, hcd⟩ := F.ex
  have c' := c
  unfold codeB at c'
  rw [lk] at c'
  cases cdv with
  | ref cc =>
    have c2 : (cc == cdK K f && PySem.W.codeHdIn K cc (tbK K cc)) = true := c'
    obtain ⟨c3, c4⟩ := Bool.and_eq_true_iff.mp c2
    have e : cc = cdK K f := eq_of_beq c3
    rw [← e]
    exact ⟨⟨⟨oc, od, kV, doc, pm, an, ct, osl, rfl, lk, hcd⟩, F.kp⟩, c4⟩
  | _ => exact absurd (show false = true from c') Bool.false_ne_true
theorem oex_of (h : oexB K C = true) : ∃ nm q N bs bm sn sub ab col dd k0 k1 k2 k3 k5, K.lookup C = some (excClassObj nm q C N bs bm true sn sub ab col dd k0 k1 k2 k3 k5 "ValueError.__new__") ∧ PySem.HandSPX.refsVE bm = true := by
  unfold oexB at h
  split at h
  · rename_i dd cd sl hg
    split at h
    · rename_i k0 k1 k2 k3 n k5 hs
      simp only [Bool.and_eq_true, beq_iff_eq, Bool.not_eq_true'] at h
      obtain ⟨hn, hdel, hd, hm⟩ := h
      obtain ⟨nm, bs, mro, ns, qn, hdc, sn, sub, ab, col, del⟩ := cd
      dsimp only at hdel hd hm
      subst hdel hd hn
      split at hm
      · rename_i C' bm
        simp only [Bool.and_eq_true, beq_iff_eq] at hm
        obtain ⟨rfl, hb⟩ := hm
        have es : sl = #[k0, k1, k2, k3, some (.builtin "ValueError.__new__"), k5] := by
          cases sl
          simpa using hs
        refine ⟨nm, qn, ns, bs, bm, sn, sub, ab, col, dd, k0, k1, k2, k3, k5, ?_, hb⟩
        rw [hg, es]
      · cases hm
    · cases h
  · cases h
theorem err_parts (h : errB K C = true) : OexC K C ∧ XfC K C ∧ PySem.W.findIn K (.ref C) "__init__" = some (some (.ref (He.ma K C "__init__"))) ∧ PySem.W.typeIn K (.ref (He.ma K C "__init__")) = some (.type "function") := by
  unfold errB at h
  obtain ⟨h1, h⟩ := Bool.and_eq_true_iff.mp h
  obtain ⟨h2, h⟩ := Bool.and_eq_true_iff.mp h
  obtain ⟨h3, h⟩ := Bool.and_eq_true_iff.mp h
  obtain ⟨h4, h⟩ := Bool.and_eq_true_iff.mp h
  obtain ⟨h5, h⟩ := Bool.and_eq_true_iff.mp h
  obtain ⟨h6, h⟩ := Bool.and_eq_true_iff.mp h
  obtain ⟨h7, h8⟩ := Bool.and_eq_true_iff.mp h
  exact ⟨⟨oex_of h1, He.eqO_ok h2, of_decide_eq_true h3, of_decide_eq_true h4, h5⟩, xfB_ok h6, He.eqO_ok h7, of_decide_eq_true h8⟩
/-- an error class as the words want it -/
theorem err_of {P : Program} {w : World} {mg : Str → Option Value} {base : Heap} {fn : Str} (h : errB K C = true) (gC : mg x = some (.ref C)) (F : Fun K "__init__" q st (He.ma K C "__init__") fd) (no : PySem.W.findIn K (.ref C) fn = some none)
    (S : FnScope ["self", fn] ["self", fn] (defScope st)) (hb : ∃ p1 p2 p3 p4 : Pos, defBody st = [.Assign [.Attribute (.Name "self" p1) fn p2] (.Name fn p3) p4]) (d1 : (fn == ("__debug__" : Str)) = false) (d2 : (fn == ("__classdict__" : Str)) = false)
    (b : Binds K fd ["self", fn] []) : Err P w K mg base x fn C := by
  obtain ⟨T, X, i1, i2⟩ := err_parts h
  exact ⟨T, gC, ⟨_, fd, i1, i2, ok_ini F S hb T no d1 d2, b⟩, no, X⟩
end
section
variable {g : G} {h : Heap} {mg : Str → Option Value}
theorem Told.parts (t : Told g) : thB (KK g) (He.ga (KK g) "Thing") = true ∧ (∀ x ∈ errN, errB (KK g) (He.ga (KK g) x) = true) ∧ codeB (KK g) (He.ga (KK g) "_law_doors_right") = true ∧
    emptyTab (g (tbK (KK g) (cdK (KK g) (He.ga (KK g) "_law_doors_right")))) = true ∧ (KK g).lookup (tbK (KK g) (cdK (KK g) (He.ga (KK g) "_law_doors_right"))) = none := by
  have e := t.ex
  unfold exB at e
  obtain ⟨h1, e⟩ := Bool.and_eq_true_iff.mp e
  obtain ⟨h2, e⟩ := Bool.and_eq_true_iff.mp e
  obtain ⟨h3, e⟩ := Bool.and_eq_true_iff.mp e
  obtain ⟨h4, h5⟩ := Bool.and_eq_true_iff.mp e
  exact ⟨h1, List.all_eq_true.mp h2, h3, h4, by simpa using h5⟩
theorem emptyTab_ok {o : Option Obj} (h : emptyTab o = true) : o = some { cls := .none, data := .fields #[] } := by
  unfold emptyTab at h
  split at h
  · rename_i a sl
    obtain ⟨z1, z2⟩ := Bool.and_eq_true_iff.mp h
    have e1 : a = #[] := Array.eq_empty_of_size_eq_zero (by simpa using z1)
    have e2 : sl = #[] := Array.eq_empty_of_size_eq_zero (by simpa using z2)
    rw [e1, e2]
  · cases h
theorem thing_parts {K : PySem.W.Frag} {T : Addr} (h : thB K T = true) : PySem.W.mroIn K T (.type "object") = some true ∧ PySem.W.findIn K (.ref T) "__ne__" = some (some (.builtin "object.__ne__")) ∧ PySem.W.notFirst K T (.type "list") = true ∧ TI K T := by
  unfold thB at h
  obtain ⟨h1, h⟩ := Bool.and_eq_true_iff.mp h
  obtain ⟨h2, h⟩ := Bool.and_eq_true_iff.mp h
  obtain ⟨h3, h⟩ := Bool.and_eq_true_iff.mp h
  obtain ⟨h4, h⟩ := Bool.and_eq_true_iff.mp h
  obtain ⟨h5, h⟩ := Bool.and_eq_true_iff.mp h
  obtain ⟨h6, h⟩ := Bool.and_eq_true_iff.mp h
  obtain ⟨h7, h8⟩ := Bool.and_eq_true_iff.mp h
  have m := of_decide_eq_true h1
  exact ⟨m, He.eqO_ok h2, h3, ⟨He.eqO_ok h4, He.eqO_ok h5, of_decide_eq_true h6, m, of_decide_eq_true h7, of_decide_eq_true h8⟩⟩
end
end K01
/-! ## H2 -/
set_option Elab.async false
set_option linter.all false
set_option maxRecDepth 100000
set_option maxHeartbeats 2000000
namespace K01
open PySem PySem.Spec PyProof.Rows L2 ErrK LamX LiI
section
variable {g : G} {h : Heap} {mg : Str → Option Value} {P : Program} {w : World} {base : Heap}
theorem Told.gIs (t : Told g) (X : (KK g).In h) (G : h.Ns mainGlobals mg) : mg "isinstance" = none := He.free_ok X G (t.sd.fact 23 (f := .free "isinstance") rfl)
theorem Told.gSt (t : Told g) (X : (KK g).In h) (G : h.Ns mainGlobals mg) : mg "str" = none := He.free_ok X G (t.sd.fact 24 (f := .free "str") rfl)
theorem Told.gLe (t : Told g) (X : (KK g).In h) (G : h.Ns mainGlobals mg) : mg "len" = none := He.free_ok X G (t.sd.fact 25 (f := .free "len") rfl)
theorem Told.gAl (t : Told g) (X : (KK g).In h) (G : h.Ns mainGlobals mg) : mg "all" = none := He.free_ok X G (t.sd.fact 26 (f := .free "all") rfl)
theorem Told.gLi (t : Told g) (X : (KK g).In h) (G : h.Ns mainGlobals mg) : mg "list" = none := He.free_ok X G (t.sd.fact 27 (f := .free "list") rfl)
theorem Told.gTu (t : Told g) (X : (KK g).In h) (G : h.Ns mainGlobals mg) : mg "tuple" = none := He.free_ok X G (t.sd.fact 28 (f := .free "tuple") rfl)
theorem Told.gSe (t : Told g) (X : (KK g).In h) (G : h.Ns mainGlobals mg) : mg "set" = none := He.free_ok X G (t.sd.fact 29 (f := .free "set") rfl)
theorem Told.gEn (t : Told g) (X : (KK g).In h) (G : h.Ns mainGlobals mg) : mg "enumerate" = none := He.free_ok X G (t.sd.fact 30 (f := .free "enumerate") rfl)
theorem Told.gDi (t : Told g) (X : (KK g).In h) (G : h.Ns mainGlobals mg) : mg "dict" = none := He.free_ok X G (t.sd.fact 31 (f := .free "dict") rfl)
theorem Told.gSo (t : Told g) (X : (KK g).In h) (G : h.Ns mainGlobals mg) : mg "sorted" = none := He.free_ok X G (t.sd.fact 32 (f := .free "sorted") rfl)
theorem Told.gIn (t : Told g) (X : (KK g).In h) (G : h.Ns mainGlobals mg) : mg "int" = none := He.free_ok X G (t.sd.fact 33 (f := .free "int") rfl)
theorem Told.gSu (t : Told g) (X : (KK g).In h) (G : h.Ns mainGlobals mg) : mg "sum" = none := He.free_ok X G (t.sd.fact 34 (f := .free "sum") rfl)
theorem Told.gAb (t : Told g) (X : (KK g).In h) (G : h.Ns mainGlobals mg) : mg "abs" = none := He.free_ok X G (t.sd.fact 35 (f := .free "abs") rfl)
theorem Told.gRa (t : Told g) (X : (KK g).In h) (G : h.Ns mainGlobals mg) : mg "range" = none := He.free_ok X G (t.sd.fact 36 (f := .free "range") rfl)
theorem Told.gBo (t : Told g) (X : (KK g).In h) (G : h.Ns mainGlobals mg) : mg "bool" = none := He.free_ok X G (t.sd.fact 37 (f := .free "bool") rfl)
theorem Told.mTaskError (t : Told g) (X : (KK g).In h) (G : h.Ns mainGlobals mg) : mg "TaskError" = some (.ref (He.ga (KK g) "TaskError")) := He.glo_ok X G (t.sd.fact 0 (f := .glo "TaskError") rfl)
theorem Told.mBadValues (t : Told g) (X : (KK g).In h) (G : h.Ns mainGlobals mg) : mg "BadValues" = some (.ref (He.ga (KK g) "BadValues")) := He.glo_ok X G (t.sd.fact 1 (f := .glo "BadValues") rfl)
theorem Told.mBadStart (t : Told g) (X : (KK g).In h) (G : h.Ns mainGlobals mg) : mg "BadStart" = some (.ref (He.ga (KK g) "BadStart")) := He.glo_ok X G (t.sd.fact 2 (f := .glo "BadStart") rfl)
theorem Told.mBadDeeds (t : Told g) (X : (KK g).In h) (G : h.Ns mainGlobals mg) : mg "BadDeeds" = some (.ref (He.ga (KK g) "BadDeeds")) := He.glo_ok X G (t.sd.fact 3 (f := .glo "BadDeeds") rfl)
theorem Told.mBadEntries (t : Told g) (X : (KK g).In h) (G : h.Ns mainGlobals mg) : mg "BadEntries" = some (.ref (He.ga (KK g) "BadEntries")) := He.glo_ok X G (t.sd.fact 4 (f := .glo "BadEntries") rfl)
theorem Told.mThing (t : Told g) (X : (KK g).In h) (G : h.Ns mainGlobals mg) : mg "Thing" = some (.ref (He.ga (KK g) "Thing")) := He.glo_ok X G (t.sd.fact 5 (f := .glo "Thing") rfl)
theorem Told.mW (t : Told g) (X : (KK g).In h) (G : h.Ns mainGlobals mg) : mg "is_word" = some (.ref (He.ga (KK g) "is_word")) := He.glo_ok X G (t.sd.fact 6 (f := .glo "is_word") rfl)
theorem Told.mL (t : Told g) (X : (KK g).In h) (G : h.Ns mainGlobals mg) : mg "is_list" = some (.ref (He.ga (KK g) "is_list")) := He.glo_ok X G (t.sd.fact 7 (f := .glo "is_list") rfl)
theorem Told.mCV (t : Told g) (X : (KK g).In h) (G : h.Ns mainGlobals mg) : mg "check_values" = some (.ref (He.ga (KK g) "check_values")) := He.glo_ok X G (t.sd.fact 8 (f := .glo "check_values") rfl)
theorem Told.mIV (t : Told g) (X : (KK g).In h) (G : h.Ns mainGlobals mg) : mg "is_value" = some (.ref (He.ga (KK g) "is_value")) := He.glo_ok X G (t.sd.fact 9 (f := .glo "is_value") rfl)
theorem Told.mLV (t : Told g) (X : (KK g).In h) (G : h.Ns mainGlobals mg) : mg "leads_values" = some (.ref (He.ga (KK g) "leads_values")) := He.glo_ok X G (t.sd.fact 10 (f := .glo "leads_values") rfl)
theorem Told.mCD (t : Told g) (X : (KK g).In h) (G : h.Ns mainGlobals mg) : mg "check_deeds" = some (.ref (He.ga (KK g) "check_deeds")) := He.glo_ok X G (t.sd.fact 11 (f := .glo "check_deeds") rfl)
theorem Told.mCE (t : Told g) (X : (KK g).In h) (G : h.Ns mainGlobals mg) : mg "check_entries" = some (.ref (He.ga (KK g) "check_entries")) := He.glo_ok X G (t.sd.fact 12 (f := .glo "check_entries") rfl)
theorem Told.mOT (t : Told g) (X : (KK g).In h) (G : h.Ns mainGlobals mg) : mg "ordered_tables" = some (.ref (He.ga (KK g) "ordered_tables")) := He.glo_ok X G (t.sd.fact 13 (f := .glo "ordered_tables") rfl)
theorem Told.mPo (t : Told g) (X : (KK g).In h) (G : h.Ns mainGlobals mg) : mg "_law_pool" = some (.ref (He.ga (KK g) "_law_pool")) := He.glo_ok X G (t.sd.fact 14 (f := .glo "_law_pool") rfl)
theorem Told.mTa (t : Told g) (X : (KK g).In h) (G : h.Ns mainGlobals mg) : mg "_law_take" = some (.ref (He.ga (KK g) "_law_take")) := He.glo_ok X G (t.sd.fact 15 (f := .glo "_law_take") rfl)
theorem Told.mOn (t : Told g) (X : (KK g).In h) (G : h.Ns mainGlobals mg) : mg "_law_one" = some (.ref (He.ga (KK g) "_law_one")) := He.glo_ok X G (t.sd.fact 16 (f := .glo "_law_one") rfl)
theorem Told.mMi (t : Told g) (X : (KK g).In h) (G : h.Ns mainGlobals mg) : mg "_law_mixed" = some (.ref (He.ga (KK g) "_law_mixed")) := He.glo_ok X G (t.sd.fact 17 (f := .glo "_law_mixed") rfl)
theorem Told.mMe (t : Told g) (X : (KK g).In h) (G : h.Ns mainGlobals mg) : mg "_law_met" = some (.ref (He.ga (KK g) "_law_met")) := He.glo_ok X G (t.sd.fact 18 (f := .glo "_law_met") rfl)
theorem Told.mLe (t : Told g) (X : (KK g).In h) (G : h.Ns mainGlobals mg) : mg "_law_leads" = some (.ref (He.ga (KK g) "_law_leads")) := He.glo_ok X G (t.sd.fact 19 (f := .glo "_law_leads") rfl)
theorem Told.mTo (t : Told g) (X : (KK g).In h) (G : h.Ns mainGlobals mg) : mg "_law_told" = some (.ref (He.ga (KK g) "_law_told")) := He.glo_ok X G (t.sd.fact 20 (f := .glo "_law_told") rfl)
theorem Told.mDo (t : Told g) (X : (KK g).In h) (G : h.Ns mainGlobals mg) : mg "_law_doors_right" = some (.ref (He.ga (KK g) "_law_doors_right")) := He.glo_ok X G (t.sd.fact 21 (f := .glo "_law_doors_right") rfl)
theorem Told.mLa (t : Told g) (X : (KK g).In h) (G : h.Ns mainGlobals mg) : mg "law" = some (.ref (He.ga (KK g) "law")) := He.glo_ok X G (t.sd.fact 22 (f := .glo "law") rfl)
theorem Told.gLet (t : Told g) (X : (KK g).In h) (G : h.Ns mainGlobals mg) : ∃ t, mg "LETTERS" = some (.str letters t) := He.str_ok X G (t.sd.fact 39 (f := .str "LETTERS" letters0) rfl)
theorem Told.gLon (t : Told g) (X : (KK g).In h) (G : h.Ns mainGlobals mg) : ∃ t, mg "LONGEST_WORD" = some (.int 8 t) := He.int_ok X G (t.sd.fact 38 (f := .int "LONGEST_WORD" 8) rfl)
theorem Told.fW (t : Told g) : ∃ fd, Fun (KK g) "is_word" "is_word" (tp 3) (He.ga (KK g) "is_word") fd := by
  obtain ⟨fd, F⟩ := t.sd.def_ 0 (d := dDef "is_word" 3) rfl
  exact ⟨fd, fun_of (st := tp 3) F⟩
theorem Told.fL (t : Told g) : ∃ fd, Fun (KK g) "is_list" "is_list" (tp 4) (He.ga (KK g) "is_list") fd := by
  obtain ⟨fd, F⟩ := t.sd.def_ 1 (d := dDef "is_list" 4) rfl
  exact ⟨fd, fun_of (st := tp 4) F⟩
theorem Told.fCV (t : Told g) : ∃ fd, Fun (KK g) "check_values" "check_values" (tp 12) (He.ga (KK g) "check_values") fd := by
  obtain ⟨fd, F⟩ := t.sd.def_ 2 (d := dDef "check_values" 12) rfl
  exact ⟨fd, fun_of (st := tp 12) F⟩
theorem Told.fIV (t : Told g) : ∃ fd, Fun (KK g) "is_value" "is_value" (tp 13) (He.ga (KK g) "is_value") fd := by
  obtain ⟨fd, F⟩ := t.sd.def_ 3 (d := dDef "is_value" 13) rfl
  exact ⟨fd, fun_of (st := tp 13) F⟩
theorem Told.fLV (t : Told g) : ∃ fd, Fun (KK g) "leads_values" "leads_values" (tp 14) (He.ga (KK g) "leads_values") fd := by
  obtain ⟨fd, F⟩ := t.sd.def_ 4 (d := dDef "leads_values" 14) rfl
  exact ⟨fd, fun_of (st := tp 14) F⟩
theorem Told.fCD (t : Told g) : ∃ fd, Fun (KK g) "check_deeds" "check_deeds" (tp 15) (He.ga (KK g) "check_deeds") fd := by
  obtain ⟨fd, F⟩ := t.sd.def_ 5 (d := dDef "check_deeds" 15) rfl
  exact ⟨fd, fun_of (st := tp 15) F⟩
theorem Told.fCE (t : Told g) : ∃ fd, Fun (KK g) "check_entries" "check_entries" (tp 16) (He.ga (KK g) "check_entries") fd := by
  obtain ⟨fd, F⟩ := t.sd.def_ 6 (d := dDef "check_entries" 16) rfl
  exact ⟨fd, fun_of (st := tp 16) F⟩
theorem Told.fOT (t : Told g) : ∃ fd, Fun (KK g) "ordered_tables" "ordered_tables" (tp 17) (He.ga (KK g) "ordered_tables") fd := by
  obtain ⟨fd, F⟩ := t.sd.def_ 7 (d := dDef "ordered_tables" 17) rfl
  exact ⟨fd, fun_of (st := tp 17) F⟩
theorem Told.fPo (t : Told g) : ∃ fd, Fun (KK g) "_law_pool" "_law_pool" (tp 20) (He.ga (KK g) "_law_pool") fd := by
  obtain ⟨fd, F⟩ := t.sd.def_ 8 (d := dDef "_law_pool" 20) rfl
  exact ⟨fd, fun_of (st := tp 20) F⟩
theorem Told.fTa (t : Told g) : ∃ fd, Fun (KK g) "_law_take" "_law_take" (tp 21) (He.ga (KK g) "_law_take") fd := by
  obtain ⟨fd, F⟩ := t.sd.def_ 9 (d := dDef "_law_take" 21) rfl
  exact ⟨fd, fun_of (st := tp 21) F⟩
theorem Told.fOn (t : Told g) : ∃ fd, Fun (KK g) "_law_one" "_law_one" (tp 22) (He.ga (KK g) "_law_one") fd := by
  obtain ⟨fd, F⟩ := t.sd.def_ 10 (d := dDef "_law_one" 22) rfl
  exact ⟨fd, fun_of (st := tp 22) F⟩
theorem Told.fMi (t : Told g) : ∃ fd, Fun (KK g) "_law_mixed" "_law_mixed" (tp 23) (He.ga (KK g) "_law_mixed") fd := by
  obtain ⟨fd, F⟩ := t.sd.def_ 11 (d := dDef "_law_mixed" 23) rfl
  exact ⟨fd, fun_of (st := tp 23) F⟩
theorem Told.fMe (t : Told g) : ∃ fd, Fun (KK g) "_law_met" "_law_met" (tp 24) (He.ga (KK g) "_law_met") fd := by
  obtain ⟨fd, F⟩ := t.sd.def_ 12 (d := dDef "_law_met" 24) rfl
  exact ⟨fd, fun_of (st := tp 24) F⟩
theorem Told.fLe (t : Told g) : ∃ fd, Fun (KK g) "_law_leads" "_law_leads" (tp 25) (He.ga (KK g) "_law_leads") fd := by
  obtain ⟨fd, F⟩ := t.sd.def_ 13 (d := dDef "_law_leads" 25) rfl
  exact ⟨fd, fun_of (st := tp 25) F⟩
theorem Told.fTo (t : Told g) : ∃ fd, Fun (KK g) "_law_told" "_law_told" (tp 26) (He.ga (KK g) "_law_told") fd := by
  obtain ⟨fd, F⟩ := t.sd.def_ 14 (d := dDef "_law_told" 26) rfl
  exact ⟨fd, fun_of (st := tp 26) F⟩
theorem Told.fDo (t : Told g) : ∃ fd, Fun (KK g) "_law_doors_right" "_law_doors_right" (tp 27) (He.ga (KK g) "_law_doors_right") fd := by
  obtain ⟨fd, F⟩ := t.sd.def_ 15 (d := dDef "_law_doors_right" 27) rfl
  exact ⟨fd, fun_of (st := tp 27) F⟩
theorem Told.fLa (t : Told g) : ∃ fd, Fun (KK g) "law" "law" (tp 28) (He.ga (KK g) "law") fd := by
  obtain ⟨fd, F⟩ := t.sd.def_ 16 (d := dDef "law" 28) rfl
  exact ⟨fd, fun_of (st := tp 28) F⟩
theorem Told.eV (t : Told g) (X : (KK g).In h) (G : h.Ns mainGlobals mg) : Err P w (KK g) mg base "BadValues" "index" (He.ga (KK g) "BadValues") := by
  obtain ⟨fd, F⟩ := t.sd.def_ 17 (d := dMet "BadValues" "__init__" "BadValues.__init__" 7 0) rfl
  have F2 := fun_of (st := inClass (tp 7) 0) F
  exact err_of (t.parts.2.1 "BadValues" (by simp [errN])) (t.mBadValues X G) F2 (He.noat_ok (t.sd.fact 51 (f := .noat "BadValues" "index") rfl)) ⟨rfl, rfl, rfl, by decide +kernel, rfl, by decide +kernel, by decide +kernel⟩ ⟨_, _, _, _, rfl⟩ (by decide) (by decide) (F2.binds fun _ _ _ _ _ _ us hl => match us, hl with | [_, _], _ => rfl)
theorem Told.eS (t : Told g) (X : (KK g).In h) (G : h.Ns mainGlobals mg) : Err P w (KK g) mg base "BadStart" "thing" (He.ga (KK g) "BadStart") := by
  obtain ⟨fd, F⟩ := t.sd.def_ 18 (d := dMet "BadStart" "__init__" "BadStart.__init__" 8 0) rfl
  have F2 := fun_of (st := inClass (tp 8) 0) F
  exact err_of (t.parts.2.1 "BadStart" (by simp [errN])) (t.mBadStart X G) F2 (He.noat_ok (t.sd.fact 52 (f := .noat "BadStart" "thing") rfl)) ⟨rfl, rfl, rfl, by decide +kernel, rfl, by decide +kernel, by decide +kernel⟩ ⟨_, _, _, _, rfl⟩ (by decide) (by decide) (F2.binds fun _ _ _ _ _ _ us hl => match us, hl with | [_, _], _ => rfl)
theorem Told.eD (t : Told g) (X : (KK g).In h) (G : h.Ns mainGlobals mg) : Err P w (KK g) mg base "BadDeeds" "name" (He.ga (KK g) "BadDeeds") := by
  obtain ⟨fd, F⟩ := t.sd.def_ 19 (d := dMet "BadDeeds" "__init__" "BadDeeds.__init__" 9 0) rfl
  have F2 := fun_of (st := inClass (tp 9) 0) F
  exact err_of (t.parts.2.1 "BadDeeds" (by simp [errN])) (t.mBadDeeds X G) F2 (He.noat_ok (t.sd.fact 53 (f := .noat "BadDeeds" "name") rfl)) ⟨rfl, rfl, rfl, by decide +kernel, rfl, by decide +kernel, by decide +kernel⟩ ⟨_, _, _, _, rfl⟩ (by decide) (by decide) (F2.binds fun _ _ _ _ _ _ us hl => match us, hl with | [_, _], _ => rfl)
theorem Told.eE (t : Told g) (X : (KK g).In h) (G : h.Ns mainGlobals mg) : Err P w (KK g) mg base "BadEntries" "name" (He.ga (KK g) "BadEntries") := by
  obtain ⟨fd, F⟩ := t.sd.def_ 20 (d := dMet "BadEntries" "__init__" "BadEntries.__init__" 10 0) rfl
  have F2 := fun_of (st := inClass (tp 10) 0) F
  exact err_of (t.parts.2.1 "BadEntries" (by simp [errN])) (t.mBadEntries X G) F2 (He.noat_ok (t.sd.fact 54 (f := .noat "BadEntries" "name") rfl)) ⟨rfl, rfl, rfl, by decide +kernel, rfl, by decide +kernel, by decide +kernel⟩ ⟨_, _, _, _, rfl⟩ (by decide) (by decide) (F2.binds fun _ _ _ _ _ _ us hl => match us, hl with | [_, _], _ => rfl)
theorem Told.tInit (t : Told g) : ∃ fd, Fun (KK g) "__init__" "Thing.__init__" (inClass (tp 18) 0) (He.ma (KK g) (He.ga (KK g) "Thing") "__init__") fd := by
  obtain ⟨fd, F⟩ := t.sd.def_ 21 (d := dMet "Thing" "__init__" "Thing.__init__" 18 0) rfl
  exact ⟨fd, fun_of (st := inClass (tp 18) 0) F⟩
theorem Told.tEq (t : Told g) : ∃ fd, Fun (KK g) "__eq__" "Thing.__eq__" (inClass (tp 18) 1) (He.ma (KK g) (He.ga (KK g) "Thing") "__eq__") fd := by
  obtain ⟨fd, F⟩ := t.sd.def_ 22 (d := dMet "Thing" "__eq__" "Thing.__eq__" 18 1) rfl
  exact ⟨fd, fun_of (st := inClass (tp 18) 1) F⟩
theorem Told.hEq (t : Told g) : Meth (KK g) (He.ga (KK g) "Thing") "__eq__" (He.ma (KK g) (He.ga (KK g) "Thing") "__eq__") := He.meth_ok (t.sd.fact 49 (f := .meth "Thing" "__eq__") rfl)
theorem Told.tWo (t : Told g) : ∃ fd, Fun (KK g) "worths" "Thing.worths" (inClass (tp 18) 2) (He.ma (KK g) (He.ga (KK g) "Thing") "worths") fd := by
  obtain ⟨fd, F⟩ := t.sd.def_ 23 (d := dMet "Thing" "worths" "Thing.worths" 18 2) rfl
  exact ⟨fd, fun_of (st := inClass (tp 18) 2) F⟩
theorem Told.hWo (t : Told g) : Meth (KK g) (He.ga (KK g) "Thing") "worths" (He.ma (KK g) (He.ga (KK g) "Thing") "worths") := He.meth_ok (t.sd.fact 45 (f := .meth "Thing" "worths") rfl)
theorem Told.tSta (t : Told g) : ∃ fd, Fun (KK g) "start" "Thing.start" (inClass (tp 18) 3) (He.ma (KK g) (He.ga (KK g) "Thing") "start") fd := by
  obtain ⟨fd, F⟩ := t.sd.def_ 24 (d := dMet "Thing" "start" "Thing.start" 18 3) rfl
  exact ⟨fd, fun_of (st := inClass (tp 18) 3) F⟩
theorem Told.hSta (t : Told g) : Meth (KK g) (He.ga (KK g) "Thing") "start" (He.ma (KK g) (He.ga (KK g) "Thing") "start") := He.meth_ok (t.sd.fact 46 (f := .meth "Thing" "start") rfl)
theorem Told.tDe (t : Told g) : ∃ fd, Fun (KK g) "deeds" "Thing.deeds" (inClass (tp 18) 4) (He.ma (KK g) (He.ga (KK g) "Thing") "deeds") fd := by
  obtain ⟨fd, F⟩ := t.sd.def_ 25 (d := dMet "Thing" "deeds" "Thing.deeds" 18 4) rfl
  exact ⟨fd, fun_of (st := inClass (tp 18) 4) F⟩
theorem Told.hDe (t : Told g) : Meth (KK g) (He.ga (KK g) "Thing") "deeds" (He.ma (KK g) (He.ga (KK g) "Thing") "deeds") := He.meth_ok (t.sd.fact 47 (f := .meth "Thing" "deeds") rfl)
theorem Told.tEn (t : Told g) : ∃ fd, Fun (KK g) "entries" "Thing.entries" (inClass (tp 18) 5) (He.ma (KK g) (He.ga (KK g) "Thing") "entries") fd := by
  obtain ⟨fd, F⟩ := t.sd.def_ 26 (d := dMet "Thing" "entries" "Thing.entries" 18 5) rfl
  exact ⟨fd, fun_of (st := inClass (tp 18) 5) F⟩
theorem Told.hEn (t : Told g) : Meth (KK g) (He.ga (KK g) "Thing") "entries" (He.ma (KK g) (He.ga (KK g) "Thing") "entries") := He.meth_ok (t.sd.fact 48 (f := .meth "Thing" "entries") rfl)
theorem Told.tt (t : Told g) : TT (KK g) (He.ga (KK g) "Thing") := ⟨He.cls_ok (t.sd.fact 40 (f := .cls "Thing") rfl), He.noat_ok (t.sd.fact 41 (f := .noat "Thing" "_values") rfl), He.noat_ok (t.sd.fact 42 (f := .noat "Thing" "_first") rfl), He.noat_ok (t.sd.fact 43 (f := .noat "Thing" "_led") rfl), He.noat_ok (t.sd.fact 44 (f := .noat "Thing" "_let") rfl)⟩
theorem Told.mkr (t : Told g) : Mk (KK g) (He.ga (KK g) "Thing") (He.ma (KK g) (He.ga (KK g) "Thing") "__init__") := He.mkr_ok (t.sd.fact 50 (f := .mkr "Thing") rfl)
theorem Told.xVV (t : Told g) : PySem.W.exmOne (KK g) (.ref (He.ga (KK g) "BadValues")) (.ref (He.ga (KK g) "BadValues")) = some true := He.exm_ok (t.sd.fact 55 (f := .exm "BadValues" "BadValues" true) rfl)
theorem Told.xVS (t : Told g) : PySem.W.exmOne (KK g) (.ref (He.ga (KK g) "BadValues")) (.ref (He.ga (KK g) "BadStart")) = some false := He.exm_ok (t.sd.fact 56 (f := .exm "BadValues" "BadStart" false) rfl)
theorem Told.xVD (t : Told g) : PySem.W.exmOne (KK g) (.ref (He.ga (KK g) "BadValues")) (.ref (He.ga (KK g) "BadDeeds")) = some false := He.exm_ok (t.sd.fact 57 (f := .exm "BadValues" "BadDeeds" false) rfl)
theorem Told.xVE (t : Told g) : PySem.W.exmOne (KK g) (.ref (He.ga (KK g) "BadValues")) (.ref (He.ga (KK g) "BadEntries")) = some false := He.exm_ok (t.sd.fact 58 (f := .exm "BadValues" "BadEntries" false) rfl)
theorem Told.xSV (t : Told g) : PySem.W.exmOne (KK g) (.ref (He.ga (KK g) "BadStart")) (.ref (He.ga (KK g) "BadValues")) = some false := He.exm_ok (t.sd.fact 59 (f := .exm "BadStart" "BadValues" false) rfl)
theorem Told.xSS (t : Told g) : PySem.W.exmOne (KK g) (.ref (He.ga (KK g) "BadStart")) (.ref (He.ga (KK g) "BadStart")) = some true := He.exm_ok (t.sd.fact 60 (f := .exm "BadStart" "BadStart" true) rfl)
theorem Told.xSD (t : Told g) : PySem.W.exmOne (KK g) (.ref (He.ga (KK g) "BadStart")) (.ref (He.ga (KK g) "BadDeeds")) = some false := He.exm_ok (t.sd.fact 61 (f := .exm "BadStart" "BadDeeds" false) rfl)
theorem Told.xSE (t : Told g) : PySem.W.exmOne (KK g) (.ref (He.ga (KK g) "BadStart")) (.ref (He.ga (KK g) "BadEntries")) = some false := He.exm_ok (t.sd.fact 62 (f := .exm "BadStart" "BadEntries" false) rfl)
theorem Told.xDV (t : Told g) : PySem.W.exmOne (KK g) (.ref (He.ga (KK g) "BadDeeds")) (.ref (He.ga (KK g) "BadValues")) = some false := He.exm_ok (t.sd.fact 63 (f := .exm "BadDeeds" "BadValues" false) rfl)
theorem Told.xDS (t : Told g) : PySem.W.exmOne (KK g) (.ref (He.ga (KK g) "BadDeeds")) (.ref (He.ga (KK g) "BadStart")) = some false := He.exm_ok (t.sd.fact 64 (f := .exm "BadDeeds" "BadStart" false) rfl)
theorem Told.xDD (t : Told g) : PySem.W.exmOne (KK g) (.ref (He.ga (KK g) "BadDeeds")) (.ref (He.ga (KK g) "BadDeeds")) = some true := He.exm_ok (t.sd.fact 65 (f := .exm "BadDeeds" "BadDeeds" true) rfl)
theorem Told.xDE (t : Told g) : PySem.W.exmOne (KK g) (.ref (He.ga (KK g) "BadDeeds")) (.ref (He.ga (KK g) "BadEntries")) = some false := He.exm_ok (t.sd.fact 66 (f := .exm "BadDeeds" "BadEntries" false) rfl)
theorem Told.xEV (t : Told g) : PySem.W.exmOne (KK g) (.ref (He.ga (KK g) "BadEntries")) (.ref (He.ga (KK g) "BadValues")) = some false := He.exm_ok (t.sd.fact 67 (f := .exm "BadEntries" "BadValues" false) rfl)
theorem Told.xES (t : Told g) : PySem.W.exmOne (KK g) (.ref (He.ga (KK g) "BadEntries")) (.ref (He.ga (KK g) "BadStart")) = some false := He.exm_ok (t.sd.fact 68 (f := .exm "BadEntries" "BadStart" false) rfl)
theorem Told.xED (t : Told g) : PySem.W.exmOne (KK g) (.ref (He.ga (KK g) "BadEntries")) (.ref (He.ga (KK g) "BadDeeds")) = some false := He.exm_ok (t.sd.fact 69 (f := .exm "BadEntries" "BadDeeds" false) rfl)
theorem Told.xEE (t : Told g) : PySem.W.exmOne (KK g) (.ref (He.ga (KK g) "BadEntries")) (.ref (He.ga (KK g) "BadEntries")) = some true := He.exm_ok (t.sd.fact 70 (f := .exm "BadEntries" "BadEntries" true) rfl)
/-- the classes that are named -/
def csK (K : PySem.W.Frag) : Cs := ⟨He.ga K "BadValues", He.ga K "BadStart", He.ga K "BadDeeds", He.ga K "BadEntries", He.ga K "Thing"⟩
theorem Told.errs (t : Told g) (X : (KK g).In h) (G : h.Ns mainGlobals mg) : Errs P w (KK g) mg base (csK (KK g)) :=
  ⟨t.eV X G, t.eS X G, t.eD X G, t.eE X G, fun i j hi hj => by
    rcases i with _ | _ | _ | _ | i <;> rcases j with _ | _ | _ | _ | j <;> first
      | exact t.xVV | exact t.xVS | exact t.xVD | exact t.xVE | exact t.xSV | exact t.xSS | exact t.xSD | exact t.xSE | exact t.xDV | exact t.xDS | exact t.xDD | exact t.xDE | exact t.xEV | exact t.xES | exact t.xED | exact t.xEE | omega⟩
end
end K01
/-! ## H3 -/
set_option Elab.async false
set_option linter.all false
set_option maxRecDepth 100000
set_option maxHeartbeats 2000000
namespace K01
open PySem PySem.Spec PyProof.Rows L2 ErrK LamX LiI
section
variable {g : G} {h : Heap} {mg : Str → Option Value} {P : Program} {w : World} {base : Heap}
theorem Told.cW (t : Told g) (X : (KK g).In h) (G : h.Ns mainGlobals mg) : Cl P w (KK g) mg base CX0 1 "is_word" (spWord (KK g)) := by
  obtain ⟨fd, F⟩ := t.fW
  exact ⟨⟨_, fd, _, ok_word F (t.gIs X G) (t.gSt X G) (t.gLe X G) (t.gAl X G) (t.gLet X G) (t.gLon X G), t.mW X G, F.kp, F.binds fun _ _ _ _ _ _ us hl => match us, hl with | [_], _ => rfl⟩⟩
theorem Told.cL (t : Told g) (X : (KK g).In h) (G : h.Ns mainGlobals mg) : Cl P w (KK g) mg base CX0 1 "is_list" (spIsList (KK g)) := by
  obtain ⟨fd, F⟩ := t.fL
  exact ⟨⟨_, fd, _, ok_isList F (t.gIs X G) (t.gLi X G) (t.gTu X G), t.mL X G, F.kp, F.binds fun _ _ _ _ _ _ us hl => match us, hl with | [_], _ => rfl⟩⟩
theorem Told.cCV (t : Told g) (X : (KK g).In h) (G : h.Ns mainGlobals mg) : Cl P w (KK g) mg base (L2.CX P w) 3 "check_values" (spValues (KK g) (He.ga (KK g) "BadValues")) := by
  obtain ⟨fd, F⟩ := t.fCV
  exact ⟨⟨_, fd, _, ok_values F (t.cW X G) (t.cL X G) (t.eV X G) (t.gSe X G) (t.gEn X G), t.mCV X G, F.kp, F.binds fun _ _ _ _ _ _ us hl => match us, hl with | [_], _ => rfl⟩⟩
theorem Told.cIV (t : Told g) (X : (KK g).In h) (G : h.Ns mainGlobals mg) : Cl P w (KK g) mg base CX0 1 "is_value" (spIsValue (KK g)) := by
  obtain ⟨fd, F⟩ := t.fIV
  exact ⟨⟨_, fd, _, ok_isValue F (t.gIs X G) (t.gSt X G), t.mIV X G, F.kp, F.binds fun _ _ _ _ _ _ us hl => match us, hl with | [_, _], _ => rfl⟩⟩
theorem Told.cLV (t : Told g) (X : (KK g).In h) (G : h.Ns mainGlobals mg) : Cl P w (KK g) mg base CX0 2 "leads_values" (spLeadsV (KK g)) := by
  obtain ⟨fd, F⟩ := t.fLV
  exact ⟨⟨_, fd, _, ok_leadsV F (t.cIV X G) (t.gIs X G) (t.gDi X G) (t.gAl X G), t.mLV X G, F.kp, F.binds fun _ _ _ _ _ _ us hl => match us, hl with | [_, _], _ => rfl⟩⟩
theorem Told.cCD (t : Told g) (X : (KK g).In h) (G : h.Ns mainGlobals mg) : Cl P w (KK g) mg base (L2.CX P w) 3 "check_deeds" (spDeeds w (KK g) (He.ga (KK g) "BadDeeds")) := by
  obtain ⟨fd, F⟩ := t.fCD
  exact ⟨⟨_, fd, _, ok_deeds F (t.cW X G) (t.cLV X G) (t.eD X G) (t.gIs X G) (t.gDi X G) (t.gLe X G), t.mCD X G, F.kp, F.binds fun _ _ _ _ _ _ us hl => match us, hl with | [_, _], _ => rfl⟩⟩
theorem Told.cCE (t : Told g) (X : (KK g).In h) (G : h.Ns mainGlobals mg) : Cl P w (KK g) mg base (L2.CX P w) 3 "check_entries" (spEntries w (KK g) (He.ga (KK g) "BadEntries")) := by
  obtain ⟨fd, F⟩ := t.fCE
  exact ⟨⟨_, fd, _, ok_entries F (t.cW X G) (t.cLV X G) (t.eE X G) (t.gIs X G) (t.gDi X G), t.mCE X G, F.kp, F.binds fun _ _ _ _ _ _ us hl => match us, hl with | [_, _, _], _ => rfl⟩⟩
theorem Told.cOT (t : Told g) (X : (KK g).In h) (G : h.Ns mainGlobals mg) : Cl P w (KK g) mg base CX0 1 "ordered_tables" (spOrd (KK g)) := by
  obtain ⟨fd, F⟩ := t.fOT
  exact ⟨⟨_, fd, _, ok_ord F (t.gSo X G), t.mOT X G, F.kp, F.binds fun _ _ _ _ _ _ us hl => match us, hl with | [_, _], _ => rfl⟩⟩
theorem Told.cPo (t : Told g) (X : (KK g).In h) (G : h.Ns mainGlobals mg) : Cl P w (KK g) mg base CX0 1 "_law_pool" (spPool (KK g)) := by
  obtain ⟨fd, F⟩ := t.fPo
  exact ⟨⟨_, fd, _, ok_pool F (t.gIn X G) (t.gLe X G) (t.gSu X G) (t.gAb X G), t.mPo X G, F.kp, F.binds fun _ _ _ _ _ _ us hl => match us, hl with | [_, _], _ => rfl⟩⟩
theorem Told.cTa (t : Told g) (X : (KK g).In h) (G : h.Ns mainGlobals mg) : Cl P w (KK g) mg base CX0 1 "_law_take" spTake := by
  obtain ⟨fd, F⟩ := t.fTa
  exact ⟨⟨_, fd, _, ok_take F (t.gIn X G), t.mTa X G, F.kp, F.binds fun _ _ _ _ _ _ us hl => match us, hl with | [_, _], _ => rfl⟩⟩
theorem Told.cOn (t : Told g) (X : (KK g).In h) (G : h.Ns mainGlobals mg) : Cl P w (KK g) mg base CX0 2 "_law_one" (spOne (KK g)) := by
  obtain ⟨fd, F⟩ := t.fOn
  obtain ⟨fdT, FT⟩ := t.fTa
  exact ⟨⟨_, fd, _, ok_one F FT (FT.binds fun _ _ _ _ _ _ us hl => match us, hl with | [_, _], _ => rfl) (t.mTa X G) (t.gIn X G) (t.gLe X G), t.mOn X G, F.kp, F.binds fun _ _ _ _ _ _ us hl => match us, hl with | [_, _], _ => rfl⟩⟩
theorem Told.cMi (t : Told g) (X : (KK g).In h) (G : h.Ns mainGlobals mg) : Cl P w (KK g) mg base CX0 2 "_law_mixed" (spMixed (KK g)) := by
  obtain ⟨fd, F⟩ := t.fMi
  obtain ⟨fdT, FT⟩ := t.fTa
  exact ⟨⟨_, fd, _, ok_mixed F FT (FT.binds fun _ _ _ _ _ _ us hl => match us, hl with | [_, _], _ => rfl) (t.mTa X G) (t.gIn X G) (t.gLe X G) (t.gLi X G) (t.gRa X G), t.mMi X G, F.kp, F.binds fun _ _ _ _ _ _ us hl => match us, hl with | [_, _], _ => rfl⟩⟩
theorem Told.cLe (t : Told g) (X : (KK g).In h) (G : h.Ns mainGlobals mg) : Cl P w (KK g) mg base CX0 3 "_law_leads" (spLeads (KK g)) := by
  obtain ⟨fd, F⟩ := t.fLe
  exact ⟨⟨_, fd, _, ok_leads F (t.cTa X G) (t.cOn X G) (t.cMi X G) (t.gDi X G) (t.gLe X G), t.mLe X G, F.kp, F.binds fun _ _ _ _ _ _ us hl => match us, hl with | [_, _, _, _], _ => rfl⟩⟩
theorem Told.cTo (t : Told g) (X : (KK g).In h) (G : h.Ns mainGlobals mg) : Cl P w (KK g) mg base CX0 1 "_law_told" (spTold (KK g)) := by
  obtain ⟨fd, F⟩ := t.fTo
  exact ⟨⟨_, fd, _, ok_told F (t.gSo X G), t.mTo X G, F.kp, F.binds fun _ _ _ _ _ _ us hl => match us, hl with | [_, _], _ => rfl⟩⟩
theorem Told.init (t : Told g) (X : (KK g).In h) (G : h.Ns mainGlobals mg) : ∃ fd, Fun (KK g) "__init__" "Thing.__init__" sInit (He.ma (KK g) (He.ga (KK g) "Thing") "__init__") fd ∧
    FnOk P w (KK g) mg base (L2.CX P w) 4 (He.ma (KK g) (He.ga (KK g) "Thing") "__init__") fd ["self", "values", "start", "deeds", "entries"] (spInit w (KK g) (csK (KK g))) := by
  obtain ⟨fd, F⟩ := t.tInit
  exact ⟨fd, F, ok_init F (t.cCV X G) (t.cIV X G) (t.cCD X G) (t.cCE X G) (t.cOT X G) (t.eS X G) t.tt (t.gLi X G)⟩
theorem Told.mkT (t : Told g) (X : (KK g).In h) (G : h.Ns mainGlobals mg) : MkT P w (KK g) mg base (csK (KK g)) := by
  obtain ⟨fd, F, ok⟩ := t.init (P := P) (w := w) (base := base) X G
  exact ⟨⟨_, fd, _, t.mkr, ok, F.binds fun _ _ _ _ _ _ us hl => match us, hl with | [_, _, _, _, _], _ => rfl⟩, t.mThing X G⟩
theorem Told.mkK (t : Told g) (X : (KK g).In h) (G : h.Ns mainGlobals mg) : MkK P w (KK g) mg base (csK (KK g)) := by
  obtain ⟨fd, F, ok⟩ := t.init (P := P) (w := w) (base := base) X G
  refine ⟨⟨_, fd, _, t.mkr, ok, ⟨fun s us ws _ l1 l2 => ?_, fun {vs us zs ws} r1 r2 => ?_⟩⟩, t.mThing X G⟩
  · obtain ⟨oc, od, kV, doc, pm, an, cdv, ct, osl, rfl, lk, hcd⟩ := F.ex
    match us, ws, l1, l2 with
    | [u], [e, d, s', v], _, _ => exact BindsTo.of_eq rfl
  · cases r1 with
    | nil => exact .nil
    | cons a1 t1 =>
      cases t1 with
      | cons _ _ => exact .nil
      | nil =>
        cases r2 with
        | nil => exact .nil
        | cons b1 r2 =>
          cases r2 with
          | nil => exact .nil
          | cons b2 r2 =>
            cases r2 with
            | nil => exact .nil
            | cons b3 r2 =>
              cases r2 with
              | nil => exact .nil
              | cons b4 r2 =>
                cases r2 with
                | nil => exact .cons a1 (.cons b4 (.cons b3 (.cons b2 (.cons b1 .nil))))
                | cons _ _ => exact .nil
theorem Told.thMs (t : Told g) (X : (KK g).In h) (G : h.Ns mainGlobals mg) : ThMs P w (KK g) mg base (He.ga (KK g) "Thing") := by
  obtain ⟨f1, F1⟩ := t.tWo
  obtain ⟨f2, F2⟩ := t.tSta
  obtain ⟨f3, F3⟩ := t.tDe
  obtain ⟨f4, F4⟩ := t.tEn
  exact ⟨⟨⟨_, f1, _, t.hWo, ok_worths F1 t.tt (t.gLi X G), F1.binds fun _ _ _ _ _ _ us hl => match us, hl with | [_], _ => rfl⟩, t.tt.cl⟩,
    ⟨⟨_, f2, _, t.hSta, ok_start F2 t.tt, F2.binds fun _ _ _ _ _ _ us hl => match us, hl with | [_], _ => rfl⟩, t.tt.cl⟩,
    ⟨⟨_, f3, _, t.hDe, ok_getD F3 t.tt (t.cOT X G), F3.binds fun _ _ _ _ _ _ us hl => match us, hl with | [_], _ => rfl⟩, t.tt.cl⟩,
    ⟨⟨_, f4, _, t.hEn, ok_getE F4 t.tt (t.cOT X G), F4.binds fun _ _ _ _ _ _ us hl => match us, hl with | [_], _ => rfl⟩, t.tt.cl⟩⟩
theorem Told.eqM (t : Told g) (X : (KK g).In h) (G : h.Ns mainGlobals mg) : EqM P w (KK g) mg base (He.ga (KK g) "Thing") := by
  obtain ⟨fd, F⟩ := t.tEq
  obtain ⟨hm, hn, nf, ti⟩ := thing_parts t.parts.1
  exact ⟨⟨_, fd, _, ok_eq F t.tt ti (t.mThing X G) (t.gIs X G), t.hEq.at_, t.hEq.fn, F.binds fun _ _ _ _ _ _ us hl => match us, hl with | [_, _], _ => rfl⟩, hm, hn, nf⟩
theorem Told.lm (t : Told g) (X : (KK g).In h) (G : h.Ns mainGlobals mg) : Lm P w (KK g) mg base (csK (KK g)) := by
  obtain ⟨fd, F⟩ := t.fMe
  have b : L2.Binds (KK g) fd ["ask"] [] := F.binds fun _ _ _ _ _ _ us hl => match us, hl with | [_], _ => rfl
  obtain ⟨oc, od, kV, doc, pm, an, cdv, ct, osl, rfl, lk, hcd⟩ := F.ex
  exact ⟨⟨_, oc, od, _, kV, doc, pm, an, cdv, ct, osl, t.mMe X G, F.kp, lk, hcd, b⟩, t.errs X G⟩
abbrev cdD (g : G) : Addr := cdK (KK g) (He.ga (KK g) "_law_doors_right")
abbrev tbD (g : G) : Addr := tbK (KK g) (cdD g)
theorem Told.doors (t : Told g) (X : (KK g).In h) (G : h.Ns mainGlobals mg) (TB : TabB base mg (cdD g) (tbD g)) : Cl P w (KK g) mg base CX0 8 "_law_doors_right" (spDoors (KK g) (tbD g)) := by
  obtain ⟨fd, F⟩ := t.fDo
  obtain ⟨FC, _⟩ := funC_of F t.parts.2.2.1
  exact ⟨⟨_, fd, _, ok_doors FC ⟨t.cOn X G, t.lm X G, t.mkT X G, TB, t.gLe X G, t.gIs X G, t.gBo X G, t.gDi X G, t.gLi X G⟩, t.mDo X G, F.kp, F.binds fun _ _ _ _ _ _ us hl => match us, hl with | [_, _, _, _, _], _ => rfl⟩⟩
theorem Told.law (t : Told g) (X : (KK g).In h) (G : h.Ns mainGlobals mg) {fd : FuncData} (F : Fun (KK g) "law" "law" sLaw (He.ga (KK g) "law") fd) (TB : TabB base mg (cdD g) (tbD g)) :
    FnOk P w (KK g) mg base CX0 9 (He.ga (KK g) "law") fd ["script"] (spLaw (KK g) (tbD g)) :=
  ok_law F ⟨t.cPo X G, t.cMi X G, t.cTa X G, t.cOn X G, t.cLe X G, t.cTo X G, t.doors X G TB, t.mkT X G, t.gLe X G, t.gDi X G, t.gLi X G, t.gTu X G, t.gRa X G⟩ (t.thMs X G) (t.eqM X G) (t.mkK X G)
end
end K01
/-! ## H4 -/
set_option Elab.async false
set_option linter.all false
set_option maxRecDepth 100000
set_option maxHeartbeats 4000000
namespace K01
open PySem PySem.Spec PyProof.Rows L2 LamX
def hk : PySem.W.Hook where
  α := LkT
  obs := fun s => looks s.heap.get?
  val := fun _ => vals
  says := fun _ h => ∃ g : G, looks g = vals ∧ ∀ a o, g a = some o → h.get? a = some o
  of := fun _ _ e => ⟨_, e, fun _ _ z => z⟩
  keeps := fun _ _ _ ⟨g, e, k⟩ kk => ⟨g, e, fun a o z => kk _ _ (k a o z)⟩
def ob (s : PySem.W.SharedT) : LkT := looks (HandSHeadRun.getT s)
theorem ob_eq (s : PySem.W.SharedT) : ob s = hk.obs s.abs := by
  have e : HandSHeadRun.getT s = s.abs.heap.get? := funext (HandSHeadRun.getT_eq s)
  unfold ob
  rw [e]
  rfl
theorem run_all (w : World) : HandSHeadRun.RunEq R q28 hk ob 20000 loose w := by
  intro os
  have h1 := run1 w os
  have h2 := run2 w os
  have hA := runA w os
  show (endS w os).map _ = _
  cases e : endS w os with
  | none =>
    rw [e] at h1
    cases h1
  | some s =>
    rw [e, Option.map_some] at h1 h2 hA
    rw [Option.map_some]
    have z1 := Option.some.inj h1
    have z2 := Option.some.inj h2
    have zz : ob s = vals := Option.some.inj hA
    rw [z1, z2, zz]
    rfl
theorem facts {P : Program} {w : World} {h : Heap} {mg : Str → Option Value} {fa : Addr} {n : Nat} (hn : n ≤ 1000) (Y : hk.says w h) (G : h.Ns mainGlobals mg) (hfa : mg ("law" : Str) = some (.ref fa)) :
    ∃ K : PySem.W.Frag, K.In h ∧ ∃ (fd : FuncData) (cs : List (Addr × Addr)) (sp : Sp), (∀ p ∈ cs, h.get? p.2 = some { cls := .none, data := .fields #[] }) ∧ (∀ p ∈ cs, K.lookup p.2 = none) ∧ (∀ p ∈ cs, PySem.W.CodeHd h p.1 p.2) ∧ (∀ (s : Shared) (u : Value), BindsTo s fd ⟨[u], []⟩ [("script", u)]) ∧
      (∀ (H : Hp) (a : Addr) (ns : List Int), ns.length ≤ n → (∀ z ∈ ns, Builtin.Int.intBits z ≤ 1048576) → (∀ p ∈ cs, H p.2 = some (.tbl #[])) → SqL K H a (ns.map V.int) → sp [.ref a] H (fun v _ => v = .bl true) fun _ _ _ => False) ∧
      ∀ base : Heap, K.In base → base.Ns mainGlobals mg → (∀ p ∈ cs, TabB base mg p.1 p.2) → FnOk P w K mg base CX0 9 fa fd ["script"] sp := by
  obtain ⟨g, lk, k⟩ := Y
  have t := told_of lk
  have X : (KK g).In h := fun a o e => k _ _ (He.frG_at _ e)
  obtain ⟨fd, F⟩ := t.fLa
  have e := hfa.symm.trans (t.mLa X G)
  cases e
  obtain ⟨fdD, FD⟩ := t.fDo
  obtain ⟨_, hc⟩ := funC_of FD t.parts.2.2.1
  have et := emptyTab_ok t.parts.2.2.2.1
  refine ⟨KK g, X, fd, [(cdD g, tbD g)], spLaw (KK g) (tbD g), fun p hp => ?_, fun p hp => ?_, fun p hp => ?_, fun s u => ?_, fun H a ns hl _ hH hS => ?_, fun base Xb Gb TB => ?_⟩
  · rw [List.mem_singleton.mp hp]
    exact k _ _ et
  · rw [List.mem_singleton.mp hp]
    exact t.parts.2.2.2.2
  · rw [List.mem_singleton.mp hp]
    exact PySem.W.codeHd_of_K X hc
  · obtain ⟨oc, od, kV, doc, pm, an, cdv, ct, osl, rfl, lk, hcd⟩ := F.ex
    exact BindsTo.of_eq rfl
  · have hp : H (tbD g) = some (.tbl #[]) := hH (cdD g, tbD g) List.mem_cons_self
    refine ⟨a, ns, rfl, hS, Nat.le_trans hl hn, fun p hm => ?_, fun _ => rfl⟩
    rw [List.mem_singleton.mp hm]
    exact ⟨#[], hp, trivial, fun pos cv hc => by cases hc⟩
  · exact t.law X G F (TB _ List.mem_cons_self)
end K01
/-! ## H5 -/
set_option Elab.async false
set_option linter.all false
set_option maxRecDepth 100000
set_option maxHeartbeats 0
open PySem PySem.W PySem.Calls PyProof.Rows
theorem PySem.Challenge.cw_meettasks_k01_things_made_holds : PySem.Challenge.rw_meettasks_k01_things_made.Holds := by
  w_on; o_law
  refine HandSHeadRun.head_any (r := OpenLaw.row PySem.Challenge.rw_meettasks_k01_things_made) (q := K01.q28) (H := K01.hk) (ob := K01.ob) (M := 20000) (loose := K01.loose) (d := HandSHeadRun.topDef (OpenLaw.row PySem.Challenge.rw_meettasks_k01_things_made).prog 28) (kwd := []) K01.ob_eq
    (by kernel_rfl) (fun s => by kernel_rfl) K01.run_all (by kernel_rfl) (by kernel_rfl) (by kernel_rfl) (by rfl) (by first | assumption | decide +kernel) (by decide +kernel) ⟨rfl, rfl, rfl, rfl, rfl, by decide +kernel⟩ ?hw ?hc
  case hw => w_witness2
  case hc =>
    refine LamX.walk_ofTsE (l := PySem.Challenge.rw_meettasks_k01_things_made) (n := 63) (k := 9) (x := "script") (CX := fun _ => L2.CX0) rfl (by decide) (by kernel_rfl) ⟨rfl, by decide, by decide⟩ ?F (fun _ _ _ _ _ z => z)
    intro w mg fa h Y G hmg0
    have hmg : mg ("law" : PySem.Str) = some (.ref fa) := by
      have e : (HandSHeadRun.topDef (OpenLaw.row PySem.Challenge.rw_meettasks_k01_things_made).prog 28).name = ("law" : PySem.Str) := by kernel_rfl
      rw [← e]
      exact hmg0
    exact K01.facts (by decide) Y G hmg
