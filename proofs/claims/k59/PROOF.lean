import PyProof.Rows.All
import Wide.All
import OpenK.AllK
import Wide.FinOn
import HandS.ForMost
import HandS.Wide
import HandS.ForExc
import HandS.Exc
import HandS.Defaults
import KE.KeyNested
import KE.KDictWalk
import PyProof.DictFindH
import HandS.Walk
import HandS.IsInst
import HandS.DeepEq
import HandS.OwnEq
import HandS.ListItems
import HandS.Iter
import HandS.SetKeys
import HandS.Lambda
import PyProof.EnumMake
import PyProof.TupleIter
import PyProof.Draws
import HandS.WordsExc
import HandS.ExcInit
import HandS.ExcField
import HandS.Codes
import KE.KStateDown
import KE.KNestM
import HandS.EndTab
import HandS.HeadWalk
import HandS.Head0
import HandS.Head1
import HandS.Head2
import HandS.HeadEnd
import HandS.HeadHook1
import HandS.HeadHook2
import HandS.TupAny
import HandS.Zip
import HandS.DictComp
import PyProof.DictTruth
import HandS.TryMany
import PyProof.InstNe
import PyProof.P3Eq
import HandS.Finally
import HandS.TupSets
import PyProof.DictUpdate
import HandS.Small
import PySem.Challenge.RW_meettasks_k59_jobs_told_and_refused
/-! ## MX -/
set_option Elab.async false
set_option linter.all false
set_option maxRecDepth 100000
set_option maxHeartbeats 4000000
/-! Dicts with keys of several kinds: None, ints, texts, tuples of such. -/
namespace PySem
open Sem (wp)
/-- an entry: the key, as it stands there, and its value -/
abbrev MEnt := NestedKey × Value × Value
def entM (w : World) (x : MEnt) : DictEntry := ⟨x.1.hash w, x.2.1, x.2.2⟩
def KeyM (h : Heap) (k : NestedKey) (v : Value) : Prop := NestedIs h k v ∧ k.depth ≤ 8
theorem KeyM.inj {h : Heap} {x y : NestedKey} {v : Value} (a : KeyM h x v) (b : KeyM h y v) : x = y := NestedIs.inj _ _ _ a.1 b.1
section
variable {prog : Program} {w : World} {A : Around} {E : Value → Shared → Prop} {s : Shared}
theorem entM_at {es : Array DictEntry} {xs : List MEnt} (he : es.toList = xs.map (entM w)) (j : Nat) : es[j]? = (xs[j]?).map (entM w) := by
  rw [← Array.getElem?_toList, he, List.getElem?_map]
theorem entM_size {es : Array DictEntry} {xs : List MEnt} (he : es.toList = xs.map (entM w)) : es.size = xs.length := by
  rw [← Array.length_toList, he, List.length_map]
theorem tellM {k : NestedKey} {v : Value} {stored : List Value} {Q : Bool → Shared → Prop} (hkey : KeyM s.heap k v)
    (hst : ∀ u ∈ stored, ∃ k', KeyM s.heap k' u) (h : Q false s) : wpAny (model prog w) A (tableMayTell v stored) Q E s := by
  unfold tableMayTell
  split
  · exact wpAny_pure h
  · refine wpAny_bind (quiet_key k _ 8 s hkey.1 hkey.2 _ _ _ ?_)
    simp only [Bool.not_true, Bool.false_eq_true, if_false]
    refine wpAny_bind ?_
    refine wpAny_forIn_list _ (fun rest r s' => s' = s ∧ r = (none, ()) ∧ ∀ u ∈ rest, ∃ k', KeyM s.heap k' u) _ ?_ ?_ _ _ ⟨rfl, rfl, hst⟩
    · rintro x rest r s' ⟨rfl, rfl, hr⟩
      obtain ⟨k', hb⟩ := hr x List.mem_cons_self
      refine wpAny_bind (quiet_key k' _ 8 s' hb.1 hb.2 _ _ _ ?_)
      simp only [Bool.not_true, Bool.false_eq_true, if_false]
      exact wpAny_pure ⟨rfl, rfl, fun v hv => hr v (List.mem_cons_of_mem _ hv)⟩
    · rintro r s' ⟨rfl, rfl, _⟩
      exact wpAny_pure h
theorem idxM {xs : List MEnt} (hn : (xs.map (·.1)).Nodup) {i j : Nat} {k : NestedKey} {p q : Value × Value} (hi : xs[i]? = some (k, p)) (hj : xs[j]? = some (k, q)) : i = j := by
  have hi' : (xs.map (·.1))[i]? = some k := by rw [List.getElem?_map, hi]; rfl
  have hj' : (xs.map (·.1))[j]? = some k := by rw [List.getElem?_map, hj]; rfl
  exact (List.getElem?_inj (List.getElem?_eq_some_iff.mp hi').1 hn).mp (hi'.trans hj'.symm)
theorem eqM {x y : NestedKey} {u v : Value} {Q : Bool → Shared → Prop} (hu : A.units + 8 < cLine) (hx : KeyM s.heap x u) (hy : KeyM s.heap y v) (h : Q (decide (x = y)) s) : wpAny (model prog w) A (eqBool u v) Q E s :=
  eqAt_key x y A s _ _ hx.1 hy.1 (by have := hx.2; omega) _ _ _ _ (by rw [← NestedKey.decide_eq]; exact h)
theorem findM {d : Addr} {o : Obj} {es ep} {xs : List MEnt} {k : NestedKey} {v : Value} {Q : Option Nat → Shared → Prop} (hu : A.units + 8 < cLine) (hkey : KeyM s.heap k v)
    (ho : s.heap.get? d = some o) (hd : o.data = .dict es ep) (he : es.toList = xs.map (entM w)) (his : ∀ x ∈ xs, KeyM s.heap x.1 x.2.1) (hn : (xs.map (·.1)).Nodup)
    (hnone : (∀ (j : Nat) (p : Value × Value), xs[j]? ≠ some (k, p)) → Q none s) (hsome : ∀ (j : Nat) (p : Value × Value), xs[j]? = some (k, p) → Q (some j) s) :
    wpAny (model prog w) A (dictFind d v (k.hash w)) Q E s := by
  have hsz : es.size = xs.length := entM_size he
  have haskey : ∀ (j : Nat) (p : Value × Value), xs[j]? = some (k, p) → ((es[j]?.map (·.hash)) == some (k.hash w)) = true := by
    intro j p hj
    rw [entM_at he j, hj]
    simp [entM]
  have hmem : ∀ e ∈ es, ∃ x ∈ xs, e = entM w x := by
    intro e hin
    have : e ∈ xs.map (entM w) := he ▸ Array.mem_toList_iff.mpr hin
    obtain ⟨x, hx, rfl⟩ := List.mem_map.mp this
    exact ⟨x, hx, rfl⟩
  have hany : ∀ a, v = .ref a → ¬ (es.any fun e => e.key == Value.ref a && e.hash != k.hash w) = true := by
    intro a ea
    subst ea
    rw [← Array.any_toList, List.any_eq_true]
    rintro ⟨e, hin, hc⟩
    obtain ⟨x, hx, rfl⟩ := hmem e (Array.mem_toList_iff.mp hin)
    simp only [entM, Bool.and_eq_true, beq_iff_eq, bne_iff_ne, ne_eq] at hc
    obtain ⟨hxa, hne⟩ := hc
    have := his x hx
    rw [hxa] at this
    exact hne (by rw [KeyM.inj this hkey])
  have hst : ∀ u ∈ (placesWithHash es.size (fun i => es[i]?.map (·.hash)) (k.hash w)).filterMap (fun i => es[i]?.map (·.key)), ∃ k', KeyM s.heap k' u := by
    intro v hv
    obtain ⟨i, _, hi⟩ := List.mem_filterMap.mp hv
    cases hei : es[i]? with
    | none => rw [hei] at hi; cases hi
    | some e =>
      rw [hei] at hi
      obtain rfl : e.key = v := by simpa using hi
      obtain ⟨x, hx, rfl⟩ := hmem e (Array.mem_of_getElem? hei)
      exact ⟨x.1, his x hx⟩
  -- the entry at x
  have entry : ∀ {x : Nat}, x < es.size → ∃ k' u y, xs[x]? = some (k', u, y) ∧ KeyM s.heap k' u ∧ es[x]? = some ⟨k'.hash w, u, y⟩ := by
    intro x hlt
    obtain ⟨⟨k', b, v'⟩, hkv⟩ : ∃ y, xs[x]? = some y := ⟨xs[x]'(by rw [← hsz]; exact hlt), List.getElem?_eq_getElem _⟩
    exact ⟨k', b, v', hkv, his _ (List.mem_of_getElem? hkv), by rw [entM_at he x, hkv]; rfl⟩
  have old : wpAny (model prog w) A (dictWalkPlain d v (k.hash w) es (placesWithHash es.size (fun i => es[i]?.map (·.hash)) (k.hash w))) Q E s := by
    refine wpAny_bind ?_
    refine wpAny_forIn_list _
      (fun rest b s' => s' = s ∧ b = (none, ()) ∧ ∃ i, rest = (List.range' i (es.size - i)).filter (fun i => (es[i]?.map (·.hash)) == some (k.hash w)) ∧ i ≤ es.size ∧
        ∀ j p, j < i → xs[j]? ≠ some (k, p)) _ ?_ ?_ _ _
      ⟨rfl, rfl, 0, by rw [placesWithHash, List.range_eq_range', Nat.sub_zero], Nat.zero_le _, fun _ _ h => absurd h (Nat.not_lt_zero _)⟩
    · rintro x rest b s' ⟨rfl, rfl, i, hr, hi, hno⟩
      obtain ⟨hix, hxn, hpx, hskip, hrest⟩ := filter_range'_cons _ _ _ _ _ hr.symm
      have hlt : x < es.size := by omega
      have hrest' : rest = (List.range' (x + 1) (es.size - (x + 1))).filter (fun i => (es[i]?.map (·.hash)) == some (k.hash w)) := by rw [hrest]; congr 2; omega
      obtain ⟨k', u, y, hkv, hib, hex⟩ := entry hlt
      have hnx : ∀ j p, j < x → xs[j]? ≠ some (k, p) := fun j p hjx hj => by
        rcases Nat.lt_or_ge j i with h | h
        · exact hno j p h hj
        · have := hskip j h hjx
          rw [haskey j p hj] at this
          exact absurd this (by decide)
      have hstay : ¬ k' = k → ∀ j p, j < x + 1 → xs[j]? ≠ some (k, p) := fun hne j p hjx hj => by
        rcases Nat.lt_or_ge j x with h | h
        · exact hnx j p h hj
        · have hjx' : j = x := by omega
          subst hjx'
          rw [hkv] at hj
          injection hj with hj
          injection hj with hj
          exact hne hj
      rw [hex]
      dsimp only
      by_cases hh : (k'.hash w == k.hash w) = true
      · rw [if_pos hh]
        refine wpAny_bind (wpAny_dictEpoch ho hd (wpAny_bind (eqM hu hib hkey (wpAny_bind (wpAny_dictEpoch ho hd ?_)))))
        show wpAny _ _ (if (ep != ep) = true then _ else _) _ E _
        rw [if_neg (by simp)]
        by_cases hkk : k' = k
        · rw [decide_eq_true hkk]
          subst hkk
          exact wpAny_bind (wpAny_rule (wpAny_pure (wpAny_pure (hsome x _ hkv))))
        · rw [decide_eq_false hkk]
          exact wpAny_bind (wpAny_rule (wpAny_pure ⟨rfl, rfl, x + 1, hrest', hlt, hstay hkk⟩))
      · rw [if_neg hh]
        refine wpAny_pure ⟨rfl, rfl, x + 1, hrest', hlt, hstay ?_⟩
        intro hkk
        rw [hkk] at hh; simp at hh
    · rintro b s' ⟨rfl, rfl, i, hr, hi, hno⟩
      have hall : ∀ j, i ≤ j → j < es.size → ((es[j]?.map (·.hash)) == some (k.hash w)) = false := by
        intro j h1 h2
        have := List.filter_eq_nil_iff.mp hr.symm j (List.mem_range'_1.mpr ⟨h1, by omega⟩)
        simpa using this
      refine wpAny_pure (hnone fun j p hj => ?_)
      rcases Nat.lt_or_ge j i with h | h
      · exact hno j p h hj
      · have hjl : j < es.size := by
          rw [hsz]
          rcases Nat.lt_or_ge j xs.length with h' | h'
          · exact h'
          · rw [List.getElem?_eq_none h'] at hj; exact nomatch hj
        have := hall j h hjl
        rw [haskey j p hj] at this
        exact absurd this (by decide)
  have rest3 : wpAny (model prog w) A (do
      let stored := (placesWithHash es.size (fun i => es[i]?.map (·.hash)) (k.hash w)).filterMap fun i => es[i]?.map (·.key)
      let tells ← if stored == [v] then pure false else tableMayTell v stored
      if tells && stored.length ≥ 2 then unsupported "dict.find:order-among-keys-of-one-hash"
      let mut hit : Option Nat := none
      for i in placesWithHash es.size (fun i => es[i]?.map (·.hash)) (k.hash w) do
        if let some e := es[i]? then
          if e.hash == k.hash w then
            let before ← dictEpoch d (keyPart v)
            let same ← eqBool e.key v
            if (← dictEpoch d (keyPart v)) != before then unsupported "dict.changed-during-lookup"
            if same then
              if hit.isSome then unsupported "dict.find:order-among-keys-of-one-hash"
              rule "dict.find.hit"
              if stored.length < 2 then return some i
              hit := some i
            else
              rule "dict.find.same-hash-other-key"
              if tells && !(0 ≤ k.hash w && k.hash w < 32) then unsupported "dict.find:asked-again-or-not-hangs-on-the-table"
      return hit) Q E s := by
    by_cases hone : (((placesWithHash es.size (fun i => es[i]?.map (·.hash)) (k.hash w)).filterMap (fun i => es[i]?.map (·.key))) == [v]) = true <;>
    (dsimp only) <;> (first | rw [if_pos hone] | rw [if_neg hone]) <;> (first | refine wpAny_bind (wpAny_pure ?_) | refine wpAny_bind (tellM hkey hst ?_)) <;> (
      rw [if_neg (by simp)]
      refine wpAny_bind ?_
      refine wpAny_forIn_list _
        (fun rest b s' => s' = s ∧ ∃ i hit, b = (none, hit) ∧ rest = (List.range' i (es.size - i)).filter (fun i => (es[i]?.map (·.hash)) == some (k.hash w)) ∧ i ≤ es.size ∧
          ((hit = none ∧ ∀ j p, j < i → xs[j]? ≠ some (k, p)) ∨ ∃ j p, hit = some j ∧ j < i ∧ xs[j]? = some (k, p))) _ ?_ ?_ _ _
        ⟨rfl, 0, none, rfl, by rw [placesWithHash, List.range_eq_range', Nat.sub_zero], Nat.zero_le _, .inl ⟨rfl, fun _ _ h => absurd h (Nat.not_lt_zero _)⟩⟩
      · rintro x rest b s' ⟨rfl, i, hit, rfl, hr, hi, hH⟩
        obtain ⟨hix, hxn, hpx, hskip, hrest⟩ := filter_range'_cons _ _ _ _ _ hr.symm
        have hlt : x < es.size := by omega
        have hrest' : rest = (List.range' (x + 1) (es.size - (x + 1))).filter (fun i => (es[i]?.map (·.hash)) == some (k.hash w)) := by rw [hrest]; congr 2; omega
        obtain ⟨k', u, y, hkv, hib, hex⟩ := entry hlt
        have hHx : (hit = none ∧ ∀ j p, j < x → xs[j]? ≠ some (k, p)) ∨ ∃ j p, hit = some j ∧ j < x ∧ xs[j]? = some (k, p) := by
          rcases hH with ⟨h0, hno⟩ | ⟨j, p, h1, hji, hj⟩
          · refine .inl ⟨h0, fun j p hjx hj => ?_⟩
            rcases Nat.lt_or_ge j i with h | h
            · exact hno j p h hj
            · have := hskip j h hjx
              rw [haskey j p hj] at this
              exact absurd this (by decide)
          · exact .inr ⟨j, p, h1, by omega, hj⟩
        have hstay : ¬ k' = k → ((hit = none ∧ ∀ j p, j < x + 1 → xs[j]? ≠ some (k, p)) ∨ ∃ j p, hit = some j ∧ j < x + 1 ∧ xs[j]? = some (k, p)) := by
          intro hne
          rcases hHx with ⟨h0, hno⟩ | ⟨j, p, h1, hjx, hj⟩
          · refine .inl ⟨h0, fun j p hjx hj => ?_⟩
            rcases Nat.lt_or_ge j x with h | h
            · exact hno j p h hj
            · have hjx' : j = x := by omega
              subst hjx'
              rw [hkv] at hj
              injection hj with hj
              injection hj with hj
              exact hne hj
          · exact .inr ⟨j, p, h1, by omega, hj⟩
        rw [hex]
        dsimp only
        by_cases hh : (k'.hash w == k.hash w) = true
        · rw [if_pos hh]
          refine wpAny_bind (wpAny_dictEpoch ho hd (wpAny_bind (eqM hu hib hkey (wpAny_bind (wpAny_dictEpoch ho hd ?_)))))
          show wpAny _ _ (if (ep != ep) = true then _ else _) _ E _
          rw [if_neg (by simp)]
          by_cases hkk : k' = k
          · rw [decide_eq_true hkk]
            subst hkk
            rcases hHx with ⟨rfl, _⟩ | ⟨j, p, _, hjx, hj⟩
            · first | rw [if_pos rfl] | skip
              simp only [Option.isSome_none, Bool.false_eq_true, if_false]
              first | refine wpAny_bind (wpAny_pure ?_) | skip
              refine wpAny_bind (wpAny_rule ?_)
              split
              · exact wpAny_pure (wpAny_pure (hsome x _ hkv))
              · exact wpAny_pure ⟨rfl, x + 1, some x, rfl, hrest', hlt, .inr ⟨x, _, rfl, Nat.lt_succ_self x, hkv⟩⟩
            · exact absurd (idxM hn hj hkv) (by omega)
          · rw [decide_eq_false hkk]
            simp only [Bool.false_eq_true, if_false]
            refine wpAny_bind (wpAny_rule ?_)
            first | rw [if_neg (by simp)] | skip
            first
              | exact wpAny_pure ⟨rfl, x + 1, hit, rfl, hrest', hlt, hstay hkk⟩
              | exact wpAny_bind (wpAny_pure (wpAny_pure ⟨rfl, x + 1, hit, rfl, hrest', hlt, hstay hkk⟩))
        · rw [if_neg hh]
          refine wpAny_pure ⟨rfl, x + 1, hit, rfl, hrest', hlt, hstay ?_⟩
          intro hkk
          rw [hkk] at hh; simp at hh
      · rintro b s' ⟨rfl, i, hit, rfl, hr, hi, hH⟩
        have hall : ∀ j, i ≤ j → j < es.size → ((es[j]?.map (·.hash)) == some (k.hash w)) = false := by
          intro j h1 h2
          have := List.filter_eq_nil_iff.mp hr.symm j (List.mem_range'_1.mpr ⟨h1, by omega⟩)
          simpa using this
        rcases hH with ⟨rfl, hno⟩ | ⟨j, p, rfl, _, hj⟩
        · refine wpAny_pure (hnone fun j p hj => ?_)
          rcases Nat.lt_or_ge j i with h | h
          · exact hno j p h hj
          · have hjl : j < es.size := by
              rw [hsz]
              rcases Nat.lt_or_ge j xs.length with h' | h'
              · exact h'
              · rw [List.getElem?_eq_none h'] at hj; exact nomatch hj
            have := hall j h hjl
            rw [haskey j p hj] at this
            exact absurd this (by decide)
        · exact wpAny_pure (hsome j p hj))
  unfold dictFind
  try with_reducible refine wpAny_holding ?_
  refine wpAny_bind (wpAny_dictEntries ho hd ?_)
  cases v with
  | str x t =>
    have ek : k = .text x := by
      cases hkey.1
      rfl
    subst ek
    dsimp only
    by_cases hs : (es.all fun e => isExactStrKey e.key) = true
    · rw [if_pos hs]
      unfold foundByValue
      cases hf : es.findIdx? (fun e => e.key.isStr x) with
      | none =>
        refine wpAny_pure (hnone fun j p hj => ?_)
        have hjl : j < es.size := by
          rw [hsz]
          exact (List.getElem?_eq_some_iff.mp hj).1
        obtain ⟨k', u, y, hkv, hib, hex⟩ := entry hjl
        rw [hj] at hkv
        obtain ⟨rfl, rfl⟩ : NestedKey.text x = k' ∧ p = (u, y) := by
          injection hkv with hkv
          injection hkv with h1 h2
          exact ⟨h1, h2⟩
        have q := Array.findIdx?_eq_none_iff.mp hf _ (Array.mem_of_getElem? hex)
        have hu2 : ∃ t', u = Value.str x t' := by
          have := hib.1
          cases this
          exact ⟨_, rfl⟩
        obtain ⟨t', rfl⟩ := hu2
        simp [Value.isStr] at q
      | some i =>
        obtain ⟨hlt, hi, _⟩ := Array.findIdx?_eq_some_iff_getElem.mp hf
        obtain ⟨k', u, y, hkv, hib, hex⟩ := entry hlt
        have e0 : es[i] = ⟨k'.hash w, u, y⟩ := by
          rw [Array.getElem?_eq_getElem hlt] at hex
          exact Option.some.inj hex
        rw [e0] at hi
        have hk2 : k' = .text x := by
          cases u with
          | str x2 t2 =>
            have h2 := hib.1
            have hx2 : x2 = x := by simpa [Value.isStr] using hi
            subst hx2
            cases h2
            rfl
          | _ => simp [Value.isStr] at hi
        subst hk2
        dsimp only
        rw [hex]
        dsimp only
        refine wpAny_bind (wpAny_dictEpoch ho hd (wpAny_bind (eqM hu hib hkey (wpAny_bind (wpAny_dictEpoch ho hd ?_)))))
        show wpAny _ _ (if (ep != ep) = true then _ else _) _ E _
        rw [if_neg (by simp), decide_eq_true rfl]
        exact wpAny_bind (wpAny_rule (wpAny_pure (hsome i _ hkv)))
    · rw [if_neg hs]
      by_cases hc : ((Value.str x t :: (placesWithHash es.size (fun i => es[i]?.map (·.hash)) (NestedKey.hash w (.text x))).filterMap fun i => es[i]?.map (·.key)).all carriedByValue) = true
      · rw [if_pos hc]; exact old
      · rw [if_neg hc]; exact rest3
  | ref a =>
    dsimp only
    rw [if_neg (show ¬ ((Value.ref a :: (placesWithHash es.size (fun i => es[i]?.map (·.hash)) (k.hash w)).filterMap (fun i => es[i]?.map (·.key))).all carriedByValue) = true by simp [carriedByValue])]
    rw [if_neg (hany a rfl)]
    exact rest3
  | none =>
    dsimp only
    by_cases hc : ((Value.none :: (placesWithHash es.size (fun i => es[i]?.map (·.hash)) (k.hash w)).filterMap fun i => es[i]?.map (·.key)).all carriedByValue) = true
    · rw [if_pos hc]; exact old
    · rw [if_neg hc]; exact rest3
  | bool b =>
    dsimp only
    by_cases hc : ((Value.bool b :: (placesWithHash es.size (fun i => es[i]?.map (·.hash)) (k.hash w)).filterMap fun i => es[i]?.map (·.key)).all carriedByValue) = true
    · rw [if_pos hc]; exact old
    · rw [if_neg hc]; exact rest3
  | int i t =>
    dsimp only
    by_cases hc : ((Value.int i t :: (placesWithHash es.size (fun i => es[i]?.map (·.hash)) (k.hash w)).filterMap fun i => es[i]?.map (·.key)).all carriedByValue) = true
    · rw [if_pos hc]; exact old
    · rw [if_neg hc]; exact rest3
  | _ => exact absurd hkey.1 (by intro z; cases z)
end
end PySem
/-! ## MX2 -/
set_option Elab.async false
set_option linter.all false
set_option maxRecDepth 100000
set_option maxHeartbeats 4000000
namespace PySem
open Sem (wp)
open PySem.Spec PyProof.Rows L2
def DictM (w : World) (h : Heap) (d : Addr) (xs : List MEnt) : Prop := ∃ o es ep, h.get? d = some o ∧ o.ExactDict ∧ o.data = .dict es ep ∧ es.toList = xs.map (entM w) ∧ (xs.map (·.1)).Nodup
theorem KeyM.ext {h h' : Heap} {k : NestedKey} {v : Value} (x : KeyM h k v) (e : ∀ b o, h.get? b = some o → h'.get? b = some o) : KeyM h' k v := ⟨NestedIs.at (fun a o vs n ho _ => e a o ho) k v x.1, x.2⟩
theorem DictM.typeIs {w : World} {s : Shared} {d : Addr} {xs : List MEnt} (x : DictM w s.heap d xs) : s.TypeIs (.ref d) "dict" := let ⟨o, _, _, ho, hc, _⟩ := x; ⟨o, ho, hc.1⟩
theorem DictM.at {w : World} {h h' : Heap} {d : Addr} {xs : List MEnt} (x : DictM w h d xs) (e : ∀ o, h.get? d = some o → h'.get? d = some o) : DictM w h' d xs := let ⟨o, es, ep, ho, r⟩ := x; ⟨o, es, ep, e _ ho, r⟩
theorem DictM.new {w : World} {h : Heap} : DictM w (h.push { cls := .type "dict", data := .dict #[] }) h.objs.size [] := ⟨_, #[], 0, Heap.get?_push_size _ rfl, ⟨rfl, rfl, rfl⟩, rfl, rfl, List.nodup_nil⟩
section
variable {prog : Program} {w : World} {A : Around} {E : Value → Shared → Prop} {s : Shared}
theorem hashM {k : NestedKey} {v : Value} {Q : Int → Shared → Prop} (hu : A.units + 8 < cLine) (hkey : KeyM s.heap k v) (h : ∀ t, Q (k.hash w) { s with toks := t }) : wpAny (model prog w) A (pyHash v) Q E s :=
  pyHash_key k v A s Q hkey.1 (by have := hkey.2; omega) (h _)
theorem getM {d : Addr} {xs : List MEnt} {k : NestedKey} {v : Value} {j : Nat} {p : Value × Value} {Q : Value → Shared → Prop} (hu : A.units + 10 < cLine) (hkey : KeyM s.heap k v) (hm : DictM w s.heap d xs) (hk : ∀ x ∈ xs, KeyM s.heap x.1 x.2.1) (hp : xs[j]? = some (k, p))
    (h : ∀ t, Q p.2 { s with toks := t }) : wpAny (model prog w) A (getItem (.ref d) v) Q E s := by
  unfold getItem
  try with_reducible refine wpAny_holding ?_
  refine wpAny_bind (wpAny_sequenceKey hm.typeIs (by decide) ?_)
  refine wpAny_bind (wpAny_callSpecial?_slot (name := Str.ofString "__getitem__") hm.typeIs slot_dict_getitem
    (wpAny_call_entry slot_dict_getitem hm.typeIs entry_dict_getitem ?_ (args_dict_getitem _ _)))
  show wpAny _ _ (dictGet d v >>= _) _ _ s
  refine wpAny_bind ?_
  obtain ⟨o, es, ep, ho, hc, hd, he, hn⟩ := hm
  unfold dictGet
  try with_reducible refine wpAny_holding ?_
  have hu1 : A.in1.units + 8 < cLine := by
    show A.units + 1 + 8 < cLine
    omega
  refine wpAny_bind (hashM hu1 hkey fun t => wpAny_bind (findM (s := { s with toks := t }) hu1 hkey ho hd he hk hn (fun z => absurd hp (z j p)) fun i q hi => ?_))
  refine wpAny_bind (wpAny_dictEntries (s := { s with toks := t }) ho hd (wpAny_pure ?_))
  have e : i = j := idxM hn hi hp
  subst e
  rw [hp] at hi
  have eq : p = q := by
    injection hi with hi
    injection hi
  subst eq
  have ev : (es[i]?).map (·.val) = some p.2 := by
    rw [entM_at he i, hp]
    rfl
  rw [ev]
  exact wpAny_pure ⟨p.2, rfl, wpAny_pure (h t)⟩
theorem setM {d : Addr} {xs : List MEnt} {k : NestedKey} {key v : Value} {Q : Unit → Shared → Prop} (hu : A.units + 8 < cLine) (hkey : KeyM s.heap k key) (hm : DictM w s.heap d xs) (hk : ∀ x ∈ xs, KeyM s.heap x.1 x.2.1) (hnew : k ∉ xs.map (·.1)) (hz : xs.length ≤ sizeLine)
    (hQ : ∀ h' t, DictM w h' d (xs ++ [(k, key, v)]) → Heap.SameBut d s.heap h' → Q () { s with heap := h', toks := t }) : wpAny (model prog w) A (dictSet d key v) Q E s := by
  obtain ⟨o, es, ep, ho, hc, hd, he, hn⟩ := hm
  unfold dictSet
  try with_reducible refine wpAny_holding ?_
  refine wpAny_bind (hashM hu hkey fun t => ?_)
  unfold dictSetHashed
  try with_reducible refine wpAny_holding ?_
  refine wpAny_bind (findM (s := { s with toks := t }) hu hkey ho hd he hk hn (fun z => ?_) fun i q hi => absurd (List.mem_map.mpr ⟨_, List.mem_of_getElem? hi, rfl⟩) hnew)
  refine wpAny_bind (wpAny_rule (wpAny_updateDictKeys (hz := by have e := entM_size he; omega) (s := { s with toks := t }) ho hd (hQ _ t ⟨_, _, ep + 1, Heap.get?_update_self _ ho (Obj.isFreed_of_dict (Obj.data_mapDictKeys hd _)),
      hc.mapDictKeys _, Obj.data_mapDictKeys hd _, ?_, ?_⟩ (Heap.SameBut.update ..))))
  · simp [he, entM]
  · rw [List.map_append, List.nodup_append]
    refine ⟨hn, by simp, ?_⟩
    intro x hx y hy
    simp only [List.map_cons, List.map_nil, List.mem_singleton] at hy
    subst hy
    exact fun e => hnew (e ▸ hx)
/-- the walk over the pairs -/
theorem upd_loopM {R : Result → Shared → Prop} {S I l : Addr} {items : Array Value} {res : Value} {hB : Heap} (hh : A.handled = none) (hu : A.units + 12 < cLine) (hlI : l ≠ I) (hSI : S ≠ I) (hSl : S ≠ l) (bS : hB.get? S = none) (bI : hB.get? I = none) :
    ∀ (rest : List MEnt) (i : Nat) (acc : List MEnt) (ix : Int) (t : Tok) (s : Shared), items.size = i + rest.length → acc.length + rest.length ≤ sizeLine →
      (∀ (j : Nat) (q : MEnt), rest[j]? = some q → ∃ b : Addr, items[i + j]? = some (.ref b) ∧ IsTup hB b #[q.2.1, q.2.2]) →
      (∀ q ∈ acc ++ rest, KeyM hB q.1 q.2.1) → ((acc ++ rest).map (·.1)).Nodup → (∀ b o, hB.get? b = some o → s.heap.get? b = some o) →
      s.heap.IsListIter I l i → s.heap.IsList l items → DictM w s.heap S acc →
      (∀ h' tk, DictM w h' S (acc ++ rest) → (∀ b o, b ≠ S → b ≠ I → s.heap.get? b = some o → h'.get? b = some o) → R (.ok (.ret res)) { s with heap := h', toks := tk }) →
      codeAny (model prog w) A (.builtin "dict.update.loop" ⟨[.ref S, .ref I, .int ix t, res], []⟩) R s
  | [], i, acc, ix, t, s, hsz, hln, ht, hks, hnd, hb, hit, hl, hm, hR => by
    refine codeAny_builtin ud_entry ?_
    rw [Around.under_plainId ud_plain _]
    show wpAny _ A.in1 (pyNext (.ref I) >>= _) _ _ s
    refine wpAny_bind (wpAny_pyNext_list_end (A := A.in1) hh hit hl (by first | exact Array.getElem?_eq_none (Nat.le_of_eq hsz) | (simp at hsz; simp; omega)) fun h' he => ?_)
    show wpAny _ A.in1 (Builtin.Dict.addKeywords S [] >>= _) _ _ _
    refine wpAny_bind (wpAny_pure (wpAny_pure ?_))
    refine hR h' s.toks ?_ fun b o _ hb e => he b o hb e
    rw [List.append_nil]
    exact hm.at fun o e => he S o hSI e
  | q :: rest, i, acc, ix, t, s, hsz, hln, ht, hks, hnd, hB0, hit, hl, hm, hR => by
    obtain ⟨b, hb, htup⟩ := ht 0 q rfl
    have hbS : b ≠ S := fun z => by
      obtain ⟨o, e, _⟩ := htup
      rw [z, bS] at e
      cases e
    have hbI : b ≠ I := fun z => by
      obtain ⟨o, e, _⟩ := htup
      rw [z, bI] at e
      cases e
    rw [List.length_cons] at hsz hln
    refine codeAny_builtin ud_entry ?_
    rw [Around.under_plainId ud_plain _]
    show wpAny _ A.in1 (pyNext (.ref I) >>= _) _ _ s
    refine wpAny_bind (wpAny_pyNext_list_item (x := .ref b) hit hl (by simpa using hb) fun h1 hit1 hs1 => ?_)
    have ext1 : ∀ c o, hB.get? c = some o → h1.get? c = some o := fun c o e => hs1.extBut c o (fun z => by rw [z, bI] at e; cases e) (hB0 c o e)
    have ht1 : IsTup h1 b #[q.2.1, q.2.2] := htup.keeps ext1
    have hl1 : h1.IsList l items := hl.extBut hs1.extBut hlI
    have hm1 : DictM w h1 S acc := hm.at fun o e => hs1.extBut S o hSI e
    obtain ⟨o, ho, hc, n, hd⟩ := id ht1
    show wpAny _ A.in1 (holding [Value.ref b] _ >>= _) _ _ _
    refine wpAny_bind (wpAny_holding ?_)
    refine wpAny_bind (wpAny_tryCatch ?_)
    unfold Builtin.Dict.pairItems
    refine wpAny_bind (wpAny_typeOf (T := "tuple") ⟨o, ho, hc⟩ ?_)
    rw [if_pos (by first | decide | rfl | simp)]
    refine wpAny_bind (wpAny_seqItems ho hd (wpAny_pure ?_))
    show wpAny _ A.in1 (holding [q.2.1, q.2.2] (dictSet S q.2.1 q.2.2)) _ _ _
    have kq : KeyM h1 q.1 q.2.1 := (hks q (by simp)).ext ext1
    have hka : ∀ x ∈ acc, KeyM h1 x.1 x.2.1 := fun x hx => (hks x (List.mem_append_left _ hx)).ext ext1
    have hnew : q.1 ∉ acc.map (·.1) := fun z => by
      rw [List.map_append, List.nodup_append] at hnd
      exact hnd.2.2 _ z _ (by simp) rfl
    refine wpAny_holding (setM (s := { s with heap := h1 }) (by show A.units + 1 + 8 < cLine; omega) kq hm1 hka hnew (by omega) (fun h2 tk hm2 hs2 => ?_))
    have e2 : acc ++ [(q.1, q.2.1, q.2.2)] ++ rest = acc ++ q :: rest := by simp
    refine wpAny_pure ⟨plainId_quiet ud_plain _, upd_loopM (items := items) (hB := hB) hh hu hlI hSI hSl bS bI rest (i + 1) (acc ++ [(q.1, q.2.1, q.2.2)]) (ix + 1) 0 _ (show items.size = i + 1 + rest.length by omega) ?_ (fun j q' e => ?_) ?_ ?_ (fun c oc e => ?_) ?_ ?_ hm2 fun h' tk hd' k => ?_⟩
    · rw [List.length_append]
      show acc.length + 1 + rest.length ≤ sizeLine
      omega
    · obtain ⟨b', hb', htup'⟩ := ht (j + 1) q' (by simpa using e)
      refine ⟨b', ?_, htup'⟩
      rw [show i + 1 + j = i + (j + 1) by omega]
      exact hb'
    · rw [e2]
      exact hks
    · rw [e2]
      exact hnd
    · exact hs2.extBut c oc (fun z => by rw [z, bS] at e; cases e) (ext1 c oc e)
    · exact hit1.at fun o' e => hs2.extBut I o' (Ne.symm hSI) e
    · exact hl1.extBut hs2.extBut (Ne.symm hSl)
    · rw [e2] at hd'
      exact hR h' tk hd' fun c oc h3 h4 e => k c oc h3 h4 (hs2.extBut c oc h3 (hs1.extBut c oc h4 e))
/-- dict(l) of a list of pairs, all keys unlike -/
theorem call_dictM {l : Addr} {ol : Obj} {items : Array Value} {n : Nat} {prs : List MEnt} {Q : Value → Shared → Prop} (hh : A.handled = none) (hu : A.units + 16 < cLine) (hl : s.heap.get? l = some ol) (hc : ol.cls = .type "list") (hd : ol.dict = none)
    (hdat : ol.data = .seq items n) (hsz : items.size = prs.length) (hln : prs.length ≤ sizeLine)
    (ht : ∀ (j : Nat) (q : MEnt), prs[j]? = some q → ∃ b : Addr, items[j]? = some (.ref b) ∧ IsTup s.heap b #[q.2.1, q.2.2]) (hks : ∀ q ∈ prs, KeyM s.heap q.1 q.2.1) (hnd : (prs.map (·.1)).Nodup)
    (h : ∀ h' tk, DictM w h' s.heap.objs.size prs → (∀ b o, s.heap.get? b = some o → h'.get? b = some o) → Q (.ref s.heap.objs.size) { s with heap := h', toks := tk }) :
    wpAny (model prog w) A (call (.type "dict") [.ref l]) Q E s := by
  refine callType_codes (Q₁ := fun obj s1 => obj = .ref s.heap.objs.size ∧ s1 = { s with heap := s.heap.push { cls := .type "dict", data := .dict #[] } }) PySem.F.kt_called_dict (PySem.F.kt_typeCall_dict_1 _) PySem.F.entry_dict_init (kt_code_dict_new _ ⟨rfl, rfl⟩) ?_
  rintro obj s1 ⟨rfl, rfl⟩
  have hnew : DictM w (s.heap.push { cls := .type "dict", data := .dict #[] }) s.heap.objs.size [] := DictM.new
  have k0 : ∀ b o, s.heap.get? b = some o → (s.heap.push { cls := .type "dict", data := .dict #[] }).get? b = some o := fun b o e => Heap.get?_push_of_some _ e
  refine ⟨DictM.typeIs (s := { s with heap := s.heap.push { cls := .type "dict", data := .dict #[] } }) hnew, PySem.F.args_dict_init_2 _ _, ?_⟩
  unfold Builtin.«dict.__init__»
  refine wpAny_bind ?_
  unfold Builtin.Dict.selfAndRest
  refine wpAny_bind (wpAny_notOrdered_dict (DictM.typeIs (s := { s with heap := s.heap.push { cls := .type "dict", data := .dict #[] } }) hnew) ?_)
  show wpAny _ _ (pure (s.heap.objs.size, [Value.ref l])) _ _ _
  refine wpAny_pure ?_
  show wpAny _ _ (Builtin.Dict.updateFrom "dict.__init__" s.heap.objs.size (.ref l) [] .none) _ _ _
  unfold Builtin.Dict.updateFrom
  refine wpAny_bind (wpAny_typeOf (T := "list") ⟨ol, k0 _ _ hl, hc⟩ ?_)
  rw [if_pos (by first | decide | rfl | simp)]
  refine wpAny_bind (miss_list (k0 _ _ hl) hc hdat hd hh fun h1 tk1 hk1 => ?_)
  rw [if_pos (show (none : Option Value).isNone = true from rfl)]
  refine wpAny_bind (wpAny_rule ?_)
  have hl1 : h1.IsList l items := ⟨ol, hk1 _ _ (k0 _ _ hl), hc, n, hdat⟩
  have hS1 : s.heap.objs.size < h1.objs.size := by
    have e : (s.heap.push { cls := .type "dict", data := .dict #[] }).get? s.heap.objs.size = some { cls := .type "dict", data := .dict #[] } := Heap.get?_push_size _ rfl
    exact Heap.lt_size (hk1 _ _ e)
  refine wpAny_bind (wpAny_pyIter_list hl1 ?_)
  have k2 : ∀ b o, h1.get? b = some o → (h1.push { cls := .type "list_iterator", data := .fields #[.ref l, .int 0 0] }).get? b = some o := fun b o e => Heap.get?_push_of_some _ e
  have hlt : l < s.heap.objs.size := Heap.lt_size hl
  have none_ge : ∀ b, s.heap.objs.size ≤ b → s.heap.get? b = none := fun b hb => by
    cases q : s.heap.get? b with
    | none => rfl
    | some o => exact absurd (Heap.lt_size q) (Nat.not_lt.mpr hb)
  have key := upd_loopM (prog := prog) (w := w) (A := A.in1) (R := wants (fun r s2 => r = .none ∧ Q (.ref s.heap.objs.size) s2) E) (S := s.heap.objs.size) (I := h1.objs.size) (l := l) (items := items) (res := Value.none) (hB := s.heap) hh (by show A.units + 1 + 12 < cLine; omega)
    (Nat.ne_of_lt (Nat.lt_trans hlt hS1)) (Nat.ne_of_lt hS1) (Nat.ne_of_gt hlt) (none_ge _ (Nat.le_refl _)) (none_ge _ (Nat.le_of_lt hS1)) prs 0 [] 0 0
    { s with heap := h1.push { cls := .type "list_iterator", data := .fields #[.ref l, .int 0 0] }, toks := tk1 } (by rw [hsz, Nat.zero_add]) (by rw [List.length_nil, Nat.zero_add]; exact hln)
    (fun j q e => by
      obtain ⟨b, e1, e2⟩ := ht j q e
      exact ⟨b, by rw [Nat.zero_add]; exact e1, e2⟩)
    (by rw [List.nil_append]; exact hks) (by rw [List.nil_append]; exact hnd) (fun c o z => k2 _ _ (hk1 _ _ (k0 _ _ z)))
    ⟨_, Heap.get?_push_size _ rfl, rfl, rfl⟩ (hl1.at fun o e => k2 _ _ e) ((hnew.at fun o e => hk1 _ _ e).at fun o e => k2 _ _ e)
    (fun h' tk hd' k => ⟨rfl, h h' tk (by rw [List.nil_append] at hd'; exact hd') fun b o e => k b o (Nat.ne_of_lt (Heap.lt_size e)) (Nat.ne_of_lt (Nat.lt_trans (Heap.lt_size e) hS1)) (k2 _ _ (hk1 _ _ (k0 _ _ e)))⟩)
  first
    | exact wpAny_pure ⟨plainId_quiet ud_plain _, key⟩
    | exact wpAny_bind (wpAny_pure (wpAny_pure ⟨plainId_quiet ud_plain _, key⟩))
end
end PySem
/-! ## MX3 -/
set_option Elab.async false
set_option linter.all false
set_option maxRecDepth 100000
set_option maxHeartbeats 4000000
/-! Rules: dicts of mixed keys; equality that is false by size; lists of tuples compared. -/
namespace K01
open PySem PySem.Spec PyProof.Rows L2
/-- a key, as a value; tuples of texts alone -/
inductive KeyAt (H : Hp) : NestedKey → V → Prop
  | none : KeyAt H .none .non
  | num (i : Int) : KeyAt H (.num i) (.int i)
  | text (x : Str) : KeyAt H (.text x) (.str x)
  | tup {q : Addr} {x : Str} : H q = some (.tup [.str x]) → KeyAt H (.tup [.text x]) (.ref q)
abbrev VEnt := NestedKey × V × V
def EntR (p : VEnt) (q : MEnt) : Prop := p.1 = q.1 ∧ RelV p.2.1 q.2.1 ∧ RelV p.2.2 q.2.2
def MixO (w : World) (a : Addr) (kvs : List VEnt) : HO := .ext fun h => (a == sysModules) = false ∧ ∃ xs : List MEnt, Paired EntR kvs xs ∧ DictM w h a xs
def KeysAt (H : Hp) (kvs : List VEnt) : Prop := ∀ p ∈ kvs, KeyAt H p.1 p.2.1
theorem KeyAt.up {H H' : Hp} {k : NestedKey} {v : V} (x : KeyAt H k v) (e : ∀ b o, H b = some o → H' b = some o) : KeyAt H' k v := by
  cases x with
  | none => exact .none
  | num i => exact .num i
  | text x => exact .text x
  | tup h => exact .tup (e _ _ h)
theorem KeyAt.up2 {H H' : Hp} {k : NestedKey} {v : V} (x : KeyAt H k v) (e : ∀ b xs, H b = some (.tup xs) → H' b = some (.tup xs)) : KeyAt H' k v := by
  cases x with
  | none => exact .none
  | num i => exact .num i
  | text x => exact .text x
  | tup h => exact .tup (e _ _ h)
section
variable {X : Cx} {pins : List (Addr × Obj)} {σ : L2.St} {H : Hp} {s : Shared}
theorem KeyAt.keyM (I : Inv X pins σ H s) {k : NestedKey} {v : V} {u : Value} (x : KeyAt H k v) (r : RelV v u) : KeyM s.heap k u := by
  cases x with
  | none => cases (show u = Value.none from r); exact ⟨.none, by decide⟩
  | num i => obtain ⟨t, rfl⟩ := (show ∃ t, u = Value.int i t from r); exact ⟨.int i t, by show (0 : Nat) ≤ 8; decide⟩
  | text x => obtain ⟨t, rfl⟩ := (show ∃ t, u = Value.str x t from r); exact ⟨.text x t, by show (0 : Nat) ≤ 8; decide⟩
  | @tup q x h =>
    cases (show u = Value.ref q from r)
    obtain ⟨_, its, rv, o, ho, hc, n, hd⟩ := (show ObjOk X.prog X.w H s.heap q (.tup [.str x]) from I.hok q _ h)
    obtain ⟨y, rfl, ry⟩ := vals1 rv
    obtain ⟨t, rfl⟩ := (show ∃ t, y = Value.str x t from ry)
    exact ⟨.tup ho hc hd (.cons (.text x t) .nil), by show (max 0 0) + 1 ≤ 8; decide⟩
theorem paired_mem2 {α β : Type} {F : α → β → Prop} : ∀ {xs : List α} {ys : List β}, Paired F xs ys → ∀ {y : β}, y ∈ ys → ∃ x ∈ xs, F x y
  | _, _, .cons h t, y, hy => by
    rcases List.mem_cons.mp hy with e | hy
    · rw [e]
      exact ⟨_, List.mem_cons_self, h⟩
    · obtain ⟨x, hx, f⟩ := paired_mem2 t hy
      exact ⟨x, List.mem_cons_of_mem _ hx, f⟩
theorem paired_at {α β : Type} {F : α → β → Prop} : ∀ {xs : List α} {ys : List β}, Paired F xs ys → ∀ {i : Nat} {x : α}, xs[i]? = some x → ∃ y, ys[i]? = some y ∧ F x y
  | _, _, .nil, i, x, h => by simp at h
  | _, _, .cons r t, 0, x, h => by
    have e := Option.some.inj (by simpa using h)
    subst e
    exact ⟨_, rfl, r⟩
  | _, _, .cons r t, i + 1, x, h => by simpa using paired_at t (by simpa using h)
theorem keys_all (I : Inv X pins σ H s) {kvs : List VEnt} {xs : List MEnt} (ks : KeysAt H kvs) (p : Paired EntR kvs xs) : ∀ x ∈ xs, KeyM s.heap x.1 x.2.1 := fun x hx => by
  obtain ⟨y, hy, e, r, _⟩ := paired_mem2 p hx
  rw [← e]
  exact (ks y hy).keyM I r
theorem keys_eq {kvs : List VEnt} {xs : List MEnt} (p : Paired EntR kvs xs) : xs.map (·.1) = kvs.map (·.1) := by
  induction p with
  | nil => rfl
  | cons h _ ih => rw [List.map_cons, List.map_cons, ih, h.1]
theorem prs_of (I : Inv X pins σ H s) : ∀ {ps : List Addr} {kvs : List VEnt}, Paired (fun p (kv : VEnt) => SqT X.K H p [kv.2.1, kv.2.2]) ps kvs →
    ∃ prs : List MEnt, Paired EntR kvs prs ∧ prs.length = ps.length ∧ ∀ (j : Nat) (q : MEnt), prs[j]? = some q → ∃ b : Addr, ps[j]? = some b ∧ IsTup s.heap b #[q.2.1, q.2.2]
  | _, _, .nil => ⟨[], .nil, rfl, fun j q e => by simp at e⟩
  | _, _, .cons (a := p) (b := kv) h t => by
    obtain ⟨prs, r, hl, hp⟩ := prs_of I t
    obtain ⟨its, rv, ht, _⟩ := I.tuple h
    obtain ⟨u, y, ei, ru, ry⟩ := vals2 rv
    subst ei
    refine ⟨(kv.1, u, y) :: prs, .cons ⟨rfl, ru, ry⟩ r, by rw [List.length_cons, List.length_cons, hl], fun j q e => ?_⟩
    cases j with
    | zero =>
      have e' : (kv.1, u, y) = q := Option.some.inj e
      subst e'
      exact ⟨p, rfl, ht⟩
    | succ j =>
      obtain ⟨b, e1, e2⟩ := hp j q (by simpa using e)
      exact ⟨b, by simpa using e1, e2⟩
theorem mixO_ok {w : World} {P : Program} {h : Heap} {a : Addr} {kvs : List VEnt} {xs : List MEnt} (z : (a == sysModules) = false) (p : Paired EntR kvs xs) (d : DictM w h a xs) : ObjOk P w H h a (MixO w a kvs) := by
  refine ⟨⟨z, xs, p, d⟩, ?_, fun h1 h2 ⟨z, xs, p, d⟩ k => ⟨z, xs, p, d.at k⟩⟩
  obtain ⟨o, _, _, ho, _⟩ := d
  exact ⟨o, ho⟩
end
section
variable {X : Cx}
/-- dict(xs) of a list of pairs, the keys unlike and of any of these kinds -/
theorem call_dictMix (hcalm : X.calm = true) (hu : X.A.units + 20 < cLine) : CallR X (.type "dict") (fun xs H Q => ∃ (a : Addr) (ps : List Addr) (kvs : List VEnt), xs = [.ref a] ∧ SqL X.K H a (ps.map V.ref) ∧ Paired (fun p (kv : VEnt) => SqT X.K H p [kv.2.1, kv.2.2]) ps kvs ∧
    KeysAt H kvs ∧ (kvs.map (·.1)).Nodup ∧ ∀ p, H p = none → Q (.ref p) (upd H p (MixO X.w p kvs))) := by
  intro pins s σ H xs us Q I r q
  obtain ⟨a, ps, kvs, ex, hq, hp, ka, hn, q⟩ := q
  subst ex
  obtain ⟨u, eu, rx⟩ := vals1 r
  subst eu
  cases rx
  obtain ⟨its, rv, pl, hz⟩ := I.list hq
  have ei := refs_at rv
  subst ei
  rw [List.length_map] at hz
  obtain ⟨prs, rel, hl, hpr⟩ := prs_of I hp
  obtain ⟨o, n, ho, hc, hd, hdat⟩ := pl
  refine call_dictM (prs := prs) (I.ok.hd hcalm) (by omega) ho hc hd hdat (by simp [hl]) (by rw [hl]; exact hz) (fun j q' e => ?_) (keys_all I ka rel) (by rw [keys_eq rel]; exact hn) fun h' tk hd' k => ?_
  · obtain ⟨b, e1, e2⟩ := hpr j q' e
    exact ⟨b, by simp [e1], e2⟩
  · have hm : (s.heap.objs.size == sysModules) = false := beq_eq_false_iff_ne.mpr (Nat.ne_of_gt I.big)
    exact ⟨.ref s.heap.objs.size, upd H s.heap.objs.size (MixO X.w s.heap.objs.size kvs), I.laid (t' := tk) k (Nat.le_refl _) (mixO_ok hm rel hd'), rfl, q _ (I.hok.fresh (Nat.le_refl _))⟩
/-- isinstance(x, dict): also of such a dict -/
def rIsiM (K : PySem.W.Frag) (w : World) : List V → Hp → VK → Prop := fun xs H Q => rIsi K xs H Q ∨ ∃ a kvs, xs = [.ref a, .ty "dict"] ∧ H a = some (MixO w a kvs) ∧ Q (.bl true) H
theorem call_isiM : CallR X (.builtin "isinstance") (rIsiM X.K X.w) := by
  intro pins s σ H xs us Q I r h
  rcases h with h | ⟨a, kvs, rfl, ha, q⟩
  · exact call_isi pins s σ H xs us Q I r h
  · obtain ⟨u1, u2, rfl, r1, r2⟩ := vals2 r
    cases (show u1 = Value.ref a from r1)
    cases (show u2 = Value.type "dict" from r2)
    obtain ⟨⟨_, _, _, o, es, ep, ho, hx, _⟩, _, _⟩ := (show ObjOk X.prog X.w H s.heap a (MixO X.w a kvs) from I.hok a _ ha)
    exact PySem.W.kia_one PySem.W.kitx_dict I.kIn ⟨o, ho, hx.1⟩ (b := true) (kit_ty (K := X.K) (by decide +kernel)) (fun z => nomatch z) fun tk => ⟨.bl true, H, I.tok tk, rfl, q⟩
end
/-- the keys of such a dict, held -/
def ItM (w : World) (d : Addr) (o : Obj) (kvs : List VEnt) : It :=
  ⟨fun i H => H d = some (.frz o (MixO w d kvs)) ∧ i < kvs.length, fun i H x H' => H' = H ∧ ∃ p, kvs[i]? = some p ∧ x = p.2.1, fun i H => H d = some (.frz o (MixO w d kvs)) ∧ kvs.length ≤ i⟩
section
variable {X : Cx} {pins : List (Addr × Obj)} {σ : L2.St} {H : Hp} {s : Shared} {d : Addr} {o : Obj}
theorem frzM {kvs : List VEnt} (I : Inv X pins σ H s) (h : H d = some (.frz o (MixO X.w d kvs))) :
    (d == sysModules) = false ∧ s.heap.get? d = some o ∧ o.ExactDict ∧ ∃ (es : Array DictEntry) (ep : Nat) (xs : List MEnt), o.data = .dict es ep ∧ es.size = kvs.length ∧ Paired EntR kvs xs ∧ es.toList = xs.map (entM X.w) ∧ (xs.map (·.1)).Nodup := by
  obtain ⟨hd, ⟨z, xs, p, o', es, ep, ho, hx, hdt, he, hn⟩, _, _⟩ := I.hok d _ h
  rw [hd] at ho
  cases ho
  refine ⟨z, hd, hx, es, ep, xs, hdt, ?_, p, he, hn⟩
  rw [entM_size he]
  exact (Paired.length p).symm
end
section
variable {P : Program} {w : World} {K : PySem.W.Frag} {tg : Expr} {d : Addr} {o : Obj} {es : Array DictEntry} {ep : Nat}
theorem turn_M {kvs : List VEnt} (it : Addr) (hod : o.data = .dict es ep) : Turn P w K tg (ItM w d o kvs) [it] it (fun i h => h.IsKeyIter it d i kvs.length ep) where
  mem := by simp
  obj := fun i h st b hb => by
    have e : b = it := by simpa using hb
    subst e
    obtain ⟨oi, e, c, dd⟩ := st
    exact ⟨oi, e, fun v z => by rw [dd] at z; cases z⟩
  keep := fun i h h' st k => st.at fun oi e => k it (by simp) oi e
  item := by
    intro X hP hw hK hc i pins s σ H E I hf st hg
    subst hP hw hK
    obtain ⟨hd, hi⟩ := hg
    obtain ⟨f0, f1, f2, f3, f4, f5⟩ := hf it (by simp)
    obtain ⟨hs, hgd, hx, es', ep', xs, hdt, hsz, p, he, hn⟩ := frzM I hd
    obtain ⟨rfl, rfl⟩ := dict_ep hod hdt
    obtain ⟨q, hq⟩ : ∃ q, kvs[i]? = some q := ⟨kvs[i], List.getElem?_eq_getElem hi⟩
    obtain ⟨m, hm, e1, r1, r2⟩ := paired_at p hq
    rw [← hsz] at st
    have hlt : i < es'.size := by rw [hsz]; exact hi
    have ek : es'[i].key = m.2.1 := by
      have q1 := entM_at he i
      rw [hm, Array.getElem?_eq_getElem hlt] at q1
      rw [Option.some.inj q1]
      rfl
    refine PySem.wpAny_pyNext_keys_item_raw st ⟨o, hgd, hx, hdt⟩ hlt fun h' st' sb => ?_
    have I1 : Inv X pins σ H { s with heap := h' } := I.turned (t' := s.toks) (fun b ob hb e => (sb.2 b hb).trans e) f0 f1 f3 f4 f5
    obtain ⟨oi, e, c, dd⟩ := id st'
    refine ⟨es'[i].key, rfl, go_of (s := { s with heap := h' }) e c dd (by decide) ⟨q.2.1, H, I1, by rw [ek]; exact r1, ⟨rfl, q, hq, rfl⟩, ?_, fun b hb => (hf b hb).1⟩⟩
    show h'.IsKeyIter it d (i + 1) kvs.length _
    rw [← hsz]
    exact st'
  done := by
    intro X hP hw hK hc i pins s σ H E I hf st hg
    subst hP hw hK
    obtain ⟨hd, hi⟩ := hg
    obtain ⟨f0, f1, f2, f3, f4, f5⟩ := hf it (by simp)
    obtain ⟨hs, hgd, hx, es', ep', xs, hdt, hsz, p, he, hn⟩ := frzM I hd
    obtain ⟨rfl, rfl⟩ := dict_ep hod hdt
    exact next_key_end (I.ok.hd hc) st hgd hdt hsz hi fun h' eb => ⟨rfl, I.turned (t' := s.toks) (fun b ob hb e => eb b ob hb e) f0 f1 f3 f4 f5⟩
  self := fun A i s Q E st h => wpAny_pyIter_keyiter st h
end
def iKeysX (w : World) (td : TE) : TI := fun σ H R => td σ H fun x H1 => ∃ d o, x = .ref d ∧ ((∃ kvs, H1 d = some (.frz o (.dK kvs)) ∧ R (Itk d o kvs) H1) ∨ ∃ kvs, H1 d = some (.frz o (MixO w d kvs)) ∧ R (ItM w d o kvs) H1)
section
variable {X : Cx} {tg e i : Expr} {td ty : TE} {apos cpos pos : Pos}
theorem pi_keysX (he : PE X e td) : PI X tg e (iKeysX X.w td) := by
  refine ⟨fun pins s σ H R I h => ?_⟩
  refine thn (he.run pins s σ H _ I h) fun u s1 ⟨x, H1, I1, rx, d, o, ex, q⟩ => ?_
  subst ex
  obtain rfl : u = Value.ref d := rx
  rcases q with ⟨kvs, hd, q⟩ | ⟨kvs, hd, q⟩
  · obtain ⟨hs, hgd, hx, es, ep, vs, hdt, hsz, kv, hm⟩ := I1.frzK hd
    refine iter_keys hs hgd hx hdt (pi_one (tk := s1.toks) I1 _ (turn_keys _ hdt) ⟨_, Heap.get?_push_size _ rfl, rfl, ?_⟩ q)
    rw [hsz] <;> rfl
  · obtain ⟨hs, hgd, hx, es, ep, xs, hdt, hsz, _⟩ := frzM I1 hd
    refine iter_keys hs hgd hx hdt (pi_one (tk := s1.toks) I1 _ (turn_M _ hdt) ⟨_, Heap.get?_push_size _ rfl, rfl, ?_⟩ q)
    rw [hsz] <;> rfl
theorem walk_M {w : World} {d : Addr} {o : Obj} {kvs : List VEnt} : Walk (ItM w d o kvs) kvs.length (fun H => H d = some (.frz o (MixO w d kvs))) (fun i H x H' => H' = H ∧ ∃ p, kvs[i]? = some p ∧ x = p.2.1) :=
  ⟨fun _ _ hi q => ⟨q, hi⟩, fun _ q => ⟨q, Nat.le_refl _⟩, fun _ _ _ _ _ _ y => y⟩
/-- d[k], d such a dict, held, or any other one -/
def tDGetX2 (w : World) (td ty : TE) : TE := fun σ H Q => td σ H fun x H1 => ty σ H1 fun y H2 => ∃ a v, x = .ref a ∧ (DGet H2 a y (some v) ∨ ∃ o kvs k, H2 a = some (.frz o (MixO w a kvs)) ∧ KeysAt H2 kvs ∧ KeyAt H2 k y ∧ ∃ y', (k, y', v) ∈ kvs) ∧ Q v H2
theorem pe_dgetX2 (hu : X.A.units + 16 < cLine) (ho : PE X e td) (hi : PE X i ty) (hs : NoSl i) : PE X (.Subscript e i pos) (tDGetX2 X.w td ty) := by
  refine ⟨fun pins s σ H Q I h => ?_⟩
  refine subD_of PySem.F.slot_dict_getitem.lookup hs (thn (ho.run pins s σ H _ I h) fun u s1 ⟨x, H1, I1, rx, q1⟩ => thn (hi.run pins s1 σ H1 _ I1 q1) fun iv s2 ⟨y, H2, I2, ry, a, v, ex, g, q2⟩ => ?_)
  subst ex
  obtain rfl : u = Value.ref a := rx
  rcases g with g | ⟨o, kvs, k, ha, ks, ky, y', hm⟩
  · exact ⟨dict_typeIs I2 g, d_getItem (by omega) I2 g ry fun w' s3 I3 rw' => ⟨v, H2, I3, rw', q2⟩⟩
  · obtain ⟨hsm, hgd, hx, es, ep, xs, hdt, hsz, p, he, hn⟩ := frzM I2 ha
    refine ⟨⟨o, hgd, hx.1⟩, ?_⟩
    obtain ⟨j, hj⟩ := List.mem_iff_getElem?.mp hm
    obtain ⟨m, hmj, e1, r1, r2⟩ := paired_at p hj
    have hmj' : xs[j]? = some (k, m.2) := by
      rw [hmj]
      have e1' : k = m.1 := e1
      rw [e1']
    exact getM (by omega) (ky.keyM I2 ry) ⟨o, es, ep, hgd, hx, hdt, he, hn⟩ (keys_all I2 ks p) hmj' fun t => ⟨v, H2, I2.tok t, r2, q2⟩
end
end K01
/-! ## R4 -/
set_option Elab.async false
set_option linter.all false
set_option maxRecDepth 100000
set_option maxHeartbeats 4000000
namespace K01
open PySem PySem.Spec PyProof.Rows L2
section
variable {X : Cx} {e : Expr} {te : TE} {p apos cpos pos : Pos}
/-- behind e one thing is held -/
theorem pe_frz (h : PE X e te) : PE X e (fun σ H Q => te σ H fun x H1 => ∃ d u, H1 d = some u ∧ Mut (some u) ∧ ∀ od, Q x (upd H1 d (.frz od u))) := by
  refine ⟨fun pins s σ H Q I hw => ?_⟩
  refine thn (h.run pins s σ H _ I hw) fun v s1 ⟨x, H1, I1, r, d, u, hd, mu, q⟩ => ?_
  obtain ⟨od, I2⟩ := I1.lock hd mu
  exact ⟨x, _, I2, r, q od⟩
theorem vals_snd {kvs : List (Key × V)} {vs : List (Key × Value)} (kv : KV kvs vs) : Vals (kvs.map (·.2)) (vs.map (·.2)) := by
  unfold KV at kv
  induction kv with
  | nil => exact .nil
  | cons h _ ih => exact .cons h.2 ih
/-- list(e.values()) -/
theorem pe_listVals (hc : X.calm = true) (he : PE X e te) (hg : Gl X "list") (hm : X.mg "list" = none) (hv : bootBuiltins "list" = some (.type "list")) (hbase : attributeBase e "values" X.env (eval e X.env) = eval e X.env := by rfl) (hline : (apos.endLine == cpos.line) = true := by rfl)
    (hs : starEach [.Call (.Attribute e "values" apos) [] [] cpos] X.env = (false, eval (.Call (.Attribute e "values" apos) [] [] cpos) X.env) :: starEach [] X.env := by rfl) :
    PE X (.Call (.Name "list" p) [.Call (.Attribute e "values" apos) [] [] cpos] [] pos) (fun σ H Q => te σ H fun x H1 => ∃ d kvs, x = .ref d ∧ H1 d = some (.dK kvs) ∧ ∀ l, H1 l = none → Q (.ref l) (upd H1 l (.lst (kvs.map (·.2))))) := by
  refine ⟨fun pins s σ H Q I hq => ?_⟩
  refine wpAny_Call_Name_kw (ld_blt I hg hm hv ?_)
  refine PyProof.Rows.callWith_type1 ?_ hs rfl
  rw [hs]
  show wpAny _ _ (spliced ((false, eval (.Call (.Attribute e "values" apos) [] [] cpos) X.env) :: backTo pos (starEach [] X.env))) _ _ s
  refine Calls.spliced_cons ?_
  refine wpAny_Call_method (T := "dict") (id := "dict.values") hbase rfl hline F.plainAttrs_dict F.slot_dict_values F.type_dict_values (thn (he.run pins s σ H _ I hq) fun u s1 ⟨x, H1, I1, rx, d, kvs, ex, hd, q⟩ => ?_)
  subst ex
  obtain rfl : u = Value.ref d := rx
  obtain ⟨hz, hs0, vs, kv, hdo⟩ := I1.hok d _ hd
  obtain ⟨ep, hat⟩ := hdo.dictAt
  have lk : kvs.length = vs.length := Paired.length kv
  have I2 : Inv X pins σ H1 { s1 with heap := s1.heap.push { cls := .type "dict_values", data := .fields #[.ref d] } } := I1.kept (t' := s1.toks) fun b ob q => Heap.get?_push_of_some _ q
  refine ⟨hdo.typeIs, hdo.mapOf.noDict, ?_⟩
  show wpAny _ _ (callWith cpos (.builtin "dict.values") [.ref d] [] []) _ X.xe s1
  refine method_meetsIn F.slot_dict_values F.entry_dict_values rfl (PySem.evalArgs_none ⟨rfl, hdo.typeIs, F.args_dict_values_1 _, _, meets_dict_values (mixKind X.prog X.w) d hs0, ⟨vs, hdo⟩, ?_⟩)
  refine Calls.spliced_nil ?_
  refine PySem.W.kdl_call (PySem.W.kdl_values (knd := mixKind X.prog X.w) (r := s1.heap.objs.size) (d := d) (kvs := vs) (ep := ep)) (s := { s1 with heap := s1.heap.push { cls := .type "dict_values", data := .fields #[.ref d] } }) (I1.ok.hd hc) ⟨⟨_, Heap.get?_push_size _ rfl, rfl, rfl⟩, hat.push _⟩ (by omega) fun h' tk acc c hk hS hacc => ?_
  have ev : acc.toList = vs.map (·.2) := PySem.W.kdl_vals_eq acc.toList (by rw [Array.length_toList]; exact hacc.1) fun j v e => hacc.2 j v (by rw [← Array.getElem?_toList]; exact e)
  have rv := vals_snd kv
  rw [← ev] at rv
  refine ⟨.ref (s1.heap.push { cls := .type "dict_values", data := .fields #[.ref d] }).objs.size, _, I2.laid (t' := tk) (o := .lst (kvs.map (·.2))) hk (Nat.le_refl _) ⟨by rw [List.length_map]; exact hz, acc.toList, c, rv, by rw [Array.toArray_toList]; exact hS⟩, rfl, q _ ?_⟩
  exact I2.hok.fresh (Nat.le_refl _)
end
section
variable {X : Cx}
/-- a == b: equal, or two dicts of unlike sizes -/
def rEqL (K : PySem.W.Frag) : R2 := fun x y H Q => (∃ n, n ≤ 60 ∧ EqR K H (EqV K H n) x y ∧ Q (.bl true) H) ∨ ∃ a b ks ls, x = .ref a ∧ y = .ref b ∧ H a = some (.dK ks) ∧ H b = some (.dK ls) ∧ ks.length ≠ ls.length ∧ Q (.bl false) H
theorem op_eqL (hu : X.A.units + 64 < cLine) : OpR X (compareOp .Eq) (rEqL X.K) := by
  intro pins s σ H x y v u Q I rx ry h
  rcases h with h | ⟨a, b, ks, ls, rfl, rfl, ha, hb, hl, q⟩
  · exact op_eqV hu pins s σ H x y v u Q I rx ry h
  · cases (show v = Value.ref a from rx)
    cases (show u = Value.ref b from ry)
    obtain ⟨_, ya, va, ra, da⟩ := (show ObjOk X.prog X.w H s.heap a (.dK ks) from I.hok a _ ha)
    obtain ⟨_, yb, vb, rb, db⟩ := (show ObjOk X.prog X.w H s.heap b (.dK ls) from I.hok b _ hb)
    have e1 : ks.length = va.length := Paired.length ra
    have e2 : ls.length = vb.length := Paired.length rb
    refine PySem.W.rcP_dicts (knd := mixKind X.prog X.w) (r := false) ya yb da db (by omega) (fun z => absurd z (by omega)) _ _ ?_
    rw [Bool.and_false]
    exact ⟨.bl false, H, I, rfl, q⟩
/-- two tuples item by item the same -/
def TupEq (K : PySem.W.Frag) (H : Hp) (x y : V) : Prop := ∃ p q us vs, x = .ref p ∧ y = .ref q ∧ SqT K H p us ∧ SqT K H q vs ∧ Paired (fun u v => u = v ∧ (flatB u = true ∨ ∃ a, u = .ref a)) us vs
theorem range_all {n : Nat} : (List.range n).all (fun _ => true) = true := List.all_eq_true.mpr fun _ _ => rfl
theorem tupEq_at {pins : List (Addr × Obj)} {σ : L2.St} {H : Hp} {s : Shared} (I : Inv X pins σ H s) {A : Around} (hu : A.units + 2 < cLine) {x y : V} {u v : Value} (h : TupEq X.K H x y) (rx : RelV x u) (ry : RelV y v) : SeqAt.EqAt A s u v true := by
  obtain ⟨p, q, us, vs, rfl, rfl, hp, hq, pr⟩ := h
  cases (show u = Value.ref p from rx)
  cases (show v = Value.ref q from ry)
  by_cases e : p = q
  · subst e
    exact SeqAt.EqAt.same _
  · obtain ⟨xs, r1, t1, _⟩ := I.tuple hp
    obtain ⟨ys, r2, t2, _⟩ := I.tuple hq
    have items : ∀ {us vs : List V} {xs ys : List Value}, Paired (fun u v => u = v ∧ (flatB u = true ∨ ∃ a, u = .ref a)) us vs → Vals us xs → Vals vs ys → ∀ j (h1 : j < xs.length) (h2 : j < ys.length), SeqAt.EqAt A.in1 s xs[j] ys[j] true := by
      intro us vs xs ys pr
      induction pr generalizing xs ys with
      | nil =>
        intro r1 r2 j h1
        cases r1
        exact absurd h1 (Nat.not_lt_zero j)
      | cons h _ ih =>
        intro r1 r2 j h1 h2
        cases r1 with
        | cons a1 b1 =>
          cases r2 with
          | cons a2 b2 =>
            cases j with
            | succ j => exact ih b1 b2 j (Nat.lt_of_succ_lt_succ h1) (Nat.lt_of_succ_lt_succ h2)
            | zero =>
              obtain ⟨rfl, f | ⟨a, rfl⟩⟩ := h
              · exact eqAt_same a1 a2 f
              · simp only [List.getElem_cons_zero]
                rw [show _ = Value.ref a from a1, show _ = Value.ref a from a2]
                exact SeqAt.EqAt.same _
    have hsz : xs.toArray.size = ys.toArray.size := by
      rw [List.size_toArray, List.size_toArray, ← r1.length, ← r2.length]
      exact Paired.length pr
    refine SeqAt.EqAt.of_refs e ?_
    have k := SeqAt.RcAt.tuples (A := A) (s := s) (e := fun _ => true) t1 t2 (by omega) fun j h1 h2 => by
      have z := items pr r1 r2 j (by simpa using h1) (by simpa using h2)
      simpa using z
    rw [range_all, hsz] at k
    simpa using k
/-- a != b, two lists of tuples that are the same item by item -/
def rNeW (K : PySem.W.Frag) : R2 := fun x y H Q => ∃ a b xs ys, x = .ref a ∧ y = .ref b ∧ SqL K H a xs ∧ SqL K H b ys ∧ Paired (TupEq K H) xs ys ∧ Q (.bl false) H
theorem op_neW (hu : X.A.units + 64 < cLine) : OpR X (compareOp .NotEq) (rNeW X.K) := by
  intro pins s σ H x y v u Q I rx ry h
  obtain ⟨a, b, xs, ys, rfl, rfl, ha, hb, pr, q⟩ := h
  cases (show v = Value.ref a from rx)
  cases (show u = Value.ref b from ry)
  obtain ⟨us, r1, p1, _⟩ := I.list ha
  obtain ⟨vs, r2, p2, _⟩ := I.list hb
  have items : ∀ {xs ys : List V} {us vs : List Value}, Paired (TupEq X.K H) xs ys → Vals xs us → Vals ys vs → ∀ j (h1 : j < us.length) (h2 : j < vs.length), SeqAt.EqAt X.A.in1 s us[j] vs[j] true := by
    intro xs ys us vs pr
    induction pr generalizing us vs with
    | nil =>
      intro r1 r2 j h1
      cases r1
      exact absurd h1 (Nat.not_lt_zero j)
    | cons h _ ih =>
      intro r1 r2 j h1 h2
      cases r1 with
      | cons a1 b1 =>
        cases r2 with
        | cons a2 b2 =>
          cases j with
          | succ j => exact ih b1 b2 j (Nat.lt_of_succ_lt_succ h1) (Nat.lt_of_succ_lt_succ h2)
          | zero => exact tupEq_at I (A := X.A.in1) (by show X.A.units + 1 + 2 < cLine; omega) h a1 a2
  have hsz : us.toArray.size = vs.toArray.size := by
    rw [List.size_toArray, List.size_toArray, ← r1.length, ← r2.length]
    exact Paired.length pr
  have k := SeqAt.RcNeAt.lists (A := X.A) (s := s) (e := fun _ => true) p1.isList p2.isList hsz (by omega) fun j h1 h2 => by
    have z := items pr r1 r2 j (by simpa using h1) (by simpa using h2)
    simpa using z
  rw [range_all] at k
  exact k X.prog X.w _ _ ⟨.bl false, H, I, rfl, q⟩
end
end K01
/-! ## DL1 -/
set_option Elab.async false
set_option linter.all false
set_option maxRecDepth 100000
set_option maxHeartbeats 4000000
/-! Data as trees. What a def reads is never changed while it runs; what it builds is its own, held by one name alone. -/
namespace DL
open PySem PySem.Spec PyProof.Rows L2
/-- the world; what the spring of draws at an address is, behind so many draws -/
class Wd where
  P : Program
  w : World
  spr : Hp → Addr → Nat → Prop
  at_ : ∀ (H H' : Hp) (p : Addr) (n : Nat), H' p = H p → spr H p n → spr H' p n
  so : ∀ (H : Hp) (p : Addr) (n : Nat), spr H p n → H p ≠ none
  /-- the tables of the code objects that defs make, each with its name -/
  T : List (Addr × Str)
  tu : ∀ e ∈ T, ∀ e' ∈ T, e.1 = e'.1 → e.2 = e'.2
  nt : ∀ (H : Hp) (p : Addr) (n : Nat), spr H p n → ∀ ps, H p ≠ some (.tbl ps)
variable [Wd]
inductive Dt where
  | non | bl (b : Bool) | int (i : Int) | str (z : Str)
  | lst (xs : List Dt) | tup (xs : List Dt) | dic (kvs : List (Key × Dt))
  | mix (kvs : List (Dt × Dt))
  | ins (C : Addr) (fs : List (Str × Dt))
  | any
  | set (S : Key → Bool) (n : Nat)
  | raw (v : V)
/-- a tree that tells what the value is read by -/
def Dt.firm : Dt → Bool
  | .any => false
  | .raw _ => false
  | _ => true
section
variable (A : Addr → Prop) (H : Hp)
mutual
/-- the value is the tree; all its objects are among A -/
inductive Rep : V → Dt → Prop
  | non : Rep .non .non
  | bl (b : Bool) : Rep (.bl b) (.bl b)
  | int (i : Int) : Rep (.int i) (.int i)
  | str (z : Str) : Rep (.str z) (.str z)
  | lst {a : Addr} {xs : List V} {ds : List Dt} : A a → H a = some (.lst xs) → Reps xs ds → Rep (.ref a) (.lst ds)
  | tup {a : Addr} {xs : List V} {ds : List Dt} : A a → H a = some (.tup xs) → Reps xs ds → Rep (.ref a) (.tup ds)
  | dic {a : Addr} {o : Obj} {es : List (Key × V)} {kvs : List (Key × Dt)} : A a → H a = some (.frz o (.dK es)) → RepK es kvs → Rep (.ref a) (.dic kvs)
  | mix {a : Addr} {o : Obj} {es : List K01.VEnt} {kvs : List (Dt × Dt)} : A a → H a = some (.frz o (K01.MixO Wd.w a es)) → RepM es kvs → Rep (.ref a) (.mix kvs)
  | ins {a C dx : Addr} {fs : List (Str × V)} {ks : List (Str × Dt)} : A a → H a = some (.ins C dx fs) → RepF fs ks → Rep (.ref a) (.ins C ks)
  | any (v : V) : Rep v .any
  | raw (v : V) : Rep v (.raw v)
inductive Reps : List V → List Dt → Prop
  | nil : Reps [] []
  | cons {v : V} {d : Dt} {vs : List V} {ds : List Dt} : Rep v d → Reps vs ds → Reps (v :: vs) (d :: ds)
inductive RepK : List (Key × V) → List (Key × Dt) → Prop
  | nil : RepK [] []
  | cons {k : Key} {v : V} {d : Dt} {vs : List (Key × V)} {ds : List (Key × Dt)} : Rep v d → RepK vs ds → RepK ((k, v) :: vs) ((k, d) :: ds)
inductive RepM : List K01.VEnt → List (Dt × Dt) → Prop
  | nil : RepM [] []
  | cons {k : NestedKey} {x v : V} {kd d : Dt} {vs : List K01.VEnt} {ds : List (Dt × Dt)} : K01.KeyAt H k x → kd.firm = true → Rep x kd → Rep v d → RepM vs ds → RepM ((k, x, v) :: vs) ((kd, d) :: ds)
inductive RepF : List (Str × V) → List (Str × Dt) → Prop
  | nil : RepF [] []
  | cons {k : Str} {v : V} {d : Dt} {vs : List (Str × V)} {ds : List (Str × Dt)} : Rep v d → RepF vs ds → RepF ((k, v) :: vs) ((k, d) :: ds)
end
end
/-- what is read stays -/
structure Kp (A : Addr → Prop) (H : Hp) (A' : Addr → Prop) (H' : Hp) : Prop where
  gr : ∀ a, A a → A' a
  ob : ∀ a o, A a → H a = some o → H' a = some o
omit [Wd] in
theorem Kp.refl {A : Addr → Prop} {H : Hp} : Kp A H A H := ⟨fun _ h => h, fun _ _ _ h => h⟩
omit [Wd] in
theorem Kp.trans {A A1 A2 : Addr → Prop} {H H1 H2 : Hp} (x : Kp A H A1 H1) (y : Kp A1 H1 A2 H2) : Kp A H A2 H2 :=
  ⟨fun a h => y.gr a (x.gr a h), fun a u h q => y.ob a u (x.gr a h) (x.ob a u h q)⟩
omit [Wd] in
theorem Kp.of {A A' : Addr → Prop} {H H' : Hp} (g : ∀ a, A a → A' a) (h : ∀ a o, A a → H a = some o → H' a = some o) : Kp A H A' H' := ⟨g, h⟩
section
variable {A A' : Addr → Prop} {H H' : Hp}
theorem KeyAt.kp (k : Kp A H A' H') {q : NestedKey} {x : V} {kd : Dt} (h : K01.KeyAt H q x) (na : kd.firm = true) (r : Rep A H x kd) : K01.KeyAt H' q x := by
  cases h with
  | none => exact .none
  | num i => exact .num i
  | text z => exact .text z
  | tup e =>
    cases r with
    | tup ha h _ => exact .tup (k.ob _ _ ha e)
    | lst ha h _ => exact .tup (k.ob _ _ ha e)
    | dic ha h _ => exact .tup (k.ob _ _ ha e)
    | mix ha h _ => exact .tup (k.ob _ _ ha e)
    | ins ha h _ => exact .tup (k.ob _ _ ha e)
    | any => exact Bool.noConfusion na
    | raw => exact Bool.noConfusion na
mutual
theorem Rep.kp (k : Kp A H A' H') : ∀ {v : V} {d : Dt}, Rep A H v d → Rep A' H' v d
  | _, _, .non => .non
  | _, _, .bl b => .bl b
  | _, _, .int i => .int i
  | _, _, .str z => .str z
  | _, _, .lst ha h r => .lst (k.gr _ ha) (k.ob _ _ ha h) (Reps.kp k r)
  | _, _, .tup ha h r => .tup (k.gr _ ha) (k.ob _ _ ha h) (Reps.kp k r)
  | _, _, .dic ha h r => .dic (k.gr _ ha) (k.ob _ _ ha h) (RepK.kp k r)
  | _, _, .mix ha h r => .mix (k.gr _ ha) (k.ob _ _ ha h) (RepM.kp k r)
  | _, _, .ins ha h r => .ins (k.gr _ ha) (k.ob _ _ ha h) (RepF.kp k r)
  | _, _, .any v => .any v
  | _, _, .raw v => .raw v
theorem Reps.kp (k : Kp A H A' H') : ∀ {vs : List V} {ds : List Dt}, Reps A H vs ds → Reps A' H' vs ds
  | _, _, .nil => .nil
  | _, _, .cons h r => .cons (Rep.kp k h) (Reps.kp k r)
theorem RepK.kp (k : Kp A H A' H') : ∀ {vs : List (Key × V)} {ds : List (Key × Dt)}, RepK A H vs ds → RepK A' H' vs ds
  | _, _, .nil => .nil
  | _, _, .cons h r => .cons (Rep.kp k h) (RepK.kp k r)
theorem RepM.kp (k : Kp A H A' H') : ∀ {vs : List K01.VEnt} {ds : List (Dt × Dt)}, RepM A H vs ds → RepM A' H' vs ds
  | _, _, .nil => .nil
  | _, _, .cons hk na hx h r => .cons (KeyAt.kp k hk na hx) na (Rep.kp k hx) (Rep.kp k h) (RepM.kp k r)
theorem RepF.kp (k : Kp A H A' H') : ∀ {vs : List (Str × V)} {ds : List (Str × Dt)}, RepF A H vs ds → RepF A' H' vs ds
  | _, _, .nil => .nil
  | _, _, .cons h r => .cons (Rep.kp k h) (RepF.kp k r)
end
theorem Reps.len : ∀ {vs : List V} {ds : List Dt}, Reps A H vs ds → vs.length = ds.length
  | _, _, .nil => rfl
  | _, _, .cons _ r => congrArg Nat.succ (Reps.len r)
theorem RepK.len : ∀ {vs : List (Key × V)} {ds : List (Key × Dt)}, RepK A H vs ds → vs.length = ds.length
  | _, _, .nil => rfl
  | _, _, .cons _ r => congrArg Nat.succ (RepK.len r)
theorem RepK.keys : ∀ {vs : List (Key × V)} {ds : List (Key × Dt)}, RepK A H vs ds → vs.map (·.1) = ds.map (·.1)
  | _, _, .nil => rfl
  | _, _, .cons _ r => by
    show _ :: _ = _ :: _
    rw [RepK.keys r]
theorem Reps.get : ∀ {vs : List V} {ds : List Dt} {i : Nat} {d : Dt}, Reps A H vs ds → ds[i]? = some d → ∃ v, vs[i]? = some v ∧ Rep A H v d
  | _, _, _, _, .nil, e => by simp at e
  | _, _, 0, _, .cons r _, e => by
    simp at e
    subst e
    exact ⟨_, rfl, r⟩
  | _, _, i + 1, d, .cons _ t, e => by
    obtain ⟨v, h1, h2⟩ := Reps.get (i := i) (d := d) t (by simpa using e)
    exact ⟨v, by simpa using h1, h2⟩
theorem Reps.getV : ∀ {vs : List V} {ds : List Dt} {i : Nat} {v : V}, Reps A H vs ds → vs[i]? = some v → ∃ d, ds[i]? = some d ∧ Rep A H v d
  | _, _, _, _, .nil, e => by simp at e
  | _, _, 0, _, .cons r _, e => by
    simp at e
    subst e
    exact ⟨_, rfl, r⟩
  | _, _, i + 1, d, .cons _ t, e => by
    obtain ⟨v, h1, h2⟩ := Reps.getV (i := i) (v := d) t (by simpa using e)
    exact ⟨v, by simpa using h1, h2⟩
theorem Reps.app : ∀ {vs ws : List V} {ds es : List Dt}, Reps A H vs ds → Reps A H ws es → Reps A H (vs ++ ws) (ds ++ es)
  | _, _, _, _, .nil, s => s
  | _, _, _, _, .cons h r, s => .cons h (Reps.app r s)
theorem Reps.snoc {vs : List V} {ds : List Dt} {v : V} {d : Dt} (r : Reps A H vs ds) (h : Rep A H v d) : Reps A H (vs ++ [v]) (ds ++ [d]) := r.app (.cons h .nil)
theorem Reps.take : ∀ {vs : List V} {ds : List Dt} (n : Nat), Reps A H vs ds → Reps A H (vs.take n) (ds.take n)
  | _, _, 0, _ => by simp; exact .nil
  | _, _, _ + 1, .nil => .nil
  | _, _, n + 1, .cons h r => .cons h (Reps.take n r)
theorem Reps.drop : ∀ {vs : List V} {ds : List Dt} (n : Nat), Reps A H vs ds → Reps A H (vs.drop n) (ds.drop n)
  | _, _, 0, r => r
  | _, _, _ + 1, .nil => .nil
  | _, _, n + 1, .cons _ r => Reps.drop n r
theorem Reps.erase : ∀ {vs : List V} {ds : List Dt} (n : Nat), Reps A H vs ds → Reps A H (vs.eraseIdx n) (ds.eraseIdx n)
  | _, _, _, .nil => .nil
  | _, _, 0, .cons _ r => r
  | _, _, n + 1, .cons h r => .cons h (Reps.erase n r)
/-- a tree's entry by its key -/
def valD : List (Key × Dt) → Key → Option Dt
  | [], _ => none
  | (k, d) :: r, x => if k = x then some d else valD r x
end
end DL
/-! ## DL2 -/
set_option Elab.async false
set_option linter.all false
set_option maxRecDepth 100000
set_option maxHeartbeats 4000000
namespace DL
open PySem PySem.Spec PyProof.Rows L2
variable [Wd]
/-- what a name holds: nothing that is known, a tree that is only read, one of its own, the spring of draws -/
inductive Sl where
  | no | ro (d : Dt) | own (d : Dt) | pool
def Own (A : Addr → Prop) (H : Hp) (a : Addr) : Dt → Prop
  | .lst ds => ∃ xs, H a = some (.lst xs) ∧ Reps A H xs ds
  | .dic kvs => ∃ es, H a = some (.dK es) ∧ RepK A H es kvs
  | .mix kvs => ∃ es, H a = some (K01.MixO Wd.w a es) ∧ RepM A H es kvs
  | .set S n => H a = some (SetK Wd.P Wd.w a S n)
  | _ => False
def SlR (p : Option Addr) (A : Addr → Prop) (H : Hp) : Option V → Sl → Prop
  | _, .no => True
  | some v, .ro d => Rep A H v d
  | some (.ref a), .own d => Own A H a d
  | some v, .pool => ∃ a, p = some a ∧ v = .ref a
  | _, _ => False
/-- the objects of the names' own -/
def owns : L2.St → List Sl → List Addr
  | some (.ref a) :: σ, .own _ :: δ => a :: owns σ δ
  | _ :: σ, _ :: δ => owns σ δ
  | _, _ => []
/-- where a def runs: the heap at its begin and what is read of it, the spring -/
structure Gm where
  H0 : Hp
  A0 : Addr → Prop
  p : Option Addr
/-- the tables stand, their code objects are among A -/
def TabA (A : Addr → Prop) (H : Hp) : Prop := ∀ e ∈ Wd.T, ∃ ps : Array Value, H e.1 = some (.tbl ps) ∧ TriplesOk ps.toList ∧ ∀ (pos : Pos) (cv : Value), codeAmong pos ps.toList = some cv → ∃ c, cv = .ref c ∧ A c ∧ H c = some (LamX.CodeO c e.2)
def IsTb (b : Addr) : Prop := ∃ e ∈ Wd.T, e.1 = b
theorem TabA.kp {A A' : Addr → Prop} {H H' : Hp} (h : ∀ b, IsTb b → H' b = H b) (k : Kp A H A' H') (t : TabA A H) : TabA A' H' := fun e he => by
  obtain ⟨ps, h1, h2, h3⟩ := t e he
  refine ⟨ps, (h _ ⟨e, he, rfl⟩).trans h1, h2, fun pos cv q => ?_⟩
  obtain ⟨c, e1, e2, e3⟩ := h3 pos cv q
  exact ⟨c, e1, k.gr _ e2, k.ob _ _ e2 e3⟩
def Gm.M (Γ : Gm) (b : Addr) : Prop := Γ.p = some b ∨ IsTb b
def Gm.I (Γ : Gm) (A : Addr → Prop) (H : Hp) (n : Nat) : Prop := (∀ a, Γ.p = some a → Wd.spr H a n) ∧ TabA A H
theorem Gm.ist (Γ : Gm) {A A' : Addr → Prop} (H H' : Hp) (n : Nat) (h : ∀ b, Γ.M b → H' b = H b) (k : Kp A H A' H') (i : Γ.I A H n) : Γ.I A' H' n := ⟨fun a e => Wd.at_ H H' a n (h a (.inl e)) (i.1 a e), i.2.kp (fun b t => h b (.inr t)) k⟩
theorem Gm.md {Γ : Gm} {A : Addr → Prop} {H : Hp} {n : Nat} (i : Γ.I A H n) (b : Addr) (h : Γ.M b) : H b ≠ none := by
  rcases h with h | ⟨e, he, rfl⟩
  · exact Wd.so H b n (i.1 b h)
  · obtain ⟨ps, q, _⟩ := i.2 e he
    rw [q]
    exact fun z => by cases z
structure Free (Γ : Gm) (A : Addr → Prop) (a : Addr) : Prop where
  h0 : Γ.H0 a = none
  na : ¬ A a
  nm : ¬ Γ.M a
structure Rel (Γ : Gm) (σ : L2.St) (δ : List Sl) (A : Addr → Prop) (H : Hp) (n : Nat) : Prop where
  sl : Paired (SlR Γ.p A H) σ δ
  nd : (owns σ δ).Nodup
  fo : ∀ a ∈ owns σ δ, Free Γ A a
  fr : ∀ b o, ¬ Γ.M b → Γ.H0 b = some o → H b = some o
  a0 : ∀ b, Γ.A0 b → A b
  ad : ∀ b, A b → H b ≠ none ∧ ¬ Γ.M b
  nw : ∀ b, A b → Γ.A0 b ∨ Γ.H0 b = none
  inv : Γ.I A H n
theorem Rel.md {Γ : Gm} {σ : L2.St} {δ : List Sl} {A : Addr → Prop} {H : Hp} {n : Nat} (R : Rel Γ σ δ A H n) (b : Addr) (h : Γ.M b) : H b ≠ none := Gm.md R.inv b h
theorem Rel.h0 {Γ : Gm} {A : Addr → Prop} {H : Hp} {σ : L2.St} {δ : List Sl} {n : Nat} (R : Rel Γ σ δ A H n) : ∀ a, H a = none → Γ.H0 a = none := fun a z => by
  cases q : Γ.H0 a with
  | none => rfl
  | some o =>
    by_cases m : Γ.M a
    · exact absurd z (R.md a m)
    · rw [R.fr a o m q] at z
      cases z
/-- what an expression gives; Hs is the heap ahead of it -/
def RRel (Γ : Gm) (Hs : Hp) (A : Addr → Prop) (H : Hp) (σ : L2.St) (δ : List Sl) (v : V) : Sl → Prop
  | .ro d => Rep A H v d
  | .own d => ∃ a, v = .ref a ∧ Own A H a d ∧ a ∉ owns σ δ ∧ Free Γ A a ∧ Hs a = none
  | .pool => ∃ a, Γ.p = some a ∧ v = .ref a
  | .no => False
/-- how a state goes on while an expression is worked out -/
structure Mv (Γ : Gm) (σ : L2.St) (δ : List Sl) (A : Addr → Prop) (H : Hp) (δ' : List Sl) (A' : Addr → Prop) (H' : Hp) : Prop where
  gr : ∀ b, A b → A' b
  fm : ∀ b o, H b = some o → b ∉ owns σ δ → ¬ Γ.M b → H' b = some o
  na : ∀ b, A' b → A b ∨ H b = none ∨ b ∈ owns σ δ ∨ Γ.M b
  os : ∀ a ∈ owns σ δ', a ∈ owns σ δ
  th : ∀ b, H b ≠ none → H' b ≠ none
section
variable {Γ : Gm} {p : Option Addr} {A A' : Addr → Prop} {H H' : Hp} {σ : L2.St} {δ : List Sl} {n : Nat} {a : Addr} {v : V} {d : Dt}
theorem Own.some (h : Own A H a d) : H a ≠ none := by
  intro z
  cases d with
  | lst ds =>
    obtain ⟨xs, e, _⟩ := h
    rw [z] at e
    cases e
  | dic ds =>
    obtain ⟨xs, e, _⟩ := h
    rw [z] at e
    cases e
  | mix ds =>
    obtain ⟨xs, e, _⟩ := h
    rw [z] at e
    cases e
  | set S n =>
    have e : H a = some (SetK Wd.P Wd.w a S n) := h
    rw [z] at e
    cases e
  | _ => exact h
theorem Own.kp (k : Kp A H A' H') (e : H' a = H a) (h : Own A H a d) : Own A' H' a d := by
  cases d with
  | lst ds =>
    obtain ⟨xs, h1, h2⟩ := h
    exact ⟨xs, e.trans h1, h2.kp k⟩
  | dic ds =>
    obtain ⟨xs, h1, h2⟩ := h
    exact ⟨xs, e.trans h1, h2.kp k⟩
  | mix ds =>
    obtain ⟨xs, h1, h2⟩ := h
    exact ⟨xs, e.trans h1, h2.kp k⟩
  | set S n => exact e.trans h
  | _ => exact h
/-- an own list, from now on only read -/
theorem Own.rep (k : Kp A H A' H') (ha : A' a) (e : H' a = H a) {ds : List Dt} (h : Own A H a (.lst ds)) : Rep A' H' (.ref a) (.lst ds) := by
  obtain ⟨xs, h1, h2⟩ := h
  exact .lst ha (e.trans h1) (h2.kp k)
theorem slR_kp (k : Kp A H A' H') : ∀ {σ : L2.St} {δ : List Sl}, (∀ a ∈ owns σ δ, H' a = H a) → Paired (SlR p A H) σ δ → Paired (SlR p A' H') σ δ
  | _, _, _, .nil => .nil
  | x :: σ, s :: δ, e, .cons h r => by
    have sub : ∀ a ∈ owns σ δ, a ∈ owns (x :: σ) (s :: δ) := fun a ha => by
      unfold owns
      split
      · rename_i e1 e2
        injection e1 with e1 e1'
        injection e2 with e2 e2'
        subst e1' e2'
        exact List.mem_cons_of_mem _ ha
      · rename_i e1 e2
        injection e1 with e1 e1'
        injection e2 with e2 e2'
        subst e1' e2'
        exact ha
      · rename_i h1 h2
        exact absurd rfl (h2 _ _ _ _ rfl)
    refine .cons ?_ (slR_kp k (fun a ha => e a (sub a ha)) r)
    cases s with
    | no =>
      cases x <;> trivial
    | ro d =>
      cases x with
      | none => exact h
      | some v => exact Rep.kp k h
    | pool =>
      cases x with
      | none => exact h
      | some v => exact h
    | own d =>
      cases x with
      | none => exact h
      | some v =>
        cases v with
        | ref a => exact Own.kp k (e a (by unfold owns; exact List.mem_cons_self)) h
        | _ => exact h
/-- new objects alone -/
structure Grow (A : Addr → Prop) (H : Hp) (A' : Addr → Prop) (H' : Hp) : Prop where
  kp : ∀ b o, H b = some o → H' b = some o
  gr : ∀ b, A b → A' b
  nw : ∀ b, A' b → A b ∨ H b = none
  ad : ∀ b, A' b → H' b ≠ none
theorem Grow.k (g : Grow A H A' H') : Kp A H A' H' := .of g.gr fun a o _ e => g.kp a o e
theorem own_some : ∀ {σ : L2.St} {δ : List Sl}, Paired (SlR p A H) σ δ → ∀ a ∈ owns σ δ, H a ≠ none
  | _, _, .nil, a, h => by cases h
  | x :: σ, s :: δ, .cons q r, a, h => by
    unfold owns at h
    split at h
    · rename_i e1 e2
      injection e1 with e1 e1'
      injection e2 with e2 e2'
      subst e1' e2' e1 e2
      rcases List.mem_cons.mp h with rfl | h
      · exact Own.some q
      · exact own_some r a h
    · rename_i e1 e2
      injection e1 with e1 e1'
      injection e2 with e2 e2'
      subst e1' e2'
      exact own_some r a h
    · cases h
theorem Rel.grow (R : Rel Γ σ δ A H n) (g : Grow A H A' H') : Rel Γ σ δ A' H' n := by
  have same : ∀ b, H b ≠ none → H' b = H b := fun b hb => by
    cases q : H b with
    | none => exact absurd q hb
    | some o => exact g.kp b o q
  have os := own_some R.sl
  refine ⟨slR_kp g.k (fun a ha => same a (os a ha)) R.sl, R.nd, fun a ha => ?_, fun b o nm e => g.kp b o (R.fr b o nm e), fun b h => g.gr b (R.a0 b h), fun b h => ⟨g.ad b h, fun m => ?_⟩, fun b h => ?_, Γ.ist H H' n (fun b m => same b (R.md b m)) g.k R.inv⟩
  · obtain ⟨h0, na, nm⟩ := R.fo a ha
    refine ⟨h0, fun z => ?_, nm⟩
    rcases g.nw a z with z | z
    · exact na z
    · exact os a ha z
  · rcases g.nw b h with z | z
    · exact (R.ad b z).2 m
    · exact R.md b m z
  · rcases g.nw b h with z | z
    · exact R.nw b z
    · exact .inr (R.h0 b z)
/-- what was of its own is only read from now on -/
theorem Rel.more (R : Rel Γ σ δ A H n) (so : H a ≠ none) (no : a ∉ owns σ δ) (f : Free Γ A a) : Rel Γ σ δ (fun b => A b ∨ b = a) H n ∧ Kp A H (fun b => A b ∨ b = a) H := by
  have k : Kp A H (fun b => A b ∨ b = a) H := .of (fun b h => .inl h) fun b o _ e => e
  refine ⟨⟨slR_kp k (fun _ _ => rfl) R.sl, R.nd, fun b hb => ?_, R.fr, fun b h => .inl (R.a0 b h), fun b h => ?_, fun b h => ?_, Γ.ist H H n (fun _ _ => rfl) k R.inv⟩, k⟩
  · obtain ⟨h0, na, nm⟩ := R.fo b hb
    refine ⟨h0, fun z => ?_, nm⟩
    rcases z with z | z
    · exact na z
    · rw [z] at hb
      exact no hb
  · rcases h with h | rfl
    · exact R.ad b h
    · exact ⟨so, f.nm⟩
  · rcases h with h | rfl
    · exact R.nw b h
    · exact .inr f.h0
theorem Rel.let_ {ds : List Dt} (R : Rel Γ σ δ A H n) (ho : Own A H a (.lst ds)) (no : a ∉ owns σ δ) (f : Free Γ A a) :
    Rel Γ σ δ (fun b => A b ∨ b = a) H n ∧ Rep (fun b => A b ∨ b = a) H (.ref a) (.lst ds) ∧ Kp A H (fun b => A b ∨ b = a) H := by
  obtain ⟨r, k⟩ := R.more ho.some no f
  exact ⟨r, Own.rep k (.inr rfl) rfl ho, k⟩
/-- an object apart is changed -/
theorem Rel.apart {o : HO} (R : Rel Γ σ δ A H n) (f : Free Γ A a) (no : a ∉ owns σ δ) : Rel Γ σ δ A (upd H a o) n := by
  obtain ⟨h0, na, nm⟩ := f
  have other : ∀ b u, b ≠ a → H b = some u → upd H a o b = some u := fun b u hb q => by
    rw [upd_ne hb]
    exact q
  have neA : ∀ {P : Addr → Prop} {b : Addr}, P b → ¬ P a → b ≠ a := fun hb na z => na (by rw [← z]; exact hb)
  have k : Kp A H A (upd H a o) := .of (fun _ h => h) fun b u hb q => other b u (neA hb na) q
  refine ⟨slR_kp k (fun b hb => upd_ne (neA (P := (· ∈ owns σ δ)) hb no)) R.sl, R.nd, R.fo, fun b u m q => other b u (fun z => by rw [z, h0] at q; cases q) (R.fr b u m q),
    R.a0, fun b hb => ⟨fun z => ?_, (R.ad b hb).2⟩, R.nw, Γ.ist H _ n (fun b m => upd_ne (neA m nm)) k R.inv⟩
  rw [upd_ne (neA hb na)] at z
  exact (R.ad b hb).1 z
/-- an own dict is held fast, and from now on only read -/
theorem Rel.held {kvs : List (Key × Dt)} {od : Obj} {es : List (Key × V)} (R : Rel Γ σ δ A H n) (e : H a = some (.dK es)) (r : RepK A H es kvs) (no : a ∉ owns σ δ) (f : Free Γ A a) :
    Rel Γ σ δ (fun b => A b ∨ b = a) (upd H a (.frz od (.dK es))) n ∧ Rep (fun b => A b ∨ b = a) (upd H a (.frz od (.dK es))) (.ref a) (.dic kvs) := by
  obtain ⟨R2, _⟩ := (R.apart (o := .frz od (.dK es)) f no).more (by rw [upd_same]; exact fun z => by cases z) no f
  exact ⟨R2, .dic (.inr rfl) upd_same (r.kp (.of (fun _ h => .inl h) fun b o hb q => by
    rw [upd_ne (fun z => f.na (by rw [← z]; exact hb))]
    exact q))⟩
theorem Rel.heldM {kvs : List (Dt × Dt)} {od : Obj} {es : List K01.VEnt} (R : Rel Γ σ δ A H n) (e : H a = some (K01.MixO Wd.w a es)) (r : RepM A H es kvs) (no : a ∉ owns σ δ) (f : Free Γ A a) :
    Rel Γ σ δ (fun b => A b ∨ b = a) (upd H a (.frz od (K01.MixO Wd.w a es))) n ∧ Rep (fun b => A b ∨ b = a) (upd H a (.frz od (K01.MixO Wd.w a es))) (.ref a) (.mix kvs) := by
  obtain ⟨R2, _⟩ := (R.apart (o := .frz od (K01.MixO Wd.w a es)) f no).more (by rw [upd_same]; exact fun z => by cases z) no f
  exact ⟨R2, .mix (.inr rfl) upd_same (r.kp (.of (fun _ h => .inl h) fun b o hb q => by
    rw [upd_ne (fun z => f.na (by rw [← z]; exact hb))]
    exact q))⟩
theorem Mv.refl : Mv Γ σ δ A H δ A H := ⟨fun _ h => h, fun _ _ e _ _ => e, fun _ h => .inl h, fun _ h => h, fun _ h => h⟩
theorem Mv.trans {δ1 δ2 : List Sl} {A1 A2 : Addr → Prop} {H1 H2 : Hp} (x : Mv Γ σ δ A H δ1 A1 H1) (y : Mv Γ σ δ1 A1 H1 δ2 A2 H2) : Mv Γ σ δ A H δ2 A2 H2 := by
  refine ⟨fun b h => y.gr b (x.gr b h), fun b o e n m => y.fm b o (x.fm b o e n m) (fun z => n (x.os b z)) m, fun b h => ?_, fun a h => x.os a (y.os a h), fun b h => y.th b (x.th b h)⟩
  rcases y.na b h with z | z | z | z
  · exact x.na b z
  · cases q : H b with
    | none => exact .inr (.inl rfl)
    | some o =>
      by_cases h1 : b ∈ owns σ δ
      · exact .inr (.inr (.inl h1))
      · by_cases h2 : Γ.M b
        · exact .inr (.inr (.inr h2))
        · rw [x.fm b o q h1 h2] at z
          cases z
  · exact .inr (.inr (.inl (x.os b z)))
  · exact .inr (.inr (.inr z))
theorem Mv.kp {δ1 : List Sl} (x : Mv Γ σ δ A H δ1 A' H') (R : Rel Γ σ δ A H n) : Kp A H A' H' := .of x.gr fun a o h e => x.fm a o e (fun z => (R.fo a z).na h) (R.ad a h).2
theorem Mv.grow (g : Grow A H A' H') : Mv Γ σ δ A H δ A' H' := ⟨g.gr, fun b o e _ _ => g.kp b o e, fun b h => (g.nw b h).imp_right .inl, fun _ h => h, fun b h z => by
    cases q : H b with
    | none => exact h q
    | some o =>
      rw [g.kp b o q] at z
      cases z⟩
theorem Rel.dom (R : Rel Γ σ δ A H n) : ∀ b, A b → H b ≠ none := fun b h => (R.ad b h).1
end
/-! ### expressions, by trees -/
abbrev XD := Addr → Str → Dt → Nat → Prop
/-- what a def may end with that is no return: its own wish, and by trees -/
structure Act where
  Ex : XK
  Xd : XD
/-- what is known behind a def that began in Γ -/
structure Exit (Γ : Gm) (A : Addr → Prop) (H : Hp) (n : Nat) : Prop where
  fr : ∀ b o, ¬ Γ.M b → Γ.H0 b = some o → H b = some o
  a0 : ∀ b, Γ.A0 b → A b
  ad : ∀ b, A b → H b ≠ none ∧ ¬ Γ.M b
  nw : ∀ b, A b → Γ.A0 b ∨ Γ.H0 b = none
  inv : Γ.I A H n
theorem Rel.ex {Γ : Gm} {σ : L2.St} {δ : List Sl} {A : Addr → Prop} {H : Hp} {n : Nat} (R : Rel Γ σ δ A H n) : Exit Γ A H n := ⟨R.fr, R.a0, R.ad, R.nw, R.inv⟩
def ExSat (Γ : Gm) (a : Act) : Prop := ∀ (A : Addr → Prop) (H : Hp) (n : Nat) (C : Addr) (f : Str) (d : Dt) (v : V) (x : Addr), Exit Γ A H n → H x = some (.xd [(f, v)]) → Γ.H0 x = none → ¬ A x → Rep A H v d → a.Xd C f d n → a.Ex (.ref C) (some x) H
abbrev TEd := Nat → List Sl → (Sl → Nat → List Sl → Prop) → Prop
abbrev TRd := Nat → List Sl → (Dt → Nat → List Sl → Prop) → Prop
abbrev TAd := Nat → List Sl → (List Sl → Nat → List Sl → Prop) → Prop
def EvE (a : Act) (t : TE) (T : TEd) : Prop := ∀ (Γ : Gm), ExSat Γ a → ∀ (σ : L2.St) (A : Addr → Prop) (H : Hp) (n : Nat) (δ : List Sl) (Qd : Sl → Nat → List Sl → Prop) (Q : VK), Rel Γ σ δ A H n → T n δ Qd →
  (∀ v r A' H' n' δ', Rel Γ σ δ' A' H' n' → RRel Γ H A' H' σ δ' v r → Mv Γ σ δ A H δ' A' H' → Qd r n' δ' → Q v H') → t σ H Q
def EvR (a : Act) (t : TE) (T : TRd) : Prop := ∀ (Γ : Gm), ExSat Γ a → ∀ (σ : L2.St) (A : Addr → Prop) (H : Hp) (n : Nat) (δ : List Sl) (Qd : Dt → Nat → List Sl → Prop) (Q : VK), Rel Γ σ δ A H n → T n δ Qd →
  (∀ v d A' H' n' δ', Rel Γ σ δ' A' H' n' → Rep A' H' v d → Mv Γ σ δ A H δ' A' H' → Qd d n' δ' → Q v H') → t σ H Q
/-- what is read for a moment: also a list, a dict of a name's own -/
inductive Bor (A : Addr → Prop) (H : Hp) : V → Dt → Prop
  | rep {v : V} {d : Dt} : Rep A H v d → Bor A H v d
  | lst {a : Addr} {xs : List V} {ds : List Dt} : H a = some (.lst xs) → Reps A H xs ds → Bor A H (.ref a) (.lst ds)
  | dic {a : Addr} {es : List (Key × V)} {kvs : List (Key × Dt)} : H a = some (.dK es) → RepK A H es kvs → Bor A H (.ref a) (.dic kvs)
def EvB (a : Act) (t : TE) (T : TRd) : Prop := ∀ (Γ : Gm), ExSat Γ a → ∀ (σ : L2.St) (A : Addr → Prop) (H : Hp) (n : Nat) (δ : List Sl) (Qd : Dt → Nat → List Sl → Prop) (Q : VK), Rel Γ σ δ A H n → T n δ Qd →
  (∀ v d A' H' n' δ', Rel Γ σ δ' A' H' n' → Bor A' H' v d → Mv Γ σ δ A H δ' A' H' → Qd d n' δ' → Q v H') → t σ H Q
def DE {ι : Type} (X : ι → Cx) (a : Act) (e : Expr) (T : TEd) : Prop := ∃ t, (∀ c, PE (X c) e t) ∧ EvE a t T
def DR {ι : Type} (X : ι → Cx) (a : Act) (e : Expr) (T : TRd) : Prop := ∃ t, (∀ c, PE (X c) e t) ∧ EvR a t T
def DB {ι : Type} (X : ι → Cx) (a : Act) (e : Expr) (T : TRd) : Prop := ∃ t, (∀ c, PE (X c) e t) ∧ EvB a t T
/-- an argument: read, or the spring -/
inductive RA (p : Option Addr) (A : Addr → Prop) (H : Hp) : V → Sl → Prop
  | ro {v : V} {d : Dt} : Rep A H v d → RA p A H v (.ro d)
  | pool {a : Addr} : p = some a → RA p A H (.ref a) .pool
def EvA (a : Act) (t : TA) (T : TAd) : Prop := ∀ (Γ : Gm), ExSat Γ a → ∀ (σ : L2.St) (A : Addr → Prop) (H : Hp) (n : Nat) (δ : List Sl) (Qd : List Sl → Nat → List Sl → Prop) (Q : List V → Hp → Prop), Rel Γ σ δ A H n → T n δ Qd →
  (∀ vs rs A' H' n' δ', Rel Γ σ δ' A' H' n' → Paired (RA Γ.p A' H') vs rs → Mv Γ σ δ A H δ' A' H' → Qd rs n' δ' → Q vs H') → t σ H Q
def DA {ι : Type} (X : ι → Cx) (a : Act) (es : List Expr) (T : TAd) : Prop := ∃ t, (∀ c, PA (X c) es t) ∧ EvA a t T
def dtOf : Sl → Option Dt
  | .ro d => some d
  | .own (.lst ds) => some (.lst ds)
  | .own (.dic ks) => some (.dic ks)
  | _ => none
section
variable {ι : Type} {X : ι → Cx} {ac : Act}
/-- the result, a list of its own or read already, is only read from now on -/
def relD : Sl → Option Dt
  | .ro d => some d
  | .own (.lst ds) => some (.lst ds)
  | _ => none
theorem Mv.more {Γ : Gm} {σ : L2.St} {δ δ' : List Sl} {A A' : Addr → Prop} {H H' : Hp} {a : Addr} (m : Mv Γ σ δ A H δ' A' H') (na : H a = none) : Mv Γ σ δ A H δ' (fun b => A' b ∨ b = a) H' :=
  ⟨fun b h => .inl (m.gr b h), m.fm, fun b h => by
    rcases h with h | rfl
    · exact m.na b h
    · exact .inr (.inl na), m.os, m.th⟩
theorem Mv.updN {Γ : Gm} {σ : L2.St} {δ δ' : List Sl} {A A' : Addr → Prop} {H H' : Hp} {a : Addr} {o : HO} (m : Mv Γ σ δ A H δ' A' H') (n : H a = none) : Mv Γ σ δ A H δ' A' (upd H' a o) :=
  ⟨m.gr, fun b u e nb nm => by
    rw [upd_ne (ne_of_none e n)]
    exact m.fm b u e nb nm, m.na, m.os, fun b h => by
    by_cases e : b = a
    · rw [e, upd_same]
      exact fun z => by cases z
    · rw [upd_ne e]
      exact m.th b h⟩
theorem DE.r {e : Expr} {T : TEd} (h : DE X ac e T) : DR X ac e (fun n δ Q => T n δ fun r n' δ' => ∃ d, relD r = some d ∧ Q d n' δ') := by
  obtain ⟨t, p, ev⟩ := h
  refine ⟨t, p, fun Γ gx σ A H n δ Qd Q R hT k => ev Γ gx σ A H n δ _ Q R hT fun v r A' H' n' δ' R' rr m q => ?_⟩
  obtain ⟨d, e, q⟩ := q
  cases r with
  | ro d' =>
    cases e
    exact k v d A' H' n' δ' R' rr m q
  | own d' =>
    cases d' with
    | lst ds =>
      cases e
      obtain ⟨a, rfl, ho, no, f, na⟩ := rr
      obtain ⟨R2, rp, k2⟩ := R'.let_ ho no f
      exact k _ _ _ H' n' δ' R2 rp (m.more na) q
    | _ => cases e
  | _ => cases e
/-- .. a dict of its own is held fast -/
def frzT (t : TE) : TE := fun σ H Q => t σ H fun x H1 => ∃ d u, H1 d = some u ∧ Mut (some u) ∧ ∀ od, Q x (upd H1 d (.frz od u))
def dicD : Sl → Option Dt
  | .own (.dic ks) => some (.dic ks)
  | .own (.mix ks) => some (.mix ks)
  | _ => none
theorem DE.z {e : Expr} {T : TEd} (h : DE X ac e T) : DR X ac e (fun n δ Q => T n δ fun r n' δ' => ∃ d, dicD r = some d ∧ Q d n' δ') := by
  obtain ⟨t, p, ev⟩ := h
  refine ⟨frzT t, fun c => K01.pe_frz (p c), fun Γ gx σ A H n δ Qd Q R hT k => ev Γ gx σ A H n δ _ _ R hT fun v r A' H' n' δ' R' rr m q => ?_⟩
  obtain ⟨d, e, q⟩ := q
  cases r with
  | own d' =>
    cases d' with
    | dic ks =>
      cases e
      obtain ⟨a, rfl, ⟨es, he, hr⟩, no, f, na⟩ := rr
      refine ⟨a, _, he, trivial, fun od => ?_⟩
      obtain ⟨R2, rp⟩ := R'.held (od := od) he hr no f
      exact k _ _ _ _ n' δ' R2 rp ((m.more na).updN na) q
    | mix ks =>
      cases e
      obtain ⟨a, rfl, ⟨es, he, hr⟩, no, f, na⟩ := rr
      refine ⟨a, _, he, trivial, fun od => ?_⟩
      obtain ⟨R2, rp⟩ := R'.heldM (od := od) he hr no f
      exact k _ _ _ _ n' δ' R2 rp ((m.more na).updN na) q
    | _ => cases e
  | _ => cases e
theorem DR.e {e : Expr} {T : TRd} (h : DR X ac e T) : DE X ac e (fun n δ Q => T n δ fun d n' δ' => Q (.ro d) n' δ') := by
  obtain ⟨t, p, ev⟩ := h
  exact ⟨t, p, fun Γ gx σ A H n δ Qd Q R hT k => ev Γ gx σ A H n δ _ Q R hT fun v d A' H' n' δ' R' rr m q => k v (.ro d) A' H' n' δ' R' rr m q⟩
theorem DR.b {e : Expr} {T : TRd} (h : DR X ac e T) : DB X ac e T := by
  obtain ⟨t, p, ev⟩ := h
  exact ⟨t, p, fun Γ gx σ A H n δ Qd Q R hT k => ev Γ gx σ A H n δ _ Q R hT fun v d A' H' n' δ' R' rr m q => k v d A' H' n' δ' R' (.rep rr) m q⟩
theorem DA.nil : DA X ac [] (fun n δ Q => Q [] n δ) := ⟨_, fun _ => pa_nil, fun Γ gx σ A H n δ Qd Q R hT k => k [] [] A H n δ R .nil .refl hT⟩
theorem ra_kp {p : Option Addr} {A A' : Addr → Prop} {H H' : Hp} (k : Kp A H A' H') {v : V} {r : Sl} (h : RA p A H v r) : RA p A' H' v r := by
  cases h with
  | ro h => exact .ro (h.kp k)
  | pool e => exact .pool e
theorem DA.cons {e : Expr} {es : List Expr} {T : TRd} {Ts : TAd} (h : DR X ac e T) (hs : DA X ac es Ts) (hse : ∀ c, starEach (e :: es) (X c).env = (false, eval e (X c).env) :: starEach es (X c).env := by intro _; rfl) :
    DA X ac (e :: es) (fun n δ Q => T n δ fun d n1 δ1 => Ts n1 δ1 fun rs n2 δ2 => Q (.ro d :: rs) n2 δ2) := by
  obtain ⟨t, p, ev⟩ := h
  obtain ⟨ts, ps, evs⟩ := hs
  refine ⟨_, fun c => pa_cons (p c) (ps c) (hse c), fun Γ gx σ A H n δ Qd Q R hT k => ev Γ gx σ A H n δ _ _ R hT fun v d A1 H1 n1 δ1 R1 r1 m1 q1 => evs Γ gx σ A1 H1 n1 δ1 _ _ R1 q1 fun vs rs A2 H2 n2 δ2 R2 r2 m2 q2 => ?_⟩
  exact k (v :: vs) (.ro d :: rs) A2 H2 n2 δ2 R2 (.cons (.ro (r1.kp (m2.kp R1))) r2) (m1.trans m2) q2
/-- .. the spring -/
theorem DA.pool {e : Expr} {es : List Expr} {T : TEd} {Ts : TAd} (h : DE X ac e T) (hs : DA X ac es Ts) (hse : ∀ c, starEach (e :: es) (X c).env = (false, eval e (X c).env) :: starEach es (X c).env := by intro _; rfl) :
    DA X ac (e :: es) (fun n δ Q => T n δ fun r n1 δ1 => r = .pool ∧ Ts n1 δ1 fun rs n2 δ2 => Q (.pool :: rs) n2 δ2) := by
  obtain ⟨t, p, ev⟩ := h
  obtain ⟨ts, ps, evs⟩ := hs
  refine ⟨_, fun c => pa_cons (p c) (ps c) (hse c), fun Γ gx σ A H n δ Qd Q R hT k => ev Γ gx σ A H n δ _ _ R hT fun v r A1 H1 n1 δ1 R1 r1 m1 q1 => ?_⟩
  obtain ⟨rfl, q1⟩ := q1
  obtain ⟨a, ea, rfl⟩ := r1
  exact evs Γ gx σ A1 H1 n1 δ1 _ _ R1 q1 fun vs rs A2 H2 n2 δ2 R2 r2 m2 q2 => k _ (.pool :: rs) A2 H2 n2 δ2 R2 (.cons (.pool ea) r2) (m1.trans m2) q2
/-! ### names, constants -/
theorem slR_get {p : Option Addr} {A : Addr → Prop} {H : Hp} : ∀ {σ : L2.St} {δ : List Sl} {i : Nat} {s : Sl}, Paired (SlR p A H) σ δ → δ[i]? = some s → ∃ x, σ[i]? = some x ∧ SlR p A H x s
  | _, _, _, _, .nil, e => by simp at e
  | _, _, 0, _, .cons r _, e => by
    simp at e
    subst e
    exact ⟨_, rfl, r⟩
  | _, _, i + 1, s, .cons _ t, e => by
    obtain ⟨x, h1, h2⟩ := slR_get (i := i) (s := s) t (by simpa using e)
    exact ⟨x, by simpa using h1, h2⟩
theorem slR_own {p : Option Addr} {A : Addr → Prop} {H : Hp} {x : Option V} {d : Dt} (h : SlR p A H x (.own d)) : ∃ a, x = some (.ref a) ∧ Own A H a d := by
  cases x with
  | none => exact h.elim
  | some v =>
    cases v with
    | ref a => exact ⟨a, rfl, h⟩
    | _ => exact h.elim
theorem owns_at : ∀ {σ : L2.St} {δ : List Sl} {i : Nat} {a : Addr} {d : Dt}, σ[i]? = some (some (.ref a)) → δ[i]? = some (.own d) → a ∈ owns σ δ
  | [], _, _, _, _, e, _ => by simp at e
  | _ :: _, [], _, _, _, _, e => by simp at e
  | x :: σ, s :: δ, 0, a, d, e1, e2 => by
    simp at e1 e2
    subst e1 e2
    unfold owns
    exact List.mem_cons_self
  | x :: σ, s :: δ, i + 1, a, d, e1, e2 => by
    have ih := owns_at (σ := σ) (δ := δ) (i := i) (a := a) (d := d) (by simpa using e1) (by simpa using e2)
    unfold owns
    split
    · rename_i q1 q2
      injection q1 with q1 q1'
      injection q2 with q2 q2'
      subst q1' q2'
      exact List.mem_cons_of_mem _ ih
    · rename_i q1 q2
      injection q1 with q1 q1'
      injection q2 with q2 q2'
      subst q1' q2'
      exact ih
    · rename_i h1 h2
      exact absurd rfl (h2 _ _ _ _ rfl)
theorem dr_var {i : Nat} {x : Str} {pos : Pos} (h : ∀ c, PE (X c) (.Name x pos) (tVar i)) : DR X ac (.Name x pos) (fun n δ Q => ∃ d, δ[i]? = some (.ro d) ∧ Q d n δ) := by
  refine ⟨_, h, fun Γ gx σ A H n δ Qd Q R hT k => ?_⟩
  obtain ⟨d, e, q⟩ := hT
  obtain ⟨x, h1, h2⟩ := slR_get R.sl e
  cases x with
  | none => exact h2.elim
  | some v => exact ⟨v, h1, k v d A H n δ R h2 .refl q⟩
/-- a name, for a moment -/
theorem db_var {i : Nat} {x : Str} {pos : Pos} (h : ∀ c, PE (X c) (.Name x pos) (tVar i)) : DB X ac (.Name x pos) (fun n δ Q => ∃ d s, δ[i]? = some s ∧ dtOf s = some d ∧ Q d n δ) := by
  refine ⟨_, h, fun Γ gx σ A H n δ Qd Q R hT k => ?_⟩
  obtain ⟨d, s, e, ed, q⟩ := hT
  obtain ⟨x, h1, h2⟩ := slR_get R.sl e
  cases s with
  | ro d' =>
    cases ed
    cases x with
    | none => exact h2.elim
    | some v => exact ⟨v, h1, k v d A H n δ R (.rep h2) .refl q⟩
  | own d' =>
    obtain ⟨a, rfl, ho⟩ := slR_own h2
    cases d' with
    | lst ds =>
      cases ed
      obtain ⟨es, he, hr⟩ := ho
      exact ⟨_, h1, k _ _ A H n δ R (.lst he hr) .refl q⟩
    | dic ks =>
      cases ed
      obtain ⟨es, he, hr⟩ := ho
      exact ⟨_, h1, k _ _ A H n δ R (.dic he hr) .refl q⟩
    | _ => cases ed
  | _ => cases ed
theorem de_pool {i : Nat} {x : Str} {pos : Pos} (h : ∀ c, PE (X c) (.Name x pos) (tVar i)) : DE X ac (.Name x pos) (fun n δ Q => δ[i]? = some .pool ∧ Q .pool n δ) := by
  refine ⟨_, h, fun Γ gx σ A H n δ Qd Q R hT k => ?_⟩
  obtain ⟨e, q⟩ := hT
  obtain ⟨x, h1, h2⟩ := slR_get R.sl e
  cases x with
  | none => exact h2.elim
  | some v => exact ⟨v, h1, k v .pool A H n δ R h2 .refl q⟩
theorem dr_c {e : Expr} {v : V} {d : Dt} (h : ∀ c, PE (X c) e (tC v)) (r : ∀ A H, Rep A H v d) : DR X ac e (fun n δ Q => Q d n δ) :=
  ⟨_, h, fun Γ gx σ A H n δ Qd Q R hT k => k v d A H n δ R (r A H) .refl hT⟩
/-! ### operators -/
/-- what a pure operator, a built-in gives: it may make new objects -/
def Out (A : Addr → Prop) (H : Hp) (Qd : Sl → Prop) (Q : VK) : Prop := ∀ u s A' H', Grow A H A' H' → (∀ d, s = .ro d → Rep A' H' u d) → (∀ d, s = .own d → ∃ a, u = .ref a ∧ H a = none ∧ ¬ A' a ∧ Own A' H' a d) → s ≠ .pool → s ≠ .no → Qd s → Q u H'
def DOp (r : R2) (F : Dt → Dt → (Sl → Prop) → Prop) : Prop := ∀ (A : Addr → Prop) (H : Hp) (v w : V) (d e : Dt) (Qd : Sl → Prop) (Q : VK), (∀ b, A b → H b ≠ none) → Rep A H v d → Rep A H w e → F d e Qd → Out A H Qd Q → r v w H Q
theorem RRel.new {Γ : Gm} {A A' : Addr → Prop} {H H' Hs : Hp} {σ : L2.St} {δ : List Sl} {n : Nat} {u : V} {s : Sl} (R : Rel Γ σ δ A H n) (g : Grow A H A' H') (hs : ∀ a, H a = none → Hs a = none) (h1 : ∀ d, s = .ro d → Rep A' H' u d)
    (h2 : ∀ d, s = .own d → ∃ a, u = .ref a ∧ H a = none ∧ ¬ A' a ∧ Own A' H' a d) (h3 : s ≠ .pool) (h4 : s ≠ .no) : RRel Γ Hs A' H' σ δ u s := by
  cases s with
  | ro d => exact h1 d rfl
  | own d =>
    obtain ⟨a, rfl, na, nA, ho⟩ := h2 d rfl
    exact ⟨a, rfl, ho, fun z => own_some R.sl a z na, ⟨R.h0 a na, nA, fun m => R.md a m na⟩, hs a na⟩
  | pool => exact absurd rfl h3
  | no => exact absurd rfl h4
theorem RRel.hs {Γ : Gm} {Hs Hs' H : Hp} {A : Addr → Prop} {σ : L2.St} {δ : List Sl} {u : V} {s : Sl} (h : RRel Γ Hs A H σ δ u s) (k : ∀ a, Hs a = none → Hs' a = none) : RRel Γ Hs' A H σ δ u s := by
  cases s with
  | own d =>
    obtain ⟨a, e, ho, no, f, na⟩ := h
    exact ⟨a, e, ho, no, f, k a na⟩
  | _ => exact h
/-- what is new now was new ahead -/
theorem Mv.was {Γ : Gm} {σ : L2.St} {δ δ' : List Sl} {A A' : Addr → Prop} {H H' : Hp} (m : Mv Γ σ δ A H δ' A' H') : ∀ a, H' a = none → H a = none := fun a z => by
  cases q : H a with
  | none => rfl
  | some o => exact absurd z (m.th a (by rw [q]; exact fun e => by cases e))
end
end DL
/-! ## DL3 -/
set_option Elab.async false
set_option linter.all false
set_option maxRecDepth 100000
set_option maxHeartbeats 4000000
namespace DL
open PySem PySem.Spec PyProof.Rows L2
variable [Wd]
section
variable {ι : Type} {X : ι → Cx} {A A' : Addr → Prop} {H H' : Hp} {v w : V} {d e : Dt}
theorem Grow.refl (h : ∀ b, A b → H b ≠ none) : Grow A H A H := ⟨fun _ _ e => e, fun _ h => h, fun _ h => .inl h, h⟩
theorem up_new' {p b : Addr} {o u : HO} (n : H p = none) (e : H b = some u) : upd H p o b = some u := by
  rw [upd_ne (ne_of_none e n)]
  exact e
theorem Grow.new {p : Addr} {o : HO} (n : H p = none) (h : ∀ b, A b → H b ≠ none) : Grow A H A (upd H p o) :=
  ⟨fun b u e => up_new' n e, fun _ h => h, fun _ h => .inl h, fun b hb z => by
    by_cases e : b = p
    · rw [e, upd_same] at z
      cases z
    · rw [upd_ne e] at z
      exact h b hb z⟩
theorem Grow.newA {p : Addr} {o : HO} (n : H p = none) (h : ∀ b, A b → H b ≠ none) : Grow A H (fun b => A b ∨ b = p) (upd H p o) :=
  ⟨fun b u e => up_new' n e, fun _ h => .inl h, fun b hb => by
    rcases hb with hb | rfl
    · exact .inl hb
    · exact .inr n, fun b hb z => by
    by_cases e : b = p
    · rw [e, upd_same] at z
      cases z
    · rw [upd_ne e] at z
      exact h b (hb.resolve_right e) z⟩
/-! the forms of trees -/
theorem rep_int {i : Int} (h : Rep A H v (.int i)) : v = .int i := by cases h; rfl
theorem rep_bl {b : Bool} (h : Rep A H v (.bl b)) : v = .bl b := by cases h; rfl
theorem rep_str {z : Str} (h : Rep A H v (.str z)) : v = .str z := by cases h; rfl
theorem rep_non (h : Rep A H v .non) : v = .non := by cases h; rfl
theorem rep_lst {ds : List Dt} (h : Rep A H v (.lst ds)) : ∃ a xs, v = .ref a ∧ A a ∧ H a = some (.lst xs) ∧ Reps A H xs ds := by
  cases h with
  | lst h1 h2 h3 => exact ⟨_, _, rfl, h1, h2, h3⟩
theorem rep_tup {ds : List Dt} (h : Rep A H v (.tup ds)) : ∃ a xs, v = .ref a ∧ A a ∧ H a = some (.tup xs) ∧ Reps A H xs ds := by
  cases h with
  | tup h1 h2 h3 => exact ⟨_, _, rfl, h1, h2, h3⟩
theorem rep_dic {kvs : List (Key × Dt)} (h : Rep A H v (.dic kvs)) : ∃ a o es, v = .ref a ∧ A a ∧ H a = some (.frz o (.dK es)) ∧ RepK A H es kvs := by
  cases h with
  | dic h1 h2 h3 => exact ⟨_, _, _, rfl, h1, h2, h3⟩
theorem rep_mix {kvs : List (Dt × Dt)} (h : Rep A H v (.mix kvs)) : ∃ a o es, v = .ref a ∧ A a ∧ H a = some (.frz o (K01.MixO Wd.w a es)) ∧ RepM A H es kvs := by
  cases h with
  | mix h1 h2 h3 => exact ⟨_, _, _, rfl, h1, h2, h3⟩
theorem rep_ins {C : Addr} {ks : List (Str × Dt)} (h : Rep A H v (.ins C ks)) : ∃ a dx fs, v = .ref a ∧ A a ∧ H a = some (.ins C dx fs) ∧ RepF A H fs ks := by
  cases h with
  | ins h1 h2 h3 => exact ⟨_, _, _, rfl, h1, h2, h3⟩
/-! an operator that makes nothing, a list, a tuple -/
/-- a value that is no object -/
def Sc (u : V) (x : Dt) : Prop := ∀ A H, Rep A H u x
theorem sc_bl {b : Bool} : Sc (.bl b) (.bl b) := fun _ _ => .bl b
theorem sc_int {i : Int} : Sc (.int i) (.int i) := fun _ _ => .int i
theorem sc_str {z : Str} : Sc (.str z) (.str z) := fun _ _ => .str z
theorem sc_non : Sc .non .non := fun _ _ => .non
theorem Out.sc {Qd : Sl → Prop} {Q : VK} (k : Out A H Qd Q) (hA : ∀ b, A b → H b ≠ none) {u : V} {x : Dt} (h : Rep A H u x) (q : Qd (.ro x)) : Q u H :=
  k u (.ro x) A H (.refl hA) (fun d e => by cases e; exact h) (fun d e => by cases e) (fun e => by cases e) (fun e => by cases e) q
theorem new_own {p : Addr} {xs : List V} {ds : List Dt} (n : H p = none) (hA : ∀ b, A b → H b ≠ none) (r : Reps A H xs ds) : Grow A H A (upd H p (.lst xs)) ∧ ¬ A p ∧ Own A (upd H p (.lst xs)) p (.lst ds) :=
  have g : Grow A H A (upd H p (.lst xs)) := .new n hA
  ⟨g, fun z => hA p z n, xs, upd_same, r.kp g.k⟩
theorem new_tup {p : Addr} {xs : List V} {ds : List Dt} (n : H p = none) (hA : ∀ b, A b → H b ≠ none) (r : Reps A H xs ds) : Grow A H (fun b => A b ∨ b = p) (upd H p (.tup xs)) ∧ Rep (fun b => A b ∨ b = p) (upd H p (.tup xs)) (.ref p) (.tup ds) :=
  have g : Grow A H (fun b => A b ∨ b = p) (upd H p (.tup xs)) := .newA n hA
  ⟨g, .tup (.inr rfl) upd_same (r.kp g.k)⟩
theorem Out.own {Qd : Sl → Prop} {Q : VK} (k : Out A H Qd Q) (hA : ∀ b, A b → H b ≠ none) {p : Addr} {xs : List V} {ds : List Dt} (n : H p = none) (r : Reps A H xs ds) (q : Qd (.own (.lst ds))) : Q (.ref p) (upd H p (.lst xs)) := by
  obtain ⟨g, nA, ho⟩ := new_own n hA r
  exact k (.ref p) (.own (.lst ds)) A _ g (fun d e => by cases e) (fun d e => by cases e; exact ⟨p, rfl, n, nA, ho⟩) (fun e => by cases e) (fun e => by cases e) q
theorem Out.dic {Qd : Sl → Prop} {Q : VK} (k : Out A H Qd Q) (hA : ∀ b, A b → H b ≠ none) {p : Addr} {es : List (Key × V)} {kvs : List (Key × Dt)} (n : H p = none) (r : RepK A H es kvs) (q : Qd (.own (.dic kvs))) : Q (.ref p) (upd H p (.dK es)) :=
  have g : Grow A H A (upd H p (.dK es)) := .new n hA
  k (.ref p) (.own (.dic kvs)) A _ g (fun d e => by cases e) (fun d e => by cases e; exact ⟨p, rfl, n, fun z => hA p z n, es, upd_same, r.kp g.k⟩) (fun e => by cases e) (fun e => by cases e) q
theorem Out.tup {Qd : Sl → Prop} {Q : VK} (k : Out A H Qd Q) (hA : ∀ b, A b → H b ≠ none) {p : Addr} {xs : List V} {ds : List Dt} (n : H p = none) (r : Reps A H xs ds) (q : Qd (.ro (.tup ds))) : Q (.ref p) (upd H p (.tup xs)) := by
  obtain ⟨g, h⟩ := new_tup n hA r
  exact k (.ref p) (.ro (.tup ds)) _ _ g (fun d e => by cases e; exact h) (fun d e => by cases e) (fun e => by cases e) (fun e => by cases e) q
theorem Bor.grow {A A' : Addr → Prop} {H H' : Hp} {v : V} {d : Dt} (g : Grow A H A' H') (h : Bor A H v d) : Bor A' H' v d := by
  cases h with
  | rep h => exact .rep (h.kp g.k)
  | lst e r => exact .lst (g.kp _ _ e) (r.kp g.k)
  | dic e r => exact .dic (g.kp _ _ e) (r.kp g.k)
theorem Bor.int {A : Addr → Prop} {H : Hp} {v : V} {i : Int} (h : Bor A H v (.int i)) : v = .int i := by
  cases h with
  | rep h => exact rep_int h
theorem Bor.bl {A : Addr → Prop} {H : Hp} {v : V} {i : Bool} (h : Bor A H v (.bl i)) : v = .bl i := by
  cases h with
  | rep h => exact rep_bl h
theorem Bor.str {A : Addr → Prop} {H : Hp} {v : V} {z : Str} (h : Bor A H v (.str z)) : v = .str z := by
  cases h with
  | rep h => exact rep_str h
/-- an operator of two ints, .. -/
def DOpS (r : R2) (F : Dt → Dt → (Dt → Prop) → Prop) : Prop := ∀ (A : Addr → Prop) (H : Hp) (v w : V) (d e : Dt) (Qd : Dt → Prop) (Q : VK), Bor A H v d → Bor A H w e → F d e Qd → (∀ u x, Sc u x → Qd x → Q u H) → r v w H Q
theorem DOpS.op {r : R2} {F : Dt → Dt → (Dt → Prop) → Prop} (h : DOpS r F) : DOp r (fun d e Q => F d e fun x => Q (.ro x)) :=
  fun A H v w d e Qd Q hA r1 r2 hF k => h A H v w d e _ Q (.rep r1) (.rep r2) hF fun u x sc q => k.sc hA (sc A H) q
theorem dop_int {r : R2} {C : Int → Int → Prop} {g : Int → Int → V} {gd : Int → Int → Dt} (hr : ∀ x y H Q, (∃ i j, x = V.int i ∧ y = V.int j ∧ C i j ∧ Q (g i j) H) → r x y H Q) (hg : ∀ i j, Sc (g i j) (gd i j)) : DOpS r (fun d e Q => ∃ i j, d = .int i ∧ e = .int j ∧ C i j ∧ Q (gd i j)) :=
  fun A H v w d e Qd Q r1 r2 hF k => by
    obtain ⟨i, j, rfl, rfl, c, q⟩ := hF
    exact hr _ _ _ _ ⟨i, j, r1.int, r2.int, c, k _ _ (hg i j) q⟩
theorem dop_int0 {r : R2} {g : Int → Int → V} {gd : Int → Int → Dt} (hr : ∀ x y H Q, (∃ i j, x = V.int i ∧ y = V.int j ∧ Q (g i j) H) → r x y H Q) (hg : ∀ i j, Sc (g i j) (gd i j)) : DOpS r (fun d e Q => ∃ i j, d = .int i ∧ e = .int j ∧ Q (gd i j)) :=
  fun A H v w d e Qd Q r1 r2 hF k => by
    obtain ⟨i, j, rfl, rfl, q⟩ := hF
    exact hr _ _ _ _ ⟨i, j, r1.int, r2.int, k _ _ (hg i j) q⟩
end
/-! ### quiet expressions: they make new objects at most -/
abbrev TQd := List Sl → (Dt → Prop) → Prop
def EvQ (a : Act) (t : TE) (T : TQd) : Prop := ∀ (Γ : Gm), ExSat Γ a → ∀ (σ : L2.St) (A : Addr → Prop) (H : Hp) (n : Nat) (δ : List Sl) (Qd : Dt → Prop) (Q : VK), Rel Γ σ δ A H n → T δ Qd → (∀ v d A' H', Grow A H A' H' → Rep A' H' v d → Qd d → Q v H') → t σ H Q
def DQ {ι : Type} (X : ι → Cx) (a : Act) (e : Expr) (T : TQd) : Prop := ∃ t, (∀ c, PE (X c) e t) ∧ EvQ a t T
section
variable {ι : Type} {X : ι → Cx} {ac : Act}
theorem dq_var {i : Nat} {x : Str} {pos : Pos} (h : ∀ c, PE (X c) (.Name x pos) (tVar i)) : DQ X ac (.Name x pos) (fun δ Q => ∃ d, δ[i]? = some (.ro d) ∧ Q d) := by
  refine ⟨_, h, fun Γ gx σ A H n δ Qd Q R hT k => ?_⟩
  obtain ⟨d, e, q⟩ := hT
  obtain ⟨x, h1, h2⟩ := slR_get R.sl e
  cases x with
  | none => exact h2.elim
  | some v => exact ⟨v, h1, k v d A H (.refl R.dom) h2 q⟩
theorem dq_c {e : Expr} {v : V} {d : Dt} (h : ∀ c, PE (X c) e (tC v)) (r : Sc v d) : DQ X ac e (fun δ Q => Q d) :=
  ⟨_, h, fun Γ gx σ A H n δ Qd Q R hT k => k v d A H (.refl R.dom) (r A H) hT⟩
theorem dq_nil {pos : Pos} : DQ X ac (.List [] pos) (fun δ Q => Q (.lst [])) := by
  refine ⟨_, fun _ => pe_lst pa_nil, fun Γ gx σ A H n δ Qd Q R hT k => ⟨Nat.zero_le _, fun p np => ?_⟩⟩
  have g : Grow A H (fun b => A b ∨ b = p) (upd H p (.lst [])) := .newA np R.dom
  exact k (.ref p) (.lst []) _ _ g (.lst (.inr rfl) upd_same .nil) hT
/-! ### operators -/
theorem de_op {a b : Expr} {r : R2} {F : Dt → Dt → (Sl → Prop) → Prop} {Ta Tb : TRd} {e : Expr} (pe : ∀ c {ta tb : TE}, PE (X c) a ta → PE (X c) b tb → PE (X c) e (tOp r ta tb)) (hr : DOp r F) (ha : DR X ac a Ta) (hb : DR X ac b Tb) :
    DE X ac e (fun n δ Q => Ta n δ fun d n1 δ1 => Tb n1 δ1 fun d' n2 δ2 => F d d' fun s => Q s n2 δ2) := by
  obtain ⟨ta, pa, ea⟩ := ha
  obtain ⟨tb, pb, eb⟩ := hb
  refine ⟨_, fun c => pe c (pa c) (pb c), fun Γ gx σ A H n δ Qd Q R hT k => ea Γ gx σ A H n δ _ _ R hT fun v d A1 H1 n1 δ1 R1 r1 m1 q1 => eb Γ gx σ A1 H1 n1 δ1 _ _ R1 q1 fun w e A2 H2 n2 δ2 R2 r2 m2 q2 => ?_⟩
  refine hr A2 H2 v w d e _ _ R2.dom (r1.kp (m2.kp R1)) r2 q2 fun u s A' H' g h1 h2 h3 h4 q => ?_
  exact k u s A' H' n2 δ2 (R2.grow g) (RRel.new R2 g (m1.trans m2).was h1 h2 h3 h4) ((m1.trans m2).trans (.grow g)) q
/-- .. that gives no object; the second operand may be a name's own -/
theorem dr_op {a b : Expr} {r : R2} {F : Dt → Dt → (Dt → Prop) → Prop} {Ta Tb : TRd} {e : Expr} (pe : ∀ c {ta tb : TE}, PE (X c) a ta → PE (X c) b tb → PE (X c) e (tOp r ta tb)) (hr : DOpS r F) (ha : DR X ac a Ta) (hb : DB X ac b Tb) :
    DR X ac e (fun n δ Q => Ta n δ fun d n1 δ1 => Tb n1 δ1 fun d' n2 δ2 => F d d' fun x => Q x n2 δ2) := by
  obtain ⟨ta, pa, ea⟩ := ha
  obtain ⟨tb, pb, eb⟩ := hb
  refine ⟨_, fun c => pe c (pa c) (pb c), fun Γ gx σ A H n δ Qd Q R hT k => ea Γ gx σ A H n δ _ _ R hT fun v d A1 H1 n1 δ1 R1 r1 m1 q1 => eb Γ gx σ A1 H1 n1 δ1 _ _ R1 q1 fun w e A2 H2 n2 δ2 R2 r2 m2 q2 => ?_⟩
  exact hr A2 H2 v w d e _ _ (.rep (r1.kp (m2.kp R1))) r2 q2 fun u x sc q => k u x A2 H2 n2 δ2 R2 (sc A2 H2) (m1.trans m2) q
/-- .. the first one may be a name's own, the second one being quiet -/
theorem dr_opQ {a b : Expr} {r : R2} {F : Dt → Dt → (Dt → Prop) → Prop} {Ta : TRd} {Tb : TQd} {e : Expr} (pe : ∀ c {ta tb : TE}, PE (X c) a ta → PE (X c) b tb → PE (X c) e (tOp r ta tb)) (hr : DOpS r F) (ha : DB X ac a Ta) (hb : DQ X ac b Tb) :
    DR X ac e (fun n δ Q => Ta n δ fun d n1 δ1 => Tb δ1 fun d' => F d d' fun x => Q x n1 δ1) := by
  obtain ⟨ta, pa, ea⟩ := ha
  obtain ⟨tb, pb, eb⟩ := hb
  refine ⟨_, fun c => pe c (pa c) (pb c), fun Γ gx σ A H n δ Qd Q R hT k => ea Γ gx σ A H n δ _ _ R hT fun v d A1 H1 n1 δ1 R1 r1 m1 q1 => eb Γ gx σ A1 H1 n1 δ1 _ _ R1 q1 fun w e A2 H2 g r2 q2 => ?_⟩
  refine hr A2 H2 v w d e _ _ (r1.grow g) (.rep r2) q2 fun u x sc q => k u x A2 H2 n1 δ1 (R1.grow g) (sc A2 H2) (m1.trans (.grow g)) q
end
/-! ### tests -/
abbrev TTd := Nat → List Sl → (Bool → Nat → List Sl → Prop) → Prop
def EvT (a : Act) (t : TT) (T : TTd) : Prop := ∀ (Γ : Gm), ExSat Γ a → ∀ (σ : L2.St) (A : Addr → Prop) (H : Hp) (n : Nat) (δ : List Sl) (Qd : Bool → Nat → List Sl → Prop) (Q : Bool → Hp → Prop), Rel Γ σ δ A H n → T n δ Qd →
  (∀ b A' H' n' δ', Rel Γ σ δ' A' H' n' → Mv Γ σ δ A H δ' A' H' → Qd b n' δ' → Q b H') → t σ H Q
def DT {ι : Type} (X : ι → Cx) (a : Act) (e : Expr) (T : TTd) : Prop := ∃ t, (∀ c, PT (X c) e t) ∧ EvT a t T
def DW {ι : Type} (X : ι → Cx) (a : Act) (e : Expr) (T : TTd) : Prop := ∃ t, (∀ c, PW (X c) e t) ∧ EvT a t T
section
variable {ι : Type} {X : ι → Cx} {ac : Act}
theorem DW.t {e : Expr} {T : TTd} (h : DW X ac e T) : DT X ac e T := by
  obtain ⟨t, p, ev⟩ := h
  exact ⟨t, fun c => (p c).pt, ev⟩
theorem dt_val {e : Expr} {T : TRd} (h : DR X ac e T) (he : ∀ c whole, isTrue e (X c).env whole = (do let v ← whole; standAt e.pos; holding [v] (truthy v)) := by intro _ _; rfl) : DT X ac e (fun n δ Q => T n δ fun d n' δ' => ∃ b, d = .bl b ∧ Q b n' δ') := by
  obtain ⟨t, p, ev⟩ := h
  refine ⟨_, fun c => pt_val (p c) (he c), fun Γ gx σ A H n δ Qd Q R hT k => ev Γ gx σ A H n δ _ _ R hT fun v d A' H' n' δ' R' r m q => ?_⟩
  obtain ⟨b, rfl, q⟩ := q
  exact ⟨b, rep_bl r, k b A' H' n' δ' R' m q⟩
/-- truth, of a locked dict too -/
def Tru2 (K : PySem.W.Frag) (x : V) (H : Hp) (k : Bool) : Prop := TruV K x H k ∨ ∃ p es, x = .ref p ∧ Rd H p (.dK es) ∧ k = !es.isEmpty
theorem pt_tru2 {X : Cx} {a : Expr} {ta : TE} (ha : PE X a ta) (he : ∀ whole, isTrue a X.env whole = (do let v ← whole; standAt a.pos; holding [v] (truthy v))) : PT X a (fun σ H Q => ta σ H fun x H' => ∃ k, Tru2 X.K x H' k ∧ Q k H') := by
  refine ⟨fun pins s σ H Q I h => isTrue_plain (thn (ha.run pins s σ H _ I h) fun v s1 ⟨x, H1, I1, r1, k, t, q⟩ => ?_) (he _)⟩
  rcases t with t | ⟨p, es, rfl, rd, rfl⟩
  · exact tru_ok pins s1 σ H1 x v Q I1 r1 ⟨k, t, q⟩
  · cases r1
    obtain ⟨z1, z2, us, kv, dd⟩ := dk_rd I1.hok rd
    have ln : es.length = us.length := Paired.length kv
    have l63 := line63
    have sl := sizeLine_eq
    refine wpAny_truthy_dict z2 dd (by omega) ⟨H1, I1.tok _, ?_⟩
    rw [isEmpty_kv kv]
    exact q
/-- truth of any tree -/
def truD : Dt → Option Bool
  | .non => some false
  | .bl b => some b
  | .int i => some (i != 0)
  | .lst ds => some (!ds.isEmpty)
  | .tup ds => some (!ds.isEmpty)
  | .dic ds => some (!ds.isEmpty)
  | _ => none
theorem isE_len {α β : Type} {xs : List α} {ys : List β} (h : xs.length = ys.length) : xs.isEmpty = ys.isEmpty := by
  cases xs <;> cases ys <;> simp at h ⊢
theorem dt_truth (K : PySem.W.Frag) {e : Expr} {T : TRd} (h : DB X ac e T) (hK : ∀ c, (X c).K = K := by intro _; rfl) (he : ∀ c whole, isTrue e (X c).env whole = (do let v ← whole; standAt e.pos; holding [v] (truthy v)) := by intro _ _; rfl) : DT X ac e (fun n δ Q => T n δ fun d n' δ' => ∃ b, truD d = some b ∧ Q b n' δ') := by
  obtain ⟨t, p, ev⟩ := h
  refine ⟨fun σ H Q => t σ H fun x H' => ∃ k, Tru2 K x H' k ∧ Q k H', fun c => by have q := pt_tru2 (p c) (he c); rw [hK c] at q; exact q, fun Γ gx σ A H n δ Qd Q R hT k => ev Γ gx σ A H n δ _ _ R hT fun v d A' H' n' δ' R' r m q => ?_⟩
  obtain ⟨b, e, q⟩ := q
  refine ⟨b, ?_, k b A' H' n' δ' R' m q⟩
  cases r with
  | rep r =>
    cases r with
    | non => cases e; exact .inl rfl
    | bl b' => cases e; exact .inl rfl
    | int i => cases e; exact .inl rfl
    | lst h1 h2 h3 => cases e; exact .inl (.inl ⟨_, SqL.of h2, by rw [isE_len h3.len]⟩)
    | tup h1 h2 h3 => cases e; exact .inl (.inr (.inl ⟨_, SqT.of h2, by rw [isE_len h3.len]⟩))
    | dic h1 h2 h3 => cases e; exact .inr ⟨_, _, rfl, .inr ⟨_, h2⟩, by rw [isE_len h3.len]⟩
    | _ => cases e
  | lst h2 h3 => cases e; exact .inl (.inl ⟨_, SqL.of h2, by rw [isE_len h3.len]⟩)
  | dic h2 h3 => cases e; exact .inr ⟨_, _, rfl, .inl h2, by rw [isE_len h3.len]⟩
theorem dt_op {a b : Expr} {r : R2} {F : Dt → Dt → (Dt → Prop) → Prop} {Ta Tb : TRd} {e : Expr} (pe : ∀ c {ta tb : TE}, PE (X c) a ta → PE (X c) b tb → PT (X c) e (tTest (tOp r ta tb))) (hr : DOpS r F) (ha : DR X ac a Ta) (hb : DB X ac b Tb) :
    DT X ac e (fun n δ Q => Ta n δ fun d n1 δ1 => Tb n1 δ1 fun d' n2 δ2 => F d d' fun x => ∃ b, x = .bl b ∧ Q b n2 δ2) := by
  obtain ⟨ta, pa, ea⟩ := ha
  obtain ⟨tb, pb, eb⟩ := hb
  refine ⟨_, fun c => pe c (pa c) (pb c), fun Γ gx σ A H n δ Qd Q R hT k => ea Γ gx σ A H n δ _ _ R hT fun v d A1 H1 n1 δ1 R1 r1 m1 q1 => eb Γ gx σ A1 H1 n1 δ1 _ _ R1 q1 fun w e A2 H2 n2 δ2 R2 r2 m2 q2 => ?_⟩
  refine hr A2 H2 v w d e _ _ (.rep (r1.kp (m2.kp R1))) r2 q2 fun u x sc q => ?_
  obtain ⟨b, rfl, q⟩ := q
  exact ⟨b, rep_bl (sc A2 H2), k b A2 H2 n2 δ2 R2 (m1.trans m2) q⟩
theorem dt_opQ {a b : Expr} {r : R2} {F : Dt → Dt → (Dt → Prop) → Prop} {Ta : TRd} {Tb : TQd} {e : Expr} (pe : ∀ c {ta tb : TE}, PE (X c) a ta → PE (X c) b tb → PT (X c) e (tTest (tOp r ta tb))) (hr : DOpS r F) (ha : DB X ac a Ta) (hb : DQ X ac b Tb) :
    DT X ac e (fun n δ Q => Ta n δ fun d n1 δ1 => Tb δ1 fun d' => F d d' fun x => ∃ b, x = .bl b ∧ Q b n1 δ1) := by
  obtain ⟨ta, pa, ea⟩ := ha
  obtain ⟨tb, pb, eb⟩ := hb
  refine ⟨_, fun c => pe c (pa c) (pb c), fun Γ gx σ A H n δ Qd Q R hT k => ea Γ gx σ A H n δ _ _ R hT fun v d A1 H1 n1 δ1 R1 r1 m1 q1 => eb Γ gx σ A1 H1 n1 δ1 _ _ R1 q1 fun w e A2 H2 g r2 q2 => ?_⟩
  refine hr A2 H2 v w d e _ _ (r1.grow g) (.rep r2) q2 fun u x sc q => ?_
  obtain ⟨b, rfl, q⟩ := q
  exact ⟨b, rep_bl (sc A2 H2), k b A2 H2 n1 δ1 (R1.grow g) (m1.trans (.grow g)) q⟩
theorem dt_not {a : Expr} {pos : Pos} {T : TTd} (h : DT X ac a T) : DT X ac (.UnaryOp .Not a pos) (fun n δ Q => T n δ fun b n' δ' => Q (!b) n' δ') := by
  obtain ⟨t, p, ev⟩ := h
  exact ⟨_, fun c => pt_not (p c), fun Γ gx σ A H n δ Qd Q R hT k => ev Γ gx σ A H n δ _ _ R hT fun b A' H' n' δ' R' m q => k (!b) A' H' n' δ' R' m q⟩
def dIte (b : Bool) (P Q : Prop) : Prop := (b = true → P) ∧ (b = false → Q)
theorem dw_and {a b : Expr} {rest : List Expr} {pos : Pos} {Ta Tb : TTd} (ha : DT X ac a Ta) (hb : DW X ac (.BoolOp .And (b :: rest) pos) Tb) : DW X ac (.BoolOp .And (a :: b :: rest) pos) (fun n δ Q => Ta n δ fun c n1 δ1 => dIte c (Tb n1 δ1 Q) (Q false n1 δ1)) := by
  obtain ⟨ta, pa, ea⟩ := ha
  obtain ⟨tb, pb, eb⟩ := hb
  refine ⟨_, fun c => pw_and (pa c) (pb c), fun Γ gx σ A H n δ Qd Q R hT k => ea Γ gx σ A H n δ _ _ R hT fun c A1 H1 n1 δ1 R1 m1 q1 => ?_⟩
  cases c with
  | true => exact (if_pos rfl).mpr (eb Γ gx σ A1 H1 n1 δ1 _ _ R1 (q1.1 rfl) fun c A2 H2 n2 δ2 R2 m2 q2 => k c A2 H2 n2 δ2 R2 (m1.trans m2) q2)
  | false => exact (if_neg Bool.false_ne_true).mpr (k false A1 H1 n1 δ1 R1 m1 (q1.2 rfl))
theorem dw_and1 {a : Expr} {pos : Pos} {Ta : TTd} (ha : DT X ac a Ta) : DW X ac (.BoolOp .And [a] pos) Ta := by
  obtain ⟨ta, pa, ea⟩ := ha
  exact ⟨_, fun c => pw_and1 (pa c), ea⟩
theorem dw_or {a b : Expr} {rest : List Expr} {pos : Pos} {Ta Tb : TTd} (ha : DT X ac a Ta) (hb : DW X ac (.BoolOp .Or (b :: rest) pos) Tb) : DW X ac (.BoolOp .Or (a :: b :: rest) pos) (fun n δ Q => Ta n δ fun c n1 δ1 => dIte c (Q true n1 δ1) (Tb n1 δ1 Q)) := by
  obtain ⟨ta, pa, ea⟩ := ha
  obtain ⟨tb, pb, eb⟩ := hb
  refine ⟨_, fun c => pw_or (pa c) (pb c), fun Γ gx σ A H n δ Qd Q R hT k => ea Γ gx σ A H n δ _ _ R hT fun c A1 H1 n1 δ1 R1 m1 q1 => ?_⟩
  cases c with
  | true => exact (if_pos rfl).mpr (k true A1 H1 n1 δ1 R1 m1 (q1.1 rfl))
  | false => exact (if_neg Bool.false_ne_true).mpr (eb Γ gx σ A1 H1 n1 δ1 _ _ R1 (q1.2 rfl) fun c A2 H2 n2 δ2 R2 m2 q2 => k c A2 H2 n2 δ2 R2 (m1.trans m2) q2)
theorem dw_or1 {a : Expr} {pos : Pos} {Ta : TTd} (ha : DT X ac a Ta) : DW X ac (.BoolOp .Or [a] pos) Ta := by
  obtain ⟨ta, pa, ea⟩ := ha
  exact ⟨_, fun c => pw_or1 (pa c), ea⟩
/-! the same as values: all but the last True or False -/
theorem de_and {a b : Expr} {rest : List Expr} {pos : Pos} {Ta : TRd} {Tb : TEd} (ha : DR X ac a Ta) (hb : DE X ac (.BoolOp .And (b :: rest) pos) Tb) : DE X ac (.BoolOp .And (a :: b :: rest) pos) (fun n δ Q => Ta n δ fun d n1 δ1 => ∃ c, d = .bl c ∧ dIte c (Tb n1 δ1 Q) (Q (.ro (.bl false)) n1 δ1)) := by
  obtain ⟨ta, pa, ea⟩ := ha
  obtain ⟨tb, pb, eb⟩ := hb
  refine ⟨_, fun c => pe_and (pa c) (pb c), fun Γ gx σ A H n δ Qd Q R hT k => ea Γ gx σ A H n δ _ _ R hT fun v d A1 H1 n1 δ1 R1 r1 m1 q1 => ?_⟩
  obtain ⟨c, rfl, q1⟩ := q1
  refine ⟨c, rep_bl r1, ?_⟩
  cases c with
  | true => exact (if_pos rfl).mpr (eb Γ gx σ A1 H1 n1 δ1 _ _ R1 (q1.1 rfl) fun v r A2 H2 n2 δ2 R2 r2 m2 q2 => k v r A2 H2 n2 δ2 R2 (RRel.hs r2 m1.was) (m1.trans m2) q2)
  | false => exact (if_neg Bool.false_ne_true).mpr (k _ (.ro (.bl false)) A1 H1 n1 δ1 R1 (.bl false) m1 (q1.2 rfl))
theorem de_or {a b : Expr} {rest : List Expr} {pos : Pos} {Ta : TRd} {Tb : TEd} (ha : DR X ac a Ta) (hb : DE X ac (.BoolOp .Or (b :: rest) pos) Tb) : DE X ac (.BoolOp .Or (a :: b :: rest) pos) (fun n δ Q => Ta n δ fun d n1 δ1 => ∃ c, d = .bl c ∧ dIte c (Q (.ro (.bl true)) n1 δ1) (Tb n1 δ1 Q)) := by
  obtain ⟨ta, pa, ea⟩ := ha
  obtain ⟨tb, pb, eb⟩ := hb
  refine ⟨_, fun c => pe_or (pa c) (pb c), fun Γ gx σ A H n δ Qd Q R hT k => ea Γ gx σ A H n δ _ _ R hT fun v d A1 H1 n1 δ1 R1 r1 m1 q1 => ?_⟩
  obtain ⟨c, rfl, q1⟩ := q1
  refine ⟨c, rep_bl r1, ?_⟩
  cases c with
  | true => exact (if_pos rfl).mpr (k _ (.ro (.bl true)) A1 H1 n1 δ1 R1 (.bl true) m1 (q1.1 rfl))
  | false => exact (if_neg Bool.false_ne_true).mpr (eb Γ gx σ A1 H1 n1 δ1 _ _ R1 (q1.2 rfl) fun v r A2 H2 n2 δ2 R2 r2 m2 q2 => k v r A2 H2 n2 δ2 R2 (RRel.hs r2 m1.was) (m1.trans m2) q2)
theorem de_one {op} {a : Expr} {pos : Pos} {T : TEd} (h : DE X ac a T) : DE X ac (.BoolOp op [a] pos) T := by
  obtain ⟨t, p, ev⟩ := h
  exact ⟨_, fun c => pe_one (p c), ev⟩
theorem dr_not {a : Expr} {pos : Pos} {T : TRd} (h : DR X ac a T) : DR X ac (.UnaryOp .Not a pos) (fun n δ Q => T n δ fun d n' δ' => ∃ b, d = .bl b ∧ Q (.bl (!b)) n' δ') := by
  obtain ⟨t, p, ev⟩ := h
  refine ⟨_, fun c => pe_not (p c), fun Γ gx σ A H n δ Qd Q R hT k => ev Γ gx σ A H n δ _ _ R hT fun v d A' H' n' δ' R' r m q => ?_⟩
  obtain ⟨b, rfl, q⟩ := q
  exact ⟨b, rep_bl r, k _ _ A' H' n' δ' R' (.bl _) m q⟩
theorem de_if {c a b : Expr} {pos : Pos} {Tc : TTd} {Ta Tb : TEd} (hc : DT X ac c Tc) (ha : DE X ac a Ta) (hb : DE X ac b Tb) : DE X ac (.IfExp c a b pos) (fun n δ Q => Tc n δ fun k n1 δ1 => dIte k (Ta n1 δ1 Q) (Tb n1 δ1 Q)) := by
  obtain ⟨tc, pc, ec⟩ := hc
  obtain ⟨ta, pa, ea⟩ := ha
  obtain ⟨tb, pb, eb⟩ := hb
  refine ⟨_, fun c => pe_ifExp (pc c) (pa c) (pb c), fun Γ gx σ A H n δ Qd Q R hT k => ec Γ gx σ A H n δ _ _ R hT fun c A1 H1 n1 δ1 R1 m1 q1 => ?_⟩
  cases c with
  | true => exact (if_pos rfl).mpr (ea Γ gx σ A1 H1 n1 δ1 _ _ R1 (q1.1 rfl) fun v r A2 H2 n2 δ2 R2 r2 m2 q2 => k v r A2 H2 n2 δ2 R2 (RRel.hs r2 m1.was) (m1.trans m2) q2)
  | false => exact (if_neg Bool.false_ne_true).mpr (eb Γ gx σ A1 H1 n1 δ1 _ _ R1 (q1.2 rfl) fun v r A2 H2 n2 δ2 R2 r2 m2 q2 => k v r A2 H2 n2 δ2 R2 (RRel.hs r2 m1.was) (m1.trans m2) q2)
/-! ### calls of built-ins -/
def DCall (r : List V → Hp → VK → Prop) (F : List Dt → (Sl → Prop) → Prop) : Prop := ∀ (A : Addr → Prop) (H : Hp) (vs : List V) (ds : List Dt) (Qd : Sl → Prop) (Q : VK), (∀ b, A b → H b ≠ none) → Reps A H vs ds → F ds Qd → Out A H Qd Q → r vs H Q
theorem ras_ro {p : Option Addr} {A : Addr → Prop} {H : Hp} : ∀ {ds : List Dt} {vs : List V}, Paired (RA p A H) vs (ds.map Sl.ro) → Reps A H vs ds
  | [], _, h => by cases h; exact .nil
  | d :: ds, _, h => by
    cases h with
    | cons h r =>
      cases h with
      | ro h => exact .cons h (ras_ro r)
theorem de_cb {r : List V → Hp → VK → Prop} {F : List Dt → (Sl → Prop) → Prop} {Ts : TAd} {es : List Expr} {e : Expr} (pe : ∀ c {t : TA}, PA (X c) es t → PE (X c) e (tCB r t)) (hr : DCall r F) (ha : DA X ac es Ts) :
    DE X ac e (fun n δ Q => Ts n δ fun rs n' δ' => ∃ ds, rs = ds.map Sl.ro ∧ F ds fun s => Q s n' δ') := by
  obtain ⟨ts, ps, evs⟩ := ha
  refine ⟨_, fun c => pe c (ps c), fun Γ gx σ A H n δ Qd Q R hT k => evs Γ gx σ A H n δ _ _ R hT fun vs rs A1 H1 n1 δ1 R1 r1 m1 q1 => ?_⟩
  obtain ⟨ds, rfl, q1⟩ := q1
  refine hr A1 H1 vs ds _ _ R1.dom (ras_ro r1) q1 fun u s A' H' g h1 h2 h3 h4 q => ?_
  exact k u s A' H' n1 δ1 (R1.grow g) (RRel.new R1 g m1.was h1 h2 h3 h4) (m1.trans (.grow g)) q
/-- .. of one argument, which may be a name's own; it gives no object -/
def DCallS (r : List V → Hp → VK → Prop) (F : Dt → (Dt → Prop) → Prop) : Prop := ∀ (A : Addr → Prop) (H : Hp) (v : V) (d : Dt) (Qd : Dt → Prop) (Q : VK), Bor A H v d → F d Qd → (∀ u x, Sc u x → Qd x → Q u H) → r [v] H Q
theorem dr_cb1 {r : List V → Hp → VK → Prop} {F : Dt → (Dt → Prop) → Prop} {Ta : TRd} {a e : Expr} (pe : ∀ c {t : TA}, PA (X c) [a] t → PE (X c) e (tCB r t)) (hr : DCallS r F) (ha : DB X ac a Ta) (hse : ∀ c, starEach [a] (X c).env = (false, eval a (X c).env) :: starEach [] (X c).env := by intro _; rfl) :
    DR X ac e (fun n δ Q => Ta n δ fun d n' δ' => F d fun x => Q x n' δ') := by
  obtain ⟨ta, pa, ea⟩ := ha
  refine ⟨_, fun c => pe c (pa_cons (pa c) pa_nil (hse c)), fun Γ gx σ A H n δ Qd Q R hT k => ea Γ gx σ A H n δ _ _ R hT fun v d A1 H1 n1 δ1 R1 r1 m1 q1 => ?_⟩
  exact hr A1 H1 v d _ _ r1 q1 fun u x sc q => k u x A1 H1 n1 δ1 R1 (sc A1 H1) m1 q
/-! ### displays -/
theorem de_lst {es : List Expr} {Ts : TAd} {pos : Pos} (ha : DA X ac es Ts) : DE X ac (.List es pos) (fun n δ Q => Ts n δ fun rs n' δ' => ∃ ds, rs = ds.map Sl.ro ∧ ds.length ≤ sizeLine ∧ Q (.own (.lst ds)) n' δ') := by
  obtain ⟨ts, ps, evs⟩ := ha
  refine ⟨_, fun c => pe_lst (ps c), fun Γ gx σ A H n δ Qd Q R hT k => evs Γ gx σ A H n δ _ _ R hT fun vs rs A1 H1 n1 δ1 R1 r1 m1 q1 => ?_⟩
  obtain ⟨ds, rfl, hl, q1⟩ := q1
  have r2 := ras_ro r1
  refine ⟨by rw [r2.len]; exact hl, fun p np => ?_⟩
  obtain ⟨g, nA, ho⟩ := new_own np R1.dom r2
  exact k (.ref p) (.own (.lst ds)) A1 _ n1 δ1 (R1.grow g) (RRel.new R1 g m1.was (fun d e => by cases e) (fun d e => by cases e; exact ⟨p, rfl, np, nA, ho⟩) (fun e => by cases e) (fun e => by cases e)) (m1.trans (.grow g)) q1
theorem dr_tup {es : List Expr} {Ts : TAd} {pos : Pos} {x1} (ha : DA X ac es Ts) : DR X ac (.Tuple es x1 pos) (fun n δ Q => Ts n δ fun rs n' δ' => ∃ ds, rs = ds.map Sl.ro ∧ ds.length ≤ sizeLine ∧ Q (.tup ds) n' δ') := by
  obtain ⟨ts, ps, evs⟩ := ha
  refine ⟨_, fun c => pe_tup (ps c), fun Γ gx σ A H n δ Qd Q R hT k => evs Γ gx σ A H n δ _ _ R hT fun vs rs A1 H1 n1 δ1 R1 r1 m1 q1 => ?_⟩
  obtain ⟨ds, rfl, hl, q1⟩ := q1
  have r2 := ras_ro r1
  refine ⟨by rw [r2.len]; exact hl, fun p np => ?_⟩
  obtain ⟨g, rp⟩ := new_tup np R1.dom r2
  exact k (.ref p) (.tup ds) _ _ n1 δ1 (R1.grow g) rp (m1.trans (.grow g)) q1
theorem de_dic {pos : Pos} : DE X ac (.Dict [] [] pos) (fun n δ Q => Q (.own (.dic [])) n δ) := by
  refine ⟨_, fun _ => pe_dnewK, fun Γ gx σ A H n δ Qd Q R hT k => fun p np => ?_⟩
  have g : Grow A H A (upd H p (.dK [])) := .new np R.dom
  exact k (.ref p) (.own (.dic [])) A _ n δ (R.grow g) (RRel.new R g (fun _ h => h) (fun d e => by cases e) (fun d e => by cases e; exact ⟨p, rfl, np, fun z => R.dom p z np, [], upd_same, .nil⟩) (fun e => by cases e) (fun e => by cases e)) (.grow g) hT
end
end DL
/-! ## DL4 -/
set_option Elab.async false
set_option linter.all false
set_option maxRecDepth 100000
set_option maxHeartbeats 4000000
/-! Statements, by trees. -/
namespace DL
open PySem PySem.Spec PyProof.Rows L2
variable [Wd]
/-- what is wanted behind a statement -/
structure ED where
  nx : Nat → List Sl → Prop
  rt : Sl → Nat → Prop
  bk : Nat → List Sl → Prop := fun _ _ => False
  ct : Nat → List Sl → Prop := fun _ _ => False
/-- .. from a state on, of which all that is read stays -/
structure Sat (Γ : Gm) (A : Addr → Prop) (H : Hp) (D : Ends) (E : ED) : Prop where
  nx : ∀ σ δ A' H' n, Rel Γ σ δ A' H' n → Kp A H A' H' → E.nx n δ → D.nx σ H'
  bk : ∀ σ δ A' H' n, Rel Γ σ δ A' H' n → Kp A H A' H' → E.bk n δ → D.bk σ H'
  ct : ∀ σ δ A' H' n, Rel Γ σ δ A' H' n → Kp A H A' H' → E.ct n δ → D.ct σ H'
  rt : ∀ σ δ A' H' n v r, Rel Γ σ δ A' H' n → Kp A H A' H' → RRel Γ Γ.H0 A' H' σ δ v r → E.rt r n → D.rt v H'
theorem Sat.on {Γ : Gm} {A A1 : Addr → Prop} {H H1 : Hp} {D : Ends} {E : ED} (s : Sat Γ A H D E) (k : Kp A H A1 H1) : Sat Γ A1 H1 D E :=
  ⟨fun σ δ A' H' n R q e => s.nx σ δ A' H' n R (k.trans q) e, fun σ δ A' H' n R q e => s.bk σ δ A' H' n R (k.trans q) e, fun σ δ A' H' n R q e => s.ct σ δ A' H' n R (k.trans q) e, fun σ δ A' H' n v r R q rr e => s.rt σ δ A' H' n v r R (k.trans q) rr e⟩
abbrev TSd := Nat → List Sl → ED → Prop
def EvS (a : Act) (t : TS) (T : TSd) : Prop := ∀ (Γ : Gm), ExSat Γ a → ∀ (σ : L2.St) (A : Addr → Prop) (H : Hp) (n : Nat) (δ : List Sl) (D : Ends) (E : ED), Rel Γ σ δ A H n → Sat Γ A H D E → T n δ E → t D σ H
def DS {ι : Type} (X : ι → Cx) (a : Act) (st : Stmt) (T : TSd) : Prop := ∃ t, (∀ c, PS (X c) st t) ∧ EvS a t T
def DSs {ι : Type} (X : ι → Cx) (a : Act) (ss : List Stmt) (T : TSd) : Prop := ∃ t, (∀ c, PSs (X c) ss t) ∧ EvS a t T
section
variable {Γ : Gm} {p : Option Addr} {A : Addr → Prop} {H : Hp} {σ : L2.St} {δ : List Sl} {n : Nat}
theorem neA {P : Addr → Prop} {a b : Addr} (hb : P b) (na : ¬ P a) : b ≠ a := fun z => na (by rw [← z]; exact hb)
theorem owns_nil {δ : List Sl} : owns [] δ = [] := by cases δ <;> rfl
theorem owns_nil2 {σ : L2.St} : owns σ [] = [] := by
  cases σ with
  | nil => rfl
  | cons x σ =>
    cases x with
    | none => rfl
    | some v => cases v <;> rfl
theorem owns_cons {x : Option V} {s : Sl} {σ : L2.St} {δ : List Sl} : owns (x :: σ) (s :: δ) = owns σ δ ∨ ∃ a d, x = some (.ref a) ∧ s = .own d ∧ owns (x :: σ) (s :: δ) = a :: owns σ δ := by
  cases s with
  | own d =>
    cases x with
    | none => exact .inl rfl
    | some v =>
      cases v with
      | ref a => exact .inr ⟨a, d, rfl, rfl, rfl⟩
      | _ => exact .inl rfl
  | _ =>
    cases x with
    | none => exact .inl rfl
    | some v => cases v <;> exact .inl rfl
theorem owns_set : ∀ {σ : L2.St} {δ : List Sl} {i : Nat} {v : V} {s : Sl}, (∀ a d, v = .ref a → s = .own d → a ∉ owns σ δ) → (owns σ δ).Nodup →
    (owns (σ.set i (some v)) (δ.set i s)).Nodup ∧ ∀ a ∈ owns (σ.set i (some v)) (δ.set i s), a ∈ owns σ δ ∨ ∃ d, v = .ref a ∧ s = .own d
  | [], δ, i, v, s, _, _ => by
    rw [List.set_nil]
    rw [owns_nil]
    exact ⟨List.nodup_nil, fun a h => by cases h⟩
  | x :: σ, [], i, v, s, _, _ => by
    rw [List.set_nil]
    rw [owns_nil2]
    exact ⟨List.nodup_nil, fun a h => by cases h⟩
  | x :: σ, s0 :: δ, 0, v, s, hn, nd => by
    show (owns (some v :: σ) (s :: δ)).Nodup ∧ ∀ a ∈ owns (some v :: σ) (s :: δ), _
    have sub : ∀ a ∈ owns σ δ, a ∈ owns (x :: σ) (s0 :: δ) := fun a h => by
      rcases owns_cons (x := x) (s := s0) (σ := σ) (δ := δ) with e | ⟨b, d, _, _, e⟩
      · rw [e]; exact h
      · rw [e]; exact List.mem_cons_of_mem _ h
    have nd2 : (owns σ δ).Nodup := by
      rcases owns_cons (x := x) (s := s0) (σ := σ) (δ := δ) with e | ⟨b, d, _, _, e⟩
      · rw [e] at nd; exact nd
      · rw [e] at nd; exact (List.nodup_cons.mp nd).2
    rcases owns_cons (x := some v) (s := s) (σ := σ) (δ := δ) with e | ⟨b, d, ev, es, e⟩
    · rw [e]
      exact ⟨nd2, fun a h => .inl (sub a h)⟩
    · rw [e]
      have ev : v = .ref b := Option.some.inj ev
      refine ⟨List.nodup_cons.mpr ⟨fun z => hn b d ev es (sub b z), nd2⟩, fun a h => ?_⟩
      rcases List.mem_cons.mp h with rfl | h
      · exact .inr ⟨d, ev, es⟩
      · exact .inl (sub a h)
  | x :: σ, s0 :: δ, i + 1, v, s, hn, nd => by
    show (owns (x :: σ.set i (some v)) (s0 :: δ.set i s)).Nodup ∧ ∀ a ∈ owns (x :: σ.set i (some v)) (s0 :: δ.set i s), _
    have sub : ∀ a ∈ owns σ δ, a ∈ owns (x :: σ) (s0 :: δ) := fun a h => by
      rcases owns_cons (x := x) (s := s0) (σ := σ) (δ := δ) with e | ⟨b, d, _, _, e⟩
      · rw [e]; exact h
      · rw [e]; exact List.mem_cons_of_mem _ h
    have nd2 : (owns σ δ).Nodup := by
      rcases owns_cons (x := x) (s := s0) (σ := σ) (δ := δ) with e | ⟨b, d, _, _, e⟩
      · rw [e] at nd; exact nd
      · rw [e] at nd; exact (List.nodup_cons.mp nd).2
    obtain ⟨ih1, ih2⟩ := owns_set (σ := σ) (δ := δ) (i := i) (v := v) (s := s) (fun a d e1 e2 z => hn a d e1 e2 (sub a z)) nd2
    rcases owns_cons (x := x) (s := s0) (σ := σ.set i (some v)) (δ := δ.set i s) with e | ⟨b, d, ev, es, e⟩
    · rw [e]
      exact ⟨ih1, fun a h => (ih2 a h).imp_left (sub a)⟩
    · rw [e]
      subst ev es
      have e0 : owns (some (V.ref b) :: σ) (Sl.own d :: δ) = b :: owns σ δ := by rw [owns]
      refine ⟨List.nodup_cons.mpr ⟨fun z => ?_, ih1⟩, fun a h => ?_⟩
      · rcases ih2 b z with z | ⟨d', e1, e2⟩
        · rw [e0] at nd
          exact (List.nodup_cons.mp nd).1 z
        · exact hn b d' e1 e2 (by rw [e0]; exact List.mem_cons_self)
      · rcases List.mem_cons.mp h with rfl | h
        · exact .inl (by rw [e0]; exact List.mem_cons_self)
        · exact (ih2 a h).imp_left (sub a)
theorem slR_set : ∀ {σ : L2.St} {δ : List Sl} {i : Nat} {v : V} {s : Sl}, SlR p A H (some v) s → Paired (SlR p A H) σ δ → Paired (SlR p A H) (σ.set i (some v)) (δ.set i s)
  | _, _, _, _, _, _, .nil => .nil
  | _, _, 0, _, _, h, .cons _ t => .cons h t
  | _, _, i + 1, _, _, h, .cons q t => .cons q (slR_set h t)
/-- a name is given what an expression gave -/
theorem Rel.set {Hs : Hp} {v : V} {r : Sl} {i : Nat} (R : Rel Γ σ δ A H n) (h : RRel Γ Hs A H σ δ v r) : Rel Γ (σ.set i (some v)) (δ.set i r) A H n := by
  have hs : SlR Γ.p A H (some v) r := by
    cases r with
    | no => exact h.elim
    | ro d => exact h
    | pool => exact h
    | own d =>
      obtain ⟨a, rfl, ho, _⟩ := h
      exact ho
  have no : ∀ a d, v = .ref a → r = .own d → a ∉ owns σ δ ∧ Free Γ A a := fun a d e1 e2 => by
    subst e2
    obtain ⟨b, e3, _, h3, h4, _⟩ := h
    rw [e1] at e3
    cases e3
    exact ⟨h3, h4⟩
  obtain ⟨o1, o2⟩ := owns_set (i := i) (fun a d e1 e2 => (no a d e1 e2).1) R.nd
  refine ⟨slR_set hs R.sl, o1, fun a ha => ?_, R.fr, R.a0, R.ad, R.nw, R.inv⟩
  rcases o2 a ha with z | ⟨d, e1, e2⟩
  · exact R.fo a z
  · exact (no a d e1 e2).2
theorem owns_own : ∀ {σ : L2.St} {δ : List Sl} {i : Nat} {d d' : Dt}, δ[i]? = some (.own d) → owns σ (δ.set i (.own d')) = owns σ δ
  | [], _, _, _, _, _ => by rw [owns_nil, owns_nil]
  | x :: σ, [], _, _, _, e => by simp at e
  | x :: σ, s :: δ, 0, d, d', e => by
    simp at e
    subst e
    show owns (x :: σ) (.own d' :: δ) = owns (x :: σ) (.own d :: δ)
    rcases owns_cons (x := x) (s := .own d') (σ := σ) (δ := δ) with e1 | ⟨b, c, ev, es, e1⟩ <;> rcases owns_cons (x := x) (s := .own d) (σ := σ) (δ := δ) with e2 | ⟨b', c', ev', es', e2⟩
    · rw [e1, e2]
    · subst ev'
      rw [owns, owns]
    · subst ev
      rw [owns, owns]
    · subst ev
      cases ev'
      rw [e1, e2]
  | x :: σ, s :: δ, i + 1, d, d', e => by
    have ih := owns_own (σ := σ) (δ := δ) (i := i) (d := d) (d' := d') (by simpa using e)
    show owns (x :: σ) (s :: δ.set i (.own d')) = owns (x :: σ) (s :: δ)
    cases s with
    | own c =>
      cases x with
      | none =>
        rcases owns_cons (x := none) (s := .own c) (σ := σ) (δ := δ.set i (.own d')) with e1 | ⟨b, c, ev, es, e1⟩
        · rcases owns_cons (x := none) (s := .own c) (σ := σ) (δ := δ) with e2 | ⟨b, c, ev, es, e2⟩
          · rw [e1, e2, ih]
          · cases ev
        · cases ev
      | some v =>
        cases v with
        | ref a => rw [owns, owns, ih]
        | _ =>
          rcases owns_cons (x := some _) (s := .own c) (σ := σ) (δ := δ.set i (.own d')) with e1 | ⟨b, c, ev, es, e1⟩
          · rcases owns_cons (x := some _) (s := .own c) (σ := σ) (δ := δ) with e2 | ⟨b, c, ev, es, e2⟩
            · rw [e1, e2, ih]
            · cases ev
          · cases ev
    | _ =>
      rcases owns_cons (x := x) (s := _) (σ := σ) (δ := δ.set i (.own d')) with e1 | ⟨b, c, ev, es, e1⟩
      · rcases owns_cons (x := x) (s := _) (σ := σ) (δ := δ) with e2 | ⟨b, c, ev, es, e2⟩
        · rw [e1, e2, ih]
        · cases es
      · cases es
theorem slR_up {a : Addr} {o : HO} (nA : ¬ A a) : ∀ {σ : L2.St} {δ : List Sl} {i : Nat} {d' : Dt}, Paired (SlR p A H) σ δ → σ[i]? = some (some (.ref a)) → (∃ d, δ[i]? = some (.own d)) → (owns σ δ).Nodup → Own A (upd H a o) a d' → Paired (SlR p A (upd H a o)) σ (δ.set i (.own d'))
  | [], _, _, _, _, e, _, _, _ => by simp at e
  | x :: σ, s :: δ, i, d', .cons h t, e, ed, nd, ho => by
    have k : Kp A H A (upd H a o) := .of (fun _ h => h) fun b u hb q => by
      rw [upd_ne (neA hb nA)]
      exact q
    cases i with
    | zero =>
      simp at e
      subst e
      obtain ⟨d, ed⟩ := ed
      simp at ed
      subst ed
      have e0 : owns (some (V.ref a) :: σ) (Sl.own d :: δ) = a :: owns σ δ := by rw [owns]
      rw [e0] at nd
      have na := (List.nodup_cons.mp nd).1
      exact .cons ho (slR_kp k (fun b hb => upd_ne (neA (P := (· ∈ owns σ δ)) hb na)) t)
    | succ i =>
      have e' : σ[i]? = some (some (.ref a)) := by simpa using e
      obtain ⟨d, ed⟩ := ed
      have ed' : δ[i]? = some (.own d) := by simpa using ed
      have ha := owns_at e' ed'
      have nd2 : (owns σ δ).Nodup := by
        rcases owns_cons (x := x) (s := s) (σ := σ) (δ := δ) with q | ⟨b, c, _, _, q⟩
        · rw [q] at nd; exact nd
        · rw [q] at nd; exact (List.nodup_cons.mp nd).2
      refine .cons ?_ (slR_up nA t e' ⟨d, ed'⟩ nd2 ho)
      cases s with
      | no => cases x <;> trivial
      | ro c =>
        cases x with
        | none => exact h
        | some v => exact Rep.kp k h
      | pool =>
        cases x with
        | none => exact h
        | some v => exact h
      | own c =>
        obtain ⟨b, rfl, hb⟩ := slR_own h
        have e0 : owns (some (V.ref b) :: σ) (Sl.own c :: δ) = b :: owns σ δ := by rw [owns]
        rw [e0] at nd
        exact Own.kp k (upd_ne (Ne.symm (neA (P := (· ∈ owns σ δ)) ha (List.nodup_cons.mp nd).1))) hb
/-- a name's own tree is changed -/
theorem Rel.up {a : Addr} {o : HO} {i : Nat} {d d' : Dt} (R : Rel Γ σ δ A H n) (e : σ[i]? = some (some (.ref a))) (ed : δ[i]? = some (.own d)) (ho : Own A (upd H a o) a d') : Rel Γ σ (δ.set i (.own d')) A (upd H a o) n := by
  have ha := owns_at e ed
  obtain ⟨h0, na, nm⟩ := R.fo a ha
  have other : ∀ b u, b ≠ a → H b = some u → upd H a o b = some u := fun b u hb q => by
    rw [upd_ne hb]
    exact q
  refine ⟨slR_up na R.sl e ⟨d, ed⟩ R.nd ho, by rw [owns_own ed]; exact R.nd, fun b hb => R.fo b (by rw [owns_own ed] at hb; exact hb), fun b u m q => other b u (fun z => by rw [z, h0] at q; cases q) (R.fr b u m q),
    R.a0, fun b hb => ⟨fun z => ?_, (R.ad b hb).2⟩, R.nw, Γ.ist H _ n (fun b m => upd_ne (neA m nm)) (.of (fun _ h => h) fun b u hb q => other b u (neA hb na) q) R.inv⟩
  rw [upd_ne (neA hb na)] at z
  exact (R.ad b hb).1 z
end
section
variable {ι : Type} {X : ι → Cx} {ac : Act}
theorem dss_nil : DSs X ac [] (fun n δ E => E.nx n δ) := ⟨_, fun _ => pss_nil, fun Γ gx σ A H n δ D E R s h => s.nx σ δ A H n R .refl h⟩
theorem dss_cons {st : Stmt} {ss : List Stmt} {T Ts : TSd} (h : DS X ac st T) (hs : DSs X ac ss Ts) : DSs X ac (st :: ss) (fun n δ E => T n δ { E with nx := fun n' δ' => Ts n' δ' E }) := by
  obtain ⟨t, p, ev⟩ := h
  obtain ⟨ts, ps, evs⟩ := hs
  exact ⟨_, fun c => pss_cons (p c) (ps c), fun Γ gx σ A H n δ D E R s h => ev Γ gx σ A H n δ _ { E with nx := fun n' δ' => Ts n' δ' E } R ⟨fun σ' δ' A' H' n' R' kp q => evs Γ gx σ' A' H' n' δ' D E R' (s.on kp) q, s.bk, s.ct, s.rt⟩ h⟩
theorem dss_one {st : Stmt} {T : TSd} (h : DS X ac st T) : DSs X ac [st] T := by
  obtain ⟨t, p, ev⟩ := h
  exact ⟨_, fun c => pss_one (p c), ev⟩
theorem ds_if {c : Expr} {a b : List Stmt} {pos : Pos} {Tc : TTd} {Ta Tb : TSd} (hc : DT X ac c Tc) (ha : DSs X ac a Ta) (hb : DSs X ac b Tb) : DS X ac (.If c a b pos) (fun n δ E => Tc n δ fun k n1 δ1 => dIte k (Ta n1 δ1 E) (Tb n1 δ1 E)) := by
  obtain ⟨tc, pc, ec⟩ := hc
  obtain ⟨ta, pa, ea⟩ := ha
  obtain ⟨tb, pb, eb⟩ := hb
  refine ⟨_, fun c => ps_if (pc c) (pa c) (pb c), fun Γ gx σ A H n δ D E R s h => ec Γ gx σ A H n δ _ _ R h fun c A1 H1 n1 δ1 R1 m1 q1 => ?_⟩
  cases c with
  | true => exact (if_pos rfl).mpr (ea Γ gx σ A1 H1 n1 δ1 D E R1 (s.on (m1.kp R)) (q1.1 rfl))
  | false => exact (if_neg Bool.false_ne_true).mpr (eb Γ gx σ A1 H1 n1 δ1 D E R1 (s.on (m1.kp R)) (q1.2 rfl))
theorem ds_ret {e : Expr} {T : TEd} {pos : Pos} (h : DE X ac e T) : DS X ac (.Return (some e) pos) (fun n δ E => T n δ fun r n' _ => E.rt r n') := by
  obtain ⟨t, p, ev⟩ := h
  exact ⟨_, fun c => ps_ret (p c), fun Γ gx σ A H n δ D E R s h => ev Γ gx σ A H n δ _ _ R h fun v r A' H' n' δ' R' rr m q => s.rt σ δ' A' H' n' v r R' (m.kp R) (rr.hs (R.h0)) q⟩
theorem ds_retN {pos : Pos} : DS X ac (.Return none pos) (fun n δ E => E.rt (.ro .non) n) :=
  ⟨_, fun _ => ps_retN, fun Γ gx σ A H n δ D E R s h => s.rt σ δ A H n .non (.ro .non) R .refl .non h⟩
theorem owns_no : ∀ {σ : L2.St} {δ : List Sl} {i : Nat}, (owns σ δ).Nodup → (owns σ (δ.set i .no)).Nodup ∧ (∀ a ∈ owns σ (δ.set i .no), a ∈ owns σ δ) ∧ ∀ a d, σ[i]? = some (some (.ref a)) → δ[i]? = some (.own d) → a ∉ owns σ (δ.set i .no)
  | [], δ, i, _ => by
    rw [owns_nil]
    exact ⟨List.nodup_nil, (fun a h => by cases h), fun a d h => by simp at h⟩
  | x :: σ, [], i, _ => by
    rw [List.set_nil, owns_nil2]
    exact ⟨List.nodup_nil, (fun a h => by cases h), fun a d _ h => by simp at h⟩
  | x :: σ, s :: δ, 0, nd => by
    show (owns (x :: σ) (.no :: δ)).Nodup ∧ (∀ a ∈ owns (x :: σ) (.no :: δ), _) ∧ ∀ a d, _ → _ → a ∉ owns (x :: σ) (.no :: δ)
    have e1 : owns (x :: σ) (.no :: δ) = owns σ δ := by
      rcases owns_cons (x := x) (s := .no) (σ := σ) (δ := δ) with e | ⟨b, d, _, es, _⟩
      · exact e
      · cases es
    rw [e1]
    rcases owns_cons (x := x) (s := s) (σ := σ) (δ := δ) with e | ⟨b, d, ev, es, e⟩
    · rw [e] at nd ⊢
      refine ⟨nd, fun a h => h, fun a d h1 h2 => ?_⟩
      simp at h1 h2
      subst h1 h2
      rw [owns] at e
      exact absurd e (by simp)
    · rw [e] at nd ⊢
      refine ⟨(List.nodup_cons.mp nd).2, fun a h => List.mem_cons_of_mem _ h, fun a d h1 h2 => ?_⟩
      simp at h1
      rw [h1] at ev
      cases ev
      exact (List.nodup_cons.mp nd).1
  | x :: σ, s :: δ, i + 1, nd => by
    show (owns (x :: σ) (s :: δ.set i .no)).Nodup ∧ (∀ a ∈ owns (x :: σ) (s :: δ.set i .no), _) ∧ ∀ a d, _ → _ → a ∉ owns (x :: σ) (s :: δ.set i .no)
    have nd2 : (owns σ δ).Nodup := by
      rcases owns_cons (x := x) (s := s) (σ := σ) (δ := δ) with q | ⟨b, c, _, _, q⟩
      · rw [q] at nd; exact nd
      · rw [q] at nd; exact (List.nodup_cons.mp nd).2
    obtain ⟨i1, i2, i3⟩ := owns_no (σ := σ) (δ := δ) (i := i) nd2
    rcases owns_cons (x := x) (s := s) (σ := σ) (δ := δ) with e | ⟨b, d, ev, es, e⟩
    · have e2 : owns (x :: σ) (s :: δ.set i .no) = owns σ (δ.set i .no) := by
        rcases owns_cons (x := x) (s := s) (σ := σ) (δ := δ.set i .no) with e2 | ⟨b, d, ev, es, e2⟩
        · exact e2
        · subst ev es
          rw [owns] at e
          exact absurd e (by simp)
      rw [e2, e]
      exact ⟨i1, i2, fun a d h1 h2 => i3 a d (by simpa using h1) (by simpa using h2)⟩
    · subst ev es
      rw [owns, owns]
      rw [owns] at nd
      refine ⟨List.nodup_cons.mpr ⟨fun z => (List.nodup_cons.mp nd).1 (i2 b z), i1⟩, fun a h => ?_, fun a d h1 h2 z => ?_⟩
      · rcases List.mem_cons.mp h with rfl | h
        · exact List.mem_cons_self
        · exact List.mem_cons_of_mem _ (i2 a h)
      · have h1' : σ[i]? = some (some (.ref a)) := by simpa using h1
        have h2' : δ[i]? = some (.own d) := by simpa using h2
        rcases List.mem_cons.mp z with rfl | z
        · exact (List.nodup_cons.mp nd).1 (owns_at h1' h2')
        · exact i3 a d h1' h2' z
theorem slR_no {p : Option Addr} {A : Addr → Prop} {H : Hp} : ∀ {σ : L2.St} {δ : List Sl} {i : Nat}, Paired (SlR p A H) σ δ → Paired (SlR p A H) σ (δ.set i .no)
  | _, _, _, .nil => .nil
  | x :: _, _, 0, .cons _ t => .cons (by cases x <;> trivial) t
  | _, _, i + 1, .cons q t => .cons q (slR_no t)
/-- a name's tree is forgotten -/
theorem Rel.no {A : Addr → Prop} {H : Hp} {σ : L2.St} {δ : List Sl} {n i : Nat} (R : Rel Γ σ δ A H n) : Rel Γ σ (δ.set i .no) A H n := by
  obtain ⟨o1, o2, _⟩ := owns_no (σ := σ) (δ := δ) (i := i) R.nd
  exact ⟨slR_no R.sl, o1, fun a ha => R.fo a (o2 a ha), R.fr, R.a0, R.ad, R.nw, R.inv⟩
/-- return x, x a name's own -/
theorem ds_retOwn {i : Nat} {x : Str} {pos pos' : Pos} (h : ∀ c, PE (X c) (.Name x pos) (tVar i)) : DS X ac (.Return (some (.Name x pos)) pos') (fun n δ E => ∃ d, δ[i]? = some (.own d) ∧ E.rt (.own d) n) := by
  refine ⟨_, fun c => ps_ret (h c), fun Γ gx σ A H n δ D E R s hT => ?_⟩
  obtain ⟨d, e, q⟩ := hT
  obtain ⟨y, h1, h2⟩ := slR_get R.sl e
  obtain ⟨a, rfl, ho⟩ := slR_own h2
  have ha := owns_at h1 e
  obtain ⟨_, _, o3⟩ := owns_no (σ := σ) (δ := δ) (i := i) R.nd
  exact ⟨_, h1, s.rt σ (δ.set i .no) A H n _ (.own d) R.no .refl ⟨a, rfl, ho, o3 a d h1 e, R.fo a ha, (R.fo a ha).h0⟩ q⟩
theorem ds_expr {e : Expr} {T : TEd} {pos : Pos} (h : DE X ac e T) (hs : ∀ c, swapsWith e none pos.line (X c).env = pure false := by intro _; rfl) : DS X ac (.Expr e pos) (fun n δ E => T n δ fun _ n' δ' => E.nx n' δ') := by
  obtain ⟨t, p, ev⟩ := h
  exact ⟨_, fun c => ps_expr (p c) (hs c), fun Γ gx σ A H n δ D E R s h => ev Γ gx σ A H n δ _ _ R h fun v r A' H' n' δ' R' rr m q => s.nx σ δ' A' H' n' R' (m.kp R) q⟩
/-- x = e -/
theorem ds_set {i : Nat} {e : Expr} {T : TEd} {st : Stmt} (ps : ∀ c {t : TE}, PE (X c) e t → PS (X c) st (tAsg t (gName i))) (h : DE X ac e T) : DS X ac st (fun n δ E => T n δ fun r n' δ' => E.nx n' (δ'.set i r)) := by
  obtain ⟨t, p, ev⟩ := h
  exact ⟨_, fun c => ps c (p c), fun Γ gx σ A H n δ D E R s h => ev Γ gx σ A H n δ _ _ R h fun v r A' H' n' δ' R' rr m q => s.nx _ _ A' H' n' (R'.set rr) (m.kp R) q⟩
theorem ds_pass {pos : Pos} : DS X ac (.Pass pos) (fun n δ E => E.nx n δ) := ⟨_, fun _ => ps_pass, fun Γ gx σ A H n δ D E R s h => s.nx σ δ A H n R .refl h⟩
/-! ### what a name's own list, dict is told -/
theorem ds_append {K : PySem.W.Frag} {i : Nat} {e : Expr} {T : TRd} {st : Stmt} (ps : ∀ c {t : TE}, PE (X c) e t → PS (X c) st (tDrop (tBM K "list" rAppend (tVar i) (tCons t tNil)))) (h : DR X ac e T) :
    DS X ac st (fun n δ E => (∃ ds, δ[i]? = some (.own (.lst ds))) ∧ T n δ fun d n' δ' => ∃ ds, δ'[i]? = some (.own (.lst ds)) ∧ ds.length < sizeLine ∧ E.nx n' (δ'.set i (.own (.lst (ds ++ [d]))))) := by
  obtain ⟨t, p, ev⟩ := h
  refine ⟨_, fun c => ps c (p c), fun Γ gx σ A H n δ D E R s h => ?_⟩
  obtain ⟨⟨ds0, e0⟩, h⟩ := h
  obtain ⟨y, h1, h2⟩ := slR_get R.sl e0
  obtain ⟨a, rfl, xs0, hx0, _⟩ := slR_own h2
  refine ⟨_, h1, .inl ⟨rfl, _, SqL.of hx0⟩, ev Γ gx σ A H n δ _ _ R h fun v d A1 H1 n1 δ1 R1 r1 m1 q1 => ?_⟩
  obtain ⟨ds, e1, hl, q1⟩ := q1
  obtain ⟨y1, h3, h4⟩ := slR_get R1.sl e1
  obtain ⟨a', e2, xs, hx, hr⟩ := slR_own h4
  rw [h1] at h3
  have e3 : some (V.ref a) = some (V.ref a') := (Option.some.inj h3).trans e2
  cases e3
  obtain ⟨_, na, _⟩ := R1.fo a (owns_at h1 e1)
  have k : Kp A1 H1 A1 (upd H1 a (.lst (xs ++ [v]))) := .of (fun _ h => h) fun b u hb q => by
    rw [upd_ne (neA hb na)]
    exact q
  exact ⟨a, xs, v, rfl, rfl, hx, by rw [hr.len]; exact hl, s.nx _ _ A1 _ n1 (R1.up (d' := .lst (ds ++ [d])) h1 e1 ⟨_, upd_same, (hr.kp k).snoc (r1.kp k)⟩) ((m1.kp R).trans k) q1⟩
end
end DL
/-! ## DL5 -/
set_option Elab.async false
set_option linter.all false
set_option maxRecDepth 100000
set_option maxHeartbeats 4000000
/-! Walks, loops, comprehensions, by trees. -/
namespace DL
open PySem PySem.Spec PyProof.Rows L2
variable [Wd]
/-! ### names whose tree is not known -/
def dwipe (δ : List Sl) : List Nat → List Sl
  | [] => δ
  | v :: vs => (dwipe δ vs).set v .no
theorem wipe_get {σ : L2.St} {j : Nat} : ∀ {vs : List Nat}, j ∉ vs → (wipe σ vs)[j]? = σ[j]?
  | [], _ => rfl
  | v :: vs, h => by
    show ((wipe σ vs).set v none)[j]? = _
    rw [List.getElem?_set_ne (fun z => h (by rw [z]; exact List.mem_cons_self)), wipe_get fun z => h (List.mem_cons_of_mem _ z)]
theorem dwipe_in {δ : List Sl} {j : Nat} {s : Sl} : ∀ {vs : List Nat}, j ∈ vs → (dwipe δ vs)[j]? = some s → s = .no
  | v :: vs, h, e => by
    have e : ((dwipe δ vs).set v .no)[j]? = some s := e
    by_cases q : v = j
    · subst q
      by_cases hl : v < (dwipe δ vs).length
      · rw [List.getElem?_set_self hl] at e
        exact (Option.some.inj e).symm
      · rw [List.getElem?_eq_none (by simpa using hl)] at e
        cases e
    · rw [List.getElem?_set_ne q] at e
      rcases List.mem_cons.mp h with z | z
      · exact absurd z.symm q
      · exact dwipe_in z e
theorem dwipe_len {δ : List Sl} : ∀ {vs : List Nat}, (dwipe δ vs).length = δ.length
  | [] => rfl
  | v :: vs => by
    show ((dwipe δ vs).set v .no).length = _
    rw [List.length_set, dwipe_len]
/-- two rows of slots that are alike where something is known -/
def Agree : L2.St → L2.St → List Sl → Prop
  | [], [], [] => True
  | x :: σ, y :: σ', s :: δ => (s = .no ∨ x = y) ∧ Agree σ σ' δ
  | _, _, _ => False
theorem agree_of : ∀ {σ σ' : L2.St} {δ : List Sl}, σ.length = δ.length → σ'.length = δ.length → (∀ (j : Nat) (s : Sl), δ[j]? = some s → s ≠ Sl.no → σ'[j]? = σ[j]?) → Agree σ σ' δ
  | [], [], [], _, _, _ => trivial
  | x :: σ, y :: σ', s :: δ, h1, h2, h => by
    refine ⟨?_, agree_of (by simpa using h1) (by simpa using h2) fun j s' e n => by simpa using h (j + 1) s' (by simpa using e) n⟩
    cases s with
    | no => exact .inl rfl
    | _ =>
      refine .inr ?_
      have := h 0 _ rfl (by intro z; cases z)
      simpa using this.symm
  | [], _ :: _, [], _, h, _ => by simp at h
  | _ :: _, _, [], h, _, _ => by simp at h
  | [], _, _ :: _, h, _, _ => by simp at h
  | _ :: _, [], _ :: _, _, h, _ => by simp at h
theorem agree_slR {p : Option Addr} {A : Addr → Prop} {H : Hp} : ∀ {σ σ' : L2.St} {δ : List Sl}, Agree σ σ' δ → Paired (SlR p A H) σ δ → Paired (SlR p A H) σ' δ
  | [], [], [], _, _ => .nil
  | x :: σ, y :: σ', s :: δ, h, .cons p t => by
    obtain ⟨h1, h2⟩ := h
    refine .cons ?_ (agree_slR h2 t)
    rcases h1 with rfl | rfl
    · cases y <;> trivial
    · exact p
  | [], _ :: _, _, h, _ => by cases h
  | _ :: _, [], _, h, _ => by cases h
theorem agree_owns : ∀ {σ σ' : L2.St} {δ : List Sl}, Agree σ σ' δ → owns σ' δ = owns σ δ
  | [], [], [], _ => rfl
  | x :: σ, y :: σ', s :: δ, h => by
    obtain ⟨h1, h2⟩ := h
    have ih := agree_owns h2
    rcases h1 with rfl | rfl
    · rcases owns_cons (x := x) (s := .no) (σ := σ) (δ := δ) with e1 | ⟨b, d, _, es, _⟩
      · rcases owns_cons (x := y) (s := .no) (σ := σ') (δ := δ) with e2 | ⟨b, d, _, es, _⟩
        · rw [e1, e2, ih]
        · cases es
      · cases es
    · rcases owns_cons (x := x) (s := s) (σ := σ) (δ := δ) with e1 | ⟨b, d, ev, es, e1⟩
      · rcases owns_cons (x := x) (s := s) (σ := σ') (δ := δ) with e2 | ⟨b, d, ev, es, e2⟩
        · rw [e1, e2, ih]
        · subst ev es
          rw [owns, owns, ih]
      · subst ev es
        rw [owns, owns, ih]
  | [], [], _ :: _, h => by cases h
  | [], _ :: _, _, h => by cases h
  | _ :: _, [], _, h => by cases h
  | _ :: _, _ :: _, [], h => by cases h
section
variable {Γ : Gm} {p : Option Addr} {A A' : Addr → Prop} {H H' : Hp} {σ σ2 : L2.St} {δ : List Sl} {n : Nat}
theorem Rel.agree (R : Rel Γ σ δ A H n) (h : Agree σ σ2 δ) : Rel Γ σ2 δ A H n := by
  have e := agree_owns h
  exact ⟨agree_slR h R.sl, by rw [e]; exact R.nd, fun a ha => R.fo a (by rw [← e]; exact ha), R.fr, R.a0, R.ad, R.nw, R.inv⟩
theorem Rel.wiped (R : Rel Γ σ δ A H n) : ∀ {vs : List Nat}, Rel Γ σ (dwipe δ vs) A H n
  | [] => R
  | v :: vs => (R.wiped (vs := vs)).no
theorem slR_len : ∀ {σ : L2.St} {δ : List Sl}, Paired (SlR p A H) σ δ → σ.length = δ.length
  | _, _, .nil => rfl
  | _, _, .cons _ t => congrArg Nat.succ (slR_len t)
theorem Rel.wipe (R : Rel Γ σ δ A H n) {vs : List Nat} : Rel Γ (wipe σ vs) (dwipe δ vs) A H n := by
  refine R.wiped.agree (agree_of (by rw [dwipe_len]; exact slR_len R.sl) (by rw [wipe_length, dwipe_len]; exact slR_len R.sl) fun j s e ns => ?_)
  by_cases h : j ∈ vs
  · exact absurd (dwipe_in h e) ns
  · exact wipe_get h
/-- back from a comprehension's names -/
theorem Rel.unwipe {vs : List Nat} (R : Rel Γ σ2 δ A H n) (hw : L2.wipe σ2 vs = L2.wipe σ vs) (hl : σ.length = δ.length) : Rel Γ σ (dwipe δ vs) A H n := by
  refine R.wiped.agree (agree_of (by rw [dwipe_len]; exact slR_len R.sl) (by rw [dwipe_len]; exact hl) fun j s e ns => ?_)
  by_cases h : j ∈ vs
  · exact absurd (dwipe_in h e) ns
  · rw [← wipe_get (σ := σ) h, ← hw, wipe_get h]
end
/-! ### walks -/
/-- J walks over the trees ds, as long as what is read of A, H stays -/
def IsIt (J : It) (A0 : Addr → Prop) (H0 : Hp) (ds : List Dt) : Prop :=
  Walk J ds.length (fun H => ∃ A, Kp A0 H0 A H) fun i H x H' => ∀ A, Kp A0 H0 A H → (∀ b, A b → H b ≠ none) → ∃ A' d, Grow A H A' H' ∧ ds[i]? = some d ∧ Rep A' H' x d
abbrev TId := Nat → List Sl → (List Dt → Nat → List Sl → Prop) → Prop
def EvI (a : Act) (wi : TI) (T : TId) : Prop := ∀ (Γ : Gm), ExSat Γ a → ∀ (σ : L2.St) (A : Addr → Prop) (H : Hp) (n : Nat) (δ : List Sl) (Qd : List Dt → Nat → List Sl → Prop) (R : It → Hp → Prop), Rel Γ σ δ A H n → T n δ Qd →
  (∀ J ds A' H' n' δ', Rel Γ σ δ' A' H' n' → IsIt J A' H' ds → Mv Γ σ δ A H δ' A' H' → Qd ds n' δ' → R J H') → wi σ H R
def DI {ι : Type} (X : ι → Cx) (a : Act) (tg iter : Expr) (T : TId) : Prop := ∃ wi, (∀ c, PI (X c) tg iter wi) ∧ EvI a wi T
abbrev TGd := Dt → List Sl → (List Sl → Prop) → Prop
def EvG (a : Act) (vs : List Nat) (g : TG) (G : TGd) : Prop := ∀ (Γ : Gm), ExSat Γ a → ∀ (σ : L2.St) (A : Addr → Prop) (H : Hp) (n : Nat) (δ : List Sl) (v : V) (d : Dt) (Qd : List Sl → Prop) (Q : L2.St → Hp → Prop), Rel Γ σ δ A H n → Rep A H v d → G d δ Qd →
  (∀ σ' δ', Rel Γ σ' δ' A H n → wipe σ' vs = wipe σ vs → (∀ a ∈ owns σ' δ', a ∈ owns σ δ) → Qd δ' → Q σ' H) → g v σ H Q
def DG {ι : Type} (X : ι → Cx) (a : Act) (vs : List Nat) (tg : Expr) (G : TGd) : Prop := ∃ g, (∀ c, PG (X c) tg g) ∧ EvG a vs g G
section
variable {ι : Type} {X : ι → Cx} {ac : Act}
theorem isIt_list {K : PySem.W.Frag} {A : Addr → Prop} {H : Hp} {a : Addr} {xs : List V} {ds : List Dt} (ha : A a) (h : H a = some (.lst xs)) (r : Reps A H xs ds) : IsIt (Itl K a) A H ds := by
  unfold IsIt
  rw [← r.len]
  refine (walk_list (K := K) (a := a) (xs := xs)).mono (fun H' ⟨A', k⟩ => SqL.of (k.ob a _ ha h)) fun i H1 x H2 hi _ y A' k dm => ?_
  obtain ⟨rfl, e⟩ := y
  obtain ⟨d, e2, rd⟩ := r.getV e
  exact ⟨A', d, .refl dm, e2, rd.kp k⟩
theorem isIt_tup {K : PySem.W.Frag} {A : Addr → Prop} {H : Hp} {a : Addr} {xs : List V} {ds : List Dt} (ha : A a) (h : H a = some (.tup xs)) (r : Reps A H xs ds) : IsIt (Itt K a) A H ds := by
  unfold IsIt
  rw [← r.len]
  refine (walk_tup (K := K) (a := a) (xs := xs)).mono (fun H' ⟨A', k⟩ => SqT.of (k.ob a _ ha h)) fun i H1 x H2 hi _ y A' k dm => ?_
  obtain ⟨rfl, e⟩ := y
  obtain ⟨d, e2, rd⟩ := r.getV e
  exact ⟨A', d, .refl dm, e2, rd.kp k⟩
theorem di_list {K : PySem.W.Frag} {tg e : Expr} {T : TRd} (h : DR X ac e T) (pi : ∀ c {t : TE}, PE (X c) e t → PI (X c) tg e (iList K t)) : DI X ac tg e (fun n δ Q => T n δ fun d n' δ' => ∃ ds, d = .lst ds ∧ Q ds n' δ') := by
  obtain ⟨t, p, ev⟩ := h
  refine ⟨_, fun c => pi c (p c), fun Γ gx σ A H n δ Qd R0 R hT k => ev Γ gx σ A H n δ _ _ R hT fun v d A' H' n' δ' R' r m q => ?_⟩
  obtain ⟨ds, rfl, q⟩ := q
  obtain ⟨a, xs, rfl, ha, hx, rs⟩ := rep_lst r
  exact ⟨a, rfl, ⟨xs, SqL.of hx⟩, k _ ds A' H' n' δ' R' (isIt_list ha hx rs) m q⟩
theorem di_tup {K : PySem.W.Frag} {tg e : Expr} {T : TRd} (h : DR X ac e T) (pi : ∀ c {t : TE}, PE (X c) e t → PI (X c) tg e (iTup K t)) : DI X ac tg e (fun n δ Q => T n δ fun d n' δ' => ∃ ds, d = .tup ds ∧ Q ds n' δ') := by
  obtain ⟨t, p, ev⟩ := h
  refine ⟨_, fun c => pi c (p c), fun Γ gx σ A H n δ Qd R0 R hT k => ev Γ gx σ A H n δ _ _ R hT fun v d A' H' n' δ' R' r m q => ?_⟩
  obtain ⟨ds, rfl, q⟩ := q
  obtain ⟨a, xs, rfl, ha, hx, rs⟩ := rep_tup r
  exact ⟨a, rfl, ⟨xs, SqT.of hx⟩, k _ ds A' H' n' δ' R' (isIt_tup ha hx rs) m q⟩
theorem wipe_set {σ : L2.St} {i : Nat} {x : Option V} : ∀ {vs : List Nat}, i ∈ vs → wipe (σ.set i x) vs = wipe σ vs
  | v :: vs, h => by
    show (wipe (σ.set i x) vs).set v none = (wipe σ vs).set v none
    by_cases e : v = i
    · subst e
      have gen : ∀ ws : List Nat, (wipe (σ.set v x) ws).set v none = (wipe σ ws).set v none := by
        intro ws
        induction ws with
        | nil => exact List.set_set _
        | cons w ws ih =>
          show ((wipe (σ.set v x) ws).set w none).set v none = ((wipe σ ws).set w none).set v none
          by_cases q : w = v
          · subst q
            rw [List.set_set, List.set_set]
            exact ih
          · rw [List.set_comm _ _ q, List.set_comm _ _ q, ih]
      exact gen vs
    · rcases List.mem_cons.mp h with z | z
      · exact absurd z.symm e
      · rw [wipe_set z]
theorem dg_name {i : Nat} {vs : List Nat} {tg : Expr} (h : ∀ c, PG (X c) tg (gName i)) (hi : i ∈ vs) : DG X ac vs tg (fun d δ Q => Q (δ.set i (.ro d))) := by
  refine ⟨_, h, fun Γ gx σ A H n δ v d Qd Q R r hT k => ?_⟩
  have rr : RRel Γ H A H σ δ v (.ro d) := r
  refine k _ _ (R.set rr) (wipe_set hi) (fun a ha => ?_) hT
  obtain ⟨_, o2⟩ := owns_set (i := i) (v := v) (s := .ro d) (fun a d e1 e2 => by cases e2) R.nd
  rcases o2 a ha with z | ⟨_, _, z⟩
  · exact z
  · cases z
/-! a row of targets -/
abbrev TGsd := List Dt → List Sl → (List Sl → Prop) → Prop
def EvGs (a : Act) (vs : List Nat) (g : TGs) (G : TGsd) : Prop := ∀ (Γ : Gm), ExSat Γ a → ∀ (σ : L2.St) (A : Addr → Prop) (H : Hp) (n : Nat) (δ : List Sl) (us : List V) (ds : List Dt) (Qd : List Sl → Prop) (Q : L2.St → Hp → Prop), Rel Γ σ δ A H n → Reps A H us ds → G ds δ Qd →
  (∀ σ' δ', Rel Γ σ' δ' A H n → wipe σ' vs = wipe σ vs → (∀ a ∈ owns σ' δ', a ∈ owns σ δ) → Qd δ' → Q σ' H) → g us σ H Q
def DGs {ι : Type} (X : ι → Cx) (a : Act) (vs : List Nat) (tgs : List Expr) (G : TGsd) : Prop := ∃ g, (∀ c, PGs (X c) tgs g) ∧ EvGs a vs g G
theorem dgs_nil {vs : List Nat} : DGs X ac vs [] (fun ds δ Q => ds = [] ∧ Q δ) := by
  refine ⟨_, fun _ => pgs_nil, fun Γ gx σ A H n δ us ds Qd Q R r hT k => ?_⟩
  obtain ⟨rfl, q⟩ := hT
  cases r
  exact ⟨rfl, k σ δ R rfl (fun a h => h) q⟩
theorem dgs_cons {vs : List Nat} {e : Expr} {es : List Expr} {G : TGd} {Gs : TGsd} (h1 : DG X ac vs e G) (h2 : DGs X ac vs es Gs) (hs : ∀ c, (assignEach (e :: es) (X c).env).map (·.2) = assign e (X c).env :: (assignEach es (X c).env).map (·.2) := by intro _; rfl) :
    DGs X ac vs (e :: es) (fun ds δ Q => ∃ d r, ds = d :: r ∧ G d δ fun δ1 => Gs r δ1 Q) := by
  obtain ⟨g, p, ev⟩ := h1
  obtain ⟨gs, ps, evs⟩ := h2
  refine ⟨_, fun c => pgs_cons (p c) (ps c) (hs c), fun Γ gx σ A H n δ us ds Qd Q R r hT k => ?_⟩
  obtain ⟨d, rest, rfl, q⟩ := hT
  cases r with
  | cons rd rr => exact ⟨_, _, rfl, ev Γ gx σ A H n δ _ d _ _ R rd q fun σ1 δ1 R1 w1 o1 q1 => evs Γ gx σ1 A H n δ1 _ rest _ _ R1 rr q1 fun σ2 δ2 R2 w2 o2 q2 => k σ2 δ2 R2 (w2.trans w1) (fun a h => o1 a (o2 a h)) q2⟩
theorem dg_tup {K : PySem.W.Frag} {vs : List Nat} {es : List Expr} {kk : Nat} {pos : Pos} {Gs : TGsd} {m : Nat} (h : DGs X ac vs es Gs) (pg : ∀ c {t : TGs}, PGs (X c) es t → PG (X c) (.Tuple es kk pos) (gTup K m t)) :
    DG X ac vs (.Tuple es kk pos) (fun d δ Q => ∃ ds, d = .tup ds ∧ ds.length = m ∧ Gs ds δ Q) := by
  obtain ⟨gs, ps, evs⟩ := h
  refine ⟨_, fun c => pg c (ps c), fun Γ gx σ A H n δ v d Qd Q R r hT k => ?_⟩
  obtain ⟨ds, rfl, hl, q⟩ := hT
  obtain ⟨a, xs, rfl, ha, hx, rs⟩ := rep_tup r
  exact ⟨a, xs, rfl, SqT.of hx, by rw [rs.len]; exact hl, evs Γ gx σ A H n δ xs ds _ _ R rs q k⟩
/-! ### for -/
def dFor (G : TGd) (Tb : TSd) : List Dt → TSd
  | [], n, δ, E => E.nx n δ
  | d :: ds, n, δ, E => G d δ fun δ1 => Tb n δ1 { nx := fun n' δ' => dFor G Tb ds n' δ' E, ct := fun n' δ' => dFor G Tb ds n' δ' E, bk := E.nx, rt := E.rt }
theorem ds_for {tg iter : Expr} {body : List Stmt} {pos : Pos} {vs : List Nat} {T : TId} {G : TGd} {Tb : TSd} (hp : ∀ c, PassesOwn (model (X c).prog (X c).w) (X c).A (X c).env (X c).xe) (hc : ∀ c, (X c).calm = true) (hi : DI X ac tg iter T) (hg : DG X ac vs tg G) (hb : DSs X ac body Tb)
    (hs : ∀ c x, foldedSetIterable iter (X c).env x = pure x := by intro _ _; rfl) : DS X ac (.For tg iter body [] pos) (fun n δ E => T n δ fun ds n' δ' => dFor G Tb ds n' δ' E) := by
  obtain ⟨wi, pi, ei⟩ := hi
  obtain ⟨g, pg, eg⟩ := hg
  obtain ⟨tb, pb, eb⟩ := hb
  refine ⟨_, fun c => ps_for (hp c) (hc c) (pi c) (pg c) (pb c) (hs c), fun Γ gx σ A H n δ D E R s hT => ei Γ gx σ A H n δ _ _ R hT fun J ds A1 H1 n1 δ1 R1 it m1 q1 => ?_⟩
  refine for_it it (fun i σ' H' => ∃ A' n' δ', Rel Γ σ' δ' A' H' n' ∧ Kp A1 H1 A' H' ∧ dFor G Tb (ds.drop i) n' δ' E) ⟨A1, n1, δ1, R1, .refl, q1⟩ (fun i σ' H' _ ⟨A', _, _, _, k, _⟩ => ⟨A', k⟩) ?_ ?_
  · rintro i x σ' H' H2 hi ⟨A', n', δ', R', k, q⟩ y
    obtain ⟨A2, d, gr, e, rd⟩ := y A' k R'.dom
    have ed : ds.drop i = d :: ds.drop (i + 1) := by
      obtain ⟨h, e⟩ := List.getElem?_eq_some_iff.mp e
      rw [← e, List.getElem_cons_drop]
    rw [ed] at q
    refine eg Γ gx σ' A2 H2 n' δ' x d _ _ (R'.grow gr) rd q fun σ3 δ3 R3 _ _ q3 => ?_
    have k2 : Kp A1 H1 A2 H2 := k.trans gr.k
    refine eb Γ gx σ3 A2 H2 n' δ3 _ { nx := fun n' δ' => dFor G Tb (ds.drop (i + 1)) n' δ' E, ct := fun n' δ' => dFor G Tb (ds.drop (i + 1)) n' δ' E, bk := E.nx, rt := E.rt } R3 ⟨fun σ4 δ4 A4 H4 n4 R4 k4 q4 => ⟨A4, n4, δ4, R4, k2.trans k4, q4⟩, fun σ4 δ4 A4 H4 n4 R4 k4 q4 => s.nx σ4 δ4 A4 H4 n4 R4 ((m1.kp R).trans (k2.trans k4)) q4,
      fun σ4 δ4 A4 H4 n4 R4 k4 q4 => ⟨A4, n4, δ4, R4, k2.trans k4, q4⟩, fun σ4 δ4 A4 H4 n4 v r R4 k4 rr q4 => s.rt σ4 δ4 A4 H4 n4 v r R4 ((m1.kp R).trans (k2.trans k4)) rr q4⟩ q3
  · rintro σ' H' ⟨A', n', δ', R', k, q⟩
    rw [List.drop_length] at q
    exact s.nx σ' δ' A' H' n' R' ((m1.kp R).trans k) q
end
end DL
/-! ## DL6 -/
set_option Elab.async false
set_option linter.all false
set_option maxRecDepth 100000
set_option maxHeartbeats 4000000
/-! Comprehensions, while. -/
namespace DL
open PySem PySem.Spec PyProof.Rows L2
variable [Wd]
section
variable {ι : Type} {X : ι → Cx} {ac : Act} {Γ : Gm}
def DTs {ι : Type} (X : ι → Cx) (a : Act) (ifs : List Expr) (T : TTd) : Prop := ∃ t, (∀ c, PTs (X c) ifs t) ∧ EvT a t T
theorem dts_nil : DTs X ac [] (fun n δ Q => Q true n δ) := ⟨_, fun _ => pts_nil, fun Γ gx σ A H n δ Qd Q R h k => k true A H n δ R .refl h⟩
theorem dts_one {e : Expr} {T : TTd} (h : DT X ac e T) : DTs X ac [e] T := by
  obtain ⟨t, p, ev⟩ := h
  exact ⟨t, fun c => pts_one (p c), ev⟩
/-- the trees that a comprehension makes -/
def dLc (vs : List Nat) (G : TGd) (Tt : TTd) (Te : TRd) : List Dt → List Dt → Nat → List Sl → (List Dt → Nat → List Sl → Prop) → Prop
  | [], acc, n, δ, Q => Q acc n δ
  | d :: ds, acc, n, δ, Q => G d δ fun δ2 => Tt n δ2 fun b n3 δ3 => dIte b (Te n3 δ3 fun y n4 δ4 => acc.length < sizeLine ∧ dLc vs G Tt Te ds (acc ++ [y]) n4 (dwipe δ4 vs) Q) (dLc vs G Tt Te ds acc n3 (dwipe δ3 vs) Q)
/-- the frames of a comprehension's block -/
structure Blk where
  s : Shared
  H : Hp
  C : Addr
  cl : List (Str × Addr)
  fp : List Addr
abbrev blkX (X : ι → Cx) (scope : Scope) : ι × Blk → Cx := fun c => (X c.1).blk c.2.s c.2.H scope (compEnvC scope c.2.cl c.2.C (X c.1).env) c.2.fp
theorem owns_len {σ : L2.St} {δ : List Sl} {A : Addr → Prop} {H : Hp} {n : Nat} (R : Rel Γ σ δ A H n) : σ.length = δ.length := slR_len R.sl
/-- what stands apart stays apart -/
theorem Mv.free {σ : L2.St} {δ δ' : List Sl} {A A' : Addr → Prop} {H H' : Hp} {a : Addr} {o : HO} (m : Mv Γ σ δ A H δ' A' H') (f : Free Γ A a) (no : a ∉ owns σ δ) (e : H a = some o) : Free Γ A' a ∧ a ∉ owns σ δ' ∧ H' a = some o := by
  refine ⟨⟨f.h0, fun z => ?_, f.nm⟩, fun z => no (m.os a z), m.fm a o e no f.nm⟩
  rcases m.na a z with z | z | z | z
  · exact f.na z
  · rw [e] at z
    cases z
  · exact no z
  · exact f.nm z
theorem owns_dwipe {σ : L2.St} : ∀ {vs : List Nat} {δ : List Sl}, (owns σ δ).Nodup → (owns σ (dwipe δ vs)).Nodup ∧ ∀ a ∈ owns σ (dwipe δ vs), a ∈ owns σ δ
  | [], δ, nd => ⟨nd, fun a h => h⟩
  | v :: vs, δ, nd => by
    obtain ⟨i1, i2⟩ := owns_dwipe (vs := vs) nd
    obtain ⟨o1, o2, _⟩ := owns_no (i := v) i1
    exact ⟨o1, fun a h => i2 a (o2 a h)⟩
theorem owns_wipes {σ σ2 : L2.St} {vs : List Nat} {δ : List Sl} (hw : wipe σ2 vs = wipe σ vs) (h2 : σ2.length = δ.length) (hl : σ.length = δ.length) : owns σ (dwipe δ vs) = owns σ2 (dwipe δ vs) :=
  agree_owns (agree_of (by rw [dwipe_len]; exact h2) (by rw [dwipe_len]; exact hl) fun j s e ns => by
    by_cases h : j ∈ vs
    · exact absurd (dwipe_in h e) ns
    · rw [← wipe_get (σ := σ) h, ← hw, wipe_get h])
theorem wipe_idem {σ : L2.St} {vs : List Nat} : wipe (wipe σ vs) vs = wipe σ vs := by
  have one : ∀ (us : List Nat) (w : Nat), w ∈ us → (wipe σ us).set w none = wipe σ us := by
    intro us w
    induction us with
    | nil => intro h; cases h
    | cons u us ih =>
      intro h
      show ((wipe σ us).set u none).set w none = (wipe σ us).set u none
      by_cases q : u = w
      · rw [q, List.set_set]
      · rw [List.set_comm _ _ q, ih ((List.mem_cons.mp h).resolve_left fun z => q z.symm)]
  have gen : ∀ (ws : List Nat), (∀ j ∈ ws, j ∈ vs) → wipe (wipe σ vs) ws = wipe σ vs := by
    intro ws
    induction ws with
    | nil => intro _; rfl
    | cons w ws ih =>
      intro hw
      show (wipe (wipe σ vs) ws).set w none = _
      rw [ih fun j hj => hw j (List.mem_cons_of_mem _ hj)]
      exact one vs w (hw w List.mem_cons_self)
  exact gen vs fun j hj => hj
def NoAt (vs : List Nat) (δ : List Sl) : Prop := ∀ j ∈ vs, ∀ s, δ[j]? = some s → s = .no
theorem NoAt.agree {vs : List Nat} {δ : List Sl} {σ : L2.St} (h : NoAt vs δ) (hl : σ.length = δ.length) : Agree σ (wipe σ vs) δ :=
  agree_of hl (by rw [wipe_length]; exact hl) fun j s e ns => by
    by_cases q : j ∈ vs
    · exact absurd (h j q s e) ns
    · exact wipe_get q
/-- out of a comprehension's block -/
theorem Mv.out {σ σ3 : L2.St} {vs : List Nat} {δ δ3 δ5 : List Sl} {A A5 : Addr → Prop} {H H5 : Hp} {n5 : Nat} (m : Mv Γ σ3 δ3 A H δ5 A5 H5) (o3 : ∀ a ∈ owns σ3 δ3, a ∈ owns σ δ) (hw : wipe σ3 vs = wipe σ vs) (h3 : σ3.length = δ5.length) (hl : σ.length = δ5.length) (nd : (owns σ3 δ5).Nodup) :
    Mv Γ σ δ A H (dwipe δ5 vs) A5 H5 :=
  ⟨m.gr, fun b o e nb nm => m.fm b o e (fun z => nb (o3 b z)) nm, fun b h => (m.na b h).imp_right (Or.imp_right (Or.imp_left (o3 b))), fun a ha => by
    rw [owns_wipes hw h3 hl] at ha
    exact o3 a (m.os a ((owns_dwipe (vs := vs) nd).2 a ha)), m.th⟩
theorem ev_lc {a : Act} {wi : TI} {g : TG} {tt : TT} {te : TE} {vs : List Nat} {T : TId} {G : TGd} {Tt : TTd} {Te : TRd} (ei : EvI a wi T) (eg : EvG a vs g G) (et : EvT a tt Tt) (ee : EvR a te Te) :
    EvE a (tLc wi g tt te vs) (fun n δ Q => T n δ fun ds n1 δ1 => dLc vs G Tt Te ds [] n1 (dwipe δ1 vs) fun acc n2 δ2 => Q (.own (.lst acc)) n2 δ2) := by
  intro Γ gx σ A H n δ Qd Q R hT k
  refine ei Γ gx σ A H n δ _ _ R hT fun J ds A1 H1 n1 δ1 R1 it m1 q1 => fun D nD => ?_
  have os1 := own_some R1.sl
  have free1 : Free Γ A1 D := ⟨R1.h0 D nD, fun z => R1.dom D z nD, fun z => R1.md D z nD⟩
  have noD : D ∉ owns σ δ1 := fun z => os1 D z nD
  have ow1 := (owns_dwipe (vs := vs) R1.nd).2
  refine lc_it it (fun i H' => ∃ A' n' δ' xs acc, Rel Γ σ δ' A' H' n' ∧ NoAt vs δ' ∧ Mv Γ σ δ1 A1 H1 δ' A' H' ∧ Free Γ A' D ∧ D ∉ owns σ δ' ∧ H' D = some (.lst xs) ∧ Reps A' H' xs acc ∧ dLc vs G Tt Te (ds.drop i) acc n' δ' fun acc n2 δ2 => Qd (.own (.lst acc)) n2 δ2) ?_ (fun i H' _ ⟨A', _, _, _, _, _, _, mv, _⟩ => ⟨A', mv.kp R1⟩) ?_ ?_
  · have g1 : Grow A1 H1 A1 (upd H1 D (.lst [])) := .new nD R1.dom
    have w1 : Rel Γ σ (dwipe δ1 vs) A1 H1 n1 := R1.wiped
    have mw : Mv Γ σ δ1 A1 H1 (dwipe δ1 vs) A1 H1 := ⟨fun _ h => h, fun _ _ e _ _ => e, fun _ h => .inl h, ow1, fun _ h => h⟩
    exact ⟨A1, n1, dwipe δ1 vs, [], [], w1.grow g1, fun j hj s e => dwipe_in hj e, mw.updN nD, free1, fun z => noD (ow1 D z), upd_same, .nil, q1⟩
  · rintro i x H' H2 hi ⟨A', n', δ', xs, acc, R', na, mv, fr, no, hD, hr, q⟩ y
    obtain ⟨A2, d, gr, e, rd⟩ := y A' (mv.kp R1) R'.dom
    have ed : ds.drop i = d :: ds.drop (i + 1) := by
      obtain ⟨h, e⟩ := List.getElem?_eq_some_iff.mp e
      rw [← e, List.getElem_cons_drop]
    rw [ed] at q
    have hD2 : H2 D = some (.lst xs) := gr.kp D _ hD
    have fr2 : Free Γ A2 D := by
      refine ⟨fr.h0, fun z => ?_, fr.nm⟩
      rcases gr.nw D z with z | z
      · exact fr.na z
      · rw [hD] at z
        cases z
    have R2 : Rel Γ σ δ' A2 H2 n' := R'.grow gr
    have mv2 : Mv Γ σ δ1 A1 H1 δ' A2 H2 := mv.trans (.grow gr)
    have lenσ : σ.length = δ'.length := slR_len R'.sl
    have ag := na.agree lenσ
    have Rw : Rel Γ (wipe σ vs) δ' A2 H2 n' := R2.agree ag
    have oww := agree_owns ag
    refine eg Γ gx (wipe σ vs) A2 H2 n' δ' x d _ _ Rw rd q fun σ3 δ3 R3 w3 o3 q3 => ?_
    have w3 : wipe σ3 vs = wipe σ vs := w3.trans wipe_idem
    have o3 : ∀ a ∈ owns σ3 δ3, a ∈ owns σ δ' := fun a ha => by
      have z := o3 a ha
      rw [oww] at z
      exact z
    have l3 : σ3.length = σ.length := by
      have z := congrArg List.length w3
      rw [wipe_length, wipe_length] at z
      exact z
    refine ⟨w3, et Γ gx σ3 A2 H2 n' δ3 _ _ R3 q3 fun b A4 H4 n4 δ4 R4 m4 q4 => ?_⟩
    obtain ⟨f4, no4, hD4⟩ := m4.free fr2 (fun z => no (o3 D z)) hD2
    have l4 : σ3.length = δ4.length := slR_len R4.sl
    have rs2 : Reps A4 H4 xs acc := (hr.kp gr.k).kp (m4.kp R3)
    cases b with
    | true =>
      refine (if_pos rfl).mpr (ee Γ gx σ3 A4 H4 n4 δ4 _ _ R4 (q4.1 rfl) fun y dy A5 H5 n5 δ5 R5 r5 m5 q5 => ?_)
      obtain ⟨hl, q5⟩ := q5
      obtain ⟨f5, no5, hD5⟩ := m5.free f4 no4 hD4
      have l5 : σ3.length = δ5.length := slR_len R5.sl
      have rs5 := rs2.kp (m5.kp R4)
      have R6 : Rel Γ σ (dwipe δ5 vs) A5 H5 n5 := R5.unwipe w3 (by rw [← l3]; exact l5)
      have m6 : Mv Γ σ δ' A2 H2 (dwipe δ5 vs) A5 H5 := (m4.trans m5).out (n5 := n5) o3 w3 l5 (by rw [← l3]; exact l5) R5.nd
      have no6 : D ∉ owns σ (dwipe δ5 vs) := fun z => no (m6.os D z)
      have k6 : Kp A5 H5 A5 (upd H5 D (.lst (xs ++ [y]))) := .of (fun _ h => h) fun b u hb q => by
        rw [upd_ne (neA hb f5.na)]
        exact q
      exact ⟨xs, hD5, by rw [rs5.len]; exact hl, A5, n5, dwipe δ5 vs, xs ++ [y], acc ++ [dy], R6.apart f5 no6, fun j hj s e => dwipe_in hj e, (mv2.trans m6).updN nD, f5, no6, upd_same, (rs5.kp k6).snoc (r5.kp k6), q5⟩
    | false =>
      have R6 : Rel Γ σ (dwipe δ4 vs) A4 H4 n4 := R4.unwipe w3 (by rw [← l3]; exact l4)
      have m6 : Mv Γ σ δ' A2 H2 (dwipe δ4 vs) A4 H4 := m4.out (n5 := n4) o3 w3 l4 (by rw [← l3]; exact l4) R4.nd
      exact (if_neg Bool.false_ne_true).mpr ⟨A4, n4, dwipe δ4 vs, xs, acc, R6, fun j hj s e => dwipe_in hj e, mv2.trans m6, f4, fun z => no (m6.os D z), hD4, rs2, q4.2 rfl⟩
  · rintro H' ⟨A', n', δ', xs, acc, R', na, mv, fr, no, hD, hr, q⟩
    rw [List.drop_length] at q
    exact k (.ref D) (.own (.lst acc)) A' H' n' δ' R' ⟨D, rfl, ⟨xs, hD, hr⟩, no, fr, m1.was D nD⟩ (m1.trans mv) q
theorem de_lc {elt tg iter : Expr} {ifs : List Expr} {scope : Scope} {own : List (Str × Nat)} {pos : Pos} {T : TId} {G : TGd} {Tt : TTd} {Te : TRd} (hc : ∀ c, (X c).calm = true) (hN : ∀ c, (X c).N.Nodup) (hi : DI X ac tg iter T) (ok : ∀ c, BlkOk (X c).N (X c).env.scope scope own)
    (hg : DG (blkX X scope) ac (own.map (·.2)) tg G) (ht : DTs (blkX X scope) ac ifs Tt) (he : DR (blkX X scope) ac elt Te) (hs : ∀ c x, foldedSetIterable iter (X c).env x = pure x := by intro _ _; rfl) :
    DE X ac (.ListComp elt [⟨tg, iter, ifs, 0⟩] scope pos) (fun n δ Q => T n δ fun ds n1 δ1 => dLc (own.map (·.2)) G Tt Te ds [] n1 (dwipe δ1 (own.map (·.2))) fun acc n2 δ2 => Q (.own (.lst acc)) n2 δ2) := by
  obtain ⟨wi, pi, ei⟩ := hi
  obtain ⟨g, pg, eg⟩ := hg
  obtain ⟨tt, pt, et⟩ := ht
  obtain ⟨te, pe, ee⟩ := he
  exact ⟨_, fun c => pe_lc (hc c) (hN c) (pi c) (ok c) (fun s H C cl fp => pg (c, ⟨s, H, C, cl, fp⟩)) (fun s H C cl fp => pt (c, ⟨s, H, C, cl, fp⟩)) (fun s H C cl fp => pe (c, ⟨s, H, C, cl, fp⟩)) (hs c), ev_lc ei eg et ee⟩
/-- name = [..] -/
theorem ds_setLc {i : Nat} {y : Str} {py spos : Pos} {elt tg iter : Expr} {ifs : List Expr} {scope : Scope} {own : List (Str × Nat)} {pos : Pos} {T : TId} {G : TGd} {Tt : TTd} {Te : TRd} (hc : ∀ c, (X c).calm = true) (hN : ∀ c, (X c).N.Nodup) (hy : ∀ c, (X c).N[i]? = some y) (hyl : ∀ c, (X c).env.scope.names.lookup y = some .local)
    (hsw : ∀ c, swapsWith (.ListComp elt [⟨tg, iter, ifs, 0⟩] scope pos) (some (.Name y py)) spos.line (X c).env = pure true) (hi : DI X ac tg iter T) (ok : ∀ c, BlkOk (X c).N (X c).env.scope scope own)
    (hg : DG (blkX X scope) ac (own.map (·.2)) tg G) (ht : DTs (blkX X scope) ac ifs Tt) (he : DR (blkX X scope) ac elt Te) (hs : ∀ c x, foldedSetIterable iter (X c).env x = pure x := by intro _ _; rfl) :
    DS X ac (.Assign [.Name y py] (.ListComp elt [⟨tg, iter, ifs, 0⟩] scope pos) spos) (fun n δ E => T n δ fun ds n1 δ1 => dLc (own.map (·.2)) G Tt Te ds [] n1 (dwipe δ1 (own.map (·.2))) fun acc n2 δ2 => E.nx n2 (δ2.set i (.own (.lst acc)))) := by
  obtain ⟨wi, pi, ei⟩ := hi
  obtain ⟨g, pg, eg⟩ := hg
  obtain ⟨tt, pt, et⟩ := ht
  obtain ⟨te, pe, ee⟩ := he
  exact ⟨_, fun c => ps_setLc (i := i) (hc c) (hN c) (hy c) (hyl c) (hsw c) (pi c) (ok c) (fun s H C cl fp => pg (c, ⟨s, H, C, cl, fp⟩)) (fun s H C cl fp => pt (c, ⟨s, H, C, cl, fp⟩)) (fun s H C cl fp => pe (c, ⟨s, H, C, cl, fp⟩)) (hs c),
    fun Γ gx σ A H n δ D E R s h => ev_lc ei eg et ee Γ gx σ A H n δ _ _ R h fun v r A' H' n' δ' R' rr m q => s.nx _ _ A' H' n' (R'.set rr) (m.kp R) q⟩
/-! ### while -/
/-- as long as the test holds; I by a number that falls -/
def dWhile (Tc : TTd) (Tb : TSd) : TSd := fun n δ E => ∃ I : Nat → Nat → List Sl → Prop, (∃ m, I m n δ) ∧ ∀ m n δ, I m n δ → Tc n δ fun b n1 δ1 => dIte b
  (Tb n1 δ1 { nx := fun n2 δ2 => ∃ m', m' < m ∧ I m' n2 δ2, ct := fun n2 δ2 => ∃ m', m' < m ∧ I m' n2 δ2, bk := E.nx, rt := E.rt }) (E.nx n1 δ1)
end
end DL
/-! ## R2 -/
set_option Elab.async false
set_option linter.all false
set_option maxRecDepth 100000
set_option maxHeartbeats 4000000
/-! enumerate over a tuple. -/
namespace K01
open PySem PySem.Spec PyProof.Rows L2
open AutoSeq1 (wpAny_loadPart')
section
variable {prog : Program} {w : World} {A : Around} {E : Value → Shared → Prop} {s : Shared}
theorem nextOf_tup_item {it l : Addr} {i : Nat} {items} {x : Value} {Q : Value → Shared → Prop} (hit : s.heap.IsTupleIter it l i)
    (hl : s.heap.IsTuple l items) (hx : items[i]? = some x)
    (hQ : ∀ h', h'.IsTupleIter it l (i + 1) → Heap.SameBut it s.heap h' → Q x { s with heap := h' }) :
    wpAny (model prog w) A (Builtin.SmallTypes.nextOf (.ref it)) Q E s := by
  obtain ⟨o, ho, hc, hd⟩ := id hit
  obtain ⟨ol, hol, _, nl, hdl⟩ := hl
  unfold Builtin.SmallTypes.nextOf
  refine wpAny_bind (wpAny_callSpecial?_slot (name := Str.ofString "__next__") hit.typeIs F.slot_tuple_iterator_next
    (wpAny_call_entry F.slot_tuple_iterator_next hit.typeIs F.entry_tuple_iterator_next ?_ (F.args_tuple_iterator_next_1 _)))
  show wpAny _ _ (field (.ref it) 0 >>= _) _ _ s
  refine wpAny_bind (wpAny_field ho hd (x := .ref l) rfl ?_)
  show wpAny _ _ (if (Value.ref l == Value.none) = true then _ else _) _ _ s
  rw [if_neg (show ¬ ((Value.ref l == Value.none) = true) from Bool.false_ne_true)]
  show wpAny _ _ (field (.ref it) 1 >>= _) _ _ s
  refine wpAny_bind (wpAny_field ho hd (x := .int i 0) rfl ?_)
  show wpAny _ _ (seqItems? (.ref l) >>= _) _ _ s
  refine wpAny_bind (wpAny_seqItems hol hdl ?_)
  simp only [Int.toNat_natCast, hx]
  refine wpAny_bind (wpAny_setField ho hd (by simp) (wpAny_pure ⟨x, rfl, wpAny_pure (hQ _ ?_ (Heap.SameBut.update ..))⟩))
  exact ⟨_, Heap.get?_update_self _ ho (Obj.isFreed_of_fields (Obj.data_mapFields hd _)), (Obj.cls_mapFields ..).trans hc, by
    rw [Obj.data_mapFields hd]; simp [rawInt]⟩
theorem nextOf_tup_end {it l : Addr} {i : Nat} {items} {Q : Value → Shared → Prop} (hh : A.handled = none)
    (hit : s.heap.IsTupleIter it l i) (hl : s.heap.IsTuple l items) (hx : items[i]? = none)
    (hE : ∀ h' e, Heap.ExtBut it s.heap h' → (∃ o, h'.get? e = some o ∧ o.cls = .type "StopIteration") → E (.ref e) { s with heap := h' }) :
    wpAny (model prog w) A (Builtin.SmallTypes.nextOf (.ref it)) Q E s := by
  obtain ⟨o, ho, hc, hd⟩ := id hit
  obtain ⟨ol, hol, _, nl, hdl⟩ := hl
  unfold Builtin.SmallTypes.nextOf
  refine wpAny_bind (wpAny_callSpecial?_slot (name := Str.ofString "__next__") hit.typeIs F.slot_tuple_iterator_next
    (wpAny_call_entry F.slot_tuple_iterator_next hit.typeIs F.entry_tuple_iterator_next ?_ (F.args_tuple_iterator_next_1 _)))
  show wpAny _ _ (field (.ref it) 0 >>= _) _ _ s
  refine wpAny_bind (wpAny_field ho hd (x := .ref l) rfl ?_)
  show wpAny _ _ (if (Value.ref l == Value.none) = true then _ else _) _ _ s
  rw [if_neg (show ¬ ((Value.ref l == Value.none) = true) from Bool.false_ne_true)]
  show wpAny _ _ (field (.ref it) 1 >>= _) _ _ s
  refine wpAny_bind (wpAny_field ho hd (x := .int i 0) rfl ?_)
  show wpAny _ _ (seqItems? (.ref l) >>= _) _ _ s
  refine wpAny_bind (wpAny_seqItems hol hdl ?_)
  simp only [Int.toNat_natCast, hx]
  refine wpAny_bind (wpAny_rule (wpAny_bind (wpAny_setField ho hd (by simp) ?_)))
  show wpAny _ _ (newExc (.type "StopIteration") [] >>= _) _ _ _
  refine wpAny_bind ?_
  simp only [newExc, newTuple]
  refine wpAny_bind (wpAny_newObj_type ?_ (by size_fits))
  refine wpAny_bind (m := firstArgMember _ _) (wpAny_of_eq (a := Value.none) (by first | rfl | (simp only [firstArgMember]; rfl)) ?_)
  refine wpAny_newObj_type ?_ (by size_fits)
  simp only [raiseNew]
  refine wpAny_bind (wpAny_handled ?_)
  first | rw [show A.in1.handled = none from hh] | rw [hh]
  refine wpAny_bind (wpAny_pure (wpAny_throw ?_))
  exact hE _ _ (((Heap.SameBut.update ..).extBut.push _).push _) ⟨_, Heap.get?_push_size _ rfl, rfl⟩
end
theorem tupIter_at {h h' : Heap} {it t : Addr} {i : Nat} (x : h.IsTupleIter it t i) (k : ∀ o, h.get? it = some o → h'.get? it = some o) : h'.IsTupleIter it t i :=
  let ⟨o, ho, r⟩ := x; ⟨o, k o ho, r⟩
theorem tup_at {h h' : Heap} {t : Addr} {xs : Array Value} (x : h.IsTuple t xs) (k : ∀ o, h.get? t = some o → h'.get? t = some o) : h'.IsTuple t xs :=
  let ⟨o, ho, r⟩ := x; ⟨o, k o ho, r⟩
theorem draws_tup {prog : Program} {w : World} {A : Around} (hh : A.handled = none) (it l : Addr) (hne : l ≠ it) (items : Array Value) :
    Draws prog w A it [it, l] items.size (fun i v => items[i]? = some v) (fun i h => h.IsTupleIter it l i ∧ h.IsTuple l items) where
  live := fun _ _ st => let ⟨o, ho, _⟩ := st.1; ⟨o, ho⟩
  frame := fun _ _ _ st hk => ⟨tupIter_at st.1 fun o e => hk it (by simp) o e, tup_at st.2 fun o e => hk l (by simp) o e⟩
  item := fun i s Q E hi st hQ => by
    refine nextOf_tup_item st.1 st.2 (x := items[i]) (by simp [hi]) fun h' hit' hs' => ?_
    exact hQ _ h' s.toks (by simp [hi]) ⟨hit', st.2.extBut hs'.extBut hne⟩ hs'
  done := fun s Q E st hE => nextOf_tup_end hh st.1 st.2 (by simp) hE
theorem meets_enumerate_newT (l : Addr) (items : Array Value) (n : Nat) (dct : Option Addr) (sl : Array (Option Value)) :
    Meets (Builtin.«enumerate.__new__» ⟨[.type "enumerate", .ref l], []⟩) (fun _ R s => s.heap.get? l = some { cls := .type "tuple", dict := dct, data := .seq items n, slots := sl } ∧
      R (.ok (.ret (.ref (s.heap.push { cls := .type "tuple_iterator", data := .fields #[.ref l, .int 0 0] }).objs.size)))
        { s with heap := (s.heap.push { cls := .type "tuple_iterator", data := .fields #[.ref l, .int 0 0] }).push { cls := .type "enumerate", data := .fields #[.none, .bool false, .ref s.heap.objs.size, rawInt 0, .none, .none] } }) :=
  .of_wp fun prog w A R s h => by
    obtain ⟨hp, g, d, tk, os⟩ := s; obtain ⟨hl, h⟩ := h
    have hsub := sub_enumerate
    have hL : Heap.IsTuple (Shared.heap ⟨hp, g, d, tk, os⟩) l items := ⟨_, hl, rfl, n, rfl⟩
    wp_walk using wpAny_loadPart' hl
    refine wpAny_stack_any fun st => wpAny_pure ?_
    split
    · rename_i c _ _ _ _ _
      cases (c == Value.type "enumerate")
      · wp_walk using wpAny_loadPart' hl, wpAny_pyIter_tuple hL
        exact ⟨_, rfl, h⟩
      · wp_walk using wpAny_loadPart' hl, wpAny_pyIter_tuple hL
        exact ⟨_, rfl, h⟩
    · wp_walk using wpAny_loadPart' hl, wpAny_pyIter_tuple hL
      exact ⟨_, rfl, h⟩
section
variable {prog : Program} {w : World} {A : Around} {E : Value → Shared → Prop} {s : Shared}
theorem call_enumerate_tup {l : Addr} {items : Array Value} {Q : Value → Shared → Prop} (hL : s.heap.IsTuple l items)
    (h : ∀ h', IsEnum h' (s.heap.objs.size + 1) s.heap.objs.size 0 .none → h'.IsTupleIter s.heap.objs.size l 0 → h'.objs.size = s.heap.objs.size + 2 →
      (∀ b o, s.heap.get? b = some o → h'.get? b = some o) → Q (.ref (s.heap.objs.size + 1)) { s with heap := h' }) :
    wpAny (model prog w) A (call (.type "enumerate") [.ref l]) Q E s := by
  obtain ⟨⟨c, dct, dt, sl⟩, hl, hc, n, hd⟩ := hL
  replace hc : c = .type "tuple" := hc
  replace hd : dt = .seq items n := hd
  subst hc hd
  refine callType_new F.called_enumerate (by decide) (F.typeCall_enumerate_1 _) (F.newCall_enumerate_1 _) (fun obj => F.args_object_init_2 obj _) F.entry_enumerate_new
    (meets_enumerate_newT l items n dct sl) ⟨hl, ?_⟩
  have hz : (s.heap.push { cls := .type "tuple_iterator", data := .fields #[.ref l, .int 0 0] }).objs.size = s.heap.objs.size + 1 := Heap.size_push ..
  show _ ∧ _
  rw [hz]
  have he : IsEnum ((s.heap.push { cls := .type "tuple_iterator", data := .fields #[.ref l, .int 0 0] }).push
      { cls := .type "enumerate", data := .fields #[.none, .bool false, .ref s.heap.objs.size, rawInt 0, .none, .none] }) (s.heap.objs.size + 1) s.heap.objs.size 0 .none := by
    have := Heap.get?_push_size (s.heap.push { cls := .type "tuple_iterator", data := .fields #[.ref l, .int 0 0] })
      (o := { cls := .type "enumerate", data := .fields #[.none, .bool false, .ref s.heap.objs.size, rawInt 0, .none, .none] }) rfl
    rw [hz] at this; exact this
  refine ⟨⟨_, he, rfl⟩, h _ he ⟨_, Heap.get?_push_of_some _ (Heap.get?_push_size _ rfl), rfl, rfl⟩ (by rw [Heap.size_push, hz]) fun b o x => Heap.get?_push_of_some _ (Heap.get?_push_of_some _ x)⟩
end
/-- the tuple at a as it stands at each turn, each item in a new pair -/
def ItT (K : PySem.W.Frag) (a : Addr) : It :=
  ⟨fun i H => ∃ (xs : List V) (x : V), SqT K H a xs ∧ xs[i]? = some x, fun i H v H' => ∃ T x, v = .ref T ∧ H T = none ∧ H' = upd H T (.tup [.int (i : Nat), x]) ∧ ∀ xs, SqT K H a xs → xs[i]? = some x, fun i H => ∃ xs : List V, SqT K H a xs ∧ xs.length ≤ i⟩
theorem turn_enumT {P : Program} {w : World} {K : PySem.W.Frag} {elts : List Expr} {kk : Nat} {tpos : Pos} (a e it : Addr) :
    Turn P w K (.Tuple elts kk tpos) (ItT K a) [e, it] e (fun i h => (∃ old, IsEnum h e it ((i : Nat) : Int) old) ∧ h.IsTupleIter it a i ∧ e ≠ it) where
  mem := by simp
  obj := fun i h st b hb => by
    obtain ⟨⟨old, he⟩, ⟨o, ho, hc, hd⟩, _⟩ := st
    have e' : b = e ∨ b = it := by simpa using hb
    rcases e' with z | z
    · rw [z]; exact ⟨_, he, fun v q => nomatch q⟩
    · rw [z]; exact ⟨o, ho, fun v q => by rw [hd] at q; cases q⟩
  keep := fun i h h' st k => let ⟨⟨old, he⟩, hi, hne⟩ := st; ⟨⟨old, k e (by simp) _ he⟩, tupIter_at hi fun o q => k it (by simp) o q, hne⟩
  item := by
    intro X hP hw hK hc i pins s σ H E I hf st hg
    subst hP hw hK
    obtain ⟨⟨old, he⟩, hit, hne⟩ := st
    obtain ⟨xs, x, hq, hx⟩ := hg
    obtain ⟨its, rv, p, hz⟩ := I.tuple hq
    obtain ⟨u, hu, ru⟩ := rv.get hx
    have hel : e < s.heap.objs.size := Heap.lt_size he
    have hil : it < s.heap.objs.size := by obtain ⟨_, q, _⟩ := hit; exact Heap.lt_size q
    have nta : a ≠ it := fun z => by
      obtain ⟨o1, q1, c1, _⟩ := hit
      obtain ⟨o2, q2, c2, _⟩ := p
      rw [z, q1] at q2
      cases q2
      rw [c1] at c2
      exact absurd c2 (by decide)
    have nea : e ∉ [it, a] := fun z => by
      have z' : e = it ∨ e = a := by simpa using z
      rcases z' with z' | z'
      · exact hne z'
      · obtain ⟨o2, q2, c2, _⟩ := p
        rw [← z', he] at q2
        cases q2
        have c3 : Value.type "enumerate" = Value.type "tuple" := c2
        exact absurd c3 (by decide)
    have hlen : i < its.toArray.size := by
      have z := (List.getElem?_eq_some_iff.mp hu).1
      simpa using z
    refine wpAny_pyNext_enum_itemD (draws_tup (A := X.A.in1) (I.ok.hd hc) it a nta its.toArray) he ⟨hit, p⟩ hlen hne nea fun x' h' tk px ho hst hT hsz hk => ?_
    have ex : x' = u := by
      have px : its.toArray[i]? = some x' := px
      rw [show its.toArray[i]? = some u by simpa using hu] at px
      exact (Option.some.inj px).symm
    subst ex
    refine ⟨_, rfl, wpAny_letOwnedTupleGo_enum (s := { s with heap := h', toks := tk + 1 }) ho fun h'' he' sb => ?_⟩
    have hT2 : h''.get? s.heap.objs.size = some { cls := .type "tuple", data := .seq #[.int i tk, x'] } := (sb.2 _ (Nat.ne_of_gt hel)).trans hT
    have new : ObjOk X.prog X.w (upd H s.heap.objs.size (.tup [.int (i : Nat), x])) h'' s.heap.objs.size (.tup [.int (i : Nat), x]) :=
      ⟨by show 2 ≤ sizeLine; decide, [.int i tk, x'], .cons ⟨_, rfl⟩ (.cons ru .nil), ⟨_, hT2, rfl, _, rfl⟩⟩
    have I1 : Inv X pins σ (upd H s.heap.objs.size (.tup [.int (i : Nat), x])) { s with heap := h'', toks := tk + 1 } :=
      I.turnedNew (ch := [e, it]) (fun b ob hb q => (sb.2 b (fun z => hb (by simp [z]))).trans (hk b ob (fun z => hb (by simp [z])) (fun z => hb (by simp [z])) q)) hf (Nat.le_refl _) new
    refine ⟨.ref s.heap.objs.size, _, I1, rfl, ⟨_, x, rfl, I.hok.fresh (Nat.le_refl _), rfl, fun ys hy => by rw [I.tuple_inj hy hq]; exact hx⟩, ⟨⟨x', ?_⟩, tupIter_at hst.1 fun o q => (sb.2 it (Ne.symm hne)).trans q, hne⟩, fun b hb => ?_⟩
    · have e1 : ((i + 1 : Nat) : Int) = (i : Int) + 1 := by omega
      rw [e1]; exact he'
    · have hb' : b < s.heap.objs.size := by
        have e' : b = e ∨ b = it := by simpa using hb
        rcases e' with z | z
        · rw [z]; exact hel
        · rw [z]; exact hil
      rw [upd_ne (Nat.ne_of_lt hb')]
      exact (hf b hb).1
  done := by
    intro X hP hw hK hc i pins s σ H E I hf st hg
    subst hP hw hK
    obtain ⟨⟨old, he⟩, hit, hne⟩ := st
    obtain ⟨xs, hq, hx⟩ := hg
    obtain ⟨its, rv, p, hz⟩ := I.tuple hq
    obtain ⟨f0, f1, f2, f3, f4, f5⟩ := hf it (by simp)
    have hl := rv.length
    have nta : a ≠ it := fun z => by
      obtain ⟨o1, q1, c1, _⟩ := hit
      obtain ⟨o2, q2, c2, _⟩ := p
      rw [z, q1] at q2
      cases q2
      rw [c1] at c2
      exact absurd c2 (by decide)
    have fin : ∀ {Q : Option Value → Shared → Prop}, (∀ h', Heap.ExtBut it s.heap h' → Q none { s with heap := h' }) → wpAny (model X.prog X.w) X.A (pyNext (.ref e)) Q E s := fun {Q} hQ => by
      have hT : s.TypeIs (.ref e) "enumerate" := ⟨_, he, rfl⟩
      unfold pyNext
      refine wpAny_bind (wpAny_attempt (wpAny_callSpecial?_slot (name := Str.ofString "__next__") hT F.slot_enumerate_next
        (wpAny_call_entry F.slot_enumerate_next hT F.entry_enumerate_next ?_ (F.args_enumerate_next_1 _))))
      show wpAny _ _ (field (.ref e) 2 >>= _) _ _ _
      refine wpAny_bind (wpAny_field he rfl (x := .ref it) rfl ?_)
      refine wpAny_bind (nextOf_tup_end (I.ok.hd hc) hit p (by simp; omega) fun h' x he' hx' => ?_)
      obtain ⟨o, ho, hc⟩ := hx'
      refine wpAny_bind (wpAny_isInstance (T := "StopIteration") (b := true) ⟨o, ho, hc⟩ isSubtype_stop ?_)
      exact wpAny_pure (hQ _ he')
    exact fin fun h' eb => ⟨rfl, I.turned (t' := s.toks) (fun b o hb q => eb b o hb q) f0 f1 f3 f4 f5⟩
  self := fun A i s Q E st h => let ⟨⟨_, he⟩, _⟩ := st; wpAny_pyIter_enum he h
def iEnum2 (K : PySem.W.Frag) (ta : TA) : TI := fun σ H R => ta σ H fun vs H1 => (∃ a xs, vs = [.ref a] ∧ SqL K H1 a xs ∧ R (Ite K a) H1) ∨ (∃ a xs, vs = [.ref a] ∧ SqT K H1 a xs ∧ R (ItT K a) H1)
theorem pi_enum2 {X : Cx} {e : Expr} {ta : TA} {p pos tpos : Pos} {elts : List Expr} {kk : Nat} (hg : Gl X "enumerate") (hm : X.mg "enumerate" = none) (ha : PA X [e] ta) (hs : starEach [e] X.env = [(false, eval e X.env)] := by rfl) :
    PI X (.Tuple elts kk tpos) (.Call (.Name "enumerate" p) [e] [] pos) (iEnum2 X.K ta) := by
  refine ⟨fun pins s σ H R I h => ?_⟩
  refine Call_ (ld_blt I hg hm boot_enumerate (PyProof.Rows.callWith_type1 (thn (ha.run pos pins s σ H _ I h) fun us s1 ⟨vs, H1, I1, r1, q1⟩ => ?_) hs rfl))
  have fpOk : ∀ {h' : Heap}, ∀ b ∈ [s1.heap.objs.size + 1, s1.heap.objs.size], s1.heap.objs.size ≤ b := fun {h'} b hb => by
    have e' : b = s1.heap.objs.size + 1 ∨ b = s1.heap.objs.size := by simpa using hb
    rcases e' with z | z
    · rw [z]; exact Nat.le_add_right _ _
    · rw [z]; exact Nat.le_refl _
  rcases q1 with ⟨a, xs, ex, hq, q⟩ | ⟨a, xs, ex, hq, q⟩
  · subst ex
    cases r1 with
    | cons r rr =>
      cases rr
      cases r
      obtain ⟨its, rv, p', hz⟩ := I1.list hq
      refine call_enumerate_list p'.isList fun h' he hit hsz hk => wpAny_pyIter_enum he ?_
      have I2 : Inv X pins σ H1 { s1 with heap := h' } := I1.kept (t' := s1.toks) hk
      refine ⟨s1.heap.objs.size + 1, [s1.heap.objs.size + 1, s1.heap.objs.size], _, _, H1, rfl, I2, turn_enum a (s1.heap.objs.size + 1) s1.heap.objs.size, ⟨⟨.none, he⟩, hit, Nat.succ_ne_self _⟩, fun b hb => ?_, q⟩
      have hle := fpOk (h' := h') b hb
      exact I1.fpOk hle (I1.hok.fresh hle)
  · subst ex
    cases r1 with
    | cons r rr =>
      cases rr
      cases r
      obtain ⟨its, rv, p', hz⟩ := I1.tuple hq
      refine call_enumerate_tup p' fun h' he hit hsz hk => wpAny_pyIter_enum he ?_
      have I2 : Inv X pins σ H1 { s1 with heap := h' } := I1.kept (t' := s1.toks) hk
      refine ⟨s1.heap.objs.size + 1, [s1.heap.objs.size + 1, s1.heap.objs.size], _, _, H1, rfl, I2, turn_enumT a (s1.heap.objs.size + 1) s1.heap.objs.size, ⟨⟨.none, he⟩, hit, Nat.succ_ne_self _⟩, fun b hb => ?_, q⟩
      have hle := fpOk (h' := h') b hb
      exact I1.fpOk hle (I1.hok.fresh hle)
theorem walk_enumT {K : PySem.W.Frag} {a : Addr} {xs : List V} : Walk (ItT K a) xs.length (fun H => SqT K H a xs) (YPair (fun i => some (.int (i : Nat))) (fun i => xs[i]?)) := by
  refine ⟨fun i _ hi q => ⟨xs, xs[i], q, by simp [hi]⟩, fun _ q => ⟨xs, q, Nat.le_refl _⟩, fun i H v H' _ q y => ?_⟩
  obtain ⟨T, x, h1, h2, h3, h4⟩ := y
  exact ⟨T, .int (i : Nat), x, h1, h2, h3, rfl, h4 xs q⟩
end K01
/-! ## DL7 -/
set_option Elab.async false
set_option linter.all false
set_option maxRecDepth 100000
set_option maxHeartbeats 4000000
/-! while; walks over ranges, pairs. -/
namespace DL
open PySem PySem.Spec PyProof.Rows L2
variable [Wd]
section
variable {ι : Type} {X : ι → Cx} {ac : Act}
theorem ds_while {c : Expr} {body : List Stmt} {pos : Pos} {Tc : TTd} {Tb : TSd} (hp : ∀ c, PassesOwn (model (X c).prog (X c).w) (X c).A (X c).env (X c).xe) (hc : DT X ac c Tc) (hb : DSs X ac body Tb) : DS X ac (.While c body [] pos) (dWhile Tc Tb) := by
  obtain ⟨tc, pc, ec⟩ := hc
  obtain ⟨tb, pb, eb⟩ := hb
  refine ⟨_, fun c => ps_while (hp c) (pc c) (pb c), fun Γ gx σ A H n δ D E R s h => ?_⟩
  obtain ⟨I, ⟨m0, h0⟩, turn⟩ := h
  refine ⟨fun m σ' H' => ∃ A' n' δ', Rel Γ σ' δ' A' H' n' ∧ Kp A H A' H' ∧ I m n' δ', ⟨m0, A, n, δ, R, .refl, h0⟩, ?_⟩
  rintro m σ' H' ⟨A', n', δ', R', k, q⟩
  refine ec Γ gx σ' A' H' n' δ' _ _ R' (turn m n' δ' q) fun b A1 H1 n1 δ1 R1 m1 q1 => ?_
  have k1 : Kp A H A1 H1 := k.trans (m1.kp R')
  cases b with
  | true =>
    refine (if_pos rfl).mpr ⟨fun σ2 H2 => ∃ A2 n2 δ2, Rel Γ σ2 δ2 A2 H2 n2 ∧ Kp A H A2 H2 ∧ ∃ m', m' < m ∧ I m' n2 δ2, fun σ2 H2 ⟨A2, n2, δ2, R2, k2, m', lt, q2⟩ => ⟨m', lt, A2, n2, δ2, R2, k2, q2⟩, ?_⟩
    exact eb Γ gx σ' A1 H1 n1 δ1 _ { nx := fun n2 δ2 => ∃ m', m' < m ∧ I m' n2 δ2, ct := fun n2 δ2 => ∃ m', m' < m ∧ I m' n2 δ2, bk := E.nx, rt := E.rt } R1 ⟨fun σ4 δ4 A4 H4 n4 R4 k4 q4 => ⟨A4, n4, δ4, R4, k1.trans k4, q4⟩, fun σ4 δ4 A4 H4 n4 R4 k4 q4 => s.nx σ4 δ4 A4 H4 n4 R4 (k1.trans k4) q4,
      fun σ4 δ4 A4 H4 n4 R4 k4 q4 => ⟨A4, n4, δ4, R4, k1.trans k4, q4⟩, fun σ4 δ4 A4 H4 n4 v r R4 k4 rr q4 => s.rt σ4 δ4 A4 H4 n4 v r R4 (k1.trans k4) rr q4⟩ (q1.1 rfl)
  | false => exact (if_neg Bool.false_ne_true).mpr (s.nx σ' δ1 A1 H1 n1 R1 k1 (q1.2 rfl))
/-! ### ranges -/
def rngD (lo : Int) (n : Nat) : List Dt := (List.range n).map fun i => .int (lo + (i : Nat))
theorem isIt_rng {A : Addr → Prop} {H : Hp} {lo : Int} {n : Nat} : IsIt (Itr lo n) A H (rngD lo n) := by
  unfold IsIt
  rw [show (rngD lo n).length = n by simp [rngD]]
  refine (walk_range (lo := lo) (n := n)).mono (fun _ _ => trivial) fun i H1 x H2 hi _ y A' k dm => ?_
  obtain ⟨rfl, rfl⟩ := y
  exact ⟨A', .int (lo + (i : Nat)), .refl dm, by simp [rngD, hi], .int _⟩
theorem ra_ro {p : Option Addr} {A : Addr → Prop} {H : Hp} {v : V} {d : Dt} (h : RA p A H v (.ro d)) : Rep A H v d := by
  cases h with
  | ro h => exact h
theorem di_range1 {tg e : Expr} {p pos : Pos} {T : TAd} (h : DA X ac [e] T) (pi : ∀ c {t : TA}, PA (X c) [e] t → PI (X c) tg (.Call (.Name "range" p) [e] [] pos) (iRng1 t)) :
    DI X ac tg (.Call (.Name "range" p) [e] [] pos) (fun n δ Q => T n δ fun rs n' δ' => ∃ j : Int, rs = [.ro (.int j)] ∧ -(2 ^ 62) ≤ j ∧ j < 2 ^ 62 ∧ Q (rngD 0 j.toNat) n' δ') := by
  obtain ⟨t, p, ev⟩ := h
  refine ⟨_, fun c => pi c (p c), fun Γ gx σ A H n δ Qd R0 R hT k => ev Γ gx σ A H n δ _ _ R hT fun vs rs A' H' n' δ' R' ra m q => ?_⟩
  obtain ⟨j, rfl, b1, b2, q⟩ := q
  cases ra with
  | cons r1 rr =>
    cases rr
    exact ⟨j, by rw [rep_int (ra_ro r1)], b1, b2, k _ _ A' H' n' δ' R' isIt_rng m q⟩
theorem di_range2 {tg e e2 : Expr} {p pos : Pos} {T : TAd} (h : DA X ac [e, e2] T) (pi : ∀ c {t : TA}, PA (X c) [e, e2] t → PI (X c) tg (.Call (.Name "range" p) [e, e2] [] pos) (iRng2 t)) :
    DI X ac tg (.Call (.Name "range" p) [e, e2] [] pos) (fun n δ Q => T n δ fun rs n' δ' => ∃ i j : Int, rs = [.ro (.int i), .ro (.int j)] ∧ (-(2 ^ 62) ≤ i ∧ i < 2 ^ 62 ∧ -(2 ^ 62) ≤ j ∧ j < 2 ^ 62) ∧ Q (rngD i (j - i).toNat) n' δ') := by
  obtain ⟨t, p, ev⟩ := h
  refine ⟨_, fun c => pi c (p c), fun Γ gx σ A H n δ Qd R0 R hT k => ev Γ gx σ A H n δ _ _ R hT fun vs rs A' H' n' δ' R' ra m q => ?_⟩
  obtain ⟨i, j, rfl, b, q⟩ := q
  cases ra with
  | cons r1 rr =>
    cases rr with
    | cons r2 rr =>
      cases rr
      exact ⟨i, j, by rw [rep_int (ra_ro r1), rep_int (ra_ro r2)], b, k _ _ A' H' n' δ' R' isIt_rng m q⟩
/-! ### zip, enumerate -/
theorem isIt_pair {J : It} {A : Addr → Prop} {H : Hp} {n : Nat} {xs ys : Nat → Option V} {ds es : Nat → Option Dt} {G : Hp → Prop} (w : Walk J n G (YPair xs ys)) (ps : List Dt) (hn : n = ps.length) (hg : ∀ A' H', Kp A H A' H' → G H')
    (hx : ∀ i x, xs i = some x → ∃ d, ds i = some d ∧ Rep A H x d) (hy : ∀ i y, ys i = some y → ∃ d, es i = some d ∧ Rep A H y d) (hp : ∀ i d e, ds i = some d → es i = some e → ps[i]? = some (.tup [d, e])) : IsIt J A H ps := by
  unfold IsIt
  rw [← hn]
  refine w.mono (fun H' ⟨A', k⟩ => hg A' H' k) fun i H1 v H2 hi _ y A' k dm => ?_
  obtain ⟨T, x, y, rfl, nT, rfl, e1, e2⟩ := y
  obtain ⟨d, q1, r1⟩ := hx i x e1
  obtain ⟨e, q2, r2⟩ := hy i y e2
  obtain ⟨g, r⟩ := new_tup nT dm (.cons (r1.kp k) (.cons (r2.kp k) .nil))
  exact ⟨_, _, g, hp i d e q1 q2, r⟩
def zipD (ds es : List Dt) : List Dt := List.zipWith (fun d e => .tup [d, e]) ds es
def enumD (ds : List Dt) : List Dt := ds.zipIdx.map fun p => .tup [.int (p.2 : Nat), p.1]
theorem di_zip {K : PySem.W.Frag} {e e2 : Expr} {p pos tpos : Pos} {elts : List Expr} {kk : Nat} {T : TAd} (h : DA X ac [e, e2] T) (pi : ∀ c {t : TA}, PA (X c) [e, e2] t → PI (X c) (.Tuple elts kk tpos) (.Call (.Name "zip" p) [e, e2] [] pos) (iZip K t)) :
    DI X ac (.Tuple elts kk tpos) (.Call (.Name "zip" p) [e, e2] [] pos) (fun n δ Q => T n δ fun rs n' δ' => ∃ ds es, rs = [.ro (.lst ds), .ro (.lst es)] ∧ Q (zipD ds es) n' δ') := by
  obtain ⟨t, p, ev⟩ := h
  refine ⟨_, fun c => pi c (p c), fun Γ gx σ A H n δ Qd R0 R hT k => ev Γ gx σ A H n δ _ _ R hT fun vs rs A' H' n' δ' R' ra m q => ?_⟩
  obtain ⟨ds, es, rfl, q⟩ := q
  cases ra with
  | cons r1 rr =>
    cases rr with
    | cons r2 rr =>
      cases rr
      obtain ⟨a, xs, rfl, ha, hx, r1⟩ := rep_lst (ra_ro r1)
      obtain ⟨b, ys, rfl, hb, hy, r2⟩ := rep_lst (ra_ro r2)
      refine ⟨a, b, xs, ys, rfl, SqL.of hx, SqL.of hy, k _ _ A' H' n' δ' R' (isIt_pair (ds := fun i => ds[i]?) (es := fun i => es[i]?) (walk_zip (K := K) (a := a) (b := b) (xs := xs) (ys := ys) rfl) _ ?_ (fun A2 H2 k2 => ⟨SqL.of (k2.ob a _ ha hx), SqL.of (k2.ob b _ hb hy)⟩)
        (fun i x e => r1.getV e) (fun i y e => r2.getV e) fun i d e h1 h2 => ?_) m q⟩
      · rw [r1.len, r2.len]
        simp [zipD]
      · simp [zipD, List.getElem?_zipWith, h1, h2]
theorem di_enum {K : PySem.W.Frag} {e : Expr} {p pos tpos : Pos} {elts : List Expr} {kk : Nat} {T : TAd} (h : DA X ac [e] T) (pi : ∀ c {t : TA}, PA (X c) [e] t → PI (X c) (.Tuple elts kk tpos) (.Call (.Name "enumerate" p) [e] [] pos) (K01.iEnum2 K t)) :
    DI X ac (.Tuple elts kk tpos) (.Call (.Name "enumerate" p) [e] [] pos) (fun n δ Q => T n δ fun rs n' δ' => ∃ ds, (rs = [.ro (.lst ds)] ∨ rs = [.ro (.tup ds)]) ∧ Q (enumD ds) n' δ') := by
  obtain ⟨t, p, ev⟩ := h
  refine ⟨_, fun c => pi c (p c), fun Γ gx σ A H n δ Qd R0 R hT k => ev Γ gx σ A H n δ _ _ R hT fun vs rs A' H' n' δ' R' ra m q => ?_⟩
  obtain ⟨ds, e, q⟩ := q
  have pr : ∀ i d e, (some (Dt.int (i : Nat)) = some d) → ds[i]? = some e → (enumD ds)[i]? = some (.tup [d, e]) := fun i d e h1 h2 => by
    cases h1
    simp [enumD, h2]
  rcases e with rfl | rfl
  · cases ra with
    | cons r1 rr =>
      cases rr
      obtain ⟨a, xs, rfl, ha, hx, r1⟩ := rep_lst (ra_ro r1)
      refine .inl ⟨a, xs, rfl, SqL.of hx, k _ _ A' H' n' δ' R' (isIt_pair (ds := fun i => some (.int (i : Nat))) (es := fun i => ds[i]?) (walk_enum (K := K) (a := a) (xs := xs)) (enumD ds) (by rw [r1.len]; simp [enumD]) (fun A2 H2 k2 => SqL.of (k2.ob a _ ha hx)) (fun i x e => ?_) (fun i y e => r1.getV e) pr) m q⟩
      cases e
      exact ⟨_, rfl, .int _⟩
  · cases ra with
    | cons r1 rr =>
      cases rr
      obtain ⟨a, xs, rfl, ha, hx, r1⟩ := rep_tup (ra_ro r1)
      refine .inr ⟨a, xs, rfl, SqT.of hx, k _ _ A' H' n' δ' R' (isIt_pair (ds := fun i => some (.int (i : Nat))) (es := fun i => ds[i]?) (K01.walk_enumT (K := K) (a := a) (xs := xs)) (enumD ds) (by rw [r1.len]; simp [enumD]) (fun A2 H2 k2 => SqT.of (k2.ob a _ ha hx)) (fun i x e => ?_) (fun i y e => r1.getV e) pr) m q⟩
      cases e
      exact ⟨_, rfl, .int _⟩
end
end DL
/-! ## ErrK -/
set_option Elab.async false
set_option linter.all false
set_option maxRecDepth 100000
set_option maxHeartbeats 4000000
/-! Own errors of one field: X(e) raised, made from the facts of the class. -/
namespace ErrK
open PySem L2
/-- __init__ of such a class: self.f = v -/
def spIni (C : Addr) (f : Str) : Sp := fun vs H Q _ => ∃ (a : Addr) (v : V), vs = [.ref a, v] ∧ H a = some (exo a C none) ∧
  ∀ dx, H dx = none → dx ≠ a → Q .non (upd (upd H dx (exd dx [(f, v)])) a (exo a C (some dx)))
/-- an error class at C, called x, with the field f -/
structure Err (P : Program) (w : World) (K : PySem.W.Frag) (mg : Str → Option Value) (base : Heap) (x f : Str) (C : Addr) : Prop where
  oex : OexC K C
  gC : mg x = some (.ref C)
  ini : ∃ (fI : Addr) (fd : FuncData), PySem.W.findIn K (.ref C) "__init__" = some (some (.ref fI)) ∧ PySem.W.typeIn K (.ref fI) = some (.type "function") ∧ FnOk P w K mg base CX0 1 fI fd ["self", f] (spIni C f) ∧ Binds K fd ["self", f] []
  no : PySem.W.findIn K (.ref C) f = some none
  xf : XfC K C
section
variable {P : Program} {w : World} {K : PySem.W.Frag} {mg : Str → Option Value} {base : Heap}
theorem ok_ini {x q f : Str} {st : Stmt} {fI C : Addr} {fd : FuncData} (F : Fun K x q st fI fd) (S : FnScope ["self", f] ["self", f] (defScope st)) (hb : ∃ p1 p2 p3 p4 : Pos, defBody st = [.Assign [.Attribute (.Name "self" p1) f p2] (.Name f p3) p4])
    (T : OexC K C) (no : PySem.W.findIn K (.ref C) f = some none) (d1 : (f == ("__debug__" : Str)) = false) (d2 : (f == ("__classdict__" : Str)) = false) : FnOk P w K mg base CX0 1 fI fd ["self", f] (spIni C f) := by
  refine F.ok S (fun vs H Q E h => ?_) (fun cdv A outer s H vs Q E hr h => ?_)
  · obtain ⟨a, v, rfl, _⟩ := h
    rfl
  · obtain ⟨a, v, rfl, ha, k⟩ := h
    obtain ⟨p1, p2, p3, p4, e⟩ := hb
    rw [e]
    have vis : ∀ y ∈ (["self", f] : List Str), Vis (defScope st) y := fun y hy => by
      rcases S.par y hy with z | z
      · exact .inl z
      · exact .inr (.inl z)
    refine ⟨_, pss_one (ps_ost (pe_var (i := 0) rfl (vis _ (by simp))) (pe_var (i := 1) rfl (vis _ (by simp)) d1 d2)), ?_⟩
    exact ⟨v, rfl, _, rfl, a, C, rfl, T, no, .inl ⟨ha, fun dx n ne => k dx n ne⟩⟩
end
/-- behind the argument of X(e), on its way to a raise: its own dict is new, the error itself is let go -/
theorem err_end {C : Addr} {f : Str} {v : V} {H1 : Hp} {Q : XK} (h : ∀ d, H1 d = none → Q (.ref C) (some d) (upd H1 d (.xd [(f, v)]))) :
    [v].length ≤ 1000 ∧ ∀ a, H1 a = none → spIni C f (.ref a :: ([v] ++ [])) (upd H1 a (exo a C none))
      (fun u H2 => u = .non ∧ ∃ (d : Addr) (fs : List (Str × V)), H2 a = some (exo a C (some d)) ∧ H2 d = some (exd d fs) ∧ H1 d = none ∧ Q (.ref C) (some d) (upd (L2.del H2 a) d (.xd fs))) (fun _ _ _ => False) := by
  refine ⟨(show 1 ≤ 1000 by decide), fun a na => ⟨a, v, rfl, upd_same, fun dx nd ne => ⟨rfl, dx, [(f, v)], upd_same, ?_, ?_, ?_⟩⟩⟩
  · rw [upd_ne ne, upd_same]
  · rw [upd_ne ne] at nd
    exact nd
  · rw [upd_ne ne] at nd
    have e : upd (L2.del (upd (upd (upd H1 a (exo a C none)) dx (exd dx [(f, v)])) a (exo a C (some dx))) a) dx (.xd [(f, v)]) = upd H1 dx (.xd [(f, v)]) := by
      funext b
      by_cases hb : b = dx
      · rw [hb, upd_same, upd_same]
      · rw [upd_ne hb, upd_ne hb]
        by_cases ha : b = a
        · rw [ha, L2.del_same, na]
        · rw [L2.del_ne ha, upd_ne ha, upd_ne hb, upd_ne ha]
    rw [e]
    exact h dx nd
theorem pmk_err {X : Cx} {x f : Str} {C : Addr} {e : Expr} {te : TE} {p pos : Pos} (T : Err X.prog X.w X.K X.mg X.base x f C) (hr : Room 2 X.A) (he : PE X e te) (hg : Gl X x := by rfl) (hdb : (x == ("__debug__" : Str)) = false := by decide)
    (hs : starEach (e :: []) X.env = (false, eval e X.env) :: starEach [] X.env := by rfl) (hp : (backTo pos (starEach ([] : List Expr) X.env)).any (·.1) = false := by rfl) : PMk X (.Call (.Name x p) [e] [] pos) (tMkO C (spIni C f) [] (tCons te tNil)) := by
  obtain ⟨fI, fd, iC, tI, F1, hb⟩ := T.ini
  exact pmk_oex (p := p) (pos := pos) T.oex iC tI F1 hr hb .nil pass0 hg T.gC (pa_cons he pa_nil hs) hdb hs hp
end ErrK
/-! ## DL8 -/
set_option Elab.async false
set_option linter.all false
set_option maxRecDepth 100000
set_option maxHeartbeats 4000000
/-! What a def promises, by trees; calls; raising. -/
namespace DL
open PySem PySem.Spec PyProof.Rows L2
variable [Wd]
structure Cl (P : Program) (w : World) (K : PySem.W.Frag) (mg : Str → Option Value) (base : Heap) (CX : CXT) (k : Nat) (x : Str) (sp : Sp) : Prop where
  ex : ∃ (f : Addr) (fd : FuncData) (ps : List Str), FnOk P w K mg base CX k f fd ps sp ∧ mg x = some (.ref f) ∧ PySem.W.keepIn K (.ref f) = true ∧ Binds K fd ps []
omit [Wd] in
theorem pe_cl {X : Cx} {CX : CXT} {k j : Nat} {x : Str} {sp : Sp} {E : XK} {e : Expr} {es : List Expr} {t : TA} {p pos : Pos} (c : Cl X.prog X.w X.K X.mg X.base CX k x sp) (hr : Room j X.A) (hk : k ≤ j) (hx : Passes CX X E) (ha : PA X (e :: es) t) (hg : Gl X x := by rfl)
    (hdb : (x == ("__debug__" : Str)) = false := by decide) (he : starEach (e :: es) X.env = (false, eval e X.env) :: starEach es X.env := by rfl) (hpl : (backTo pos (starEach es X.env)).any (·.1) = false := by rfl) :
    PE X (.Call (.Name x p) (e :: es) [] pos) (tCall sp [] E t) := by
  obtain ⟨f, fd, ps, F, hm, kp, b⟩ := c.ex
  exact pe_call F (hr.mono hk) hg hm kp b .nil hx ha hdb he hpl
/-- a promise: arguments, draws so far; what is wanted of the result, of an error -/
abbrev Ct := List Sl → Nat → (Sl → Nat → Prop) → XD → Prop
def ROut (Γ : Gm) (A : Addr → Prop) (H : Hp) (v : V) : Sl → Prop
  | .ro d => Rep A H v d
  | .own d => ∃ a, v = .ref a ∧ Own A H a d ∧ Free Γ A a
  | .pool => ∃ a, Γ.p = some a ∧ v = .ref a
  | .no => False
def spC (C : Ct) : Sp := fun vs H Q E => ∃ (Γ : Gm) (n : Nat) (rs : List Sl) (Qd : Sl → Nat → Prop) (Xd : XD), Γ.H0 = H ∧ Exit Γ Γ.A0 H n ∧ Paired (RA Γ.p Γ.A0 H) vs rs ∧ C rs n Qd Xd ∧
  (∀ v r A' H' n', Exit Γ A' H' n' → ROut Γ A' H' v r → Qd r n' → Q v H') ∧ ExSat Γ ⟨E, Xd⟩
theorem args_owns {Γ : Gm} {A : Addr → Prop} {H : Hp} {k : Nat} : ∀ {vs : List V} {rs : List Sl}, Paired (RA Γ.p A H) vs rs → owns (vs.map some ++ List.replicate k none) (rs ++ List.replicate k .no) = []
  | _, _, .nil => by
    induction k with
    | zero => rfl
    | succ k ih =>
      show owns (none :: List.replicate k none) (.no :: List.replicate k .no) = []
      rcases owns_cons (x := none) (s := .no) (σ := List.replicate k none) (δ := List.replicate k .no) with e | ⟨b, d, _, es, _⟩
      · rw [e]
        exact ih
      · cases es
  | v :: vs, r :: rs, .cons h t => by
    have ih := args_owns (k := k) t
    show owns (some v :: (vs.map some ++ List.replicate k none)) (r :: (rs ++ List.replicate k .no)) = []
    rcases owns_cons (x := some v) (s := r) (σ := vs.map some ++ List.replicate k none) (δ := rs ++ List.replicate k .no) with e | ⟨b, d, _, es, _⟩
    · rw [e]
      exact ih
    · subst es
      cases h
theorem args_sl {p : Option Addr} {A : Addr → Prop} {H : Hp} {k : Nat} : ∀ {vs : List V} {rs : List Sl}, Paired (RA p A H) vs rs → Paired (SlR p A H) (vs.map some ++ List.replicate k none) (rs ++ List.replicate k .no)
  | _, _, .nil => by
    induction k with
    | zero => exact .nil
    | succ k ih => exact .cons trivial ih
  | _, _, .cons h t => by
    refine .cons ?_ (args_sl (k := k) t)
    cases h with
    | ro h => exact h
    | pool e => exact ⟨_, e, rfl⟩
theorem rel0 {Γ : Gm} {n : Nat} {vs : List V} {rs : List Sl} {N : List Str} (ex : Exit Γ Γ.A0 Γ.H0 n) (pr : Paired (RA Γ.p Γ.A0 Γ.H0) vs rs) : Rel Γ (start N vs) (rs ++ List.replicate (N.length - rs.length) .no) Γ.A0 Γ.H0 n := by
  have e : vs.length = rs.length := Paired.length pr
  unfold L2.start
  rw [e]
  have o := args_owns (k := N.length - rs.length) pr
  exact ⟨args_sl pr, by rw [o]; exact List.nodup_nil, (fun a ha => by rw [o] at ha; cases ha), ex.fr, ex.a0, ex.ad, ex.nw, ex.inv⟩
theorem RRel.out {Γ : Gm} {A : Addr → Prop} {H : Hp} {σ : L2.St} {δ : List Sl} {v : V} {r : Sl} {Hs : Hp} (h : RRel Γ Hs A H σ δ v r) : ROut Γ A H v r := by
  cases r with
  | ro d => exact h
  | own d =>
    obtain ⟨a, e, ho, _, f, _⟩ := h
    exact ⟨a, e, ho, f⟩
  | pool => exact h
  | no => exact h
def dlt (N : List Str) (rs : List Sl) : List Sl := rs ++ List.replicate (N.length - rs.length) .no
def edOf (Qd : Sl → Nat → Prop) : ED := { nx := fun n _ => Qd (.ro .non) n, rt := Qd }
section
variable {P : Program} {w : World} {K : PySem.W.Frag} {mg : Str → Option Value} {base : Heap} {x qual : Str} {st : Stmt} {f : Addr} {fd : FuncData} {N ps : List Str} {k : Nat} {C : Ct}
theorem body_ok {X : Cx} {Γ : Gm} {n : Nat} {vs : List V} {rs : List Sl} {Qd : Sl → Nat → Prop} {Xd : XD} {Q : VK} {E : XK} {T : TSd} {ss : List Stmt} (ex : Exit Γ Γ.A0 Γ.H0 n) (pr : Paired (RA Γ.p Γ.A0 Γ.H0) vs rs)
    (hq : ∀ v r A' H' n', Exit Γ A' H' n' → ROut Γ A' H' v r → Qd r n' → Q v H') (hx : ExSat Γ ⟨E, Xd⟩) (b : DSs (fun _ : Unit => X) ⟨E, Xd⟩ ss T) (hT : T n (dlt N rs) (edOf Qd)) :
    ∃ t, PSs X ss t ∧ t { nx := fun _ H' => Q .non H', rt := Q } (start N vs) Γ.H0 := by
  obtain ⟨t, p, ev⟩ := b
  refine ⟨t, p (), ev Γ hx (start N vs) Γ.A0 Γ.H0 n _ _ (edOf Qd) (rel0 ex pr) ⟨fun σ δ A' H' n' R k q => hq _ (.ro .non) A' H' n' R.ex (show Rep A' H' .non .non from .non) q, fun σ δ A' H' n' R k q => q.elim, fun σ δ A' H' n' R k q => q.elim, fun σ δ A' H' n' v r R k rr q => hq v r A' H' n' R.ex rr.out q⟩ hT⟩
theorem okC (F : Fun K x qual st f fd) (S : FnScope N ps (defScope st)) (hl : ∀ rs n Qd Xd, C rs n Qd Xd → rs.length = ps.length)
    (body : ∀ (cdv : Value) (A : Around) (outer : List Env) (s : Shared) (H : Hp) (E : XK) (Xd : XD), Room k (A.deeper (envOfC qual (defScope st) s.heap.objs.size f cdv)) →
      ∃ T, DSs (fun _ : Unit => (cxOf CX0 P w K mg base N qual (defScope st) f cdv A outer s H E).nox) ⟨E, Xd⟩ (defBody st) T ∧ ∀ rs n Qd, C rs n Qd Xd → T n (dlt N rs) (edOf Qd)) : FnOk P w K mg base CX0 (k + 1) f fd ps (spC C) := by
  refine F.ok S (fun vs H Q E h => ?_) (fun cdv A outer s H vs Q E hr h => ?_)
  · obtain ⟨Γ, n, rs, Qd, Xd, _, _, pr, hc, _⟩ := h
    rw [Paired.length pr]
    exact hl rs n Qd Xd hc
  · obtain ⟨Γ, n, rs, Qd, Xd, rfl, ex, pr, hc, hq, hx⟩ := h
    obtain ⟨T, b, hT⟩ := body cdv A outer s Γ.H0 E Xd hr
    exact body_ok ex pr hq hx b (hT rs n Qd hc)
theorem okCX (F : Fun K x qual st f fd) (S : FnScope N ps (defScope st)) (hl : ∀ rs n Qd Xd, C rs n Qd Xd → rs.length = ps.length)
    (body : ∀ (cdv : Value) (A : Around) (outer : List Env) (s : Shared) (H : Hp) (E : XK) (Xd : XD), Room k (A.deeper (envOfC qual (defScope st) s.heap.objs.size f cdv)) →
      ∃ T, DSs (fun _ : Unit => cxOf (L2.CX P w) P w K mg base N qual (defScope st) f cdv A outer s H E) ⟨E, Xd⟩ (defBody st) T ∧ ∀ rs n Qd, C rs n Qd Xd → T n (dlt N rs) (edOf Qd)) : FnOk P w K mg base (L2.CX P w) (k + 1) f fd ps (spC C) := by
  refine F.okX S (fun vs H Q E h => ?_) (fun cdv A outer s H vs Q E hr h => ?_)
  · obtain ⟨Γ, n, rs, Qd, Xd, _, _, pr, hc, _⟩ := h
    rw [Paired.length pr]
    exact hl rs n Qd Xd hc
  · obtain ⟨Γ, n, rs, Qd, Xd, rfl, ex, pr, hc, hq, hx⟩ := h
    obtain ⟨T, b, hT⟩ := body cdv A outer s Γ.H0 E Xd hr
    exact body_ok ex pr hq hx b (hT rs n Qd hc)
end
section
variable {Γ : Gm} {A A' : Addr → Prop} {H H' : Hp} {σ : L2.St} {δ : List Sl} {n n' : Nat}
/-- behind a call -/
theorem Rel.call (R : Rel Γ σ δ A H n) (ex : Exit ⟨H, A, Γ.p⟩ A' H' n') : Rel Γ σ δ A' H' n' ∧ Mv Γ σ δ A H δ A' H' := by
  have k : Kp A H A' H' := ⟨ex.a0, fun a o h e => ex.fr a o (R.ad a h).2 e⟩
  have os := own_some R.sl
  have same : ∀ a ∈ owns σ δ, H' a = H a := fun a ha => by
    cases q : H a with
    | none => exact absurd q (os a ha)
    | some o => exact ex.fr a o (R.fo a ha).nm q
  refine ⟨⟨slR_kp k same R.sl, R.nd, fun a ha => ⟨(R.fo a ha).h0, fun z => ?_, (R.fo a ha).nm⟩, fun b o m e => ex.fr b o m (R.fr b o m e), fun b h => ex.a0 b (R.a0 b h), ex.ad, fun b h => ?_, ex.inv⟩,
    ⟨ex.a0, fun b o e _ m => ex.fr b o m e, fun b h => (ex.nw b h).imp_right .inl, fun _ h => h, fun b h z => ?_⟩⟩
  · rcases ex.nw a z with z | z
    · exact (R.fo a ha).na z
    · exact os a ha z
  · rcases ex.nw b h with z | z
    · exact R.nw b z
    · exact .inr (R.h0 b z)
  · by_cases m : Γ.M b
    · exact Gm.md ex.inv b m z
    · cases q : H b with
      | none => exact h q
      | some o =>
        have q2 : H' b = some o := ex.fr b o m q
        rw [q2] at z
        cases z
theorem ROut.rel {v : V} {r : Sl} {Hs : Hp} (R : Rel Γ σ δ A H n) (hs : ∀ a, H a = none → Hs a = none) (h : ROut ⟨H, A, Γ.p⟩ A' H' v r) : RRel Γ Hs A' H' σ δ v r := by
  cases r with
  | ro d => exact h
  | own d =>
    obtain ⟨a, e, ho, f⟩ := h
    exact ⟨a, e, ho, fun z => own_some R.sl a z f.h0, ⟨R.h0 a f.h0, f.na, f.nm⟩, hs a f.h0⟩
  | pool => exact h
  | no => exact h
theorem Rel.exit0 (R : Rel Γ σ δ A H n) : Exit ⟨H, A, Γ.p⟩ A H n := ⟨fun _ _ _ e => e, fun _ h => h, R.ad, fun _ h => .inl h, R.inv⟩
theorem Rel.exit (R : Rel Γ σ δ A H n) (ex : Exit ⟨H, A, Γ.p⟩ A' H' n') : Exit Γ A' H' n' := (R.call ex).1.ex
end
section
variable {ι : Type} {X : ι → Cx} {ac : Act}
/-- a call of a def that may let errors out -/
theorem de_callX {C : Ct} {Ts : TAd} {es : List Expr} {e : Expr} (pe : ∀ c {t : TA}, PA (X c) es t → PE (X c) e (tCall (spC C) [] ac.Ex t)) (ha : DA X ac es Ts) : DE X ac e (fun n δ Q => Ts n δ fun rs n' δ' => C rs n' (fun r n2 => Q r n2 δ') ac.Xd) := by
  obtain ⟨t, p, ev⟩ := ha
  refine ⟨_, fun c => pe c (p c), fun Γ gx σ A H n δ Qd Q R hT k => ev Γ gx σ A H n δ _ _ R hT fun vs rs A1 H1 n1 δ1 R1 ra m1 q1 => ?_⟩
  rw [List.append_nil]
  refine ⟨⟨H1, A1, Γ.p⟩, n1, rs, _, ac.Xd, rfl, R1.exit0, ra, q1, fun v r A' H' n' ex ro q => ?_, fun A' H' n' C f d v x ex e1 e2 e3 rp q => ?_⟩
  · obtain ⟨R2, m2⟩ := R1.call ex
    exact k v r A' H' n' δ1 R2 (ro.rel R1 m1.was) (m1.trans m2) q
  · exact gx A' H' n' C f d v x (R1.exit ex) e1 (R1.h0 x e2) e3 rp q
/-- .. that lets none out -/
theorem de_call {C : Ct} {Ts : TAd} {es : List Expr} {e : Expr} {Ec : XK} (pe : ∀ c {t : TA}, PA (X c) es t → PE (X c) e (tCall (spC C) [] Ec t)) (ha : DA X ac es Ts) : DE X ac e (fun n δ Q => Ts n δ fun rs n' δ' => C rs n' (fun r n2 => Q r n2 δ') fun _ _ _ _ => False) := by
  obtain ⟨t, p, ev⟩ := ha
  refine ⟨_, fun c => pe c (p c), fun Γ gx σ A H n δ Qd Q R hT k => ev Γ gx σ A H n δ _ _ R hT fun vs rs A1 H1 n1 δ1 R1 ra m1 q1 => ?_⟩
  rw [List.append_nil]
  refine ⟨⟨H1, A1, Γ.p⟩, n1, rs, _, fun _ _ _ _ => False, rfl, R1.exit0, ra, q1, fun v r A' H' n' ex ro q => ?_, fun A' H' n' C f d v x ex e1 e2 e3 rp q => q.elim⟩
  obtain ⟨R2, m2⟩ := R1.call ex
  exact k v r A' H' n' δ1 R2 (ro.rel R1 m1.was) (m1.trans m2) q
/-- raise X(e) -/
theorem ds_raise {C : Addr} {f : Str} {T : TRd} {e : Expr} {st : Stmt} (ps : ∀ c {t : TE}, PE (X c) e t → PS (X c) st (fun _ σ H => tMkO C (ErrK.spIni C f) [] (tCons t tNil) σ H fun cls d H' => ac.Ex cls d H')) (h : DR X ac e T) :
    DS X ac st (fun n δ _ => T n δ fun d n' _ => ac.Xd C f d n') := by
  obtain ⟨t, p, ev⟩ := h
  refine ⟨_, fun c => ps c (p c), fun Γ gx σ A H n δ D E R s hT => ev Γ gx σ A H n δ _ _ R hT fun v d A1 H1 n1 δ1 R1 r1 m1 q1 => ?_⟩
  refine ErrK.err_end fun x nx => ?_
  have nA : ¬ A1 x := fun z => R1.dom x z nx
  have up : ∀ b o, H1 b = some o → upd H1 x (.xd [(f, v)]) b = some o := fun b o e => by
    rw [upd_ne (ne_of_none e nx)]
    exact e
  refine gx A1 _ n1 C f d v x ⟨fun b o m e => up b o (R1.fr b o m e), R1.a0, fun b h => ⟨fun z => ?_, (R1.ad b h).2⟩, R1.nw, Γ.ist H1 _ n1 (fun b m => upd_ne (fun z => R1.md b m (by rw [z]; exact nx))) (.of (fun _ h => h) fun b o _ e => up b o e) R1.inv⟩ upd_same (R1.h0 x nx) nA (r1.kp (.of (fun _ h => h) fun b o _ e => up b o e)) q1
  cases q : H1 b with
  | none => exact R1.dom b h q
  | some o =>
    rw [up b o q] at z
    cases z
end
end DL
/-! ## DL9 -/
set_option Elab.async false
set_option linter.all false
set_option maxRecDepth 100000
set_option maxHeartbeats 4000000
/-! isinstance, by trees. -/
namespace DL
open PySem PySem.Spec PyProof.Rows L2
variable [Wd]
def tyD : Dt → Option String
  | .non => some "NoneType"
  | .bl _ => some "bool"
  | .int _ => some "int"
  | .str _ => some "str"
  | .lst _ => some "list"
  | .tup _ => some "tuple"
  | .dic _ => some "dict"
  | _ => none
section
variable {K : PySem.W.Frag} {A : Addr → Prop} {H : Hp} {v : V} {d : Dt} {n : String}
theorem tyx_rep (r : Rep A H v d) (e : tyD d = some n) : TyX K H v (.type n) := by
  cases r with
  | non => cases e; exact .base .non
  | bl b => cases e; exact .base (.bl b)
  | int i => cases e; exact .base (.int i)
  | str z => cases e; exact .base (.str z)
  | lst _ h _ => cases e; exact .base (.lst h)
  | tup _ h _ => cases e; exact .base (.tup h)
  | dic _ h _ => cases e; exact .fDict h
  | _ => cases e
theorem tyx_bor (r : Bor A H v d) (e : tyD d = some n) : TyX K H v (.type n) := by
  cases r with
  | rep r => exact tyx_rep r e
  | lst h _ => cases e; exact .base (.lst h)
  | dic h _ => cases e; exact .base (.dK h)
end
/-- isinstance(x, T): also of a held dict of mixed keys -/
def rIsiZ (K : PySem.W.Frag) (w : World) : List V → Hp → VK → Prop := fun xs H Q => rIsi K xs H Q ∨ ∃ a o kvs n b, xs = [.ref a, .ty n] ∧ H a = some (.frz o (K01.MixO w a kvs)) ∧ kitB "dict" n = some b ∧ Q (.bl b) H
omit [Wd] in
theorem call_isiZ {X : Cx} : CallR X (.builtin "isinstance") (rIsiZ X.K X.w) := by
  intro pins s σ H xs us Q I r h
  rcases h with h | ⟨a, o, kvs, n, b, rfl, ha, hb, q⟩
  · exact call_isi pins s σ H xs us Q I r h
  · obtain ⟨u1, u2, rfl, r1, r2⟩ := vals2 r
    cases (show u1 = Value.ref a from r1)
    cases (show u2 = Value.type n from r2)
    obtain ⟨_, ho, hx, _⟩ := K01.frzM I ha
    exact PySem.W.kia_one PySem.W.kitx_dict I.kIn ⟨o, ho, hx.1⟩ (b := b) (kit_ty (K := X.K) hb) (fun z => nomatch z) fun tk => ⟨.bl b, H, I.tok tk, rfl, q⟩
omit [Wd] in
theorem dT {P Q : Prop} (h : P) : dIte true P Q := ⟨fun _ => h, fun z => Bool.noConfusion z⟩
omit [Wd] in
theorem dF {P Q : Prop} (h : Q) : dIte false P Q := ⟨(fun z => Bool.noConfusion z), fun _ => h⟩
omit [Wd] in
theorem dB {b : Bool} {P Q : Prop} (h1 : b = true → P) (h2 : b = false → Q) : dIte b P Q := ⟨h1, h2⟩
def tyZ : Dt → Option String
  | .mix _ => some "dict"
  | d => tyD d
section
variable {ι : Type} {X : ι → Cx} {ac : Act}
theorem dr_isi {K : PySem.W.Frag} (nm : String) {a e : Expr} {Ta : TRd} (pe : ∀ c {t : TE}, PE (X c) a t → PE (X c) e (tCB (rIsiZ K Wd.w) (tCons t (tCons (tC (.ty nm)) tNil)))) (h : DB X ac a Ta) :
    DR X ac e (fun n δ Q => Ta n δ fun d n' δ' => ∃ ty b, tyZ d = some ty ∧ kitB ty nm = some b ∧ Q (.bl b) n' δ') := by
  obtain ⟨t, p, ev⟩ := h
  refine ⟨_, fun c => pe c (p c), fun Γ gx σ A H n δ Qd Q R hT k => ev Γ gx σ A H n δ _ _ R hT fun v d A1 H1 n1 δ1 R1 r1 m1 q1 => ?_⟩
  obtain ⟨ty, b, e1, e2, q⟩ := q1
  have fin := k (.bl b) (.bl b) A1 H1 n1 δ1 R1 (.bl b) m1 q
  cases d with
  | mix ks =>
    cases e1
    cases r1 with
    | rep r =>
      obtain ⟨a, o, es, rfl, _, ha, _⟩ := rep_mix r
      exact .inr ⟨a, o, es, nm, b, rfl, ha, e2, fin⟩
  | _ => exact .inl ⟨v, .ty nm, .type ty, .type nm, b, rfl, .ty nm, tyx_bor r1 e1, kit_ty e2, fin⟩
theorem clsV_all : ∀ (ns : List String), Paired ClsV (ns.map V.ty) (ns.map Value.type)
  | [] => .nil
  | n :: ns => .cons (.ty n) (clsV_all ns)
/-- isinstance(x, (T1, T2, ..)) -/
theorem dr_isiT {K : PySem.W.Frag} (ns : List String) {a e : Expr} {Ta : TRd} {tt : TE} (htt : ∀ σ H Q, (∀ p, H p = none → Q (.ref p) (upd H p (.tup (ns.map V.ty)))) → tt σ H Q) (pe : ∀ c {t : TE}, PE (X c) a t → PE (X c) e (tCB (rIsiT K) (tCons t (tCons tt tNil)))) (h : DB X ac a Ta) :
    DR X ac e (fun n δ Q => Ta n δ fun d n' δ' => ∃ ty b, tyD d = some ty ∧ PySem.W.kitAny K (.type ty) (ns.map Value.type) = some b ∧ Q (.bl b) n' δ') := by
  obtain ⟨t, p, ev⟩ := h
  refine ⟨_, fun c => pe c (p c), fun Γ gx σ A H n δ Qd Q R hT k => ev Γ gx σ A H n δ _ _ R hT fun v d A1 H1 n1 δ1 R1 r1 m1 q1 => htt _ _ _ fun p np => ?_⟩
  obtain ⟨ty, b, e1, e2, q⟩ := q1
  have g : Grow A1 H1 A1 (upd H1 p (.tup (ns.map V.ty))) := .new np R1.dom
  exact ⟨v, p, _, .type ty, _, b, rfl, upd_same, clsV_all ns, tyx_bor (r1.grow g) e1, e2, k (.bl b) (.bl b) A1 _ n1 δ1 (R1.grow g) (.bl b) (m1.trans (.grow g)) q⟩
end
end DL
/-! ## T59 -/
set_option Elab.async false
set_option linter.all false
set_option maxRecDepth 100000
set_option maxHeartbeats 4000000
namespace K59
open PySem PySem.Spec PyProof.Rows L2 DL
abbrev tp (i : Nat) : Stmt := PySem.Challenge.pw_meettasks_k59_jobs_told_and_refused.main.body.getD i (.Pass ⟨0, 0, 0, 0⟩)
abbrev sWord : Stmt := tp 3
abbrev sInteger : Stmt := tp 4
abbrev sIsList : Stmt := tp 5
abbrev sPair : Stmt := tp 6
def isIntD : Dt → Bool
  | .int _ => true
  | _ => false
def isListD : Dt → Bool
  | .lst _ => true
  | .tup _ => true
  | _ => false
variable [Wd]
def cInt : Ct := fun rs n Q _ => ∃ d ty, rs = [.ro d] ∧ tyD d = some ty ∧ Q (.ro (.bl (isIntD d))) n
def cList : Ct := fun rs n Q _ => ∃ d ty, rs = [.ro d] ∧ tyD d = some ty ∧ Q (.ro (.bl (isListD d))) n
section
variable {P : Program} {K : PySem.W.Frag} {mg : Str → Option Value} {base : Heap} {f : Addr} {fd : FuncData}
theorem scInteger : FnScope ["thing"] ["thing"] (defScope sInteger) := ⟨rfl, rfl, rfl, by decide +kernel, rfl, by decide +kernel, by decide +kernel⟩
theorem ty_cases {d : Dt} {ty : String} (h : tyD d = some ty) : (ty = "NoneType" ∧ d = .non) ∨ (ty = "bool" ∧ ∃ b, d = .bl b) ∨ (ty = "int" ∧ ∃ i, d = .int i) ∨ (ty = "str" ∧ ∃ z, d = .str z) ∨ (ty = "list" ∧ ∃ ds, d = .lst ds) ∨ (ty = "tuple" ∧ ∃ ds, d = .tup ds) ∨ (ty = "dict" ∧ ∃ ds, d = .dic ds) := by
  cases d <;> simp [tyD] at h <;> subst h <;> simp
theorem tyZ_of {d : Dt} {ty : String} (h : tyD d = some ty) : tyZ d = some ty := by
  cases d with
  | mix _ => cases h
  | _ => exact h
theorem ok_integer (F : Fun K "is_integer" "is_integer" sInteger f fd) (gI : mg "isinstance" = none) (g1 : mg "int" = none) (g2 : mg "bool" = none) : FnOk P Wd.w K mg base CX0 1 f fd ["thing"] (spC cInt) := by
  refine okC F scInteger (fun rs n Qd Xd h => ?_) (fun cdv A outer s H E Xd hr => ?_)
  · obtain ⟨d, ty, rfl, _⟩ := h
    rfl
  · refine ⟨_, dss_one (ds_ret (de_and (dr_isi (K := K) "int" (fun _ _ h => pe_callB call_isiZ (by rfl) gI (by decide +kernel) (pa_cons h (pa_cons (pe_bltn (v := .ty "int") (by rfl) g1 (by decide +kernel) rfl) pa_nil))) (db_var fun _ => pv 0))
      (de_one (DR.e (dr_not (dr_isi (K := K) "bool" (fun _ _ h => pe_callB call_isiZ (by rfl) gI (by decide +kernel) (pa_cons h (pa_cons (pe_bltn (v := .ty "bool") (by rfl) g2 (by decide +kernel) rfl) pa_nil))) (db_var fun _ => pv 0))))))), fun rs n Qd h => ?_⟩
    obtain ⟨d, ty, rfl, hd, q⟩ := h
    refine ⟨d, .ro d, rfl, rfl, ty, ?_⟩
    rcases ty_cases hd with ⟨rfl, rfl⟩ | ⟨rfl, b, rfl⟩ | ⟨rfl, b, rfl⟩ | ⟨rfl, b, rfl⟩ | ⟨rfl, b, rfl⟩ | ⟨rfl, b, rfl⟩ | ⟨rfl, b, rfl⟩
    · exact ⟨false, rfl, by decide +kernel, false, rfl, dF q⟩
    · exact ⟨true, rfl, by decide +kernel, true, rfl, dT ⟨_, _, rfl, rfl, "bool", true, rfl, by decide +kernel, true, rfl, q⟩⟩
    · exact ⟨true, rfl, by decide +kernel, true, rfl, dT ⟨_, _, rfl, rfl, "int", false, rfl, by decide +kernel, false, rfl, q⟩⟩
    · exact ⟨false, rfl, by decide +kernel, false, rfl, dF q⟩
    · exact ⟨false, rfl, by decide +kernel, false, rfl, dF q⟩
    · exact ⟨false, rfl, by decide +kernel, false, rfl, dF q⟩
    · exact ⟨false, rfl, by decide +kernel, false, rfl, dF q⟩
end
end K59
/-! ## K61T -/
set_option Elab.async false
set_option linter.all false
set_option maxRecDepth 100000
set_option maxHeartbeats 0
/-! The looks at the heap behind the program's own top. -/
namespace K59L
open PySem PySem.Spec PyProof.Rows L2 K59
abbrev R : PySem.W.OpenRow := PySem.W.OpenLaw.row PySem.Challenge.rw_meettasks_k59_jobs_told_and_refused
abbrev q52 : Program := PySem.W.view R.prog [52]
noncomputable abbrev endS (w : World) (os : OsState) : Option PySem.W.SharedT := HandSHeadRun.endF (HandSHeadRun.stepQ (HandSHeadRun.denQ HandSHeadRun.tabQ) R.prog w) 20000 R.prog w os
abbrev G : Type := Addr → Option Obj
def clN : List Str := ["TaskError", "NoThing", "BadNumber", "BadJobs", "NoJob", "BadComings", "Span", "Jobs"]
def meN : List (Str × Str) := [("BadJobs", "__init__"), ("NoJob", "__init__"), ("NoThing", "__init__"), ("BadComings", "__init__"), ("BadNumber", "__init__"), ("Span", "__init__"), ("Jobs", "__init__"), ("Jobs", "__eq__"), ("Jobs", "jobs"), ("Jobs", "cost"), ("Jobs", "ceiling")]
def fuN : List Str := ["is_word", "is_integer", "is_list", "is_pair", "units_of", "is_part", "are_parts", "copied_parts", "spans_in", "is_job", "check_jobs", "known_job", "are_moments", "checked_comings", "done", "answers", "breakdown", "_law_pool", "_law_take", "_law_one", "_law_mixed", "_law_same", "_law_body", "_law_jobs", "_law_units", "_law_handed", "_law_made", "_law_ceilings", "_law_met", "_law_bad_jobs", "_law_bad_comings", "_law_refused"]
def loose : List Str := clN ++ fuN ++ (["LETTERS", "LONGEST_WORD", "Turn", "alike_behind", "ranks_of", "answer_times"] : List Str)
/-! ### addresses by names, off the heap -/
def nmG (g : G) (x : Str) : Addr := match g mainGlobals with
  | some o => (match PySem.W.lookIn x o with
    | some (some (.ref a)) => a
    | _ => 0)
  | none => 0
def nsG (g : G) (C : Addr) : Addr := match g C with
  | some ⟨_, _, .cls cd, _⟩ => cd.ns
  | _ => 0
def mtG (g : G) (C : Addr) (m : Str) : Addr := match g (nsG g C) with
  | some o => (match PySem.W.lookIn m o with
    | some (some (.ref a)) => a
    | _ => 0)
  | none => 0
def cdG (g : G) (f : Addr) : Addr := match g f with
  | some ⟨_, _, .func fd, _⟩ => (match fd.code with
    | .ref c => c
    | _ => 0)
  | _ => 0
def asK (g : G) : List Addr := mainGlobals :: ((clN.flatMap fun x => [nmG g x, nsG g (nmG g x)]) ++ ((meN.flatMap fun p => [mtG g (nmG g p.1) p.2, cdG g (mtG g (nmG g p.1) p.2)]) ++ ((fuN ++ (["law"] : List Str)).flatMap fun x => [nmG g x, cdG g (nmG g x)])))
abbrev KK (g : G) : PySem.W.Frag := He.frG g (asK g)
/-! ### a part of the heap, made a value first -/
def forceF {α : Type} : PySem.W.Frag → (PySem.W.Frag → α) → α
  | [], k => k []
  | (a, o) :: r, k => HandSHeadRun.frNat a fun a => forceF r fun r => k ((a, o) :: r)
theorem forceF_eq {α : Type} : ∀ (K : PySem.W.Frag) (k : PySem.W.Frag → α), forceF K k = k K
  | [], k => rfl
  | (a, o) :: r, k => by
    show HandSHeadRun.frNat a (fun a => forceF r fun r => k ((a, o) :: r)) = _
    rw [HandSHeadRun.frNat_eq, forceF_eq r]
/-! ### facts -/
def dDef (x : Str) (i : Nat) : He.DefD := ⟨(x, none), x, x, defArgs (tp i), defBody (tp i), defScope (tp i), [], []⟩
def dMet (C m q : Str) (i j : Nat) : He.DefD := ⟨(C, some m), m, q, defArgs (inClass (tp i) j), defBody (inClass (tp i) j), defScope (inClass (tp i) j), [], []⟩
def letters0 : Str := "abcdefghijklmnopqrstuvwxyz"
def hfa0 : List He.Fa := [.glo "TaskError", .glo "NoThing", .glo "BadNumber", .glo "BadJobs", .glo "NoJob", .glo "BadComings", .glo "Span", .glo "Jobs"]
def hfa1 : List He.Fa := [.glo "is_word", .glo "is_integer", .glo "is_list", .glo "is_pair", .glo "units_of", .glo "is_part", .glo "are_parts", .glo "copied_parts"]
def hfa2 : List He.Fa := [.glo "spans_in", .glo "is_job", .glo "check_jobs", .glo "known_job", .glo "are_moments", .glo "checked_comings", .glo "done", .glo "answers"]
def hfa3 : List He.Fa := [.glo "breakdown", .glo "_law_pool", .glo "_law_take", .glo "_law_one", .glo "_law_mixed", .glo "_law_same", .glo "_law_body", .glo "_law_jobs"]
def hfa4 : List He.Fa := [.glo "_law_units", .glo "_law_handed", .glo "_law_made", .glo "_law_ceilings", .glo "_law_met", .glo "_law_bad_jobs", .glo "_law_bad_comings", .glo "_law_refused"]
def hfa5 : List He.Fa := [.glo "law", .free "isinstance", .free "str", .free "len", .free "all", .free "list", .free "tuple", .free "set"]
def hfa6 : List He.Fa := [.free "enumerate", .free "dict", .free "sorted", .free "int", .free "sum", .free "abs", .free "range", .free "bool"]
def hfa7 : List He.Fa := [.free "zip", .free "min", .free "max", .int "LONGEST_WORD" 8, .str "LETTERS" letters0, .cls "Jobs", .cls "Span", .noat "Jobs" "_table"]
def hfa8 : List He.Fa := [.noat "Jobs" "_costs", .noat "Jobs" "_ceilings", .noat "Jobs" "spans", .noat "Jobs" "kept", .noat "Span" "path", .noat "Span" "thing", .noat "Span" "first", .noat "Span" "stop"]
def hfa9 : List He.Fa := [.meth "Jobs" "jobs", .meth "Jobs" "cost", .meth "Jobs" "ceiling", .meth "Jobs" "__eq__", .mkr "Jobs", .mkr "Span", .noat "BadJobs" "job", .noat "NoJob" "job"]
def hfa10 : List He.Fa := [.noat "NoThing" "thing", .noat "BadComings" "job", .noat "BadNumber" "number", .exm "BadJobs" "BadJobs" true, .exm "BadJobs" "NoJob" false, .exm "BadJobs" "NoThing" false, .exm "BadJobs" "BadComings" false, .exm "BadJobs" "BadNumber" false]
def hfa11 : List He.Fa := [.exm "NoJob" "BadJobs" false, .exm "NoJob" "NoJob" true, .exm "NoJob" "NoThing" false, .exm "NoJob" "BadComings" false, .exm "NoJob" "BadNumber" false, .exm "NoThing" "BadJobs" false, .exm "NoThing" "NoJob" false, .exm "NoThing" "NoThing" true]
def hfa12 : List He.Fa := [.exm "NoThing" "BadComings" false, .exm "NoThing" "BadNumber" false, .exm "BadComings" "BadJobs" false, .exm "BadComings" "NoJob" false, .exm "BadComings" "NoThing" false, .exm "BadComings" "BadComings" true, .exm "BadComings" "BadNumber" false, .exm "BadNumber" "BadJobs" false]
def hfa13 : List He.Fa := [.exm "BadNumber" "NoJob" false, .exm "BadNumber" "NoThing" false, .exm "BadNumber" "BadComings" false, .exm "BadNumber" "BadNumber" true]
def hfa : List He.Fa := hfa0 ++ (hfa1 ++ (hfa2 ++ (hfa3 ++ (hfa4 ++ (hfa5 ++ (hfa6 ++ (hfa7 ++ (hfa8 ++ (hfa9 ++ (hfa10 ++ (hfa11 ++ (hfa12 ++ (hfa13)))))))))))))
def hfn0 : List He.DefD := [dDef "is_word" 3, dDef "is_integer" 4, dDef "is_list" 5, dDef "is_pair" 6, dDef "units_of" 11, dDef "is_part" 21, dDef "are_parts" 22, dDef "copied_parts" 23]
def hfn1 : List He.DefD := [dDef "spans_in" 25, dDef "is_job" 27, dDef "check_jobs" 28, dDef "known_job" 30, dDef "are_moments" 31, dDef "checked_comings" 32, dDef "done" 33, dDef "answers" 34]
def hfn2 : List He.DefD := [dDef "breakdown" 35, dDef "_law_pool" 37, dDef "_law_take" 38, dDef "_law_one" 39, dDef "_law_mixed" 40, dDef "_law_same" 41, dDef "_law_body" 42, dDef "_law_jobs" 43]
def hfn3 : List He.DefD := [dDef "_law_units" 44, dDef "_law_handed" 45, dDef "_law_made" 46, dDef "_law_ceilings" 47, dDef "_law_met" 48, dDef "_law_bad_jobs" 49, dDef "_law_bad_comings" 50, dDef "_law_refused" 51]
def hfn4 : List He.DefD := [dDef "law" 52, dMet "BadJobs" "__init__" "BadJobs.__init__" 17 0, dMet "NoJob" "__init__" "NoJob.__init__" 18 0, dMet "NoThing" "__init__" "NoThing.__init__" 15 0, dMet "BadComings" "__init__" "BadComings.__init__" 19 0, dMet "BadNumber" "__init__" "BadNumber.__init__" 16 0, dMet "Span" "__init__" "Span.__init__" 24 0, dMet "Jobs" "__init__" "Jobs.__init__" 29 0]
def hfn5 : List He.DefD := [dMet "Jobs" "__eq__" "Jobs.__eq__" 29 1, dMet "Jobs" "jobs" "Jobs.jobs" 29 2, dMet "Jobs" "cost" "Jobs.cost" 29 3, dMet "Jobs" "ceiling" "Jobs.ceiling" 29 4]
def hfn : List He.DefD := hfn0 ++ (hfn1 ++ (hfn2 ++ (hfn3 ++ (hfn4 ++ (hfn5)))))
/-- the class of jobs, its own line and == -/
def thB (K : PySem.W.Frag) (T : Addr) : Bool :=
  decide (PySem.W.mroIn K T (.type "object") = some true) && (PySem.W.notFirst K T (.type "dict") &&
  (He.eqO (PySem.W.findIn K (.ref T) "__class__") (some (some (.builtin "object.__class__"))) && (He.eqO (PySem.W.specialIn K (.builtin "object.__class__") "__get__") (some (some (.builtin "getset_descriptor.__get__"))) &&
  (decide (PySem.W.takesIn K (.builtin "object.__class__") = some true) && (decide (PySem.W.kitOne K (.ref T) (.ref T) = some true) && decide (PySem.W.kitOne K (.type "dict") (.ref T) = some false))))))
/-- an error class with its own __init__ -/
def oexB (K : PySem.W.Frag) (C : Addr) : Bool := match K.lookup C with
  | some ⟨.type "type", _, .cls cd, sl⟩ => (match sl.toList with
    | [_, _, _, _, some (.builtin n), _] => n == "ValueError.__new__" && (!cd.hasDel && (cd.hasDict && (match cd.mro with
      | .ref C' :: bm => C' == C && PySem.HandSPX.refsVE bm
      | _ => false)))
    | _ => false)
  | _ => false
def errB (K : PySem.W.Frag) (C : Addr) : Bool :=
  oexB K C && (He.eqO (PySem.W.findIn K (.ref C) "__setattr__") (some (some (.builtin "object.__setattr__"))) && (decide (PySem.W.subIn K (.ref C) (.type "BaseException") = some true) && (decide (PySem.W.typeIn K (.ref C) = some (.type "type")) && (PySem.W.keepIn K (.ref C) &&
  (L2.xfB K C && (He.eqO (PySem.W.findIn K (.ref C) "__init__") (some (some (.ref (He.ma K C "__init__")))) && decide (PySem.W.typeIn K (.ref (He.ma K C "__init__")) = some (.type "function"))))))))
def errN : List Str := ["BadJobs", "NoJob", "NoThing", "BadComings", "BadNumber"]
/-- the code object of a def and its table -/
def cdK (K : PySem.W.Frag) (f : Addr) : Addr := match K.lookup f with
  | some ⟨_, _, .func fd, _⟩ => (match fd.code with
    | .ref c => c
    | _ => 0)
  | _ => 0
def tbK (K : PySem.W.Frag) (c : Addr) : Addr := match K.lookup c with
  | some ⟨_, _, .fields vs, _⟩ => (match vs.getD 11 .none with
    | .ref p => p
    | _ => 0)
  | _ => 0
def codeB (K : PySem.W.Frag) (f : Addr) : Bool := match K.lookup f with
  | some ⟨_, _, .func fd, _⟩ => (match fd.code with
    | .ref c => c == cdK K f && PySem.W.codeHdIn K c (tbK K c)
    | _ => false)
  | _ => false
def emptyTab : Option Obj → Bool
  | some ⟨.none, none, .fields a, sl⟩ => a.size == 0 && sl.size == 0
  | _ => false
def tabB (g : G) (K : PySem.W.Frag) (x : Str) : Bool := codeB K (He.ga K x) && (emptyTab (g (tbK K (cdK K (He.ga K x)))) && (K.lookup (tbK K (cdK K (He.ga K x)))).isNone)
def exB (g : G) (K : PySem.W.Frag) : Bool := thB K (He.ga K "Jobs") && ((errN.all fun x => errB K (He.ga K x)) && (tabB g K "law" && (tabB g K "_law_refused" && !(tbK K (cdK K (He.ga K "law")) == tbK K (cdK K (He.ga K "_law_refused"))))))
abbrev LkT : Type := Bool × He.AlD
def looks (g : G) : LkT := forceF (KK g) fun K => (exB g K, He.obsD hfa hfn K)
def vals : LkT := (true, He.valD hfn)
end K59L
/-! ## K61S1 -/
set_option Elab.async false
set_option linter.all false
set_option maxRecDepth 100000
set_option maxHeartbeats 0
namespace K59L
open PySem PySem.Spec PyProof.Rows L2 K59
theorem run1 (w : World) : ∀ os : OsState, (endS w os).map (fun s => HandSHeadRun.looksF R.prog (PySem.W.boot_heap w.params) s.abs) = some true := by
  intro os
  kernel_rfl
end K59L
/-! ## K61S2 -/
set_option Elab.async false
set_option linter.all false
set_option maxRecDepth 100000
set_option maxHeartbeats 0
namespace K59L
open PySem PySem.Spec PyProof.Rows L2 K59
theorem run2 (w : World) : ∀ os : OsState, (endS w os).map (fun s => HandSHeadRun.seenQ q52 loose (importedModules R.prog.main.body) (fun s => PySem.W.xlAt q52 [] s && PySem.W.recOk R.toRowW.records s) s.abs) = some (PySem.W.openGood q52 loose) := by
  intro os
  kernel_rfl
end K59L
/-! ## K61SA -/
set_option Elab.async false
set_option linter.all false
set_option maxRecDepth 100000
set_option maxHeartbeats 0
namespace K59L
open PySem PySem.Spec PyProof.Rows L2 K59
theorem runA (w : World) : ∀ os : OsState, (endS w os).map (fun s => looks (HandSHeadRun.getT s)) = some vals := by
  intro os
  kernel_rfl
end K59L
/-! ## DL10 -/
set_option Elab.async false
set_option linter.all false
set_option maxRecDepth 100000
set_option maxHeartbeats 4000000
/-! Lists, tuples: places, lengths, equality, what is made of them. -/
namespace DL
open PySem PySem.Spec PyProof.Rows L2
variable [Wd]
def elemD : Dt → Option (List Dt)
  | .lst ds => some ds
  | .tup ds => some ds
  | _ => none
section
variable {K : PySem.W.Frag} {A : Addr → Prop} {H : Hp} {v : V} {d : Dt} {ds : List Dt}
theorem bor_seq (r : Bor A H v d) (e : elemD d = some ds) : ∃ p xs, v = .ref p ∧ (SqL K H p xs ∨ SqT K H p xs) ∧ Reps A H xs ds := by
  cases r with
  | rep r =>
    cases r with
    | lst _ h r => cases e; exact ⟨_, _, rfl, .inl (SqL.of h), r⟩
    | tup _ h r => cases e; exact ⟨_, _, rfl, .inr (SqT.of h), r⟩
    | _ => cases e
  | lst h r => cases e; exact ⟨_, _, rfl, .inl (SqL.of h), r⟩
  | dic h r => cases e
theorem Reps.atI {xs : List V} {i : Int} {x : Dt} (r : Reps A H xs ds) (e : L2.atI ds i = some x) : ∃ v, L2.atI xs i = some v ∧ Rep A H v x := by
  unfold L2.atI at e ⊢
  rw [r.len]
  cases q : ixN ds.length i with
  | none =>
    rw [q] at e
    cases e
  | some j =>
    rw [q] at e
    exact r.get e
end
section
variable {ι : Type} {X : ι → Cx} {ac : Act}
/-- a[i]: a read already, i any -/
theorem dr_ix {K : PySem.W.Frag} {a i e : Expr} {Ta Ti : TRd} (pe : ∀ c {t ti : TE}, PE (X c) a t → PE (X c) i ti → PE (X c) e (tOp (rIx K) t ti)) (ha : DR X ac a Ta) (hi : DR X ac i Ti) :
    DR X ac e (fun n δ Q => Ta n δ fun d n1 δ1 => Ti n1 δ1 fun di n2 δ2 => ∃ ds k x, elemD d = some ds ∧ di = .int k ∧ L2.atI ds k = some x ∧ Q x n2 δ2) := by
  obtain ⟨t, p, ev⟩ := ha
  obtain ⟨ti, pi, evi⟩ := hi
  refine ⟨_, fun c => pe c (p c) (pi c), fun Γ gx σ A H n δ Qd Q R hT k => ev Γ gx σ A H n δ _ _ R hT fun v d A1 H1 n1 δ1 R1 r1 m1 q1 => evi Γ gx σ A1 H1 n1 δ1 _ _ R1 q1 fun w e A2 H2 n2 δ2 R2 r2 m2 q2 => ?_⟩
  obtain ⟨ds, j, x, e1, rfl, e3, q⟩ := q2
  obtain ⟨p, xs, rfl, sq, rs⟩ := bor_seq (K := K) (Bor.rep (r1.kp (m2.kp R1))) e1
  obtain ⟨u, e4, ru⟩ := rs.atI e3
  have fin := k u x A2 H2 n2 δ2 R2 ru (m1.trans m2) q
  rcases sq with sq | sq
  · exact .inl ⟨p, xs, j, u, rfl, rep_int r2, sq, e4, fin⟩
  · exact .inr (.inl ⟨p, xs, j, u, rfl, rep_int r2, sq, e4, fin⟩)
/-- .. a a name's own, i quiet -/
theorem dr_ixB {K : PySem.W.Frag} {a i e : Expr} {Ta : TRd} {Ti : TQd} (pe : ∀ c {t ti : TE}, PE (X c) a t → PE (X c) i ti → PE (X c) e (tOp (rIx K) t ti)) (ha : DB X ac a Ta) (hi : DQ X ac i Ti) :
    DR X ac e (fun n δ Q => Ta n δ fun d n1 δ1 => Ti δ1 fun di => ∃ ds k x, elemD d = some ds ∧ di = .int k ∧ L2.atI ds k = some x ∧ Q x n1 δ1) := by
  obtain ⟨t, p, ev⟩ := ha
  obtain ⟨ti, pi, evi⟩ := hi
  refine ⟨_, fun c => pe c (p c) (pi c), fun Γ gx σ A H n δ Qd Q R hT k => ev Γ gx σ A H n δ _ _ R hT fun v d A1 H1 n1 δ1 R1 r1 m1 q1 => evi Γ gx σ A1 H1 n1 δ1 _ _ R1 q1 fun w e A2 H2 g r2 q2 => ?_⟩
  obtain ⟨ds, j, x, e1, rfl, e3, q⟩ := q2
  obtain ⟨p, xs, rfl, sq, rs⟩ := bor_seq (K := K) (r1.grow g) e1
  obtain ⟨u, e4, ru⟩ := rs.atI e3
  have fin := k u x A2 H2 n1 δ1 (R1.grow g) ru (m1.trans (.grow g)) q
  rcases sq with sq | sq
  · exact .inl ⟨p, xs, j, u, rfl, rep_int r2, sq, e4, fin⟩
  · exact .inr (.inl ⟨p, xs, j, u, rfl, rep_int r2, sq, e4, fin⟩)
/-! ### len -/
def lenD : Dt → Option Nat
  | .lst ds => some ds.length
  | .tup ds => some ds.length
  | .str z => if z.length ≤ sizeLine then some z.length else none
  | _ => none
theorem dcall_len {K : PySem.W.Frag} : DCallS (fun xs H Q => ∃ x n, xs = [x] ∧ LenV K x H n ∧ Q (.int (n : Nat)) H) (fun d Q => ∃ m, lenD d = some m ∧ Q (.int (m : Nat))) := fun A H v d Qd Q r hF k => by
  obtain ⟨m, e, q⟩ := hF
  cases d with
  | lst ds =>
    cases e
    obtain ⟨p, xs, rfl, sq, rs⟩ := bor_seq (K := K) r rfl
    refine ⟨_, _, rfl, ?_, k _ _ sc_int q⟩
    rcases sq with sq | sq
    · exact .inl ⟨xs, sq, rs.len.symm⟩
    · exact .inr ⟨xs, sq, rs.len.symm⟩
  | tup ds =>
    cases e
    obtain ⟨p, xs, rfl, sq, rs⟩ := bor_seq (K := K) r rfl
    refine ⟨_, _, rfl, ?_, k _ _ sc_int q⟩
    rcases sq with sq | sq
    · exact .inl ⟨xs, sq, rs.len.symm⟩
    · exact .inr ⟨xs, sq, rs.len.symm⟩
  | str z =>
    obtain rfl := r.str
    have e : (if z.length ≤ sizeLine then some z.length else none) = some m := e
    by_cases h : z.length ≤ sizeLine
    · rw [if_pos h] at e
      cases e
      exact ⟨_, _, rfl, ⟨h, rfl⟩, k _ _ sc_int q⟩
    · rw [if_neg h] at e
      cases e
  | _ => cases e
end
/-! ### data: equality at any depth -/
mutual
def datD : Dt → Option PyData
  | .non => some .none
  | .bl b => some (.bool b)
  | .int i => some (.int i)
  | .str z => some (.str z)
  | .lst ds => (datsD ds).map .list
  | .tup ds => (datsD ds).map .tuple
  | _ => none
def datsD : List Dt → Option (List PyData)
  | [] => some []
  | d :: ds => match datD d, datsD ds with
    | some x, some xs => some (x :: xs)
    | _, _ => none
end
mutual
theorem dp_rep {K : PySem.W.Frag} {A : Addr → Prop} {H : Hp} : ∀ {v : V} {d : Dt} {x : PyData}, Rep A H v d → datD d = some x → Dp K H v x
  | _, _, _, .non, e => by simp [datD] at e; subst e; exact .non
  | _, _, _, .bl b, e => by simp [datD] at e; subst e; exact .bl b
  | _, _, _, .int i, e => by simp [datD] at e; subst e; exact .int i
  | _, _, _, .str z, e => by simp [datD] at e; subst e; exact .str z
  | _, _, _, .lst _ h r, e => by
    simp only [datD, Option.map_eq_some_iff] at e
    obtain ⟨xs, e, rfl⟩ := e
    exact .lst (SqL.of h) (dp_reps r e)
  | _, _, _, .tup _ h r, e => by
    simp only [datD, Option.map_eq_some_iff] at e
    obtain ⟨xs, e, rfl⟩ := e
    exact .tup (SqT.of h) (dp_reps r e)
  | _, _, _, .dic _ _ _, e => by simp [datD] at e
  | _, _, _, .mix _ _ _, e => by simp [datD] at e
  | _, _, _, .ins _ _ _, e => by simp [datD] at e
  | _, _, _, .any _, e => by simp [datD] at e
  | _, _, _, .raw _, e => by simp [datD] at e
theorem dp_reps {K : PySem.W.Frag} {A : Addr → Prop} {H : Hp} : ∀ {vs : List V} {ds : List Dt} {xs : List PyData}, Reps A H vs ds → datsD ds = some xs → DpAll K H vs xs
  | _, _, _, .nil, e => by simp [datsD] at e; subst e; exact .nil
  | _, _, _, .cons (d := d) (ds := ds) h r, e => by
    cases e1 : datD d with
    | none => simp [datsD, e1] at e
    | some x =>
      cases e2 : datsD ds with
      | none => simp [datsD, e1, e2] at e
      | some xs =>
        simp [datsD, e1, e2] at e
        subst e
        exact .cons (dp_rep h e1) (dp_reps r e2)
end
theorem dp_bor {K : PySem.W.Frag} {A : Addr → Prop} {H : Hp} {v : V} {d : Dt} {x : PyData} (r : Bor A H v d) (e : datD d = some x) : Dp K H v x := by
  cases r with
  | rep r => exact dp_rep r e
  | lst h r =>
    simp only [datD, Option.map_eq_some_iff] at e
    obtain ⟨xs, e, rfl⟩ := e
    exact .lst (SqL.of h) (dp_reps r e)
  | dic h r => simp [datD] at e
theorem dop_eqD {K : PySem.W.Frag} : DOpS (rEqD K) (fun d e Q => ∃ x y, datD d = some x ∧ datD e = some y ∧ SeqAt.shaped x = true ∧ SeqAt.shaped y = true ∧ Q (.bl (PyData.eqv x y))) := fun A H v w d e Qd Q r1 r2 hF k => by
  obtain ⟨x, y, e1, e2, s1, s2, q⟩ := hF
  exact ⟨x, y, dp_bor r1 e1, dp_bor r2 e2, s1, s2, k _ _ sc_bl q⟩
theorem dop_neD {K : PySem.W.Frag} : DOpS (rNeD K) (fun d e Q => ∃ x y, datD d = some x ∧ datD e = some y ∧ SeqAt.shaped x = true ∧ SeqAt.shaped y = true ∧ Q (.bl (!PyData.eqv x y))) := fun A H v w d e Qd Q r1 r2 hF k => by
  obtain ⟨x, y, e1, e2, s1, s2, q⟩ := hF
  exact ⟨x, y, dp_bor r1 e1, dp_bor r2 e2, s1, s2, k _ _ sc_bl q⟩
/-! ### list(e), tuple(e) -/
section
variable {ι : Type} {X : ι → Cx} {ac : Act}
def rListOf (K : PySem.W.Frag) : List V → Hp → VK → Prop := fun xs H Q => ∃ p ys, xs = [.ref p] ∧ (SqL K H p ys ∨ SqT K H p ys) ∧ ∀ l, H l = none → Q (.ref l) (upd H l (.lst ys))
def rTupleOf (K : PySem.W.Frag) : List V → Hp → VK → Prop := fun xs H Q => ∃ p ys, xs = [.ref p] ∧ ((SqL K H p ys ∧ ∀ l, H l = none → Q (.ref l) (upd H l (.tup ys))) ∨ (SqT K H p ys ∧ Q (.ref p) H))
theorem de_listOf {K : PySem.W.Frag} {a e : Expr} {Ta : TRd} (pe : ∀ c {t : TE}, PE (X c) a t → PE (X c) e (tCB (rListOf K) (tCons t tNil))) (ha : DB X ac a Ta) : DE X ac e (fun n δ Q => Ta n δ fun d n' δ' => ∃ ds, elemD d = some ds ∧ Q (.own (.lst ds)) n' δ') := by
  obtain ⟨t, p, ev⟩ := ha
  refine ⟨_, fun c => pe c (p c), fun Γ gx σ A H n δ Qd Q R hT k => ev Γ gx σ A H n δ _ _ R hT fun v d A1 H1 n1 δ1 R1 r1 m1 q1 => ?_⟩
  obtain ⟨ds, e1, q⟩ := q1
  obtain ⟨p, xs, rfl, sq, rs⟩ := bor_seq (K := K) r1 e1
  refine ⟨p, xs, rfl, sq, fun l nl => ?_⟩
  obtain ⟨g, nA, ho⟩ := new_own nl R1.dom rs
  exact k (.ref l) (.own (.lst ds)) A1 _ n1 δ1 (R1.grow g) (RRel.new R1 g m1.was (fun d e => by cases e) (fun d e => by cases e; exact ⟨l, rfl, nl, nA, ho⟩) (fun e => by cases e) (fun e => by cases e)) (m1.trans (.grow g)) q
theorem dr_tupOf {K : PySem.W.Frag} {a e : Expr} {Ta : TRd} (pe : ∀ c {t : TE}, PE (X c) a t → PE (X c) e (tCB (rTupleOf K) (tCons t tNil))) (ha : DB X ac a Ta) : DR X ac e (fun n δ Q => Ta n δ fun d n' δ' => ∃ ds, elemD d = some ds ∧ Q (.tup ds) n' δ') := by
  obtain ⟨t, p, ev⟩ := ha
  refine ⟨_, fun c => pe c (p c), fun Γ gx σ A H n δ Qd Q R hT k => ev Γ gx σ A H n δ _ _ R hT fun v d A1 H1 n1 δ1 R1 r1 m1 q1 => ?_⟩
  obtain ⟨ds, e1, q⟩ := q1
  have new : ∀ {p : Addr} {xs : List V}, SqL K H1 p xs → Reps A1 H1 xs ds → rTupleOf K [.ref p] H1 Q := fun {p xs} sq rs => ⟨p, xs, rfl, .inl ⟨sq, fun l nl => by
    obtain ⟨g, rp⟩ := new_tup nl R1.dom rs
    exact k (.ref l) (.tup ds) _ _ n1 δ1 (R1.grow g) rp (m1.trans (.grow g)) q⟩⟩
  cases r1 with
  | rep r =>
    cases d with
    | lst _ =>
      cases e1
      obtain ⟨a, xs, rfl, ha, hx, rs⟩ := rep_lst r
      exact new (SqL.of hx) rs
    | tup _ =>
      cases e1
      obtain ⟨a, xs, rfl, ha, hx, rs⟩ := rep_tup r
      exact ⟨a, xs, rfl, .inr ⟨SqT.of hx, k _ _ A1 H1 n1 δ1 R1 r m1 q⟩⟩
    | _ => cases e1
  | lst h rs =>
    cases e1
    exact new (SqL.of h) rs
  | dic h r => cases e1
/-! ### x.pop(i), x a name's own list -/
theorem dr_popAt {K : PySem.W.Frag} {i : Nat} {ie e : Expr} {Ti : TRd} (pe : ∀ c {t : TE}, PE (X c) ie t → PE (X c) e (tBM K "list" rPopAt (tVar i) (tCons t tNil))) (hi : DR X ac ie Ti) :
    DR X ac e (fun n δ Q => (∃ ds, δ[i]? = some (.own (.lst ds))) ∧ Ti n δ fun d n' δ' => ∃ ds j y, d = .int (j : Nat) ∧ δ'[i]? = some (.own (.lst ds)) ∧ ds[j]? = some y ∧ j < 2 ^ 62 ∧ Q y n' (δ'.set i (.own (.lst (ds.eraseIdx j))))) := by
  obtain ⟨t, p, ev⟩ := hi
  refine ⟨_, fun c => pe c (p c), fun Γ gx σ A H n δ Qd Q R hT k => ?_⟩
  obtain ⟨⟨ds0, e0⟩, hT⟩ := hT
  obtain ⟨y0, h1, h2⟩ := slR_get R.sl e0
  obtain ⟨a, rfl, xs0, hx0, _⟩ := slR_own h2
  refine ⟨_, h1, .inl ⟨rfl, _, SqL.of hx0⟩, ev Γ gx σ A H n δ _ _ R hT fun v d A1 H1 n1 δ1 R1 r1 m1 q1 => ?_⟩
  obtain ⟨ds, j, y, rfl, e1, ey, jl, q⟩ := q1
  obtain ⟨y1, h3, h4⟩ := slR_get R1.sl e1
  obtain ⟨a', e2, xs, hx, hr⟩ := slR_own h4
  rw [h1] at h3
  have e3 : some (V.ref a) = some (V.ref a') := (Option.some.inj h3).trans e2
  cases e3
  obtain ⟨_, na, _⟩ := R1.fo a (owns_at h1 e1)
  obtain ⟨w, ew, rw_⟩ := hr.get ey
  have kk : Kp A1 H1 A1 (upd H1 a (.lst (xs.eraseIdx j))) := .of (fun _ h => h) fun b u hb q => by
    rw [upd_ne (neA hb na)]
    exact q
  have jx : j < xs.length := (List.getElem?_eq_some_iff.mp ew).1
  refine ⟨a, xs, j, j, w, rfl, by rw [rep_int r1], hx, by omega, by omega, ?_, ew, k w y A1 _ n1 _ (R1.up (d' := .lst (ds.eraseIdx j)) h1 e1 ⟨_, upd_same, (hr.kp kk).erase j⟩) (rw_.kp kk) (m1.trans ?_) q⟩
  · exact (ixN_seq (show ixN xs.length (j : Int) = some j by unfold ixN; rw [if_pos (by omega), if_pos (by omega)]; simp)).1
  · refine ⟨fun _ h => h, fun b o e nb nm => ?_, fun b h => .inl h, fun b hb => by rw [owns_own e1] at hb; exact hb, fun b hb z => ?_⟩
    · rw [upd_ne (fun z => nb (by rw [z]; exact owns_at h1 e1))]
      exact e
    · by_cases e : b = a
      · rw [e, upd_same] at z
        cases z
      · rw [upd_ne e] at z
        exact hb z
end
end DL
/-! ## DL11 -/
set_option Elab.async false
set_option linter.all false
set_option maxRecDepth 100000
set_option maxHeartbeats 4000000
/-! Equality of data without depth's words; a, b = e, e2; extend; sums of lists. -/
namespace DL
open PySem PySem.Spec PyProof.Rows L2
mutual
def okD : Nat → Dt → Bool
  | _, .non => true
  | _, .bl _ => true
  | _, .int _ => true
  | _, .str z => PyData.canLay0 (.str z)
  | n + 1, .lst ds => okDs n ds
  | n + 1, .tup ds => okDs n ds
  | _, _ => false
def okDs : Nat → List Dt → Bool
  | _, [] => true
  | n, d :: ds => okD n d && okDs n ds
end
mutual
theorem okD_dat : ∀ (d : Dt) (n : Nat), okD n d = true → ∃ x, datD d = some x ∧ x.canLay0 = true ∧ x.depth ≤ n
  | .non, n, h => ⟨.none, by simp [datD], by simp [PyData.canLay0], by simp [PyData.depth]⟩
  | .bl b, n, h => ⟨.bool b, by simp [datD], by simp [PyData.canLay0], by simp [PyData.depth]⟩
  | .int i, n, h => ⟨.int i, by simp [datD], by simp [PyData.canLay0], by simp [PyData.depth]⟩
  | .str z, n, h => ⟨.str z, by simp [datD], by simpa [okD] using h, by simp [PyData.depth]⟩
  | .lst ds, 0, h => by simp [okD] at h
  | .tup ds, 0, h => by simp [okD] at h
  | .lst ds, n + 1, h => by
    obtain ⟨xs, e, c, dp⟩ := okDs_dat ds n (by simpa [okD] using h)
    exact ⟨.list xs, by simp [datD, e], by simpa [PyData.canLay0] using c, by simp [PyData.depth]; exact dp⟩
  | .tup ds, n + 1, h => by
    obtain ⟨xs, e, c, dp⟩ := okDs_dat ds n (by simpa [okD] using h)
    exact ⟨.tuple xs, by simp [datD, e], by simpa [PyData.canLay0] using c, by simp [PyData.depth]; exact dp⟩
  | .dic _, n, h => by simp [okD] at h
  | .mix _, n, h => by simp [okD] at h
  | .ins _ _, n, h => by simp [okD] at h
  | .any, n, h => by simp [okD] at h
  | .raw _, n, h => by simp [okD] at h
  | .set _ _, n, h => by simp [okD] at h
theorem okDs_dat : ∀ (ds : List Dt) (n : Nat), okDs n ds = true → ∃ xs, datsD ds = some xs ∧ PyData.canLayAll0 xs = true ∧ PyData.depthAll xs ≤ n
  | [], n, h => ⟨[], by simp [datsD], by simp [PyData.canLayAll0], by simp [PyData.depthAll]⟩
  | d :: ds, n, h => by
    simp only [okDs, Bool.and_eq_true] at h
    obtain ⟨x, e1, c1, p1⟩ := okD_dat d n h.1
    obtain ⟨xs, e2, c2, p2⟩ := okDs_dat ds n h.2
    exact ⟨x :: xs, by simp [datsD, e1, e2], by simp [PyData.canLayAll0, c1, c2], by simp [PyData.depthAll]; omega⟩
end
theorem okD_shaped {d : Dt} (h : okD 64 d = true) : ∃ x, datD d = some x ∧ SeqAt.shaped x = true := by
  obtain ⟨x, e, c, dp⟩ := okD_dat d 64 h
  exact ⟨x, e, by unfold SeqAt.shaped; rw [c, decide_eq_true dp]; rfl⟩
/-- whether two trees of data are equal -/
def eqD (d e : Dt) : Bool := match datD d, datD e with
  | some x, some y => PyData.eqv x y
  | _, _ => false
theorem eqD_nil {ds : List Dt} (h : okD 64 (.lst ds) = true) : eqD (.lst ds) (.lst []) = ds.isEmpty := by
  obtain ⟨x, e, _⟩ := okD_shaped h
  cases ds with
  | nil => simp [eqD, datD, datsD, PyData.eqv, PyData.eqvAll]
  | cons d r =>
    unfold eqD
    rw [e]
    simp only [datD, Option.map_eq_some_iff] at e
    obtain ⟨xs, e, rfl⟩ := e
    cases xs with
    | nil =>
      cases q : datD d with
      | none => simp [datsD, q] at e
      | some y =>
        cases q2 : datsD r with
        | none => simp [datsD, q, q2] at e
        | some ys => simp [datsD, q, q2] at e
    | cons y ys => simp [datD, datsD, PyData.eqv, PyData.eqvAll]
theorem eqD_str {a b : Str} : eqD (.str a) (.str b) = decide (a = b) := by
  simp [eqD, datD, PyData.eqv]
  rw [Bool.eq_iff_iff, beq_iff_eq, decide_eq_true_iff]
theorem eqD_int {a b : Int} : eqD (.int a) (.int b) = decide (a = b) := by
  simp [eqD, datD, PyData.eqv]
  rw [Bool.eq_iff_iff, beq_iff_eq, decide_eq_true_iff]
variable [Wd]
theorem dop_eq {K : PySem.W.Frag} : DOpS (rEqD K) (fun d e Q => okD 64 d = true ∧ okD 64 e = true ∧ Q (.bl (eqD d e))) := fun A H v w d e Qd Q r1 r2 hF k => by
  obtain ⟨o1, o2, q⟩ := hF
  obtain ⟨x, e1, s1⟩ := okD_shaped o1
  obtain ⟨y, e2, s2⟩ := okD_shaped o2
  refine dop_eqD A H v w d e Qd Q r1 r2 ⟨x, y, e1, e2, s1, s2, ?_⟩ k
  unfold eqD at q
  rw [e1, e2] at q
  exact q
theorem dop_ne {K : PySem.W.Frag} : DOpS (rNeD K) (fun d e Q => okD 64 d = true ∧ okD 64 e = true ∧ Q (.bl (!eqD d e))) := fun A H v w d e Qd Q r1 r2 hF k => by
  obtain ⟨o1, o2, q⟩ := hF
  obtain ⟨x, e1, s1⟩ := okD_shaped o1
  obtain ⟨y, e2, s2⟩ := okD_shaped o2
  refine dop_neD A H v w d e Qd Q r1 r2 ⟨x, y, e1, e2, s1, s2, ?_⟩ k
  unfold eqD at q
  rw [e1, e2] at q
  exact q
section
variable {ι : Type} {X : ι → Cx} {ac : Act}
/-- a, b = e, e2 -/
theorem ds_par {i j : Nat} {e e2 : Expr} {T T2 : TEd} {st : Stmt} (ps : ∀ c {t : TA}, PA (X c) [e, e2] t → PS (X c) st (tPar i j t)) (h1 : DE X ac e T) (h2 : DE X ac e2 T2) (hs : ∀ c, starEach [e, e2] (X c).env = (false, eval e (X c).env) :: starEach [e2] (X c).env := by intro _; rfl) (hs2 : ∀ c, starEach [e2] (X c).env = (false, eval e2 (X c).env) :: starEach [] (X c).env := by intro _; rfl) :
    DS X ac st (fun n δ E => T n δ fun r n1 δ1 => T2 n1 δ1 fun r2 n2 δ2 => E.nx n2 ((δ2.set i r).set j r2)) := by
  obtain ⟨t, p, ev⟩ := h1
  obtain ⟨t2, p2, ev2⟩ := h2
  refine ⟨_, fun c => ps c (pa_cons (p c) (pa_cons (p2 c) pa_nil (hs2 c)) (hs c)), fun Γ gx σ A H n δ D E R s hT => ev Γ gx σ A H n δ _ _ R hT fun v r A1 H1 n1 δ1 R1 r1 m1 q1 => ev2 Γ gx σ A1 H1 n1 δ1 _ _ R1 q1 fun w rr A2 H2 n2 δ2 R2 r2 m2 q2 => ?_⟩
  have first : RRel Γ H A2 H2 σ δ2 v r := by
    cases r with
    | ro d => exact Rep.kp (m2.kp R1) r1
    | own d =>
      obtain ⟨a, rfl, ho, no, f, na⟩ := r1
      obtain ⟨o, eo⟩ : ∃ o, H1 a = some o := Option.ne_none_iff_exists'.mp ho.some
      obtain ⟨f2, no2, e2⟩ := m2.free f no eo
      exact ⟨a, rfl, ho.kp (m2.kp R1) (e2.trans eo.symm), no2, f2, na⟩
    | pool => exact r1
    | no => exact r1.elim
  have R3 := R2.set (i := i) first
  refine ⟨v, w, rfl, s.nx _ _ A2 H2 n2 (R3.set (Hs := H1) (i := j) ?_) ((m1.trans m2).kp R) q2⟩
  cases rr with
  | ro d => exact r2
  | pool => exact r2
  | no => exact r2.elim
  | own d =>
    obtain ⟨a, rfl, ho, no, f, na⟩ := r2
    refine ⟨a, rfl, ho, fun z => ?_, f, na⟩
    obtain ⟨_, o2⟩ := owns_set (i := i) (v := v) (s := r) (fun b d e1 e2 => by
      subst e2
      obtain ⟨b', e3, _, h3, _⟩ := first
      rw [e1] at e3
      cases e3
      exact h3) R2.nd
    rcases o2 a z with z | ⟨d', e1, e2⟩
    · exact no z
    · subst e1 e2
      obtain ⟨b', e3, ho', _⟩ := r1
      cases e3
      exact ho'.some na
/-- x.extend(e), x a name's own list -/
theorem ds_extend {K : PySem.W.Frag} {i : Nat} {e : Expr} {T : TRd} {st : Stmt} (ps : ∀ c {t : TE}, PE (X c) e t → PS (X c) st (tDrop (tBM K "list" rExtend (tVar i) (tCons t tNil)))) (h : DR X ac e T) :
    DS X ac st (fun n δ E => (∃ ds, δ[i]? = some (.own (.lst ds))) ∧ T n δ fun d n' δ' => ∃ ds es, d = .lst es ∧ δ'[i]? = some (.own (.lst ds)) ∧ ds.length + es.length ≤ sizeLine ∧ E.nx n' (δ'.set i (.own (.lst (ds ++ es))))) := by
  obtain ⟨t, p, ev⟩ := h
  refine ⟨_, fun c => ps c (p c), fun Γ gx σ A H n δ D E R s h => ?_⟩
  obtain ⟨⟨ds0, e0⟩, h⟩ := h
  obtain ⟨y, h1, h2⟩ := slR_get R.sl e0
  obtain ⟨a, rfl, xs0, hx0, _⟩ := slR_own h2
  refine ⟨_, h1, .inl ⟨rfl, _, SqL.of hx0⟩, ev Γ gx σ A H n δ _ _ R h fun v d A1 H1 n1 δ1 R1 r1 m1 q1 => ?_⟩
  obtain ⟨ds, es, rfl, e1, hl, q1⟩ := q1
  obtain ⟨y1, h3, h4⟩ := slR_get R1.sl e1
  obtain ⟨a', e2, xs, hx, hr⟩ := slR_own h4
  rw [h1] at h3
  have e3 : some (V.ref a) = some (V.ref a') := (Option.some.inj h3).trans e2
  cases e3
  obtain ⟨b, zs, rfl, hb, hz, rz⟩ := rep_lst r1
  obtain ⟨_, na, _⟩ := R1.fo a (owns_at h1 e1)
  have k : Kp A1 H1 A1 (upd H1 a (.lst (xs ++ zs))) := .of (fun _ h => h) fun b u hb q => by
    rw [upd_ne (neA hb na)]
    exact q
  exact ⟨a, b, xs, zs, rfl, rfl, hx, hz, by rw [hr.len, rz.len]; exact hl, s.nx _ _ A1 _ n1 (R1.up (d' := .lst (ds ++ es)) h1 e1 ⟨_, upd_same, (hr.kp k).app (rz.kp k)⟩) ((m1.kp R).trans k) q1⟩
theorem dop_cat : DOp rCat (fun d e Q => ∃ ds es, d = .lst ds ∧ e = .lst es ∧ ds.length + es.length ≤ sizeLine ∧ Q (.own (.lst (ds ++ es)))) := fun A H v w d e Qd Q hA r1 r2 hF k => by
  obtain ⟨ds, es, rfl, rfl, hl, q⟩ := hF
  obtain ⟨a, xs, rfl, ha, hx, rx⟩ := rep_lst r1
  obtain ⟨b, ys, rfl, hb, hy, ry⟩ := rep_lst r2
  exact ⟨a, b, xs, ys, rfl, rfl, hx, hy, by rw [rx.len, ry.len]; exact hl, fun p np => k.own hA np (rx.app ry) q⟩
end
end DL
/-! ## DL12 -/
set_option Elab.async false
set_option linter.all false
set_option maxRecDepth 100000
set_option maxHeartbeats 4000000
/-! Walks over a list or a tuple; all(..); numbers compared. -/
namespace DL
open PySem PySem.Spec PyProof.Rows L2
section
variable {X : Cx} {tg : Expr}
def iSeq (K : PySem.W.Frag) (tl : TE) : TI := fun σ H R => tl σ H fun x H1 => ∃ a, x = .ref a ∧ ((∃ xs, SqL K H1 a xs ∧ R (Itl K a) H1) ∨ ∃ xs, SqT K H1 a xs ∧ R (Itt K a) H1)
/-- a list or a tuple -/
theorem pi_seq {l : Expr} {tl : TE} (hl : PE X l tl) : PI X tg l (iSeq X.K tl) := by
  refine ⟨fun pins s σ H R I h => ?_⟩
  refine thn (hl.run pins s σ H _ I h) fun v s1 ⟨x, H1, I1, r1, q1⟩ => ?_
  obtain ⟨a, e, q⟩ := q1
  subst e
  cases r1
  have fp : ∀ b ∈ [s1.heap.objs.size], FpOk X pins H1 b := fun b hb => by
    have e : b = s1.heap.objs.size := by simpa using hb
    subst e
    exact I1.fpOk (Nat.le_refl _) (I1.hok.fresh (Nat.le_refl _))
  rcases q with ⟨xs, hq, q⟩ | ⟨xs, hq, q⟩
  · obtain ⟨its, rv, p, hz⟩ := I1.list hq
    refine wpAny_pyIter_list p.isList ?_
    exact ⟨s1.heap.objs.size, [s1.heap.objs.size], _, _, H1, rfl, I1.kept (t' := s1.toks) fun b o e => Heap.get?_push_of_some _ e, turn_list a _, ⟨_, Heap.get?_push_size _ rfl, rfl, rfl⟩, fp, q⟩
  · obtain ⟨its, rv, p, hz⟩ := I1.tuple hq
    refine wpAny_pyIter_tuple (show s1.heap.IsTuple a its.toArray from p) ?_
    exact ⟨s1.heap.objs.size, [s1.heap.objs.size], _, _, H1, rfl, I1.kept (t' := s1.toks) fun b o e => Heap.get?_push_of_some _ e, turn_tuple a _, ⟨_, Heap.get?_push_size _ rfl, rfl, rfl⟩, fp, q⟩
end
/-- a comprehension, item by item: J by the items left, what was made so far, the draws, the slots -/
theorem dLc_go {vs : List Nat} {G : TGd} {Tt : TTd} {Te : TRd} {Q : List Dt → Nat → List Sl → Prop} (J : List Dt → List Dt → Nat → List Sl → Prop) (hn : ∀ acc n δ, J [] acc n δ → Q acc n δ)
    (hs : ∀ d ds acc n δ (R : List Dt → Nat → List Sl → Prop), (∀ acc n δ, J ds acc n δ → R acc n δ) → J (d :: ds) acc n δ → G d δ fun δ2 => Tt n δ2 fun b n3 δ3 => dIte b (Te n3 δ3 fun y n4 δ4 => acc.length < sizeLine ∧ R (acc ++ [y]) n4 (dwipe δ4 vs)) (R acc n3 (dwipe δ3 vs))) :
    ∀ {ds acc : List Dt} {n : Nat} {δ : List Sl}, J ds acc n δ → dLc vs G Tt Te ds acc n δ Q
  | [], acc, n, δ, h => hn acc n δ h
  | d :: ds, acc, n, δ, h => hs d ds acc n δ (fun acc n δ => dLc vs G Tt Te ds acc n δ Q) (fun acc n δ h => dLc_go J hn hs h) h
/-- for: the same -/
theorem dFor_go {G : TGd} {Tb : TSd} {E : ED} (J : List Dt → Nat → List Sl → Prop) (hn : ∀ n δ, J [] n δ → E.nx n δ)
    (hs : ∀ d ds n δ (R : Nat → List Sl → Prop), (∀ n δ, J ds n δ → R n δ) → J (d :: ds) n δ → G d δ fun δ1 => Tb n δ1 { nx := R, ct := R, bk := E.nx, rt := E.rt }) :
    ∀ {ds : List Dt} {n : Nat} {δ : List Sl}, J ds n δ → dFor G Tb ds n δ E
  | [], n, δ, h => hn n δ h
  | d :: ds, n, δ, h => hs d ds n δ (fun n δ => dFor G Tb ds n δ E) (fun n δ h => dFor_go J hn hs h) h
variable [Wd]
section
variable {ι : Type} {X : ι → Cx} {ac : Act}
theorem di_seq {K : PySem.W.Frag} {tg e : Expr} {T : TRd} (h : DR X ac e T) (pi : ∀ c {t : TE}, PE (X c) e t → PI (X c) tg e (iSeq K t)) : DI X ac tg e (fun n δ Q => T n δ fun d n' δ' => ∃ ds, elemD d = some ds ∧ Q ds n' δ') := by
  obtain ⟨t, p, ev⟩ := h
  refine ⟨_, fun c => pi c (p c), fun Γ gx σ A H n δ Qd R0 R hT k => ev Γ gx σ A H n δ _ _ R hT fun v d A' H' n' δ' R' r m q => ?_⟩
  obtain ⟨ds, e, q⟩ := q
  cases d with
  | lst _ =>
    cases e
    obtain ⟨a, xs, rfl, ha, hx, rs⟩ := rep_lst r
    exact ⟨a, rfl, .inl ⟨xs, SqL.of hx, k _ ds A' H' n' δ' R' (isIt_list ha hx rs) m q⟩⟩
  | tup _ =>
    cases e
    obtain ⟨a, xs, rfl, ha, hx, rs⟩ := rep_tup r
    exact ⟨a, rfl, .inr ⟨xs, SqT.of hx, k _ ds A' H' n' δ' R' (isIt_tup ha hx rs) m q⟩⟩
  | _ => cases e
theorem reps_bl {A : Addr → Prop} {H : Hp} : ∀ {bs : List Bool} {xs : List V}, Reps A H xs (bs.map Dt.bl) → xs = bs.map V.bl
  | [], _, h => by cases h; rfl
  | b :: bs, _, h => by
    cases h with
    | cons r t =>
      rw [rep_bl r, reps_bl t]
      rfl
theorem dcall_all {K : PySem.W.Frag} : DCallS (rAll K) (fun d Q => ∃ bs : List Bool, d = .lst (bs.map Dt.bl) ∧ Q (.bl (bs.all id))) := fun A H v d Qd Q r hF k => by
  obtain ⟨bs, rfl, q⟩ := hF
  obtain ⟨p, xs, rfl, sq, rs⟩ := bor_seq (K := K) r rfl
  refine ⟨p, bs, rfl, ?_, k _ _ sc_bl q⟩
  rw [← reps_bl rs]
  cases r with
  | rep r =>
    obtain ⟨a, ys, e, ha, hx, ry⟩ := rep_lst r
    cases e
    rw [reps_bl rs, ← reps_bl ry]
    exact SqL.of hx
  | lst h ry =>
    rw [reps_bl rs, ← reps_bl ry]
    exact SqL.of h
/-- x in ts, texts -/
theorem reps_strs {A : Addr → Prop} {H : Hp} : ∀ {ts : List Str} {xs : List V}, Reps A H xs (ts.map Dt.str) → xs = ts.map V.str
  | [], _, h => by cases h; rfl
  | b :: bs, _, h => by
    cases h with
    | cons r t =>
      rw [rep_str r, reps_strs t]
      rfl
theorem inV_strs {z : Str} : ∀ {ts : List Str}, inV (.str z) (ts.map V.str) = decide (z ∈ ts)
  | [] => by simp [inV]
  | t :: ts => by
    have ih := inV_strs (z := z) (ts := ts)
    unfold inV at ih ⊢
    rw [List.map_cons, List.any_cons, ih]
    show ((t == z) || _) = _
    by_cases q : t = z
    · subst q
      simp
    · have e1 : (t == z) = false := beq_eq_false_iff_ne.mpr q
      have e2 : (z ∈ t :: ts) ↔ z ∈ ts := ⟨fun h => (List.mem_cons.mp h).resolve_left fun e => q e.symm, List.mem_cons_of_mem _⟩
      rw [e1, Bool.false_or, decide_eq_decide]
      exact e2.symm
theorem flat_strs {ts : List Str} : (ts.map V.str).all flatV = true := by
  rw [List.all_map, List.all_eq_true]
  intro x _
  rfl
theorem dop_in {K : PySem.W.Frag} : DOpS (rIn K false) (fun d e Q => ∃ (z : Str) (ts : List Str), d = .str z ∧ elemD e = some (ts.map Dt.str) ∧ Q (.bl (decide (z ∈ ts)))) := fun A H v w d e Qd Q r1 r2 hF k => by
  obtain ⟨z, ts, rfl, e2, q⟩ := hF
  obtain ⟨p, xs, rfl, sq, rs⟩ := bor_seq (K := K) r2 e2
  rw [reps_strs rs] at sq
  refine ⟨p, _, rfl, sq, by rw [r1.str]; rfl, flat_strs, ?_⟩
  rw [r1.str]
  show Q (.bl (inV (.str z) (ts.map V.str))) H
  rw [inV_strs]
  exact k _ _ sc_bl q
/-- two ints, an operator that gives a truth, a number -/
theorem dop_i {r : R2} {g : Int → Int → V} {gd : Int → Int → Dt} (hr : r = rI0 g) (hg : ∀ i j, Sc (g i j) (gd i j)) : DOpS r (fun d e Q => ∃ i j, d = .int i ∧ e = .int j ∧ Q (gd i j)) := by
  subst hr
  exact dop_int0 (fun x y H Q h => h) hg
end
end DL
/-! ## DL13 -/
set_option Elab.async false
set_option linter.all false
set_option maxRecDepth 100000
set_option maxHeartbeats 4000000
/-! Ints compared by ==, !=; lists many times, tuples joined. -/
namespace DL
open PySem PySem.Spec PyProof.Rows L2
variable [Wd]
theorem dop_eqI : DOpS rEq (fun d e Q => ∃ i j, d = .int i ∧ e = .int j ∧ Q (.bl (decide (i = j)))) := fun A H v w d e Qd Q r1 r2 hF k => by
  obtain ⟨i, j, rfl, rfl, q⟩ := hF
  refine ⟨by rw [r1.int, r2.int]; rfl, ?_⟩
  rw [r1.int, r2.int]
  have e : (V.bl (decide (V.int i = V.int j))) = .bl (decide (i = j)) := by congr 1; simp
  rw [e]
  exact k _ _ sc_bl q
theorem dop_neI : DOpS rNe (fun d e Q => ∃ i j, d = .int i ∧ e = .int j ∧ Q (.bl (!decide (i = j)))) := fun A H v w d e Qd Q r1 r2 hF k => by
  obtain ⟨i, j, rfl, rfl, q⟩ := hF
  refine ⟨by rw [r1.int, r2.int]; rfl, ?_⟩
  rw [r1.int, r2.int]
  have e : (V.bl (!decide (V.int i = V.int j))) = .bl (!decide (i = j)) := by congr 2; simp
  rw [e]
  exact k _ _ sc_bl q
theorem dop_eqB : DOpS rEq (fun d e Q => ∃ i j, d = .bl i ∧ e = .bl j ∧ Q (.bl (i == j))) := fun A H v w d e Qd Q r1 r2 hF k => by
  obtain ⟨i, j, rfl, rfl, q⟩ := hF
  refine ⟨by rw [r1.bl, r2.bl]; rfl, ?_⟩
  rw [r1.bl, r2.bl]
  have e : (V.bl (decide (V.bl i = V.bl j))) = .bl (i == j) := by cases i <;> cases j <;> rfl
  rw [e]
  exact k _ _ sc_bl q
theorem dop_neB : DOpS rNe (fun d e Q => ∃ i j, d = .bl i ∧ e = .bl j ∧ Q (.bl (!(i == j)))) := fun A H v w d e Qd Q r1 r2 hF k => by
  obtain ⟨i, j, rfl, rfl, q⟩ := hF
  refine ⟨by rw [r1.bl, r2.bl]; rfl, ?_⟩
  rw [r1.bl, r2.bl]
  have e : (V.bl (!decide (V.bl i = V.bl j))) = .bl (!(i == j)) := by cases i <;> cases j <;> rfl
  rw [e]
  exact k _ _ sc_bl q
/-- [a] * k, of one item -/
theorem dop_rep : DOp rRep (fun d e Q => ∃ (x : Dt) (i : Int), d = .lst [x] ∧ e = .int i ∧ -(2 ^ 63) ≤ i ∧ i < 2 ^ 63 ∧ i.toNat ≤ sizeLine ∧ Q (.own (.lst (List.replicate i.toNat x)))) := fun A H v w d e Qd Q hA r1 r2 hF k => by
  obtain ⟨x, i, rfl, rfl, b1, b2, hl, q⟩ := hF
  obtain ⟨a, xs, rfl, ha, hx, rx⟩ := rep_lst r1
  cases rx with
  | cons rx rn =>
    cases rn
    rename_i u
    refine ⟨a, i, [u], rfl, rep_int r2, hx, b1, b2, by simpa using hl, fun p np => ?_⟩
    have e : (List.replicate i.toNat [u]).flatten = List.replicate i.toNat u := by
      generalize i.toNat = m
      induction m with
      | zero => rfl
      | succ m ih => rw [List.replicate_succ, List.flatten_cons, ih]; rfl
    rw [e]
    refine k.own hA np ?_ q
    generalize i.toNat = m
    induction m with
    | zero => exact .nil
    | succ m ih => exact .cons rx ih
/-- a + b, tuples -/
theorem dop_catT {K : PySem.W.Frag} : DOp (rCatT K) (fun d e Q => ∃ ds es, d = .tup ds ∧ e = .tup es ∧ ds ≠ [] ∧ es ≠ [] ∧ ds.length + es.length ≤ sizeLine ∧ Q (.ro (.tup (ds ++ es)))) := fun A H v w d e Qd Q hA r1 r2 hF k => by
  obtain ⟨ds, es, rfl, rfl, n1, n2, hl, q⟩ := hF
  obtain ⟨a, xs, rfl, ha, hx, rx⟩ := rep_tup r1
  obtain ⟨b, ys, rfl, hb, hy, ry⟩ := rep_tup r2
  refine ⟨a, b, xs, ys, rfl, rfl, SqT.of hx, SqT.of hy, fun z => ?_, by rw [rx.len, ry.len]; exact hl, fun z => ?_, fun _ p np => k.tup hA np (rx.app ry) q⟩
  · have e := rx.len
    rw [z] at e
    cases ds with
    | nil => exact n1 rfl
    | cons _ _ => cases e
  · have e := ry.len
    rw [z] at e
    cases es with
    | nil => exact absurd rfl n2
    | cons _ _ => cases e
/-- a + b, tuples, of any length -/
theorem dop_catA {K : PySem.W.Frag} : DOp (rCatA K) (fun d e Q => ∃ ds es, d = .tup ds ∧ e = .tup es ∧ ds.length + es.length ≤ sizeLine ∧ Q (.ro (.tup (ds ++ es)))) := fun A H v w d e Qd Q hA r1 r2 hF k => by
  obtain ⟨ds, es, rfl, rfl, hl, q⟩ := hF
  obtain ⟨a, xs, rfl, ha, hx, rx⟩ := rep_tup r1
  obtain ⟨b, ys, rfl, hb, hy, ry⟩ := rep_tup r2
  refine ⟨a, b, xs, ys, rfl, rfl, SqT.of hx, SqT.of hy, by rw [rx.len, ry.len]; exact hl, fun z => ?_, fun _ z => ?_, fun _ _ p np => k.tup hA np (rx.app ry) q⟩
  · subst z
    cases rx
    exact k.sc hA r2 q
  · subst z
    cases ry
    rw [List.append_nil] at q
    exact k.sc hA r1 q
/-- int(e) of an int -/
theorem dcall_int1 : DCallS (fun xs H Q => (∃ i, xs = [.int i] ∧ Q (.int i) H) ∨ ∃ b, xs = [.bl b] ∧ Q (.int (b2i b)) H) (fun d Q => (∃ i, d = .int i ∧ Q (.int i)) ∨ ∃ b, d = .bl b ∧ Q (.int (b2i b))) := fun A H v d Qd Q r hF k => by
  rcases hF with ⟨i, rfl, q⟩ | ⟨b, rfl, q⟩
  · exact .inl ⟨i, by rw [r.int], k _ _ sc_int q⟩
  · exact .inr ⟨b, by rw [r.bl], k _ _ sc_int q⟩
end DL
/-! ## DL14 -/
set_option Elab.async false
set_option linter.all false
set_option maxRecDepth 100000
set_option maxHeartbeats 4000000
/-! A name's own is read from now on. -/
namespace DL
open PySem PySem.Spec PyProof.Rows L2
variable [Wd]
section
variable {Γ : Gm} {A : Addr → Prop} {H : Hp} {σ : L2.St} {δ : List Sl} {n i : Nat} {a : Addr}
theorem set_at {α : Type} {xs : List α} {i : Nat} {x : α} (h : xs[i]? = some x) : xs.set i x = xs := by
  obtain ⟨hl, e⟩ := List.getElem?_eq_some_iff.mp h
  subst e
  simp
/-- a slot that holds a tree of A -/
theorem Rel.into {d : Dt} {H' : Hp} {A' : Addr → Prop} (R : Rel Γ σ (δ.set i .no) A' H' n) (e : σ[i]? = some (some (.ref a))) (r : Rep A' H' (.ref a) d) : Rel Γ σ (δ.set i (.ro d)) A' H' n := by
  have R2 := R.set (Hs := H') (i := i) (v := .ref a) (r := .ro d) r
  rw [List.set_set, set_at e] at R2
  exact R2
end
section
variable {ι : Type} {X : ι → Cx} {ac : Act}
/-- a name's own list -/
theorem dr_rel {i : Nat} {x : Str} {pos : Pos} (h : ∀ c, PE (X c) (.Name x pos) (tVar i)) : DR X ac (.Name x pos) (fun n δ Q => ∃ ds, δ[i]? = some (.own (.lst ds)) ∧ Q (.lst ds) n (δ.set i (.ro (.lst ds)))) := by
  refine ⟨_, h, fun Γ gx σ A H n δ Qd Q R hT k => ?_⟩
  obtain ⟨ds, e, q⟩ := hT
  obtain ⟨y, h1, h2⟩ := slR_get R.sl e
  obtain ⟨a, rfl, ho⟩ := slR_own h2
  have ha := owns_at h1 e
  have f := R.fo a ha
  obtain ⟨_, o2, o3⟩ := owns_no (σ := σ) (δ := δ) (i := i) R.nd
  obtain ⟨R2, rp, kp⟩ := (R.no (i := i)).let_ ho (o3 a _ h1 e) f
  refine ⟨_, h1, k _ _ _ H n _ (Rel.into (d := .lst ds) R2 h1 rp) rp ⟨fun b h => .inl h, fun _ _ e _ _ => e, fun b h => ?_, fun b hb => ?_, fun _ h => h⟩ q⟩
  · rcases h with h | rfl
    · exact .inl h
    · exact .inr (.inr (.inl ha))
  · have e2 : owns σ (δ.set i (.ro (.lst ds))) = owns (σ.set i (some (.ref a))) (δ.set i (.ro (.lst ds))) := by rw [set_at h1]
    rw [e2] at hb
    obtain ⟨_, o4⟩ := owns_set (i := i) (v := .ref a) (s := .ro (.lst ds)) (fun a d e1 e2 => by cases e2) R.nd
    rcases o4 b hb with z | ⟨_, _, z⟩
    · exact z
    · cases z
/-- a name's own dict: held fast -/
theorem dr_relZ {i : Nat} {x : Str} {pos : Pos} (h : ∀ c, PE (X c) (.Name x pos) (tVar i)) : DR X ac (.Name x pos) (fun n δ Q => ∃ ks, δ[i]? = some (.own (.dic ks)) ∧ Q (.dic ks) n (δ.set i (.ro (.dic ks)))) := by
  refine ⟨frzT (tVar i), fun c => K01.pe_frz (h c), fun Γ gx σ A H n δ Qd Q R hT k => ?_⟩
  obtain ⟨ks, e, q⟩ := hT
  obtain ⟨y, h1, h2⟩ := slR_get R.sl e
  obtain ⟨a, rfl, es, he, hr⟩ := slR_own h2
  have ha := owns_at h1 e
  have f := R.fo a ha
  obtain ⟨_, o2, o3⟩ := owns_no (σ := σ) (δ := δ) (i := i) R.nd
  refine ⟨_, h1, a, _, he, trivial, fun od => ?_⟩
  obtain ⟨R2, rp⟩ := (R.no (i := i)).held (od := od) he hr (o3 a _ h1 e) f
  refine k _ _ _ _ n _ (Rel.into (d := .dic ks) R2 h1 rp) rp ⟨fun b h => .inl h, fun b o e nb _ => ?_, fun b h => ?_, fun b hb => ?_, fun b hb z => ?_⟩ q
  · rw [upd_ne (fun z => nb (by rw [z]; exact ha))]
    exact e
  · rcases h with h | rfl
    · exact .inl h
    · exact .inr (.inr (.inl ha))
  · have e2 : owns σ (δ.set i (.ro (.dic ks))) = owns (σ.set i (some (.ref a))) (δ.set i (.ro (.dic ks))) := by rw [set_at h1]
    rw [e2] at hb
    obtain ⟨_, o4⟩ := owns_set (i := i) (v := .ref a) (s := .ro (.dic ks)) (fun a d e1 e2 => by cases e2) R.nd
    rcases o4 b hb with z | ⟨_, _, z⟩
    · exact z
    · cases z
  · by_cases q : b = a
    · rw [q, upd_same] at z
      cases z
    · rw [upd_ne q] at z
      exact hb z
end
end DL
/-! ## DL15 -/
set_option Elab.async false
set_option linter.all false
set_option maxRecDepth 100000
set_option maxHeartbeats 4000000
/-! zip of lists or tuples; empty dicts are equal. -/
namespace DL
open PySem PySem.Spec PyProof.Rows L2 RZ
theorem walk_zipT {K : PySem.W.Frag} {a b : Addr} {xs ys : List V} {n : Nat} (hn : n = min xs.length ys.length) : Walk (ItzT K a b) n (fun H => SqT K H a xs ∧ SqT K H b ys) (YPair (fun i => xs[i]?) (fun i => ys[i]?)) := by
  subst hn
  refine ⟨fun i _ hi q => ?_, fun _ q => ⟨xs, ys, q.1, q.2, by omega⟩, fun i H v H' _ q y => ?_⟩
  · have h1 : i < xs.length := by omega
    have h2 : i < ys.length := by omega
    exact ⟨xs, ys, xs[i], ys[i], q.1, q.2, by simp [h1], by simp [h2]⟩
  · obtain ⟨T, x, z, h1, h2, h3, h4, h5⟩ := y
    exact ⟨T, x, z, h1, h2, h3, h4 xs q.1, h5 ys q.2⟩
def rEqE : R2 := fun x y H Q => ∃ a b, x = .ref a ∧ y = .ref b ∧ Rd H a (.dK []) ∧ Rd H b (.dK []) ∧ Q (.bl true) H
def rEqS (K : PySem.W.Frag) : R2 := fun x y H Q => rEqD K x y H Q ∨ rEqE x y H Q
theorem op_eqS {X : Cx} (hu : X.A.units + 64 < cLine) : OpR X (compareOp .Eq) (rEqS X.K) := by
  intro pins s σ H x y v u Q I rx ry h
  rcases h with h | ⟨a, b, rfl, rfl, ea, eb, q⟩
  · exact op_eqD hu pins s σ H x y v u Q I rx ry h
  · obtain rfl : v = Value.ref a := rx
    obtain rfl : u = Value.ref b := ry
    obtain ⟨_, ya, va, ra, da⟩ := dk_rd I.hok ea
    obtain ⟨_, yb, vb, rb, db⟩ := dk_rd I.hok eb
    have hl : va.length = vb.length := by rw [← Paired.length ra, ← Paired.length rb]
    exact PySem.W.keq_eq (knd := mixKind X.prog X.w) (r := true) ya yb da db (by omega) (fun _ => hits_all rb ra (fun p hp => by cases hp)) (fin_bl I q (by simp [hl]))
variable [Wd]
theorem dop_eqS {K : PySem.W.Frag} : DOpS (rEqS K) (fun d e Q => (okD 64 d = true ∧ okD 64 e = true ∧ Q (.bl (eqD d e))) ∨ (d = .dic [] ∧ e = .dic [] ∧ Q (.bl true))) := fun A H v w d e Qd Q r1 r2 hF k => by
  rcases hF with h | ⟨rfl, rfl, q⟩
  · exact .inl (dop_eq A H v w d e Qd Q r1 r2 h k)
  · have rd : ∀ {v : V}, Bor A H v (.dic []) → ∃ a, v = .ref a ∧ Rd H a (.dK []) := fun {v} r => by
      cases r with
      | rep r =>
        obtain ⟨a, o, es, rfl, _, h, hr⟩ := rep_dic r
        cases hr
        exact ⟨a, rfl, .inr ⟨o, h⟩⟩
      | dic h hr =>
        cases hr
        exact ⟨_, rfl, .inl h⟩
    obtain ⟨a, rfl, ra⟩ := rd r1
    obtain ⟨b, rfl, rb⟩ := rd r2
    exact .inr ⟨a, b, rfl, rfl, ra, rb, k _ _ sc_bl q⟩
section
variable {ι : Type} {X : ι → Cx} {ac : Act}
theorem di_zipA {K : PySem.W.Frag} {e e2 : Expr} {p pos tpos : Pos} {elts : List Expr} {kk : Nat} {T : TAd} (h : DA X ac [e, e2] T) (pi : ∀ c {t : TA}, PA (X c) [e, e2] t → PI (X c) (.Tuple elts kk tpos) (.Call (.Name "zip" p) [e, e2] [] pos) (iZipA K t)) :
    DI X ac (.Tuple elts kk tpos) (.Call (.Name "zip" p) [e, e2] [] pos) (fun n δ Q => T n δ fun rs n' δ' => ∃ ds es, (rs = [.ro (.lst ds), .ro (.lst es)] ∨ rs = [.ro (.tup ds), .ro (.tup es)]) ∧ Q (zipD ds es) n' δ') := by
  obtain ⟨t, p, ev⟩ := h
  refine ⟨_, fun c => pi c (p c), fun Γ gx σ A H n δ Qd R0 R hT k => ev Γ gx σ A H n δ _ _ R hT fun vs rs A' H' n' δ' R' ra m q => ?_⟩
  obtain ⟨ds, es, e, q⟩ := q
  have pr : ∀ (i : Nat) (d e : Dt), ds[i]? = some d → es[i]? = some e → (zipD ds es)[i]? = some (Dt.tup [d, e]) := fun i d e h1 h2 => by simp [zipD, List.getElem?_zipWith, h1, h2]
  rcases e with rfl | rfl
  · cases ra with
    | cons r1 rr =>
      cases rr with
      | cons r2 rr =>
        cases rr
        obtain ⟨a, xs, rfl, ha, hx, r1⟩ := rep_lst (ra_ro r1)
        obtain ⟨b, ys, rfl, hb, hy, r2⟩ := rep_lst (ra_ro r2)
        refine ⟨a, b, xs, ys, rfl, .inl ⟨SqL.of hx, SqL.of hy, k _ _ A' H' n' δ' R' (isIt_pair (ds := fun i => ds[i]?) (es := fun i => es[i]?) (walk_zip (K := K) (a := a) (b := b) (xs := xs) (ys := ys) rfl) _ ?_ (fun A2 H2 k2 => ⟨SqL.of (k2.ob a _ ha hx), SqL.of (k2.ob b _ hb hy)⟩)
          (fun i x e => r1.getV e) (fun i y e => r2.getV e) pr) m q⟩⟩
        rw [r1.len, r2.len]
        simp [zipD]
  · cases ra with
    | cons r1 rr =>
      cases rr with
      | cons r2 rr =>
        cases rr
        obtain ⟨a, xs, rfl, ha, hx, r1⟩ := rep_tup (ra_ro r1)
        obtain ⟨b, ys, rfl, hb, hy, r2⟩ := rep_tup (ra_ro r2)
        refine ⟨a, b, xs, ys, rfl, .inr ⟨SqT.of hx, SqT.of hy, k _ _ A' H' n' δ' R' (isIt_pair (ds := fun i => ds[i]?) (es := fun i => es[i]?) (walk_zipT (K := K) (a := a) (b := b) (xs := xs) (ys := ys) rfl) _ ?_ (fun A2 H2 k2 => ⟨SqT.of (k2.ob a _ ha hx), SqT.of (k2.ob b _ hb hy)⟩)
          (fun i x e => r1.getV e) (fun i y e => r2.getV e) pr) m q⟩⟩
        rw [r1.len, r2.len]
        simp [zipD]
end
end DL
/-! ## DL16 -/
set_option Elab.async false
set_option linter.all false
set_option maxRecDepth 100000
set_option maxHeartbeats 4000000
/-! Dicts that are read; fields of instances. -/
namespace DL
open PySem PySem.Spec PyProof.Rows L2
variable [Wd]
def keyD : Dt → Option Key
  | .int i => some (.inl i)
  | .str z => some (.inr z)
  | _ => none
def keyT : Key → Dt
  | .inl i => .int i
  | .inr z => .str z
section
variable {A : Addr → Prop} {H : Hp} {v : V} {d : Dt} {k : Key}
theorem rep_key (r : Rep A H v d) (e : keyD d = some k) : v = kV k := by
  cases r <;> simp [keyD] at e <;> subst e <;> rfl
theorem bor_key (r : Bor A H v d) (e : keyD d = some k) : v = kV k := by
  cases r with
  | rep r => exact rep_key r e
  | lst => cases e
  | dic => cases e
theorem key_rep : Rep A H (kV k) (keyT k) := by
  cases k with
  | inl i => exact .int i
  | inr z => exact .str z
theorem RepK.val : ∀ {es : List (Key × V)} {kvs : List (Key × Dt)}, RepK A H es kvs → ∀ k, (valV es k = none ∧ valD kvs k = none) ∨ ∃ v d, valV es k = some v ∧ valD kvs k = some d ∧ Rep A H v d
  | _, _, .nil, k => .inl ⟨rfl, rfl⟩
  | _, _, .cons (k := k0) (v := v0) (d := d0) h r, k => by
    by_cases e : k0 = k
    · exact .inr ⟨v0, d0, by simp [valV, e], by simp [valD, e], h⟩
    · rcases RepK.val r k with ⟨h1, h2⟩ | ⟨v, d, h1, h2, h3⟩
      · exact .inl ⟨by simpa [valV, e] using h1, by simpa [valD, e] using h2⟩
      · exact .inr ⟨v, d, by simpa [valV, e] using h1, by simpa [valD, e] using h2, h3⟩
theorem bor_dic {kvs : List (Key × Dt)} (r : Bor A H v (.dic kvs)) : ∃ a es, v = .ref a ∧ Rd H a (.dK es) ∧ RepK A H es kvs := by
  cases r with
  | rep r =>
    obtain ⟨a, o, es, rfl, _, h, hr⟩ := rep_dic r
    exact ⟨a, es, rfl, .inr ⟨o, h⟩, hr⟩
  | dic h hr => exact ⟨_, _, rfl, .inl h, hr⟩
end
section
variable {ι : Type} {X : ι → Cx} {ac : Act}
/-- d[k] -/
theorem dr_dget {a i e : Expr} {Ta Ti : TRd} (pe : ∀ c {t ti : TE}, PE (X c) a t → PE (X c) i ti → PE (X c) e (tDGet t ti)) (ha : DR X ac a Ta) (hi : DR X ac i Ti) :
    DR X ac e (fun n δ Q => Ta n δ fun d n1 δ1 => Ti n1 δ1 fun kd n2 δ2 => ∃ kvs k x, d = .dic kvs ∧ keyD kd = some k ∧ valD kvs k = some x ∧ Q x n2 δ2) := by
  obtain ⟨t, p, ev⟩ := ha
  obtain ⟨ti, pi, evi⟩ := hi
  refine ⟨_, fun c => pe c (p c) (pi c), fun Γ gx σ A H n δ Qd Q R hT kk => ev Γ gx σ A H n δ _ _ R hT fun v d A1 H1 n1 δ1 R1 r1 m1 q1 => evi Γ gx σ A1 H1 n1 δ1 _ _ R1 q1 fun w e A2 H2 n2 δ2 R2 r2 m2 q2 => ?_⟩
  obtain ⟨kvs, k, x, rfl, ek, ex, q⟩ := q2
  obtain ⟨b, es, rfl, rd, rk⟩ := bor_dic (.rep (r1.kp (m2.kp R1)))
  obtain rfl := rep_key r2 ek
  rcases rk.val k with ⟨_, h2⟩ | ⟨u, d, h1, h2, h3⟩
  · rw [h2] at ex
    cases ex
  · rw [h2] at ex
    cases ex
    exact ⟨b, u, rfl, .inl ⟨es, k, rd, rfl, h1.symm⟩, kk u _ A2 H2 n2 δ2 R2 h3 (m1.trans m2) q⟩
/-- .. d a name's own -/
theorem dr_dgetB {a i e : Expr} {Ta : TRd} {Ti : TQd} (pe : ∀ c {t ti : TE}, PE (X c) a t → PE (X c) i ti → PE (X c) e (tDGet t ti)) (ha : DB X ac a Ta) (hi : DQ X ac i Ti) :
    DR X ac e (fun n δ Q => Ta n δ fun d n1 δ1 => Ti δ1 fun kd => ∃ kvs k x, d = .dic kvs ∧ keyD kd = some k ∧ valD kvs k = some x ∧ Q x n1 δ1) := by
  obtain ⟨t, p, ev⟩ := ha
  obtain ⟨ti, pi, evi⟩ := hi
  refine ⟨_, fun c => pe c (p c) (pi c), fun Γ gx σ A H n δ Qd Q R hT kk => ev Γ gx σ A H n δ _ _ R hT fun v d A1 H1 n1 δ1 R1 r1 m1 q1 => evi Γ gx σ A1 H1 n1 δ1 _ _ R1 q1 fun w e A2 H2 g r2 q2 => ?_⟩
  obtain ⟨kvs, k, x, rfl, ek, ex, q⟩ := q2
  obtain ⟨b, es, rfl, rd, rk⟩ := bor_dic (r1.grow g)
  obtain rfl := rep_key r2 ek
  rcases rk.val k with ⟨_, h2⟩ | ⟨u, d, h1, h2, h3⟩
  · rw [h2] at ex
    cases ex
  · rw [h2] at ex
    cases ex
    exact ⟨b, u, rfl, .inl ⟨es, k, rd, rfl, h1.symm⟩, kk u _ A2 H2 n1 δ1 (R1.grow g) h3 (m1.trans (.grow g)) q⟩
/-- k in d -/
theorem dt_din {i a e : Expr} {Ti Ta : TRd} (pt : ∀ c {ti t : TE}, PE (X c) i ti → PE (X c) a t → PT (X c) e (tB (tDIn ti t))) (hi : DR X ac i Ti) (ha : DB X ac a Ta) :
    DT X ac e (fun n δ Q => Ti n δ fun kd n1 δ1 => Ta n1 δ1 fun d n2 δ2 => ∃ kvs k, d = .dic kvs ∧ keyD kd = some k ∧ Q (valD kvs k).isSome n2 δ2) := by
  obtain ⟨ti, pi, evi⟩ := hi
  obtain ⟨t, p, ev⟩ := ha
  refine ⟨_, fun c => pt c (pi c) (p c), fun Γ gx σ A H n δ Qd Q R hT kk => evi Γ gx σ A H n δ _ _ R hT fun v kd A1 H1 n1 δ1 R1 r1 m1 q1 => ev Γ gx σ A1 H1 n1 δ1 _ _ R1 q1 fun w d A2 H2 n2 δ2 R2 r2 m2 q2 => ?_⟩
  obtain ⟨kvs, k, rfl, ek, q⟩ := q2
  obtain ⟨b, es, rfl, rd, rk⟩ := bor_dic r2
  obtain rfl := rep_key r1 ek
  have fin := kk _ A2 H2 n2 δ2 R2 (m1.trans m2) q
  have e : (valV es k).isSome = (valD kvs k).isSome := by
    rcases rk.val k with ⟨h1, h2⟩ | ⟨u, d, h1, h2, _⟩ <;> rw [h1, h2] <;> rfl
  rw [← e] at fin
  exact ⟨b, valV es k, rfl, .inl ⟨es, k, rd, rfl, rfl⟩, _, rfl, fin⟩
/-- k not in d -/
theorem dt_dnotin {i a e : Expr} {Ti Ta : TRd} (pt : ∀ c {ti t : TE}, PE (X c) i ti → PE (X c) a t → PT (X c) e (tB (tDNotIn ti t))) (hi : DR X ac i Ti) (ha : DB X ac a Ta) :
    DT X ac e (fun n δ Q => Ti n δ fun kd n1 δ1 => Ta n1 δ1 fun d n2 δ2 => ∃ kvs k, d = .dic kvs ∧ keyD kd = some k ∧ Q (!(valD kvs k).isSome) n2 δ2) := by
  obtain ⟨ti, pi, evi⟩ := hi
  obtain ⟨t, p, ev⟩ := ha
  refine ⟨_, fun c => pt c (pi c) (p c), fun Γ gx σ A H n δ Qd Q R hT kk => evi Γ gx σ A H n δ _ _ R hT fun v kd A1 H1 n1 δ1 R1 r1 m1 q1 => ev Γ gx σ A1 H1 n1 δ1 _ _ R1 q1 fun w d A2 H2 n2 δ2 R2 r2 m2 q2 => ?_⟩
  obtain ⟨kvs, k, rfl, ek, q⟩ := q2
  obtain ⟨b, es, rfl, rd, rk⟩ := bor_dic r2
  obtain rfl := rep_key r1 ek
  have fin := kk _ A2 H2 n2 δ2 R2 (m1.trans m2) q
  have e : (valV es k).isSome = (valD kvs k).isSome := by
    rcases rk.val k with ⟨h1, h2⟩ | ⟨u, d, h1, h2, _⟩ <;> rw [h1, h2] <;> rfl
  rw [← e] at fin
  exact ⟨b, valV es k, rfl, .inl ⟨es, k, rd, rfl, rfl⟩, _, rfl, fin⟩
/-- a held dict's keys -/
theorem isIt_keys {A : Addr → Prop} {H : Hp} {a : Addr} {o : Obj} {es : List (Key × V)} {kvs : List (Key × Dt)} (ha : A a) (h : H a = some (.frz o (.dK es))) (r : RepK A H es kvs) : IsIt (Itk a o es) A H (kvs.map fun p => keyT p.1) := by
  unfold IsIt
  rw [List.length_map, ← r.len]
  refine (walk_keys (d := a) (o := o) (kvs := es)).mono (fun H' ⟨A', k⟩ => k.ob a _ ha h) fun i H1 x H2 hi _ y A' k dm => ?_
  obtain ⟨rfl, kk, v, e, rfl⟩ := y
  have e2 : (kvs.map (·.1))[i]? = some kk := by
    rw [← r.keys, List.getElem?_map, e]
    rfl
  refine ⟨A', keyT kk, .refl dm, ?_, key_rep⟩
  rw [List.getElem?_map] at e2 ⊢
  cases q : kvs[i]? with
  | none => rw [q] at e2; cases e2
  | some p =>
    rw [q] at e2
    cases e2
    rfl
theorem di_keys {tg e : Expr} {T : TRd} (h : DR X ac e T) (pi : ∀ c {t : TE}, PE (X c) e t → PI (X c) tg e (iKeys t)) : DI X ac tg e (fun n δ Q => T n δ fun d n' δ' => ∃ kvs, d = .dic kvs ∧ Q (kvs.map fun p => keyT p.1) n' δ') := by
  obtain ⟨t, p, ev⟩ := h
  refine ⟨_, fun c => pi c (p c), fun Γ gx σ A H n δ Qd R0 R hT k => ev Γ gx σ A H n δ _ _ R hT fun v d A' H' n' δ' R' r m q => ?_⟩
  obtain ⟨kvs, rfl, q⟩ := q
  obtain ⟨a, o, es, rfl, ha, he, hr⟩ := rep_dic r
  exact ⟨a, o, rfl, .inl ⟨es, he, k _ _ A' H' n' δ' R' (isIt_keys ha he hr) m q⟩⟩
/-! ### fields -/
theorem RepF.look {A : Addr → Prop} {H : Hp} {f : Str} : ∀ {fs : List (Str × V)} {ks : List (Str × Dt)}, RepF A H fs ks → ∀ {x : Dt}, ks.lookup f = some x → ∃ v, fs.lookup f = some v ∧ Rep A H v x
  | _, _, .nil, _, e => by cases e
  | _, _, .cons (k := g) h r, x, e => by
    simp only [List.lookup] at e ⊢
    cases q : f == g with
    | true =>
      rw [q] at e
      cases e
      exact ⟨_, rfl, h⟩
    | false =>
      rw [q] at e
      exact RepF.look r e
theorem RepF.no {A : Addr → Prop} {H : Hp} {f : Str} : ∀ {fs : List (Str × V)} {ks : List (Str × Dt)}, RepF A H fs ks → ks.lookup f = none → fs.lookup f = none
  | _, _, .nil, _ => rfl
  | _, _, .cons (k := g) h r, e => by
    simp only [List.lookup] at e ⊢
    cases q : f == g with
    | true =>
      rw [q] at e
      cases e
    | false =>
      rw [q] at e
      exact RepF.no r e
theorem dr_fld {K : PySem.W.Frag} {f : Str} {o e : Expr} {T : TRd} (pe : ∀ c {t : TE}, PE (X c) o t → PE (X c) e (tFld K t f)) (h : DR X ac o T) :
    DR X ac e (fun n δ Q => T n δ fun d n' δ' => ∃ C ks x, d = .ins C ks ∧ Cls K C ∧ NoAttr K C f ∧ ks.lookup f = some x ∧ Q x n' δ') := by
  obtain ⟨t, p, ev⟩ := h
  refine ⟨_, fun c => pe c (p c), fun Γ gx σ A H n δ Qd Q R hT k => ev Γ gx σ A H n δ _ _ R hT fun v d A' H' n' δ' R' r m q => ?_⟩
  obtain ⟨C, ks, x, rfl, c1, c2, e, q⟩ := q
  obtain ⟨a, dx, fs, rfl, ha, he, hr⟩ := rep_ins r
  obtain ⟨u, e2, ru⟩ := hr.look e
  exact ⟨a, C, dx, fs, u, rfl, he, c1, c2, e2, k u x A' H' n' δ' R' ru m q⟩
/-- o.m() -/
theorem de_meth0 {C : Addr} {m : Str} {Ct : Ct} {o e : Expr} {T : TRd} {Ec : XK} (pe : ∀ c {t : TE}, PE (X c) o t → PE (X c) e (tMeth C m (spC Ct) [] Ec t tNil)) (h : DR X ac o T) :
    DE X ac e (fun n δ Q => T n δ fun d n' δ' => ∃ ks, d = .ins C ks ∧ ks.lookup m = none ∧ Ct [.ro d] n' (fun r n2 => Q r n2 δ') fun _ _ _ _ => False) := by
  obtain ⟨t, p, ev⟩ := h
  refine ⟨_, fun c => pe c (p c), fun Γ gx σ A H n δ Qd Q R hT k => ev Γ gx σ A H n δ _ _ R hT fun v d A1 H1 n1 δ1 R1 r1 m1 q1 => ?_⟩
  obtain ⟨ks, rfl, el, q1⟩ := q1
  obtain ⟨a, dx, fs, rfl, ha, he, hr⟩ := rep_ins r1
  refine ⟨a, dx, fs, rfl, he, hr.no el, ⟨H1, A1, Γ.p⟩, n1, [.ro (.ins C ks)], _, fun _ _ _ _ => False, rfl, R1.exit0, .cons (.ro r1) .nil, q1, fun v r A' H' n' ex ro q => ?_, fun A' H' n' C f d v x ex e1 e2 e3 rp q => q.elim⟩
  obtain ⟨R2, m2⟩ := R1.call ex
  exact k v r A' H' n' δ1 R2 (ro.rel R1 m1.was) (m1.trans m2) q
end
end DL
/-! ## DL17 -/
set_option Elab.async false
set_option linter.all false
set_option maxRecDepth 100000
set_option maxHeartbeats 4000000
/-! Dict comprehensions; sorted keys. -/
namespace DL
open PySem PySem.Spec PyProof.Rows L2
/-- a dict comprehension over a walk -/
theorem dc_it {J : It} {n : Nat} {G : Hp → Prop} {Y : Nat → Hp → V → Hp → Prop} (w : Walk J n G Y) {g : TG} {tt : TT} {tk tv : TE} {vs : List Nat} {σ : L2.St} {H1 : Hp} {D : Addr} {Qd : Hp → Prop} (Pv : Nat → Hp → Prop) (h0 : Pv 0 (upd H1 D (.dK []))) (hG : ∀ i H, i ≤ n → Pv i H → G H)
    (hs : ∀ i x H H', i < n → Pv i H → Y i H x H' → g x (wipe σ vs) H' fun σ2 H2 => wipe σ2 vs = wipe σ vs ∧ tt σ2 H2 fun b H3 =>
      if b = true then tk σ2 H3 fun y H4 => tv σ2 H4 fun z H5 => ∃ kvs k, y = kV k ∧ H5 D = some (.dK kvs) ∧ kvs.length < sizeLine ∧ Pv (i + 1) (upd H5 D (.dK (putK kvs k z))) else Pv (i + 1) H3) (hd : ∀ H, Pv n H → Qd H) :
    ∃ W : Nat → Nat → Hp → Prop, (∃ m, W 0 m (upd H1 D (.dK []))) ∧ ∀ i m H, W i m H →
      (J.stop i H ∧ Qd H) ∨ (J.go i H ∧ ∃ Nx : Hp → Prop, (∀ H', Nx H' → ∃ m', m' < m ∧ W (i + 1) m' H') ∧ ∀ x H', J.yld i H x H' → g x (wipe σ vs) H' fun σ2 H2 => wipe σ2 vs = wipe σ vs ∧ tt σ2 H2 fun b H3 =>
        if b = true then tk σ2 H3 fun y H4 => tv σ2 H4 fun z H5 => ∃ kvs k, y = kV k ∧ H5 D = some (.dK kvs) ∧ kvs.length < sizeLine ∧ Nx (upd H5 D (.dK (putK kvs k z))) else Nx H3) := by
  refine ⟨fun i m H => m = n - i ∧ i ≤ n ∧ Pv i H, ⟨n, by simp, Nat.zero_le _, h0⟩, ?_⟩
  rintro i m H ⟨rfl, hi, p⟩
  have q := hG i H hi p
  by_cases hlt : i < n
  · refine .inr ⟨w.goes i H hlt q, Pv (i + 1), fun H' p' => ⟨n - (i + 1), by omega, rfl, hlt, p'⟩, fun x H' y => hs i x H H' hlt p (w.yields i H x H' hlt q y)⟩
  · have e : i = n := by omega
    subst e
    exact .inl ⟨w.stops H q, hd H p⟩

variable [Wd]
def putD (kvs : List (Key × Dt)) (k : Key) (d : Dt) : List (Key × Dt) :=
  if (kvs.any fun kv => decide (kv.1 = k)) = true then kvs.map (fun kv => if kv.1 = k then (kv.1, d) else kv) else kvs ++ [(k, d)]
theorem RepK.app1 {A : Addr → Prop} {H : Hp} {k : Key} {v : V} {d : Dt} : ∀ {es : List (Key × V)} {kvs : List (Key × Dt)}, RepK A H es kvs → Rep A H v d → RepK A H (es ++ [(k, v)]) (kvs ++ [(k, d)])
  | _, _, .nil, h => .cons h .nil
  | _, _, .cons h0 r, h => .cons h0 (RepK.app1 r h)
theorem RepK.any_eq {A : Addr → Prop} {H : Hp} {k : Key} : ∀ {es : List (Key × V)} {kvs : List (Key × Dt)}, RepK A H es kvs → (es.any fun kv => decide (kv.1 = k)) = (kvs.any fun kv => decide (kv.1 = k))
  | _, _, .nil => rfl
  | _, _, .cons h r => by rw [List.any_cons, List.any_cons, RepK.any_eq r]
theorem RepK.mapK {A : Addr → Prop} {H : Hp} {k : Key} {v : V} {d : Dt} (h : Rep A H v d) : ∀ {es : List (Key × V)} {kvs : List (Key × Dt)}, RepK A H es kvs → RepK A H (es.map fun kv => if kv.1 = k then (kv.1, v) else kv) (kvs.map fun kv => if kv.1 = k then (kv.1, d) else kv)
  | _, _, .nil => .nil
  | _, _, .cons (k := k0) h0 r => by
    rw [List.map_cons, List.map_cons]
    by_cases e : k0 = k
    · simp only [e, if_true]
      exact .cons h (RepK.mapK h r)
    · simp only [e, if_false]
      exact .cons h0 (RepK.mapK h r)
theorem RepK.put {A : Addr → Prop} {H : Hp} {es : List (Key × V)} {kvs : List (Key × Dt)} {k : Key} {v : V} {d : Dt} (r : RepK A H es kvs) (h : Rep A H v d) : RepK A H (putK es k v) (putD kvs k d) := by
  unfold putK putD
  rw [r.any_eq]
  split
  · exact r.mapK h
  · exact r.app1 h
def dDc (vs : List Nat) (G : TGd) (Tt : TTd) (Tk Tv : TRd) : List Dt → List (Key × Dt) → Nat → List Sl → (List (Key × Dt) → Nat → List Sl → Prop) → Prop
  | [], acc, n, δ, Q => Q acc n δ
  | d :: ds, acc, n, δ, Q => G d δ fun δ2 => Tt n δ2 fun b n3 δ3 => dIte b (Tk n3 δ3 fun kd n4 δ4 => Tv n4 δ4 fun y n5 δ5 => ∃ k, keyD kd = some k ∧ acc.length < sizeLine ∧ dDc vs G Tt Tk Tv ds (putD acc k y) n5 (dwipe δ5 vs) Q) (dDc vs G Tt Tk Tv ds acc n3 (dwipe δ3 vs) Q)
theorem dDc_go {vs : List Nat} {G : TGd} {Tt : TTd} {Tk Tv : TRd} {Q : List (Key × Dt) → Nat → List Sl → Prop} (J : List Dt → List (Key × Dt) → Nat → List Sl → Prop) (hn : ∀ acc n δ, J [] acc n δ → Q acc n δ)
    (hs : ∀ d ds acc n δ (R : List (Key × Dt) → Nat → List Sl → Prop), (∀ acc n δ, J ds acc n δ → R acc n δ) → J (d :: ds) acc n δ → G d δ fun δ2 => Tt n δ2 fun b n3 δ3 => dIte b (Tk n3 δ3 fun kd n4 δ4 => Tv n4 δ4 fun y n5 δ5 => ∃ k, keyD kd = some k ∧ acc.length < sizeLine ∧ R (putD acc k y) n5 (dwipe δ5 vs)) (R acc n3 (dwipe δ3 vs))) :
    ∀ {ds : List Dt} {acc : List (Key × Dt)} {n : Nat} {δ : List Sl}, J ds acc n δ → dDc vs G Tt Tk Tv ds acc n δ Q
  | [], acc, n, δ, h => hn acc n δ h
  | d :: ds, acc, n, δ, h => hs d ds acc n δ (fun acc n δ => dDc vs G Tt Tk Tv ds acc n δ Q) (fun acc n δ h => dDc_go J hn hs h) h
section
variable {ι : Type} {X : ι → Cx} {ac : Act} {Γ : Gm}
theorem ev_dc {a : DL.Act} {wi : TI} {g : TG} {tt : TT} {tk tv : TE} {vs : List Nat} {T : TId} {G : TGd} {Tt : TTd} {Tk Tv : TRd} (ei : EvI a wi T) (eg : EvG a vs g G) (et : EvT a tt Tt) (ek : EvR a tk Tk) (ee : EvR a tv Tv) :
    EvE a (tDc wi g tt tk tv vs) (fun n δ Q => T n δ fun ds n1 δ1 => dDc vs G Tt Tk Tv ds [] n1 (dwipe δ1 vs) fun acc n2 δ2 => Q (.own (.dic acc)) n2 δ2) := by
  intro Γ gx σ A H n δ Qd Q R hT k
  refine ei Γ gx σ A H n δ _ _ R hT fun J ds A1 H1 n1 δ1 R1 it m1 q1 => fun D nD => ?_
  have os1 := own_some R1.sl
  have free1 : Free Γ A1 D := ⟨R1.h0 D nD, fun z => R1.dom D z nD, fun z => R1.md D z nD⟩
  have noD : D ∉ owns σ δ1 := fun z => os1 D z nD
  have ow1 := (owns_dwipe (vs := vs) R1.nd).2
  refine dc_it it (fun i H' => ∃ A' n' δ' xs acc, Rel Γ σ δ' A' H' n' ∧ NoAt vs δ' ∧ Mv Γ σ δ1 A1 H1 δ' A' H' ∧ Free Γ A' D ∧ D ∉ owns σ δ' ∧ H' D = some (.dK xs) ∧ RepK A' H' xs acc ∧ dDc vs G Tt Tk Tv (ds.drop i) acc n' δ' fun acc n2 δ2 => Qd (.own (.dic acc)) n2 δ2) ?_ (fun i H' _ ⟨A', _, _, _, _, _, _, mv, _⟩ => ⟨A', mv.kp R1⟩) ?_ ?_
  · have g1 : Grow A1 H1 A1 (upd H1 D (.dK [])) := .new nD R1.dom
    have w1 : Rel Γ σ (dwipe δ1 vs) A1 H1 n1 := R1.wiped
    have mw : Mv Γ σ δ1 A1 H1 (dwipe δ1 vs) A1 H1 := ⟨fun _ h => h, fun _ _ e _ _ => e, fun _ h => .inl h, ow1, fun _ h => h⟩
    exact ⟨A1, n1, dwipe δ1 vs, [], [], w1.grow g1, fun j hj s e => dwipe_in hj e, mw.updN nD, free1, fun z => noD (ow1 D z), upd_same, .nil, q1⟩
  · rintro i x H' H2 hi ⟨A', n', δ', xs, acc, R', na, mv, fr, no, hD, hr, q⟩ y
    obtain ⟨A2, d, gr, e, rd⟩ := y A' (mv.kp R1) R'.dom
    have ed : ds.drop i = d :: ds.drop (i + 1) := by
      obtain ⟨h, e⟩ := List.getElem?_eq_some_iff.mp e
      rw [← e, List.getElem_cons_drop]
    rw [ed] at q
    have hD2 : H2 D = some (.dK xs) := gr.kp D _ hD
    have fr2 : Free Γ A2 D := by
      refine ⟨fr.h0, fun z => ?_, fr.nm⟩
      rcases gr.nw D z with z | z
      · exact fr.na z
      · rw [hD] at z
        cases z
    have R2 : Rel Γ σ δ' A2 H2 n' := R'.grow gr
    have mv2 : Mv Γ σ δ1 A1 H1 δ' A2 H2 := mv.trans (.grow gr)
    have lenσ : σ.length = δ'.length := slR_len R'.sl
    have ag := na.agree lenσ
    have Rw : Rel Γ (wipe σ vs) δ' A2 H2 n' := R2.agree ag
    have oww := agree_owns ag
    refine eg Γ gx (wipe σ vs) A2 H2 n' δ' x d _ _ Rw rd q fun σ3 δ3 R3 w3 o3 q3 => ?_
    have w3 : wipe σ3 vs = wipe σ vs := w3.trans wipe_idem
    have o3 : ∀ a ∈ owns σ3 δ3, a ∈ owns σ δ' := fun a ha => by
      have z := o3 a ha
      rw [oww] at z
      exact z
    have l3 : σ3.length = σ.length := by
      have z := congrArg List.length w3
      rw [wipe_length, wipe_length] at z
      exact z
    refine ⟨w3, et Γ gx σ3 A2 H2 n' δ3 _ _ R3 q3 fun b A4 H4 n4 δ4 R4 m4 q4 => ?_⟩
    obtain ⟨f4, no4, hD4⟩ := m4.free fr2 (fun z => no (o3 D z)) hD2
    have l4 : σ3.length = δ4.length := slR_len R4.sl
    have rs2 : RepK A4 H4 xs acc := (hr.kp gr.k).kp (m4.kp R3)
    cases b with
    | true =>
      refine (if_pos rfl).mpr (ek Γ gx σ3 A4 H4 n4 δ4 _ _ R4 (q4.1 rfl) fun ky dk A7 H7 n7 δ7 R7 r7 m7 q7 => ee Γ gx σ3 A7 H7 n7 δ7 _ _ R7 q7 fun y dy A5 H5 n5 δ5 R5 r5 m75 q5 => ?_)
      obtain ⟨kk, ekk, hl, q5⟩ := q5
      have m5 := m7.trans m75
      obtain ⟨f5, no5, hD5⟩ := m5.free f4 no4 hD4
      have l5 : σ3.length = δ5.length := slR_len R5.sl
      have rs5 := rs2.kp (m5.kp R4)
      have R6 : Rel Γ σ (dwipe δ5 vs) A5 H5 n5 := R5.unwipe w3 (by rw [← l3]; exact l5)
      have m6 : Mv Γ σ δ' A2 H2 (dwipe δ5 vs) A5 H5 := (m4.trans m5).out (n5 := n5) o3 w3 l5 (by rw [← l3]; exact l5) R5.nd
      have no6 : D ∉ owns σ (dwipe δ5 vs) := fun z => no (m6.os D z)
      have k6 : Kp A5 H5 A5 (upd H5 D (.dK (putK xs kk y))) := .of (fun _ h => h) fun b u hb q => by
        rw [upd_ne (neA hb f5.na)]
        exact q
      exact ⟨xs, kk, rep_key r7 ekk, hD5, by rw [rs5.len]; exact hl, A5, n5, dwipe δ5 vs, putK xs kk y, putD acc kk dy, R6.apart f5 no6, fun j hj s e => dwipe_in hj e, (mv2.trans m6).updN nD, f5, no6, upd_same, (rs5.kp k6).put (r5.kp k6), q5⟩
    | false =>
      have R6 : Rel Γ σ (dwipe δ4 vs) A4 H4 n4 := R4.unwipe w3 (by rw [← l3]; exact l4)
      have m6 : Mv Γ σ δ' A2 H2 (dwipe δ4 vs) A4 H4 := m4.out (n5 := n4) o3 w3 l4 (by rw [← l3]; exact l4) R4.nd
      exact (if_neg Bool.false_ne_true).mpr ⟨A4, n4, dwipe δ4 vs, xs, acc, R6, fun j hj s e => dwipe_in hj e, mv2.trans m6, f4, fun z => no (m6.os D z), hD4, rs2, q4.2 rfl⟩
  · rintro H' ⟨A', n', δ', xs, acc, R', na, mv, fr, no, hD, hr, q⟩
    rw [List.drop_length] at q
    exact k (.ref D) (.own (.dic acc)) A' H' n' δ' R' ⟨D, rfl, ⟨xs, hD, hr⟩, no, fr, m1.was D nD⟩ (m1.trans mv) q
theorem de_dc {kx vx tg iter : Expr} {ifs : List Expr} {scope : Scope} {own : List (Str × Nat)} {pos : Pos} {T : TId} {G : TGd} {Tt : TTd} {Tk Tv : TRd} (hc : ∀ c, (X c).calm = true) (hN : ∀ c, (X c).N.Nodup) (hi : DI X ac tg iter T) (ok : ∀ c, BlkOk (X c).N (X c).env.scope scope own)
    (hg : DG (blkX X scope) ac (own.map (·.2)) tg G) (ht : DTs (blkX X scope) ac ifs Tt) (hk : DR (blkX X scope) ac kx Tk) (he : DR (blkX X scope) ac vx Tv) (hs : ∀ c x, foldedSetIterable iter (X c).env x = pure x := by intro _ _; rfl) :
    DE X ac (.DictComp kx vx [⟨tg, iter, ifs, 0⟩] scope pos) (fun n δ Q => T n δ fun ds n1 δ1 => dDc (own.map (·.2)) G Tt Tk Tv ds [] n1 (dwipe δ1 (own.map (·.2))) fun acc n2 δ2 => Q (.own (.dic acc)) n2 δ2) := by
  obtain ⟨wi, pi, ei⟩ := hi
  obtain ⟨g, pg, eg⟩ := hg
  obtain ⟨tt, pt, et⟩ := ht
  obtain ⟨tk, pk, ek⟩ := hk
  obtain ⟨te, pe, ee⟩ := he
  exact ⟨_, fun c => pe_dc (hc c) (hN c) (pi c) (ok c) (fun s H C cl fp => pg (c, ⟨s, H, C, cl, fp⟩)) (fun s H C cl fp => pt (c, ⟨s, H, C, cl, fp⟩)) (fun s H C cl fp => pk (c, ⟨s, H, C, cl, fp⟩)) (fun s H C cl fp => pe (c, ⟨s, H, C, cl, fp⟩)) (hs c), ev_dc ei eg et ek ee⟩
/-- sorted(d), d a dict of texts -/
def rSortD : List V → Hp → VK → Prop := fun xs H Q => ∃ (a : Addr) (kvs : List (Key × V)) (ks : List Str), xs = [.ref a] ∧ Rd H a (.dK kvs) ∧ kvs.map (·.1) = ks.map Sum.inr ∧ ks.length < 64 ∧ ∀ ys p, ys.Perm ks → sortedS ys = true → H p = none → Q (.ref p) (upd H p (.lst (ys.map V.str)))
theorem strs_reps {A : Addr → Prop} {H : Hp} : ∀ (ts : List Str), Reps A H (ts.map V.str) (ts.map Dt.str)
  | [] => .nil
  | t :: r => .cons (.str t) (strs_reps r)
theorem de_sortD {a e : Expr} {Ta : TRd} (pe : ∀ c {t : TE}, PE (X c) a t → PE (X c) e (tCB rSortD (tCons t tNil))) (ha : DB X ac a Ta) : DE X ac e (fun n δ Q => Ta n δ fun d n' δ' => ∃ kvs ks, d = .dic kvs ∧ kvs.map (·.1) = ks.map Sum.inr ∧ ks.length < 64 ∧ ∀ ys, ys.Perm ks → sortedS ys = true → Q (.own (.lst (ys.map .str))) n' δ') := by
  obtain ⟨t, p, ev⟩ := ha
  refine ⟨_, fun c => pe c (p c), fun Γ gx σ A H n δ Qd Q R hT k => ev Γ gx σ A H n δ _ _ R hT fun v d A1 H1 n1 δ1 R1 r1 m1 q1 => ?_⟩
  obtain ⟨kvs, ks, rfl, e1, hl, q⟩ := q1
  obtain ⟨b, es, rfl, rd, rk⟩ := bor_dic r1
  refine ⟨b, es, ks, rfl, rd, rk.keys.trans e1, hl, fun ys l pm so nl => ?_⟩
  obtain ⟨g, nA, ho⟩ := new_own nl R1.dom (strs_reps (A := A1) (H := H1) ys)
  exact k (.ref l) (.own (.lst (ys.map .str))) A1 _ n1 δ1 (R1.grow g) (RRel.new R1 g m1.was (fun d e => by cases e) (fun d e => by cases e; exact ⟨l, rfl, nl, nA, ho⟩) (fun e => by cases e) (fun e => by cases e)) (m1.trans (.grow g)) (q ys pm so)
end
end DL
/-! ## DL18 -/
set_option Elab.async false
set_option linter.all false
set_option maxRecDepth 100000
set_option maxHeartbeats 4000000
/-! Dicts of mixed keys: truth, walks, what stands at a key. -/
namespace DL
open PySem PySem.Spec PyProof.Rows L2
section
variable {prog : Program} {w : World} {A : Around} {E : Value → Shared → Prop} {s : Shared} {d : Addr} {o : Obj} {es : Array DictEntry} {ep : Nat}
theorem mlen (hd : (d == sysModules) = false) (n : Nat) :
    MeetsIn prog w (Builtin.«dict.__len__» ⟨[.ref d], []⟩) (fun _ R s => (∃ o es ep, s.heap.get? d = some o ∧ o.data = .dict es ep ∧ es.size = n) ∧ R (.ok (.ret (.int (n : Nat) s.toks))) { s with toks := s.toks + 1 }) := by
  refine .of_wp fun A R s hh => ?_
  obtain ⟨⟨o, es, ep, h1, h2, h3⟩, hR⟩ := hh
  show wpAny _ _ (dictSize d >>= _) _ _ s
  unfold dictSize
  refine wpAny_bind (wpAny_bind (wpAny_dictEntries h1 h2 ?_))
  refine wpAny_pure ?_
  show wpAny _ _ (Builtin.Dict.pendingCount d >>= _) _ _ s
  refine wpAny_bind (wpAny_pendingCount_other hd (wpAny_ret_mkInt ?_))
  rw [h3]
  exact hR
theorem mtruth (hd : (d == sysModules) = false) (h1 : s.heap.get? d = some o) (hx : o.ExactDict) (h2 : o.data = .dict es ep) (hf : (es.size : Int) < 2 ^ 63) {Q : Bool → Shared → Prop}
    (h : ∀ t, Q (!(es.size == 0)) { s with toks := t }) : wpAny (model prog w) A (truthy (.ref d)) Q E s := by
  have ty : s.TypeIs (.ref d) "dict" := ⟨o, h1, hx.1⟩
  have hne : ((es.size : Int) != 0) = !(es.size == 0) := by
    cases q : es.size with
    | zero => rfl
    | succ n =>
      have : (((n + 1 : Nat) : Int) == 0) = false := beq_eq_false_iff_ne.mpr (by omega)
      show (!(((n + 1 : Nat) : Int) == 0)) = _
      rw [this]
      rfl
  have body : ∀ A : Around, wpAny (model prog w) A (Builtin.«len» ⟨[.ref d], []⟩) (fun fin s' => ∃ r, fin = .done (.ret r) ∧ ∃ t, r = .int es.size t ∧ Q (!(es.size == 0)) s') E s := by
    intro A
    unfold Builtin.«len»
    refine wpAny_bind (m := oneArg "len" _) (wpAny_pure (wpAny_bind (m := callSpecial? (.ref d) (Str.ofString "__len__")) ?_))
    refine wpAny_callSpecial?_slot (name := Str.ofString "__len__") ty F.slot_dict_len ?_
    refine call_meetsIn F.slot_dict_len ty F.entry_dict_len (F.args_dict_len_1 _) (mlen hd es.size) ⟨⟨o, es, ep, h1, h2, rfl⟩, ?_⟩
    refine wpAny_bind (wpAny_holding (wpAny_pure (wpAny_bind (wpAny_letGo ?_))))
    show wpAny _ _ (if ((es.size : Nat) : Int) < 0 then _ else _) _ _ _
    have n0 : ¬ ((es.size : Nat) : Int) < 0 := by omega
    rw [if_neg n0]
    show wpAny _ _ (if ((es.size : Nat) : Int) ≥ 2 ^ 63 then _ else _) _ _ _
    have n1 : ¬ ((es.size : Nat) : Int) ≥ 2 ^ 63 := by omega
    rw [if_neg n1]
    exact wpAny_bind (wpAny_mkInt (wpAny_pure ⟨_, rfl, _, rfl, h _⟩))
  have key : wpAny (model prog w) A (runValue (.builtin "len" ⟨[.ref d], []⟩)) (fun r s' => ∃ t, r = .int es.size t ∧ Q (!(es.size == 0)) s') E s := by
    refine wpAny_runValue (codeAny_builtin entry_len ?_)
    rw [Around.under_plainId plain_len _]
    refine wpAny_mono (body _) (fun fin s' h' => ?_) fun _ _ e => e
    obtain ⟨r, rfl, hq⟩ := h'
    exact hq
  have fin : ∀ (r : Value) (s' : Shared), (∃ t, r = .int es.size t ∧ Q (!(es.size == 0)) s') → Q ((es.size : Int) != 0) s' := fun r s' hh => by
    obtain ⟨t, _, hq⟩ := hh
    rw [hne]
    exact hq
  unfold truthy
  refine wpAny_bind (wpAny_callSpecial?_none (name := Str.ofString "__bool__") ty noBool_dict ?_)
  refine wpAny_bind (wpAny_specialOf (name := Str.ofString "__len__") ty F.slot_dict_len.lookup ?_)
  refine wpAny_bind (wpAny_mono key (fun r s' hh => ?_) fun _ _ e => e)
  obtain ⟨t, rfl, hq⟩ := hh
  exact wpAny_pure (by rw [hne]; exact hq)
end
variable [Wd]
theorem RepM.len {A : Addr → Prop} {H : Hp} : ∀ {vs : List K01.VEnt} {ds : List (Dt × Dt)}, RepM A H vs ds → vs.length = ds.length
  | _, _, .nil => rfl
  | _, _, .cons _ _ _ _ r => congrArg Nat.succ (RepM.len r)
theorem RepM.get {A : Addr → Prop} {H : Hp} : ∀ {vs : List K01.VEnt} {ds : List (Dt × Dt)} {i : Nat} {e : K01.VEnt}, RepM A H vs ds → vs[i]? = some e → ∃ p, ds[i]? = some p ∧ K01.KeyAt H e.1 e.2.1 ∧ Rep A H e.2.1 p.1 ∧ Rep A H e.2.2 p.2
  | _, _, _, _, .nil, e => by simp at e
  | _, _, 0, _, .cons h1 _ h2 h3 _, e => by
    simp at e
    subst e
    exact ⟨_, rfl, h1, h2, h3⟩
  | _, _, i + 1, e0, .cons _ _ _ _ r, e => by
    obtain ⟨p, q⟩ := RepM.get (i := i) (e := e0) r (by simpa using e)
    exact ⟨p, by simpa using q⟩
theorem RepM.getD {A : Addr → Prop} {H : Hp} : ∀ {vs : List K01.VEnt} {ds : List (Dt × Dt)} {i : Nat} {p : Dt × Dt}, RepM A H vs ds → ds[i]? = some p → ∃ e, vs[i]? = some e ∧ K01.KeyAt H e.1 e.2.1 ∧ Rep A H e.2.1 p.1 ∧ Rep A H e.2.2 p.2
  | _, _, _, _, .nil, e => by simp at e
  | _, _, 0, _, .cons h1 _ h2 h3 _, e => by
    simp at e
    subst e
    exact ⟨_, rfl, h1, h2, h3⟩
  | _, _, i + 1, e0, .cons _ _ _ _ r, e => by
    obtain ⟨p, q⟩ := RepM.getD (i := i) (p := e0) r (by simpa using e)
    exact ⟨p, by simpa using q⟩
theorem RepM.keys {A : Addr → Prop} {H : Hp} : ∀ {vs : List K01.VEnt} {ds : List (Dt × Dt)}, RepM A H vs ds → K01.KeysAt H vs
  | _, _, .nil, _, h => by cases h
  | _, _, .cons h1 _ _ _ r, p, h => by
    rcases List.mem_cons.mp h with rfl | h
    · exact h1
    · exact RepM.keys r p h
/-- truth, of a held dict of mixed keys too -/
def Tru3 (K : PySem.W.Frag) (w : World) (x : V) (H : Hp) (k : Bool) : Prop := Tru2 K x H k ∨ ∃ p o kvs, x = .ref p ∧ H p = some (.frz o (K01.MixO w p kvs)) ∧ kvs.length ≤ 1000 ∧ k = !kvs.isEmpty
omit [Wd] in
theorem pt_tru3 {X : Cx} {a : Expr} {ta : TE} (ha : PE X a ta) (he : ∀ whole, isTrue a X.env whole = (do let v ← whole; standAt a.pos; holding [v] (truthy v))) : PT X a (fun σ H Q => ta σ H fun x H' => ∃ k, Tru3 X.K X.w x H' k ∧ Q k H') := by
  refine ⟨fun pins s σ H Q I h => isTrue_plain (thn (ha.run pins s σ H _ I h) fun v s1 ⟨x, H1, I1, r1, k, t, q⟩ => ?_) (he _)⟩
  rcases t with (t | ⟨p, es, rfl, rd, rfl⟩) | ⟨p, o, kvs, rfl, hp, hl, rfl⟩
  · exact tru_ok pins s1 σ H1 x v Q I1 r1 ⟨k, t, q⟩
  · cases r1
    obtain ⟨z1, z2, us, kv, dd⟩ := dk_rd I1.hok rd
    have ln : es.length = us.length := Paired.length kv
    have l63 := line63
    have sl := sizeLine_eq
    refine wpAny_truthy_dict z2 dd (by omega) ⟨H1, I1.tok _, ?_⟩
    rw [isEmpty_kv kv]
    exact q
  · cases r1
    obtain ⟨hs, hgd, hx, es, ep, xs, hdt, hsz, _⟩ := K01.frzM I1 hp
    refine mtruth hs hgd hx hdt (by rw [hsz]; omega) fun t => ⟨H1, I1.tok _, ?_⟩
    have e : (!(es.size == 0)) = !kvs.isEmpty := by
      rw [hsz]
      cases kvs <;> rfl
    rw [e]
    exact q
def truX : Dt → Option Bool
  | .mix ks => if ks.length ≤ 1000 then some (!ks.isEmpty) else none
  | d => truD d
section
variable {ι : Type} {X : ι → Cx} {ac : Act}
theorem dt_truthX (K : PySem.W.Frag) {e : Expr} {T : TRd} (h : DB X ac e T) (hK : ∀ c, (X c).K = K := by intro _; rfl) (hw : ∀ c, (X c).w = Wd.w := by intro _; rfl) (he : ∀ c whole, isTrue e (X c).env whole = (do let v ← whole; standAt e.pos; holding [v] (truthy v)) := by intro _ _; rfl) : DT X ac e (fun n δ Q => T n δ fun d n' δ' => ∃ b, truX d = some b ∧ Q b n' δ') := by
  obtain ⟨t, p, ev⟩ := h
  refine ⟨fun σ H Q => t σ H fun x H' => ∃ k, Tru3 K Wd.w x H' k ∧ Q k H', fun c => by have q := pt_tru3 (p c) (he c); rw [hK c, hw c] at q; exact q, fun Γ gx σ A H n δ Qd Q R hT k => ev Γ gx σ A H n δ _ _ R hT fun v d A' H' n' δ' R' r m q => ?_⟩
  obtain ⟨b, e, q⟩ := q
  refine ⟨b, ?_, k b A' H' n' δ' R' m q⟩
  cases r with
  | rep r =>
    cases r with
    | non => cases e; exact .inl (.inl rfl)
    | bl b' => cases e; exact .inl (.inl rfl)
    | int i => cases e; exact .inl (.inl rfl)
    | lst h1 h2 h3 => cases e; exact .inl (.inl (.inl ⟨_, SqL.of h2, by rw [isE_len h3.len]⟩))
    | tup h1 h2 h3 => cases e; exact .inl (.inl (.inr (.inl ⟨_, SqT.of h2, by rw [isE_len h3.len]⟩)))
    | dic h1 h2 h3 => cases e; exact .inl (.inr ⟨_, _, rfl, .inr ⟨_, h2⟩, by rw [isE_len h3.len]⟩)
    | mix h1 h2 h3 =>
      rename_i kvs
      have e : (if kvs.length ≤ 1000 then some (!kvs.isEmpty) else none) = some b := e
      by_cases hl : kvs.length ≤ 1000
      · rw [if_pos hl] at e
        cases e
        exact .inr ⟨_, _, _, rfl, h2, by rw [h3.len]; exact hl, by rw [isE_len h3.len]⟩
      · rw [if_neg hl] at e
        cases e
    | _ => cases e
  | lst h2 h3 => cases e; exact .inl (.inl (.inl ⟨_, SqL.of h2, by rw [isE_len h3.len]⟩))
  | dic h2 h3 => cases e; exact .inl (.inr ⟨_, _, rfl, .inl h2, by rw [isE_len h3.len]⟩)
/-- the keys of a held dict of any keys -/
def keysD : Dt → Option (List Dt)
  | .dic kvs => some (kvs.map fun p => keyT p.1)
  | .mix kvs => some (kvs.map (·.1))
  | _ => none
theorem di_keysX {tg e : Expr} {T : TRd} (h : DR X ac e T) (pi : ∀ c {t : TE}, PE (X c) e t → PI (X c) tg e (K01.iKeysX Wd.w t)) : DI X ac tg e (fun n δ Q => T n δ fun d n' δ' => ∃ ds, keysD d = some ds ∧ Q ds n' δ') := by
  obtain ⟨t, p, ev⟩ := h
  refine ⟨_, fun c => pi c (p c), fun Γ gx σ A H n δ Qd R0 R hT k => ev Γ gx σ A H n δ _ _ R hT fun v d A' H' n' δ' R' r m q => ?_⟩
  obtain ⟨ds, e, q⟩ := q
  cases d with
  | dic kvs =>
    cases e
    obtain ⟨a, o, es, rfl, ha, he, hr⟩ := rep_dic r
    exact ⟨a, o, rfl, .inl ⟨es, he, k _ _ A' H' n' δ' R' (isIt_keys ha he hr) m q⟩⟩
  | mix kvs =>
    cases e
    obtain ⟨a, o, es, rfl, ha, he, hr⟩ := rep_mix r
    refine ⟨a, o, rfl, .inr ⟨es, he, k _ _ A' H' n' δ' R' ?_ m q⟩⟩
    unfold IsIt
    rw [List.length_map, ← hr.len]
    refine (K01.walk_M (w := Wd.w) (d := a) (o := o) (kvs := es)).mono (fun H2 ⟨A2, kk⟩ => kk.ob a _ ha he) fun i H1 x H2 hi _ y A2 kk dm => ?_
    obtain ⟨rfl, p, e, rfl⟩ := y
    obtain ⟨p2, e2, _, r2, _⟩ := hr.get e
    exact ⟨A2, p2.1, .refl dm, by rw [List.getElem?_map, e2]; rfl, r2.kp kk⟩
  | _ => cases e
/-- what stands at a key -/
def atD (d kd x : Dt) : Prop := (∃ kvs k, d = .dic kvs ∧ keyD kd = some k ∧ valD kvs k = some x) ∨ ∃ (kvs : List (Dt × Dt)) (i : Nat), d = .mix kvs ∧ kvs[i]? = some (kd, x) ∧ (kd = .non ∨ ∃ k, keyD kd = some k)
theorem dr_dgetX {a i e : Expr} {Ta Ti : TRd} (pe : ∀ c {t ti : TE}, PE (X c) a t → PE (X c) i ti → PE (X c) e (K01.tDGetX2 Wd.w t ti)) (ha : DR X ac a Ta) (hi : DR X ac i Ti) :
    DR X ac e (fun n δ Q => Ta n δ fun d n1 δ1 => Ti n1 δ1 fun kd n2 δ2 => ∃ x, atD d kd x ∧ Q x n2 δ2) := by
  obtain ⟨t, p, ev⟩ := ha
  obtain ⟨ti, pi, evi⟩ := hi
  refine ⟨_, fun c => pe c (p c) (pi c), fun Γ gx σ A H n δ Qd Q R hT kk => ev Γ gx σ A H n δ _ _ R hT fun v d A1 H1 n1 δ1 R1 r1 m1 q1 => evi Γ gx σ A1 H1 n1 δ1 _ _ R1 q1 fun w e A2 H2 n2 δ2 R2 r2 m2 q2 => ?_⟩
  obtain ⟨x, hx, q⟩ := q2
  rcases hx with ⟨kvs, k, rfl, ek, ex⟩ | ⟨kvs, j, rfl, ej, hk⟩
  · obtain ⟨b, es, rfl, rd, rk⟩ := bor_dic (.rep (r1.kp (m2.kp R1)))
    obtain rfl := rep_key r2 ek
    rcases rk.val k with ⟨_, h2⟩ | ⟨u, d, h1, h2, h3⟩
    · rw [h2] at ex
      cases ex
    · rw [h2] at ex
      cases ex
      exact ⟨b, u, rfl, .inl (.inl ⟨es, k, rd, rfl, h1.symm⟩), kk u _ A2 H2 n2 δ2 R2 h3 (m1.trans m2) q⟩
  · obtain ⟨b, o, es, rfl, hb, he, hr⟩ := rep_mix (r1.kp (m2.kp R1))
    obtain ⟨en, e1, ka, rkey, rval⟩ := hr.getD ej
    have same : w = en.2.1 := by
      rcases hk with rfl | ⟨k, ek⟩
      · rw [rep_non r2, rep_non rkey]
      · rw [rep_key r2 ek, rep_key rkey ek]
    subst same
    exact ⟨b, en.2.2, rfl, .inr ⟨o, es, en.1, he, hr.keys, ka, en.2.1, List.mem_of_getElem? e1⟩, kk _ _ A2 H2 n2 δ2 R2 rval (m1.trans m2) q⟩
end
end DL
/-! ## DL19 -/
set_option Elab.async false
set_option linter.all false
set_option maxRecDepth 100000
set_option maxHeartbeats 4000000
/-! d.get(k, x); a <= b < c. -/
namespace DL
open PySem PySem.Spec PyProof.Rows L2
variable [Wd]
section
variable {ι : Type} {X : ι → Cx} {ac : Act}
/-- d.get(k, x): d a name's own or read, the others quiet -/
theorem dr_get2 {a i x e : Expr} {Ta : TRd} {Ti Tx : TQd} (pe : ∀ c {t ti tx : TE}, PE (X c) a t → PE (X c) i ti → PE (X c) x tx → PE (X c) e (tDGet2 t ti tx)) (ha : DB X ac a Ta) (hi : DQ X ac i Ti) (hx : DQ X ac x Tx) :
    DR X ac e (fun n δ Q => Ta n δ fun d n1 δ1 => ∃ kvs, d = .dic kvs ∧ Ti δ1 fun kd => Tx δ1 fun xd => ∃ k, keyD kd = some k ∧ Q ((valD kvs k).getD xd) n1 δ1) := by
  obtain ⟨t, p, ev⟩ := ha
  obtain ⟨ti, pi, evi⟩ := hi
  obtain ⟨tx, px, evx⟩ := hx
  refine ⟨_, fun c => pe c (p c) (pi c) (px c), fun Γ gx σ A H n δ Qd Q R hT kk => ev Γ gx σ A H n δ _ _ R hT fun v d A1 H1 n1 δ1 R1 r1 m1 q1 => ?_⟩
  obtain ⟨kvs, rfl, q1⟩ := q1
  obtain ⟨b, es0, rfl, rd0, _⟩ := bor_dic r1
  refine ⟨b, rfl, .inl ⟨es0, rd0⟩, evi Γ gx σ A1 H1 n1 δ1 _ _ R1 q1 fun y kd A2 H2 g2 r2 q2 => evx Γ gx σ A2 H2 n1 δ1 _ _ (R1.grow g2) q2 fun z xd A3 H3 g3 r3 q3 => ?_⟩
  obtain ⟨k, ek, q⟩ := q3
  obtain ⟨b', es, e, rd, rk⟩ := bor_dic ((r1.grow g2).grow g3)
  cases e
  obtain rfl := rep_key (r2.kp g3.k) ek
  have R3 := (R1.grow g2).grow g3
  have m3 : Mv Γ σ δ A H δ1 A3 H3 := (m1.trans (.grow g2)).trans (.grow g3)
  rcases rk.val k with ⟨h1, h2⟩ | ⟨u, d, h1, h2, h3⟩
  · rw [h2] at q
    exact ⟨none, .inl ⟨es, k, rd, rfl, h1.symm⟩, kk z xd A3 H3 n1 δ1 R3 r3 m3 q⟩
  · rw [h2] at q
    exact ⟨some u, .inl ⟨es, k, rd, rfl, h1.symm⟩, kk u d A3 H3 n1 δ1 R3 h3 m3 q⟩
/-- two comparisons of ints, the middle one asked once -/
theorem dt_chain {a b c e : Expr} {ga gb : Int → Int → Bool} {Ta Tb Tc : TRd} (pt : ∀ x {ta tb tc : TE}, PE (X x) a ta → PE (X x) b tb → PE (X x) c tc → PT (X x) e (tTest (tChain (rI0 fun i j => .bl (ga i j)) (rI0 fun i j => .bl (gb i j)) ta tb tc)))
    (ha : DR X ac a Ta) (hb : DR X ac b Tb) (hc : DR X ac c Tc) :
    DT X ac e (fun n δ Q => Ta n δ fun d n1 δ1 => Tb n1 δ1 fun d2 n2 δ2 => ∃ i j, d = .int i ∧ d2 = .int j ∧ dIte (ga i j) (Tc n2 δ2 fun d3 n3 δ3 => ∃ k, d3 = .int k ∧ Q (gb j k) n3 δ3) (Q false n2 δ2)) := by
  obtain ⟨ta, pa, ea⟩ := ha
  obtain ⟨tb, pb, eb⟩ := hb
  obtain ⟨tc, pc, ec⟩ := hc
  refine ⟨_, fun x => pt x (pa x) (pb x) (pc x), fun Γ gx σ A H n δ Qd Q R hT kk => ea Γ gx σ A H n δ _ _ R hT fun v d A1 H1 n1 δ1 R1 r1 m1 q1 => eb Γ gx σ A1 H1 n1 δ1 _ _ R1 q1 fun w d2 A2 H2 n2 δ2 R2 r2 m2 q2 => ?_⟩
  obtain ⟨i, j, rfl, rfl, q⟩ := q2
  have m12 := m1.trans m2
  refine ⟨i, j, rep_int r1, rep_int r2, ga i j, rfl, ?_⟩
  cases h : ga i j with
  | true =>
    refine (if_pos rfl).mpr (ec Γ gx σ A2 H2 n2 δ2 _ _ R2 (q.1 h) fun u d3 A3 H3 n3 δ3 R3 r3 m3 q3 => ?_)
    obtain ⟨k, rfl, q3⟩ := q3
    exact ⟨j, k, rep_int r2, rep_int r3, gb j k, rfl, kk _ A3 H3 n3 δ3 R3 (m12.trans m3) q3⟩
  | false => exact (if_neg Bool.false_ne_true).mpr ⟨false, rfl, kk false A2 H2 n2 δ2 R2 m12 (q.2 h)⟩
end
end DL
/-! ## DL20 -/
set_option Elab.async false
set_option linter.all false
set_option maxRecDepth 100000
set_option maxHeartbeats 4000000
/-! Objects made; targets of a tuple. -/
namespace DL
open PySem PySem.Spec PyProof.Rows L2
variable [Wd]
/-- an __init__ that keeps its arguments under these names -/
def spFill (C : Addr) (ns : List Str) : Sp := fun vs H Q _ => ∃ (x dx : Addr) (us : List V), vs = .ref x :: us ∧ us.length = ns.length ∧ H x = some (.ins C dx []) ∧ Q .non (upd H x (.ins C dx (ns.zip us)))
theorem repF_zip {A : Addr → Prop} {H : Hp} : ∀ {ns : List Str} {us : List V} {ds : List Dt}, Reps A H us ds → RepF A H (ns.zip us) (ns.zip ds)
  | [], _, _, _ => .nil
  | _ :: _, _, _, .nil => .nil
  | _ :: _, _, _, .cons h r => .cons h (repF_zip r)
section
variable {ι : Type} {X : ι → Cx} {ac : Act}
theorem dr_fill {C : Addr} {ns : List Str} {e : Expr} {es : List Expr} {Ts : TAd} {Ec : XK} (pe : ∀ c {t : TA}, PA (X c) es t → PE (X c) e (tMake C (spFill C ns) [] Ec t)) (ha : DA X ac es Ts) :
    DR X ac e (fun n δ Q => Ts n δ fun rs n' δ' => ∃ ds, rs = ds.map Sl.ro ∧ ds.length = ns.length ∧ Q (.ins C (ns.zip ds)) n' δ') := by
  obtain ⟨ts, ps, evs⟩ := ha
  refine ⟨_, fun c => pe c (ps c), fun Γ gx σ A H n δ Qd Q R hT k => evs Γ gx σ A H n δ _ _ R hT fun vs rs A1 H1 n1 δ1 R1 r1 m1 q1 => fun x dx nx ndx ne => ?_⟩
  obtain ⟨ds, rfl, hl, q1⟩ := q1
  have rr := ras_ro r1
  rw [List.append_nil]
  refine ⟨x, dx, vs, rfl, by rw [rr.len]; exact hl, upd_same, rfl, ?_⟩
  have old : ∀ b o, H1 b = some o → upd (upd (upd H1 dx (.own x)) x (.ins C dx [])) x (.ins C dx (ns.zip vs)) b = some o := fun b o e => by
    rw [upd_ne (ne_of_none e nx), upd_ne (ne_of_none e nx), upd_ne (ne_of_none e ndx)]
    exact e
  have g : Grow A1 H1 (fun b => A1 b ∨ b = x) (upd (upd (upd H1 dx (.own x)) x (.ins C dx [])) x (.ins C dx (ns.zip vs))) := ⟨old, fun b h => .inl h, fun b h => by
    rcases h with h | rfl
    · exact .inl h
    · exact .inr nx, fun b h z => by
    rcases h with h | rfl
    · cases q : H1 b with
      | none => exact R1.dom b h q
      | some o =>
        rw [old b o q] at z
        cases z
    · rw [upd_same] at z
      cases z⟩
  exact k (.ref x) _ _ _ n1 δ1 (R1.grow g) (.ins (.inr rfl) upd_same (repF_zip (rr.kp g.k))) (m1.trans (.grow g)) q1
/-- (a, b) = e -/
theorem ds_unp {vs : List Nat} {tg e : Expr} {T : TRd} {G : TGd} {st : Stmt} (ps : ∀ c {t : TE} {g : TG}, PE (X c) e t → PG (X c) tg g → PS (X c) st (tAsg t g)) (h : DR X ac e T) (hg : DG X ac vs tg G) :
    DS X ac st (fun n δ E => T n δ fun d n' δ' => G d δ' fun δ2 => E.nx n' δ2) := by
  obtain ⟨t, p, ev⟩ := h
  obtain ⟨g, pg, eg⟩ := hg
  exact ⟨_, fun c => ps c (p c) (pg c), fun Γ gx σ A H n δ D E R s hT => ev Γ gx σ A H n δ _ _ R hT fun v d A1 H1 n1 δ1 R1 r1 m1 q1 => eg Γ gx σ A1 H1 n1 δ1 v d _ _ R1 r1 q1 fun σ' δ2 R2 _ _ q2 => s.nx σ' δ2 A1 H1 n1 R2 (m1.kp R) q2⟩
/-- x += e, ints -/
theorem ds_augI {i : Nat} {e : Expr} {st : Stmt} {T : TRd} (ps : ∀ c {t : TE}, PE (X c) e t → PS (X c) st (tAug i t (ipI fun i j => i + j))) (h : DR X ac e T) :
    DS X ac st (fun n δ E => ∃ a : Int, δ[i]? = some (.ro (.int a)) ∧ T n δ fun d n' δ' => ∃ b : Int, d = .int b ∧ E.nx n' (δ'.set i (.ro (.int (a + b))))) := by
  obtain ⟨t, p, ev⟩ := h
  refine ⟨_, fun c => ps c (p c), fun Γ gx σ A H n δ D E R s hT => ?_⟩
  obtain ⟨a, e1, hT⟩ := hT
  obtain ⟨x, h1, h2⟩ := slR_get R.sl e1
  cases x with
  | none => exact h2.elim
  | some v =>
    obtain rfl : v = .int a := rep_int h2
    refine ⟨_, h1, ev Γ gx σ A H n δ _ _ R hT fun v d A1 H1 n1 δ1 R1 r1 m1 q1 => ?_⟩
    obtain ⟨b, rfl, q1⟩ := q1
    have rr : RRel Γ H1 A1 H1 σ δ1 (.int (a + b)) (.ro (.int (a + b))) := show Rep A1 H1 _ _ from .int _
    exact ⟨a, b, rfl, rep_int r1, s.nx _ _ A1 H1 n1 (R1.set rr) (m1.kp R) q1⟩
end
end DL
/-! ## DL21 -/
set_option Elab.async false
set_option linter.all false
set_option maxRecDepth 100000
set_option maxHeartbeats 4000000
/-! Sets of their own. -/
namespace DL
open PySem PySem.Spec PyProof.Rows L2
variable [Wd]
section
variable {ι : Type} {X : ι → Cx} {ac : Act}
/-- set() -/
theorem de_set0 {e : Expr} (pe : ∀ c, PE (X c) e (fun σ H Q => rSet0K Wd.P Wd.w [] H Q)) : DE X ac e (fun n δ Q => Q (.own (.set (fun _ => false) 0)) n δ) := by
  refine ⟨_, pe, fun Γ gx σ A H n δ Qd Q R hT k => ⟨rfl, fun p np => ?_⟩⟩
  have g : Grow A H A (upd H p (SetK Wd.P Wd.w p (fun _ => false) 0)) := .new np R.dom
  exact k (.ref p) (.own (.set (fun _ => false) 0)) A _ n δ (R.grow g) (RRel.new R g (fun _ h => h) (fun d e => by cases e) (fun d e => by cases e; exact ⟨p, rfl, np, fun z => R.dom p z np, upd_same⟩) (fun e => by cases e) (fun e => by cases e)) (.grow g) hT
/-- x.add(e) -/
theorem ds_sadd {i : Nat} {e : Expr} {T : TRd} {st : Stmt} (ps : ∀ c {t : TE}, PE (X c) e t → PS (X c) st (tDrop (tSAddK Wd.P Wd.w (tVar i) (tCons t tNil)))) (h : DR X ac e T) :
    DS X ac st (fun n δ E => (∃ S m, δ[i]? = some (.own (.set S m))) ∧ T n δ fun d n' δ' => ∃ S m k, keyD d = some k ∧ δ'[i]? = some (.own (.set S m)) ∧ m + 1 < scanBound ∧ E.nx n' (δ'.set i (.own (.set (fun j => S j || decide (j = k)) (if S k = true then m else m + 1))))) := by
  obtain ⟨t, p, ev⟩ := h
  refine ⟨_, fun c => ps c (p c), fun Γ gx σ A H n δ D E R s h => ?_⟩
  obtain ⟨⟨S0, m0, e0⟩, h⟩ := h
  obtain ⟨y, h1, h2⟩ := slR_get R.sl e0
  obtain ⟨a, rfl, hx0⟩ := slR_own h2
  refine ⟨_, h1, ⟨a, S0, m0, rfl, hx0⟩, ev Γ gx σ A H n δ _ _ R h fun v d A1 H1 n1 δ1 R1 r1 m1 q1 => ?_⟩
  obtain ⟨S, m, k, ek, e1, hl, q1⟩ := q1
  obtain ⟨y1, h3, h4⟩ := slR_get R1.sl e1
  obtain ⟨a', e2, hx⟩ := slR_own h4
  rw [h1] at h3
  have e3 : some (V.ref a) = some (V.ref a') := (Option.some.inj h3).trans e2
  cases e3
  obtain ⟨_, na, _⟩ := R1.fo a (owns_at h1 e1)
  obtain rfl := rep_key r1 ek
  have kk : ∀ o, Kp A1 H1 A1 (upd H1 a o) := fun o => .of (fun _ h => h) fun b u hb q => by
    rw [upd_ne (neA hb na)]
    exact q
  exact ⟨a, k, S, m, rfl, rfl, hx, hl, s.nx _ _ A1 _ n1 (R1.up (d' := .set (fun j => S j || decide (j = k)) (if S k = true then m else m + 1)) h1 e1 upd_same) ((m1.kp R).trans (kk _)) q1⟩
/-- e in x -/
theorem dt_sin {i : Nat} {e st : Expr} {T : TRd} (pt : ∀ c {t : TE}, PE (X c) e t → PT (X c) st (tTest (tOp (rSInK Wd.P Wd.w false) t (tVar i)))) (h : DR X ac e T) :
    DT X ac st (fun n δ Q => T n δ fun d n' δ' => ∃ k S m, keyD d = some k ∧ δ'[i]? = some (.own (.set S m)) ∧ Q (S k) n' δ') := by
  obtain ⟨t, p, ev⟩ := h
  refine ⟨_, fun c => pt c (p c), fun Γ gx σ A H n δ Qd Q R hT kk => ev Γ gx σ A H n δ _ _ R hT fun v d A1 H1 n1 δ1 R1 r1 m1 q1 => ?_⟩
  obtain ⟨k, S, m, ek, e1, q⟩ := q1
  obtain ⟨y, h1, h2⟩ := slR_get R1.sl e1
  obtain ⟨a, rfl, hx⟩ := slR_own h2
  obtain rfl := rep_key r1 ek
  exact ⟨_, h1, k, a, S, m, rfl, rfl, hx, S k, rfl, kk (S k) A1 H1 n1 δ1 R1 m1 q⟩
end
end DL
/-! ## DL22 -/
set_option Elab.async false
set_option linter.all false
set_option maxRecDepth 100000
set_option maxHeartbeats 4000000
/-! d[k] = v, d a name's own. -/
namespace DL
open PySem PySem.Spec PyProof.Rows L2
theorem cut_head {xs : List V} {k : Nat} : cutV xs none (some (k : Int)) = xs.take k := by
  unfold cutV
  rw [HT.sIx_none, HT.sIx_nat]
  rw [List.drop_zero, Nat.sub_zero]
  by_cases h : k ≤ xs.length
  · rw [Nat.min_eq_left h]
  · rw [Nat.min_eq_right (by omega), List.take_of_length_le (Nat.le_refl _), List.take_of_length_le (by omega)]
variable [Wd]
section
variable {ι : Type} {X : ι → Cx} {ac : Act}
theorem ds_dput {i : Nat} {ke ve : Expr} {Tk Tv : TRd} {st : Stmt} (ps : ∀ c {tk tv : TE}, PE (X c) ke tk → PE (X c) ve tv → PS (X c) st (sDPut (tVar i) tk tv)) (hk : DR X ac ke Tk) (hv : DR X ac ve Tv) :
    DS X ac st (fun n δ E => Tv n δ fun v n1 δ1 => (∃ kvs, δ1[i]? = some (.own (.dic kvs))) ∧ Tk n1 δ1 fun kd n2 δ2 => ∃ kvs k, keyD kd = some k ∧ δ2[i]? = some (.own (.dic kvs)) ∧ kvs.length < sizeLine ∧ E.nx n2 (δ2.set i (.own (.dic (putD kvs k v))))) := by
  obtain ⟨tk, pk, ek⟩ := hk
  obtain ⟨tv, pv, ev⟩ := hv
  refine ⟨_, fun c => ps c (pk c) (pv c), fun Γ gx σ A H n δ D E R s h => ev Γ gx σ A H n δ _ _ R h fun v d A1 H1 n1 δ1 R1 r1 m1 q1 => ?_⟩
  obtain ⟨⟨kvs0, e0⟩, q1⟩ := q1
  obtain ⟨y, h1, h2⟩ := slR_get R1.sl e0
  obtain ⟨a, rfl, _⟩ := slR_own h2
  refine ⟨_, h1, ek Γ gx σ A1 H1 n1 δ1 _ _ R1 q1 fun w kd A2 H2 n2 δ2 R2 r2 m2 q2 => ?_⟩
  obtain ⟨kvs, k, ekk, e1, hl, q2⟩ := q2
  obtain ⟨y1, h3, h4⟩ := slR_get R2.sl e1
  obtain ⟨a', e2, es, hx, hr⟩ := slR_own h4
  rw [h1] at h3
  have e3 : some (V.ref a) = some (V.ref a') := (Option.some.inj h3).trans e2
  cases e3
  obtain ⟨_, na, _⟩ := R2.fo a (owns_at h1 e1)
  obtain rfl := rep_key r2 ekk
  have kk : Kp A2 H2 A2 (upd H2 a (.dK (putK es k v))) := .of (fun _ h => h) fun b u hb q => by
    rw [upd_ne (neA hb na)]
    exact q
  exact ⟨a, _, rfl, .inl ⟨es, k, hx, rfl, by rw [hr.len]; exact hl, rfl⟩, s.nx _ _ A2 _ n2 (R2.up (d' := .dic (putD kvs k d)) h1 e1 ⟨_, upd_same, (hr.kp kk).put ((r1.kp (m2.kp R1)).kp kk)⟩) (((m1.trans m2).kp R).trans kk) q2⟩
/-- a[:j] -/
theorem de_sliceTo {K : PySem.W.Frag} {a j e : Expr} {Ta Tj : TRd} (pe : ∀ c {t tj : TE}, PE (X c) a t → PE (X c) j tj → PE (X c) e (tSl (rSlL K) t tNoPart (tPart tj))) (ha : DR X ac a Ta) (hj : DR X ac j Tj) :
    DE X ac e (fun n δ Q => Ta n δ fun d n1 δ1 => Tj n1 δ1 fun dj n2 δ2 => ∃ (ds : List Dt) (m : Nat), d = .lst ds ∧ dj = .int (m : Nat) ∧ Q (.own (.lst (ds.take m))) n2 δ2) := by
  obtain ⟨t, p, ev⟩ := ha
  obtain ⟨tj, pj, evj⟩ := hj
  refine ⟨_, fun c => pe c (p c) (pj c), fun Γ gx σ A H n δ Qd Q R hT k => ev Γ gx σ A H n δ _ _ R hT fun v d A1 H1 n1 δ1 R1 r1 m1 q1 => evj Γ gx σ A1 H1 n1 δ1 _ _ R1 q1 fun w dj A2 H2 n2 δ2 R2 r2 m2 q2 => ?_⟩
  obtain ⟨ds, m, rfl, rfl, q⟩ := q2
  obtain ⟨b, xs, rfl, hb, hx, rs⟩ := rep_lst (r1.kp (m2.kp R1))
  refine ⟨(m : Nat), rep_int r2, b, xs, rfl, SqL.of hx, fun l nl => ?_⟩
  have e : cutV xs none (some ((m : Nat) : Int)) = xs.take m := cut_head
  rw [e]
  obtain ⟨g, nA, ho⟩ := new_own nl R2.dom (rs.take m)
  exact k (.ref l) (.own (.lst (ds.take m))) A2 _ n2 δ2 (R2.grow g) (RRel.new R2 g (m1.trans m2).was (fun d e => by cases e) (fun d e => by cases e; exact ⟨l, rfl, nl, nA, ho⟩) (fun e => by cases e) (fun e => by cases e)) ((m1.trans m2).trans (.grow g)) q
end
end DL
/-! ## DL23 -/
set_option Elab.async false
set_option linter.all false
set_option maxRecDepth 100000
set_option maxHeartbeats 4000000
/-! A lambda made: what becomes of the table, told to the letter; a def that gets one and meets what it lets out. -/
namespace DL
open PySem PySem.Spec PyProof.Rows L2 LamX
/-- a lambda of the name q is made: its code object stands in the table at P, or is put there -/
inductive Lamd (H : Hp) (P : Addr) (q : Str) : Hp → Prop
  | old : Lamd H P q H
  | new {n : Addr} {tb more : Array Value} : H P = some (.tbl tb) → H n = none → TriplesOk (tb ++ more).toList → (∀ (at_ : Pos) (z : Value), codeAmong at_ (tb ++ more).toList = some z → codeAmong at_ tb.toList = some z ∨ z = .ref n) →
      Lamd H P q (upd (upd H P (.tbl (tb ++ more))) n (CodeO n q))
section
variable {X : Cx} {pins : List (Addr × Obj)} {σ : L2.St} {H : Hp} {s : Shared}
theorem off_stack (I : Inv X pins σ H s) {a : Addr} (big : s.heap.objs.size ≤ a) : a ∉ frs X.stack := by
  intro hm
  have sub := I.stkSub _ hm
  rcases List.mem_cons.mp sub with e | e
  · have small := I.lt
    rw [← e] at small
    exact absurd (Nat.lt_of_lt_of_le small big) (Nat.lt_irrefl _)
  · exact I.nofs big e
theorem lam_new {P c : Addr} {params : Arguments} {body : Expr} {scope : Scope} {pos : Pos} {E Q : Value → Shared → Prop} (I : Inv X pins σ H s) (TB : TabB X.base X.mg c P) (code : X.env.code = .ref c) (tab : TabS H P (X.env.qual ++ "<lambda>"))
    (dft : defaultsOf params X.env = ([], [])) (frees : ∀ y ∈ scope.names, y.2 = .free → ∃ b, X.env.cells.lookup y.1 = some b)
    (go : ∀ (f n : Addr) (pm ct : Value) (H1 : Hp) (s1 : Shared), Inv X pins σ H1 s1 → Lamd H P (X.env.qual ++ "<lambda>") H1 → s1.heap.get? f = some (PySem.W.kla_obj "<lambda>" (X.env.qual ++ "<lambda>") params body scope (cloFrom X.env.cells scope.names []) pm n ct) →
      H1 f = none → f ∉ frs X.stack → H1 n = some (CodeO n (X.env.qual ++ "<lambda>")) → Q (.ref f) s1) : wpAny (model X.prog X.w) X.A (eval (.Lambda params body scope pos) X.env) Q E s := by
  obtain ⟨tb, eP, okT, amongT⟩ := tab
  have builtin := TB.bm.keeps I.bk
  have objP : s.heap.get? P = some { cls := .none, data := .fields tb } := I.hok P _ eP
  apply PySem.W.kla_eval dft
  rcases found : codeAmong pos tb.toList with _ | z
  · refine PySem.W.kla_makeFunction (mg := X.mg) (c := c) (P := P) (ps := tb) (closure_ok frees) I.ok.glob (I.mod.glob.keeps I.bk) code (TB.code.keeps I.bk) objP okT found TB.gP builtin fun n ct h1 tk ext big small rec1 tab1 => ?_
    obtain ⟨n2, ob, fs, tok, en, hob, hfs, hnm⟩ := rec1
    cases en
    have Hn : H n = none := I.hok.fresh big
    have le1 : s.heap.objs.size ≤ h1.objs.size := by omega
    have J := inv_table (t' := tk) (more := #[rawInt pos.line, rawInt pos.col, .ref n]) (h' := h1.push (PySem.W.kla_obj "<lambda>" (X.env.qual ++ "<lambda>") params body scope (cloFrom X.env.cells scope.names []) ((X.mg "__name__").getD .none) n ct)) I eP
      (fun b o nb e => Heap.get?_push_of_some _ (ext b o nb e)) (Heap.get?_push_of_some _ tab1) big ⟨ob, fs, tok, Heap.get?_push_of_some _ hob, hfs, hnm⟩
    have lst : (tb ++ #[rawInt pos.line, rawInt pos.col, .ref n]).toList = tb.toList ++ [rawInt pos.line, rawInt pos.col, .ref n] := by simp
    have atP := Heap.lt_size objP
    refine go h1.objs.size n ((X.mg "__name__").getD .none) ct _ _ J (.new eP Hn ?_ fun at_ z q => ?_) (Heap.get?_push_size _ rfl) ?_ (off_stack I le1) upd_same
    · rw [lst]
      exact PySem.TriplesOk_snoc _ _ _ _ okT
    · rw [lst] at q
      exact among_app _ okT q
    · have far := Nat.ne_of_gt (Nat.lt_of_lt_of_le atP le1)
      rw [upd_ne (Nat.ne_of_gt small), upd_ne far]
      exact I.hok.fresh le1
  · obtain ⟨n, ez, hn⟩ := amongT pos z found
    subst ez
    refine PySem.W.kla_makeFunctionHit (mg := X.mg) (c := c) (P := P) (ps := tb) (closure_ok frees) I.ok.glob (I.mod.glob.keeps I.bk) code (TB.code.keeps I.bk) objP okT found builtin fun ct h1 tk ext le1 => ?_
    have J : Inv X pins σ H { s with heap := h1.push (PySem.W.kla_obj "<lambda>" (X.env.qual ++ "<lambda>") params body scope (cloFrom X.env.cells scope.names []) ((X.mg "__name__").getD .none) n ct), toks := tk } := I.kept fun b o e => Heap.get?_push_of_some _ (ext b o e)
    exact go h1.objs.size n ((X.mg "__name__").getD .none) ct H _ J .old (Heap.get?_push_size _ rfl) (I.hok.fresh le1) (off_stack I le1) hn
/-- what is asked, what a def makes of the lambda that it gets -/
def tLamD (P : Addr) (q : Str) (TT : (XK → Hp → VK → Prop) → Hp → VK → Prop) (t : XK → TE) : TE := fun σ H Q => TabS H P q ∧ ∀ H1, Lamd H P q H1 → TT (fun E H2 Q2 => t E σ H2 Q2) H1 Q
end
section
variable {X : Cx}
theorem pe_lamD {TT : (XK → Hp → VK → Prop) → Hp → VK → Prop} {x a : Str} {g c P : Addr} {k : Nat} {pg : Arguments} {bg : List Stmt} {sg : Scope} {dV kV doc pm cdv ct oc : Value} {an od : Option Addr} {osl : Array (Option Value)} {Ng : List Str} {params : Arguments} {body : Expr} {scope : Scope} {t : XK → TE} {p lpos pos : Pos}
    (gl : Gl X x) (mg : X.mg x = some (.ref g)) (kp : PySem.W.keepIn X.K (.ref g) = true) (lk : X.K.lookup g = some ⟨oc, od, .func (PySem.W.fnOf x x pg bg sg dV kV doc pm an cdv ct), osl⟩) (cod : PySem.W.codeIn X.K cdv x = true) (bind : L2.Binds X.K (PySem.W.fnOf x x pg bg sg dV kV doc pm an cdv ct) [a] [])
    (Sg : FnScope Ng [a] sg) (n0 : Ng[0]? = some a) (vis : Vis sg a) (G : GivesTo X Ng x sg g cdv bg a (X.env.qual ++ "<lambda>") TT) (TB : TabB X.base X.mg c P) (code : X.env.code = .ref c) (room : Room (k + 2) X.A) (L : LamS X.env.scope scope) (dft : defaultsOf params X.env = ([], []))
    (none_ : ∀ (q : Str) (cl : List (Str × Addr)) (pm cv ctv : Value), bindArgs (PySem.W.kla_fn "<lambda>" q params body scope cl pm cv ctv) ⟨[], []⟩ = pure [])
    (inside : ∀ (A : Around) (outer : List Env) (s : Shared) (H : Hp) (E : XK) (f n : Addr), Room k (A.deeper (lamEnv X scope s.heap.objs.size f n)) → PE (lamCx X A outer s H E scope f n) body (t E))
    (d1 : (x == ("__debug__" : Str)) = false := by decide) (d2 : (a == ("__debug__" : Str)) = false := by decide) (d3 : (a == ("__classdict__" : Str)) = false := by decide) :
    PE X (.Call (.Name x p) [.Lambda params body scope lpos] [] pos) (tLamD P (X.env.qual ++ "<lambda>") TT t) := by
  constructor
  rintro pins s σ H Q I ⟨tab, h⟩
  apply wpAny_Call_Name_kw (ld_glob I gl mg ?_ d1)
  apply PySem.W.callWith_K (h₀ := X.base) I.ok.mod.kin kp ?_ (by rfl) (by rfl)
  change wpAny _ _ (spliced ((false, eval (.Lambda params body scope lpos) X.env) :: backTo pos (starEach [] X.env))) _ _ s
  apply Calls.spliced_cons
  refine lam_new I TB code tab dft (L.has I.ok) fun f n pm' ct' H1 s1 J made obj nf off hn => Calls.spliced_nil ⟨J.kIn, ?_⟩
  have called : codeAny (model X.prog X.w) X.A (.call (.ref g) ⟨[.ref f], []⟩) (CR C8.CX0 X.stack X.prog X.w H1 s1 Q C8.E0) s1 := by
    refine run_ofS (N := Ng) (ps := [a]) (us := [.ref f]) (vs := [.ref f]) lk cod Sg room J.env0 (bind s1 [.ref f] J.kIn rfl) (.cons rfl .nil) rfl fun room2 => ?_
    obtain ⟨t2, r2, q2⟩ := G f n s1 H1 Q (fun E H2 Q2 => t E σ H2 Q2) (fun W pn xe E p1 p2 takes hand => pe_act (i := 0) J L obj nf off (none_ _ _ _ _ _) takes hand room2 (fun A outer s H r => inside A outer s H E f n r) n0 vis d2 d3) hn (h H1 made)
    exact ⟨t2, r2.nox, q2⟩
  apply wpAny_call
  refine codeAny_mono called fun r s2 q => ?_
  rcases r with e | fl
  · exact False.elim q
  · rcases fl with _ | _ | _ | u
    all_goals first
      | exact J.after q
      | exact False.elim q
end
end DL
/-! ## R9 -/
set_option Elab.async false
set_option linter.all false
set_option maxRecDepth 100000
set_option maxHeartbeats 4000000
/-! Several except clauses, each with a name. -/
namespace K01
open PySem PySem.Spec PyProof.Rows L2
/-- what the clauses wish of an exception of the body, one after the other; slot i is the name's -/
def wManyA (K : PySem.W.Frag) (Wout : WX) (D : Ends) (i m : Nat) : List (Value × (Addr → Value → Option Addr → TS)) → WX
  | [] => Wout
  | (c, ts) :: r => fun cls d σ H => ∃ b, PySem.W.exmOne K cls c = some b ∧
      (b = true → ∀ a, H a = none → σ.length = m → ts a cls d { nx := fun σ' H' => D.nx (σ'.set i none) H', rt := D.rt, bk := fun σ' H' => D.bk (σ'.set i none) H', ct := fun σ' H' => D.ct (σ'.set i none) H' } (σ.set i (some (.ref a))) H) ∧
      (b = false → wManyA K Wout D i m r cls d σ H)
inductive HdsA (X : Cx) (n : Str) : List ExceptHandler → List (Value × (Addr → Value → Option Addr → TS)) → Prop
  | nil : HdsA X n [] []
  | cons {x : Str} {c : Value} {ts : Addr → Value → Option Addr → TS} {b0 : Stmt} {suite : List Stmt} {np pos' : Pos} {hds : List ExceptHandler} {l : List (Value × (Addr → Value → Option Addr → TS))} (hc : Names X x c)
      (hsu : ∀ (a : Addr) (oe : Obj) (cls : Value) (d : Option Addr) (pn : List (Addr × Obj)), Zc cls d oe → (∃ vs, oe.data = .fields vs) → PSs (X.suite a ((a, oe) :: pn)) (b0 :: suite) (ts a cls d)) (r : HdsA X n hds l) :
      HdsA X n (.ExceptHandler (some (.Name x np)) (some n) (b0 :: suite) pos' :: hds) ((c, ts) :: l)
section
variable {X : Cx} {n : Str} {i : Nat} {body : List Stmt} {h0 : ExceptHandler} {hds : List ExceptHandler} {l : List (Value × (Addr → Value → Option Addr → TS))} {pos : Pos} {tb : WX → TS} {Wout : WX}
theorem ps_try_manyA (hs : X.stack = X.env :: X.outer) (hf : X.env.frame = some X.env.locals) (hN : X.N.Nodup) (hi : X.N[i]? = some n) (hln : X.env.kindOf n = some .local) (tk : Takes X Wout)
    (hb : ∀ (W : WX) (pn : List (Addr × Obj)) (xe : Value → Shared → Prop), Takes (X.tr pn xe) W → PassesOwn (model X.prog X.w) X.A X.env xe → PSs (X.tr pn xe) body (tb W))
    (hh : HdsA X n (h0 :: hds) l) : PS X (.Try body (h0 :: hds) [] [] pos) (fun D σ H => tb (wManyA X.K Wout D i X.N.length l) D σ H) := by
  refine ⟨fun pins s σ H D I h => ?_⟩
  have ok := I.ok
  have hfr : X.A.frames = some (X.env :: X.outer) := by rw [ok.frames, hs]
  have hloc : Loc X.env.scope n := .inl hln
  refine wpAny_Try_except ?_
  refine wpAny_mono ((hb (wManyA X.K Wout D i X.N.length l) (X.pn ++ pins) (fun e s1 => wpAny (model X.prog X.w) X.A (noteFrame e X.env) (fun _ s2 => wpAny (model X.prog X.w) X.A (setFlight e none) (fun _ s3 =>
    wpAny (model X.prog X.w) X.A (handleBy e X.env (h0 :: hds)) (SP X pins D) X.xe s3) X.xe s2) X.xe s1) (fun u s' xx => ?_) PassesOwn.looking).run [] s σ H D (I.toTry _) h) (fun f s1 hsp => ?_) (fun e s1 he => he)
  · obtain ⟨a, B, sI, pins', σ', H', cls, d, rfl, J', nb, up, sky, na, os, ag, w⟩ := xx
    have J : Inv X pins σ' H' sI := J'.ofTry ok
    have sky' : Sky B (X.env :: X.outer) a (Zc cls d) X.env.locals s'.heap := by rw [← hs]; exact sky
    show wpAny (model X.prog X.w) X.A (noteFrame (.ref a) X.env) _ _ _
    refine Sky.land Zc.steady hfr hf sky' fun h3 fl3 up3 => ?_
    have J3 : Inv X pins σ' H' { s' with heap := h3 } := J.landed nb fl3.1 (up.trans up3) os ag
    obtain ⟨oe3, vs3, he3, hz3, hd3⟩ := fl3.there
    have notFr : ∀ {h : Heap} {o : Obj} {vs : Array Value}, h.FunFrames B (X.env :: X.outer) → h.get? a = some o → o.data = .fields vs → a ∉ frs (X.env :: X.outer) := fun {h o vs} ff e dd hm => by
      obtain ⟨_, o', e', hnf⟩ := ff.mem hm
      rw [e] at e'; cases e'
      exact hnf _ dd
    have nfr := notFr fl3.2.2.1 he3 hd3
    have nL : a ≠ X.env.locals := fun z => nfr (List.mem_filterMap.mpr ⟨X.env, List.mem_cons_self, by rw [hf, z]⟩)
    have nF : a ∉ X.fs := fun hm => by
      obtain ⟨e, he, q⟩ := List.mem_filterMap.mp hm
      exact nfr (List.mem_filterMap.mpr ⟨e, List.mem_cons_of_mem _ he, q⟩)
    have S3 := J3.suite he3 hd3 na nL nF
    have go : ∀ {hds' : List ExceptHandler} {l' : List (Value × (Addr → Value → Option Addr → TS))}, HdsA X n hds' l' → wManyA X.K Wout D i X.N.length l' cls d σ' H' →
        wpAny (model X.prog X.w) X.A (handleBy (.ref a) X.env hds') (SP X pins D) X.xe { s' with heap := h3 } := by
      intro hds' l' hk
      induction hk with
      | nil =>
        intro w
        refine wpAny_handleBy_nil ?_
        obtain ⟨k1, k2, k3, oe, vs, T, oT, ts', he, hz, hd, h1, hr⟩ := id fl3
        unfold PySem.passOn
        refine wpAny_bind (wpAny_field he hd h1 ?_)
        rw [if_neg (show ¬ ((Value.ref T == Value.none) = true) from by simp)]
        have fin : wpAny (model X.prog X.w) X.A (setFlight (.ref a) X.env.frame) (fun _ s4 => wpAny (model X.prog X.w) X.A (throw (.ref a) : Sem Flow) (SP X pins D) X.xe s4) X.xe { s' with heap := h3 } := by
          rw [hf]
          refine HandSPX.setFlight_upZ fl3 fun h4 hh4 up4 => wpAny_throw (tk _ _ ?_)
          exact ⟨a, B, sI, pins, σ', H', cls, d, rfl, J, nb, (up.trans up3).trans up4, .inr (.inr (by rw [hs]; exact hh4)), na, os, ag, w⟩
        first
          | exact wpAny_bind (wpAny_pure (wpAny_bind fin))
          | exact wpAny_bind fin
      | @cons x c ts b0 suite np pos' hds2 l2 hc hsu r ih =>
        intro w
        obtain ⟨b, hb1, hyes, hno⟩ := w
        refine wpAny_handleBy_cons (codeAny_handlers_test ?_) (by intro q; cases q)
        have LT : PySem.W.Looks (model X.prog X.w) h3 (typeOf (.ref a)) cls := fun A Q E s k q => wpAny_typeOf_ref (k _ _ he3) (by rw [hz3.1]; exact q)
        have LM := PySem.W.exm_one (M := model X.prog X.w) (J3.kIn) LT hb1
        have test : ∀ {Q : Value → Shared → Prop} {E : Value → Shared → Prop}, Q c { s' with heap := h3 } → wpAny (model X.prog X.w) (X.A.mark (some (.ref a))) (eval (.Name x np) X.env) Q E { s' with heap := h3 } := fun {Q E} q => by
          obtain ⟨hg, hdbg, hm | ⟨hm, hv, hnn⟩⟩ := hc
          · exact ld_glob (X := X.suite a ((a, oe3) :: (X.pn ++ pins))) S3 hg hm q hdbg
          · exact ld_blt (X := X.suite a ((a, oe3) :: (X.pn ++ pins))) S3 hg hm hv q hnn hdbg
        refine test (LM.here ?_)
        cases b with
        | true =>
          refine codeAny_handlers_suite_as ?_
          refine HandSPX.lands_againZ fl3 fun h4 fl4 up4 => ?_
          have J4 : Inv X pins σ' H' { s' with heap := h4 } := J.landed nb fl4.1 ((up.trans up3).trans up4) os ag
          obtain ⟨oe4, vs4, he4, hz4, hd4⟩ := fl4.there
          have S4 := J4.suite he4 hd4 na nL nF
          refine store_ok (X := X.suite a ((a, oe4) :: (X.pn ++ pins))) (v := .ref a) S4 hN hi hloc rfl (fun s5 S5 => ?_) (.inr hln)
          refine wpAny_mono ((hsu a oe4 cls d (X.pn ++ pins) hz4 ⟨_, hd4⟩).run [] s5 _ H' _ S5 (hyes rfl a na J.len)) (fun f s6 hsp => ?_) (fun _ _ z => False.elim z)
          have end_ : ∀ {σ6 : L2.St} {H6 : Hp} {Q : Shared → Prop}, Inv (X.suite a ((a, oe4) :: (X.pn ++ pins))) [] σ6 H6 s6 → (∀ s7, Inv X pins (σ6.set i none) H6 s7 → Q s7) →
              wpAny (model X.prog X.w) X.A (do bindName X.env n .none; unbindBehindTheSuite X.env n pos') (fun _ s7 => Q s7) X.xe s6 := fun {σ6 H6 Q} S6 hq => gone_ok (S6.unsuite ok) hN hi hln hq
          cases f with
          | next =>
            obtain ⟨σ6, H6, S6, q6⟩ := hsp
            exact end_ S6 fun s7 J7 => ⟨_, _, J7, q6⟩
          | brk =>
            obtain ⟨σ6, H6, S6, q6⟩ := hsp
            exact end_ S6 fun s7 J7 => ⟨_, _, J7, q6⟩
          | cont =>
            obtain ⟨σ6, H6, S6, q6⟩ := hsp
            exact end_ S6 fun s7 J7 => ⟨_, _, J7, q6⟩
          | ret u =>
            obtain ⟨v6, σ6, H6, S6, r6, q6⟩ := hsp
            exact end_ S6 fun s7 J7 => ⟨_, _, _, J7, r6, q6⟩
        | false =>
          show wpAny _ X.A (handleBy (.ref a) X.env hds2) _ _ _
          exact ih (hno rfl)
    exact go hh w
  · cases f with
    | next =>
      obtain ⟨σ', H', J', q⟩ := hsp
      exact wpAny_execs_nil ⟨σ', H', J'.ofTry ok, q⟩
    | brk =>
      obtain ⟨σ', H', J', q⟩ := hsp
      exact ⟨σ', H', J'.ofTry ok, q⟩
    | cont =>
      obtain ⟨σ', H', J', q⟩ := hsp
      exact ⟨σ', H', J'.ofTry ok, q⟩
    | ret u =>
      obtain ⟨v, σ', H', J', r, q⟩ := hsp
      exact ⟨v, σ', H', J'.ofTry ok, r, q⟩
end
end K01
/-! ## DL24 -/
set_option Elab.async false
set_option linter.all false
set_option maxRecDepth 100000
set_option maxHeartbeats 4000000
/-! A def that calls the lambda it gets, and tells what error it met: def _law_met(ask): try: ask() / except X as e: return (kind, e.field) .. / return None. -/
namespace DL
open PySem PySem.Spec PyProof.Rows L2 LamX
/-- a clause: the class, its name, the error's field, the word for it -/
structure Xc where
  C : Addr
  nm : Str
  fld : Str
  kind : Str
/-- an error that one of the clauses tells -/
def MetX (cs : List Xc) (Q : VK) : XK := fun cls d H => ∃ e ∈ cs, cls = .ref e.C ∧ ∃ dd v, d = some dd ∧ H dd = some (.xd [(e.fld, v)]) ∧ ∀ t, H t = none → Q (.ref t) (upd H t (.tup [.str e.kind, v]))
def TMetX (cs : List Xc) : (XK → Hp → VK → Prop) → Hp → VK → Prop := fun tl H Q => tl (MetX cs Q) H fun _ H' => Q .non H'
/-- the clauses' text -/
inductive HdC : List ExceptHandler → List Xc → Prop
  | nil : HdC [] []
  | cons {e : Xc} {j cx : Nat} {np p1 p2 p3 p4 p5 p6 : Pos} {hs : List ExceptHandler} {cs : List Xc} : HdC hs cs →
      HdC (.ExceptHandler (some (.Name e.nm np)) (some "e") [.Return (some (.Tuple [.Constant (.str e.kind) j p1, .Attribute (.Name "e" p2) e.fld p3] cx p4)) p5] p6 :: hs) (e :: cs)
structure XcOk (K : PySem.W.Frag) (mg : Str → Option Value) (sg : Scope) (e : Xc) : Prop where
  gC : mg e.nm = some (.ref e.C)
  xf : XfC K e.C
  no : PySem.W.findIn K (.ref e.C) e.fld = some none
  nd : (e.nm == ("__debug__" : Str)) = false
  gl : sg.names.lookup e.nm = some NameKind.globalImplicit
structure XcsOk (K : PySem.W.Frag) (mg : Str → Option Value) (sg : Scope) (cs : List Xc) : Prop where
  one : ∀ e ∈ cs, XcOk K mg sg e
  ex : ∀ e ∈ cs, ∀ e' ∈ cs, PySem.W.exmOne K (.ref e.C) (.ref e'.C) = some (decide (e.C = e'.C))
  ne : (cs.map (·.C)).Nodup
section
variable {X : Cx} {sg : Scope}
abbrev metC (X : Cx) (sg : Scope) (g : Addr) (cdg : Value) (s : Shared) (H : Hp) : Cx := (cxOf C8.CX0 X.prog X.w X.K X.mg X.base ["ask", "e"] "_law_met" sg g cdg X.A X.stack s H C8.E0).nox
def tsC (e : Xc) : Addr → Value → Option Addr → TS := fun a cls d D σ H => σ[1]? = some (some (.ref a)) ∧ cls = .ref e.C ∧ ∃ dd v, d = some dd ∧ H dd = some (.xd [(e.fld, v)]) ∧ ∀ t, H t = none → D.rt (.ref t) (upd H t (.tup [.str e.kind, v]))
theorem hdsC {g : Addr} {cdg : Value} {s : Shared} {H : Hp} (hk : sg.names.lookup ("e" : Str) = some NameKind.local) (sk : sg.kind = .function) : ∀ {hs : List ExceptHandler} {cs : List Xc}, HdC hs cs → (∀ e ∈ cs, XcOk X.K X.mg sg e) → K01.HdsA (metC X sg g cdg s H) "e" hs (cs.map fun e => (.ref e.C, tsC e))
  | _, _, .nil, _ => .nil
  | _, _, .cons (e := e) h, ok => by
    obtain ⟨gC, xf, no, nd, gl⟩ := ok e List.mem_cons_self
    refine .cons ⟨gl, nd, .inl gC⟩ (fun a oe cls d pn hz hd => ?_) (hdsC hk sk h fun e he => ok e (List.mem_cons_of_mem _ he))
    refine ⟨fun pins s' σ H' D I h' => ?_⟩
    obtain ⟨h1, h2, dd, v, h3, h4, h5⟩ := h'
    refine (pss_one (ps_ret (pe_tup (pa_cons pe_str (pa_cons (pe_xf (X := metC X sg g cdg s H) (a := a) (pn := pn) (C := e.C) xf no hz hd (pe_var (i := 1) rfl (.inl hk))) pa_nil))))).run pins s' σ H' D I ?_
    exact ⟨.ref a, h1, rfl, h2, dd, _, v, h3, h4, (by simp [List.lookup]), (by show 2 ≤ sizeLine; decide), h5⟩
theorem many_go {K : PySem.W.Frag} {Wout : WX} {D : Ends} {m : Nat} {e : Xc} {d : Option Addr} {σ : L2.St} {H : Hp} {dd : Addr} {v : V} (ed : d = some dd) (hx : H dd = some (.xd [(e.fld, v)])) (q : ∀ t, H t = none → D.rt (.ref t) (upd H t (.tup [.str e.kind, v]))) (m2 : 1 < m) :
    ∀ {cs : List Xc}, e ∈ cs → (cs.map (·.C)).Nodup → (∀ e' ∈ cs, PySem.W.exmOne K (.ref e.C) (.ref e'.C) = some (decide (e.C = e'.C))) → K01.wManyA K Wout D 1 m (cs.map fun e => (.ref e.C, tsC e)) (.ref e.C) d σ H
  | c :: cs, he, nd, ex => by
    refine ⟨_, ex c List.mem_cons_self, fun b a na hl => ?_, fun b => ?_⟩
    · have b : e.C = c.C := of_decide_eq_true b
      have ec : e = c := by
        rcases List.mem_cons.mp he with h | h
        · exact h
        · rw [List.map_cons, List.nodup_cons] at nd
          exact absurd (List.mem_map.mpr ⟨e, h, b⟩) nd.1
      subst ec
      refine ⟨?_, rfl, dd, v, ed, hx, q⟩
      rw [List.getElem?_set_self]
      omega
    · have b : ¬ e.C = c.C := of_decide_eq_false b
      rcases List.mem_cons.mp he with h | h
      · rw [h] at b
        exact absurd rfl b
      · exact many_go ed hx q m2 h (List.nodup_cons.mp nd).2 fun e' h' => ex e' (List.mem_cons_of_mem _ h')
theorem metX_gives {g : Addr} {cdg : Value} {q : Str} {hs : List ExceptHandler} {h0 : ExceptHandler} {cs : List Xc} {p1 p2 p3 p4 p5 p6 : Pos} {j : Nat} (hk : sg.names.lookup ("e" : Str) = some NameKind.local) (sk : sg.kind = .function) (hd : HdC (h0 :: hs) cs) (ok : XcsOk X.K X.mg sg cs) :
    GivesTo X ["ask", "e"] "_law_met" sg g cdg [.Try [.Expr (.Call (.Name "ask" p1) [] [] p2) p3] (h0 :: hs) [] [] p4, .Return (some (.Constant .none j p5)) p6] "ask" q (TMetX cs) := by
  intro f c' s H Q tl act hc h
  have nd : (["ask", "e"] : List Str).Nodup := by decide +kernel
  refine ⟨_, pss_cons (K01.ps_try_manyA (X := metC X sg g cdg s H) (n := "e") (i := 1) (Wout := fun _ _ _ _ => False)
      (tb := fun W D σ H => ∃ Ech : XK, (∀ cls d σ' H', Ech cls d H' → W cls d σ' H') ∧ σ[0]? = some (some (.ref f)) ∧ H c' = some (CodeO c' q) ∧ tl Ech H fun _ H' => D.nx σ H')
      rfl rfl nd rfl hk LamX.takes0 (fun W pn xe tk _ => ?_) (hdsC hk sk hd ok.one)) (pss_one (ps_ret pe_non)), ?_⟩
  · refine ⟨fun pins s' σ H' D I h' => ?_⟩
    obtain ⟨Ech, hW, h1, h2, h3⟩ := h'
    exact (pss_one (ps_expr (act W pn xe Ech _ _ tk hW))).run pins s' σ H' D I ⟨h1, h2, h3⟩
  · refine ⟨MetX cs Q, fun cls d σ' H' me => ?_, rfl, hc, h⟩
    obtain ⟨e, he, rfl, dd, v, e1, e2, e3⟩ := me
    exact many_go e1 e2 e3 (show 1 < 2 by decide) he ok.ne fun e' h' => ok.ex e he e' h'
end
end DL
/-! ## DL25 -/
set_option Elab.async false
set_option linter.all false
set_option maxRecDepth 100000
set_option maxHeartbeats 4000000
/-! _law_met(lambda: e), by trees. -/
namespace DL
open PySem PySem.Spec PyProof.Rows L2 LamX
/-- where a lambda's body is read -/
structure LIx (X : Cx) (scope : Scope) (k : Nat) where
  A : Around
  outer : List Env
  s : Shared
  H : Hp
  f : Addr
  n : Addr
  room : Room k (A.deeper (lamEnv X scope s.heap.objs.size f n))
abbrev LIx.cx {X : Cx} {scope : Scope} {k : Nat} (E : XK) (i : LIx X scope k) : Cx := lamCx X i.A i.outer i.s i.H E scope i.f i.n
theorem lamPass {X : Cx} {scope : Scope} {k : Nat} {E : XK} (i : LIx X scope k) : Passes (L2.CX X.prog X.w) (i.cx E) E := passes_call (takes_of rfl rfl rfl rfl) fun _ _ _ _ h => h
/-- _law_met, to be called with a lambda -/
structure MetD (P : Program) (w : World) (K : PySem.W.Frag) (mg : Str → Option Value) (base : Heap) (st : Stmt) (cs : List Xc) : Prop where
  ex : ∃ (g : Addr) (oc : Value) (od : Option Addr) (dV kV doc pm : Value) (an : Option Addr) (cdv ct : Value) (osl : Array (Option Value)), mg "_law_met" = some (.ref g) ∧ PySem.W.keepIn K (.ref g) = true ∧
    K.lookup g = some ⟨oc, od, .func (PySem.W.fnOf "_law_met" "_law_met" (defArgs st) (defBody st) (defScope st) dV kV doc pm an cdv ct), osl⟩ ∧ PySem.W.codeIn K cdv "_law_met" = true ∧
    L2.Binds K (PySem.W.fnOf "_law_met" "_law_met" (defArgs st) (defBody st) (defScope st) dV kV doc pm an cdv ct) ["ask"] []
  sc : FnScope ["ask", "e"] ["ask"] (defScope st)
  body : ∃ (h0 : ExceptHandler) (hs : List ExceptHandler) (p1 p2 p3 p4 p5 p6 : Pos) (j : Nat), defBody st = [.Try [.Expr (.Call (.Name "ask" p1) [] [] p2) p3] (h0 :: hs) [] [] p4, .Return (some (.Constant .none j p5)) p6] ∧ HdC (h0 :: hs) cs
  ok : XcsOk K mg (defScope st) cs
  hk : (defScope st).names.lookup ("e" : Str) = some NameKind.local
  hv : Vis (defScope st) "ask"
  sk : (defScope st).kind = .function
theorem pe_metD {X : Cx} {st : Stmt} {cs : List Xc} {cd P : Addr} {params : Arguments} {body : Expr} {scope : Scope} {t : XK → TE} {p lpos pos : Pos} {k : Nat} (m : MetD X.prog X.w X.K X.mg X.base st cs) (TB : TabB X.base X.mg cd P) (hcode : X.env.code = .ref cd) (hr : Room (k + 2) X.A)
    (L : LamS X.env.scope scope) (hdef : defaultsOf params X.env = ([], [])) (hbind : ∀ (q : Str) (cl : List (Str × Addr)) (pm cv ctv : Value), bindArgs (PySem.W.kla_fn "<lambda>" q params body scope cl pm cv ctv) ⟨[], []⟩ = pure [])
    (hbody : ∀ (A : Around) (outer : List Env) (s : Shared) (H : Hp) (E : XK) (f n : Addr), Room k (A.deeper (lamEnv X scope s.heap.objs.size f n)) → PE (lamCx X A outer s H E scope f n) body (t E)) (hg : Gl X "_law_met" := by rfl) :
    PE X (.Call (.Name "_law_met" p) [.Lambda params body scope lpos] [] pos) (tLamD P (X.env.qual ++ "<lambda>") (TMetX cs) t) := by
  obtain ⟨g, oc, od, dV, kV, doc, pm, an, cdv, ct, osl, hm, kp, lk, cod, bind⟩ := m.ex
  obtain ⟨h0, hs, p1, p2, p3, p4, p5, p6, j, e, hd⟩ := m.body
  refine pe_lamD hg hm kp lk cod bind m.sc rfl m.hv ?_ TB hcode hr L hdef hbind hbody
  rw [e]
  exact metX_gives m.hk m.sk hd m.ok
def unOwn : Sl → Sl
  | .own _ => .no
  | s => s
variable [Wd]
section
variable {Γ : Gm} {A : Addr → Prop} {H : Hp} {σ : L2.St} {δ : List Sl} {n : Nat}
theorem owns_un : ∀ {σ : L2.St} {δ : List Sl}, owns σ (δ.map unOwn) = []
  | [], _ => owns_nil
  | x :: σ, [] => owns_nil2
  | x :: σ, s :: δ => by
    have ih := owns_un (σ := σ) (δ := δ)
    rcases owns_cons (x := x) (s := unOwn s) (σ := σ) (δ := δ.map unOwn) with e | ⟨b, d, _, es, _⟩
    · rw [List.map_cons, e]
      exact ih
    · cases s <;> cases es
theorem slR_un {p : Option Addr} : ∀ {σ : L2.St} {δ : List Sl}, Paired (SlR p A H) σ δ → Paired (SlR p A H) σ (δ.map unOwn)
  | _, _, .nil => .nil
  | x :: _, s :: _, .cons h t => by
    refine .cons ?_ (slR_un t)
    cases s with
    | own d => cases x <;> trivial
    | _ => exact h
/-- read within, from here on -/
theorem Rel.inside (R : Rel Γ σ δ A H n) : Rel ⟨H, A, Γ.p⟩ σ (δ.map unOwn) A H n :=
  ⟨slR_un R.sl, by rw [owns_un]; exact List.nodup_nil, (fun a ha => by rw [owns_un] at ha; cases ha), fun _ _ _ e => e, fun _ h => h, R.ad, fun _ h => .inl h, R.inv⟩
theorem Rel.lam {P : Addr} {q : Str} {H1 : Hp} (hT : (P, q) ∈ Wd.T) (R : Rel Γ σ δ A H n) (l : Lamd H P q H1) : ∃ A1, Rel Γ σ δ A1 H1 n ∧ Mv Γ σ δ A H δ A1 H1 := by
  cases l with
  | old => exact ⟨A, R, .refl⟩
  | @new m tb more eP em ok am =>
    have tP : IsTb P := ⟨_, hT, rfl⟩
    have mP : Γ.M P := .inr tP
    have old : ∀ b o, b ≠ P → H b = some o → upd (upd H P (.tbl (tb ++ more))) m (CodeO m q) b = some o := fun b o nP e => by
      rw [upd_ne (ne_of_none e em), upd_ne nP]
      exact e
    have notP : ∀ b, ¬ Γ.M b → b ≠ P := fun b nm z => nm (by rw [z]; exact mP)
    have notM : ¬ Γ.M m := fun z => R.md m z em
    have k : Kp A H (fun b => A b ∨ b = m) (upd (upd H P (.tbl (tb ++ more))) m (CodeO m q)) := .of (fun _ h => .inl h) fun b o h e => old b o (notP b (R.ad b h).2) e
    have os := own_some R.sl
    have atP : upd (upd H P (.tbl (tb ++ more))) m (CodeO m q) P = some (.tbl (tb ++ more)) := by
      rw [upd_ne (ne_of_none eP em), upd_same]
    have thr : ∀ b, H b ≠ none → upd (upd H P (.tbl (tb ++ more))) m (CodeO m q) b ≠ none := fun b hb => by
      by_cases z : b = P
      · rw [z, atP]
        exact fun z => by cases z
      · cases e : H b with
        | none => exact absurd e hb
        | some o =>
          rw [old b o z e]
          exact fun z => by cases z
    refine ⟨fun b => A b ∨ b = m, ⟨slR_kp k (fun a ha => ?_) R.sl, R.nd, fun a ha => ⟨(R.fo a ha).h0, fun z => ?_, (R.fo a ha).nm⟩, fun b o nm e => old b o (notP b nm) (R.fr b o nm e), fun b h => .inl (R.a0 b h), fun b h => ?_, fun b h => ?_, fun a e => ?_, fun e he => ?_⟩,
      ⟨fun _ h => .inl h, fun b o e _ nm => old b o (notP b nm) e, fun b h => ?_, fun _ h => h, thr⟩⟩
    · cases e : H a with
      | none => exact absurd e (os a ha)
      | some o => exact old a o (notP a (R.fo a ha).nm) e
    · rcases z with z | z
      · exact (R.fo a ha).na z
      · rw [z] at ha
        exact os m ha em
    · rcases h with h | rfl
      · exact ⟨thr b (R.ad b h).1, (R.ad b h).2⟩
      · exact ⟨(by rw [upd_same]; exact fun z => by cases z), notM⟩
    · rcases h with h | rfl
      · exact R.nw b h
      · exact .inr (R.h0 _ em)
    · have sp := R.inv.1 a e
      have na : a ≠ P := fun z => Wd.nt H a n sp _ (by rw [z]; exact eP)
      refine Wd.at_ H _ a n ?_ sp
      cases q : H a with
      | none => exact absurd q (Wd.so H a n sp)
      | some o => exact old a o na q
    · obtain ⟨ps, h1, h2, h3⟩ := R.inv.2 e he
      by_cases z : e.1 = P
      · have eq : e.2 = q := Wd.tu e he _ hT z
        rw [z] at h1 ⊢
        rw [eP] at h1
        cases h1
        refine ⟨_, atP, ok, fun pos cv hc => ?_⟩
        rcases am pos cv hc with h | h
        · obtain ⟨c, e1, e2, e3⟩ := h3 pos cv h
          exact ⟨c, e1, .inl e2, k.ob _ _ e2 e3⟩
        · exact ⟨m, h, .inr rfl, by rw [eq]; exact upd_same⟩
      · refine ⟨ps, old _ _ z h1, h2, fun pos cv hc => ?_⟩
        obtain ⟨c, e1, e2, e3⟩ := h3 pos cv hc
        exact ⟨c, e1, .inl e2, k.ob _ _ e2 e3⟩
    · rcases h with h | rfl
      · exact .inl h
      · exact .inr (.inl em)
end
section
variable {ι : Type} {X : ι → Cx} {ac : Act}
theorem dr_met {st : Stmt} {cs : List Xc} {cd P : Addr} {q : Str} {params : Arguments} {body : Expr} {scope : Scope} {p lpos pos : Pos} {k : Nat} {T : XD → TEd} (m : ∀ c, MetD (X c).prog (X c).w (X c).K (X c).mg (X c).base st cs) (TB : ∀ c, TabB (X c).base (X c).mg cd P) (hcode : ∀ c, (X c).env.code = .ref cd)
    (hq : ∀ c, (X c).env.qual ++ "<lambda>" = q) (hT : (P, q) ∈ Wd.T) (hr : ∀ c, Room (k + 2) (X c).A) (L : ∀ c, LamS (X c).env.scope scope) (hdef : ∀ c, defaultsOf params (X c).env = ([], []))
    (hbind : ∀ (q : Str) (cl : List (Str × Addr)) (pm cv ctv : Value), bindArgs (PySem.W.kla_fn "<lambda>" q params body scope cl pm cv ctv) ⟨[], []⟩ = pure []) (hg : ∀ c, Gl (X c) "_law_met")
    (b : ∀ (E : XK) (Xd : XD), DE (fun i : (c : ι) × LIx (X c) scope k => i.2.cx E) ⟨E, Xd⟩ body (T Xd)) :
    DR X ac (.Call (.Name "_law_met" p) [.Lambda params body scope lpos] [] pos) (fun n δ Q => T (fun C f d n' => ∃ e ∈ cs, C = e.C ∧ f = e.fld ∧ Q (.tup [.str e.kind, d]) n' δ) n (δ.map unOwn) fun _ n' _ => Q .non n' δ) := by
  have hp : ∀ c, PE (X c) (.Call (.Name "_law_met" p) [.Lambda params body scope lpos] [] pos) (tLamD P q (TMetX cs) fun E σ H Q => ∃ te, (∀ i : (c : ι) × LIx (X c) scope k, PE (i.2.cx E) body te) ∧ te σ H Q) := fun c => by
    have h := pe_metD (p := p) (lpos := lpos) (pos := pos) (t := fun E σ H Q => ∃ te, (∀ i : (c : ι) × LIx (X c) scope k, PE (i.2.cx E) body te) ∧ te σ H Q) (m c) (TB c) (hcode c) (hr c) (L c) (hdef c) hbind (fun A outer s H E f n r => ⟨fun pins s' σ H' Q I ⟨te, h, q⟩ => (h ⟨c, ⟨A, outer, s, H, f, n, r⟩⟩).run pins s' σ H' Q I q⟩) (hg c)
    rw [hq c] at h
    exact h
  refine ⟨_, hp, fun Γ gx σ A H n δ Qd Q R hT' kk => ⟨?_, fun H1 l => ?_⟩⟩
  · obtain ⟨ps, h1, h2, h3⟩ := R.inv.2 _ hT
    refine ⟨ps, h1, h2, fun pos cv hc => ?_⟩
    obtain ⟨c, e1, _, e3⟩ := h3 pos cv hc
    exact ⟨c, e1, e3⟩
  · obtain ⟨A1, R1, m1⟩ := R.lam hT l
    obtain ⟨te, p, ev⟩ := b (MetX cs Q) (fun C f d n' => ∃ e ∈ cs, C = e.C ∧ f = e.fld ∧ Qd (.tup [.str e.kind, d]) n' δ)
    refine ⟨te, p, ev ⟨H1, A1, Γ.p⟩ (fun A' H' n' C f d v x ex hx h0 nA rp xd => ?_) σ A1 H1 n _ _ _ R1.inside hT' fun v r A' H' n' δ' R' rr mv q => ?_⟩
    · obtain ⟨e, he, rfl, rfl, q⟩ := xd
      obtain ⟨R2, m2⟩ := R1.call ex
      refine ⟨e, he, rfl, x, v, rfl, hx, fun t nt => ?_⟩
      obtain ⟨g, rt⟩ := new_tup nt R2.dom (.cons (.str e.kind) (.cons rp .nil))
      exact kk (.ref t) _ _ _ n' δ (R2.grow g) rt ((m1.trans m2).trans (.grow g)) q
    · obtain ⟨R2, m2⟩ := R1.call R'.ex
      exact kk .non .non A' H' n' δ R2 .non (m1.trans m2) q
end
end DL
/-! ## R5 -/
set_option Elab.async false
set_option linter.all false
set_option maxRecDepth 100000
set_option maxHeartbeats 4000000
namespace OE
open PySem PySem.Spec PyProof.Rows PySem.SeqAt
section
variable {M : Model} {prog : Program} {w : World} {A : Around} {E : Value → Shared → Prop} {s : Shared} {K : PySem.W.Frag} {x y C f : Addr} {ox : Obj} {od : Option Obj}
theorem ne_entry (X : K.In s.heap) (I : PySem.W.InstAt s.heap x ox C od) (hs : PySem.W.findIn K (.ref C) "__eq__" = some (some (.ref f))) (hf : PySem.W.isFn K (.ref f) = true) (hu : A.units < cLine) {Q : Fin → Shared → Prop}
    (h : wpAny (model prog w) A (call (.ref f) [.ref x, .ref y]) (fun v s' => ∃ r, v = .bool r ∧ Q (.done (.ret (.bool (!r)))) s') E s) : wpAny (model prog w) A (Builtin.«object.__ne__» ⟨[.ref x, .ref y], []⟩) Q E s := by
  unfold Builtin.«object.__ne__»
  repeat (first
    | with_reducible refine wpAny_cRoomFor hu ?_
    | (refine wpAny_bind (m := callSpecialIfBound? (.ref x) (Str.ofString "__eq__") [.ref y])
        (PySem.W.ifBound_K X I hs hf (wpAny_mono h (fun r s' hr => by
          obtain ⟨b, rfl, hq⟩ := hr
          repeat (first | exact hq | exact wpAny_pure hq | exact wpAny_truthy_bool hq | (refine wpAny_bind (m := truthy (.bool _)) (wpAny_truthy_bool ?_)) | wp_step)) fun _ _ e => e)))
    | wp_step)
theorem ifBound_ne {args : List Value} {Q : Option Value → Shared → Prop} (X : K.In s.heap) (I : PySem.W.InstAt s.heap x ox C od) (hs : PySem.W.findIn K (.ref C) "__ne__" = some (some (.builtin "object.__ne__")))
    (h : wpAny M A (call (.builtin "object.__ne__") (.ref x :: args)) (fun v => Q (some v)) E s) : wpAny M A (callSpecialIfBound? (.ref x) "__ne__" args) Q E s := by
  simp only [callSpecialIfBound?, bindSpecialIfBound?]
  refine wpAny_holding (wpAny_bind (wpAny_bind (wpAny_bind (I.type.here ((PySem.W.looks_findIn X hs).here ?_)))))
  refine wpAny_bind (wpAny_askSetting (wpAny_ite ?_))
  have fin : wpAny M A (call (.builtin "object.__ne__") ([.ref x] ++ args) >>= fun v => pure (some v)) Q E s := wpAny_bind (wpAny_mono h (fun v s' h' => wpAny_pure h') fun _ _ h' => h')
  split
  · exact wpAny_bind (wpAny_of_eq (F.cmp_object.ne.bind _) (wpAny_pure (by exact fin)))
  · exact wpAny_tryCatch (wpAny_bind (wpAny_of_eq (F.cmp_object.ne.bind _) (wpAny_pure (by exact fin))))
theorem rc_ne {Q : Value → Shared → Prop} (hu : A.units + 1 < cLine) (X : K.In s.heap) (I : PySem.W.InstAt s.heap x ox C od) (J : PySem.W.Looks (model prog w) s.heap (typeOf (.ref y)) (.ref C)) (hm : PySem.W.mroIn K C (.type "object") = some true)
    (hs : PySem.W.findIn K (.ref C) "__eq__" = some (some (.ref f))) (hf : PySem.W.isFn K (.ref f) = true) (hn : PySem.W.findIn K (.ref C) "__ne__" = some (some (.builtin "object.__ne__")))
    (h : wpAny (model prog w) A.in1 (call (.ref f) [.ref x, .ref y]) (fun v s' => ∃ r, v = .bool r ∧ Q (.bool (!r)) s') E s) : wpAny (model prog w) A (richCompare .NotEq (.ref x) (.ref y)) Q E s := by
  have one : wpAny (model prog w) A (tryCompare (.ref x) "__ne__" (.ref y)) (fun r s' => ∃ b, r = some (.bool b) ∧ Q (.bool b) s') E s := by
    unfold tryCompare
    refine wpAny_bind (ifBound_ne X I hn (wpAny_call (codeAny_call_builtin F.cmp_object.ne.plain F.cmpEntry_ne (PySem.W.check_slot F.cmpKind_ne F.cmpSplit_ne (I.type.andThen (PySem.W.looks_mroIn X hm)) (F.cmpArgs_ne _ _)
      (ne_entry (A := A.in1) X I hs hf (by show A.units + 1 < cLine; omega) (wpAny_mono h (fun v s' hv => ?_) fun _ _ e => e))))))
    obtain ⟨r, rfl, hq⟩ := hv
    exact ⟨r, rfl, wpAny_pure ⟨_, rfl, hq⟩⟩
  unfold richCompare
  simp only [oneThing_ref]
  refine wpAny_holding (wpAny_bind (wpAny_cRoomFor (Nat.lt_of_succ_lt hu) ?_))
  rw [cmpInfo_NotEq]
  dsimp only
  refine wpAny_bind (I.type.here (wpAny_bind (J.here ?_)))
  rw [show (Value.ref C != Value.ref C) = false from by simp]
  simp only [Bool.false_eq_true, if_false]
  refine wpAny_bind (wpAny_pure ?_)
  simp only [Bool.false_eq_true, if_false]
  refine wpAny_bind (wpAny_mono one (fun r s' z => ?_) fun _ _ e => e)
  obtain ⟨v, rfl, hq⟩ := z
  exact wpAny_pure hq
end
end OE
namespace K01
open PySem PySem.Spec PyProof.Rows L2
/-- what stands to the right of an own == -/
def EqTo (K : PySem.W.Frag) (H : Hp) (C : Addr) (y : V) : Prop := (∃ b dx fs, y = .ref b ∧ H b = some (.ins C dx fs)) ∨ ∃ b xs, y = .ref b ∧ SqL K H b xs ∧ PySem.W.notFirst K C (.type "list") = true
def rEqO (K : PySem.W.Frag) (C : Addr) (sp : Sp) (E : XK) : R2 := fun x y H Q => ∃ a dx fs, x = .ref a ∧ H a = some (.ins C dx fs) ∧ EqTo K H C y ∧ sp [x, y] H (fun v H' => ∃ r, v = .bl r ∧ Q (.bl r) H') E
def rNeO (C : Addr) (sp : Sp) (E : XK) : R2 := fun x y H Q => ∃ a dx fs b dy gs, x = .ref a ∧ H a = some (.ins C dx fs) ∧ y = .ref b ∧ H b = some (.ins C dy gs) ∧ sp [x, y] H (fun v H' => ∃ r, v = .bl r ∧ Q (.bl (!r)) H') E
section
variable {X : Cx} {CX : CXT} {C f : Addr} {fd : FuncData} {n : Nat} {ps : List Str} {sp : Sp} {E : XK}
/-- the own == is called -/
theorem own_call (F : FnOk X.prog X.w X.K X.mg X.base CX n f fd ps sp) (hb : Binds X.K fd ps []) (hx : Passes CX X E) {A : Around} (sb : Sub X n A) {pins : List (Addr × Obj)} {σ : L2.St} {H : Hp} {s : Shared} (I : Inv X pins σ H s) {a b : Addr} {Q : V → Hp → Prop}
    (h : sp [.ref a, .ref b] H Q E) : wpAny (model X.prog X.w) A (call (.ref f) [.ref a, .ref b]) (EP X pins σ Q) X.xe s := by
  have e0 : Env0 X.prog X.w X.K X.mg X.base A X.stack s H := by
    have e := I.env0
    exact ⟨by rw [sb.fr]; exact e.frames, e.mod, e.bs, e.bsz, e.funs, e.frf, e.hok, e.bare⟩
  have hl := F.len _ _ _ _ h
  have r2 : Vals [V.ref a, V.ref b] [Value.ref a, Value.ref b] := .cons rfl (.cons rfl .nil)
  refine wpAny_call (codeAny_mono (F.run A X.stack s H ⟨[.ref a, .ref b], []⟩ [.ref a, .ref b] [.ref a, .ref b] _ E sb.room e0 (by
    have := hb s [.ref a, .ref b] I.kIn (by simpa using hl)
    simpa using this) r2 h) fun r s' hq => ?_)
  cases r with
  | error e => exact hx pins σ H s e s' I hq
  | ok fl =>
    cases fl with
    | ret w =>
      obtain ⟨z, H', I', rz, q⟩ := I.after hq
      exact ⟨z, H', I', rz, q⟩
    | next => exact False.elim hq
    | brk => exact False.elim hq
    | cont => exact False.elim hq
theorem op_eqO (F : FnOk X.prog X.w X.K X.mg X.base CX n f fd ps sp) (hs : PySem.W.findIn X.K (.ref C) "__eq__" = some (some (.ref f))) (hf : PySem.W.isFn X.K (.ref f) = true) (hb : Binds X.K fd ps []) (hx : Passes CX X E) (hr : Room n X.A) :
    OpR X (compareOp .Eq) (rEqO X.K C sp E) := by
  intro pins s σ H x y v u Q I rx ry h
  obtain ⟨a, dx, fs, rfl, ha, et, h⟩ := h
  cases (show v = Value.ref a from rx)
  obtain ⟨mA, J, _⟩ := ins_get I.hok ha
  obtain ⟨od, J, _⟩ := J.look
  obtain ⟨m, hF⟩ := I.fr
  have sb : Sub X n X.A := ⟨hr, rfl⟩
  show wpAny (model X.prog X.w) X.A (richCompare .Eq (.ref a) u) (EP X pins σ Q) X.xe s
  have key : ∀ (b : Addr) (tb : Value), y = .ref b → PySem.W.Looks (model X.prog X.w) s.heap (typeOf (.ref b)) tb → PySem.W.notFirst X.K C tb = true → wpAny (model X.prog X.w) X.A (richCompare .Eq (.ref a) u) (EP X pins σ Q) X.xe s := fun b tb ey lk nf => by
    subst ey
    cases (show u = Value.ref b from ry)
    refine PySem.W.cmp_K (op := .Eq) (tb := tb) sb.room.units0 hF I.ok.mod.kin J lk nf hs hf (wpAny_mono (own_call F hb hx sb I h) (fun w s' q => ?_) fun _ _ e => e)
    obtain ⟨z, H', I', rz, r, rfl, q⟩ := q
    cases rz
    exact ⟨.bl r, H', I', rfl, q⟩
  rcases et with ⟨b, dy, gs, ey, hb'⟩ | ⟨b, xs, ey, hl, nf⟩
  · obtain ⟨mB, J', _⟩ := ins_get I.hok hb'
    obtain ⟨od', J', _⟩ := J'.look
    exact key b (.ref C) ey J'.type (by simp [PySem.W.notFirst])
  · obtain ⟨vs, r1, p1, _⟩ := I.list hl
    obtain ⟨ob, e1, e2, _⟩ := p1.isList
    exact key b (.type "list") ey (by rw [← e2]; exact (PySem.W.Looks.ld e1).andThen .now) nf
theorem op_neO (F : FnOk X.prog X.w X.K X.mg X.base CX n f fd ps sp) (hm : PySem.W.mroIn X.K C (.type "object") = some true) (hs : PySem.W.findIn X.K (.ref C) "__eq__" = some (some (.ref f))) (hf : PySem.W.isFn X.K (.ref f) = true)
    (hn : PySem.W.findIn X.K (.ref C) "__ne__" = some (some (.builtin "object.__ne__"))) (hb : Binds X.K fd ps []) (hx : Passes CX X E) (hr : Room (n + 1) X.A) : OpR X (compareOp .NotEq) (rNeO C sp E) := by
  intro pins s σ H x y v u Q I rx ry h
  obtain ⟨a, dx, fs, b, dy, gs, rfl, ha, rfl, hb', h⟩ := h
  cases (show v = Value.ref a from rx)
  cases (show u = Value.ref b from ry)
  obtain ⟨mA, J, _⟩ := ins_get I.hok ha
  obtain ⟨od, J, _⟩ := J.look
  obtain ⟨mB, J', _⟩ := ins_get I.hok hb'
  obtain ⟨od', J', _⟩ := J'.look
  have sb : Sub X (n + 1) X.A := ⟨hr, rfl⟩
  show wpAny (model X.prog X.w) X.A (richCompare .NotEq (.ref a) (.ref b)) (EP X pins σ Q) X.xe s
  refine OE.rc_ne (f := f) (by have := sb.in1.room.units0; exact this) I.kIn J J'.type hm hs hf hn (wpAny_mono (own_call F hb hx sb.in1 I h) (fun w s' q => ?_) fun _ _ e => e)
  obtain ⟨z, H', I', rz, r, rfl, q⟩ := q
  cases rz
  exact ⟨r, rfl, .bl (!r), H', I', rfl, q⟩
end
end K01
/-! ## DL26 -/
set_option Elab.async false
set_option linter.all false
set_option maxRecDepth 100000
set_option maxHeartbeats 4000000
/-! == of dicts of data; an own == . -/
namespace DL
open PySem PySem.Spec PyProof.Rows L2
/-- the entries' values as data, met or missed in the other -/
inductive HitsV (K : PySem.W.Frag) (H : Hp) (kb : List (Key × V)) : List (Key × V) → Bool → Prop
  | nil : HitsV K H kb [] true
  | miss {k : Key} {v : V} {r : List (Key × V)} : valV kb k = none → HitsV K H kb ((k, v) :: r) false
  | hit {k : Key} {v u : V} {d e : PyData} {r : List (Key × V)} {b : Bool} : valV kb k = some u → Dp K H v d → Dp K H u e → d.canLay0 = true → e.canLay0 = true → d.depth ≤ 60 → HitsV K H kb r b → HitsV K H kb ((k, v) :: r) (PyData.eqv d e && b)
def rEqK (K : PySem.W.Frag) : R2 := fun x y H Q => ∃ a b ka kb r, x = .ref a ∧ y = .ref b ∧ Rd H a (.dK ka) ∧ Rd H b (.dK kb) ∧ HitsV K H kb ka r ∧ Q (.bl (ka.length == kb.length && r)) H
theorem hits_go {X : Cx} {pins : List (Addr × Obj)} {σ : L2.St} {H : Hp} {s : Shared} (I : Inv X pins σ H s) {A : Around} (hu : A.units + 60 < cLine) {kb : List (Key × V)} {vb : List (Key × Value)} (rb : KV kb vb) : ∀ {ka : List (Key × V)} {va : List (Key × Value)} {r : Bool}, KV ka va → HitsV X.K H kb ka r → PySem.W.KeqHits A s vb va r := by
  intro ka va r ra h
  unfold KV at ra
  induction h generalizing va with
  | nil =>
    cases ra
    exact .nil
  | @miss k0 v0 r0 hn =>
    cases ra with
    | @cons _ q _ qs h t =>
      obtain ⟨k', w⟩ := q
      obtain ⟨rfl, _⟩ := h
      have q := rb.val k0
      rw [hn] at q
      refine .miss ?_
      cases z : valueAt vb k0 with
      | none => rfl
      | some y =>
        rw [z] at q
        exact q.elim
  | @hit k0 v0 u0 d0 e0 r0 b0 hv hd he c1 c2 dp _ ih =>
    cases ra with
    | @cons _ q _ qs h t =>
      obtain ⟨k', w⟩ := q
      obtain ⟨rfl, rw_⟩ := h
      have q := rb.val k0
      rw [hv] at q
      cases z : valueAt vb k0 with
      | none =>
        rw [z] at q
        exact q.elim
      | some y =>
        rw [z] at q
        obtain ⟨as, r1⟩ := Dp.reads I _ _ _ hd rw_
        obtain ⟨bs, r2⟩ := Dp.reads I _ _ _ he q
        refine .hit z (SeqAt.eqAt_reads _ _ A s _ _ as bs r1 r2 c1 c2 ?_) (ih t)
        have := Nat.min_le_left d0.depth e0.depth
        omega
theorem op_eqK {X : Cx} (hu : X.A.units + 64 < cLine) : OpR X (compareOp .Eq) (rEqK X.K) := by
  intro pins s σ H x y v u Q I rx ry h
  obtain ⟨a, b, ka, kb, r, rfl, rfl, ea, eb, hh, q⟩ := h
  obtain rfl : v = Value.ref a := rx
  obtain rfl : u = Value.ref b := ry
  obtain ⟨_, ya, va, ra, da⟩ := dk_rd I.hok ea
  obtain ⟨_, yb, vb, rb, db⟩ := dk_rd I.hok eb
  have e1 : ka.length = va.length := Paired.length ra
  have e2 : kb.length = vb.length := Paired.length rb
  refine PySem.W.keq_eq (knd := mixKind X.prog X.w) (r := r) ya yb da db (by omega) (fun _ => hits_go I (by show X.A.units + 1 + 60 < cLine; omega) rb ra hh) (fin_bl I q (by rw [e1, e2]))
/-- what stands to the right of an own ==: one of the class, or a dict -/
def EqTo2 (K : PySem.W.Frag) (H : Hp) (C : Addr) (y : V) : Prop := (∃ b dx fs, y = .ref b ∧ H b = some (.ins C dx fs)) ∨ ∃ b kvs, y = .ref b ∧ Rd H b (.dK kvs) ∧ PySem.W.notFirst K C (.type "dict") = true
def rEqW (K : PySem.W.Frag) (C : Addr) (sp : Sp) (E : XK) : R2 := fun x y H Q => ∃ a dx fs, x = .ref a ∧ H a = some (.ins C dx fs) ∧ EqTo2 K H C y ∧ sp [x, y] H (fun v H' => ∃ r, v = .bl r ∧ Q (.bl r) H') E
theorem op_eqW {X : Cx} {CX : CXT} {C f : Addr} {fd : FuncData} {n : Nat} {ps : List Str} {sp : Sp} {E : XK} (F : FnOk X.prog X.w X.K X.mg X.base CX n f fd ps sp) (hs : PySem.W.findIn X.K (.ref C) "__eq__" = some (some (.ref f))) (hf : PySem.W.isFn X.K (.ref f) = true) (hb : Binds X.K fd ps []) (hx : Passes CX X E) (hr : Room n X.A) :
    OpR X (compareOp .Eq) (rEqW X.K C sp E) := by
  intro pins s σ H x y v u Q I rx ry h
  obtain ⟨a, dx, fs, rfl, ha, et, h⟩ := h
  cases (show v = Value.ref a from rx)
  obtain ⟨mA, J, _⟩ := ins_get I.hok ha
  obtain ⟨od, J, _⟩ := J.look
  obtain ⟨m, hF⟩ := I.fr
  have sb : Sub X n X.A := ⟨hr, rfl⟩
  show wpAny (model X.prog X.w) X.A (richCompare .Eq (.ref a) u) (EP X pins σ Q) X.xe s
  have at_ : ∀ (b : Addr) (tb : Value), y = .ref b → PySem.W.Looks (model X.prog X.w) s.heap (typeOf (.ref b)) tb → PySem.W.notFirst X.K C tb = true → wpAny (model X.prog X.w) X.A (richCompare .Eq (.ref a) u) (EP X pins σ Q) X.xe s := fun b tb ey lk nf => by
    subst ey
    cases (show u = Value.ref b from ry)
    refine PySem.W.cmp_K (op := .Eq) (tb := tb) sb.room.units0 hF I.ok.mod.kin J lk nf hs hf (wpAny_mono (K01.own_call F hb hx sb I h) (fun w s' q => ?_) fun _ _ e => e)
    obtain ⟨z, H', I', rz, r, rfl, q⟩ := q
    cases rz
    exact ⟨.bl r, H', I', rfl, q⟩
  rcases et with ⟨b, dy, gs, ey, hb'⟩ | ⟨b, kvs, ey, hd, nf⟩
  · obtain ⟨mB, J', _⟩ := ins_get I.hok hb'
    obtain ⟨od', J', _⟩ := J'.look
    exact at_ b (.ref C) ey J'.type (by simp [PySem.W.notFirst])
  · obtain ⟨_, _, va, _, da⟩ := dk_rd I.hok hd
    obtain ⟨ob, e1, e2⟩ := da.typeIs
    exact at_ b (.type "dict") ey (by rw [← e2]; exact (PySem.W.Looks.ld e1).andThen .now) nf
variable [Wd]
/-- whether two dicts of data are equal -/
def eqDic (ks ls : List (Key × Dt)) : Bool := ks.length == ls.length && ks.all fun p => match valD ls p.1 with
  | some e => eqD p.2 e
  | none => false
theorem hits_of {K : PySem.W.Frag} {A : Addr → Prop} {H : Hp} {kb : List (Key × V)} {ls : List (Key × Dt)} (rb : RepK A H kb ls) (ob : ∀ p ∈ ls, okD 60 p.2 = true) : ∀ {ka : List (Key × V)} {ks : List (Key × Dt)}, RepK A H ka ks → (∀ p ∈ ks, okD 60 p.2 = true) →
    ∃ r, HitsV K H kb ka r ∧ r = ks.all fun p => match valD ls p.1 with
      | some e => eqD p.2 e
      | none => false
  | _, _, .nil, _ => ⟨true, .nil, rfl⟩
  | _, _, .cons (k := k) (v := v) (d := d) h r, ok => by
    obtain ⟨b, h1, h2⟩ := hits_of rb ob r fun p hp => ok p (List.mem_cons_of_mem _ hp)
    rcases rb.val k with ⟨q1, q2⟩ | ⟨u, e, q1, q2, q3⟩
    · exact ⟨false, .miss q1, by rw [List.all_cons]; simp only [q2, Bool.false_and]⟩
    · have me : (k, e) ∈ ls := by
        clear h1 h2 rb ob ok h r q1 q3
        induction ls with
        | nil => cases q2
        | cons p r ih =>
          obtain ⟨k0, d0⟩ := p
          rw [valD] at q2
          by_cases z : k0 = k
          · rw [if_pos z] at q2
            cases q2
            rw [z]
            exact List.mem_cons_self
          · rw [if_neg z] at q2
            exact List.mem_cons_of_mem _ (ih q2)
      obtain ⟨x, e1, c1, p1⟩ := okD_dat d 60 (ok (k, d) List.mem_cons_self)
      obtain ⟨y, e2, c2, p2⟩ := okD_dat e 60 (ob (k, e) me)
      refine ⟨_, .hit q1 (dp_rep h e1) (dp_rep q3 e2) c1 c2 p1 h1, ?_⟩
      rw [List.all_cons, h2]
      simp only [q2]
      unfold eqD
      rw [e1, e2]
theorem dop_eqK {K : PySem.W.Frag} : DOpS (rEqK K) (fun d e Q => ∃ ks ls, d = .dic ks ∧ e = .dic ls ∧ (∀ p ∈ ks, okD 60 p.2 = true) ∧ (∀ p ∈ ls, okD 60 p.2 = true) ∧ Q (.bl (eqDic ks ls))) := fun A H v w d e Qd Q r1 r2 hF k => by
  obtain ⟨ks, ls, rfl, rfl, o1, o2, q⟩ := hF
  obtain ⟨a, es, rfl, ra, k1⟩ := bor_dic r1
  obtain ⟨b, fs, rfl, rb, k2⟩ := bor_dic r2
  obtain ⟨r, h, er⟩ := hits_of (K := K) k2 o2 k1 o1
  refine ⟨a, b, es, fs, r, rfl, rfl, ra, rb, h, ?_⟩
  rw [er, k1.len, k2.len]
  exact k _ _ sc_bl q
section
variable {ι : Type} {X : ι → Cx} {ac : Act}
/-- o == e, by the class's own == -/
theorem dr_own {K : PySem.W.Frag} {C : Addr} {Ct : Ct} {Ec : XK} {a b e : Expr} {Ta Tb : TRd} (pe : ∀ c {ta tb : TE}, PE (X c) a ta → PE (X c) b tb → PE (X c) e (tOp (rEqW K C (spC Ct) Ec) ta tb)) (nf : PySem.W.notFirst K C (.type "dict") = true) (ha : DR X ac a Ta) (hb : DR X ac b Tb) :
    DR X ac e (fun n δ Q => Ta n δ fun d n1 δ1 => Tb n1 δ1 fun d' n2 δ2 => (∃ ks, d = .ins C ks) ∧ ((∃ ks, d' = .ins C ks) ∨ ∃ ks, d' = .dic ks) ∧ Ct [.ro d, .ro d'] n2 (fun r n3 => ∃ b, r = .ro (.bl b) ∧ Q (.bl b) n3 δ2) fun _ _ _ _ => False) := by
  obtain ⟨ta, pa, ea⟩ := ha
  obtain ⟨tb, pb, eb⟩ := hb
  refine ⟨_, fun c => pe c (pa c) (pb c), fun Γ gx σ A H n δ Qd Q R hT k => ea Γ gx σ A H n δ _ _ R hT fun v d A1 H1 n1 δ1 R1 r1 m1 q1 => eb Γ gx σ A1 H1 n1 δ1 _ _ R1 q1 fun w e A2 H2 n2 δ2 R2 r2 m2 q2 => ?_⟩
  obtain ⟨⟨ks, rfl⟩, hd, q⟩ := q2
  have r1' := r1.kp (m2.kp R1)
  obtain ⟨p, dx, fs, rfl, hp, hx, _⟩ := rep_ins r1'
  refine ⟨p, dx, fs, rfl, hx, ?_, ⟨H2, A2, Γ.p⟩, n2, [.ro _, .ro _], _, fun _ _ _ _ => False, rfl, R2.exit0, .cons (.ro r1') (.cons (.ro r2) .nil), q, fun v r A' H' n' ex ro q => ?_, fun _ _ _ _ _ _ _ _ _ _ _ _ _ z => z.elim⟩
  · rcases hd with ⟨ls, rfl⟩ | ⟨ls, rfl⟩
    · obtain ⟨b, dy, gs, rfl, _, hy, _⟩ := rep_ins r2
      exact .inl ⟨b, dy, gs, rfl, hy⟩
    · obtain ⟨b, es, rfl, rb, _⟩ := bor_dic (.rep r2)
      exact .inr ⟨b, es, rfl, rb, nf⟩
  · obtain ⟨b, rfl, q⟩ := q
    obtain ⟨R3, m3⟩ := R2.call ex
    have rv : Rep A' H' v (.bl b) := ro
    refine ⟨b, rep_bl rv, ?_⟩
    exact k (.bl b) (.bl b) A' H' n' δ2 R3 (.bl b) ((m1.trans m2).trans m3) q
end
end DL
/-! ## DL27 -/
set_option Elab.async false
set_option linter.all false
set_option maxRecDepth 100000
set_option maxHeartbeats 4000000
/-! Dicts made of pairs; clear, update; list(d.items()); d.values() walked; min(d), some key; int(bool). -/
namespace DL
open PySem PySem.Spec PyProof.Rows L2
theorem valV_no {k : Key} {kvs : List (Key × V)} (h : k ∉ kvs.map (·.1)) : valV kvs k = none := by
  unfold valV
  have e : kvs.find? (fun kv => decide (kv.1 = k)) = none := List.find?_eq_none.mpr fun p hp e => h (List.mem_map.mpr ⟨p, hp, of_decide_eq_true e⟩)
  rw [e]
  rfl
theorem merge_all : ∀ (more kvs : List (Key × V)), ((kvs ++ more).map (·.1)).Nodup → mergeK kvs more = kvs ++ more
  | [], kvs, _ => by
    rw [List.append_nil]
    rfl
  | q :: r, kvs, h => by
    have nin : q.1 ∉ kvs.map (·.1) := fun m => by
      rw [List.map_append, List.nodup_append] at h
      exact h.2.2 _ m _ (List.mem_map.mpr ⟨q, List.mem_cons_self, rfl⟩) rfl
    show mergeK (putK kvs q.1 q.2) r = _
    rw [putK_new _ (valV_no nin)]
    have e : kvs ++ q :: r = (kvs ++ [(q.1, q.2)]) ++ r := by simp
    rw [e] at h ⊢
    exact merge_all r _ h
/-- d.update(e), two dicts of whole numbers or texts -/
def rUpd : V → List V → Hp → VK → Prop := fun x vs H Q => ∃ (a b : Addr) (kvs more : List (Key × V)), x = .ref a ∧ vs = [.ref b] ∧ a ≠ b ∧ H a = some (.dK kvs) ∧ Rd H b (.dK more) ∧ kvs.length + more.length ≤ sizeLine ∧ Q .non (upd H a (.dK (mergeK kvs more)))
theorem merge_len (more : List (Key × V)) : ∀ kvs : List (Key × V), (mergeK kvs more).length ≤ kvs.length + more.length := by
  induction more with
  | nil => exact fun kvs => Nat.le_refl _
  | cons q r ih =>
    intro kvs
    have h := ih (putK kvs q.1 q.2)
    have l : (putK kvs q.1 q.2).length ≤ kvs.length + 1 := by
      unfold putK
      split
      · rw [List.length_map]
        omega
      · rw [List.length_append]
        exact Nat.le_refl _
    show (mergeK (putK kvs q.1 q.2) r).length ≤ _
    rw [List.length_cons]
    omega
theorem mt_update {X : Cx} : MtR X "dict.update" rUpd := by
  intro pins s σ H x vs v us Q I rx rv h
  obtain ⟨a, b, kvs, more, rfl, rfl, ne, ha, hb, hz, q⟩ := h
  obtain rfl : v = Value.ref a := rx
  obtain ⟨u, rfl, ru⟩ := rv.one
  obtain rfl : u = Value.ref b := ru
  obtain ⟨_, ya, va, ra, da⟩ := dk_of I.hok ha
  obtain ⟨_, yb, vb, rb, db⟩ := dk_rd I.hok hb
  have e1 : kvs.length = va.length := Paired.length ra
  have e2 : more.length = vb.length := Paired.length rb
  refine call_meetsIn PySem.F.slot_dict_update da.typeIs PySem.F.entry_dict_update (PySem.F.args_dict_update_2 _ _) (meets_dict_update (mixKind X.prog X.w) a b ne yb) ⟨va, vb, da, db, by omega, fun h' da' _ sb => ⟨.non, _, ?_, rfl, q⟩⟩
  have he : ∃ q, h'.get? a = some q := let ⟨q, _, _, hq, _⟩ := da'; ⟨q, hq⟩
  exact d_write (t' := s.toks) I (by rw [ha]; exact True.intro) sb he (dk_new (Nat.le_trans (merge_len more kvs) hz) ya (KV.merge rb ra) da')
/-- the least of texts, the first of them -/
def minK (ks : List Str) : Str := ks.getD (argBest (fun i j => decide ((ks.getD i "").cps.toList < (ks.getD j "").cps.toList)) (ks.length - 1)) ""
/-- min(d), d with texts for keys -/
def rMinS : List V → Hp → VK → Prop := fun vs H Q => ∃ (a : Addr) (kvs : List (Key × V)) (ks : List Str), vs = [V.ref a] ∧ Rd H a (.dK kvs) ∧ kvs.map (·.1) = ks.map Sum.inr ∧ ks ≠ [] ∧ ∀ m, m = minK ks → m ∈ ks → Q (.str m) H
theorem cmp_strs {prog : Program} {w : World} {A : Around} {P : Nat → Value → Prop} (val : Nat → Str) (hval : ∀ i v, P i v → ∃ t, v = .str (val i) t) : CmpOf prog w A .Lt P (fun i j => decide ((val i).cps.toList < (val j).cps.toList)) := fun i j vi vj s Q E hi hj h => by
  obtain ⟨t, rfl⟩ := hval i vi hi
  obtain ⟨u, rfl⟩ := hval j vj hj
  exact PySem.P.lt_str h
theorem cr_minS {X : Cx} (hc : X.calm = true) : CallR X (.builtin "min") rMinS := by
  intro pins s σ H vs us Q I r h
  obtain ⟨a, kvs, ks, rfl, ha, hv, hne, q⟩ := h
  rw [Vals.ref1 r]
  obtain ⟨_, hsys, vs, rel, dof⟩ := dk_rd I.hok ha
  obtain ⟨ep, dat⟩ := dof.dictAt
  obtain ⟨ob, es, ho, hex, hdat, hko, hpr, hnd⟩ := id dat
  have hlt : a < s.heap.objs.size := Heap.lt_size ho
  have hkeys : vs.map (·.1) = ks.map Sum.inr := (KV.keys rel).symm.trans hv
  have hlv : vs.length = ks.length := by simpa using congrArg List.length hkeys
  have hlen : 0 < vs.length := by
    rw [hlv]
    exact List.length_pos_iff.mpr hne
  have hval : ∀ (i : Nat) (v : Value), (∃ k x, vs[i]? = some (k, x) ∧ (mixKind X.prog X.w).is k v = true) → ∃ t, v = Value.str (ks.getD i "") t := fun i v ⟨k, x, hk, hkey⟩ => by
    have e1 : (vs.map (·.1))[i]? = some k := by rw [List.getElem?_map, hk] <;> rfl
    rw [hkeys, List.getElem?_map] at e1
    obtain ⟨j, hj, e2⟩ := Option.map_eq_some_iff.mp e1
    subst e2
    have hi : keyIs (.inr j) v = true := hkey
    obtain ⟨_, _, z, _⟩ | ⟨j', t, z, e3⟩ := keyIs_shape hi
    · cases z
    cases z
    refine ⟨t, ?_⟩
    rw [e3, List.getD_eq_getElem?_getD, hj] <;> rfl
  refine call_min_walk (wpAny_pyIter_dict (knd := mixKind X.prog X.w) hsys dat ?_)
  refine ⟨_, _, _, _, _, _, _, rfl, Walks.dictKeys (knd := mixKind X.prog X.w) (A := X.A.in1) (I.ok.hd hc) s.heap.objs.size a (Nat.ne_of_lt hlt) vs ep,
    ⟨⟨_, Heap.get?_push_size _ rfl, rfl, rfl⟩, dat.keep fun b u e => Heap.get?_push_of_some _ e⟩, fun b hb => ?_, hlen, cmp_strs (fun i => ks.getD i "") hval, fun v h' tk hP hk => ?_⟩
  · show b < (s.heap.push _).objs.size
    rw [Heap.size_push]
    rcases List.mem_cons.mp hb with e | hb
    · rw [e]
      exact Nat.lt_succ_self _
    · rw [List.mem_singleton.mp hb]
      exact Nat.lt_succ_of_lt hlt
  · obtain ⟨k, x, hk2, _⟩ := id hP
    obtain ⟨t, rfl⟩ := hval _ v hP
    have e1 : (vs.map (·.1))[argBest (fun i j => decide ((ks.getD i "").cps.toList < (ks.getD j "").cps.toList)) (vs.length - 1)]? = some k := by rw [List.getElem?_map, hk2] <;> rfl
    rw [hkeys, List.getElem?_map] at e1
    obtain ⟨j, hj, e2⟩ := Option.map_eq_some_iff.mp e1
    refine ⟨.str _, H, I.kept (t' := tk) fun b u e => hk b u (fun hmem => by have e1 : b = s.heap.objs.size := List.mem_singleton.mp hmem; have e2 := Heap.lt_size e; rw [e1] at e2; exact absurd e2 (Nat.lt_irrefl _)) (Heap.get?_push_of_some _ e), ⟨t, rfl⟩, q _ ?_ ?_⟩
    · unfold minK
      rw [hlv]
    · rw [List.getD_eq_getElem?_getD, hj]
      exact List.mem_of_getElem? hj
variable [Wd]
section
variable {A : Addr → Prop} {H : Hp}
def pairT (p : Key × Dt) : Dt := .tup [keyT p.1, p.2]
theorem pairs_rep {K : PySem.W.Frag} : ∀ {xs : List V} {kvs : List (Key × Dt)}, Reps A H xs (kvs.map pairT) → ∃ (ps : List Addr) (es : List (Key × V)), xs = ps.map V.ref ∧ Paired (fun p kv => SqT K H p [kV kv.1, kv.2]) ps es ∧ RepK A H es kvs
  | _, [], .nil => ⟨[], [], rfl, .nil, .nil⟩
  | _, (k, d) :: kvs, .cons h t => by
    obtain ⟨ps, es, rfl, pr, rk⟩ := pairs_rep (K := K) t
    obtain ⟨p, us, rfl, _, hp, ru⟩ := rep_tup h
    cases ru with
    | cons r1 ru =>
      rename_i u1 us
      cases ru with
      | cons r2 ru =>
        rename_i u2 us
        cases ru
        have e1 : u1 = kV k := rep_key r1 (by cases k <;> rfl)
        subst e1
        exact ⟨p :: ps, (k, u2) :: es, rfl, .cons (SqT.of hp) pr, .cons r2 rk⟩
/-- a key of a mixed dict -/
def nkD : Dt → Option NestedKey
  | .non => some .none
  | .int i => some (.num i)
  | .str z => some (.text z)
  | _ => none
def pairM (p : Dt × Dt) : Dt := .tup [p.1, p.2]
theorem nk_at {v : V} {d : Dt} {q : NestedKey} (r : Rep A H v d) (e : nkD d = some q) : K01.KeyAt H q v ∧ d.firm = true := by
  cases r <;> simp [nkD] at e <;> subst e
  · exact ⟨.none, rfl⟩
  · exact ⟨.num _, rfl⟩
  · exact ⟨.text _, rfl⟩
theorem pairs_mix {K : PySem.W.Frag} : ∀ {xs : List V} {es : List (Dt × Dt)} {qs : List NestedKey}, Reps A H xs (es.map pairM) → Paired (fun p q => nkD p.1 = some q) es qs → ∃ (ps : List Addr) (vs : List K01.VEnt), xs = ps.map V.ref ∧ Paired (fun p (kv : K01.VEnt) => SqT K H p [kv.2.1, kv.2.2]) ps vs ∧ RepM A H vs es ∧ vs.map (·.1) = qs
  | _, [], _, .nil, .nil => ⟨[], [], rfl, .nil, .nil, rfl⟩
  | _, (kd, d) :: es, _, .cons h t, .cons hq hqs => by
    obtain ⟨ps, vs, rfl, pr, rm, eq⟩ := pairs_mix (K := K) t hqs
    obtain ⟨p, us, rfl, _, hp, ru⟩ := rep_tup h
    cases ru with
    | cons r1 ru =>
      rename_i u1 us
      cases ru with
      | cons r2 ru =>
        rename_i u2 us
        cases ru
        obtain ⟨ka, na⟩ := nk_at r1 hq
        exact ⟨p :: ps, (_, u1, u2) :: vs, rfl, .cons (SqT.of hp) pr, .cons ka na r1 r2 rm, by rw [List.map_cons, eq]⟩
end
section
variable {ι : Type} {X : ι → Cx} {ac : Act}
def rDictP (K : PySem.W.Frag) : List V → Hp → VK → Prop := fun xs H Q => ∃ (a : Addr) (ps : List Addr) (kvs : List (Key × V)), xs = [.ref a] ∧ SqL K H a (ps.map V.ref) ∧ Paired (fun p kv => SqT K H p [kV kv.1, kv.2]) ps kvs ∧ ∀ p, H p = none → Q (.ref p) (upd H p (.dK (mergeK [] kvs)))
def rDictM (K : PySem.W.Frag) (w : World) : List V → Hp → VK → Prop := fun xs H Q => ∃ (a : Addr) (ps : List Addr) (kvs : List K01.VEnt), xs = [.ref a] ∧ SqL K H a (ps.map V.ref) ∧ Paired (fun p (kv : K01.VEnt) => SqT K H p [kv.2.1, kv.2.2]) ps kvs ∧ K01.KeysAt H kvs ∧ (kvs.map (·.1)).Nodup ∧ ∀ p, H p = none → Q (.ref p) (upd H p (K01.MixO w p kvs))
theorem bor_lst {v : V} {ds : List Dt} {A : Addr → Prop} {H : Hp} (r : Bor A H v (.lst ds)) : ∃ a xs, v = .ref a ∧ H a = some (.lst xs) ∧ Reps A H xs ds := by
  cases r with
  | rep r =>
    obtain ⟨a, xs, rfl, _, h, hr⟩ := rep_lst r
    exact ⟨a, xs, rfl, h, hr⟩
  | lst h hr => exact ⟨_, _, rfl, h, hr⟩
/-- dict(xs), pairs of unlike keys, all whole numbers or texts -/
theorem de_dictP {K : PySem.W.Frag} {a e : Expr} {T : TRd} (pe : ∀ c {t : TE}, PE (X c) a t → PE (X c) e (tCB (rDictP K) (tCons t tNil))) (h : DB X ac a T) : DE X ac e (fun n δ Q => T n δ fun d n' δ' => ∃ kvs, d = .lst (kvs.map pairT) ∧ (kvs.map (·.1)).Nodup ∧ Q (.own (.dic kvs)) n' δ') := by
  obtain ⟨t, p, ev⟩ := h
  refine ⟨_, fun c => pe c (p c), fun Γ gx σ A H n δ Qd Q R hT k => ev Γ gx σ A H n δ _ _ R hT fun v d A1 H1 n1 δ1 R1 r1 m1 q1 => ?_⟩
  obtain ⟨kvs, rfl, nd, q⟩ := q1
  obtain ⟨b, xs, rfl, hb, rs⟩ := bor_lst r1
  obtain ⟨ps, es, rfl, pr, rk⟩ := pairs_rep (K := K) rs
  refine ⟨b, ps, es, rfl, SqL.of hb, pr, fun l nl => ?_⟩
  rw [merge_all es [] (by rw [List.nil_append, rk.keys]; exact nd), List.nil_append]
  have g : Grow A1 H1 A1 (upd H1 l (.dK es)) := .new nl R1.dom
  exact k (.ref l) (.own (.dic kvs)) A1 _ n1 δ1 (R1.grow g) (RRel.new R1 g m1.was (fun d e => by cases e) (fun d e => by cases e; exact ⟨l, rfl, nl, fun z => R1.dom l z nl, es, upd_same, rk.kp g.k⟩) (fun e => by cases e) (fun e => by cases e)) (m1.trans (.grow g)) q
/-- .. of any of these keys and None -/
theorem de_dictM {K : PySem.W.Frag} {a e : Expr} {T : TRd} (pe : ∀ c {t : TE}, PE (X c) a t → PE (X c) e (tCB (rDictM K Wd.w) (tCons t tNil))) (h : DB X ac a T) : DE X ac e (fun n δ Q => T n δ fun d n' δ' => ∃ (es : List (Dt × Dt)) (qs : List NestedKey), d = .lst (es.map pairM) ∧ Paired (fun p q => nkD p.1 = some q) es qs ∧ qs.Nodup ∧ Q (.own (.mix es)) n' δ') := by
  obtain ⟨t, p, ev⟩ := h
  refine ⟨_, fun c => pe c (p c), fun Γ gx σ A H n δ Qd Q R hT k => ev Γ gx σ A H n δ _ _ R hT fun v d A1 H1 n1 δ1 R1 r1 m1 q1 => ?_⟩
  obtain ⟨es, qs, rfl, hq, nd, q⟩ := q1
  obtain ⟨b, xs, rfl, hb, rs⟩ := bor_lst r1
  obtain ⟨ps, vs, rfl, pr, rm, eq⟩ := pairs_mix (K := K) rs hq
  refine ⟨b, ps, vs, rfl, SqL.of hb, pr, rm.keys, by rw [eq]; exact nd, fun l nl => ?_⟩
  have g : Grow A1 H1 A1 (upd H1 l (K01.MixO Wd.w l vs)) := .new nl R1.dom
  exact k (.ref l) (.own (.mix es)) A1 _ n1 δ1 (R1.grow g) (RRel.new R1 g m1.was (fun d e => by cases e) (fun d e => by cases e; exact ⟨l, rfl, nl, fun z => R1.dom l z nl, vs, upd_same, rm.kp g.k⟩) (fun e => by cases e) (fun e => by cases e)) (m1.trans (.grow g)) q
/-- x.clear(), x a name's own -/
theorem ds_clear {K : PySem.W.Frag} {i : Nat} {x : Str} {pos : Pos} {st : Stmt} (ps : ∀ c {t : TE}, PE (X c) (.Name x pos) t → PS (X c) st (tDrop (tBM0 K "dict" rDClear t))) (h : ∀ c, PE (X c) (.Name x pos) (tVar i)) : DS X ac st (fun n δ E => (∃ kvs, δ[i]? = some (.own (.dic kvs))) ∧ E.nx n (δ.set i (.own (.dic [])))) := by
  refine ⟨_, fun c => ps c (h c), fun Γ gx σ A H n δ D E R s hT => ?_⟩
  obtain ⟨⟨kvs, e⟩, q⟩ := hT
  obtain ⟨y, h1, h2⟩ := slR_get R.sl e
  obtain ⟨a, rfl, es, he, hr⟩ := slR_own h2
  obtain ⟨_, na, _⟩ := R.fo a (owns_at h1 e)
  have kk : Kp A H A (upd H a (.dK [])) := .of (fun _ h => h) fun b u hb q => by
    rw [upd_ne (neA hb na)]
    exact q
  exact ⟨_, h1, .inr (.inr (.inl ⟨rfl, .inl ⟨es, he⟩⟩)), a, es, rfl, rfl, he, s.nx _ _ A _ n (R.up (d' := .dic []) h1 e ⟨_, upd_same, .nil⟩) kk q⟩
/-- e.clear(), e new -/
theorem de_clear {K : PySem.W.Frag} {a e : Expr} {T : TEd} (pe : ∀ c {t : TE}, PE (X c) a t → PE (X c) e (tBM0 K "dict" rDClear t)) (h : DE X ac a T) : DE X ac e (fun n δ Q => T n δ fun r n' δ' => (∃ kvs, r = .own (.dic kvs)) ∧ Q (.ro .non) n' δ') := by
  obtain ⟨t, p, ev⟩ := h
  refine ⟨_, fun c => pe c (p c), fun Γ gx σ A H n δ Qd Q R hT k => ev Γ gx σ A H n δ _ _ R hT fun v r A' H' n' δ' R' rr m q => ?_⟩
  obtain ⟨⟨kvs, rfl⟩, q⟩ := q
  obtain ⟨l, rfl, ⟨es, he, hr⟩, no, f, na⟩ := rr
  refine ⟨.inr (.inr (.inl ⟨rfl, .inl ⟨es, he⟩⟩)), l, es, rfl, rfl, he, ?_⟩
  exact k .non (.ro .non) A' _ n' δ' (R'.apart f no) (show Rep A' _ .non .non from .non) (m.updN na) q
/-- x.update(e), x a name's own, e new -/
theorem ds_update {K : PySem.W.Frag} {i : Nat} {x : Str} {pos : Pos} {b : Expr} {st : Stmt} {T : TEd} (ps : ∀ c {t tb : TE}, PE (X c) (.Name x pos) t → PE (X c) b tb → PS (X c) st (tDrop (tBM K "dict" rUpd t (tCons tb tNil)))) (h : ∀ c, PE (X c) (.Name x pos) (tVar i)) (hb : DE X ac b T) :
    DS X ac st (fun n δ E => (∃ kvs, δ[i]? = some (.own (.dic kvs))) ∧ T n δ fun r n' δ' => ∃ kvs more, r = .own (.dic more) ∧ δ'[i]? = some (.own (.dic kvs)) ∧ kvs.length + more.length ≤ sizeLine ∧ E.nx n' (δ'.set i (.own (.dic (more.foldl (fun acc p => putD acc p.1 p.2) kvs))))) := by
  obtain ⟨t, p, ev⟩ := hb
  refine ⟨_, fun c => ps c (h c) (p c), fun Γ gx σ A H n δ D E R s hT => ?_⟩
  obtain ⟨⟨kvs0, e0⟩, hT⟩ := hT
  obtain ⟨y, h1, h2⟩ := slR_get R.sl e0
  obtain ⟨a, rfl, es0, he0, _⟩ := slR_own h2
  refine ⟨_, h1, .inr (.inr (.inl ⟨rfl, .inl ⟨es0, he0⟩⟩)), ev Γ gx σ A H n δ _ _ R hT fun v r A1 H1 n1 δ1 R1 rr m1 q1 => ?_⟩
  obtain ⟨kvs, more, rfl, e1, hl, q⟩ := q1
  obtain ⟨l, rfl, ⟨ms, hm, rm⟩, no, f, nl⟩ := rr
  obtain ⟨y1, h3, h4⟩ := slR_get R1.sl e1
  obtain ⟨a', e2, es, hx, hr⟩ := slR_own h4
  rw [h1] at h3
  have e3 : some (V.ref a) = some (V.ref a') := (Option.some.inj h3).trans e2
  cases e3
  have ha := owns_at h1 e1
  obtain ⟨_, na, _⟩ := R1.fo a ha
  have ne : a ≠ l := fun z => no (by rw [← z]; exact ha)
  have kk : Kp A1 H1 A1 (upd H1 a (.dK (mergeK es ms))) := .of (fun _ h => h) fun b u hb q => by
    rw [upd_ne (neA hb na)]
    exact q
  have fold : ∀ {ms : List (Key × V)} {more : List (Key × Dt)} {es : List (Key × V)} {kvs : List (Key × Dt)}, RepK A1 H1 ms more → RepK A1 H1 es kvs → RepK A1 H1 (mergeK es ms) (more.foldl (fun acc p => putD acc p.1 p.2) kvs) := by
    intro ms
    induction ms with
    | nil =>
      intro more es kvs r1 r2
      cases r1
      exact r2
    | cons q ms ih =>
      intro more es kvs r1 r2
      cases r1 with
      | @cons k0 _ _ _ _ hd r3 =>
        have z := ih r3 (r2.put (k := k0) hd)
        exact z
  refine ⟨a, l, es, ms, rfl, rfl, ne, hx, .inl hm, by rw [hr.len, rm.len]; exact hl, s.nx _ _ A1 _ n1 (R1.up (d' := .dic _) h1 e1 ⟨_, upd_same, (fold rm hr).kp kk⟩) ((m1.kp R).trans kk) q⟩
/-- d.values() walked -/
theorem di_vals {tg e : Expr} {a : Expr} {T : TRd} (h : DR X ac a T) (pi : ∀ c {t : TE}, PE (X c) a t → PI (X c) tg e (iVals t)) : DI X ac tg e (fun n δ Q => T n δ fun d n' δ' => ∃ kvs, d = .dic kvs ∧ Q (kvs.map (·.2)) n' δ') := by
  obtain ⟨t, p, ev⟩ := h
  refine ⟨_, fun c => pi c (p c), fun Γ gx σ A H n δ Qd R0 R hT k => ev Γ gx σ A H n δ _ _ R hT fun v d A' H' n' δ' R' r m q => ?_⟩
  obtain ⟨kvs, rfl, q⟩ := q
  obtain ⟨a, o, es, rfl, ha, he, hr⟩ := rep_dic r
  refine ⟨a, o, es, rfl, he, k _ _ A' H' n' δ' R' ?_ m q⟩
  unfold IsIt
  rw [List.length_map, ← hr.len]
  refine (walk_values (d := a) (o := o) (kvs := es)).mono (fun H2 ⟨A2, kk⟩ => kk.ob a _ ha he) fun i H1 x H2 hi _ y A2 kk dm => ?_
  obtain ⟨rfl, key, e⟩ := y
  have gen : ∀ {es : List (Key × V)} {kvs : List (Key × Dt)} {i : Nat}, RepK A' H' es kvs → es[i]? = some (key, x) → ∃ d, (kvs.map (·.2))[i]? = some d ∧ Rep A' H' x d := by
    intro es
    induction es with
    | nil => intro kvs i _ e; simp at e
    | cons p es ih =>
      intro kvs i r e
      cases r with
      | cons hd r =>
        cases i with
        | zero =>
          simp at e
          obtain ⟨_, rfl⟩ := e
          exact ⟨_, rfl, hd⟩
        | succ i => simpa using ih r (by simpa using e)
  obtain ⟨d, e2, rd⟩ := gen hr e
  exact ⟨A2, d, .refl dm, e2, rd.kp kk⟩
/-- min(d): some key -/
theorem dr_minS {a e : Expr} {T : TRd} (pe : ∀ c {t : TE}, PE (X c) a t → PE (X c) e (tCB rMinS (tCons t tNil))) (h : DB X ac a T) : DR X ac e (fun n δ Q => T n δ fun d n' δ' => ∃ kvs ks, d = .dic kvs ∧ kvs.map (·.1) = ks.map Sum.inr ∧ ks ≠ [] ∧ ∀ m, m = minK ks → m ∈ ks → Q (.str m) n' δ') := by
  obtain ⟨t, p, ev⟩ := h
  refine ⟨_, fun c => pe c (p c), fun Γ gx σ A H n δ Qd Q R hT k => ev Γ gx σ A H n δ _ _ R hT fun v d A1 H1 n1 δ1 R1 r1 m1 q1 => ?_⟩
  obtain ⟨kvs, ks, rfl, hk, ne, q⟩ := q1
  obtain ⟨b, es, rfl, rb, rk⟩ := bor_dic r1
  exact ⟨b, es, ks, rfl, rb, by rw [rk.keys]; exact hk, ne, fun m em hm => k (.str m) (.str m) A1 H1 n1 δ1 R1 (.str m) m1 (q m em hm)⟩
/-- int(b) -/
theorem dr_intB {a e : Expr} {T : TRd} (pe : ∀ c {t : TE}, PE (X c) a t → PE (X c) e (tCB (fun xs H Q => (∃ i, xs = [.int i] ∧ Q (.int i) H) ∨ ∃ k, xs = [.bl k] ∧ Q (.int (if k then 1 else 0)) H) (tCons t tNil))) (h : DR X ac a T) : DR X ac e (fun n δ Q => T n δ fun d n' δ' => ∃ b, d = .bl b ∧ Q (.int (if b then 1 else 0)) n' δ') := by
  obtain ⟨t, p, ev⟩ := h
  refine ⟨_, fun c => pe c (p c), fun Γ gx σ A H n δ Qd Q R hT k => ev Γ gx σ A H n δ _ _ R hT fun v d A1 H1 n1 δ1 R1 r1 m1 q1 => ?_⟩
  obtain ⟨b, rfl, q⟩ := q1
  exact .inr ⟨b, by rw [rep_bl r1], k _ _ A1 H1 n1 δ1 R1 (.int _) m1 q⟩
end
end DL
namespace DL
open PySem PySem.Spec PyProof.Rows L2
variable [Wd]
theorem items_reps {A A' : Addr → Prop} {H H' : Hp} (k : Kp A H A' H') : ∀ {ts : List Addr} {es : List (Key × V)} {kvs : List (Key × Dt)}, (∀ t ∈ ts, A' t) → Paired (fun (t : Addr) (q : Key × V) => H' t = some (.tup [kV q.1, q.2])) ts es → RepK A H es kvs → Reps A' H' (ts.map V.ref) (kvs.map pairT)
  | _, _, _, _, .nil, .nil => .nil
  | _, _, _, ha, .cons h t, .cons hd r => .cons (.tup (ha _ List.mem_cons_self) h (.cons key_rep (.cons (hd.kp k) .nil))) (items_reps k (fun t ht => ha t (List.mem_cons_of_mem _ ht)) t r)
theorem paired_fst {α β : Type} {F : α → β → Prop} : ∀ {xs : List α} {ys : List β}, Paired F xs ys → ∀ x ∈ xs, ∃ y, F x y
  | _, _, .cons h t, x, hx => by
    rcases List.mem_cons.mp hx with rfl | hx
    · exact ⟨_, h⟩
    · exact paired_fst t x hx
/-- list(d.items()), d new -/
theorem de_items {ι : Type} {X : ι → Cx} {ac : Act} {a e : Expr} {T : TEd} (pe : ∀ c {t : TE}, PE (X c) a t → PE (X c) e (LiI.tListItems t)) (h : DE X ac a T) : DE X ac e (fun n δ Q => T n δ fun r n' δ' => ∃ kvs, r = .own (.dic kvs) ∧ Q (.own (.lst (kvs.map pairT))) n' δ') := by
  obtain ⟨t, p, ev⟩ := h
  refine ⟨_, fun c => pe c (p c), fun Γ gx σ A H n δ Qd Q R hT k => ev Γ gx σ A H n δ _ _ R hT fun v r A1 H1 n1 δ1 R1 rr m1 q => ?_⟩
  obtain ⟨kvs, rfl, q⟩ := q
  obtain ⟨l, rfl, ⟨es, he, hr⟩, no, f, na⟩ := rr
  refine ⟨l, es, rfl, he, fun H2 p ts old np nt pn hp pr => ?_⟩
  have g : Grow A1 H1 (fun b => A1 b ∨ b ∈ ts) H2 := ⟨old, fun b h => .inl h, fun b h => h.imp_right (nt b), fun b h z => by
    rcases h with h | h
    · cases e : H1 b with
      | none => exact R1.dom b h e
      | some o =>
        rw [old b o e] at z
        cases z
    · obtain ⟨y, hy⟩ := paired_fst pr b h
      rw [hy] at z
      cases z⟩
  have rs := items_reps g.k (fun t ht => .inr ht) pr hr
  exact k (.ref p) (.own (.lst (kvs.map pairT))) _ H2 n1 δ1 (R1.grow g) (RRel.new R1 g m1.was (fun d e => by cases e) (fun d e => by cases e; exact ⟨p, rfl, np, fun z => z.elim (fun z => R1.dom p z np) pn, _, hp, rs⟩) (fun e => by cases e) (fun e => by cases e)) (m1.trans (.grow g)) q
end DL
/-! ## DL28 -/
set_option Elab.async false
set_option linter.all false
set_option maxRecDepth 100000
set_option maxHeartbeats 4000000
/-! a[i] quietly; max(a, b). -/
namespace DL
open PySem PySem.Spec PyProof.Rows L2
theorem Grow.trans {A A1 A2 : Addr → Prop} {H H1 H2 : Hp} (x : Grow A H A1 H1) (y : Grow A1 H1 A2 H2) : Grow A H A2 H2 :=
  ⟨fun b o e => y.kp b o (x.kp b o e), fun b h => y.gr b (x.gr b h), (fun b h => by
    rcases y.nw b h with z | z
    · exact x.nw b z
    · cases e : H b with
      | none => exact .inr rfl
      | some o =>
        rw [x.kp b o e] at z
        cases z), y.ad⟩
variable [Wd]
section
variable {ι : Type} {X : ι → Cx} {ac : Act}
theorem dq_ix {K : PySem.W.Frag} {a i e : Expr} {Ta Ti : TQd} (pe : ∀ c {t ti : TE}, PE (X c) a t → PE (X c) i ti → PE (X c) e (tOp (rIx K) t ti)) (ha : DQ X ac a Ta) (hi : DQ X ac i Ti) :
    DQ X ac e (fun δ Q => Ta δ fun d => Ti δ fun di => ∃ ds k x, elemD d = some ds ∧ di = .int k ∧ L2.atI ds k = some x ∧ Q x) := by
  obtain ⟨t, p, ev⟩ := ha
  obtain ⟨ti, pi, evi⟩ := hi
  refine ⟨_, fun c => pe c (p c) (pi c), fun Γ gx σ A H n δ Qd Q R hT k => ev Γ gx σ A H n δ _ _ R hT fun v d A1 H1 g1 r1 q1 => evi Γ gx σ A1 H1 n δ _ _ (R.grow g1) q1 fun w e A2 H2 g2 r2 q2 => ?_⟩
  obtain ⟨ds, j, x, e1, rfl, e3, q⟩ := q2
  obtain ⟨p, xs, rfl, sq, rs⟩ := bor_seq (K := K) (Bor.rep (r1.kp g2.k)) e1
  obtain ⟨u, e4, ru⟩ := rs.atI e3
  have fin := k u x A2 H2 (g1.trans g2) ru q
  rcases sq with sq | sq
  · exact .inl ⟨p, xs, j, u, rfl, rep_int r2, sq, e4, fin⟩
  · exact .inr (.inl ⟨p, xs, j, u, rfl, rep_int r2, sq, e4, fin⟩)
/-- max(a, b), whole numbers -/
theorem dr_max2 {a b e : Expr} {Ta Tb : TRd} (pe : ∀ c {t tb : TE}, PE (X c) a t → PE (X c) b tb → PE (X c) e (tCB (fun xs H Q => ∃ i j, xs = [.int i, .int j] ∧ Q (.int (if j > i then j else i)) H) (tCons t (tCons tb tNil)))) (ha : DR X ac a Ta) (hb : DR X ac b Tb) :
    DR X ac e (fun n δ Q => Ta n δ fun d n1 δ1 => Tb n1 δ1 fun d2 n2 δ2 => ∃ i j, d = .int i ∧ d2 = .int j ∧ Q (.int (if j > i then j else i)) n2 δ2) := by
  obtain ⟨t, p, ev⟩ := ha
  obtain ⟨tb, pb, evb⟩ := hb
  refine ⟨_, fun c => pe c (p c) (pb c), fun Γ gx σ A H n δ Qd Q R hT k => ev Γ gx σ A H n δ _ _ R hT fun v d A1 H1 n1 δ1 R1 r1 m1 q1 => evb Γ gx σ A1 H1 n1 δ1 _ _ R1 q1 fun w e A2 H2 n2 δ2 R2 r2 m2 q2 => ?_⟩
  obtain ⟨i, j, rfl, rfl, q⟩ := q2
  exact ⟨i, j, by rw [rep_int r1, rep_int r2], k _ _ A2 H2 n2 δ2 R2 (.int _) (m1.trans m2) q⟩
end
end DL
/-! ## DL29 -/
set_option Elab.async false
set_option linter.all false
set_option maxRecDepth 100000
set_option maxHeartbeats 4000000
/-! A def whose code object is known; {k: v}. -/
namespace DL
open PySem PySem.Spec PyProof.Rows L2
/-- a def whose code object is at cd -/
structure FunC (K : PySem.W.Frag) (x qual : Str) (st : Stmt) (f : Addr) (fd : FuncData) (cd : Addr) : Prop where
  ex : ∃ (oc : Value) (od : Option Addr) (kV doc pm : Value) (an : Option Addr) (ct : Value) (osl : Array (Option Value)),
    fd = PySem.W.fnOf x qual (defArgs st) (defBody st) (defScope st) .none kV doc pm an (.ref cd) ct ∧ K.lookup f = some ⟨oc, od, .func fd, osl⟩ ∧ PySem.W.codeIn K (.ref cd) qual = true
  kp : PySem.W.keepIn K (.ref f) = true
theorem FunC.ok {P : Program} {w : World} {K : PySem.W.Frag} {mg : Str → Option Value} {base : Heap} {x qual : Str} {st : Stmt} {f cd : Addr} {fd : FuncData} {N ps : List Str} {k : Nat} {sp : Sp} (F : FunC K x qual st f fd cd) (S : FnScope N ps (defScope st)) (len : ∀ vs H Q E, sp vs H Q E → vs.length = ps.length)
    (hbody : ∀ (A : Around) (outer : List Env) (s : Shared) (H : Hp) (vs : List V) (Q : VK) (E : XK), Room k (A.deeper (envOfC qual (defScope st) s.heap.objs.size f (.ref cd))) → sp vs H Q E →
      ∃ t, PSs (cxOf CX0 P w K mg base N qual (defScope st) f (.ref cd) A outer s H E).nox (defBody st) t ∧ t { nx := fun _ H' => Q .non H', rt := Q } (start N vs) H) : FnOk P w K mg base CX0 (k + 1) f fd ps sp := by
  obtain ⟨oc, od, kV, doc, pm, an, ct, osl, rfl, lk, hcd⟩ := F.ex
  refine fn_of lk hcd S len fun A outer s H vs Q E hr hsp => ?_
  obtain ⟨t, h, q⟩ := hbody A outer s H vs Q E hr hsp
  exact ⟨t, h.nox, q⟩
variable [Wd]
section
variable {P : Program} {w : World} {K : PySem.W.Frag} {mg : Str → Option Value} {base : Heap} {x qual : Str} {st : Stmt} {f cd : Addr} {fd : FuncData} {N ps : List Str} {k : Nat} {C : Ct}
theorem okCc (F : FunC K x qual st f fd cd) (S : FnScope N ps (defScope st)) (hl : ∀ rs n Qd Xd, C rs n Qd Xd → rs.length = ps.length)
    (body : ∀ (A : Around) (outer : List Env) (s : Shared) (H : Hp) (E : XK) (Xd : XD), Room k (A.deeper (envOfC qual (defScope st) s.heap.objs.size f (.ref cd))) →
      ∃ T, DSs (fun _ : Unit => (cxOf CX0 P w K mg base N qual (defScope st) f (.ref cd) A outer s H E).nox) ⟨E, Xd⟩ (defBody st) T ∧ ∀ rs n Qd, C rs n Qd Xd → T n (dlt N rs) (edOf Qd)) : FnOk P w K mg base CX0 (k + 1) f fd ps (spC C) := by
  refine F.ok S (fun vs H Q E h => ?_) (fun A outer s H vs Q E hr h => ?_)
  · obtain ⟨Γ, n, rs, Qd, Xd, _, _, pr, hc, _⟩ := h
    rw [Paired.length pr]
    exact hl rs n Qd Xd hc
  · obtain ⟨Γ, n, rs, Qd, Xd, rfl, ex, pr, hc, hq, hx⟩ := h
    obtain ⟨T, b, hT⟩ := body A outer s Γ.H0 E Xd hr
    exact body_ok ex pr hq hx b (hT rs n Qd hc)
end
section
variable {ι : Type} {X : ι → Cx} {ac : Act}
theorem ev_disp1 {tk tv : TE} {Tk Tv : TRd} (ek : EvR ac tk Tk) (ev : EvR ac tv Tv) : EvE ac (tDisp [(tk, tv)]) (fun n δ Q => Tk n δ fun dk n1 δ1 => Tv n1 δ1 fun dv n2 δ2 => ∃ key, keyD dk = some key ∧ Q (.own (.dic [(key, dv)])) n2 δ2) := by
  intro Γ gx σ A H n δ Qd Q R hT kk D nD
  have os := own_some R.sl
  have free1 : Free Γ A D := ⟨R.h0 D nD, fun z => R.dom D z nD, fun z => R.md D z nD⟩
  have noD : D ∉ owns σ δ := fun z => os D z nD
  have g1 : Grow A H A (upd H D (.dK [])) := .new nD R.dom
  show tk σ _ fun x H1 => tv σ H1 fun y H2 => _
  refine ek Γ gx σ A _ n δ _ _ (R.grow g1) hT fun x dx A1 H1 n1 δ1 R1 r1 m1 q1 => ev Γ gx σ A1 H1 n1 δ1 _ _ R1 q1 fun y dy A2 H2 n2 δ2 R2 r2 m2 q2 => ?_
  obtain ⟨key, e, q⟩ := q2
  have m := m1.trans m2
  obtain ⟨f2, no2, hD2⟩ := m.free free1 noD upd_same
  obtain rfl := rep_key r1 e
  have k6 : Kp A2 H2 A2 (upd H2 D (.dK [(key, y)])) := .of (fun _ h => h) fun b u hb q => by
    rw [upd_ne (neA hb f2.na)]
    exact q
  refine ⟨hD2, [(key, y)], rfl, by show 1 ≤ 15; decide, ?_⟩
  exact kk (.ref D) (.own (.dic [(key, dy)])) A2 (upd H2 D (.dK [(key, y)])) n2 δ2 (R2.apart f2 no2) ⟨D, rfl, ⟨_, upd_same, .cons (r2.kp k6) .nil⟩, no2, f2, nD⟩ (((Mv.grow g1).trans m).updN nD) q
theorem de_disp1 {k v : Expr} {pos : Pos} {Tk Tv : TRd} (hk : DR X ac k Tk) (hv : DR X ac v Tv) : DE X ac (.Dict [some k] [v] pos) (fun n δ Q => Tk n δ fun dk n1 δ1 => Tv n1 δ1 fun dv n2 δ2 => ∃ key, keyD dk = some key ∧ Q (.own (.dic [(key, dv)])) n2 δ2) := by
  obtain ⟨tk, pk, ek⟩ := hk
  obtain ⟨tv, pv, ev⟩ := hv
  exact ⟨_, fun c => pe_disp (pps_cons (pk c) (pv c) pps_nil) rfl rfl (by simp) (by show 1 ≤ 15; decide), ev_disp1 ek ev⟩
end
end DL
/-! ## DL30 -/
set_option Elab.async false
set_option linter.all false
set_option maxRecDepth 100000
set_option maxHeartbeats 4000000
/-! Methods with one argument; a body step by step. -/
namespace DL
open PySem PySem.Spec PyProof.Rows L2
variable [Wd]
section
variable {ι : Type} {X : ι → Cx} {ac : Act}
theorem de_meth1X {C : Addr} {m : Str} {Ct : Ct} {o a e : Expr} {T Ta : TRd} (pe : ∀ c {t : TE} {ta : TA}, PE (X c) o t → PA (X c) [a] ta → PE (X c) e (tMeth C m (spC Ct) [] ac.Ex t ta)) (h : DR X ac o T) (ha : DR X ac a Ta) (hs : ∀ c, starEach (a :: []) (X c).env = (false, eval a (X c).env) :: starEach [] (X c).env := by intro _; rfl) :
    DE X ac e (fun n δ Q => T n δ fun d n1 δ1 => ∃ ks, d = .ins C ks ∧ ks.lookup m = none ∧ Ta n1 δ1 fun d2 n2 δ2 => Ct [.ro d, .ro d2] n2 (fun r n3 => Q r n3 δ2) ac.Xd) := by
  obtain ⟨t, p, ev⟩ := h
  obtain ⟨ta, pa, eva⟩ := ha
  refine ⟨_, fun c => pe c (p c) (pa_cons (pa c) pa_nil (hs c)), fun Γ gx σ A H n δ Qd Q R hT k => ev Γ gx σ A H n δ _ _ R hT fun v d A1 H1 n1 δ1 R1 r1 m1 q1 => ?_⟩
  obtain ⟨ks, rfl, el, q1⟩ := q1
  obtain ⟨b, dx, fs, rfl, hb, he, hr⟩ := rep_ins r1
  refine ⟨b, dx, fs, rfl, he, hr.no el, eva Γ gx σ A1 H1 n1 δ1 _ _ R1 q1 fun w d2 A2 H2 n2 δ2 R2 r2 m2 q2 => ⟨⟨H2, A2, Γ.p⟩, n2, [.ro (.ins C ks), .ro d2], _, ac.Xd, rfl, R2.exit0, .cons (.ro (r1.kp (m2.kp R1))) (.cons (.ro r2) .nil), q2, fun v r A' H' n' ex ro q => ?_, fun A' H' n' C f d v x ex e1 e2 e3 rp q => ?_⟩⟩
  · obtain ⟨R3, m3⟩ := R2.call ex
    exact k v r A' H' n' δ2 R3 (ro.rel R2 (m1.trans m2).was) ((m1.trans m2).trans m3) q
  · exact gx A' H' n' C f d v x (R2.exit ex) e1 (R2.h0 x e2) e3 rp q
theorem de_meth1 {C : Addr} {m : Str} {Ct : Ct} {o a e : Expr} {T Ta : TRd} {Ec : XK} (pe : ∀ c {t : TE} {ta : TA}, PE (X c) o t → PA (X c) [a] ta → PE (X c) e (tMeth C m (spC Ct) [] Ec t ta)) (h : DR X ac o T) (ha : DR X ac a Ta) (hs : ∀ c, starEach (a :: []) (X c).env = (false, eval a (X c).env) :: starEach [] (X c).env := by intro _; rfl) :
    DE X ac e (fun n δ Q => T n δ fun d n1 δ1 => ∃ ks, d = .ins C ks ∧ ks.lookup m = none ∧ Ta n1 δ1 fun d2 n2 δ2 => Ct [.ro d, .ro d2] n2 (fun r n3 => Q r n3 δ2) fun _ _ _ _ => False) := by
  obtain ⟨t, p, ev⟩ := h
  obtain ⟨ta, pa, eva⟩ := ha
  refine ⟨_, fun c => pe c (p c) (pa_cons (pa c) pa_nil (hs c)), fun Γ gx σ A H n δ Qd Q R hT k => ev Γ gx σ A H n δ _ _ R hT fun v d A1 H1 n1 δ1 R1 r1 m1 q1 => ?_⟩
  obtain ⟨ks, rfl, el, q1⟩ := q1
  obtain ⟨b, dx, fs, rfl, hb, he, hr⟩ := rep_ins r1
  refine ⟨b, dx, fs, rfl, he, hr.no el, eva Γ gx σ A1 H1 n1 δ1 _ _ R1 q1 fun w d2 A2 H2 n2 δ2 R2 r2 m2 q2 => ⟨⟨H2, A2, Γ.p⟩, n2, [.ro (.ins C ks), .ro d2], _, fun _ _ _ _ => False, rfl, R2.exit0, .cons (.ro (r1.kp (m2.kp R1))) (.cons (.ro r2) .nil), q2, fun v r A' H' n' ex ro q => ?_, fun A' H' n' C f d v x ex e1 e2 e3 rp q => q.elim⟩⟩
  obtain ⟨R3, m3⟩ := R2.call ex
  exact k v r A' H' n' δ2 R3 (ro.rel R2 (m1.trans m2).was) ((m1.trans m2).trans m3) q
/-- one statement, from what holds to what holds -/
def StepD (X : ι → Cx) (ac : Act) (st : Stmt) (Pre Post : Nat → List Sl → Prop) : Prop := ∃ T : TSd, DS X ac st T ∧ ∀ n δ E, Pre n δ → (∀ n' δ', Post n' δ' → E.nx n' δ') → T n δ E
def PartD (X : ι → Cx) (ac : Act) (ss : List Stmt) (Pre Post : Nat → List Sl → Prop) : Prop := ∃ T : TSd, DSs X ac ss T ∧ ∀ n δ E, Pre n δ → (∀ n' δ', Post n' δ' → E.nx n' δ') → T n δ E
theorem PartD.nil {Pre : Nat → List Sl → Prop} : PartD X ac [] Pre Pre := ⟨_, dss_nil, fun n δ E h k => k n δ h⟩
theorem PartD.cons {st : Stmt} {ss : List Stmt} {P Q R : Nat → List Sl → Prop} (h : StepD X ac st P Q) (t : PartD X ac ss Q R) : PartD X ac (st :: ss) P R := by
  obtain ⟨T1, d1, h1⟩ := h
  obtain ⟨T2, d2, h2⟩ := t
  exact ⟨_, dss_cons d1 d2, fun n δ E p k => h1 n δ _ p fun n' δ' q => h2 n' δ' E q k⟩
end
end DL
/-! ## D59 -/
set_option Elab.async false
set_option linter.all false
set_option maxRecDepth 100000
set_option maxHeartbeats 4000000
namespace K59
open PySem L2
abbrev sPool : Stmt := tp 37
abbrev sTake : Stmt := tp 38
abbrev sOne : Stmt := tp 39
abbrev sMixed : Stmt := tp 40
/-! ### the spring of draws -/
/-- a pool at p: what is left of a great cell, a seed, how many were drawn (n at most) -/
structure Spring (H : Hp) (p : Addr) (n : Nat) where
  at_ : ∃ a b c : Int, H p = some (.lst [.int a, .int b, .int c]) ∧ 0 ≤ a ∧ 0 ≤ b ∧ b < 2147483647 ∧ 0 ≤ c ∧ c ≤ n
theorem Spring.more {H : Hp} {p : Addr} {n m : Nat} (x : Spring H p n) (h : n ≤ m) : Spring H p m := by
  obtain ⟨a, b, c, e, h1, h2, h3, h4, h5⟩ := x.at_
  exact ⟨a, b, c, e, h1, h2, h3, h4, by omega⟩
theorem Spring.to {H H' : Hp} {p : Addr} {n : Nat} (x : Spring H p n) (e : H' p = H p) : Spring H' p n := by
  obtain ⟨a, b, c, q, h⟩ := x.at_
  exact ⟨a, b, c, e.trans q, h⟩
/-- but for the object at p nothing is changed -/
def But (p : Addr) (H H' : Hp) : Prop := ∀ b, b ≠ p → H' b = H b

/-- one step of a reading -/
local macro_rules | `(tactic| walk_at "rd") => `(tactic| first
  | refine ⟨_, rfl, ?_⟩
  | refine ⟨_, _, rfl, rfl, ((by first | decide | omega | assumption) : (_ : Prop)), ?_⟩
  | refine ⟨_, _, rfl, rfl, (Or.inl ⟨(by omega), (by omega)⟩), ?_⟩
  | refine ⟨_, _, rfl, rfl, And.intro (by omega) (And.intro (by omega) (by omega)), ?_⟩
  | refine ⟨_, _, _, _, rfl, rfl, ((by assumption) : (_ : Prop)), ((by first | rfl | assumption) : (_ : Prop)), ?_⟩
  | refine Or.inl ⟨_, rfl, ?_⟩
  | refine ⟨_, _, rfl, rfl, ?_⟩)
def spTake : Sp := fun vs H Q _ => ∃ (p : Addr) (m : Int) (n : Nat), vs = [.ref p, .int m] ∧ Spring H p n ∧ n ≤ 10000 ∧ 0 < m ∧ m < 2 ^ 30 ∧
  ∀ (H' : Hp) (r : Int), 0 ≤ r → r < m → But p H H' → Spring H' p (n + 1) → Q (.int r) H'
section
variable {P : Program} {w : World} {K : PySem.W.Frag} {mg : Str → Option Value} {base : Heap} {f : Addr} {fd : FuncData}
theorem scTake : FnScope ["pool", "many", "draw", "mixed"] ["pool", "many"] (defScope sTake) := ⟨rfl, rfl, rfl, by decide +kernel, rfl, by decide +kernel, by decide +kernel⟩
theorem ok_take (F : Fun K "_law_take" "_law_take" sTake f fd) (gI : mg "int" = none) : FnOk P w K mg base CX0 1 f fd ["pool", "many"] spTake := by
  refine F.ok scTake (fun vs H Q E h => ?_) (fun cdv A outer s H vs Q E hr h => ?_)
  · obtain ⟨p, m, n, rfl, _⟩ := h
    rfl
  · obtain ⟨p, m, n, rfl, hp, hn, m0, m1, k⟩ := h
    obtain ⟨a, b, c, ep, a0, b0, b1, c0, c1⟩ := hp.at_
    refine ⟨_, pss_cons (ps_if (pt_cmpR op_gt (pe_ix ix_list (pv 0) pe_int (fun _ _ => rfl)) pe_int (nomark _))
        (pss_cons (ps_set (i := 2) scTake.nd rfl (Or.inl rfl) (pe_op op_mod (pe_callTy call_int1 (by rfl) gI (by decide +kernel) (pa_cons (pe_ix ix_list (pv 0) pe_int (fun _ _ => rfl)) pa_nil)) (pv 1)))
          (pss_cons (ps_asg (pe_op op_fdivW (pe_ix ix_list (pv 0) pe_int (fun _ _ => rfl)) (pv 1)) (pg_sub (pv 0) pe_int set_list)) (pss_one (ps_ret (pv 2)))))
        pss_nil)
      (pss_cons (ps_asg (pe_op op_add (pe_ix ix_list (pv 0) pe_int (fun _ _ => rfl)) pe_int) (pg_sub (pv 0) pe_int set_list))
      (pss_cons (ps_set (i := 3) scTake.nd rfl (Or.inl rfl) (pe_op op_mod (pe_callTy call_int1 (by rfl) gI (by decide +kernel) (pa_cons (pe_op op_pow (pe_op op_add (pe_op op_add (pe_ix ix_list (pv 0) pe_int (fun _ _ => rfl)) (pe_op op_mul pe_int (pe_ix ix_list (pv 0) pe_int (fun _ _ => rfl)))) pe_int) pe_int) pa_nil)) pe_int))
      (pss_one (ps_ret (pe_op op_mod (pe_op op_mod (pe_callTy call_int1 (by rfl) gI (by decide +kernel) (pa_cons (pe_op op_mul (pe_op op_add (pv 3) (pe_ix ix_list (pv 0) pe_int (fun _ _ => rfl))) pe_int) pa_nil)) pe_int) (pv 1)))))), ?_⟩
    have g0 : SqL K H p [.int a, .int b, .int c] := SqL.of ep
    repeat walk_at "rd"
    refine ite2 (fun q => ?_) (fun q => ?_)
    · have a1 : 0 < a := of_decide_eq_true q
      repeat walk_at "rd"
      refine ⟨wide_div (b := 31) m0 (by omega) (by decide) (by decide), ?_⟩
      repeat walk_at "rd"
      exact k _ _ (Int.emod_nonneg _ (by omega)) (Int.emod_lt_of_pos _ m0) (fun x hx => upd_ne hx) ⟨⟨a / m, b, c, upd_same, Int.ediv_nonneg a0 (by omega), b0, b1, c0, by omega⟩⟩
    · repeat walk_at "rd"
      have e1 : upd H p (.lst [.int a, .int b, .int (c + 1)]) p = some (.lst [.int a, .int b, .int (c + 1)]) := upd_same
      have g1 : SqL K (upd H p (.lst [.int a, .int b, .int (c + 1)])) p [.int a, .int b, .int (c + 1)] := SqL.of upd_same
      repeat walk_at "rd"
      exact k _ _ (Int.emod_nonneg _ (by omega)) (Int.emod_lt_of_pos _ m0) (fun x hx => upd_ne hx) ⟨⟨a, b, c + 1, upd_same, a0, b0, b1, by omega, by omega⟩⟩
theorem sq_at {K : PySem.W.Frag} {H H' : Hp} {q : Addr} {xs : List V} (e : H' q = H q) (h : SqL K H q xs) : SqL K H' q xs := by
  rcases h with (h | ⟨o, h⟩) | h
  · exact .inl (.inl (e.trans h))
  · exact .inl (.inr ⟨o, e.trans h⟩)
  · exact .inr h
end
theorem up_new {H : Hp} {p b : Addr} {o u : HO} (n : H p = none) (e : H b = some u) : upd H p o b = some u := by
  rw [upd_ne (ne_of_none e n)]
  exact e
end K59
/-! ## B59 -/
set_option Elab.async false
set_option linter.all false
set_option maxRecDepth 100000
set_option maxHeartbeats 4000000
namespace K59
open PySem L2
abbrev letters : Str := "abcdefghijklmnopqrstuvwxyz"
/-- one step of a reading -/
local macro_rules | `(tactic| walk_at "rd") => `(tactic| first
  | refine ⟨_, rfl, ?_⟩
  | refine ⟨_, _, rfl, rfl, ((by first | decide | omega | assumption) : (_ : Prop)), ?_⟩
  | refine ⟨_, _, _, _, rfl, rfl, ((by assumption) : (_ : Prop)), ((by first | rfl | assumption) : (_ : Prop)), ?_⟩
  | refine Or.inl ⟨_, rfl, ?_⟩
  | refine ⟨_, _, rfl, rfl, ?_⟩)
/-- a text that is a word -/
def wordT (z : Str) : Bool := decide (1 ≤ z.length) && (decide (z.length ≤ 8) && z.cps.toList.all fun c => decide (c ∈ letters.cps.toList))
def isW : V → Bool
  | .str z => wordT z
  | _ => false
/-- the kinds of objects that are passed, but texts -/
def kinds : List String := ["NoneType", "bool", "int", "list", "tuple", "dict"]
def Odd (K : PySem.W.Frag) (H : Hp) (x : V) : Prop := ∃ n ∈ kinds, TyX K H x (.type n)
def Any (K : PySem.W.Frag) (H : Hp) (x : V) : Prop := (∃ z, x = .str z ∧ z.length ≤ 1000) ∨ Odd K H x
theorem odd_str {n : String} (h : n ∈ kinds) : kitB n "str" = some false := by
  simp only [kinds, List.mem_cons, List.not_mem_nil, or_false] at h
  rcases h with rfl | rfl | rfl | rfl | rfl | rfl <;> decide +kernel
theorem odd_isW {K : PySem.W.Frag} {H : Hp} {x : V} (h : Odd K H x) : isW x = false := by
  obtain ⟨n, hn, ty⟩ := h
  cases x with
  | str z =>
    cases ty with
    | base q =>
      cases q
      simp [kinds] at hn
  | _ => rfl
def spWord (K : PySem.W.Frag) : Sp := fun vs H Q _ => ∃ x : V, vs = [x] ∧ Any K H x ∧ ∀ H', Same H H' → Q (.bl (isW x)) H'
section
variable {P : Program} {w : World} {K : PySem.W.Frag} {mg : Str → Option Value} {base : Heap} {f : Addr} {fd : FuncData}
theorem scWord : FnScope ["thing", "sign"] ["thing"] (defScope sWord) := ⟨rfl, rfl, rfl, by decide +kernel, rfl, by decide +kernel, by decide +kernel⟩
theorem ok_word (F : Fun K "is_word" "is_word" sWord f fd) (gI : mg "isinstance" = none) (gS : mg "str" = none) (gL : mg "len" = none) (gA : mg "all" = none) (gT : ∃ t, mg "LETTERS" = some (.str letters t)) (gN : ∃ t, mg "LONGEST_WORD" = some (.int 8 t)) :
    FnOk P w K mg base CX0 1 f fd ["thing"] (spWord K) := by
  obtain ⟨tT, gT⟩ := gT
  obtain ⟨tN, gN⟩ := gN
  refine F.ok scWord (fun vs H Q E h => ?_) (fun cdv A outer s H vs Q E hr h => ?_)
  · obtain ⟨x, rfl, _⟩ := h
    rfl
  · obtain ⟨x, rfl, any, k⟩ := h
    refine ⟨_, pss_cons (ps_if (PW.pt (pw_or (pt_not (pt_val (pe_callB call_isi (by rfl) gI (by decide +kernel) (pa_cons (pv 0) (pa_cons (pe_bltn (v := .ty "str") (by rfl) gS (by decide +kernel) rfl) pa_nil)))))
          (pw_or1 (pt_not (pt_chain op_le op_le pe_int (pe_callB call_len_str (by rfl) gL PySem.boot_len (pa_cons (pv 0) pa_nil)) (pe_glob (v := .int 8) rfl gN ⟨_, rfl⟩))))))
        (pss_one (ps_ret pe_bl)) pss_nil)
      (pss_one (ps_ret (pe_callB (cr_all rfl) (by rfl) gA (by decide +kernel) (pa_cons (pe_lc (own := [("sign", 1)]) (g := gName 1) (tt := tYes) rfl scWord.nd (pi_str (pv 0)) (blkOk_by (N := ["thing", "sign"]) (sc := defScope sWord) (by decide +kernel))
        (fun _ _ _ _ _ => pg_name (i := 1) scWord.nd rfl (Or.inl rfl)) (fun _ _ _ _ _ => pts_nil) (fun _ _ _ _ _ => pe_cmpR op_in_sign (pv 1) (pe_glob (v := .str letters) rfl gT ⟨_, rfl⟩) rfl)) pa_nil)))), ?_⟩
    rcases any with ⟨z, rfl, hz⟩ | odd
    · refine ⟨_, rfl, .str z, .ty "str", _, _, true, rfl, .ty "str", .base (.str z), kit_ty (by decide +kernel), true, rfl, ?_⟩
      refine ⟨_, rfl, z, rfl, Nat.le_trans hz (by decide), _, _, rfl, rfl, _, rfl, ?_⟩
      refine ite2 (fun q1 => ?_) (fun q1 => ?_)
      · refine ⟨_, _, rfl, rfl, _, rfl, ?_⟩
        refine ite2 (fun q2 => ?_) (fun q2 => ?_)
        · have e := k H (Same.refl H)
          have e2 : isW (.str z) = false := by
            have q3 : ¬ ((z.length : Int) ≤ 8) := by simpa using q2
            have q4 : ¬ (z.length ≤ 8) := by omega
            show (decide (1 ≤ z.length) && (decide (z.length ≤ 8) && _)) = false
            rw [decide_eq_false q4, Bool.false_and, Bool.and_false]
          rw [e2] at e
          exact e
        · have z1 : 1 ≤ z.length := by
            have := of_decide_eq_true q1
            omega
          have z8 : z.length ≤ 8 := by
            have q3 : ((z.length : Int) ≤ 8) := by simpa using q2
            omega
          refine ⟨_, rfl, z, rfl, fun D hD => lc_it walk_str (fun i H' => Same H H' ∧ H' D = some (.lst ((z.cps.toList.take i).map fun c => V.bl (decide (c ∈ letters.cps.toList))))) ?_ (fun _ _ _ _ => trivial) ?_ ?_⟩
          · exact ⟨fun b o e => up_new hD e, upd_same⟩
          · rintro i x H1 H2 hi ⟨sm, hl⟩ ⟨rfl, c, ec, rfl⟩
            refine ⟨rfl, ?_⟩
            unfold tYes
            dsimp only
            rw [if_pos rfl]
            refine ⟨_, rfl, c, letters, rfl, rfl, _, hl, ?_, fun b o e => ?_, ?_⟩
            · have q : ((z.cps.toList.take i).map fun c => V.bl (decide (c ∈ letters.cps.toList))).length ≤ z.cps.toList.length := by
                rw [List.length_map, List.length_take]
                exact Nat.min_le_right _ _
              exact Nat.lt_of_le_of_lt q (Nat.lt_of_le_of_lt (show z.cps.toList.length ≤ 8 from by rw [Array.length_toList]; exact z8) (by decide))
            · rw [upd_ne (ne_of_none e hD)]
              exact sm b o e
            · have ec2 : z.cps.toList[i]? = some c := by simpa using ec
              rw [upd_same, List.take_succ, ec2, List.map_append]
              rfl
          · rintro H1 ⟨sm, hl⟩
            have full : z.cps.toList.take z.cps.size = z.cps.toList := List.take_of_length_le (by simp)
            rw [full] at hl
            refine ⟨D, z.cps.toList.map fun c => decide (c ∈ letters.cps.toList), rfl, SqL.of (by rw [hl, List.map_map]; rfl), ?_⟩
            have e := k H1 sm
            have e2 : isW (.str z) = (z.cps.toList.map fun c => decide (c ∈ letters.cps.toList)).all id := by
              show (decide (1 ≤ z.length) && (decide (z.length ≤ 8) && _)) = _
              rw [decide_eq_true z1, decide_eq_true z8, List.all_map]
              rfl
            rw [e2] at e
            exact e
      · have e := k H (Same.refl H)
        have e2 : isW (.str z) = false := by
          have q3 : ¬ (1 ≤ z.length) := fun h => q1 (decide_eq_true (by omega))
          show (decide (1 ≤ z.length) && _) = false
          rw [decide_eq_false q3, Bool.false_and]
        rw [e2] at e
        exact ⟨false, rfl, e⟩
    · obtain ⟨n, hn, ty⟩ := id odd
      refine ⟨_, rfl, x, .ty "str", _, _, false, rfl, .ty "str", ty, kit_ty (odd_str hn), false, rfl, ?_⟩
      have e := k H (Same.refl H)
      rw [odd_isW odd] at e
      exact e
end
end K59
/-! ## P59 -/
set_option Elab.async false
set_option linter.all false
set_option maxRecDepth 100000
set_option maxHeartbeats 4000000
namespace K59
open PySem L2
open C8 (pss_cut)
/-- one step of a reading -/
local macro_rules | `(tactic| walk_at "rd") => `(tactic| first
  | refine ⟨_, rfl, ?_⟩
  | refine ⟨_, _, rfl, rfl, ((by first | decide | omega | assumption) : (_ : Prop)), ?_⟩
  | refine ⟨_, _, rfl, rfl, (Or.inl ⟨(by omega), (by omega)⟩), ?_⟩
  | refine ⟨_, _, rfl, rfl, And.intro (by omega) (And.intro (by omega) (by omega)), ?_⟩
  | refine ⟨_, _, _, _, rfl, rfl, ((by assumption) : (_ : Prop)), ((by first | rfl | assumption) : (_ : Prop)), ?_⟩
  | refine Or.inl ⟨_, rfl, ?_⟩
  | refine ⟨_, _, rfl, rfl, ?_⟩)
theorem cut_head {xs : List V} {k : Nat} : cutV xs none (some (k : Int)) = xs.take k := by
  unfold cutV
  rw [HT.sIx_none, HT.sIx_nat]
  rw [List.drop_zero, Nat.sub_zero]
  by_cases h : k ≤ xs.length
  · rw [Nat.min_eq_left h]
  · rw [Nat.min_eq_right (by omega), List.take_of_length_le (Nat.le_refl _), List.take_of_length_le (by omega)]
theorem cut_int {ns : List Int} {k i : Nat} {x : V} (h : (cutV (ns.map V.int) none (some (k : Int)))[i]? = some x) : ∃ z, x = .int z := by
  rw [cut_head, ← List.map_take, List.getElem?_map] at h
  cases e : (ns.take k)[i]? with
  | none =>
    rw [e] at h
    cases h
  | some z =>
    rw [e] at h
    exact ⟨z, (Option.some.inj h).symm⟩
theorem back_none {H H' : Hp} {p : Addr} (e : ∀ b o, H b = some o → H' b = some o) (n : H' p = none) : H p = none := by
  cases q : H p with
  | none => rfl
  | some o =>
    rw [e p o q] at n
    cases n
def spPool (K : PySem.W.Frag) : Sp := fun vs H Q _ => ∃ (a : Addr) (ns : List Int) (t : Int), vs = [.ref a, .int t] ∧ SqL K H a (ns.map V.int) ∧ ns.length ≤ 1000 ∧ 0 ≤ t ∧ t ≤ 1000 ∧
  ∀ (H' : Hp) (p : Addr), H p = none → Spring H' p 0 → (∀ b o, H b = some o → H' b = some o) → Q (.ref p) H'
section
variable {P : Program} {w : World} {K : PySem.W.Frag} {mg : Str → Option Value} {base : Heap} {f : Addr} {fd : FuncData}
theorem scPool : FnScope ["script", "turn", "cell", "blend", "one", "great"] ["script", "turn"] (defScope sPool) := ⟨rfl, rfl, rfl, by decide +kernel, rfl, by decide +kernel, by decide +kernel⟩
theorem ok_pool (F : Fun K "_law_pool" "_law_pool" sPool f fd) (gI : mg "int" = none) (gL : mg "len" = none) (gS : mg "sum" = none) (gA : mg "abs" = none) : FnOk P w K mg base CX0 1 f fd ["script", "turn"] (spPool K) := by
  refine F.ok scPool (fun vs H Q E h => ?_) (fun cdv A outer s H vs Q E hr h => ?_)
  · obtain ⟨a, ns, t, rfl, _⟩ := h
    rfl
  · obtain ⟨a, ns, t, rfl, hx, hl, t0, t1, k⟩ := h
    refine ⟨_, pss_cut (ps_set (i := 2) scPool.nd rfl (Or.inl rfl) (pe_ifExp (pt_cmpR op_lt (pv 1) (pe_callB call_len_seq (by rfl) gL PySem.boot_len (pa_cons (pv 0) pa_nil)) (nomark _)) (pe_ix ix_list (pv 0) (pv 1) (fun _ _ => rfl))
          (pe_op op_add (pe_op op_mod (pe_callB (cr_sum rfl) (by rfl) gS (by decide +kernel) (pa_cons (pe_slice sl_list (pv 0) po_none (po_some pe_int)) pa_nil)) pe_int) (pv 1))))
      (pss_cons (ps_set (i := 3) scPool.nd rfl (Or.inl rfl) (pe_op op_add pe_int (pv 1)))
      (pss_cons (ps_for PassesOwn.never rfl (pi_list (pe_slice sl_list (pv 0) po_none (po_some pe_int))) (pg_name (i := 4) scPool.nd rfl (Or.inl rfl))
        (pss_one (ps_set (i := 3) scPool.nd rfl (Or.inl rfl) (pe_op op_mod (pe_callTy call_int1 (by rfl) gI (by decide +kernel) (pa_cons (pe_op op_add (pe_op op_mul (pv 3) pe_int) (pv 4)) pa_nil)) pe_int))))
      (pss_cons (ps_set (i := 5) scPool.nd rfl (Or.inl rfl) (pe_callB call_abs (by rfl) gA (by decide +kernel) (pa_cons (pv 2) pa_nil)))
      (pss_one (ps_ret (pe_lst (pa_cons (pe_ifExp (pt_cmpR op_ge (pv 5) (pe_op op_pow pe_int pe_int) (nomark _)) (pv 5) pe_int)
        (pa_cons (pe_op op_mod (pe_callTy call_int1 (by rfl) gI (by decide +kernel) (pa_cons (pe_op op_add (pv 5) (pv 3)) pa_nil)) pe_int) (pa_cons pe_int pa_nil))))))))), ?_⟩
    refine ⟨fun σ H2 => ∃ v : Int, σ = [some (.ref a), some (.int t), some (.int v), none, none, none] ∧ ∀ b o, H b = some o → H2 b = some o, ?_, ?_⟩
    · refine ⟨_, rfl, _, rfl, a, _, rfl, .inl hx, _, _, rfl, rfl, _, rfl, ?_⟩
      rw [List.length_map]
      refine ite2 (fun q => ?_) (fun q => ?_)
      · have tl : t < (ns.length : Int) := of_decide_eq_true q
        obtain ⟨j, rfl⟩ := Int.eq_ofNat_of_zero_le t0
        have hj : j < ns.length := by omega
        have ej : (ns.map V.int)[j]? = some (.int ns[j]) := by rw [List.getElem?_map, List.getElem?_eq_getElem hj] <;> rfl
        exact ⟨_, rfl, _, rfl, a, _, _, _, rfl, rfl, hx, atI_nat ej, ns[j], rfl, fun _ _ e => e⟩
      · refine ⟨_, rfl, _, rfl, a, _, rfl, hx, fun l nl => ⟨l, ns.take 1, rfl, ?_, _, _, rfl, rfl, (show (0 : Int) < 1000003 by decide), _, rfl, _, _, rfl, rfl, _, rfl, fun b o e => up_new nl e⟩⟩
        have e1 : cutV (ns.map V.int) none (some ((1 : Nat) : Int)) = (ns.take 1).map V.int := by rw [cut_head, List.map_take]
        exact SqL.of (by rw [upd_same]; exact congrArg (fun z => some (HO.lst z)) e1)
    · rintro σ H2 ⟨v, rfl, ex⟩
      have hx2 : SqL K H2 a (ns.map V.int) := by
        rcases hx with (h | ⟨o, h⟩) | h
        · exact .inl (.inl (ex _ _ h))
        · exact .inl (.inr ⟨o, ex _ _ h⟩)
        · exact .inr h
      refine ⟨_, rfl, _, _, rfl, rfl, ?_⟩
      refine ⟨_, rfl, _, rfl, a, _, rfl, hx2, fun l nl => ⟨l, rfl, ⟨_, SqL.of upd_same⟩, for_list (K := K) (a := l) (xs := cutV (ns.map V.int) none (some ((64 : Nat) : Int))) (fun i σ H' => ∃ (sd : Int) (o4 : Option V), σ = [some (.ref a), some (.int t), some (.int v), some (.int sd), o4, none] ∧ 0 ≤ sd ∧ sd < 2147483647 ∧ H' = upd H2 l (.lst (cutV (ns.map V.int) none (some ((64 : Nat) : Int))))) ?_ ?_ ?_ ?_⟩⟩
      · exact ⟨7 + t, none, rfl, by omega, by omega, rfl⟩
      · rintro i σ H' _ ⟨sd, o4, rfl, s0, s1, rfl⟩
        exact SqL.of upd_same
      · rintro i x σ H' hi ⟨sd, o4, rfl, s0, s1, rfl⟩
        obtain ⟨z, rfl⟩ := cut_int hi
        repeat walk_at "rd"
        exact ⟨_, _, rfl, Int.emod_nonneg _ (by decide), Int.emod_lt_of_pos _ (by decide), rfl⟩
      · rintro σ H' ⟨sd, o4, rfl, s0, s1, rfl⟩
        have ex2 : ∀ b o, H b = some o → upd H2 l (.lst (cutV (ns.map V.int) none (some ((64 : Nat) : Int)))) b = some o := fun b o e => up_new nl (ex b o e)
        have av : 0 ≤ (if v < 0 then -v else v) := by split <;> omega
        have lt : ∀ z : Int, z % 1000000007 < 2147483647 := fun z => by
          have := Int.emod_lt_of_pos z (show (0 : Int) < 1000000007 by decide)
          omega
        repeat walk_at "rd"
        refine ite2 (fun q => ?_) (fun q => ?_)
        · repeat walk_at "rd"
          refine ⟨by show 3 ≤ sizeLine; decide, fun p np => k _ p (back_none ex2 np) ⟨⟨_, _, _, upd_same, av, Int.emod_nonneg _ (by decide), lt _, by decide, by decide⟩⟩ fun b o e => up_new np (ex2 b o e)⟩
        · repeat walk_at "rd"
          refine ⟨by show 3 ≤ sizeLine; decide, fun p np => k _ p (back_none ex2 np) ⟨⟨_, _, _, upd_same, by decide, Int.emod_nonneg _ (by decide), lt _, by decide, by decide⟩⟩ fun b o e => up_new np (ex2 b o e)⟩
end
end K59
/-! ## K59a -/
set_option Elab.async false
set_option linter.all false
set_option maxRecDepth 100000
set_option maxHeartbeats 4000000
/-! k59: the small defs: kinds, words, draws. -/
namespace K59
open PySem PySem.Spec PyProof.Rows L2 DL
theorem spring_none {H : Hp} {p : Addr} {n : Nat} (s : Spring H p n) : H p ≠ none := fun z => by
  obtain ⟨a, b, c, e, _⟩ := s.at_
  rw [z] at e
  cases e
theorem spring_tbl {H : Hp} {p : Addr} {n : Nat} (s : Spring H p n) (ps : Array Value) : H p ≠ some (.tbl ps) := fun z => by
  obtain ⟨a, b, c, e, _⟩ := s.at_
  rw [z] at e
  cases e
/-- the spring of these draws -/
abbrev wd (P : Program) (w : World) (T : List (Addr × Str)) (tu : ∀ e ∈ T, ∀ e' ∈ T, e.1 = e'.1 → e.2 = e'.2) : Wd := ⟨P, w, fun H p n => Spring H p n, fun H H' p n e s => s.to e, fun H p n s => spring_none s, T, tu, fun H p n s ps => spring_tbl s ps⟩
def cTake : Ct := fun rs n Q _ => ∃ m : Int, rs = [.pool, .ro (.int m)] ∧ n ≤ 10000 ∧ 0 < m ∧ m < 2 ^ 30 ∧ ∀ r : Int, 0 ≤ r → r < m → Q (.ro (.int r)) (n + 1)
section
variable {P : Program} {w : World} {K : PySem.W.Frag} {mg : Str → Option Value} {base : Heap} {f : Addr} {fd : FuncData}
theorem takeC (T : List (Addr × Str)) (tu : ∀ e ∈ T, ∀ e' ∈ T, e.1 = e'.1 → e.2 = e'.2) (F : FnOk P w K mg base CX0 1 f fd ["pool", "many"] spTake) : FnOk P w K mg base CX0 1 f fd ["pool", "many"] (@spC (wd P w T tu) cTake) := by
  letI := wd P w T tu
  refine F.imp fun vs H Q E h => ?_
  obtain ⟨Γ, n, rs, Qd, Xd, rfl, ex, pr, ⟨m, rfl, hn, m0, m1, q⟩, hq, hx⟩ := h
  cases pr with
  | cons r1 pr =>
    cases pr with
    | cons r2 pr =>
      cases pr
      cases r1 with
      | pool ep =>
        rename_i p
        have notT : ∀ b, IsTb b → b ≠ p := fun b t z => by
          obtain ⟨e, he, rfl⟩ := t
          obtain ⟨ps, q, _⟩ := ex.inv.2 e he
          obtain ⟨x, y, u, q2, _⟩ := (ex.inv.1 p ep).at_
          rw [z, q2] at q
          cases q
        refine ⟨p, m, n, by rw [rep_int (ra_ro r2)], ex.inv.1 p ep, hn, m0, m1, fun H' r r0 r1 but sp => hq (.int r) (.ro (.int r)) Γ.A0 H' (n + 1) ⟨fun b o nm e => ?_, fun _ h => h, fun b h => ⟨?_, (ex.ad b h).2⟩, fun b h => .inl h, fun a e => ?_, ?_⟩ (show Rep Γ.A0 H' (.int r) (.int r) from .int r) (q r r0 r1)⟩
        · rw [but b (fun z => nm (by rw [z]; exact .inl ep))]
          exact e
        · rw [but b (fun z => (ex.ad b h).2 (by rw [z]; exact .inl ep))]
          exact (ex.ad b h).1
        · rw [ep] at e
          cases e
          exact sp
        · refine ex.inv.2.kp (fun b t => but b (notT b t)) (.of (fun _ h => h) fun b o hb e => ?_)
          rw [but b (fun z => (ex.ad b hb).2 (by rw [z]; exact .inl ep))]
          exact e
end
variable [Wd]
def wordD : Dt → Bool
  | .str z => wordT z
  | _ => false
def cWord : Ct := fun rs n Q _ => ∃ d ty, rs = [.ro d] ∧ tyD d = some ty ∧ (∀ z, d = .str z → z.length ≤ 1000) ∧ Q (.ro (.bl (wordD d))) n
theorem Exit.same {Γ : Gm} {H' : Hp} {n : Nat} (ex : Exit Γ Γ.A0 Γ.H0 n) (s : Same Γ.H0 H') : Exit Γ Γ.A0 H' n := by
  have keep : ∀ b, Γ.H0 b ≠ none → H' b = Γ.H0 b := fun b h => by
    cases q : Γ.H0 b with
    | none => exact absurd q h
    | some o => exact s b o q
  exact ⟨fun b o _ e => s b o e, fun _ h => h, fun b h => ⟨fun z => (ex.ad b h).1 (by rw [← keep b (ex.ad b h).1]; exact z), (ex.ad b h).2⟩, fun b h => .inl h, Γ.ist Γ.H0 H' n (fun b m => keep b (Gm.md ex.inv b m)) (.of (fun _ h => h) fun b o _ e => s b o e) ex.inv⟩
theorem ra_ro1 {p : Option Addr} {A : Addr → Prop} {H : Hp} {vs : List V} {d : Dt} (pr : Paired (RA p A H) vs [.ro d]) : ∃ v, vs = [v] ∧ Rep A H v d := by
  cases pr with
  | cons r pr =>
    cases pr
    exact ⟨_, rfl, ra_ro r⟩
section
variable {P : Program} {K : PySem.W.Frag} {mg : Str → Option Value} {base : Heap} {f : Addr} {fd : FuncData} {w : World}
theorem wordC (F : FnOk P w K mg base CX0 1 f fd ["thing"] (spWord K)) : FnOk P w K mg base CX0 1 f fd ["thing"] (spC cWord) := by
  refine F.imp fun vs H Q E h => ?_
  obtain ⟨Γ, n, rs, Qd, Xd, rfl, ex, pr, ⟨d, ty, rfl, hd, hz, q⟩, hq, hx⟩ := h
  obtain ⟨v, rfl, rv⟩ := ra_ro1 pr
  have e : isW v = wordD d := by
    cases rv <;> first | rfl | cases hd
  refine ⟨v, rfl, ?_, fun H' s => by rw [e]; exact hq _ (.ro (.bl (wordD d))) Γ.A0 H' n (Exit.same ex s) (show Rep Γ.A0 H' _ _ from .bl _) q⟩
  have ty2 := tyx_rep (K := K) rv hd
  cases rv with
  | str z => exact .inl ⟨z, rfl, hz z rfl⟩
  | non => cases hd; exact .inr ⟨_, by simp [kinds], ty2⟩
  | bl => cases hd; exact .inr ⟨_, by simp [kinds], ty2⟩
  | int => cases hd; exact .inr ⟨_, by simp [kinds], ty2⟩
  | lst => cases hd; exact .inr ⟨_, by simp [kinds], ty2⟩
  | tup => cases hd; exact .inr ⟨_, by simp [kinds], ty2⟩
  | dic => cases hd; exact .inr ⟨_, by simp [kinds], ty2⟩
  | _ => cases hd
theorem scIsList : FnScope ["thing"] ["thing"] (defScope sIsList) := ⟨rfl, rfl, rfl, by decide +kernel, rfl, by decide +kernel, by decide +kernel⟩
theorem ok_list (F : Fun K "is_list" "is_list" sIsList f fd) (gI : mg "isinstance" = none) (gL : mg "list" = none) (gT : mg "tuple" = none) : FnOk P Wd.w K mg base CX0 1 f fd ["thing"] (spC cList) := by
  refine okC F scIsList (fun rs n Qd Xd h => ?_) (fun cdv A outer s H E Xd hr => ?_)
  · obtain ⟨d, ty, rfl, _⟩ := h
    rfl
  · refine ⟨_, dss_one (ds_ret (DR.e (dr_isiT (K := K) ["list", "tuple"] (fun σ H Q h => ⟨by show 2 ≤ sizeLine; decide, h⟩) (fun _ _ h => pe_callB call_isiT (by rfl) gI (by decide +kernel) (pa_cons h (pa_cons (pe_tup (pa_cons (pe_bltn (v := .ty "list") (by rfl) gL (by decide +kernel) rfl) (pa_cons (pe_bltn (v := .ty "tuple") (by rfl) gT (by decide +kernel) rfl) pa_nil))) pa_nil))) (db_var fun _ => pv 0)))), fun rs n Qd h => ?_⟩
    obtain ⟨d, ty, rfl, hd, q⟩ := h
    refine ⟨d, .ro d, rfl, rfl, ty, isListD d, hd, ?_, q⟩
    rcases ty_cases hd with ⟨rfl, rfl⟩ | ⟨rfl, b, rfl⟩ | ⟨rfl, b, rfl⟩ | ⟨rfl, b, rfl⟩ | ⟨rfl, b, rfl⟩ | ⟨rfl, b, rfl⟩ | ⟨rfl, b, rfl⟩ <;> rfl
def isPairD : Dt → Bool
  | .lst ds => ds.length == 2
  | .tup ds => ds.length == 2
  | _ => false
def cPair : Ct := fun rs n Q _ => ∃ d ty, rs = [.ro d] ∧ tyD d = some ty ∧ Q (.ro (.bl (isPairD d))) n
theorem scPair : FnScope ["thing"] ["thing"] (defScope sPair) := ⟨rfl, rfl, rfl, by decide +kernel, rfl, by decide +kernel, by decide +kernel⟩
theorem ok_pair (F : Fun K "is_pair" "is_pair" sPair f fd) (cL : DL.Cl P Wd.w K mg base CX0 1 "is_list" (spC cList)) (gL : mg "len" = none) : FnOk P Wd.w K mg base CX0 2 f fd ["thing"] (spC cPair) := by
  refine okC F scPair (fun rs n Qd Xd h => ?_) (fun cdv A outer s H E Xd hr => ?_)
  · obtain ⟨d, ty, rfl, _⟩ := h
    rfl
  · refine ⟨_, dss_one (ds_ret (de_and (DE.r (de_call (fun _ _ h => DL.pe_cl cL hr (by decide) pass0 h) (DA.cons (dr_var fun _ => pv 0) DA.nil)))
      (de_one (DR.e (dr_op (fun _ _ _ h1 h2 => pe_cmpR op_eq h1 h2 (nomark _)) (F := fun d e Q => ∃ i j, d = .int i ∧ e = .int j ∧ Q (.bl (decide (i = j)))) ?_ (dr_cb1 (fun _ _ h => pe_callB call_len (by rfl) gL PySem.boot_len h) dcall_len (db_var fun _ => pv 0)) (DR.b (dr_c (fun _ => pe_int) fun _ _ => .int 2))))))), fun rs n Qd h => ?_⟩
    · refine fun A H v w d e Qd Q r1 r2 hF k => ?_
      obtain ⟨i, j, rfl, rfl, q⟩ := hF
      refine ⟨by rw [r1.int, r2.int]; rfl, ?_⟩
      rw [r1.int, r2.int]
      have e : (V.bl (decide (V.int i = V.int j))) = .bl (decide (i = j)) := by congr 1; simp
      rw [e]
      exact k _ _ sc_bl q
    · obtain ⟨d, ty, rfl, hd, q⟩ := h
      refine ⟨d, rfl, d, ty, rfl, hd, _, rfl, isListD d, rfl, ?_⟩
      rcases ty_cases hd with ⟨rfl, rfl⟩ | ⟨rfl, b, rfl⟩ | ⟨rfl, b, rfl⟩ | ⟨rfl, b, rfl⟩ | ⟨rfl, b, rfl⟩ | ⟨rfl, b, rfl⟩ | ⟨rfl, b, rfl⟩
      · exact dF q
      · exact dF q
      · exact dF q
      · exact dF q
      · refine dT ⟨_, _, rfl, rfl, _, rfl, _, _, rfl, rfl, ?_⟩
        have e : decide (((b.length : Nat) : Int) = 2) = (b.length == 2) := by
          rw [Bool.eq_iff_iff, decide_eq_true_iff, beq_iff_eq]; omega
        rw [e]
        exact q
      · refine dT ⟨_, _, rfl, rfl, _, rfl, _, _, rfl, rfl, ?_⟩
        have e : decide (((b.length : Nat) : Int) = 2) = (b.length == 2) := by
          rw [Bool.eq_iff_iff, decide_eq_true_iff, beq_iff_eq]; omega
        rw [e]
        exact q
      · exact dF q
end
end K59
/-! ## K59b -/
set_option Elab.async false
set_option linter.all false
set_option maxRecDepth 100000
set_option maxHeartbeats 4000000
/-! k59: one of some, mixed. -/
namespace K59
open PySem PySem.Spec PyProof.Rows L2 DL
variable [Wd]
def cOne : Ct := fun rs n Q _ => ∃ ds, rs = [.pool, .ro (.lst ds)] ∧ n ≤ 10000 ∧ 0 < ds.length ∧ ds.length < 2 ^ 30 ∧ ∀ d ∈ ds, Q (.ro d) (n + 1)
/-- in a drawn order: any order -/
def cMixed : Ct := fun rs n Q _ => ∃ ds, rs = [.pool, .ro (.lst ds)] ∧ n + ds.length ≤ 10000 ∧ okD 64 (.lst ds) = true ∧ ∀ es, es.Perm ds → Q (.own (.lst es)) (n + ds.length)
theorem at_some {ds : List Dt} {r : Int} (h0 : 0 ≤ r) (h1 : r < ds.length) : ∃ d ∈ ds, L2.atI ds r = some d := by
  obtain ⟨j, rfl⟩ := Int.eq_ofNat_of_zero_le h0
  have hj : j < ds.length := by omega
  exact ⟨ds[j], List.getElem_mem hj, atI_nat (List.getElem?_eq_getElem hj)⟩
section
variable {P : Program} {K : PySem.W.Frag} {mg : Str → Option Value} {base : Heap} {f : Addr} {fd : FuncData}
theorem scOne : FnScope ["pool", "things"] ["pool", "things"] (defScope sOne) := ⟨rfl, rfl, rfl, by decide +kernel, rfl, by decide +kernel, by decide +kernel⟩
theorem ok_one (F : Fun K "_law_one" "_law_one" sOne f fd) (cT : DL.Cl P Wd.w K mg base CX0 1 "_law_take" (spC cTake)) (gL : mg "len" = none) : FnOk P Wd.w K mg base CX0 2 f fd ["pool", "things"] (spC cOne) := by
  refine okC F scOne (fun rs n Qd Xd h => ?_) (fun cdv A outer s H E Xd hr => ?_)
  · obtain ⟨ds, rfl, _⟩ := h
    rfl
  · refine ⟨_, dss_one (ds_ret (DR.e (dr_ix (K := K) (fun _ _ _ h1 h2 => pe_ix ix_seq h1 h2 fun _ _ => rfl) (dr_var fun _ => pv 1) (DE.r (de_call (fun _ _ h => DL.pe_cl cT hr (by decide) pass0 h) (DA.pool (de_pool fun _ => pv 0) (DA.cons (dr_cb1 (fun _ _ h => pe_callB call_len (by rfl) gL PySem.boot_len h) dcall_len (db_var fun _ => pv 1)) DA.nil))))))), fun rs n Qd h => ?_⟩
    obtain ⟨ds, rfl, hn, h0, h1, q⟩ := h
    refine ⟨_, rfl, rfl, rfl, _, _, rfl, rfl, _, rfl, _, rfl, hn, by omega, by omega, fun r r0 r1 => ⟨_, rfl, ?_⟩⟩
    obtain ⟨d, hd, e⟩ := at_some r0 r1
    exact ⟨ds, r, d, rfl, rfl, e, q d hd⟩
theorem scMixed : FnScope ["pool", "things", "left", "found"] ["pool", "things"] (defScope sMixed) := ⟨rfl, rfl, rfl, by decide +kernel, rfl, by decide +kernel, by decide +kernel⟩
theorem okD_lst {n : Nat} {ds : List Dt} : okD (n + 1) (.lst ds) = ds.all (okD n) := by
  rw [okD]
  induction ds with
  | nil => simp [okDs]
  | cons d r ih => simp [okDs, ih]
theorem okD_perm {n : Nat} {ds es : List Dt} (h : okD (n + 1) (.lst ds) = true) (sub : ∀ d ∈ es, d ∈ ds) : okD (n + 1) (.lst es) = true := by
  rw [okD_lst, List.all_eq_true] at h ⊢
  exact fun d hd => h d (sub d hd)
theorem perm_pop {ds : List Dt} {j : Nat} (h : j < ds.length) : (ds.eraseIdx j ++ [ds[j]]).Perm ds := by
  have e : ds = ds.take j ++ ds[j] :: ds.drop (j + 1) := by rw [List.getElem_cons_drop, List.take_append_drop]
  have p : (ds.eraseIdx j).Perm (ds.take j ++ ds.drop (j + 1)) := by rw [List.eraseIdx_eq_take_drop_succ]
  refine ((p.append_right _).trans ?_)
  conv => rhs; rw [e]
  rw [List.append_assoc]
  exact (List.perm_append_singleton _ _).append_left _
theorem ok_mixed (F : Fun K "_law_mixed" "_law_mixed" sMixed f fd) (cT : DL.Cl P Wd.w K mg base CX0 1 "_law_take" (spC cTake)) (gL : mg "len" = none) (gS : mg "list" = none) : FnOk P Wd.w K mg base CX0 2 f fd ["pool", "things"] (spC cMixed) := by
  refine okC F scMixed (fun rs n Qd Xd h => ?_) (fun cdv A outer s H E Xd hr => ?_)
  · obtain ⟨ds, rfl, _⟩ := h
    rfl
  · refine ⟨_, dss_cons (ds_par (i := 2) (j := 3) (fun _ _ h => ps_par (by rfl) scMixed.nd rfl rfl (by decide) rfl rfl h (by rfl)) (de_listOf (K := K) (fun _ _ h => pe_callTy call_list_of (by rfl) gS (by decide +kernel) (pa_cons h pa_nil)) (db_var fun _ => pv 1)) (de_lst DA.nil))
      (dss_cons (ds_while (fun _ => PassesOwn.never) (dt_opQ (fun _ _ _ h1 h2 => pt_cmpR (op_neD hr.units) h1 h2 (nomark _)) dop_ne (db_var fun _ => pv 2) dq_nil)
        (dss_one (ds_append (K := K) (i := 3) (fun _ _ h => ps_expr (pe_bm PySem.F.plainAttrs_list PySem.F.slot_list_append PySem.F.type_list_append mt_append (pv 3) (pa_cons h pa_nil)))
          (dr_popAt (K := K) (i := 2) (fun _ _ h => pe_bm PySem.F.plainAttrs_list PySem.F.slot_list_pop PySem.F.type_list_pop mt_popAt (pv 2) (pa_cons h pa_nil))
            (DE.r (de_call (fun _ _ h => DL.pe_cl cT hr (by decide) pass0 h) (DA.pool (de_pool fun _ => pv 0) (DA.cons (dr_cb1 (fun _ _ h => pe_callB call_len (by rfl) gL PySem.boot_len h) dcall_len (db_var fun _ => pv 2)) DA.nil))))))))
      (dss_one (ds_retOwn (i := 3) fun _ => pv 3))), fun rs n Qd h => ?_⟩
    obtain ⟨ds, rfl, hn, ok, q⟩ := h
    refine ⟨_, _, rfl, rfl, ds, rfl, [], rfl, (by decide), ?_⟩
    refine ⟨fun m n' δ' => ∃ left found, m = left.length ∧ δ' = [.pool, .ro (.lst ds), .own (.lst left), .own (.lst found)] ∧ (left ++ found).Perm ds ∧ n' + left.length = n + ds.length, ⟨_, ds, [], rfl, rfl, by rw [List.append_nil], rfl⟩, ?_⟩
    rintro m n' δ' ⟨left, found, rfl, rfl, pm, hl⟩
    have okl : okD 64 (.lst left) = true := okD_perm ok fun d hd => pm.subset (List.mem_append_left _ hd)
    have lens : left.length + found.length = ds.length := by rw [← pm.length_eq, List.length_append]
    refine ⟨_, _, rfl, rfl, okl, by rfl, _, rfl, ?_⟩
    rw [eqD_nil okl]
    cases left with
    | nil =>
      refine dF ⟨.lst found, rfl, ?_⟩
      have e : n' = n + ds.length := by simpa using hl
      rw [e]
      exact q found (by simpa using pm)
    | cons x r =>
      refine dT ⟨⟨found, rfl⟩, ⟨x :: r, rfl⟩, rfl, rfl, _, _, rfl, rfl, _, rfl, _, rfl, by simp at hl; omega, by simp, ?_, fun k k0 k1 => ⟨_, rfl, ?_⟩⟩
      · have : (x :: r).length ≤ 10000 := by omega
        show (((x :: r).length : Nat) : Int) < 2 ^ 30
        omega
      · obtain ⟨j, rfl⟩ := Int.eq_ofNat_of_zero_le k0
        have hj : j < (x :: r).length := by omega
        have l10 : (x :: r).length ≤ 10000 := by omega
        refine ⟨x :: r, j, (x :: r)[j], rfl, rfl, List.getElem?_eq_getElem hj, by omega, found, rfl, ?_, ?_⟩
        · have l63 := sizeLine_eq
          simp at lens
          omega
        · refine ⟨((x :: r).eraseIdx j).length, ?_, (x :: r).eraseIdx j, found ++ [(x :: r)[j]], rfl, rfl, ?_, ?_⟩
          · rw [List.length_eraseIdx, if_pos hj]
            simp
          · rw [← List.append_assoc]
            refine List.Perm.trans ?_ pm
            refine List.Perm.trans ?_ ((perm_pop hj).append_right found)
            rw [List.append_assoc, List.append_assoc]
            exact List.perm_append_comm.append_left _
          · rw [List.length_eraseIdx, if_pos hj]
            simp at hl ⊢
            omega
end
end K59
/-! ## K59c -/
set_option Elab.async false
set_option linter.all false
set_option maxRecDepth 100000
set_option maxHeartbeats 4000000
/-! k59: bodies of jobs. -/
namespace K59
open PySem PySem.Spec PyProof.Rows L2 DL
abbrev sIsPart : Stmt := tp 21
abbrev sAre : Stmt := tp 22
abbrev sCopied : Stmt := tp 23
/-- a part of a body: so many units, or a thing around parts -/
inductive Part where
  | unit (k : Int)
  | inn (t : Str) (b : List Part)
mutual
/-- a part as tuples -/
def Part.t : Part → Dt
  | .unit k => .int k
  | .inn t b => .tup [.str t, .tup (partsT b)]
def partsT : List Part → List Dt
  | [] => []
  | p :: r => p.t :: partsT r
end
mutual
/-- a tree that stands for a part, lists or tuples -/
inductive IsPart : Dt → Part → Prop
  | unit (k : Int) : IsPart (.int k) (.unit k)
  | inn {d b : Dt} {t : Str} {ds : List Dt} {ps : List Part} : elemD d = some [.str t, b] → elemD b = some ds → IsParts ds ps → IsPart d (.inn t ps)
inductive IsParts : List Dt → List Part → Prop
  | nil : IsParts [] []
  | cons {d : Dt} {p : Part} {ds : List Dt} {ps : List Part} : IsPart d p → IsParts ds ps → IsParts (d :: ds) (p :: ps)
end
/-- of so many depths -/
def Fit : Nat → List Part → Prop
  | 0, _ => False
  | m + 1, ps => ps.length ≤ 1000 ∧ ∀ p ∈ ps, match p with
    | .unit _ => True
    | .inn _ b => Fit m b
theorem IsParts.len : ∀ {ds : List Dt} {ps : List Part}, IsParts ds ps → ds.length = ps.length
  | _, _, .nil => rfl
  | _, _, .cons _ r => congrArg Nat.succ (IsParts.len r)
theorem partsT_map : ∀ (ps : List Part), partsT ps = ps.map Part.t
  | [] => by simp [partsT]
  | p :: r => by simp [partsT, partsT_map r]
variable [Wd]
def cCopied (m : Nat) : Ct := fun rs n Q _ => ∃ d ds ps, rs = [.ro d] ∧ elemD d = some ds ∧ IsParts ds ps ∧ Fit m ps ∧ Q (.ro (.tup (partsT ps))) n
theorem ty_part {d : Dt} {p : Part} (h : IsPart d p) : ∃ ty, tyD d = some ty ∧ isIntD d = (match p with | .unit _ => true | .inn _ _ => false) := by
  cases h with
  | unit k => exact ⟨_, rfl, rfl⟩
  | inn e _ _ =>
    cases d with
    | lst _ => exact ⟨_, rfl, rfl⟩
    | tup _ => exact ⟨_, rfl, rfl⟩
    | _ => cases e
section
variable {P : Program} {K : PySem.W.Frag} {mg : Str → Option Value} {base : Heap} {f : Addr} {fd : FuncData}
theorem scCopied : FnScope ["parts", "part"] ["parts"] (defScope sCopied) := ⟨rfl, rfl, rfl, by decide +kernel, rfl, by decide +kernel, by decide +kernel⟩
/-- a def that calls itself: its own call -/
structure Self (P : Program) (K : PySem.W.Frag) (mg : Str → Option Value) (x : Str) (f : Addr) (fd : FuncData) (ps : List Str) : Prop where
  gm : mg x = some (.ref f)
  kp : PySem.W.keepIn K (.ref f) = true
  bi : Binds K fd ps []
theorem Self.cl {x : Str} {ps : List Str} {CX : CXT} {k : Nat} {sp : Sp} (s : Self P K mg x f fd ps) (F : FnOk P Wd.w K mg base CX k f fd ps sp) : DL.Cl P Wd.w K mg base CX k x sp := ⟨⟨f, fd, ps, F, s.gm, s.kp, s.bi⟩⟩
theorem ok_copied (F : Fun K "copied_parts" "copied_parts" sCopied f fd) (S : Self P K mg "copied_parts" f fd ["parts"]) (cI : DL.Cl P Wd.w K mg base CX0 1 "is_integer" (spC cInt)) (gT : mg "tuple" = none) : ∀ m : Nat, FnOk P Wd.w K mg base CX0 (m + 2) f fd ["parts"] (spC (cCopied m)) := by
  intro m
  induction m with
  | zero =>
    refine okC F scCopied (fun rs n Qd Xd h => ?_) (fun cdv A outer s H E Xd hr => ⟨fun _ _ _ => False, ?_, fun rs n Qd h => ?_⟩)
    · obtain ⟨d, ds, ps, rfl, _⟩ := h
      rfl
    · exact ⟨fun _ _ _ => False, fun _ => PSs.mk fun pins s σ H D I h => h.elim, fun Γ gx σ A H n δ D E R s h => h⟩
    · obtain ⟨d, ds, ps, rfl, _, _, z, _⟩ := h
      exact z
  | succ m ih =>
    refine okC F scCopied (fun rs n Qd Xd h => ?_) (fun cdv A outer s H E Xd hr => ?_)
    · obtain ⟨d, ds, ps, rfl, _⟩ := h
      rfl
    · refine ⟨_, dss_one (ds_ret (DR.e (dr_tupOf (K := K) (fun _ _ h => pe_callTy call_tuple_of (by rfl) gT (by decide +kernel) (pa_cons h pa_nil))
        (DR.b (DE.r (de_lc (own := [("part", 1)]) (fun _ => rfl) (fun _ => scCopied.nd) (di_seq (K := K) (dr_var fun _ => pv 0) fun _ _ h => pi_seq h) (fun _ => blkOk_by (own := [("part", 1)]) (N := ["parts", "part"]) (sc := defScope sCopied) (by decide +kernel))
          (dg_name (i := 1) (fun _ => pg_name (i := 1) scCopied.nd rfl (Or.inl rfl)) (by decide)) dts_nil
          (DE.r (de_if (dt_val (DE.r (de_call (fun _ _ h => DL.pe_cl cI hr (by omega) pass0 h) (DA.cons (dr_var fun _ => pv 1) DA.nil)))) (DR.e (dr_var fun _ => pv 1))
            (DR.e (dr_tup (DA.cons (dr_ix (K := K) (fun _ _ _ h1 h2 => pe_ix ix_seq h1 h2 fun _ _ => rfl) (dr_var fun _ => pv 1) (dr_c (fun _ => pe_int) fun _ _ => .int 0))
              (DA.cons (DE.r (de_call (fun _ _ h => DL.pe_cl (S.cl ih) hr (by omega) pass0 h) (DA.cons (dr_ix (K := K) (fun _ _ _ h1 h2 => pe_ix ix_seq h1 h2 fun _ _ => rfl) (dr_var fun _ => pv 1) (dr_c (fun _ => pe_int) fun _ _ => .int 1)) DA.nil))) DA.nil)))))))))))), fun rs n Qd h => ?_⟩
      obtain ⟨d, ds, ps, rfl, ed, ip, ⟨hl, fit⟩, q⟩ := h
      refine ⟨d, rfl, ds, ed, ?_⟩
      have l63 := sizeLine_eq
      refine dLc_go (fun ds' acc n' δ' => ∃ pre ps', n' = n ∧ δ' = [.ro d, .no] ∧ acc = partsT pre ∧ IsParts ds' ps' ∧ ps = pre ++ ps') ?_ ?_ ⟨[], ps, rfl, rfl, rfl, ip, rfl⟩
      · rintro acc n' δ' ⟨pre, ps', rfl, rfl, rfl, ip', rfl⟩
        cases ip'
        rw [List.append_nil] at q
        exact ⟨_, rfl, _, rfl, q⟩
      · rintro x r acc n' δ' R hR ⟨pre, ps', rfl, rfl, rfl, ip', rfl⟩
        cases ip' with
        | cons h1 h2 =>
          rename_i p ps'
          have nxt := hR (partsT pre ++ [p.t]) n' [.ro d, .no] ⟨pre ++ [p], ps', rfl, rfl, by simp [partsT_map], h2, by simp⟩
          have hlen : (partsT pre).length < sizeLine := by
            rw [partsT_map, List.length_map]
            simp at hl
            omega
          obtain ⟨ty, et, ei⟩ := ty_part h1
          refine dT ⟨x, rfl, x, ty, rfl, et, _, rfl, isIntD x, rfl, ?_⟩
          rw [ei]
          have ft := fit p (by simp)
          cases h1 with
          | unit k => exact dT ⟨_, rfl, _, rfl, hlen, nxt⟩
          | inn e1 e2 h3 =>
            exact dF ⟨x, rfl, _, 0, _, e1, rfl, rfl, x, rfl, _, 1, _, e1, rfl, rfl, _, _, _, rfl, e2, h3, ft, _, rfl, _, rfl, (by show 2 ≤ sizeLine; omega), _, rfl, hlen, nxt⟩
end
end K59
/-! ## K59d -/
set_option Elab.async false
set_option linter.all false
set_option maxRecDepth 100000
set_option maxHeartbeats 4000000
/-! k59: which bodies are right. -/
namespace K59
open PySem PySem.Spec PyProof.Rows L2 DL
/-- data of so many depths -/
def Nice : Nat → Dt → Prop
  | 0, _ => False
  | m + 1, d => (∃ ty, tyD d = some ty) ∧ (∀ z, d = .str z → z.length ≤ 1000) ∧ ∀ ds, elemD d = some ds → ds.length ≤ 1000 ∧ ∀ x ∈ ds, Nice m x
def wordS : Dt → Option Str
  | .str z => if wordT z then some z else none
  | _ => none
mutual
def partD : Nat → List Str → Dt → Bool
  | 0, _, _ => false
  | m + 1, ar, d => match d with
    | .int i => decide (1 ≤ i)
    | d => match elemD d with
      | some [a, b] => match wordS a with
        | some z => !decide (z ∈ ar) && areD m (ar ++ [z]) b
        | none => false
      | _ => false
def areD : Nat → List Str → Dt → Bool
  | 0, _, _ => false
  | m + 1, ar, d => match elemD d with
    | some ds => !ds.isEmpty && ds.all (partD m ar)
    | none => false
end
theorem wordD_S {d : Dt} : wordD d = (wordS d).isSome := by
  cases d <;> simp [wordD, wordS]
  split <;> simp_all
variable [Wd]
def cPart (m : Nat) : Ct := fun rs n Q _ => ∃ d ar, rs = [.ro d, .ro (.lst (ar.map .str))] ∧ Nice m d ∧ ar.length + m ≤ 1000 ∧ Q (.ro (.bl (partD m ar d))) n
def cAre (m : Nat) : Ct := fun rs n Q _ => ∃ d ar, rs = [.ro d, .ro (.lst (ar.map .str))] ∧ Nice m d ∧ ar.length + m ≤ 1000 ∧ Q (.ro (.bl (areD m ar d))) n
section
variable {P : Program} {K : PySem.W.Frag} {mg : Str → Option Value} {base : Heap} {f g : Addr} {fd gd : FuncData}
theorem scPart : FnScope ["thing", "around"] ["thing", "around"] (defScope sIsPart) := ⟨rfl, rfl, rfl, by decide +kernel, rfl, by decide +kernel, by decide +kernel⟩
theorem scAre : FnScope ["thing", "around", "part"] ["thing", "around"] (defScope sAre) := ⟨rfl, rfl, rfl, by decide +kernel, rfl, by decide +kernel, by decide +kernel⟩
theorem never {X : Unit → Cx} {a : DL.Act} {ss : List Stmt} : DSs X a ss (fun _ _ _ => False) := ⟨fun _ _ _ => False, fun _ => PSs.mk fun pins s σ H D I h => h.elim, fun Γ gx σ A H n δ D E R s h => h⟩
theorem elem_ty {d : Dt} {ds : List Dt} (e : elemD d = some ds) : isListD d = true ∧ isIntD d = false ∧ (isPairD d = (ds.length == 2)) ∧ lenD d = some ds.length := by
  cases d <;> simp [elemD] at e <;> subst e <;> simp [isListD, isIntD, isPairD, lenD]
theorem ok_parts (F : Fun K "is_part" "is_part" sIsPart f fd) (S : Self P K mg "is_part" f fd ["thing", "around"]) (G : Fun K "are_parts" "are_parts" sAre g gd) (Z : Self P K mg "are_parts" g gd ["thing", "around"])
    (cI : DL.Cl P Wd.w K mg base CX0 1 "is_integer" (spC cInt)) (cL : DL.Cl P Wd.w K mg base CX0 1 "is_list" (spC cList)) (cP : DL.Cl P Wd.w K mg base CX0 2 "is_pair" (spC cPair)) (cW : DL.Cl P Wd.w K mg base CX0 1 "is_word" (spC cWord))
    (gL : mg "len" = none) (gA : mg "all" = none) : ∀ m : Nat, FnOk P Wd.w K mg base CX0 (m + 3) f fd ["thing", "around"] (spC (cPart m)) ∧ FnOk P Wd.w K mg base CX0 (m + 3) g gd ["thing", "around"] (spC (cAre m)) := by
  intro m
  induction m with
  | zero =>
    refine ⟨okC F scPart (fun rs n Qd Xd h => ?_) (fun cdv A outer s H E Xd hr => ⟨_, never, fun rs n Qd h => ?_⟩), okC G scAre (fun rs n Qd Xd h => ?_) (fun cdv A outer s H E Xd hr => ⟨_, never, fun rs n Qd h => ?_⟩)⟩ <;> obtain ⟨d, ar, rfl, z, _⟩ := h
    · rfl
    · exact z
    · rfl
    · exact z
  | succ m ih =>
    obtain ⟨ihp, iha⟩ := ih
    have l63 := sizeLine_eq
    refine ⟨okC F scPart (fun rs n Qd Xd h => ?_) (fun cdv A outer s H E Xd hr => ?_), okC G scAre (fun rs n Qd Xd h => ?_) (fun cdv A outer s H E Xd hr => ?_)⟩
    · obtain ⟨d, ar, rfl, _⟩ := h
      rfl
    · refine ⟨_, dss_cons (ds_if (dt_val (DE.r (de_call (fun _ _ h => DL.pe_cl cI hr (by omega) pass0 h) (DA.cons (dr_var fun _ => pv 0) DA.nil))))
          (dss_one (ds_ret (DR.e (dr_op (fun _ _ _ h1 h2 => pe_cmpR op_ge h1 h2 (nomark _)) (dop_i rfl (gd := fun i j => .bl (decide (j ≤ i))) fun _ _ => sc_bl) (dr_var fun _ => pv 0) (DR.b (dr_c (fun _ => pe_int) fun _ _ => .int 1)))))) dss_nil)
        (dss_cons (ds_if (DW.t (dw_or (dt_not (dt_val (DE.r (de_call (fun _ _ h => DL.pe_cl cP hr (by omega) pass0 h) (DA.cons (dr_var fun _ => pv 0) DA.nil)))))
            (dw_or (dt_not (dt_val (DE.r (de_call (fun _ _ h => DL.pe_cl cW hr (by omega) pass0 h) (DA.cons (dr_ix (K := K) (fun _ _ _ h1 h2 => pe_ix ix_seq h1 h2 fun _ _ => rfl) (dr_var fun _ => pv 0) (dr_c (fun _ => pe_int) fun _ _ => .int 0)) DA.nil)))))
              (dw_or1 (dt_op (fun _ _ _ h1 h2 => pt_cmpR op_in_seq h1 h2 (by rfl)) dop_in (dr_ix (K := K) (fun _ _ _ h1 h2 => pe_ix ix_seq h1 h2 fun _ _ => rfl) (dr_var fun _ => pv 0) (dr_c (fun _ => pe_int) fun _ _ => .int 0)) (db_var fun _ => pv 1))))))
          (dss_one (ds_ret (DR.e (dr_c (fun _ => pe_bl) fun _ _ => .bl false)))) dss_nil)
        (dss_one (ds_ret (de_call (fun _ _ h => DL.pe_cl (Z.cl iha) hr (by omega) pass0 h) (DA.cons (dr_ix (K := K) (fun _ _ _ h1 h2 => pe_ix ix_seq h1 h2 fun _ _ => rfl) (dr_var fun _ => pv 0) (dr_c (fun _ => pe_int) fun _ _ => .int 1))
          (DA.cons (DE.r (de_op (fun _ _ _ h1 h2 => pe_op op_cat h1 h2) dop_cat (dr_var fun _ => pv 1) (DE.r (de_lst (DA.cons (dr_ix (K := K) (fun _ _ _ h1 h2 => pe_ix ix_seq h1 h2 fun _ _ => rfl) (dr_var fun _ => pv 0) (dr_c (fun _ => pe_int) fun _ _ => .int 0)) DA.nil))))) DA.nil)))))), fun rs n Qd h => ?_⟩
      obtain ⟨d, ar, rfl, ⟨⟨ty, hd⟩, _, hds⟩, hl, q⟩ := h
      refine ⟨d, rfl, d, ty, rfl, hd, _, rfl, isIntD d, rfl, dB (fun ei => ?_) fun ei => ?_⟩
      · cases d with
        | int i => exact ⟨_, rfl, i, 1, rfl, rfl, q⟩
        | _ => cases ei
      · have bad : ∀ (b : Bool), b = false → partD (m + 1) ar d = b → Qd (.ro (.bl false)) n := fun b e1 e2 => by
          rw [e2, e1] at q
          exact q
        refine ⟨d, rfl, d, ty, rfl, hd, _, rfl, isPairD d, rfl, dB (fun ep => ?_) fun ep => ?_⟩
        · refine dT (bad _ rfl ?_)
          cases d with
          | lst ds =>
            have : ds.length ≠ 2 := by simpa [isPairD] using ep
            rw [partD]
            · simp only [elemD]
              split
              · rename_i e; cases e; exact absurd rfl this
              · rfl
            · intro _ z; cases z
          | tup ds =>
            have : ds.length ≠ 2 := by simpa [isPairD] using ep
            rw [partD]
            · simp only [elemD]
              split
              · rename_i e; cases e; exact absurd rfl this
              · rfl
            · intro _ z; cases z
          | int i => cases ei
          | _ => rfl
        · have ep : isPairD d = true := by simpa using ep
          obtain ⟨a, b, eab⟩ : ∃ a b, elemD d = some [a, b] := by
            cases d with
            | lst ds =>
              have : ds.length = 2 := by simpa [isPairD] using ep
              match ds, this with
              | [a, b], _ => exact ⟨a, b, rfl⟩
            | tup ds =>
              have : ds.length = 2 := by simpa [isPairD] using ep
              match ds, this with
              | [a, b], _ => exact ⟨a, b, rfl⟩
            | _ => cases ep
          obtain ⟨_, hx⟩ := hds _ eab
          have na := hx a (by simp)
          have nb := hx b (by simp)
          have ev : partD (m + 1) ar d = match wordS a with
            | some z => !decide (z ∈ ar) && areD m (ar ++ [z]) b
            | none => false := by
            rw [partD]
            · simp only [eab]
            · intro i z; rw [z] at ei; cases ei
          have na2 : (∃ ty, tyD a = some ty) ∧ ∀ z, a = .str z → z.length ≤ 1000 := by
            cases m with
            | zero => exact na.elim
            | succ m => exact ⟨na.1, na.2.1⟩
          obtain ⟨⟨tya, ha⟩, hz⟩ := na2
          refine ⟨d, rfl, _, 0, a, eab, rfl, rfl, a, tya, rfl, ha, hz, _, rfl, wordD a, rfl, dB (fun ew => ?_) fun ew => ?_⟩
          · refine dT (bad _ rfl ?_)
            rw [ev]
            have : wordS a = none := by
              rw [wordD_S] at ew
              cases q : wordS a with
              | none => rfl
              | some z => rw [q] at ew; cases ew
            rw [this]
          · obtain ⟨z, ez⟩ : ∃ z, wordS a = some z := by
              rw [wordD_S] at ew
              cases q : wordS a with
              | none => rw [q] at ew; cases ew
              | some z => exact ⟨z, rfl⟩
            have az : a = .str z := by
              cases a <;> simp [wordS] at ez
              rw [ez.2]
            rw [ez] at ev
            have ev : partD (m + 1) ar d = (!decide (z ∈ ar) && areD m (ar ++ [z]) b) := ev
            refine ⟨d, rfl, _, 0, a, eab, rfl, rfl, _, _, rfl, rfl, z, ar, az, rfl, _, rfl, dB (fun ei2 => ?_) fun ei2 => ?_⟩
            · refine bad _ rfl ?_
              rw [ev, ei2]
              rfl
            · rw [ei2] at ev
              refine ⟨d, rfl, _, 1, b, eab, rfl, rfl, _, rfl, d, rfl, _, 0, a, eab, rfl, rfl, [a], rfl, (by show 1 ≤ sizeLine; omega), _, rfl, ar.map Dt.str, [a], rfl, rfl, ?_, _, rfl, b, ar ++ [z], ?_, nb, ?_, ?_⟩
              · rw [List.length_map]
                show ar.length + 1 ≤ sizeLine
                omega
              · rw [az, List.map_append]
                rfl
              · rw [List.length_append]
                show ar.length + 1 + m ≤ 1000
                omega
              · rw [ev] at q
                exact q
    · obtain ⟨d, ar, rfl, _⟩ := h
      rfl
    · refine ⟨_, dss_one (ds_ret (de_and (DE.r (de_call (fun _ _ h => DL.pe_cl cL hr (by omega) pass0 h) (DA.cons (dr_var fun _ => pv 0) DA.nil)))
        (de_and (dr_op (fun _ _ _ h1 h2 => pe_cmpR op_gt h1 h2 (nomark _)) (dop_i rfl (gd := fun i j => .bl (decide (j < i))) fun _ _ => sc_bl) (dr_cb1 (fun _ _ h => pe_callB call_len (by rfl) gL PySem.boot_len h) dcall_len (db_var fun _ => pv 0)) (DR.b (dr_c (fun _ => pe_int) fun _ _ => .int 0)))
          (de_one (DR.e (dr_cb1 (fun _ _ h => pe_callB (cr_all rfl) (by rfl) gA (by decide +kernel) h) dcall_all (DR.b (DE.r (de_lc (own := [("part", 2)]) (fun _ => rfl) (fun _ => scAre.nd) (di_seq (K := K) (dr_var fun _ => pv 0) fun _ _ h => pi_seq h) (fun _ => blkOk_by (own := [("part", 2)]) (N := ["thing", "around", "part"]) (sc := defScope sAre) (by decide +kernel))
            (dg_name (i := 2) (fun _ => pg_name (i := 2) scAre.nd rfl (Or.inl rfl)) (by decide)) dts_nil
            (DE.r (de_call (fun _ _ h => DL.pe_cl (S.cl ihp) hr (by omega) pass0 h) (DA.cons (dr_var fun _ => pv 2) (DA.cons (dr_var fun _ => pv 1) DA.nil))))))))))))), fun rs n Qd h => ?_⟩
      obtain ⟨d, ar, rfl, ⟨⟨ty, hd⟩, _, hds⟩, hl, q⟩ := h
      refine ⟨d, rfl, d, ty, rfl, hd, _, rfl, isListD d, rfl, dB (fun el => ?_) fun el => ?_⟩
      · obtain ⟨ds, eds⟩ : ∃ ds, elemD d = some ds := by
          cases d with
          | lst ds => exact ⟨_, rfl⟩
          | tup ds => exact ⟨_, rfl⟩
          | _ => cases el
        obtain ⟨dl, hx⟩ := hds _ eds
        have ev : areD (m + 1) ar d = (!ds.isEmpty && ds.all (partD m ar)) := by
          rw [areD]
          simp only [eds]
        refine ⟨_, _, rfl, rfl, _, (elem_ty eds).2.2.2, _, 0, rfl, rfl, _, rfl, dB (fun e0 => ?_) fun e0 => ?_⟩
        · refine ⟨d, rfl, ds, eds, ?_⟩
          refine dLc_go (fun ds' acc n' δ' => ∃ pre, n' = n ∧ δ' = [.ro d, .ro (.lst (ar.map .str)), .no] ∧ acc = (pre.map (partD m ar)).map Dt.bl ∧ ds = pre ++ ds') ?_ ?_ ⟨[], rfl, rfl, rfl, rfl⟩
          · rintro acc n' δ' ⟨pre, rfl, rfl, rfl, rfl⟩
            refine ⟨_, rfl, pre.map (partD m ar), rfl, ?_⟩
            have e2 : areD (m + 1) ar d = (pre.map (partD m ar)).all id := by
              rw [ev, List.all_map, List.append_nil]
              cases pre with
              | nil => simp at e0
              | cons p r => rfl
            rw [e2] at q
            exact q
          · rintro x r acc n' δ' R hR ⟨pre, rfl, rfl, rfl, rfl⟩
            refine dT ⟨x, rfl, _, rfl, x, ar, rfl, hx x (by simp), (by omega), _, rfl, ?_, hR _ _ _ ⟨pre ++ [x], rfl, rfl, by simp, by simp⟩⟩
            rw [List.length_map, List.length_map]
            simp at dl
            omega
        · have e1 : ds.isEmpty = true := by
            cases ds with
            | nil => rfl
            | cons x r =>
              have := of_decide_eq_false e0
              simp at this
          rw [ev, e1] at q
          exact q
      · have ev : areD (m + 1) ar d = false := by
          rw [areD]
          cases d with
          | lst ds => cases el
          | tup ds => cases el
          | _ => rfl
        rw [ev] at q
        exact q
end
end K59
/-! ## K59e -/
set_option Elab.async false
set_option linter.all false
set_option maxRecDepth 100000
set_option maxHeartbeats 4000000
/-! k59: which jobs, which moments are right. -/
namespace K59
open PySem PySem.Spec PyProof.Rows L2 DL
abbrev sIsJob : Stmt := tp 27
abbrev sMoments : Stmt := tp 31
def jobD (m : Nat) (d : Dt) : Bool := match elemD d with
  | some [a, b, c] => match a, b with
    | .int p, .int q => decide (1 ≤ p) && (decide (1 ≤ q) && areD m [] c)
    | _, _ => false
  | _ => false
/-- ascending, so far apart -/
def gapsD (dist : Int) : List Int → Bool
  | a :: b :: r => decide (dist ≤ b - a) && gapsD dist (b :: r)
  | _ => true
def intsD : List Dt → Option (List Int)
  | [] => some []
  | .int i :: r => if 0 ≤ i then (intsD r).map (i :: ·) else none
  | _ :: _ => none
def momD (dist : Int) (d : Dt) : Bool := match elemD d with
  | some ds => match intsD ds with
    | some is => gapsD dist is
    | none => false
  | none => false
variable [Wd]
def cJob (m : Nat) : Ct := fun rs n Q _ => ∃ d, rs = [.ro d] ∧ Nice (m + 1) d ∧ Q (.ro (.bl (jobD m d))) n
def cMom : Ct := fun rs n Q _ => ∃ (d : Dt) (dist : Int), rs = [.ro d, .ro (.int dist)] ∧ Nice 2 d ∧ Q (.ro (.bl (momD dist d))) n
section
variable {P : Program} {K : PySem.W.Frag} {mg : Str → Option Value} {base : Heap} {f g : Addr} {fd gd : FuncData}
theorem scJob : FnScope ["thing"] ["thing"] (defScope sIsJob) := ⟨rfl, rfl, rfl, by decide +kernel, rfl, by decide +kernel, by decide +kernel⟩
theorem nice_ty {m : Nat} {d : Dt} (h : Nice m d) : ∃ ty, tyD d = some ty := by
  cases m with
  | zero => exact h.elim
  | succ m => exact h.1
theorem ok_job (m : Nat) (F : Fun K "is_job" "is_job" sIsJob f fd) (cI : DL.Cl P Wd.w K mg base CX0 1 "is_integer" (spC cInt)) (cL : DL.Cl P Wd.w K mg base CX0 1 "is_list" (spC cList)) (cA : DL.Cl P Wd.w K mg base CX0 (m + 3) "are_parts" (spC (cAre m))) (hm : m ≤ 1000) (gL : mg "len" = none) :
    FnOk P Wd.w K mg base CX0 (m + 4) f fd ["thing"] (spC (cJob m)) := by
  have l63 := sizeLine_eq
  refine okC F scJob (fun rs n Qd Xd h => ?_) (fun cdv A outer s H E Xd hr => ?_)
  · obtain ⟨d, rfl, _⟩ := h
    rfl
  · refine ⟨_, (dss_cons (ds_if (DW.t (dw_or (dt_not (dt_val (DE.r (de_call (fun _ _ h => DL.pe_cl cL hr (by omega) pass0 h) (DA.cons (dr_var fun _ => pv 0) DA.nil))))) (dw_or (dt_op (fun _ _ _ h1 h2 => pt_cmpR op_ne h1 h2 (nomark _)) dop_neI (dr_cb1 (fun _ _ h => pe_callB call_len (by rfl) gL PySem.boot_len h) dcall_len (db_var fun _ => pv 0)) (DR.b (dr_c (fun _ => pe_int) fun _ _ => .int 3))) (dw_or (dt_not (dt_val (DE.r (de_call (fun _ _ h => DL.pe_cl cI hr (by omega) pass0 h) (DA.cons (dr_ix (K := K) (fun _ _ _ h1 h2 => pe_ix ix_seq h1 h2 fun _ _ => rfl) (dr_var fun _ => pv 0) (dr_c (fun _ => pe_int) fun _ _ => .int 0)) DA.nil))))) (dw_or1 (dt_not (dt_val (DE.r (de_call (fun _ _ h => DL.pe_cl cI hr (by omega) pass0 h) (DA.cons (dr_ix (K := K) (fun _ _ _ h1 h2 => pe_ix ix_seq h1 h2 fun _ _ => rfl) (dr_var fun _ => pv 0) (dr_c (fun _ => pe_int) fun _ _ => .int 1)) DA.nil)))))))))) (dss_one (ds_ret (DR.e (dr_c (fun _ => pe_bl) fun _ _ => .bl false)))) dss_nil) (dss_one (ds_ret (de_and (dr_op (fun _ _ _ h1 h2 => pe_cmpR op_ge h1 h2 (nomark _)) (dop_i rfl (gd := fun i j => .bl (decide (j ≤ i))) fun _ _ => sc_bl) (dr_ix (K := K) (fun _ _ _ h1 h2 => pe_ix ix_seq h1 h2 fun _ _ => rfl) (dr_var fun _ => pv 0) (dr_c (fun _ => pe_int) fun _ _ => .int 0)) (DR.b (dr_c (fun _ => pe_int) fun _ _ => .int 1))) (de_and (dr_op (fun _ _ _ h1 h2 => pe_cmpR op_ge h1 h2 (nomark _)) (dop_i rfl (gd := fun i j => .bl (decide (j ≤ i))) fun _ _ => sc_bl) (dr_ix (K := K) (fun _ _ _ h1 h2 => pe_ix ix_seq h1 h2 fun _ _ => rfl) (dr_var fun _ => pv 0) (dr_c (fun _ => pe_int) fun _ _ => .int 1)) (DR.b (dr_c (fun _ => pe_int) fun _ _ => .int 1))) (de_one (de_call (fun _ _ h => DL.pe_cl cA hr (by omega) pass0 h) (DA.cons (dr_ix (K := K) (fun _ _ _ h1 h2 => pe_ix ix_seq h1 h2 fun _ _ => rfl) (dr_var fun _ => pv 0) (dr_c (fun _ => pe_int) fun _ _ => .int 2)) (DA.cons (DE.r (de_lst DA.nil)) DA.nil))))))))), fun rs n Qd h => ?_⟩
    obtain ⟨d, rfl, ⟨⟨ty, hd⟩, _, hds⟩, q⟩ := h
    have bad : jobD m d = false → Qd (.ro (.bl false)) n := fun e2 => by
      rw [e2] at q
      exact q
    refine ⟨d, rfl, d, ty, rfl, hd, _, rfl, isListD d, rfl, dB (fun el => dT (bad ?_)) fun el => ?_⟩
    · cases d with
      | lst ds => cases el
      | tup ds => cases el
      | _ => rfl
    · obtain ⟨ds, eds⟩ : ∃ ds, elemD d = some ds := by
        cases d with
        | lst ds => exact ⟨_, rfl⟩
        | tup ds => exact ⟨_, rfl⟩
        | _ => cases el
      obtain ⟨dl, hx⟩ := hds _ eds
      refine ⟨_, _, rfl, rfl, _, (elem_ty eds).2.2.2, _, 3, rfl, rfl, _, rfl, dB (fun e3 => dT (bad ?_)) fun e3 => ?_⟩
      · have : ds.length ≠ 3 := fun z => by rw [z] at e3; cases e3
        unfold jobD
        rw [eds]
        split
        · rename_i e; cases e; exact absurd rfl this
        · rfl
      · have l3 : ds.length = 3 := by
          have := of_decide_eq_true (show decide (((ds.length : Nat) : Int) = 3) = true by simpa using e3)
          omega
        obtain ⟨a, b, c, rfl⟩ : ∃ a b c, ds = [a, b, c] := by
          match ds, l3 with
          | [a, b, c], _ => exact ⟨a, b, c, rfl⟩
        obtain ⟨ta, ha⟩ := nice_ty (hx a (by simp))
        obtain ⟨tb, hb⟩ := nice_ty (hx b (by simp))
        have nc := hx c (by simp)
        refine ⟨d, rfl, _, 0, a, eds, rfl, rfl, a, ta, rfl, ha, _, rfl, isIntD a, rfl, dB (fun e4 => dT (bad ?_)) fun e4 => ?_⟩
        · unfold jobD
          rw [eds]
          cases a <;> first | rfl | cases e4
        · refine ⟨d, rfl, _, 1, b, eds, rfl, rfl, b, tb, rfl, hb, _, rfl, isIntD b, rfl, dB (fun e5 => bad ?_) fun e5 => ?_⟩
          · unfold jobD
            rw [eds]
            cases b <;> cases a <;> first | rfl | cases e5
          · obtain ⟨p, rfl⟩ : ∃ p, a = .int p := by
              cases a <;> first | exact ⟨_, rfl⟩ | cases e4
            obtain ⟨r, rfl⟩ : ∃ p, b = .int p := by
              cases b <;> first | exact ⟨_, rfl⟩ | cases e5
            have ev : jobD m d = (decide (1 ≤ p) && (decide (1 ≤ r) && areD m [] c)) := by
              unfold jobD
              rw [eds]
            rw [ev] at q
            refine ⟨d, rfl, _, 0, _, eds, rfl, rfl, p, 1, rfl, rfl, _, rfl, dB (fun e6 => ?_) fun e6 => ?_⟩
            · rw [e6] at q
              refine ⟨d, rfl, _, 1, _, eds, rfl, rfl, r, 1, rfl, rfl, _, rfl, dB (fun e7 => ?_) fun e7 => ?_⟩
              · rw [e7] at q
                exact ⟨d, rfl, _, 2, c, eds, rfl, rfl, [], rfl, (by decide), _, rfl, c, [], rfl, nc, (by simpa using hm), q⟩
              · rw [e7] at q
                exact q
            · rw [e6] at q
              exact q
end
end K59
/-! ## K59f -/
set_option Elab.async false
set_option linter.all false
set_option maxRecDepth 100000
set_option maxHeartbeats 4000000
/-! k59: moments. -/
namespace K59
open PySem PySem.Spec PyProof.Rows L2 DL
def goodI : Dt → Bool
  | .int i => decide (0 ≤ i)
  | _ => false
def gapsR (dist : Int) (is : List Int) : Bool := (List.range (is.length - 1)).all fun k => decide (dist ≤ is.getD (k + 1) 0 - is.getD k 0)
def momR (dist : Int) (d : Dt) : Bool := match elemD d with
  | some ds => ds.all goodI && gapsR dist (ds.map fun d => match d with | .int i => i | _ => 0)
  | none => false
/-- kinds known, of the elements too -/
def Flat2 (d : Dt) : Prop := (∃ ty, tyD d = some ty) ∧ True ∧ ∀ ds, elemD d = some ds → ds.length ≤ 1000 ∧ ∀ x ∈ ds, ∃ ty, tyD x = some ty
variable [Wd]
def cMoms : Ct := fun rs n Q _ => ∃ (d : Dt) (dist : Int), rs = [.ro d, .ro (.int dist)] ∧ Flat2 d ∧ Q (.ro (.bl (momR dist d))) n
section
variable {P : Program} {K : PySem.W.Frag} {mg : Str → Option Value} {base : Heap} {f g : Addr} {fd gd : FuncData}
theorem scMom : FnScope ["thing", "distance", "moment", "at"] ["thing", "distance"] (defScope sMoments) := ⟨rfl, rfl, rfl, by decide +kernel, rfl, by decide +kernel, by decide +kernel⟩
theorem ok_moms (F : Fun K "are_moments" "are_moments" sMoments f fd) (cI : DL.Cl P Wd.w K mg base CX0 1 "is_integer" (spC cInt)) (cL : DL.Cl P Wd.w K mg base CX0 1 "is_list" (spC cList)) (gL : mg "len" = none) (gA : mg "all" = none) (g_range : mg "range" = none) :
    FnOk P Wd.w K mg base CX0 2 f fd ["thing", "distance"] (spC cMoms) := by
  have l63 := sizeLine_eq
  refine okC F scMom (fun rs n Qd Xd h => ?_) (fun cdv A outer s H E Xd hr => ?_)
  · obtain ⟨d, dist, rfl, _⟩ := h
    rfl
  · refine ⟨_, (dss_cons (ds_if (DW.t (dw_or (dt_not (dt_val (DE.r (de_call (fun _ _ h => DL.pe_cl cL hr (by omega) pass0 h) (DA.cons (dr_var fun _ => pv 0) DA.nil))))) (dw_or1 (dt_not (dt_val (dr_cb1 (fun _ _ h => pe_callB (cr_all rfl) (by rfl) gA (by decide +kernel) h) dcall_all (DR.b (DE.r (de_lc (own := [("moment", 2)]) (fun _ => rfl) (fun _ => scMom.nd) (di_seq (K := K) (dr_var fun _ => pv 0) fun _ _ h => pi_seq h) (fun _ => blkOk_by (own := [("moment", 2)]) (N := ["thing", "distance", "moment", "at"]) (sc := defScope sMoments) (by decide +kernel)) (dg_name (i := 2) (fun _ => pg_name (i := 2) scMom.nd rfl (Or.inl rfl)) (by decide)) dts_nil (DE.r (de_and (DE.r (de_call (fun _ _ h => DL.pe_cl cI hr (by omega) pass0 h) (DA.cons (dr_var fun _ => pv 2) DA.nil))) (de_one (DR.e (dr_op (fun _ _ _ h1 h2 => pe_cmpR op_ge h1 h2 (nomark _)) (dop_i rfl (gd := fun i j => .bl (decide (j ≤ i))) fun _ _ => sc_bl) (dr_var fun _ => pv 2) (DR.b (dr_c (fun _ => pe_int) fun _ _ => .int 0)))))))))))))))) (dss_one (ds_ret (DR.e (dr_c (fun _ => pe_bl) fun _ _ => .bl false)))) dss_nil) (dss_one (ds_ret (DR.e (dr_cb1 (fun _ _ h => pe_callB (cr_all rfl) (by rfl) gA (by decide +kernel) h) dcall_all (DR.b (DE.r (de_lc (own := [("at", 3)]) (fun _ => rfl) (fun _ => scMom.nd) (di_range1 (DA.cons (dr_op (fun _ _ _ h1 h2 => pe_op op_sub h1 h2) (dop_i rfl (gd := fun i j => .int (i - j)) fun _ _ => sc_int) (dr_cb1 (fun _ _ h => pe_callB call_len (by rfl) gL PySem.boot_len h) dcall_len (db_var fun _ => pv 0)) (DR.b (dr_c (fun _ => pe_int) fun _ _ => .int 1))) DA.nil) fun _ _ h => pi_range1 (by rfl) g_range h) (fun _ => blkOk_by (own := [("at", 3)]) (N := ["thing", "distance", "moment", "at"]) (sc := defScope sMoments) (by decide +kernel)) (dg_name (i := 3) (fun _ => pg_name (i := 3) scMom.nd rfl (Or.inl rfl)) (by decide)) dts_nil (dr_op (fun _ _ _ h1 h2 => pe_cmpR op_ge h1 h2 (nomark _)) (dop_i rfl (gd := fun i j => .bl (decide (j ≤ i))) fun _ _ => sc_bl) (dr_op (fun _ _ _ h1 h2 => pe_op op_sub h1 h2) (dop_i rfl (gd := fun i j => .int (i - j)) fun _ _ => sc_int) (dr_ix (K := K) (fun _ _ _ h1 h2 => pe_ix ix_seq h1 h2 fun _ _ => rfl) (dr_var fun _ => pv 0) (dr_op (fun _ _ _ h1 h2 => pe_op op_add h1 h2) (dop_i rfl (gd := fun i j => .int (i + j)) fun _ _ => sc_int) (dr_var fun _ => pv 3) (DR.b (dr_c (fun _ => pe_int) fun _ _ => .int 1)))) (DR.b (dr_ix (K := K) (fun _ _ _ h1 h2 => pe_ix ix_seq h1 h2 fun _ _ => rfl) (dr_var fun _ => pv 0) (dr_var fun _ => pv 3)))) (DR.b (dr_var fun _ => pv 1))))))))))), fun rs n Qd h => ?_⟩
    obtain ⟨d, dist, rfl, ⟨⟨ty, hd⟩, _, hds⟩, q⟩ := h
    refine ⟨d, rfl, d, ty, rfl, hd, _, rfl, isListD d, rfl, dB (fun el => ?_) fun el => ?_⟩
    · have e : momR dist d = false := by
        cases d with
        | lst ds => cases el
        | tup ds => cases el
        | _ => rfl
      rw [e] at q
      exact dT q
    · obtain ⟨ds, eds⟩ : ∃ ds, elemD d = some ds := by
        cases d with
        | lst ds => exact ⟨_, rfl⟩
        | tup ds => exact ⟨_, rfl⟩
        | _ => cases el
      obtain ⟨dl, hx⟩ := hds _ eds
      have ev : momR dist d = (ds.all goodI && gapsR dist (ds.map fun d => match d with | .int i => i | _ => 0)) := by
        unfold momR
        rw [eds]
      refine ⟨d, rfl, ds, eds, ?_⟩
      refine dLc_go (fun ds' acc n' δ' => ∃ pre, n' = n ∧ δ' = [.ro d, .ro (.int dist), .no, .no] ∧ acc = (pre.map goodI).map Dt.bl ∧ ds = pre ++ ds') ?_ ?_ ⟨[], rfl, rfl, rfl, rfl⟩
      · rintro acc n' δ' ⟨pre, rfl, rfl, rfl, rfl⟩
        rw [List.append_nil] at ev dl hx eds
        refine ⟨_, rfl, pre.map goodI, rfl, _, rfl, dB (fun ea => ?_) fun ea => ?_⟩
        · have e : momR dist d = false := by
            rw [ev]
            have : pre.all goodI = false := by
              rw [List.all_map] at ea
              simpa using ea
            rw [this]
            rfl
          rw [e] at q
          exact q
        · have ga : pre.all goodI = true := by
            rw [List.all_map] at ea
            simpa using ea
          rw [ga, Bool.true_and] at ev
          have each : ∀ k, k < pre.length → ∃ i, pre[k]? = some (.int i) ∧ (pre.map fun d => match d with | .int i => i | _ => 0).getD k 0 = i := fun k hk => by
            have hg := List.all_eq_true.mp ga pre[k] (List.getElem_mem hk)
            cases q2 : pre[k] with
            | int i => exact ⟨i, by rw [List.getElem?_eq_getElem hk, q2], by simp [List.getD, hk, q2]⟩
            | _ => rw [q2] at hg; cases hg
          refine ⟨_, _, rfl, rfl, _, (elem_ty eds).2.2.2, _, 1, rfl, rfl, _, rfl, by omega, by omega, ?_⟩
          have em : (((pre.length : Nat) : Int) - 1).toNat = pre.length - 1 := by omega
          rw [em]
          generalize hm : pre.length - 1 = m at *
          refine dLc_go (fun ds' acc n2 δ' => ∃ k, k ≤ m ∧ n2 = n' ∧ δ' = [.ro d, .ro (.int dist), .no, .no] ∧ ds' = (rngD 0 m).drop k ∧ acc = ((List.range k).map fun k => decide (dist ≤ (pre.map fun d => match d with | .int i => i | _ => 0).getD (k + 1) 0 - (pre.map fun d => match d with | .int i => i | _ => 0).getD k 0)).map Dt.bl) ?_ ?_ ⟨0, by omega, rfl, rfl, rfl, rfl⟩
          · rintro acc n2 δ' ⟨k, hk, rfl, rfl, e, rfl⟩
            have ek : k = m := by
              have := congrArg List.length e
              simp [rngD] at this
              omega
            subst ek
            refine ⟨_, rfl, _, rfl, ?_⟩
            have e2 : momR dist d = List.all ((List.range k).map fun k => decide (dist ≤ (pre.map fun d => match d with | .int i => i | _ => 0).getD (k + 1) 0 - (pre.map fun d => match d with | .int i => i | _ => 0).getD k 0)) id := by
              rw [ev, List.all_map]
              unfold gapsR
              rw [List.length_map, hm]
              rfl
            rw [e2] at q
            exact q
          · rintro x r acc n2 δ' R hR ⟨k, hk, rfl, rfl, e, rfl⟩
            have kl : k < m := by
              have := congrArg List.length e
              simp [rngD] at this
              omega
            have e3 : (rngD 0 m).drop k = .int (0 + (k : Nat)) :: (rngD 0 m).drop (k + 1) := by
              rw [List.drop_eq_getElem_cons (by simp [rngD]; exact kl)]
              simp [rngD]
            rw [e3] at e
            injection e with e4 e5
            subst e4 e5
            obtain ⟨i, e6, e7⟩ := each k (by omega)
            obtain ⟨j, e8, e9⟩ := each (k + 1) (by omega)
            refine dT ⟨d, rfl, _, rfl, _, 1, rfl, rfl, pre, _, .int j, eds, rfl, ?_, d, rfl, _, rfl, pre, _, .int i, eds, rfl, ?_, j, i, rfl, rfl, _, rfl, _, _, rfl, rfl, ?_, hR _ _ _ ⟨k + 1, by omega, rfl, rfl, rfl, ?_⟩⟩
            · have : ((0 : Int) + (k : Nat) + 1) = ((k + 1 : Nat) : Int) := by omega
              rw [this]
              exact atI_nat e8
            · have : ((0 : Int) + (k : Nat)) = ((k : Nat) : Int) := by omega
              rw [this]
              exact atI_nat e6
            · simp
              omega
            · rw [List.range_succ, List.map_append, List.map_append]
              simp only [List.map_cons, List.map_nil]
              rw [e7, e9]
      · rintro x r acc n' δ' R hR ⟨pre, rfl, rfl, rfl, rfl⟩
        obtain ⟨tx, hxt⟩ := hx x (by simp)
        have nxt := hR ((pre.map goodI).map Dt.bl ++ [.bl (goodI x)]) n' [.ro d, .ro (.int dist), .no, .no] ⟨pre ++ [x], rfl, rfl, by simp, by simp⟩
        have hlen : ((pre.map goodI).map Dt.bl).length < sizeLine := by
          simp at dl ⊢
          omega
        refine dT ⟨x, rfl, x, tx, rfl, hxt, _, rfl, isIntD x, rfl, dB (fun e1 => ?_) fun e1 => ?_⟩
        · cases x with
          | int i => exact ⟨_, rfl, i, 0, rfl, rfl, _, rfl, hlen, nxt⟩
          | _ => cases e1
        · have eg : goodI x = false := by cases x <;> first | rfl | cases e1
          rw [eg] at nxt
          exact ⟨_, rfl, hlen, nxt⟩
end
end K59
/-! ## K59g -/
set_option Elab.async false
set_option linter.all false
set_option maxRecDepth 100000
set_option maxHeartbeats 4000000
/-! k59: units of bodies. -/
namespace K59
open PySem PySem.Spec PyProof.Rows L2 DL
abbrev sUnits : Stmt := tp 44
/-- bodies that the law draws -/
def Lawf : Nat → List Part → Prop
  | 0, _ => False
  | m + 1, ps => 1 ≤ ps.length ∧ ps.length ≤ 3 ∧ ∀ p ∈ ps, match p with
    | .unit k => 1 ≤ k ∧ k ≤ 3
    | .inn t b => wordT t = true ∧ Lawf m b
mutual
def unitsP : Part → List Dt → Nat → List Dt
  | .unit k, ar, _ => List.replicate k.toNat (.tup ar)
  | .inn t b, ar, i => unitsD b (ar ++ [.tup [.str t, .int ((ar.length : Nat) * 100 + (i : Nat) : Int)]]) 0
def unitsD : List Part → List Dt → Nat → List Dt
  | [], _, _ => []
  | p :: r, ar, i => unitsP p ar i ++ unitsD r ar (i + 1)
end
theorem unitsD_snoc : ∀ (ps : List Part) (p : Part) (ar : List Dt) (i : Nat), unitsD (ps ++ [p]) ar i = unitsD ps ar i ++ unitsP p ar (i + ps.length)
  | [], p, ar, i => by simp [unitsD]
  | q :: r, p, ar, i => by
    rw [List.cons_append, unitsD, unitsD, unitsD_snoc r p ar (i + 1), List.append_assoc, List.length_cons]
    have e : i + 1 + r.length = i + (r.length + 1) := by omega
    rw [e]
theorem units_len : ∀ (m : Nat) (ps : List Part), Lawf m ps → ∀ (ar : List Dt) (i : Nat), (unitsD ps ar i).length ≤ 3 ^ (m + 1)
  | 0, _, h => h.elim
  | m + 1, ps, ⟨_, l3, h⟩ => by
    intro ar
    have one : ∀ p ∈ ps, ∀ i, (unitsP p ar i).length ≤ 3 ^ (m + 1) := fun p hp i => by
      have hq := h p hp
      cases p with
      | unit k =>
        rw [unitsP, List.length_replicate]
        have : 3 ^ 1 ≤ 3 ^ (m + 1) := Nat.pow_le_pow_right (by decide) (by omega)
        have hq : 1 ≤ k ∧ k ≤ 3 := hq
        omega
      | inn t b =>
        rw [unitsP]
        exact units_len m b hq.2 _ 0
    have all : ∀ (qs : List Part), (∀ p ∈ qs, p ∈ ps) → ∀ i, (unitsD qs ar i).length ≤ qs.length * 3 ^ (m + 1) := by
      intro qs
      induction qs with
      | nil => intro _ i; simp [unitsD]
      | cons q r ih =>
        intro sub i
        rw [unitsD, List.length_append, List.length_cons, Nat.add_mul]
        have := one q (sub q List.mem_cons_self) i
        have := ih (fun p hp => sub p (List.mem_cons_of_mem _ hp)) (i + 1)
        omega
    intro i
    have := all ps (fun _ h => h) i
    have e : 3 ^ (m + 1 + 1) = 3 * 3 ^ (m + 1) := by rw [Nat.pow_succ, Nat.mul_comm]
    rw [e]
    exact Nat.le_trans this (Nat.mul_le_mul_right _ l3)
variable [Wd]
def cUnits (m : Nat) : Ct := fun rs n Q _ => ∃ (ps : List Part) (ar : List Dt), rs = [.ro (.tup (partsT ps)), .ro (.tup ar)] ∧ Lawf m ps ∧ ar.length + m ≤ 10 ∧ Q (.own (.lst (unitsD ps ar 0))) n
section
variable {P : Program} {K : PySem.W.Frag} {mg : Str → Option Value} {base : Heap} {f g : Addr} {fd gd : FuncData}
theorem scUnits : FnScope ["body", "around", "found", "number", "part"] ["body", "around"] (defScope sUnits) := ⟨rfl, rfl, rfl, by decide +kernel, rfl, by decide +kernel, by decide +kernel⟩
theorem ok_units (F : Fun K "_law_units" "_law_units" sUnits f fd) (S : Self P K mg "_law_units" f fd ["body", "around"]) (gL : mg "len" = none) (gI : mg "isinstance" = none) (g_int : mg "int" = none) (g_enum : mg "enumerate" = none) :
    ∀ m : Nat, m ≤ 8 → FnOk P Wd.w K mg base CX0 (m + 1) f fd ["body", "around"] (spC (cUnits m)) := by
  have l63 := sizeLine_eq
  intro m
  induction m with
  | zero =>
    intro _
    refine okC F scUnits (fun rs n Qd Xd h => ?_) (fun cdv A outer s H E Xd hr => ⟨_, never, fun rs n Qd h => ?_⟩) <;> obtain ⟨ps, ar, rfl, z, _⟩ := h
    · rfl
    · exact z
  | succ m ih =>
    intro hm
    have ih := ih (by omega)
    refine okC F scUnits (fun rs n Qd Xd h => ?_) (fun cdv A outer s H E Xd hr => ?_)
    · obtain ⟨ps, ar, rfl, _⟩ := h
      rfl
    · refine ⟨_, (dss_cons (ds_set (i := 2) (fun _ _ h => ps_set (i := 2) scUnits.nd rfl (Or.inl rfl) h) (de_lst DA.nil)) (dss_cons (ds_for (vs := [3, 4]) (fun _ => PassesOwn.never) (fun _ => rfl) (di_enum (K := K) (DA.cons (dr_var fun _ => pv 0) DA.nil) fun _ _ h => K01.pi_enum2 (by rfl) g_enum h) (dg_tup (K := K) (m := 2) (dgs_cons (dg_name (i := 3) (fun _ => pg_name (i := 3) scUnits.nd rfl (Or.inl rfl)) (by decide)) (dgs_cons (dg_name (i := 4) (fun _ => pg_name (i := 4) scUnits.nd rfl (Or.inl rfl)) (by decide)) dgs_nil)) (fun _ _ h => pg_tup (by rfl) h)) (dss_one (ds_if (dt_val (dr_isi (K := K) "int" (fun _ _ h => pe_callB call_isiZ (by rfl) gI (by decide +kernel) (pa_cons h (pa_cons (pe_bltn (v := .ty "int") (by rfl) g_int (by decide +kernel) rfl) pa_nil))) (db_var fun _ => pv 4))) (dss_one (ds_extend (K := K) (i := 2) (fun _ _ h => ps_expr (pe_bm PySem.F.plainAttrs_list PySem.F.slot_list_extend PySem.F.type_list_extend mt_extend (pv 2) (pa_cons h pa_nil))) (DE.r (de_op (fun _ _ _ h1 h2 => pe_op op_rep h1 h2) dop_rep (DE.r (de_lst (DA.cons (dr_var fun _ => pv 1) DA.nil))) (dr_var fun _ => pv 4))))) (dss_one (ds_extend (K := K) (i := 2) (fun _ _ h => ps_expr (pe_bm PySem.F.plainAttrs_list PySem.F.slot_list_extend PySem.F.type_list_extend mt_extend (pv 2) (pa_cons h pa_nil))) (DE.r (de_call (fun _ _ h => DL.pe_cl (S.cl ih) hr (by omega) pass0 h) (DA.cons (dr_ix (K := K) (fun _ _ _ h1 h2 => pe_ix ix_seq h1 h2 fun _ _ => rfl) (dr_var fun _ => pv 4) (dr_c (fun _ => pe_int) fun _ _ => .int 1)) (DA.cons (DE.r (de_op (fun _ _ _ h1 h2 => pe_op op_catA h1 h2) (dop_catA (K := K)) (dr_var fun _ => pv 1) (dr_tup (DA.cons (dr_tup (DA.cons (dr_ix (K := K) (fun _ _ _ h1 h2 => pe_ix ix_seq h1 h2 fun _ _ => rfl) (dr_var fun _ => pv 4) (dr_c (fun _ => pe_int) fun _ _ => .int 0)) (DA.cons (dr_op (fun _ _ _ h1 h2 => pe_op op_add h1 h2) (dop_i rfl (gd := fun i j => .int (i + j)) fun _ _ => sc_int) (dr_op (fun _ _ _ h1 h2 => pe_op op_mul h1 h2) (dop_int (C := CMul) (g := fun i j => .int (i * j)) (gd := fun i j => .int (i * j)) (fun _ _ _ _ h => h) fun _ _ => sc_int) (dr_cb1 (fun _ _ h => pe_callB call_len (by rfl) gL PySem.boot_len h) dcall_len (db_var fun _ => pv 1)) (DR.b (dr_c (fun _ => pe_int) fun _ _ => .int 100))) (DR.b (dr_var fun _ => pv 3))) DA.nil))) DA.nil)))) DA.nil))))))))) (dss_one (ds_retOwn (i := 2) fun _ => pv 2)))), fun rs n Qd h => ?_⟩
      obtain ⟨ps, ar, rfl, lw, hl, q⟩ := h
      have big := units_len (m + 1) ps lw ar 0
      have p9 : 3 ^ (m + 1 + 1) ≤ 3 ^ 9 := Nat.pow_le_pow_right (by decide) (by omega)
      obtain ⟨_, l3, hp⟩ := lw
      refine ⟨[], rfl, (by decide), _, rfl, partsT ps, .inr rfl, ?_⟩
      refine dFor_go (fun ds' n' δ' => ∃ pre ps' x3 x4, n' = n ∧ ps = pre ++ ps' ∧ ds' = ((partsT ps').zipIdx pre.length).map (fun p => .tup [.int (p.2 : Nat), p.1]) ∧ δ' = [.ro (.tup (partsT ps)), .ro (.tup ar), .own (.lst (unitsD pre ar 0)), x3, x4]) ?_ ?_ ⟨[], ps, .no, .no, rfl, rfl, rfl, rfl⟩
      · rintro n' δ' ⟨pre, ps', x3, x4, rfl, e, e2, rfl⟩
        have : ps' = [] := by
          cases ps' with
          | nil => rfl
          | cons p r => simp [partsT] at e2
        subst this
        rw [List.append_nil] at e
        subst e
        exact ⟨_, rfl, q⟩
      · rintro x r n' δ' R hR ⟨pre, ps', x3, x4, rfl, e, e2, rfl⟩
        cases ps' with
        | nil => simp [partsT] at e2
        | cons p ps' =>
          rw [partsT, List.zipIdx_cons, List.map_cons] at e2
          injection e2 with e3 e4
          subst e3 e4
          have hq := hp p (by rw [e]; simp)
          have lens : (unitsD (pre ++ [p]) ar 0).length ≤ 3 ^ 9 := by
            have e5 : unitsD ps ar 0 = unitsD (pre ++ [p]) ar 0 ++ unitsD ps' ar (pre.length + 1) := by
              rw [e]
              clear e hR hq
              have gen : ∀ (a : List Part) (i : Nat), unitsD (a ++ p :: ps') ar i = unitsD (a ++ [p]) ar i ++ unitsD ps' ar (i + a.length + 1) := by
                intro a
                induction a with
                | nil => intro i; simp [unitsD]
                | cons q r ih2 =>
                  intro i
                  rw [List.cons_append, unitsD, ih2 (i + 1), List.cons_append, unitsD, List.append_assoc, List.length_cons]
                  have e : i + 1 + r.length + 1 = i + (r.length + 1) + 1 := by omega
                  rw [e]
              have := gen pre 0
              rw [Nat.zero_add] at this
              exact this
            rw [e5, List.length_append] at big
            omega
          have nxt := hR n' [.ro (.tup (partsT ps)), .ro (.tup ar), .own (.lst (unitsD (pre ++ [p]) ar 0)), .ro (.int (pre.length : Nat)), .ro p.t] ⟨pre ++ [p], ps', _, _, rfl, by rw [e, List.append_assoc]; rfl, by rw [List.length_append]; rfl, rfl⟩
          rw [unitsD_snoc, Nat.zero_add] at nxt lens
          rw [List.length_append] at lens
          have n9 : 3 ^ 9 = 19683 := by decide
          refine ⟨_, rfl, rfl, _, _, rfl, _, _, rfl, rfl, ?_⟩
          cases p with
          | unit k =>
            have hq : 1 ≤ k ∧ k ≤ 3 := hq
            rw [Part.t] at nxt ⊢
            rw [unitsP] at nxt lens
            refine ⟨_, _, rfl, rfl, "int", true, rfl, by decide +kernel, true, rfl, dT ⟨⟨_, rfl⟩, _, rfl, [_], rfl, (by show 1 ≤ sizeLine; omega), _, rfl, _, rfl, _, k, rfl, rfl, by omega, by omega, by omega, _, rfl, _, _, rfl, rfl, ?_, nxt⟩⟩
            rw [List.length_replicate] at lens ⊢
            omega
          | inn t b =>
            rw [Part.t] at nxt ⊢
            rw [unitsP] at nxt lens
            refine ⟨_, _, rfl, rfl, "tuple", false, rfl, by decide +kernel, false, rfl, dF ⟨⟨_, rfl⟩, _, rfl, _, 1, _, rfl, rfl, rfl, _, rfl, _, rfl, _, 0, _, rfl, rfl, rfl, _, _, rfl, rfl, _, rfl, _, 100, rfl, rfl, .inl ⟨by omega, by omega⟩, _, rfl, _, _, rfl, rfl, [_, _], rfl, (by show 2 ≤ sizeLine; omega), [_], rfl, (by show 1 ≤ sizeLine; omega), _, _, rfl, rfl, ?_, _, rfl, b, _, rfl, hq.2, ?_, _, rfl, _, _, rfl, rfl, ?_, nxt⟩⟩
            · show ar.length + 1 ≤ sizeLine
              omega
            · rw [List.length_append]
              show ar.length + 1 + m ≤ 10
              omega
            · exact Nat.le_trans lens (by rw [l63]; decide)
end
end K59
/-! ## K59h -/
set_option Elab.async false
set_option linter.all false
set_option maxRecDepth 100000
set_option maxHeartbeats 4000000
/-! k59: the same with lists for tuples. -/
namespace K59
open PySem PySem.Spec PyProof.Rows L2 DL
abbrev sHanded : Stmt := tp 45
mutual
/-- the lists and tuples of a tree -/
def nodesD : Dt → Nat
  | .lst ds => 1 + nodesDs ds
  | .tup ds => 1 + nodesDs ds
  | _ => 0
def nodesDs : List Dt → Nat
  | [] => 0
  | d :: r => nodesD d + nodesDs r
end
mutual
inductive Hd : Dt → Dt → Prop
  | same {d : Dt} : elemD d = none → Hd d d
  | seq {d e : Dt} {ds es : List Dt} : elemD d = some ds → elemD e = some es → Hds ds es → Hd d e
inductive Hds : List Dt → List Dt → Prop
  | nil : Hds [] []
  | cons {d e : Dt} {ds es : List Dt} : Hd d e → Hds ds es → Hds (d :: ds) (e :: es)
end
theorem nodesDs_snoc : ∀ (ds : List Dt) (d : Dt), nodesDs (ds ++ [d]) = nodesDs ds + nodesD d
  | [], d => by simp [nodesDs]
  | x :: r, d => by simp [nodesDs, nodesDs_snoc r d]; omega
theorem nodesDs_app : ∀ (ds es : List Dt), nodesDs (ds ++ es) = nodesDs ds + nodesDs es
  | [], es => by simp [nodesDs]
  | x :: r, es => by simp [nodesDs, nodesDs_app r es]; omega
theorem Hds.snoc : ∀ {ds es : List Dt} {d e : Dt}, Hds ds es → Hd d e → Hds (ds ++ [d]) (es ++ [e])
  | _, _, _, _, .nil, h => .cons h .nil
  | _, _, _, _, .cons h1 h2, h => .cons h1 (Hds.snoc h2 h)
theorem Hds.len : ∀ {ds es : List Dt}, Hds ds es → ds.length = es.length
  | _, _, .nil => rfl
  | _, _, .cons _ r => congrArg Nat.succ (Hds.len r)
theorem nodes_of {d : Dt} {ds : List Dt} (e : elemD d = some ds) : nodesD d = 1 + nodesDs ds := by
  cases d <;> simp [elemD] at e <;> subst e <;> simp [nodesD]
theorem nodes_no {d : Dt} (e : elemD d = none) : nodesD d = 0 := by
  cases d <;> simp [elemD] at e <;> simp [nodesD]
variable [Wd]
def cHanded (m : Nat) : Ct := fun rs n Q _ => ∃ d, rs = [.pool, .ro d] ∧ Nice m d ∧ n + nodesD d ≤ 10000 ∧ ∀ e, Hd d e → Q (.ro e) (n + nodesD d)
section
variable {P : Program} {K : PySem.W.Frag} {mg : Str → Option Value} {base : Heap} {f g : Addr} {fd gd : FuncData}
theorem scHanded : FnScope ["pool", "thing", "some", "one"] ["pool", "thing"] (defScope sHanded) := ⟨rfl, rfl, rfl, by decide +kernel, rfl, by decide +kernel, by decide +kernel⟩
theorem ok_handed (F : Fun K "_law_handed" "_law_handed" sHanded f fd) (S : Self P K mg "_law_handed" f fd ["pool", "thing"]) (cT : DL.Cl P Wd.w K mg base CX0 1 "_law_take" (spC cTake)) (gI : mg "isinstance" = none) (g_list : mg "list" = none) (g_tuple : mg "tuple" = none) :
    ∀ m : Nat, FnOk P Wd.w K mg base CX0 (m + 2) f fd ["pool", "thing"] (spC (cHanded m)) := by
  have l63 := sizeLine_eq
  intro m
  induction m with
  | zero =>
    refine okC F scHanded (fun rs n Qd Xd h => ?_) (fun cdv A outer s H E Xd hr => ⟨_, never, fun rs n Qd h => ?_⟩) <;> obtain ⟨d, rfl, z, _⟩ := h
    · rfl
    · exact z
  | succ m ih =>
    refine okC F scHanded (fun rs n Qd Xd h => ?_) (fun cdv A outer s H E Xd hr => ?_)
    · obtain ⟨d, rfl, _⟩ := h
      rfl
    · refine ⟨_, (dss_cons (ds_if (dt_val (dr_isiT (K := K) ["list", "tuple"] (fun σ H Q h => ⟨by show 2 ≤ sizeLine; decide, h⟩) (fun _ _ h => pe_callB call_isiT (by rfl) gI (by decide +kernel) (pa_cons h (pa_cons (pe_tup (pa_cons (pe_bltn (v := .ty "list") (by rfl) g_list (by decide +kernel) rfl) (pa_cons (pe_bltn (v := .ty "tuple") (by rfl) g_tuple (by decide +kernel) rfl) pa_nil))) pa_nil))) (db_var fun _ => pv 1))) (dss_cons (ds_setLc (i := 2) (own := [("one", 3)]) (fun _ => rfl) (fun _ => scHanded.nd) (fun _ => rfl) (fun _ => rfl) (fun _ => sw_true rfl rfl rfl (by decide +kernel)) (di_seq (K := K) (dr_var fun _ => pv 1) fun _ _ h => pi_seq h) (fun _ => blkOk_by (own := [("one", 3)]) (N := ["pool", "thing", "some", "one"]) (sc := defScope sHanded) (by decide +kernel)) (dg_name (i := 3) (fun _ => pg_name (i := 3) scHanded.nd rfl (Or.inl rfl)) (by decide)) dts_nil (DE.r (de_call (fun _ _ h => DL.pe_cl (S.cl ih) hr (by omega) pass0 h) (DA.pool (de_pool fun _ => pv 0) (DA.cons (dr_var fun _ => pv 3) DA.nil))))) (dss_one (ds_ret (de_if (dt_op (fun _ _ _ h1 h2 => pt_cmpR op_eq h1 h2 (nomark _)) dop_eqI (DE.r (de_call (fun _ _ h => DL.pe_cl cT hr (by omega) pass0 h) (DA.pool (de_pool fun _ => pv 0) (DA.cons (dr_c (fun _ => pe_int) fun _ _ => .int 2) DA.nil)))) (DR.b (dr_c (fun _ => pe_int) fun _ _ => .int 0))) (DR.e (dr_rel fun _ => pv 2)) (DR.e (dr_tupOf (K := K) (fun _ _ h => pe_callTy call_tuple_of (by rfl) g_tuple (by decide +kernel) (pa_cons h pa_nil)) (db_var fun _ => pv 2))))))) dss_nil) (dss_one (ds_ret (DR.e (dr_var fun _ => pv 1))))), fun rs n Qd h => ?_⟩
      obtain ⟨d, rfl, ⟨⟨ty, hd⟩, _, hds⟩, hn, q⟩ := h
      refine ⟨d, .ro d, rfl, rfl, ty, (elemD d).isSome, hd, ?_, _, rfl, ?_⟩
      · rcases ty_cases hd with ⟨rfl, rfl⟩ | ⟨rfl, b, rfl⟩ | ⟨rfl, b, rfl⟩ | ⟨rfl, b, rfl⟩ | ⟨rfl, b, rfl⟩ | ⟨rfl, b, rfl⟩ | ⟨rfl, b, rfl⟩ <;> rfl
      · cases eds : elemD d with
        | none =>
          refine dF ⟨d, rfl, ?_⟩
          have := q d (.same eds)
          rw [nodes_no eds] at this
          exact this
        | some ds =>
          obtain ⟨dl, hx⟩ := hds _ eds
          have nd := nodes_of eds
          refine dT ⟨d, rfl, ds, eds, ?_⟩
          refine dLc_go (fun ds' acc n' δ' => ∃ pre, ds = pre ++ ds' ∧ Hds pre acc ∧ n' = n + nodesDs pre ∧ δ' = [.pool, .ro d, .no, .no]) ?_ ?_ ⟨[], rfl, .nil, rfl, rfl⟩
          · rintro acc n' δ' ⟨pre, e, hs, rfl, rfl⟩
            rw [List.append_nil] at e
            subst e
            refine ⟨rfl, rfl, _, rfl, by omega, by decide, by decide, fun r r0 r1 => ⟨_, rfl, r, 0, rfl, rfl, _, rfl, ?_⟩⟩
            have en : n + nodesDs ds + 1 = n + nodesD d := by omega
            refine dB (fun _ => ⟨acc, rfl, ?_⟩) fun _ => ⟨.lst acc, .own (.lst acc), rfl, rfl, acc, rfl, ?_⟩
            · rw [en]
              exact q (.lst acc) (.seq eds rfl hs)
            · rw [en]
              exact q (.tup acc) (.seq eds rfl hs)
          · rintro x r acc n' δ' R hR ⟨pre, e, hs, rfl, rfl⟩
            have e3 : nodesDs ds = nodesDs pre + nodesD x + nodesDs r := by
              rw [e, nodesDs_app, nodesDs]
              omega
            refine dT ⟨rfl, rfl, x, rfl, x, rfl, hx x (by rw [e]; simp), by omega, fun e' he => ⟨_, rfl, ?_, hR _ _ _ ⟨pre ++ [x], by rw [e, List.append_assoc]; rfl, hs.snoc he, by rw [nodesDs_snoc]; omega, rfl⟩⟩⟩
            have l1 := hs.len
            have l2 : pre.length ≤ 1000 := by
              rw [e, List.length_append] at dl
              omega
            omega
end
end K59
/-! ## K59i -/
set_option Elab.async false
set_option linter.all false
set_option maxRecDepth 100000
set_option maxHeartbeats 4000000
/-! k59: drawn bodies. -/
namespace K59
open PySem PySem.Spec PyProof.Rows L2 DL
abbrev sBody : Stmt := tp 42
/-- bodies of so many depths, of things -/
def Wf : Nat → List Str → List Part → Prop
  | 0, _, _ => False
  | m + 1, ts, ps => 1 ≤ ps.length ∧ ps.length ≤ 3 ∧ ∀ p ∈ ps, match p with
    | .unit k => 1 ≤ k ∧ k ≤ 3
    | .inn t b => t ∈ ts ∧ ∃ left : List Str, (∀ x ∈ left, x ∈ ts ∧ x ≠ t) ∧ Wf m left b
def bd : Nat → Nat
  | 0 => 0
  | m + 1 => 1 + 3 * (2 + bd m)
theorem word_ok {z : Str} (h : wordT z = true) : PyData.strOk z = true := by
  unfold wordT at h
  simp only [Bool.and_eq_true, decide_eq_true_eq, List.all_eq_true] at h
  have hl : ∀ c ∈ letters.cps.toList, c < 0x110000 := by decide +kernel
  unfold PyData.strOk
  rw [← Array.all_toList, List.all_eq_true]
  intro c hc
  exact decide_eq_true (hl c (h.2.2 c hc))
variable [Wd]
theorem ok_words {ts : List Str} (h : ∀ t ∈ ts, wordT t = true) : okD 64 (.lst (ts.map .str)) = true := by
  rw [okD_lst, List.all_eq_true]
  intro d hd
  obtain ⟨t, ht, rfl⟩ := List.mem_map.mp hd
  rw [okD, PyData.canLay0]
  exact word_ok (h t ht)
theorem dop_neS : DOpS rNe (fun d e Q => ∃ i j, d = .str i ∧ e = .str j ∧ Q (.bl (!decide (i = j)))) := fun A H v w d e Qd Q r1 r2 hF k => by
  obtain ⟨i, j, rfl, rfl, q⟩ := hF
  refine ⟨by rw [r1.str, r2.str]; rfl, ?_⟩
  rw [r1.str, r2.str]
  have e : (V.bl (!decide (V.str i = V.str j))) = .bl (!decide (i = j)) := by congr 2; simp
  rw [e]
  exact k _ _ sc_bl q
/-- a body of depths m, 3 - m deep already -/
def cBody (m : Nat) : Ct := fun rs n Q _ => ∃ (ts : List Str) (deep : Int), rs = [.pool, .ro (.lst (ts.map .str)), .ro (.int deep)] ∧ deep = 3 - m ∧ 1 ≤ m ∧ m ≤ 3 ∧ (m = 1 → ts = []) ∧ ts.length ≤ 3 ∧ (∀ t ∈ ts, wordT t = true) ∧ n + bd m ≤ 10000 ∧
  ∀ ps n', Wf m ts ps → n' ≤ n + bd m → Q (.ro (.tup (partsT ps))) n'
section
variable {P : Program} {K : PySem.W.Frag} {mg : Str → Option Value} {base : Heap} {f g : Addr} {fd gd : FuncData}
theorem scBody : FnScope ["pool", "things", "deep", "found", "k", "thing", "left", "one"] ["pool", "things", "deep"] (defScope sBody) := ⟨rfl, rfl, rfl, by decide +kernel, rfl, by decide +kernel, by decide +kernel⟩
theorem ok_body (F : Fun K "_law_body" "_law_body" sBody f fd) (S : Self P K mg "_law_body" f fd ["pool", "things", "deep"]) (cT : DL.Cl P Wd.w K mg base CX0 1 "_law_take" (spC cTake)) (cO : DL.Cl P Wd.w K mg base CX0 2 "_law_one" (spC cOne)) (g_range : mg "range" = none) (g_tuple : mg "tuple" = none) :
    ∀ m : Nat, FnOk P Wd.w K mg base CX0 (m + 3) f fd ["pool", "things", "deep"] (spC (cBody m)) := by
  have l63 := sizeLine_eq
  intro m
  induction m with
  | zero =>
    refine okC F scBody (fun rs n Qd Xd h => ?_) (fun cdv A outer s H E Xd hr => ⟨_, never, fun rs n Qd h => ?_⟩) <;> obtain ⟨ts, deep, rfl, _, z, _⟩ := h
    · rfl
    · omega
  | succ m ih =>
    refine okC F scBody (fun rs n Qd Xd h => ?_) (fun cdv A outer s H E Xd hr => ?_)
    · obtain ⟨ts, deep, rfl, _⟩ := h
      rfl
    · refine ⟨_, (dss_cons (ds_set (i := 3) (fun _ _ h => ps_set (i := 3) scBody.nd rfl (Or.inl rfl) h) (de_lst DA.nil)) (dss_cons (ds_for (vs := [4]) (fun _ => PassesOwn.never) (fun _ => rfl) (di_range1 (DA.cons (dr_op (fun _ _ _ h1 h2 => pe_op op_add h1 h2) (dop_i rfl (gd := fun i j => .int (i + j)) fun _ _ => sc_int) (dr_c (fun _ => pe_int) fun _ _ => .int 1) (DR.b (DE.r (de_call (fun _ _ h => DL.pe_cl cT hr (by omega) pass0 h) (DA.pool (de_pool fun _ => pv 0) (DA.cons (dr_op (fun _ _ _ h1 h2 => pe_op op_sub h1 h2) (dop_i rfl (gd := fun i j => .int (i - j)) fun _ _ => sc_int) (dr_c (fun _ => pe_int) fun _ _ => .int 3) (DR.b (dr_var fun _ => pv 2))) DA.nil)))))) DA.nil) fun _ _ h => pi_range1 (by rfl) g_range h) (dg_name (i := 4) (fun _ => pg_name (i := 4) scBody.nd rfl (Or.inl rfl)) (by decide)) (dss_one (ds_if (DW.t (dw_and (dt_opQ (fun _ _ _ h1 h2 => pt_cmpR (op_neD hr.units) h1 h2 (nomark _)) dop_ne (db_var fun _ => pv 1) dq_nil) (dw_and1 (dt_op (fun _ _ _ h1 h2 => pt_cmpR op_eq h1 h2 (nomark _)) dop_eqI (DE.r (de_call (fun _ _ h => DL.pe_cl cT hr (by omega) pass0 h) (DA.pool (de_pool fun _ => pv 0) (DA.cons (dr_c (fun _ => pe_int) fun _ _ => .int 2) DA.nil)))) (DR.b (dr_c (fun _ => pe_int) fun _ _ => .int 0)))))) (dss_cons (ds_set (i := 5) (fun _ _ h => ps_set (i := 5) scBody.nd rfl (Or.inr rfl) h) (de_call (fun _ _ h => DL.pe_cl cO hr (by omega) pass0 h) (DA.pool (de_pool fun _ => pv 0) (DA.cons (dr_var fun _ => pv 1) DA.nil)))) (dss_cons (ds_set (i := 6) (fun _ _ h => ps_set (i := 6) scBody.nd rfl (Or.inl rfl) h) (de_if (dt_op (fun _ _ _ h1 h2 => pt_cmpR op_lt h1 h2 (nomark _)) (dop_i rfl (gd := fun i j => .bl (decide (i < j))) fun _ _ => sc_bl) (dr_var fun _ => pv 2) (DR.b (dr_c (fun _ => pe_int) fun _ _ => .int 1))) (de_lc (own := [("one", 7)]) (fun _ => rfl) (fun _ => scBody.nd) (di_list (K := K) (dr_var fun _ => pv 1) fun _ _ h => pi_list h) (fun _ => blkOk_by (own := [("one", 7)]) (N := ["pool", "things", "deep", "found", "k", "thing", "left", "one"]) (sc := defScope sBody) (by decide +kernel)) (dg_name (i := 7) (fun _ => pg_name (i := 7) scBody.nd rfl (Or.inl rfl)) (by decide)) (dts_one (dt_op (fun _ _ _ h1 h2 => pt_cmpR op_ne h1 h2 (nomark _)) dop_neS (dr_var fun _ => pv 7) (DR.b (dr_var fun _ => pv 5)))) (dr_var fun _ => pv 7)) (de_lst DA.nil))) (dss_one (ds_append (K := K) (i := 3) (fun _ _ h => ps_expr (pe_bm PySem.F.plainAttrs_list PySem.F.slot_list_append PySem.F.type_list_append mt_append (pv 3) (pa_cons h pa_nil))) (dr_tup (DA.cons (dr_var fun _ => pv 5) (DA.cons (DE.r (de_call (fun _ _ h => DL.pe_cl (S.cl ih) hr (by omega) pass0 h) (DA.pool (de_pool fun _ => pv 0) (DA.cons (dr_rel fun _ => pv 6) (DA.cons (dr_op (fun _ _ _ h1 h2 => pe_op op_add h1 h2) (dop_i rfl (gd := fun i j => .int (i + j)) fun _ _ => sc_int) (dr_var fun _ => pv 2) (DR.b (dr_c (fun _ => pe_int) fun _ _ => .int 1))) DA.nil))))) DA.nil))))))) (dss_one (ds_append (K := K) (i := 3) (fun _ _ h => ps_expr (pe_bm PySem.F.plainAttrs_list PySem.F.slot_list_append PySem.F.type_list_append mt_append (pv 3) (pa_cons h pa_nil))) (dr_op (fun _ _ _ h1 h2 => pe_op op_add h1 h2) (dop_i rfl (gd := fun i j => .int (i + j)) fun _ _ => sc_int) (dr_c (fun _ => pe_int) fun _ _ => .int 1) (DR.b (DE.r (de_call (fun _ _ h => DL.pe_cl cT hr (by omega) pass0 h) (DA.pool (de_pool fun _ => pv 0) (DA.cons (dr_c (fun _ => pe_int) fun _ _ => .int 3) DA.nil))))))))))) (dss_one (ds_ret (DR.e (dr_tupOf (K := K) (fun _ _ h => pe_callTy call_tuple_of (by rfl) g_tuple (by decide +kernel) (pa_cons h pa_nil)) (db_var fun _ => pv 3))))))), fun rs n Qd h => ?_⟩
      obtain ⟨ts, deep, rfl, rfl, _, hm, hts, l3, wt, hn, q⟩ := h
      have ebd : bd (m + 1) = 1 + 3 * (2 + bd m) := rfl
      have ep : ∀ (pre : List Part) (p : Part), partsT pre ++ [p.t] = partsT (pre ++ [p]) := fun pre p => by simp [partsT_map]
      have lp : ∀ (pre : List Part), (partsT pre).length = pre.length := fun pre => by simp [partsT_map]
      refine ⟨[], rfl, by decide, rfl, rfl, _, rfl, 3, _, rfl, rfl, _, rfl, by omega, by omega, by omega, fun r r0 r1 => ⟨_, rfl, 1, r, rfl, rfl, _, rfl, by omega, by omega, ?_⟩⟩
      have r3 : (1 + r).toNat ≤ 3 := by omega
      have r1' : 1 ≤ (1 + r).toNat := by omega
      generalize hM : (1 + r).toNat = M at r3 r1' ⊢
      refine dFor_go (fun ds' n' δ' => ∃ k pre x4 x5 x6, k ≤ M ∧ ds' = (rngD 0 M).drop k ∧ pre.length = k ∧ (∀ p ∈ pre, match p with
          | .unit k => 1 ≤ k ∧ k ≤ 3
          | .inn t b => t ∈ ts ∧ ∃ left : List Str, (∀ x ∈ left, x ∈ ts ∧ x ≠ t) ∧ Wf m left b) ∧ n' ≤ n + 1 + k * (2 + bd m) ∧
          δ' = [.pool, .ro (.lst (ts.map .str)), .ro (.int (3 - ((m + 1 : Nat) : Int))), .own (.lst (partsT pre)), x4, x5, x6, .no]) ?_ ?_ ⟨0, [], .no, .no, .no, by omega, rfl, rfl, (fun p hp => by cases hp), by omega, rfl⟩
      · rintro n' δ' ⟨k, pre, x4, x5, x6, hk, e, lk, good, hn', rfl⟩
        have ek : k = M := by
          have := congrArg List.length e
          simp [rngD] at this
          omega
        subst ek
        have : k * (2 + bd m) ≤ 3 * (2 + bd m) := Nat.mul_le_mul_right _ r3
        exact ⟨_, _, rfl, rfl, _, rfl, q pre n' ⟨by omega, by omega, good⟩ (by omega)⟩
      · rintro x rr n' δ' R hR ⟨k, pre, x4, x5, x6, hk, e, lk, good, hn', rfl⟩
        have kl : k < M := by
          have := congrArg List.length e
          simp [rngD] at this
          omega
        have e3 : (rngD 0 M).drop k = .int (0 + (k : Nat)) :: (rngD 0 M).drop (k + 1) := by
          rw [List.drop_eq_getElem_cons (by simp [rngD]; exact kl)]
          simp [rngD]
        rw [e3] at e
        injection e with e4 e5
        subst e4 e5
        have hk3 : (k + 1) * (2 + bd m) ≤ 3 * (2 + bd m) := Nat.mul_le_mul_right _ (by omega)
        have hk4 : (k + 1) * (2 + bd m) = k * (2 + bd m) + (2 + bd m) := by rw [Nat.add_mul, Nat.one_mul]
        have lps := lp pre
        -- behind a part
        have nxt : ∀ (p : Part) (n2 : Nat) (y4 y5 y6 : Sl), (match p with
            | .unit k => 1 ≤ k ∧ k ≤ 3
            | .inn t b => t ∈ ts ∧ ∃ left : List Str, (∀ x ∈ left, x ∈ ts ∧ x ≠ t) ∧ Wf m left b) → n2 ≤ n' + (2 + bd m) →
            R n2 [.pool, .ro (.lst (ts.map .str)), .ro (.int (3 - ((m + 1 : Nat) : Int))), .own (.lst (partsT pre ++ [p.t])), y4, y5, y6, .no] := fun p n2 y4 y5 y6 hp h2 => by
          refine hR _ _ ⟨k + 1, pre ++ [p], y4, y5, y6, by omega, rfl, by rw [List.length_append, lk]; rfl, fun p' hp' => ?_, by omega, by rw [ep]⟩
          rcases List.mem_append.mp hp' with h | h
          · exact good p' h
          · rw [List.mem_singleton.mp h]
            exact hp
        -- a unit
        have els : ∀ (n2 : Nat), n2 ≤ n' + 1 → n2 ≤ 9999 → (∃ ds, ([Sl.pool, .ro (.lst (ts.map .str)), .ro (.int (3 - ((m + 1 : Nat) : Int))), .own (.lst (partsT pre)), .ro (.int (0 + (k : Nat))), x5, x6, .no] : List Sl)[3]? = some (.own (.lst ds))) := fun _ _ _ => ⟨_, rfl⟩
        have unit : ∀ r3 : Int, 0 ≤ r3 → r3 < 3 → ∀ n2, n2 ≤ n' + 1 → R (n2 + 1) [.pool, .ro (.lst (ts.map .str)), .ro (.int (3 - ((m + 1 : Nat) : Int))), .own (.lst (partsT pre ++ [.int (1 + r3)])), .ro (.int (0 + (k : Nat))), x5, x6, .no] := fun r3 a b n2 h2 =>
          nxt (.unit (1 + r3)) (n2 + 1) _ _ _ ⟨by omega, by omega⟩ (by omega)
        have okw := ok_words wt
        refine ⟨_, _, rfl, rfl, okw, rfl, _, rfl, ?_⟩
        rw [eqD_nil okw]
        cases hts' : ts with
        | nil =>
          subst hts'
          refine dF ?_
          refine dF ?_
          refine ⟨⟨_, rfl⟩, rfl, rfl, 3, rfl, by omega, by decide, by decide, fun r3 a b => ⟨_, rfl, 1, r3, rfl, rfl, _, rfl, ?_, unit r3 a b n' (by omega)⟩⟩
          omega
        | cons t0 tr =>
          rw [← hts']
          have ne : ts ≠ [] := by rw [hts']; exact fun z => by cases z
          have m1 : 1 ≤ m := by
            cases m with
            | zero => exact absurd (hts rfl) ne
            | succ m => omega
          have nemp : (!(List.map Dt.str ts).isEmpty) = true := by rw [hts']; rfl
          rw [nemp]
          refine dT ?_
          refine ⟨rfl, rfl, 2, rfl, by omega, by decide, by decide, fun r2 a2 b2 => ⟨_, rfl, r2, 0, rfl, rfl, _, rfl, dB (fun _ => ?_) fun _ => ?_⟩⟩
          · refine ⟨rfl, rfl, _, rfl, _, rfl, by omega, by rw [List.length_map]; exact List.length_pos_iff.mpr ne, by rw [List.length_map]; omega, fun d hd => ?_⟩
            obtain ⟨t, ht, rfl⟩ := List.mem_map.mp hd
            refine ⟨_, rfl, _, 1, rfl, rfl, _, rfl, dB (fun lt => ?_) fun lt => ?_⟩
            · refine ⟨_, rfl, _, rfl, ?_⟩
              have lt := of_decide_eq_true lt
              have m2 : m ≠ 1 := by omega
              refine dLc_go (fun ds' acc n2 δ' => ∃ pr rs' : List Str, ts = pr ++ rs' ∧ ds' = rs'.map .str ∧ acc = (pr.filter (fun s => !decide (s = t))).map .str ∧ n2 = n' + 1 + 1 ∧ δ' = [.pool, .ro (.lst (ts.map .str)), .ro (.int (3 - ((m + 1 : Nat) : Int))), .own (.lst (partsT pre)), .ro (.int (0 + (k : Nat))), .ro (.str t), x6, .no]) ?_ ?_ ⟨[], ts, rfl, rfl, rfl, rfl, rfl⟩
              · rintro acc n2 δ' ⟨pr, rs', e1, e2, rfl, rfl, rfl⟩
                have e3 : rs' = [] := by
                  cases rs' with
                  | nil => rfl
                  | cons _ _ => cases e2
                subst e3
                rw [List.append_nil] at e1
                subst e1
                have hL1 : ∀ x ∈ ts.filter (fun s => !decide (s = t)), x ∈ ts ∧ x ≠ t := fun x hx => by
                  obtain ⟨h1, h2⟩ := List.mem_filter.mp hx
                  exact ⟨h1, fun z => by rw [z] at h2; simp at h2⟩
                have hL2 : (ts.filter (fun s => !decide (s = t))).length ≤ 3 := Nat.le_trans (List.length_filter_le _ _) l3
                have hL3 : m = 1 → ts.filter (fun s => !decide (s = t)) = [] := fun z => absurd z m2
                refine ⟨⟨_, rfl⟩, _, rfl, rfl, rfl, _, rfl, _, rfl, _, 1, rfl, rfl, ts.filter (fun s => !decide (s = t)), _, rfl, by omega, m1, by omega, hL3, hL2, fun x hx => wt x (hL1 x hx).1, by omega, fun ps n3 wf le => ⟨_, rfl, [_, _], rfl, (by show 2 ≤ sizeLine; omega), _, rfl, ?_, nxt (.inn t ps) n3 _ _ _ ⟨ht, ts.filter (fun s => !decide (s = t)), hL1, wf⟩ (by omega)⟩⟩
                omega
              · rintro x rr acc n2 δ' R2 hR2 ⟨pr, rs', e1, e2, rfl, rfl, rfl⟩
                cases rs' with
                | nil => cases e2
                | cons s rs' =>
                  injection e2 with e3 e4
                  subst e3 e4
                  have nx2 := hR2 (((pr ++ [s]).filter (fun s => !decide (s = t))).map .str) (n' + 1 + 1) _ ⟨pr ++ [s], rs', by rw [e1, List.append_assoc]; rfl, rfl, rfl, rfl, rfl⟩
                  rw [List.filter_append, List.map_append] at nx2
                  refine ⟨_, rfl, _, rfl, s, t, rfl, rfl, _, rfl, dB (fun h => ⟨_, rfl, ?_, ?_⟩) fun h => ?_⟩
                  · have : pr.length ≤ 3 := by
                      rw [e1, List.length_append] at l3
                      omega
                    have h2 := List.length_filter_le (fun s => !decide (s = t)) pr
                    rw [List.length_map]
                    omega
                  · rw [List.filter_cons_of_pos (p := fun s => !decide (s = t)) h] at nx2
                    exact nx2
                  · have h2 : ¬ (!decide (s = t)) = true := by rw [h]; exact Bool.false_ne_true
                    rw [List.filter_cons_of_neg (p := fun s => !decide (s = t)) h2] at nx2
                    rw [List.filter_nil, List.map_nil, List.append_nil] at nx2
                    exact nx2
            · refine ⟨[], rfl, by decide, ?_⟩
              have hL1 : ∀ x ∈ ([] : List Str), x ∈ ts ∧ x ≠ t := fun x hx => by cases hx
              have hL2 : ([] : List Str).length ≤ 3 := by decide
              have hL3 : m = 1 → ([] : List Str) = [] := fun _ => rfl
              refine ⟨⟨_, rfl⟩, _, rfl, rfl, rfl, _, rfl, _, rfl, _, 1, rfl, rfl, ([] : List Str), _, rfl, by omega, m1, by omega, hL3, hL2, fun x hx => wt x (hL1 x hx).1, by omega, fun ps n3 wf le => ⟨_, rfl, [_, _], rfl, (by show 2 ≤ sizeLine; omega), _, rfl, ?_, nxt (.inn t ps) n3 _ _ _ ⟨ht, ([] : List Str), hL1, wf⟩ (by omega)⟩⟩
              omega
          · refine ⟨⟨_, rfl⟩, rfl, rfl, 3, rfl, by omega, by decide, by decide, fun r3 a b => ⟨_, rfl, 1, r3, rfl, rfl, _, rfl, ?_, unit r3 a b (n' + 1) (by omega)⟩⟩
            omega
end
end K59
/-! ## K59j -/
set_option Elab.async false
set_option linter.all false
set_option maxRecDepth 100000
set_option maxHeartbeats 4000000
/-! k59: _law_same of two that are the same. -/
namespace K59
open PySem PySem.Spec PyProof.Rows L2 DL
abbrev sSame : Stmt := tp 41
/-- data whose leaves are told apart by == -/
def Tell : Nat → Dt → Prop
  | 0, _ => False
  | m + 1, d => match d with
    | .non => True
    | .bl _ => True
    | .int _ => True
    | .str z => PyData.strOk z = true
    | .lst ds => ds.length ≤ 1000 ∧ ∀ x ∈ ds, Tell m x
    | .tup ds => ds.length ≤ 1000 ∧ ∀ x ∈ ds, Tell m x
    | .dic ks => ks = []
    | _ => False
variable [Wd]
def cSame (m : Nat) : Ct := fun rs n Q _ => ∃ d, rs = [.ro d, .ro d] ∧ Tell m d ∧ Q (.ro (.bl true)) n
theorem all_true (k : Nat) : (List.replicate k true).all id = true := by
  rw [List.all_eq_true]
  intro b hb
  rw [(List.mem_replicate.mp hb).2]
  rfl
section
variable {P : Program} {K : PySem.W.Frag} {mg : Str → Option Value} {base : Heap} {f g : Addr} {fd gd : FuncData}
theorem scSame : FnScope ["found", "due", "one", "other"] ["found", "due"] (defScope sSame) := ⟨rfl, rfl, rfl, by decide +kernel, rfl, by decide +kernel, by decide +kernel⟩
theorem ok_same (F : Fun K "_law_same" "_law_same" sSame f fd) (S : Self P K mg "_law_same" f fd ["found", "due"]) (gI : mg "isinstance" = none) (g_list : mg "list" = none) (g_tuple : mg "tuple" = none) (g_int : mg "int" = none) (g_bool : mg "bool" = none) (g_zip : mg "zip" = none) (gL : mg "len" = none) (gA : mg "all" = none) :
    ∀ m : Nat, FnOk P Wd.w K mg base CX0 (m + 1) f fd ["found", "due"] (spC (cSame m)) := by
  have l63 := sizeLine_eq
  intro m
  induction m with
  | zero =>
    refine okC F scSame (fun rs n Qd Xd h => ?_) (fun cdv A outer s H E Xd hr => ⟨_, never, fun rs n Qd h => ?_⟩) <;> obtain ⟨d, rfl, z, _⟩ := h
    · rfl
    · exact z
  | succ m ih =>
    refine okC F scSame (fun rs n Qd Xd h => ?_) (fun cdv A outer s H E Xd hr => ?_)
    · obtain ⟨d, rfl, _⟩ := h
      rfl
    · refine ⟨_, (dss_cons (ds_if (dt_val (dr_isiT (K := K) ["list", "tuple"] (fun σ H Q h => ⟨by show 2 ≤ sizeLine; decide, h⟩) (fun _ _ h => pe_callB call_isiT (by rfl) gI (by decide +kernel) (pa_cons h (pa_cons (pe_tup (pa_cons (pe_bltn (v := .ty "list") (by rfl) g_list (by decide +kernel) rfl) (pa_cons (pe_bltn (v := .ty "tuple") (by rfl) g_tuple (by decide +kernel) rfl) pa_nil))) pa_nil))) (db_var fun _ => pv 1))) (dss_cons (ds_if (DW.t (dw_or (dt_op (fun _ _ _ h1 h2 => pt_cmpR op_ne h1 h2 (nomark _)) dop_neB (dr_isi (K := K) "list" (fun _ _ h => pe_callB call_isiZ (by rfl) gI (by decide +kernel) (pa_cons h (pa_cons (pe_bltn (v := .ty "list") (by rfl) g_list (by decide +kernel) rfl) pa_nil))) (db_var fun _ => pv 0)) (DR.b (dr_isi (K := K) "list" (fun _ _ h => pe_callB call_isiZ (by rfl) gI (by decide +kernel) (pa_cons h (pa_cons (pe_bltn (v := .ty "list") (by rfl) g_list (by decide +kernel) rfl) pa_nil))) (db_var fun _ => pv 1)))) (dw_or1 (dt_op (fun _ _ _ h1 h2 => pt_cmpR op_ne h1 h2 (nomark _)) dop_neB (dr_isi (K := K) "tuple" (fun _ _ h => pe_callB call_isiZ (by rfl) gI (by decide +kernel) (pa_cons h (pa_cons (pe_bltn (v := .ty "tuple") (by rfl) g_tuple (by decide +kernel) rfl) pa_nil))) (db_var fun _ => pv 0)) (DR.b (dr_isi (K := K) "tuple" (fun _ _ h => pe_callB call_isiZ (by rfl) gI (by decide +kernel) (pa_cons h (pa_cons (pe_bltn (v := .ty "tuple") (by rfl) g_tuple (by decide +kernel) rfl) pa_nil))) (db_var fun _ => pv 1))))))) (dss_one (ds_ret (DR.e (dr_c (fun _ => pe_bl) fun _ _ => .bl false)))) dss_nil) (dss_cons (ds_if (dt_op (fun _ _ _ h1 h2 => pt_cmpR op_ne h1 h2 (nomark _)) dop_neI (dr_cb1 (fun _ _ h => pe_callB call_len (by rfl) gL PySem.boot_len h) dcall_len (db_var fun _ => pv 0)) (DR.b (dr_cb1 (fun _ _ h => pe_callB call_len (by rfl) gL PySem.boot_len h) dcall_len (db_var fun _ => pv 1)))) (dss_one (ds_ret (DR.e (dr_c (fun _ => pe_bl) fun _ _ => .bl false)))) dss_nil) (dss_one (ds_ret (DR.e (dr_cb1 (fun _ _ h => pe_callB (cr_all rfl) (by rfl) gA (by decide +kernel) h) dcall_all (DR.b (DE.r (de_lc (own := [("one", 2), ("other", 3)]) (fun _ => rfl) (fun _ => scSame.nd) (di_zipA (K := K) (DA.cons (dr_var fun _ => pv 0) (DA.cons (dr_var fun _ => pv 1) DA.nil)) fun _ _ h => RZ.pi_zipA (by rfl) g_zip h) (fun _ => blkOk_by (own := [("one", 2), ("other", 3)]) (N := ["found", "due", "one", "other"]) (sc := defScope sSame) (by decide +kernel)) (dg_tup (K := K) (m := 2) (dgs_cons (dg_name (i := 2) (fun _ => pg_name (i := 2) scSame.nd rfl (Or.inl rfl)) (by decide)) (dgs_cons (dg_name (i := 3) (fun _ => pg_name (i := 3) scSame.nd rfl (Or.inl rfl)) (by decide)) dgs_nil)) (fun _ _ h => pg_tup (by rfl) h)) dts_nil (DE.r (de_call (fun _ _ h => DL.pe_cl (S.cl ih) hr (by omega) pass0 h) (DA.cons (dr_var fun _ => pv 2) (DA.cons (dr_var fun _ => pv 3) DA.nil))))))))))))) dss_nil) (dss_cons (ds_if (dt_val (dr_isi (K := K) "int" (fun _ _ h => pe_callB call_isiZ (by rfl) gI (by decide +kernel) (pa_cons h (pa_cons (pe_bltn (v := .ty "int") (by rfl) g_int (by decide +kernel) rfl) pa_nil))) (db_var fun _ => pv 1))) (dss_one (ds_ret (de_and (dr_isi (K := K) "int" (fun _ _ h => pe_callB call_isiZ (by rfl) gI (by decide +kernel) (pa_cons h (pa_cons (pe_bltn (v := .ty "int") (by rfl) g_int (by decide +kernel) rfl) pa_nil))) (db_var fun _ => pv 0)) (de_and (dr_op (fun _ _ _ h1 h2 => pe_cmpR op_eq h1 h2 (nomark _)) dop_eqB (dr_isi (K := K) "bool" (fun _ _ h => pe_callB call_isiZ (by rfl) gI (by decide +kernel) (pa_cons h (pa_cons (pe_bltn (v := .ty "bool") (by rfl) g_bool (by decide +kernel) rfl) pa_nil))) (db_var fun _ => pv 0)) (DR.b (dr_isi (K := K) "bool" (fun _ _ h => pe_callB call_isiZ (by rfl) gI (by decide +kernel) (pa_cons h (pa_cons (pe_bltn (v := .ty "bool") (by rfl) g_bool (by decide +kernel) rfl) pa_nil))) (db_var fun _ => pv 1)))) (de_one (DR.e (dr_op (fun _ _ _ h1 h2 => pe_cmpR (op_eqS hr.units) h1 h2 (nomark _)) dop_eqS (dr_var fun _ => pv 0) (DR.b (dr_var fun _ => pv 1))))))))) dss_nil) (dss_one (ds_ret (de_and (dr_not (dr_isiT (K := K) ["int", "list", "tuple"] (fun σ H Q h => ⟨by show 3 ≤ sizeLine; decide, h⟩) (fun _ _ h => pe_callB call_isiT (by rfl) gI (by decide +kernel) (pa_cons h (pa_cons (pe_tup (pa_cons (pe_bltn (v := .ty "int") (by rfl) g_int (by decide +kernel) rfl) (pa_cons (pe_bltn (v := .ty "list") (by rfl) g_list (by decide +kernel) rfl) (pa_cons (pe_bltn (v := .ty "tuple") (by rfl) g_tuple (by decide +kernel) rfl) pa_nil)))) pa_nil))) (db_var fun _ => pv 0))) (de_one (DR.e (dr_op (fun _ _ _ h1 h2 => pe_cmpR (op_eqS hr.units) h1 h2 (nomark _)) dop_eqS (dr_var fun _ => pv 0) (DR.b (dr_var fun _ => pv 1)))))))))), fun rs n Qd h => ?_⟩
      obtain ⟨d, rfl, tl, q⟩ := h
      -- the walk over both
      have bits : ∀ (ds : List Dt) (k : Nat), k ≤ ds.length → (zipD ds ds).drop k = (ds.drop k).map fun d => .tup [d, d] := fun ds k hk => by
        have : zipD ds ds = ds.map fun d => .tup [d, d] := by simp [zipD, List.zipWith_self]
        rw [this, List.map_drop]
      have rep1 : ∀ k : Nat, ((List.replicate k true).map Dt.bl) ++ [Dt.bl true] = (List.replicate (k + 1) true).map Dt.bl := fun k => by
        rw [List.replicate_succ', List.map_append]
        rfl
      cases d with
      | non => exact ⟨_, _, rfl, rfl, "NoneType", false, rfl, rfl, _, rfl, dF ⟨_, _, rfl, rfl, "NoneType", false, rfl, by decide +kernel, _, rfl, dF ⟨_, _, rfl, rfl, "NoneType", false, rfl, rfl, _, rfl, true, rfl, dT ⟨_, rfl, _, rfl, .inl ⟨rfl, rfl, q⟩⟩⟩⟩⟩
      | bl b =>
        have e : eqD (.bl b) (.bl b) = true := by simp [eqD, datD, PyData.eqv]
        refine ⟨_, _, rfl, rfl, "bool", false, rfl, rfl, _, rfl, dF ⟨_, _, rfl, rfl, "bool", true, rfl, by decide +kernel, _, rfl, dT ⟨_, _, rfl, rfl, "bool", true, rfl, by decide +kernel, true, rfl, dT ⟨_, _, rfl, rfl, "bool", true, rfl, by decide +kernel, _, _, rfl, rfl, "bool", true, rfl, by decide +kernel, true, true, rfl, rfl, true, rfl, dT ⟨_, rfl, _, rfl, .inl ⟨rfl, rfl, ?_⟩⟩⟩⟩⟩⟩
        rw [e]
        exact q
      | int i =>
        have e : eqD (.int i) (.int i) = true := by simp [eqD, datD, PyData.eqv]
        refine ⟨_, _, rfl, rfl, "int", false, rfl, rfl, _, rfl, dF ⟨_, _, rfl, rfl, "int", true, rfl, by decide +kernel, _, rfl, dT ⟨_, _, rfl, rfl, "int", true, rfl, by decide +kernel, true, rfl, dT ⟨_, _, rfl, rfl, "int", false, rfl, by decide +kernel, _, _, rfl, rfl, "int", false, rfl, by decide +kernel, false, false, rfl, rfl, true, rfl, dT ⟨_, rfl, _, rfl, .inl ⟨rfl, rfl, ?_⟩⟩⟩⟩⟩⟩
        rw [e]
        exact q
      | str z =>
        have e : eqD (.str z) (.str z) = true := by simp [eqD, datD, PyData.eqv]
        refine ⟨_, _, rfl, rfl, "str", false, rfl, rfl, _, rfl, dF ⟨_, _, rfl, rfl, "str", false, rfl, by decide +kernel, _, rfl, dF ⟨_, _, rfl, rfl, "str", false, rfl, rfl, _, rfl, true, rfl, dT ⟨_, rfl, _, rfl, .inl ⟨tl, tl, ?_⟩⟩⟩⟩⟩
        rw [e]
        exact q
      | dic ks =>
        obtain rfl : ks = [] := tl
        exact ⟨_, _, rfl, rfl, "dict", false, rfl, rfl, _, rfl, dF ⟨_, _, rfl, rfl, "dict", false, rfl, by decide +kernel, _, rfl, dF ⟨_, _, rfl, rfl, "dict", false, rfl, rfl, _, rfl, true, rfl, dT ⟨_, rfl, _, rfl, .inr ⟨rfl, rfl, q⟩⟩⟩⟩⟩
      | lst ds =>
        obtain ⟨dl, hx⟩ := (tl : ds.length ≤ 1000 ∧ ∀ x ∈ ds, Tell m x)
        refine ⟨_, _, rfl, rfl, "list", true, rfl, rfl, _, rfl, dT ?_⟩
        refine ⟨_, _, rfl, rfl, "list", true, rfl, by decide +kernel, _, _, rfl, rfl, "list", true, rfl, by decide +kernel, true, true, rfl, rfl, _, rfl, ?_⟩
        refine dF ?_
        refine ⟨_, _, rfl, rfl, "list", false, rfl, by decide +kernel, _, _, rfl, rfl, "list", false, rfl, by decide +kernel, false, false, rfl, rfl, _, rfl, ?_⟩
        refine dF ?_
        refine ⟨_, _, rfl, rfl, _, rfl, _, _, rfl, rfl, _, rfl, _, _, rfl, rfl, _, rfl, ?_⟩
        refine dB (fun z => absurd z (by simp)) fun _ => ?_
        refine ⟨_, rfl, _, rfl, ds, ds, .inl rfl, ?_⟩
        refine dLc_go (fun ds' acc n' δ' => ∃ k, k ≤ ds.length ∧ ds' = (zipD ds ds).drop k ∧ acc = (List.replicate k true).map Dt.bl ∧ n' = n ∧ δ' = [.ro (.lst ds), .ro (.lst ds), .no, .no]) ?_ ?_ ⟨0, Nat.zero_le _, rfl, rfl, rfl, rfl⟩
        · rintro acc n' δ' ⟨k, hk, e, rfl, rfl, rfl⟩
          refine ⟨_, rfl, _, rfl, ?_⟩
          rw [all_true]
          exact q
        · rintro x r acc n' δ' R hR ⟨k, hk, e, rfl, rfl, rfl⟩
          rw [bits ds k hk] at e
          have kl : k < ds.length := by
            have := congrArg List.length e
            simp at this
            omega
          rw [List.drop_eq_getElem_cons kl, List.map_cons] at e
          injection e with e1 e2
          subst e1 e2
          refine ⟨_, rfl, rfl, _, _, rfl, _, _, rfl, rfl, ?_⟩
          refine dT ⟨_, rfl, _, rfl, _, rfl, hx _ (List.getElem_mem kl), _, rfl, ?_, ?_⟩
          · rw [List.length_map, List.length_replicate]
            omega
          · rw [rep1]
            exact hR _ _ _ ⟨k + 1, kl, (bits ds (k + 1) kl).symm, rfl, rfl, rfl⟩
      | tup ds =>
        obtain ⟨dl, hx⟩ := (tl : ds.length ≤ 1000 ∧ ∀ x ∈ ds, Tell m x)
        refine ⟨_, _, rfl, rfl, "tuple", true, rfl, rfl, _, rfl, dT ?_⟩
        refine ⟨_, _, rfl, rfl, "tuple", false, rfl, by decide +kernel, _, _, rfl, rfl, "tuple", false, rfl, by decide +kernel, false, false, rfl, rfl, _, rfl, ?_⟩
        refine dF ?_
        refine ⟨_, _, rfl, rfl, "tuple", true, rfl, by decide +kernel, _, _, rfl, rfl, "tuple", true, rfl, by decide +kernel, true, true, rfl, rfl, _, rfl, ?_⟩
        refine dF ?_
        refine ⟨_, _, rfl, rfl, _, rfl, _, _, rfl, rfl, _, rfl, _, _, rfl, rfl, _, rfl, ?_⟩
        refine dB (fun z => absurd z (by simp)) fun _ => ?_
        refine ⟨_, rfl, _, rfl, ds, ds, .inr rfl, ?_⟩
        refine dLc_go (fun ds' acc n' δ' => ∃ k, k ≤ ds.length ∧ ds' = (zipD ds ds).drop k ∧ acc = (List.replicate k true).map Dt.bl ∧ n' = n ∧ δ' = [.ro (.tup ds), .ro (.tup ds), .no, .no]) ?_ ?_ ⟨0, Nat.zero_le _, rfl, rfl, rfl, rfl⟩
        · rintro acc n' δ' ⟨k, hk, e, rfl, rfl, rfl⟩
          refine ⟨_, rfl, _, rfl, ?_⟩
          rw [all_true]
          exact q
        · rintro x r acc n' δ' R hR ⟨k, hk, e, rfl, rfl, rfl⟩
          rw [bits ds k hk] at e
          have kl : k < ds.length := by
            have := congrArg List.length e
            simp at this
            omega
          rw [List.drop_eq_getElem_cons kl, List.map_cons] at e
          injection e with e1 e2
          subst e1 e2
          refine ⟨_, rfl, rfl, _, _, rfl, _, _, rfl, rfl, ?_⟩
          refine dT ⟨_, rfl, _, rfl, _, rfl, hx _ (List.getElem_mem kl), _, rfl, ?_, ?_⟩
          · rw [List.length_map, List.length_replicate]
            omega
          · rw [rep1]
            exact hR _ _ _ ⟨k + 1, kl, (bits ds (k + 1) kl).symm, rfl, rfl, rfl⟩
      | _ => exact tl.elim
end
end K59
/-! ## K59k -/
set_option Elab.async false
set_option linter.all false
set_option maxRecDepth 100000
set_option maxHeartbeats 4000000
/-! k59: jobs() and known_job. -/
namespace K59
open PySem PySem.Spec PyProof.Rows L2 DL
abbrev sJobsC : Stmt := tp 29
abbrev sJobsM : Stmt := inClass sJobsC 2
abbrev sKnown : Stmt := tp 30
/-- an instance of Jobs -/
def jobsT (C : Addr) (tb cs ce : List (Key × Dt)) : Dt := .ins C [("_table", .dic tb), ("_costs", .dic cs), ("_ceilings", .dic ce), ("spans", .any), ("kept", .any)]
/-- keys that are texts, each once -/
def KeysOk (tb : List (Key × Dt)) (ks : List Str) : Prop := tb.map (·.1) = ks.map Sum.inr ∧ ks.Nodup ∧ ks.length ≤ 60
structure TJ (K : PySem.W.Frag) (C : Addr) : Prop where
  cl : L2.Cls K C
  n1 : NoAttr K C "_table"
  n2 : NoAttr K C "_costs"
  n3 : NoAttr K C "_ceilings"
variable [Wd]
structure Mth (P : Program) (w : World) (K : PySem.W.Frag) (mg : Str → Option Value) (base : Heap) (CX : CXT) (k : Nat) (C : Addr) (m : Str) (f : Addr) (fd : FuncData) (ps : List Str) (sp : Sp) : Prop where
  cl : L2.Cls K C
  me : Meth K C m f
  fn : FnOk P w K mg base CX k f fd ps sp
  bi : Binds K fd ps []
def cJobs (C : Addr) : Ct := fun rs n Q _ => ∃ tb cs ce ks, rs = [.ro (jobsT C tb cs ce)] ∧ KeysOk tb ks ∧ Q (.own (.dic tb)) n
def cKnown (C CN : Addr) : Ct := fun rs n Q X => ∃ tb cs ce ks d ty, rs = [.ro (jobsT C tb cs ce), .ro d] ∧ KeysOk tb ks ∧ tyD d = some ty ∧ ((∃ z ∈ ks, d = .str z ∧ Q (.ro d) n) ∨ ((∀ z ∈ ks, d ≠ .str z) ∧ X CN "job" d n))
theorem valD_at {pre : List (Key × Dt)} {k : Key} {x : Dt} {r : List (Key × Dt)} (h : k ∉ pre.map (·.1)) : valD (pre ++ (k, x) :: r) k = some x := by
  induction pre with
  | nil => simp [valD]
  | cons p pre ih =>
    obtain ⟨k0, d0⟩ := p
    have h1 : k0 ≠ k := fun z => h (by rw [z]; simp)
    simp only [List.cons_append, valD, h1, if_false]
    exact ih fun z => h (List.mem_cons_of_mem _ z)
theorem putD_new {pre : List (Key × Dt)} {k : Key} {x : Dt} (h : k ∉ pre.map (·.1)) : putD pre k x = pre ++ [(k, x)] := by
  unfold putD
  rw [if_neg]
  rw [List.any_eq_true]
  rintro ⟨p, hp, e⟩
  exact h (List.mem_map.mpr ⟨p, hp, of_decide_eq_true e⟩)
theorem valD_some {ks : List Str} : ∀ {tb : List (Key × Dt)}, tb.map (·.1) = ks.map Sum.inr → ∀ z, (valD tb (.inr z)).isSome = decide (z ∈ ks) := by
  induction ks with
  | nil =>
    intro tb h z
    cases tb with
    | nil => simp [valD]
    | cons _ _ => cases h
  | cons k ks ih =>
    intro tb h z
    cases tb with
    | nil => cases h
    | cons p tb =>
      obtain ⟨k0, d0⟩ := p
      injection h with h1 h2
      have h1 : k0 = Sum.inr k := h1
      subst h1
      simp only [valD]
      by_cases e : k = z
      · subst e
        simp
      · rw [if_neg (fun q => e (Sum.inr.inj q)), ih h2 z]
        have e2 : (z ∈ k :: ks) ↔ z ∈ ks := ⟨fun h => (List.mem_cons.mp h).resolve_left fun q => e q.symm, List.mem_cons_of_mem _⟩
        rw [decide_eq_decide]
        exact e2.symm
section
variable {P : Program} {K : PySem.W.Frag} {mg : Str → Option Value} {base : Heap} {f g : Addr} {fd gd : FuncData} {C CN : Addr}
theorem scJobs : FnScope ["self", "job"] ["self"] (defScope sJobsM) := ⟨rfl, rfl, rfl, by decide +kernel, rfl, by decide +kernel, by decide +kernel⟩
theorem ok_jobs (F : Fun K "jobs" "Jobs.jobs" sJobsM f fd) (tj : TJ K C) : FnOk P Wd.w K mg base CX0 2 f fd ["self"] (spC (cJobs C)) := by
  have l63 := sizeLine_eq
  refine okC F scJobs (fun rs n Qd Xd h => ?_) (fun cdv A outer s H E Xd hr => ?_)
  · obtain ⟨tb, cs, ce, ks, rfl, _⟩ := h
    rfl
  · refine ⟨_, (dss_one (ds_ret (de_dc (own := [("job", 1)]) (fun _ => rfl) (fun _ => scJobs.nd) (di_keys (dr_fld (K := K) (f := "_table") (fun _ _ h => pe_fld h rfl) (dr_var fun _ => pv 0)) fun _ _ h => pi_keys h) (fun _ => blkOk_by (own := [("job", 1)]) (N := ["self", "job"]) (sc := defScope sJobsM) (by decide +kernel)) (dg_name (i := 1) (fun _ => pg_name (i := 1) scJobs.nd rfl (Or.inl rfl)) (by decide)) dts_nil (dr_var fun _ => pv 1) (dr_dget (fun _ _ _ h1 h2 => pe_dget (hu_of hr) h1 h2 fun _ _ => rfl) (dr_fld (K := K) (f := "_table") (fun _ _ h => pe_fld h rfl) (dr_var fun _ => pv 0)) (dr_var fun _ => pv 1))))), fun rs n Qd h => ?_⟩
    obtain ⟨tb, cs, ce, ks, rfl, ⟨hk, nd, hl⟩, q⟩ := h
    refine ⟨_, rfl, C, _, .dic tb, rfl, tj.cl, tj.n1, rfl, tb, rfl, ?_⟩
    have len : tb.length ≤ 60 := by
      have := congrArg List.length hk
      simp at this
      omega
    have ndk : (tb.map (·.1)).Nodup := by
      rw [hk]
      exact List.Pairwise.map _ (fun a b (h : a ≠ b) z => h (Sum.inr.inj z)) nd
    refine dDc_go (fun ds' acc n' δ' => ∃ rest, tb = acc ++ rest ∧ ds' = rest.map (fun p => keyT p.1) ∧ n' = n ∧ δ' = [.ro (jobsT C tb cs ce), .no]) ?_ ?_ ⟨tb, rfl, rfl, rfl, rfl⟩
    · rintro acc n' δ' ⟨rest, e, e2, rfl, rfl⟩
      have : rest = [] := by
        cases rest with
        | nil => rfl
        | cons _ _ => cases e2
      subst this
      rw [List.append_nil] at e
      subst e
      exact q
    · rintro x r acc n' δ' R hR ⟨rest, e, e2, rfl, rfl⟩
      cases rest with
      | nil => cases e2
      | cons p rest =>
        obtain ⟨k, d⟩ := p
        injection e2 with e3 e4
        subst e3 e4
        have nk : k ∉ acc.map (·.1) := fun z => by
          rw [e, List.map_append, List.nodup_append] at ndk
          exact ndk.2.2 _ z k (by simp) rfl
        have hv : valD tb k = some d := by
          rw [e]
          exact valD_at nk
        have ek : keyD (keyT k) = some k := by cases k <;> rfl
        refine dT ⟨_, rfl, _, rfl, C, _, .dic tb, rfl, tj.cl, tj.n1, rfl, _, rfl, tb, k, d, rfl, ek, hv, k, ek, ?_, ?_⟩
        · rw [e, List.length_append] at len
          omega
        · rw [putD_new nk]
          exact hR _ _ _ ⟨rest, by rw [e, List.append_assoc]; rfl, rfl, rfl, rfl⟩
theorem scKnown : FnScope ["jobs", "job"] ["jobs", "job"] (defScope sKnown) := ⟨rfl, rfl, rfl, by decide +kernel, rfl, by decide +kernel, by decide +kernel⟩
theorem ok_known (F : Fun K "known_job" "known_job" sKnown f fd) (M : Mth P Wd.w K mg base CX0 2 C "jobs" g gd ["self"] (spC (cJobs C))) (T : ErrK.Err P Wd.w K mg base "NoJob" "job" CN) (gI : mg "isinstance" = none) (g_str : mg "str" = none) :
    FnOk P Wd.w K mg base (L2.CX P Wd.w) 4 f fd ["jobs", "job"] (spC (cKnown C CN)) := by
  refine okCX F scKnown (fun rs n Qd Xd h => ?_) (fun cdv A outer s H E Xd hr => ?_)
  · obtain ⟨tb, cs, ce, ks, d, ty, rfl, _⟩ := h
    rfl
  · refine ⟨_, (dss_cons (ds_if (DW.t (dw_or (dt_not (dt_val (dr_isi (K := K) "str" (fun _ _ h => pe_callB call_isiZ (by rfl) gI (by decide +kernel) (pa_cons h (pa_cons (pe_bltn (v := .ty "str") (by rfl) g_str (by decide +kernel) rfl) pa_nil))) (db_var fun _ => pv 1)))) (dw_or1 (dt_dnotin (fun _ _ _ h1 h2 => pt_cmp (pc_dnotin (hu_of hr) h1 h2)) (dr_var fun _ => pv 1) (DR.b (DE.z (de_meth0 (fun _ _ h => pe_meth0 h M.cl M.me (M.fn.mono (by omega)) hr M.bi .nil pass0) (dr_var fun _ => pv 0)))))))) (dss_one (ds_raise (fun _ _ h => ps_raise rfl (takes_of rfl rfl rfl rfl) (ErrK.pmk_err T (hr.mono (by omega)) h)) (dr_var fun _ => pv 1))) dss_nil) (dss_one (ds_ret (DR.e (dr_var fun _ => pv 1))))), fun rs n Qd h => ?_⟩
    obtain ⟨tb, cs, ce, ks, d, ty, rfl, ko, hd, h⟩ := h
    have isS : ∃ b, kitB ty "str" = some b ∧ (b = true → ∃ z, d = .str z) ∧ (b = false → ∀ z, d ≠ .str z) := by
      rcases ty_cases hd with ⟨rfl, rfl⟩ | ⟨rfl, b, rfl⟩ | ⟨rfl, b, rfl⟩ | ⟨rfl, b, rfl⟩ | ⟨rfl, b, rfl⟩ | ⟨rfl, b, rfl⟩ | ⟨rfl, b, rfl⟩
      · exact ⟨false, by decide +kernel, (fun z => by cases z), fun _ z q => by cases q⟩
      · exact ⟨false, by decide +kernel, (fun z => by cases z), fun _ z q => by cases q⟩
      · exact ⟨false, by decide +kernel, (fun z => by cases z), fun _ z q => by cases q⟩
      · exact ⟨true, by decide +kernel, (fun _ => ⟨_, rfl⟩), fun z => by cases z⟩
      · exact ⟨false, by decide +kernel, (fun z => by cases z), fun _ z q => by cases q⟩
      · exact ⟨false, by decide +kernel, (fun z => by cases z), fun _ z q => by cases q⟩
      · exact ⟨false, by decide +kernel, (fun z => by cases z), fun _ z q => by cases q⟩
    obtain ⟨b, kb, b1, b2⟩ := isS
    refine ⟨d, .ro d, rfl, rfl, ty, b, tyZ_of hd, kb, _, rfl, dB (fun e => ?_) fun e => ?_⟩
    · have e : b = false := by simpa using e
      refine dT ⟨_, rfl, ?_⟩
      rcases h with ⟨z, _, e2, _⟩ | ⟨_, x⟩
      · exact absurd e2 (b2 e z)
      · exact x
    · have e : b = true := by simpa using e
      obtain ⟨z, rfl⟩ := b1 e
      refine ⟨_, rfl, _, rfl, _, rfl, rfl, tb, cs, ce, ks, rfl, ko, _, rfl, tb, .inr z, rfl, rfl, ?_⟩
      rw [valD_some ko.1 z]
      rcases h with ⟨y, hy, e2, q⟩ | ⟨no, x⟩
      · cases e2
        rw [decide_eq_true hy]
        exact dF ⟨_, rfl, q⟩
      · rw [decide_eq_false (fun hz => no z hz rfl)]
        exact dT ⟨_, rfl, x⟩
end
end K59
/-! ## K59l -/
set_option Elab.async false
set_option linter.all false
set_option maxRecDepth 100000
set_option maxHeartbeats 4000000
/-! k59: cost, ceiling. -/
namespace K59
open PySem PySem.Spec PyProof.Rows L2 DL
abbrev sCost : Stmt := inClass sJobsC 3
abbrev sCeil : Stmt := inClass sJobsC 4
variable [Wd]
def cCost (C CN : Addr) : Ct := fun rs n Q X => ∃ tb cs ce ks d ty, rs = [.ro (jobsT C tb cs ce), .ro d] ∧ KeysOk tb ks ∧ tyD d = some ty ∧ ((∃ z ∈ ks, ∃ x, d = .str z ∧ valD cs (.inr z) = some x ∧ Q (.ro x) n) ∨ ((∀ z ∈ ks, d ≠ .str z) ∧ X CN "job" d n))
def cCeil (C CN : Addr) : Ct := fun rs n Q X => ∃ (tb cs ce : List (Key × Dt)) (ks : List Str) (d : Dt) (ty : String), rs = [.ro (jobsT C tb cs ce), .ro d] ∧ ce.map (·.1) = ks.map Sum.inr ∧ tyD d = some ty ∧ ((∃ z ∈ ks, ∃ x, d = .str z ∧ valD ce (.inr z) = some x ∧ Q (.ro x) n) ∨ ((∀ z ∈ ks, d ≠ .str z) ∧ X CN "thing" d n))
section
variable {P : Program} {K : PySem.W.Frag} {mg : Str → Option Value} {base : Heap} {f g : Addr} {fd gd : FuncData} {C CN : Addr}
theorem scCost : FnScope ["self", "job"] ["self", "job"] (defScope sCost) := ⟨rfl, rfl, rfl, by decide +kernel, rfl, by decide +kernel, by decide +kernel⟩
theorem ok_cost (F : Fun K "cost" "Jobs.cost" sCost f fd) (tj : TJ K C) (cK : DL.Cl P Wd.w K mg base (L2.CX P Wd.w) 4 "known_job" (spC (cKnown C CN))) : FnOk P Wd.w K mg base (L2.CX P Wd.w) 5 f fd ["self", "job"] (spC (cCost C CN)) := by
  refine okCX F scCost (fun rs n Qd Xd h => ?_) (fun cdv A outer s H E Xd hr => ?_)
  · obtain ⟨tb, cs, ce, ks, d, ty, rfl, _⟩ := h
    rfl
  · refine ⟨_, (dss_one (ds_ret (DR.e (dr_dget (fun _ _ _ h1 h2 => pe_dget (hu_of hr) h1 h2 fun _ _ => rfl) (dr_fld (K := K) (f := "_costs") (fun _ _ h => pe_fld h rfl) (dr_var fun _ => pv 0)) (DE.r (de_callX (fun _ _ h => DL.pe_cl cK hr (by omega) (passes_call (takes_of rfl rfl rfl rfl) fun _ _ _ _ h => h) h) (DA.cons (dr_var fun _ => pv 0) (DA.cons (dr_var fun _ => pv 1) DA.nil)))))))), fun rs n Qd h => ?_⟩
    obtain ⟨tb, cs, ce, ks, d, ty, rfl, ko, hd, h⟩ := h
    refine ⟨_, rfl, C, _, .dic cs, rfl, tj.cl, tj.n2, rfl, _, rfl, d, rfl, tb, cs, ce, ks, d, ty, rfl, ko, hd, ?_⟩
    rcases h with ⟨z, hz, x, rfl, ex, q⟩ | ⟨no, x⟩
    · exact .inl ⟨z, hz, rfl, _, rfl, cs, .inr z, x, rfl, rfl, ex, q⟩
    · exact .inr ⟨no, x⟩
theorem isStr {d : Dt} {ty : String} (hd : tyD d = some ty) : ∃ b, kitB ty "str" = some b ∧ (b = true → ∃ z, d = .str z) ∧ (b = false → ∀ z, d ≠ .str z) := by
  rcases ty_cases hd with ⟨rfl, rfl⟩ | ⟨rfl, b, rfl⟩ | ⟨rfl, b, rfl⟩ | ⟨rfl, b, rfl⟩ | ⟨rfl, b, rfl⟩ | ⟨rfl, b, rfl⟩ | ⟨rfl, b, rfl⟩
  · exact ⟨false, by decide +kernel, (fun z => by cases z), fun _ z q => by cases q⟩
  · exact ⟨false, by decide +kernel, (fun z => by cases z), fun _ z q => by cases q⟩
  · exact ⟨false, by decide +kernel, (fun z => by cases z), fun _ z q => by cases q⟩
  · exact ⟨true, by decide +kernel, (fun _ => ⟨_, rfl⟩), fun z => by cases z⟩
  · exact ⟨false, by decide +kernel, (fun z => by cases z), fun _ z q => by cases q⟩
  · exact ⟨false, by decide +kernel, (fun z => by cases z), fun _ z q => by cases q⟩
  · exact ⟨false, by decide +kernel, (fun z => by cases z), fun _ z q => by cases q⟩
theorem scCeil : FnScope ["self", "thing"] ["self", "thing"] (defScope sCeil) := ⟨rfl, rfl, rfl, by decide +kernel, rfl, by decide +kernel, by decide +kernel⟩
theorem ok_ceil (F : Fun K "ceiling" "Jobs.ceiling" sCeil f fd) (tj : TJ K C) (T : ErrK.Err P Wd.w K mg base "NoThing" "thing" CN) (gI : mg "isinstance" = none) (g_str : mg "str" = none) : FnOk P Wd.w K mg base (L2.CX P Wd.w) 4 f fd ["self", "thing"] (spC (cCeil C CN)) := by
  refine okCX F scCeil (fun rs n Qd Xd h => ?_) (fun cdv A outer s H E Xd hr => ?_)
  · obtain ⟨tb, cs, ce, ks, d, ty, rfl, _⟩ := h
    rfl
  · refine ⟨_, (dss_cons (ds_if (DW.t (dw_or (dt_not (dt_val (dr_isi (K := K) "str" (fun _ _ h => pe_callB call_isiZ (by rfl) gI (by decide +kernel) (pa_cons h (pa_cons (pe_bltn (v := .ty "str") (by rfl) g_str (by decide +kernel) rfl) pa_nil))) (db_var fun _ => pv 1)))) (dw_or1 (dt_dnotin (fun _ _ _ h1 h2 => pt_cmp (pc_dnotin (hu_of hr) h1 h2)) (dr_var fun _ => pv 1) (DR.b (dr_fld (K := K) (f := "_ceilings") (fun _ _ h => pe_fld h rfl) (dr_var fun _ => pv 0))))))) (dss_one (ds_raise (fun _ _ h => ps_raise rfl (takes_of rfl rfl rfl rfl) (ErrK.pmk_err T (hr.mono (by omega)) h)) (dr_var fun _ => pv 1))) dss_nil) (dss_one (ds_ret (DR.e (dr_dget (fun _ _ _ h1 h2 => pe_dget (hu_of hr) h1 h2 fun _ _ => rfl) (dr_fld (K := K) (f := "_ceilings") (fun _ _ h => pe_fld h rfl) (dr_var fun _ => pv 0)) (dr_var fun _ => pv 1)))))), fun rs n Qd h => ?_⟩
    obtain ⟨tb, cs, ce, ks, d, ty, rfl, ko, hd, h⟩ := h
    obtain ⟨b, kb, b1, b2⟩ := isStr hd
    refine ⟨d, .ro d, rfl, rfl, ty, b, tyZ_of hd, kb, _, rfl, dB (fun e => ?_) fun e => ?_⟩
    · have e : b = false := by simpa using e
      refine dT ⟨_, rfl, ?_⟩
      rcases h with ⟨z, _, x, e2, _⟩ | ⟨_, x⟩
      · exact absurd e2 (b2 e z)
      · exact x
    · have e : b = true := by simpa using e
      obtain ⟨z, rfl⟩ := b1 e
      refine ⟨_, rfl, _, rfl, C, _, .dic ce, rfl, tj.cl, tj.n3, rfl, ce, .inr z, rfl, rfl, ?_⟩
      rw [valD_some ko z]
      rcases h with ⟨y, hy, x, e2, ex, q⟩ | ⟨no, x⟩
      · cases e2
        rw [decide_eq_true hy]
        exact dF ⟨_, rfl, C, _, .dic ce, rfl, tj.cl, tj.n3, rfl, _, rfl, ce, .inr z, x, rfl, rfl, ex, q⟩
      · rw [decide_eq_false (fun hz => no z hz rfl)]
        exact dT ⟨_, rfl, x⟩
end
end K59
/-! ## K59m -/
set_option Elab.async false
set_option linter.all false
set_option maxRecDepth 100000
set_option maxHeartbeats 4000000
/-! k59: checked_comings. -/
namespace K59
open PySem PySem.Spec PyProof.Rows L2 DL
abbrev sCC : Stmt := tp 32
/-- a dict's entries -/
def entsD : Dt → Option (List (Dt × Dt))
  | .dic kvs => some (kvs.map fun p => (keyT p.1, p.2))
  | .mix kvs => some kvs
  | _ => none
/-- the distance of a job -/
def distD (tb : List (Key × Dt)) (z : Str) : Option Int := match valD tb (.inr z) with
  | some (.tup [_, .int q, _]) => some q
  | _ => none
/-- a coming that is right -/
def RightC (tb : List (Key × Dt)) (ks : List Str) (p : Dt × Dt) : Prop := ∃ z q, z ∈ ks ∧ p.1 = .str z ∧ distD tb z = some q ∧ Flat2 p.2 ∧ momR q p.2 = true
def WrongC (tb : List (Key × Dt)) (ks : List Str) (p : Dt × Dt) : Prop := (∃ ty, tyD p.1 = some ty) ∧ ((∀ z ∈ ks, p.1 ≠ .str z) ∨ ∃ z q, z ∈ ks ∧ p.1 = .str z ∧ distD tb z = some q ∧ Flat2 p.2 ∧ momR q p.2 = false)
theorem room16 {j : Nat} {A : Around} (hr : Room j A) : A.units + 16 < cLine := by
  have := hr.units
  omega
variable [Wd]
def cCC (C CB : Addr) : Ct := fun rs n Q X => ∃ tb cs ce ks d, rs = [.ro (jobsT C tb cs ce), .ro d] ∧ KeysOk tb ks ∧
  ((∃ ty, tyD d = some ty ∧ ty ≠ "dict" ∧ X CB "job" .non n) ∨
   (∃ (es good : List (Dt × Dt)) (p : Dt × Dt) (rest : List (Dt × Dt)), d = .mix es ∧ es.length ≤ 1000 ∧ es = good ++ p :: rest ∧ (∀ g ∈ good, RightC tb ks g) ∧ WrongC tb ks p ∧ X CB "job" p.1 n) ∨
   ∃ (kvs : List (Key × Dt)) (js : List Str), d = .dic kvs ∧ kvs.map (·.1) = js.map Sum.inr ∧ js.Nodup ∧ js.length ≤ 60 ∧ (∀ p ∈ kvs, RightC tb ks (keyT p.1, p.2)) ∧
     ∀ (out : List (Key × Dt)) (ys : List Str), ys.Perm js → out = ys.map (fun z => ((Sum.inr z : Key), Dt.lst (((valD kvs (.inr z)).bind elemD).getD []))) → Q (.own (.dic out)) n)
section
variable {P : Program} {K : PySem.W.Frag} {mg : Str → Option Value} {base : Heap} {f g : Addr} {fd gd : FuncData} {C CB : Addr}
theorem scCC : FnScope ["jobs", "comings", "table", "job"] ["jobs", "comings"] (defScope sCC) := ⟨rfl, rfl, rfl, by decide +kernel, rfl, by decide +kernel, by decide +kernel⟩
theorem ok_cc (F : Fun K "checked_comings" "checked_comings" sCC f fd) (M : Mth P Wd.w K mg base CX0 2 C "jobs" g gd ["self"] (spC (cJobs C))) (cM : DL.Cl P Wd.w K mg base CX0 2 "are_moments" (spC cMoms)) (T : ErrK.Err P Wd.w K mg base "BadComings" "job" CB) (gI : mg "isinstance" = none) (g_str : mg "str" = none) (g_dict : mg "dict" = none) (g_list : mg "list" = none) (g_sorted : mg "sorted" = none) :
    FnOk P Wd.w K mg base (L2.CX P Wd.w) 4 f fd ["jobs", "comings"] (spC (cCC C CB)) := by
  have l63 := sizeLine_eq
  refine okCX F scCC (fun rs n Qd Xd h => ?_) (fun cdv A outer s H E Xd hr => ?_)
  · obtain ⟨tb, cs, ce, ks, d, rfl, _⟩ := h
    rfl
  · refine ⟨_, (dss_cons (ds_if (dt_not (dt_val (dr_isi (K := K) "dict" (fun _ _ h => pe_callB call_isiZ (by rfl) gI (by decide +kernel) (pa_cons h (pa_cons (pe_bltn (v := .ty "dict") (by rfl) g_dict (by decide +kernel) rfl) pa_nil))) (db_var fun _ => pv 1)))) (dss_one (ds_raise (fun _ _ h => ps_raise rfl (takes_of rfl rfl rfl rfl) (ErrK.pmk_err T (hr.mono (by omega)) h)) (dr_c (fun _ => pe_non) fun _ _ => .non))) dss_nil) (dss_cons (ds_set (i := 2) (fun _ _ h => ps_set (i := 2) scCC.nd rfl (Or.inl rfl) h) (de_meth0 (fun _ _ h => pe_meth0 h M.cl M.me (M.fn.mono (by omega)) hr M.bi .nil pass0) (dr_var fun _ => pv 0))) (dss_cons (ds_for (vs := [3]) (fun _ => passes_of rfl) (fun _ => rfl) (di_keysX (dr_var fun _ => pv 1) fun _ _ h => K01.pi_keysX h) (dg_name (i := 3) (fun _ => pg_name (i := 3) scCC.nd rfl (Or.inl rfl)) (by decide)) (dss_one (ds_if (DW.t (dw_or (dt_not (dt_val (dr_isi (K := K) "str" (fun _ _ h => pe_callB call_isiZ (by rfl) gI (by decide +kernel) (pa_cons h (pa_cons (pe_bltn (v := .ty "str") (by rfl) g_str (by decide +kernel) rfl) pa_nil))) (db_var fun _ => pv 3)))) (dw_or (dt_dnotin (fun _ _ _ h1 h2 => pt_cmp (pc_dnotin (hu_of hr) h1 h2)) (dr_var fun _ => pv 3) (db_var fun _ => pv 2)) (dw_or1 (dt_not (dt_val (DE.r (de_call (fun _ _ h => DL.pe_cl cM hr (by omega) pass0 h) (DA.cons (dr_dgetX (fun _ _ _ h1 h2 => K01.pe_dgetX2 (room16 hr) h1 h2 fun _ _ => rfl) (dr_var fun _ => pv 1) (dr_var fun _ => pv 3)) (DA.cons (dr_ix (K := K) (fun _ _ _ h1 h2 => pe_ix ix_seq h1 h2 fun _ _ => rfl) (dr_dgetB (fun _ _ _ h1 h2 => pe_dget (hu_of hr) h1 h2 fun _ _ => rfl) (db_var fun _ => pv 2) (dq_var fun _ => pv 3)) (dr_c (fun _ => pe_int) fun _ _ => .int 1)) DA.nil)))))))))) (dss_one (ds_raise (fun _ _ h => ps_raise rfl (takes_of rfl rfl rfl rfl) (ErrK.pmk_err T (hr.mono (by omega)) h)) (dr_var fun _ => pv 3))) dss_nil))) (dss_one (ds_ret (de_dc (own := [("job", 3)]) (fun _ => rfl) (fun _ => scCC.nd) (di_list (K := K) (DE.r (de_sortD (fun _ _ h => pe_callB (call_sortedD rfl) (by rfl) g_sorted (by decide +kernel) (pa_cons h pa_nil)) (db_var fun _ => pv 1))) fun _ _ h => pi_list h) (fun _ => blkOk_by (own := [("job", 3)]) (N := ["jobs", "comings", "table", "job"]) (sc := defScope sCC) (by decide +kernel)) (dg_name (i := 3) (fun _ => pg_name (i := 3) scCC.nd rfl (Or.inl rfl)) (by decide)) dts_nil (dr_var fun _ => pv 3) (DE.r (de_listOf (K := K) (fun _ _ h => pe_callTy call_list_of (by rfl) g_list (by decide +kernel) (pa_cons h pa_nil)) (DR.b (dr_dget (fun _ _ _ h1 h2 => pe_dget (hu_of hr) h1 h2 fun _ _ => rfl) (dr_var fun _ => pv 1) (dr_var fun _ => pv 3))))))))))), fun rs n Qd h => ?_⟩
    obtain ⟨tb, cs, ce, ks, d, rfl, ko, h⟩ := h
    -- an entry: what the test comes to
    have right : ∀ {pr : Dt × Dt} {z : Str} {q : Int}, distD tb z = some q → ∃ a b, valD tb (.inr z) = some (.tup [a, .int q, b]) := fun {pr z q} h => by
      unfold distD at h
      split at h
      · rename_i a q' b e
        cases h
        exact ⟨a, b, e⟩
      · cases h
    rcases h with ⟨ty, hd, nd, x⟩ | ⟨es, good, p, rest, rfl, el, ees, hg, wr, x⟩ | ⟨kvs, js, rfl, hj, nj, lj, hr2, q⟩
    · have kb : kitB ty "dict" = some false := by
        rcases ty_cases hd with ⟨rfl, rfl⟩ | ⟨rfl, b, rfl⟩ | ⟨rfl, b, rfl⟩ | ⟨rfl, b, rfl⟩ | ⟨rfl, b, rfl⟩ | ⟨rfl, b, rfl⟩ | ⟨rfl, b, rfl⟩ <;> first | decide +kernel | exact absurd rfl nd
      exact ⟨d, .ro d, rfl, rfl, ty, false, tyZ_of hd, kb, _, rfl, dT x⟩
    · refine ⟨_, _, rfl, rfl, "dict", true, rfl, by decide +kernel, _, rfl, dF ?_⟩
      refine ⟨_, rfl, _, rfl, rfl, tb, cs, ce, ks, rfl, ko, ?_⟩
      refine ⟨_, rfl, es.map (·.1), rfl, ?_⟩
      refine dFor_go (fun ds' n' δ' => ∃ pre good' x3, good = pre ++ good' ∧ ds' = (good' ++ p :: rest).map (·.1) ∧ n' = n ∧ δ' = [.ro (jobsT C tb cs ce), .ro (.mix es), .own (.dic tb), x3]) ?_ ?_ ⟨[], good, .no, rfl, by rw [ees], rfl, rfl⟩
      · rintro n' δ' ⟨pre, good', x3, e1, e2, rfl, rfl⟩
        exfalso
        have := congrArg List.length e2
        simp at this
      · rintro y r n' δ' R hR ⟨pre, good', x3, e1, e2, rfl, rfl⟩
        cases good' with
        | nil =>
          rw [List.nil_append, List.map_cons] at e2
          injection e2 with e3 e4
          subst e3 e4
          have at_ : es[pre.length]? = some p := by
            rw [List.append_nil] at e1
            rw [ees, e1]
            simp
          obtain ⟨⟨ty, hty⟩, wr⟩ := wr
          obtain ⟨b, kb, b1, b2⟩ := isStr hty
          refine ⟨_, _, rfl, rfl, ty, b, tyZ_of hty, kb, _, rfl, dB (fun e => ?_) fun e => ?_⟩
          · exact dT ⟨_, rfl, x⟩
          · have e : b = true := by simpa using e
            obtain ⟨z, ez⟩ := b1 e
            refine ⟨_, rfl, _, _, rfl, rfl, tb, .inr z, rfl, by rw [ez]; rfl, ?_⟩
            rw [valD_some ko.1 z]
            by_cases hz : z ∈ ks
            · rw [decide_eq_true hz]
              refine dF ?_
              rcases wr with no | ⟨z', q, hz', ez', dq, nc, mm⟩
              · exact absurd ez (no z hz)
              · rw [ez] at ez'
                cases ez'
                obtain ⟨a, b', hv⟩ := right (pr := p) dq
                refine ⟨_, rfl, _, rfl, p.2, .inr ⟨es, pre.length, rfl, by rw [at_], .inr ⟨_, by rw [ez]; rfl⟩⟩, _, _, rfl, rfl, _, rfl, tb, .inr z, _, rfl, by rw [ez]; rfl, hv, _, 1, _, rfl, rfl, rfl, _, q, rfl, nc, _, rfl, _, rfl, ?_⟩
                rw [mm]
                exact dT ⟨_, rfl, x⟩
            · rw [decide_eq_false hz]
              exact dT (dT ⟨_, rfl, x⟩)
        | cons g good' =>
          rw [List.cons_append, List.map_cons] at e2
          injection e2 with e3 e4
          subst e3 e4
          have at_ : es[pre.length]? = some g := by
            rw [ees, e1]
            simp
          obtain ⟨z, q, hz, ez, dq, nc, mm⟩ := hg g (by rw [e1]; simp)
          obtain ⟨a, b', hv⟩ := right (pr := g) dq
          have nxt := hR n' [.ro (jobsT C tb cs ce), .ro (.mix es), .own (.dic tb), .ro g.1] ⟨pre ++ [g], good', _, by rw [e1, List.append_assoc]; rfl, rfl, rfl, rfl⟩
          refine ⟨_, _, rfl, rfl, "str", true, by rw [ez]; rfl, by decide +kernel, _, rfl, ?_⟩
          refine dF ?_
          refine ⟨_, rfl, _, _, rfl, rfl, tb, .inr z, rfl, by rw [ez]; rfl, ?_⟩
          rw [valD_some ko.1 z, decide_eq_true hz]
          refine dF ?_
          refine ⟨_, rfl, _, rfl, g.2, .inr ⟨es, pre.length, rfl, by rw [at_], .inr ⟨_, by rw [ez]; rfl⟩⟩, _, _, rfl, rfl, _, rfl, tb, .inr z, _, rfl, by rw [ez]; rfl, hv, _, 1, _, rfl, rfl, rfl, _, q, rfl, nc, _, rfl, _, rfl, ?_⟩
          rw [mm]
          exact dF nxt
    · have ndk : (kvs.map (·.1)).Nodup := by
        rw [hj]
        exact List.Pairwise.map _ (fun a b (h : a ≠ b) z => h (Sum.inr.inj z)) nj
      have val : ∀ (pre : List (Key × Dt)) (k : Key) (v : Dt) (rest : List (Key × Dt)), kvs = pre ++ (k, v) :: rest → valD kvs k = some v := fun pre k v rest e => by
        rw [e]
        refine valD_at fun z => ?_
        rw [e, List.map_append, List.nodup_append] at ndk
        exact ndk.2.2 _ z k (by simp) rfl
      refine ⟨_, _, rfl, rfl, "dict", true, rfl, by decide +kernel, _, rfl, dF ?_⟩
      refine ⟨_, rfl, _, rfl, rfl, tb, cs, ce, ks, rfl, ko, ?_⟩
      refine ⟨_, rfl, _, rfl, ?_⟩
      refine dFor_go (fun ds' n' δ' => ∃ pre rest x3, kvs = pre ++ rest ∧ ds' = rest.map (fun p => keyT p.1) ∧ n' = n ∧ δ' = [.ro (jobsT C tb cs ce), .ro (.dic kvs), .own (.dic tb), x3]) ?_ ?_ ⟨[], kvs, .no, rfl, rfl, rfl, rfl⟩
      · rintro n' δ' ⟨pre, rest, x3, e1, e2, rfl, rfl⟩
        refine ⟨_, _, rfl, rfl, kvs, js, rfl, hj, by omega, fun ys pm so => ⟨_, rfl, _, rfl, ?_⟩⟩
        refine dDc_go (fun ds' acc n2 δ' => ∃ pre rest : List Str, ys = pre ++ rest ∧ ds' = rest.map .str ∧ acc = pre.map (fun z => ((Sum.inr z : Key), Dt.lst (((valD kvs (.inr z)).bind elemD).getD []))) ∧ n2 = n' ∧ δ' = [.ro (jobsT C tb cs ce), .ro (.dic kvs), .own (.dic tb), .no]) ?_ ?_ ⟨[], ys, rfl, rfl, rfl, rfl, rfl⟩
        · rintro acc n2 δ' ⟨pre, rest, e3, e4, rfl, rfl, rfl⟩
          have : rest = [] := by
            cases rest with
            | nil => rfl
            | cons _ _ => cases e4
          subst this
          rw [List.append_nil] at e3
          subst e3
          exact q _ _ pm rfl
        · rintro y r acc n2 δ' R hR ⟨pre, rest, e3, e4, rfl, rfl, rfl⟩
          cases rest with
          | nil => cases e4
          | cons z rest =>
            injection e4 with e5 e6
            subst e5 e6
            have zj : z ∈ js := pm.subset (by rw [e3]; simp)
            have zk : (Sum.inr z : Key) ∈ kvs.map (·.1) := by
              rw [hj]
              exact List.mem_map.mpr ⟨z, zj, rfl⟩
            obtain ⟨p, hp, ep⟩ := List.mem_map.mp zk
            obtain ⟨a1, a2, ea⟩ := List.append_of_mem hp
            have hv : valD kvs (.inr z) = some p.2 := val a1 _ _ a2 (by rw [ea, ← ep])
            obtain ⟨z', q', hz', ez', dq, nc, mm⟩ := hr2 p hp
            obtain ⟨ds, eds⟩ : ∃ ds, elemD p.2 = some ds := by
              cases w : elemD p.2 with
              | none =>
                have mm : momR q' p.2 = true := mm
                unfold momR at mm
                rw [w] at mm
                cases mm
              | some ds => exact ⟨ds, rfl⟩
            have nz : z ∉ pre := fun h => by
              have : ys.Nodup := pm.nodup_iff.mpr nj
              rw [e3, List.nodup_append] at this
              exact this.2.2 _ h z (by simp) rfl
            refine dT ⟨_, rfl, _, rfl, _, rfl, kvs, .inr z, p.2, rfl, rfl, hv, ds, eds, _, rfl, .inr z, rfl, ?_, ?_⟩
            · rw [List.length_map]
              have h1 := pm.length_eq
              rw [e3, List.length_append] at h1
              omega
            · rw [putD_new (fun h => by
                rw [List.map_map] at h
                obtain ⟨a, ha, e⟩ := List.mem_map.mp h
                have : a = z := Sum.inr.inj e
                exact nz (by rw [← this]; exact ha))]
              refine hR _ _ _ ⟨pre ++ [z], rest, by rw [e3, List.append_assoc]; rfl, rfl, ?_, rfl, rfl⟩
              rw [List.map_append, List.map_cons, List.map_nil, hv]
              show _ = _ ++ [((Sum.inr z : Key), Dt.lst ((elemD p.2).getD []))]
              rw [eds]
              rfl
      · rintro y r n' δ' R hR ⟨pre, rest, x3, e1, e2, rfl, rfl⟩
        cases rest with
        | nil => cases e2
        | cons g rest =>
          obtain ⟨k, v⟩ := g
          rw [List.map_cons] at e2
          injection e2 with e3 e4
          subst e3 e4
          have hv0 := val pre k v rest e1
          obtain ⟨z, q', hz, ez, dq, nc, mm⟩ := hr2 (k, v) (by rw [e1]; simp)
          have ek : k = Sum.inr z := by
            cases k with
            | inl i => cases ez
            | inr y => cases ez; rfl
          subst ek
          obtain ⟨a, b', hv⟩ := right (pr := (Dt.non, Dt.non)) dq
          have nxt := hR n' [.ro (jobsT C tb cs ce), .ro (.dic kvs), .own (.dic tb), .ro (.str z)] ⟨pre ++ [(Sum.inr z, v)], rest, _, by rw [e1, List.append_assoc]; rfl, rfl, rfl, rfl⟩
          refine ⟨_, _, rfl, rfl, "str", true, rfl, by decide +kernel, _, rfl, ?_⟩
          refine dF ?_
          refine ⟨_, rfl, _, _, rfl, rfl, tb, .inr z, rfl, rfl, ?_⟩
          rw [valD_some ko.1 z, decide_eq_true hz]
          refine dF ?_
          refine ⟨_, rfl, _, rfl, v, .inl ⟨kvs, .inr z, rfl, rfl, hv0⟩, _, _, rfl, rfl, _, rfl, tb, .inr z, _, rfl, rfl, hv, _, 1, _, rfl, rfl, rfl, _, q', rfl, nc, _, rfl, _, rfl, ?_⟩
          rw [mm]
          exact dF nxt
end
end K59
/-! ## K59n -/
set_option Elab.async false
set_option linter.all false
set_option maxRecDepth 100000
set_option maxHeartbeats 4000000
/-! k59: done, answers: of comings that are none. -/
namespace K59
open PySem PySem.Spec PyProof.Rows L2 DL
abbrev sDone : Stmt := tp 33
abbrev sAns : Stmt := tp 34
/-- comings that are none, and the first wrong key -/
def BadC (tb : List (Key × Dt)) (ks : List Str) (d key : Dt) : Prop := (∃ ty, tyD d = some ty ∧ ty ≠ "dict" ∧ key = .non) ∨
  ∃ (es good : List (Dt × Dt)) (p : Dt × Dt) (rest : List (Dt × Dt)), d = .mix es ∧ es.length ≤ 1000 ∧ es = good ++ p :: rest ∧ (∀ g ∈ good, RightC tb ks g) ∧ WrongC tb ks p ∧ key = p.1
variable [Wd]
/-- never called -/
def cNo : Ct := fun _ _ _ _ => False
theorem noC {P : Program} {w : World} {K : PySem.W.Frag} {mg : Str → Option Value} {base : Heap} {CX : CXT} {k : Nat} {f : Addr} {fd : FuncData} {ps : List Str} : FnOk P w K mg base CX k f fd ps (spC cNo) :=
  ⟨fun vs H Q E h => by obtain ⟨_, _, _, _, _, _, _, _, h, _⟩ := h; exact h.elim, fun A outer s H args us vs Q E hr e0 hb hv h => by obtain ⟨_, _, _, _, _, _, _, _, h, _⟩ := h; exact h.elim⟩
def cBadC (C CB : Addr) : Ct := fun rs n Q X => ∃ tb cs ce ks d key, rs = [.ro (jobsT C tb cs ce), .ro d] ∧ KeysOk tb ks ∧ BadC tb ks d key ∧ X CB "job" key n
theorem badC_cc {C CB : Addr} {tb cs ce : List (Key × Dt)} {ks : List Str} {d key : Dt} {n : Nat} {Q : Sl → Nat → Prop} {X : XD} (ko : KeysOk tb ks) (b : BadC tb ks d key) (x : X CB "job" key n) : cCC C CB [.ro (jobsT C tb cs ce), .ro d] n Q X := by
  refine ⟨tb, cs, ce, ks, d, rfl, ko, ?_⟩
  rcases b with ⟨ty, h1, h2, rfl⟩ | ⟨es, good, p, rest, h1, h2, h3, h4, h5, rfl⟩
  · exact .inl ⟨ty, h1, h2, x⟩
  · exact .inr (.inl ⟨es, good, p, rest, h1, h2, h3, h4, h5, x⟩)
section
variable {P : Program} {K : PySem.W.Frag} {mg : Str → Option Value} {base : Heap} {f g : Addr} {fd gd : FuncData} {C CB : Addr}
theorem scDone : FnScope ["jobs", "comings"] ["jobs", "comings"] (defScope sDone) := ⟨rfl, rfl, rfl, by decide +kernel, rfl, by decide +kernel, by decide +kernel⟩
theorem ok_done (F : Fun K "done" "done" sDone f fd) (cC : DL.Cl P Wd.w K mg base (L2.CX P Wd.w) 4 "checked_comings" (spC (cCC C CB))) (cU : DL.Cl P Wd.w K mg base CX0 1 "units_of" (spC cNo)) : FnOk P Wd.w K mg base (L2.CX P Wd.w) 5 f fd ["jobs", "comings"] (spC (cBadC C CB)) := by
  refine okCX F scDone (fun rs n Qd Xd h => ?_) (fun cdv A outer s H E Xd hr => ?_)
  · obtain ⟨tb, cs, ce, ks, d, key, rfl, _⟩ := h
    rfl
  · refine ⟨_, (dss_one (ds_ret (de_call (fun _ _ h => DL.pe_cl cU hr (by omega) pass0 h) (DA.cons (dr_var fun _ => pv 0) (DA.cons (DE.r (de_callX (fun _ _ h => DL.pe_cl cC hr (by omega) (passes_call (takes_of rfl rfl rfl rfl) fun _ _ _ _ h => h) h) (DA.cons (dr_var fun _ => pv 0) (DA.cons (dr_var fun _ => pv 1) DA.nil)))) DA.nil))))), fun rs n Qd h => ?_⟩
    obtain ⟨tb, cs, ce, ks, d, key, rfl, ko, b, x⟩ := h
    exact ⟨_, rfl, _, rfl, _, rfl, badC_cc ko b x⟩
theorem scAns : FnScope ["jobs", "comings", "known"] ["jobs", "comings"] (defScope sAns) := ⟨rfl, rfl, rfl, by decide +kernel, rfl, by decide +kernel, by decide +kernel⟩
theorem ok_ans (F : Fun K "answers" "answers" sAns f fd) (cC : DL.Cl P Wd.w K mg base (L2.CX P Wd.w) 4 "checked_comings" (spC (cCC C CB))) : FnOk P Wd.w K mg base (L2.CX P Wd.w) 5 f fd ["jobs", "comings"] (spC (cBadC C CB)) := by
  refine okCX F scAns (fun rs n Qd Xd h => ?_) (fun cdv A outer s H E Xd hr => ?_)
  · obtain ⟨tb, cs, ce, ks, d, key, rfl, _⟩ := h
    rfl
  · refine ⟨_, (dss_cons (ds_set (i := 2) (fun _ _ h => ps_set (i := 2) scAns.nd rfl (Or.inl rfl) h) (de_callX (fun _ _ h => DL.pe_cl cC hr (by omega) (passes_call (takes_of rfl rfl rfl rfl) fun _ _ _ _ h => h) h) (DA.cons (dr_var fun _ => pv 0) (DA.cons (dr_var fun _ => pv 1) DA.nil)))) never), fun rs n Qd h => ?_⟩
    obtain ⟨tb, cs, ce, ks, d, key, rfl, ko, b, x⟩ := h
    exact ⟨_, rfl, _, rfl, badC_cc ko b x⟩
end
end K59
/-! ## K59o -/
set_option Elab.async false
set_option linter.all false
set_option maxRecDepth 100000
set_option maxHeartbeats 4000000
/-! k59: breakdown: of what is none. -/
namespace K59
open PySem PySem.Spec PyProof.Rows L2 DL
abbrev sBrk : Stmt := tp 35
/-- comings that are right: keys, entries -/
def GoodC (tb : List (Key × Dt)) (ks : List Str) (kvs : List (Key × Dt)) (js : List Str) : Prop := kvs.map (·.1) = js.map Sum.inr ∧ js.Nodup ∧ js.length ≤ 60 ∧ ∀ p ∈ kvs, RightC tb ks (keyT p.1, p.2)
/-- how many comings a job has -/
def manyC (kvs : List (Key × Dt)) (z : Str) : Nat := (((valD kvs (.inr z)).bind elemD).getD []).length
theorem valD_map {f : Str → Dt} {z : Str} : ∀ {ys : List Str}, valD (ys.map fun z => ((Sum.inr z : Key), f z)) (.inr z) = if z ∈ ys then some (f z) else none
  | [] => rfl
  | y :: r => by
    rw [List.map_cons, valD]
    by_cases e : y = z
    · subst e
      rw [if_pos rfl, if_pos List.mem_cons_self]
    · rw [if_neg (fun h => e (Sum.inr.inj h)), valD_map]
      by_cases h : z ∈ r
      · rw [if_pos h, if_pos (List.mem_cons_of_mem _ h)]
      · rw [if_neg h, if_neg (fun q => (List.mem_cons.mp q).elim (fun q => e q.symm) h)]
variable [Wd]
theorem many_len {kvs : List (Key × Dt)} {js ys : List Str} {z : Str} (hk : kvs.map (·.1) = js.map Sum.inr) (pm : ys.Perm js) :
    lenD ((valD (ys.map (fun z => ((Sum.inr z : Key), Dt.lst (((valD kvs (.inr z)).bind elemD).getD [])))) (.inr z)).getD (.lst [])) = some (manyC kvs z) := by
  rw [valD_map]
  by_cases h : z ∈ ys
  · rw [if_pos h]
    rfl
  · rw [if_neg h]
    have e := valD_some hk z
    rw [decide_eq_false (fun q => h (pm.symm.subset q))] at e
    unfold manyC
    cases q : valD kvs (.inr z) with
    | none => rfl
    | some x => rw [q] at e; cases e
def cBrk (C CN CB CM : Addr) : Ct := fun rs n Q X => ∃ (tb cs ce : List (Key × Dt)) (ks : List Str) (d j m : Dt) (tj tm : String), rs = [.ro (jobsT C tb cs ce), .ro d, .ro j, .ro m] ∧ KeysOk tb ks ∧ tyD j = some tj ∧ tyD m = some tm ∧
  (((∀ z ∈ ks, j ≠ .str z) ∧ X CN "job" j n) ∨
   ((∃ z ∈ ks, j = .str z) ∧ ∃ key, BadC tb ks d key ∧ X CB "job" key n) ∨
   ∃ (z : Str) (kvs : List (Key × Dt)) (js : List Str), z ∈ ks ∧ j = .str z ∧ d = .dic kvs ∧ GoodC tb ks kvs js ∧ (∀ i, m = .int i → i < 0 ∨ (manyC kvs z : Nat) ≤ i) ∧ X CM "number" m n)
section
variable {P : Program} {K : PySem.W.Frag} {mg : Str → Option Value} {base : Heap} {f g : Addr} {fd gd : FuncData} {C CN CB CM : Addr}
theorem scBrk : FnScope ["jobs", "comings", "job", "number", "known", "row", "first", "stop", "found", "unit", "one"] ["jobs", "comings", "job", "number"] (defScope sBrk) := ⟨rfl, rfl, rfl, by decide +kernel, rfl, by decide +kernel, by decide +kernel⟩
theorem ok_brk (F : Fun K "breakdown" "breakdown" sBrk f fd) (cK : DL.Cl P Wd.w K mg base (L2.CX P Wd.w) 4 "known_job" (spC (cKnown C CN))) (cC : DL.Cl P Wd.w K mg base (L2.CX P Wd.w) 4 "checked_comings" (spC (cCC C CB))) (cI : DL.Cl P Wd.w K mg base CX0 1 "is_integer" (spC cInt)) (T : ErrK.Err P Wd.w K mg base "BadNumber" "number" CM) (gL : mg "len" = none) :
    FnOk P Wd.w K mg base (L2.CX P Wd.w) 5 f fd ["jobs", "comings", "job", "number"] (spC (cBrk C CN CB CM)) := by
  refine okCX F scBrk (fun rs n Qd Xd h => ?_) (fun cdv A outer s H E Xd hr => ?_)
  · obtain ⟨tb, cs, ce, ks, d, j, m, tj, tm, rfl, _⟩ := h
    rfl
  · refine ⟨_, (dss_cons (ds_expr (de_callX (fun _ _ h => DL.pe_cl cK hr (by omega) (passes_call (takes_of rfl rfl rfl rfl) fun _ _ _ _ h => h) h) (DA.cons (dr_var fun _ => pv 0) (DA.cons (dr_var fun _ => pv 2) DA.nil)))) (dss_cons (ds_set (i := 4) (fun _ _ h => ps_set (i := 4) scBrk.nd rfl (Or.inl rfl) h) (de_callX (fun _ _ h => DL.pe_cl cC hr (by omega) (passes_call (takes_of rfl rfl rfl rfl) fun _ _ _ _ h => h) h) (DA.cons (dr_var fun _ => pv 0) (DA.cons (dr_var fun _ => pv 1) DA.nil)))) (dss_cons (ds_if (DW.t (dw_or (dt_not (dt_val (DE.r (de_call (fun _ _ h => DL.pe_cl cI hr (by omega) pass0 h) (DA.cons (dr_var fun _ => pv 3) DA.nil))))) (dw_or1 (dt_not (dt_chain (ga := fun i j => decide (i ≤ j)) (gb := fun i j => decide (i < j)) (fun _ _ _ _ h1 h2 h3 => pt_chain op_le op_lt h1 h2 h3) (dr_c (fun _ => pe_int) fun _ _ => .int 0) (dr_var fun _ => pv 3) (dr_cb1 (fun _ _ h => pe_callB call_len (by rfl) gL PySem.boot_len h) dcall_len (DR.b (dr_get2 (fun _ _ _ _ h1 h2 h3 => pe_dget2 (hu_of hr) h1 h2 h3 ⟨rfl, rfl, rfl, rfl⟩) (db_var fun _ => pv 4) (dq_var fun _ => pv 2) dq_nil)))))))) (dss_one (ds_raise (fun _ _ h => ps_raise rfl (takes_of rfl rfl rfl rfl) (ErrK.pmk_err T (hr.mono (by omega)) h)) (dr_var fun _ => pv 3))) dss_nil) never))), fun rs n Qd h => ?_⟩
    obtain ⟨tb, cs, ce, ks, d, j, m, tj, tm, rfl, ko, hj, hm, h⟩ := h
    rcases h with ⟨no, x⟩ | ⟨⟨z, hz, rfl⟩, key, bad, x⟩ | ⟨z, kvs, js, hz, rfl, rfl, gc, hn, x⟩
    · exact ⟨_, rfl, _, rfl, tb, cs, ce, ks, j, tj, rfl, ko, hj, .inr ⟨no, x⟩⟩
    · exact ⟨_, rfl, _, rfl, tb, cs, ce, ks, _, tj, rfl, ko, hj, .inl ⟨z, hz, rfl, _, rfl, _, rfl, badC_cc ko bad x⟩⟩
    · refine ⟨_, rfl, _, rfl, tb, cs, ce, ks, _, tj, rfl, ko, hj, .inl ⟨z, hz, rfl, _, rfl, _, rfl, ?_⟩⟩
      obtain ⟨g1, g2, g3, g4⟩ := gc
      refine ⟨tb, cs, ce, ks, _, rfl, ko, .inr (.inr ⟨kvs, js, rfl, g1, g2, g3, g4, fun out ys pm eo => ?_⟩)⟩
      refine ⟨_, rfl, m, tm, rfl, hm, _, rfl, isIntD m, rfl, dB (fun e => ?_) fun e => ?_⟩
      · exact dT ⟨_, rfl, x⟩
      · have e : isIntD m = true := by simpa using e
        obtain ⟨i, rfl⟩ : ∃ i, m = .int i := by cases m <;> first | exact ⟨_, rfl⟩ | cases e
        refine ⟨_, rfl, 0, i, rfl, rfl, dB (fun i0 => ?_) fun i0 => dT ⟨_, rfl, x⟩⟩
        refine ⟨_, _, rfl, rfl, out, rfl, _, rfl, .inr z, rfl, ?_⟩
        subst eo
        refine ⟨manyC kvs z, many_len g1 pm, _, rfl, ?_⟩
        have i0 : 0 ≤ i := of_decide_eq_true i0
        have lt : decide (i < ((manyC kvs z : Nat) : Int)) = false := decide_eq_false (by have := hn i rfl; omega)
        rw [lt]
        exact dT ⟨_, rfl, x⟩
end
end K59
/-! ## K59p -/
set_option Elab.async false
set_option linter.all false
set_option maxRecDepth 100000
set_option maxHeartbeats 4000000
/-! k59: spans. -/
namespace K59
open PySem PySem.Spec PyProof.Rows L2 DL
abbrev sSpan : Stmt := tp 24
abbrev sSpanI : Stmt := inClass sSpan 0
abbrev sSpans : Stmt := tp 25
abbrev spanN : List Str := ["path", "thing", "first", "stop"]
mutual
def countP : Part → Int
  | .unit k => k
  | .inn _ b => countD b
def countD : List Part → Int
  | [] => 0
  | p :: r => countP p + countD r
end
mutual
/-- the spans of a part, the i-th, that begins with a unit -/
def spansP (CS : Addr) (path : List Dt) (i : Nat) (first : Int) : Part → List Dt
  | .unit _ => []
  | .inn t b => .ins CS (spanN.zip [.tup (path ++ [.int (i : Nat)]), .str t, .int first, .int (first + countD b)]) :: spansD CS (path ++ [.int (i : Nat)]) 0 first b
def spansD (CS : Addr) (path : List Dt) (i : Nat) (first : Int) : List Part → List Dt
  | [] => []
  | p :: r => spansP CS path i first p ++ spansD CS path (i + 1) (first + countP p) r
end
theorem countD_snoc : ∀ (ps : List Part) (p : Part), countD (ps ++ [p]) = countD ps + countP p
  | [], p => by simp [countD]
  | q :: r, p => by
    rw [List.cons_append, countD, countD, countD_snoc r p]
    omega
theorem spansD_snoc {CS : Addr} : ∀ (ps : List Part) (p : Part) (path : List Dt) (i : Nat) (first : Int), spansD CS path i first (ps ++ [p]) = spansD CS path i first ps ++ spansP CS path (i + ps.length) (first + countD ps) p
  | [], p, path, i, first => by simp [spansD, countD]
  | q :: r, p, path, i, first => by
    rw [List.cons_append, spansD, spansD, spansD_snoc r p path (i + 1), List.append_assoc, List.length_cons, countD]
    have e : i + 1 + r.length = i + (r.length + 1) := by omega
    have e2 : first + countP q + countD r = first + (countP q + countD r) := by omega
    rw [e, e2]
theorem spans_len {CS : Addr} : ∀ (m : Nat) (ps : List Part), Lawf m ps → ∀ (path : List Dt) (i : Nat) (first : Int), (spansD CS path i first ps).length ≤ 6 ^ m
  | 0, _, h => h.elim
  | m + 1, ps, ⟨_, l3, h⟩ => by
    intro path
    have one : ∀ p ∈ ps, ∀ i first, (spansP CS path i first p).length ≤ 1 + 6 ^ m := fun p hp i first => by
      have hq := h p hp
      cases p with
      | unit k => rw [spansP]; simp
      | inn t b =>
        rw [spansP, List.length_cons]
        have := spans_len (CS := CS) m b hq.2 (path ++ [.int (i : Nat)]) 0 first
        omega
    have all : ∀ (qs : List Part), (∀ p ∈ qs, p ∈ ps) → ∀ i first, (spansD CS path i first qs).length ≤ qs.length * (1 + 6 ^ m) := by
      intro qs
      induction qs with
      | nil => intro _ i first; simp [spansD]
      | cons q r ih =>
        intro sub i first
        rw [spansD, List.length_append, List.length_cons, Nat.add_mul]
        have := one q (sub q List.mem_cons_self) i first
        have := ih (fun p hp => sub p (List.mem_cons_of_mem _ hp)) (i + 1) (first + countP q)
        omega
    intro i first
    have h1 := all ps (fun _ h => h) i first
    have h2 : ps.length * (1 + 6 ^ m) ≤ 3 * (1 + 6 ^ m) := Nat.mul_le_mul_right _ l3
    have e : 6 ^ (m + 1) = 6 * 6 ^ m := by rw [Nat.pow_succ, Nat.mul_comm]
    have : 1 ≤ 6 ^ m := Nat.pos_of_ne_zero (by simp)
    omega
variable [Wd]
structure MakC (P : Program) (w : World) (K : PySem.W.Frag) (mg : Str → Option Value) (base : Heap) (CX : CXT) (k : Nat) (x : Str) (C f : Addr) (fd : FuncData) (ps : List Str) (sp : Sp) : Prop where
  mke : L2.Mk K C f
  fn : FnOk P w K mg base CX k f fd ps sp
  gC : mg x = some (.ref C)
  bi : Binds K fd ps []
def cSpans (CS : Addr) (m : Nat) : Ct := fun rs n Q _ => ∃ (ps : List Part) (path : List Dt) (first : Int), rs = [.ro (.tup (partsT ps)), .ro (.tup path), .ro (.int first)] ∧ Lawf m ps ∧ path.length + m ≤ 10 ∧ Q (.ro (.tup [.lst (spansD CS path 0 first ps), .int (first + countD ps)])) n
section
variable {P : Program} {K : PySem.W.Frag} {mg : Str → Option Value} {base : Heap} {f g : Addr} {fd gd : FuncData} {CS : Addr}
theorem scSpans : FnScope ["parts", "path", "first", "found", "number", "part", "inner", "stop"] ["parts", "path", "first"] (defScope sSpans) := ⟨rfl, rfl, rfl, by decide +kernel, rfl, by decide +kernel, by decide +kernel⟩
theorem ok_spans (F : Fun K "spans_in" "spans_in" sSpans f fd) (S : Self P K mg "spans_in" f fd ["parts", "path", "first"]) (cI : DL.Cl P Wd.w K mg base CX0 1 "is_integer" (spC cInt)) (M : MakC P Wd.w K mg base CX0 1 "Span" CS g gd ["self", "path", "thing", "first", "stop"] (spFill CS spanN)) (g_enum : mg "enumerate" = none) :
    ∀ m : Nat, m ≤ 8 → FnOk P Wd.w K mg base CX0 (m + 3) f fd ["parts", "path", "first"] (spC (cSpans CS m)) := by
  have l63 := sizeLine_eq
  intro m
  induction m with
  | zero =>
    intro _
    refine okC F scSpans (fun rs n Qd Xd h => ?_) (fun cdv A outer s H E Xd hr => ⟨_, never, fun rs n Qd h => ?_⟩) <;> obtain ⟨ps, path, first, rfl, z, _⟩ := h
    · rfl
    · exact z
  | succ m ih =>
    intro hm
    have ih := ih (by omega)
    refine okC F scSpans (fun rs n Qd Xd h => ?_) (fun cdv A outer s H E Xd hr => ?_)
    · obtain ⟨ps, path, first, rfl, _⟩ := h
      rfl
    · refine ⟨_, (dss_cons (ds_set (i := 3) (fun _ _ h => ps_set (i := 3) scSpans.nd rfl (Or.inl rfl) h) (de_lst DA.nil)) (dss_cons (ds_for (vs := [4, 5]) (fun _ => PassesOwn.never) (fun _ => rfl) (di_enum (K := K) (DA.cons (dr_var fun _ => pv 0) DA.nil) fun _ _ h => K01.pi_enum2 (by rfl) g_enum h) (dg_tup (K := K) (m := 2) (dgs_cons (dg_name (i := 4) (fun _ => pg_name (i := 4) scSpans.nd rfl (Or.inl rfl)) (by decide)) (dgs_cons (dg_name (i := 5) (fun _ => pg_name (i := 5) scSpans.nd rfl (Or.inl rfl)) (by decide)) dgs_nil)) (fun _ _ h => pg_tup (by rfl) h)) (dss_one (ds_if (dt_val (DE.r (de_call (fun _ _ h => DL.pe_cl cI hr (by omega) pass0 h) (DA.cons (dr_var fun _ => pv 5) DA.nil)))) (dss_one (ds_augI (i := 2) (fun _ _ h => ps_aug (i := 2) scSpans.nd rfl (Or.inl rfl) h ip_add) (dr_var fun _ => pv 5))) (dss_cons (ds_unp (vs := [6, 7]) (fun _ _ _ h1 h2 => ps_asg h1 h2) (DE.r (de_call (fun _ _ h => DL.pe_cl (S.cl ih) hr (by omega) pass0 h) (DA.cons (dr_ix (K := K) (fun _ _ _ h1 h2 => pe_ix ix_seq h1 h2 fun _ _ => rfl) (dr_var fun _ => pv 5) (dr_c (fun _ => pe_int) fun _ _ => .int 1)) (DA.cons (DE.r (de_op (fun _ _ _ h1 h2 => pe_op op_catA h1 h2) (dop_catA (K := K)) (dr_var fun _ => pv 1) (dr_tup (DA.cons (dr_var fun _ => pv 4) DA.nil)))) (DA.cons (dr_var fun _ => pv 2) DA.nil))))) (dg_tup (K := K) (m := 2) (dgs_cons (dg_name (i := 6) (fun _ => pg_name (i := 6) scSpans.nd rfl (Or.inl rfl)) (by decide)) (dgs_cons (dg_name (i := 7) (fun _ => pg_name (i := 7) scSpans.nd rfl (Or.inl rfl)) (by decide)) dgs_nil)) (fun _ _ h => pg_tup (by rfl) h))) (dss_cons (ds_append (K := K) (i := 3) (fun _ _ h => ps_expr (pe_bm PySem.F.plainAttrs_list PySem.F.slot_list_append PySem.F.type_list_append mt_append (pv 3) (pa_cons h pa_nil))) (dr_fill (fun _ _ h => pe_make M.mke M.fn (hr.mono (by omega)) (by rfl) M.gC M.bi .nil pass0 h) (DA.cons (DE.r (de_op (fun _ _ _ h1 h2 => pe_op op_catA h1 h2) (dop_catA (K := K)) (dr_var fun _ => pv 1) (dr_tup (DA.cons (dr_var fun _ => pv 4) DA.nil)))) (DA.cons (dr_ix (K := K) (fun _ _ _ h1 h2 => pe_ix ix_seq h1 h2 fun _ _ => rfl) (dr_var fun _ => pv 5) (dr_c (fun _ => pe_int) fun _ _ => .int 0)) (DA.cons (dr_var fun _ => pv 2) (DA.cons (dr_var fun _ => pv 7) DA.nil)))))) (dss_cons (ds_extend (K := K) (i := 3) (fun _ _ h => ps_expr (pe_bm PySem.F.plainAttrs_list PySem.F.slot_list_extend PySem.F.type_list_extend mt_extend (pv 3) (pa_cons h pa_nil))) (dr_var fun _ => pv 6)) (dss_one (ds_set (i := 2) (fun _ _ h => ps_set (i := 2) scSpans.nd rfl (Or.inl rfl) h) (DR.e (dr_var fun _ => pv 7)))))))))) (dss_one (ds_ret (DR.e (dr_tup (DA.cons (dr_rel fun _ => pv 3) (DA.cons (dr_var fun _ => pv 2) DA.nil)))))))), fun rs n Qd h => ?_⟩
      obtain ⟨ps, path, first, rfl, lw, hl, q⟩ := h
      have big := spans_len (CS := CS) (m + 1) ps lw path 0 first
      have p9 : 6 ^ (m + 1) ≤ 6 ^ 9 := Nat.pow_le_pow_right (by decide) (by omega)
      have n9 : 6 ^ 9 = 10077696 := by decide
      obtain ⟨_, l3, hp⟩ := lw
      have split : ∀ (pre : List Part) (p : Part) (r : List Part) (i : Nat) (fi : Int), (spansD CS path i fi (pre ++ [p])).length ≤ (spansD CS path i fi (pre ++ p :: r)).length := by
        intro pre
        induction pre with
        | nil =>
          intro p r i fi
          simp [spansD]
        | cons x pre ih2 =>
          intro p r i fi
          rw [List.cons_append, List.cons_append, spansD, spansD, List.length_append, List.length_append]
          have := ih2 p r (i + 1) (fi + countP x)
          omega
      refine ⟨[], rfl, (by decide), _, rfl, partsT ps, .inr rfl, ?_⟩
      refine dFor_go (fun ds' n' δ' => ∃ pre ps' x4 x5 x6 x7, n' = n ∧ ps = pre ++ ps' ∧ ds' = ((partsT ps').zipIdx pre.length).map (fun p => .tup [.int (p.2 : Nat), p.1]) ∧ δ' = [.ro (.tup (partsT ps)), .ro (.tup path), .ro (.int (first + countD pre)), .own (.lst (spansD CS path 0 first pre)), x4, x5, x6, x7]) ?_ ?_ ⟨[], ps, .no, .no, .no, .no, rfl, rfl, rfl, by rw [countD, Int.add_zero, spansD]; rfl⟩
      · rintro n' δ' ⟨pre, ps', x4, x5, x6, x7, rfl, e, e2, rfl⟩
        have : ps' = [] := by
          cases ps' with
          | nil => rfl
          | cons p r => simp [partsT] at e2
        subst this
        rw [List.append_nil] at e
        subst e
        exact ⟨_, rfl, _, rfl, [_, _], rfl, (by show 2 ≤ sizeLine; omega), q⟩
      · rintro x r n' δ' R hR ⟨pre, ps', x4, x5, x6, x7, rfl, e, e2, rfl⟩
        cases ps' with
        | nil => simp [partsT] at e2
        | cons p ps' =>
          rw [partsT, List.zipIdx_cons, List.map_cons] at e2
          injection e2 with e3 e4
          subst e3 e4
          have hq := hp p (by rw [e]; simp)
          have lens := split pre p ps' 0 first
          rw [← e] at lens
          have nxt := fun (y4 y5 y6 y7 : Sl) => hR n' [.ro (.tup (partsT ps)), .ro (.tup path), .ro (.int (first + countD (pre ++ [p]))), .own (.lst (spansD CS path 0 first (pre ++ [p]))), y4, y5, y6, y7] ⟨pre ++ [p], ps', _, _, _, _, rfl, by rw [e, List.append_assoc]; rfl, by rw [List.length_append]; rfl, rfl⟩
          rw [spansD_snoc, Nat.zero_add] at lens
          rw [List.length_append] at lens
          simp only [spansD_snoc, countD_snoc, Nat.zero_add, ← Int.add_assoc] at nxt
          refine ⟨_, rfl, rfl, _, _, rfl, _, _, rfl, rfl, ?_⟩
          cases p with
          | unit k =>
            rw [Part.t]
            simp only [countP, spansP, List.append_nil] at nxt
            exact ⟨_, rfl, _, "int", rfl, rfl, _, rfl, true, rfl, dT ⟨_, rfl, _, rfl, k, rfl, nxt _ _ _ _⟩⟩
          | inn t b =>
            rw [Part.t]
            simp only [countP, spansP] at nxt
            rw [spansP, List.length_cons] at lens
            refine ⟨_, rfl, _, "tuple", rfl, rfl, _, rfl, false, rfl, dF ?_⟩
            refine ⟨_, rfl, _, 1, _, rfl, rfl, rfl, _, rfl, _, rfl, [_], rfl, (by show 1 ≤ sizeLine; omega), _, _, rfl, rfl, ?_, _, rfl, _, rfl, b, _, _, rfl, hq.2, ?_, _, rfl, _, rfl, rfl, _, _, rfl, _, _, rfl, rfl, ?_⟩
            · show path.length + 1 ≤ sizeLine
              omega
            · rw [List.length_append]
              show path.length + 1 + m ≤ 10
              omega
            refine ⟨⟨_, rfl⟩, _, rfl, _, rfl, [_], rfl, (by show 1 ≤ sizeLine; omega), _, _, rfl, rfl, ?_, _, rfl, _, rfl, _, 0, _, rfl, rfl, rfl, _, rfl, _, rfl, [_, _, _, _], rfl, rfl, _, rfl, ?_, ⟨_, rfl⟩, _, rfl, _, _, rfl, rfl, ?_, _, rfl, ?_⟩
            · show path.length + 1 ≤ sizeLine
              omega
            · omega
            · rw [List.length_append]
              exact (show (spansD CS path 0 first pre).length + 1 + (spansD CS (path ++ [.int (pre.length : Nat)]) 0 (first + countD pre) b).length ≤ sizeLine by omega)
            · have z := nxt (.ro (.int (pre.length : Nat))) (.ro (.tup [.str t, .tup (partsT b)])) (.ro (.lst (spansD CS (path ++ [.int (pre.length : Nat)]) 0 (first + countD pre) b))) (.ro (.int (first + countD pre + countD b)))
              rw [List.append_assoc]
              exact z
end
end K59
/-! ## K59q -/
set_option Elab.async false
set_option linter.all false
set_option maxRecDepth 100000
set_option maxHeartbeats 4000000
/-! k59: Span.__init__. -/
namespace K59
open PySem PySem.Spec PyProof.Rows L2 DL
structure TSp (K : PySem.W.Frag) (C : Addr) : Prop where
  cl : L2.Cls K C
  n1 : NoAttr K C "path"
  n2 : NoAttr K C "thing"
  n3 : NoAttr K C "first"
  n4 : NoAttr K C "stop"
theorem upd_upd {H : Hp} {x : Addr} {a b : HO} : upd (upd H x a) x b = upd H x b := by
  funext c
  by_cases e : c = x
  · rw [e, upd_same, upd_same]
  · rw [upd_ne e, upd_ne e, upd_ne e]
section
variable {P : Program} {w : World} {K : PySem.W.Frag} {mg : Str → Option Value} {base : Heap} {f : Addr} {fd : FuncData} {CS : Addr}
theorem scSpanI : FnScope ["self", "path", "thing", "first", "stop"] ["self", "path", "thing", "first", "stop"] (defScope sSpanI) := ⟨rfl, rfl, rfl, by decide +kernel, rfl, by decide +kernel, by decide +kernel⟩
theorem ok_spanI (F : Fun K "__init__" "Span.__init__" sSpanI f fd) (ts : TSp K CS) : FnOk P w K mg base CX0 1 f fd ["self", "path", "thing", "first", "stop"] (spFill CS spanN) := by
  refine F.ok scSpanI (fun vs H Q E h => ?_) (fun cdv A outer s H vs Q E hr h => ?_)
  · obtain ⟨x, dx, us, rfl, hl, _⟩ := h
    rw [List.length_cons, hl]
    rfl
  · obtain ⟨x, dx, us, rfl, hl, hx, k⟩ := h
    obtain ⟨a, b, c, d, rfl⟩ : ∃ a b c d, us = [a, b, c, d] := by
      match us, hl with
      | [a, b, c, d], _ => exact ⟨a, b, c, d, rfl⟩
    refine ⟨_, pss_cons (ps_fld (pv 0) (pv 1) rfl) (pss_cons (ps_fld (pv 0) (pv 2) rfl) (pss_cons (ps_fld (pv 0) (pv 3) rfl) (pss_one (ps_fld (pv 0) (pv 4) rfl)))), ?_⟩
    refine ⟨_, rfl, _, rfl, x, CS, dx, [], rfl, hx, ts.cl, ts.n1, by decide, ?_⟩
    refine ⟨_, rfl, _, rfl, x, CS, dx, _, rfl, upd_same, ts.cl, ts.n2, (show 1 < 1000 by decide), ?_⟩
    refine ⟨_, rfl, _, rfl, x, CS, dx, _, rfl, upd_same, ts.cl, ts.n3, (show 2 < 1000 by decide), ?_⟩
    refine ⟨_, rfl, _, rfl, x, CS, dx, _, rfl, upd_same, ts.cl, ts.n4, (show 3 < 1000 by decide), ?_⟩
    rw [upd_upd, upd_upd, upd_upd]
    exact k
end
end K59
/-! ## K59r -/
set_option Elab.async false
set_option linter.all false
set_option maxRecDepth 100000
set_option maxHeartbeats 4000000
/-! k59: check_jobs. -/
namespace K59
open PySem PySem.Spec PyProof.Rows L2 DL
abbrev sCJ : Stmt := tp 28
def prioD (d : Dt) : Option Int := match elemD d with
  | some (.int i :: _) => some i
  | _ => none
theorem jobD_prio {m : Nat} {d : Dt} (h : jobD m d = true) : ∃ i ds, elemD d = some (.int i :: ds) ∧ prioD d = some i := by
  unfold jobD at h
  split at h
  · rename_i a b c e
    split at h
    · rename_i p q
      exact ⟨p, _, e, by unfold prioD; rw [e]⟩
    · cases h
  · cases h
/-- a job that is right -/
def RightJ (m : Nat) (p : Dt × Dt) (pr : Int) : Prop := ∃ z, p.1 = .str z ∧ wordT z = true ∧ Nice (m + 1) p.2 ∧ jobD m p.2 = true ∧ prioD p.2 = some pr
/-- one that is not, behind such priorities -/
def WrongJ (m : Nat) (seen : List Int) (p : Dt × Dt) : Prop := (∃ ty, tyD p.1 = some ty) ∧ (∀ z, p.1 = .str z → z.length ≤ 1000) ∧
  (wordD p.1 = false ∨ (wordD p.1 = true ∧ Nice (m + 1) p.2 ∧ (jobD m p.2 = false ∨ ∃ pr, jobD m p.2 = true ∧ prioD p.2 = some pr ∧ pr ∈ seen)))
theorem word_key {d : Dt} (h : wordD d = true) : ∃ z, d = .str z ∧ wordT z = true := by
  cases d <;> first | exact ⟨_, rfl, h⟩ | cases h
theorem word_len {z : Str} (h : wordT z = true) : z.length ≤ 8 := by
  unfold wordT at h
  simp only [Bool.and_eq_true, decide_eq_true_eq] at h
  exact h.2.1
variable [Wd]
def cCJ (m : Nat) (CJ : Addr) : Ct := fun rs n Q X => ∃ d, rs = [.ro d] ∧
  ((((∃ ty, tyD d = some ty ∧ ty ≠ "dict") ∨ d = .dic []) ∧ X CJ "job" .non n) ∨
   (∃ (es good : List (Dt × Dt)) (p : Dt × Dt) (rest : List (Dt × Dt)) (prs : List Int), d = .mix es ∧ es.length ≤ 60 ∧ es = good ++ p :: rest ∧ Paired (RightJ m) good prs ∧ prs.Nodup ∧ WrongJ m prs p ∧ X CJ "job" p.1 n) ∨
   ∃ (kvs : List (Key × Dt)) (prs : List Int), d = .dic kvs ∧ kvs ≠ [] ∧ kvs.length ≤ 60 ∧ (kvs.map (·.1)).Nodup ∧ Paired (fun (p : Key × Dt) pr => RightJ m (keyT p.1, p.2) pr) kvs prs ∧ prs.Nodup ∧ Q (.ro .non) n)
section
variable {P : Program} {K : PySem.W.Frag} {mg : Str → Option Value} {base : Heap} {f g : Addr} {fd gd : FuncData} {CJ : Addr}
theorem scCJ : FnScope ["jobs", "seen", "job"] ["jobs"] (defScope sCJ) := ⟨rfl, rfl, rfl, by decide +kernel, rfl, by decide +kernel, by decide +kernel⟩
theorem ok_cj (m : Nat) (F : Fun K "check_jobs" "check_jobs" sCJ f fd) (cW : DL.Cl Wd.P Wd.w K mg base CX0 1 "is_word" (spC cWord)) (cJ : DL.Cl Wd.P Wd.w K mg base CX0 (m + 4) "is_job" (spC (cJob m))) (T : ErrK.Err Wd.P Wd.w K mg base "BadJobs" "job" CJ) (gI : mg "isinstance" = none) (g_dict : mg "dict" = none) (g_set : mg "set" = none) :
    FnOk Wd.P Wd.w K mg base (L2.CX Wd.P Wd.w) (m + 6) f fd ["jobs"] (spC (cCJ m CJ)) := by
  have l63 := sizeLine_eq
  refine okCX F scCJ (fun rs n Qd Xd h => ?_) (fun cdv A outer s H E Xd hr => ?_)
  · obtain ⟨d, rfl, _⟩ := h
    rfl
  · refine ⟨_, (dss_cons (ds_if (DW.t (dw_or (dt_not (dt_val (dr_isi (K := K) "dict" (fun _ _ h => pe_callB call_isiZ (by rfl) gI (by decide +kernel) (pa_cons h (pa_cons (pe_bltn (v := .ty "dict") (by rfl) g_dict (by decide +kernel) rfl) pa_nil))) (db_var fun _ => pv 0)))) (dw_or1 (dt_not (dt_truthX K (db_var fun _ => pv 0)))))) (dss_one (ds_raise (fun _ _ h => ps_raise rfl (takes_of rfl rfl rfl rfl) (ErrK.pmk_err T (hr.mono (by omega)) h)) (dr_c (fun _ => pe_non) fun _ _ => .non))) dss_nil) (dss_cons (ds_set (i := 1) (fun _ _ h => ps_set (i := 1) scCJ.nd rfl (Or.inl rfl) h) (de_set0 fun _ => pe_callTy0 cr_set0K (by rfl) g_set (by decide +kernel))) (dss_one (ds_for (vs := [2]) (fun _ => passes_of rfl) (fun _ => rfl) (di_keysX (dr_var fun _ => pv 0) fun _ _ h => K01.pi_keysX h) (dg_name (i := 2) (fun _ => pg_name (i := 2) scCJ.nd rfl (Or.inl rfl)) (by decide)) (dss_cons (ds_if (DW.t (dw_or (dt_not (dt_val (DE.r (de_call (fun _ _ h => DL.pe_cl cW hr (by omega) pass0 h) (DA.cons (dr_var fun _ => pv 2) DA.nil))))) (dw_or (dt_not (dt_val (DE.r (de_call (fun _ _ h => DL.pe_cl cJ hr (by omega) pass0 h) (DA.cons (dr_dgetX (fun _ _ _ h1 h2 => K01.pe_dgetX2 (room16 hr) h1 h2 fun _ _ => rfl) (dr_var fun _ => pv 0) (dr_var fun _ => pv 2)) DA.nil))))) (dw_or1 (dt_sin (i := 1) (fun _ _ h => pt_cmpR or_sinK h (pv 1) (by rfl)) (dr_ix (K := K) (fun _ _ _ h1 h2 => pe_ix ix_seq h1 h2 fun _ _ => rfl) (dr_dgetX (fun _ _ _ h1 h2 => K01.pe_dgetX2 (room16 hr) h1 h2 fun _ _ => rfl) (dr_var fun _ => pv 0) (dr_var fun _ => pv 2)) (dr_c (fun _ => pe_int) fun _ _ => .int 0))))))) (dss_one (ds_raise (fun _ _ h => ps_raise rfl (takes_of rfl rfl rfl rfl) (ErrK.pmk_err T (hr.mono (by omega)) h)) (dr_var fun _ => pv 2))) dss_nil) (dss_one (ds_sadd (i := 1) (fun _ _ h => ps_expr (pe_saddK (pv 1) (pa_cons h pa_nil))) (dr_ix (K := K) (fun _ _ _ h1 h2 => pe_ix ix_seq h1 h2 fun _ _ => rfl) (dr_dgetX (fun _ _ _ h1 h2 => K01.pe_dgetX2 (room16 hr) h1 h2 fun _ _ => rfl) (dr_var fun _ => pv 0) (dr_var fun _ => pv 2)) (dr_c (fun _ => pe_int) fun _ _ => .int 0))))))))), fun rs n Qd h => ?_⟩
    obtain ⟨d, rfl, h⟩ := h
    -- the tests of one entry
    rcases h with ⟨h, x⟩ | ⟨es, good, p, rest, prs, rfl, el, ees, hg, np, wr, x⟩ | ⟨kvs, prs, rfl, ne, kl, ndk, hr2, np, q⟩
    · rcases h with ⟨ty, hd, nd⟩ | rfl
      · have kb : kitB ty "dict" = some false := by
          rcases ty_cases hd with ⟨rfl, rfl⟩ | ⟨rfl, b, rfl⟩ | ⟨rfl, b, rfl⟩ | ⟨rfl, b, rfl⟩ | ⟨rfl, b, rfl⟩ | ⟨rfl, b, rfl⟩ | ⟨rfl, b, rfl⟩ <;> first | decide +kernel | exact absurd rfl nd
        exact ⟨d, .ro d, rfl, rfl, ty, false, tyZ_of hd, kb, _, rfl, dT (dT x)⟩
      · refine ⟨_, _, rfl, rfl, "dict", true, rfl, by decide +kernel, _, rfl, dF ?_⟩
        exact ⟨_, _, rfl, rfl, false, rfl, dT x⟩
    · have tx : truX (.mix es) = some true := by
        show (if es.length ≤ 1000 then some (!es.isEmpty) else none) = some true
        rw [if_pos (by omega), ees]
        cases good <;> rfl
      refine ⟨_, _, rfl, rfl, "dict", true, rfl, by decide +kernel, _, rfl, dF ?_⟩
      refine ⟨_, _, rfl, rfl, true, tx, ?_⟩
      refine dF ?_
      refine ⟨_, rfl, es.map (·.1), rfl, ?_⟩
      refine dFor_go (fun ds' n' δ' => ∃ (pre good' : List (Dt × Dt)) (ps1 ps2 : List Int) (S : Key → Bool) (c : Nat) (x2 : Sl), good = pre ++ good' ∧ prs = ps1 ++ ps2 ∧ Paired (RightJ m) good' ps2 ∧ ds' = (good' ++ p :: rest).map (·.1) ∧ n' = n ∧ (∀ k, S k = true ↔ k ∈ ps1.map Sum.inl) ∧ c ≤ pre.length ∧ δ' = [.ro (.mix es), .own (.set S c), x2]) ?_ ?_ ⟨[], good, [], prs, _, 0, .no, rfl, rfl, hg, by rw [ees], rfl, (fun k => by simp), Nat.le_refl _, rfl⟩
      · rintro n' δ' ⟨pre, good', ps1, ps2, S, c, x2, e1, e2, e3, e4, rfl, _, _, rfl⟩
        exfalso
        have := congrArg List.length e4
        simp at this
      · rintro y r n' δ' R hR ⟨pre, good', ps1, ps2, S, c, x2, e1, e2, e3, e4, rfl, hS, hc, rfl⟩
        cases e3 with
        | nil =>
          rw [List.nil_append, List.map_cons] at e4
          injection e4 with e5 e6
          subst e5 e6
          rw [List.append_nil] at e1 e2
          subst e2
          have at_ : es[pre.length]? = some p := by
            rw [ees, e1]
            simp
          obtain ⟨⟨ty, hty⟩, hlen, wr⟩ := wr
          refine ⟨_, rfl, p.1, ty, rfl, hty, hlen, _, rfl, wordD p.1, rfl, dB (fun e => dT ⟨_, rfl, x⟩) fun e => ?_⟩
          have e : wordD p.1 = true := by simpa using e
          obtain ⟨z, ez, wz⟩ := word_key e
          rcases wr with w | ⟨_, nc, wr⟩
          · rw [e] at w
            cases w
          · have at2 : atD (.mix es) p.1 p.2 := .inr ⟨es, pre.length, rfl, by rw [at_], .inr ⟨_, by rw [ez]; rfl⟩⟩
            refine ⟨_, rfl, _, rfl, p.2, at2, p.2, rfl, nc, _, rfl, jobD m p.2, rfl, dB (fun e => dT ⟨_, rfl, x⟩) fun e => ?_⟩
            have e : jobD m p.2 = true := by simpa using e
            rcases wr with w | ⟨pr, _, ep, hin⟩
            · rw [e] at w
              cases w
            · obtain ⟨i, ds, eds, epr⟩ := jobD_prio e
              rw [ep] at epr
              cases epr
              refine ⟨_, rfl, _, rfl, p.2, at2, _, 0, .int pr, eds, rfl, atI_nat (j := 0) rfl, .inl pr, S, c, rfl, rfl, ?_⟩
              rw [(hS _).mpr (List.mem_map.mpr ⟨pr, hin, rfl⟩)]
              exact dT ⟨_, rfl, x⟩
        | cons h1 h2 =>
          rename_i g pr good' ps2
          rw [List.cons_append, List.map_cons] at e4
          injection e4 with e5 e6
          subst e5 e6
          have at_ : es[pre.length]? = some g := by
            rw [ees, e1]
            simp
          obtain ⟨z, ez, wz, nc, jt, ep⟩ := h1
          obtain ⟨i, ds, eds, epr⟩ := jobD_prio jt
          rw [ep] at epr
          cases epr
          have at2 : atD (.mix es) g.1 g.2 := .inr ⟨es, pre.length, rfl, by rw [at_], .inr ⟨_, by rw [ez]; rfl⟩⟩
          have new : pr ∉ ps1 := fun h => by
            rw [e2, List.nodup_append] at np
            exact np.2.2 _ h pr (by simp) rfl
          have nin : S (.inl pr) = false := by
            cases w : S (.inl pr) with
            | false => rfl
            | true =>
              obtain ⟨q, hq, e⟩ := List.mem_map.mp ((hS _).mp w)
              cases e
              exact absurd hq new
          have wl := word_len wz
          refine ⟨_, rfl, g.1, "str", rfl, by rw [ez]; rfl, (fun y hy => by rw [ez] at hy; cases hy; omega), _, rfl, true, by rw [ez]; exact congrArg Dt.bl wz, ?_⟩
          refine dF ?_
          refine ⟨_, rfl, _, rfl, g.2, at2, g.2, rfl, nc, _, rfl, true, by rw [jt], ?_⟩
          refine dF ?_
          refine ⟨_, rfl, _, rfl, g.2, at2, _, 0, .int pr, eds, rfl, atI_nat (j := 0) rfl, .inl pr, S, c, rfl, rfl, ?_⟩
          rw [nin]
          refine dF ?_
          have lg : pre.length ≤ 60 := by
            rw [ees, e1, List.length_append, List.length_append] at el
            omega
          refine ⟨⟨S, c, rfl⟩, _, rfl, _, rfl, g.2, at2, _, 0, .int pr, eds, rfl, atI_nat (j := 0) rfl, S, c, .inl pr, rfl, rfl, (show c + 1 < 4096 by omega), ?_⟩
          refine hR _ _ ⟨pre ++ [g], good', ps1 ++ [pr], ps2, _, _, _, by rw [e1, List.append_assoc]; rfl, by rw [e2, List.append_assoc]; rfl, h2, rfl, rfl, fun k => ?_, ?_, rfl⟩
          · show (S k || decide (k = Sum.inl pr)) = true ↔ _
            rw [Bool.or_eq_true, hS, decide_eq_true_iff, List.map_append, List.mem_append]
            simp
          · rw [List.length_append]
            show (if S (.inl pr) = true then c else c + 1) ≤ pre.length + 1
            split <;> omega
    · have tx : truX (.dic kvs) = some true := by
        show some (!kvs.isEmpty) = some true
        cases kvs with
        | nil => exact absurd rfl ne
        | cons _ _ => rfl
      refine ⟨_, _, rfl, rfl, "dict", true, rfl, by decide +kernel, _, rfl, dF ?_⟩
      refine ⟨_, _, rfl, rfl, true, tx, ?_⟩
      refine dF ?_
      refine ⟨_, rfl, _, rfl, ?_⟩
      refine dFor_go (fun ds' n' δ' => ∃ (pre rest : List (Key × Dt)) (ps1 ps2 : List Int) (S : Key → Bool) (c : Nat) (x2 : Sl), kvs = pre ++ rest ∧ prs = ps1 ++ ps2 ∧ Paired (fun (p : Key × Dt) pr => RightJ m (keyT p.1, p.2) pr) rest ps2 ∧ ds' = rest.map (fun p => keyT p.1) ∧ n' = n ∧ (∀ k, S k = true ↔ k ∈ ps1.map Sum.inl) ∧ c ≤ pre.length ∧ δ' = [.ro (.dic kvs), .own (.set S c), x2]) ?_ ?_ ⟨[], kvs, [], prs, _, 0, .no, rfl, rfl, hr2, rfl, rfl, (fun k => by simp), Nat.le_refl _, rfl⟩
      · rintro n' δ' ⟨pre, rest, ps1, ps2, S, c, x2, e1, e2, e3, e4, rfl, _, _, rfl⟩
        exact q
      · rintro y r n' δ' R hR ⟨pre, rest, ps1, ps2, S, c, x2, e1, e2, e3, e4, rfl, hS, hc, rfl⟩
        cases e3 with
        | nil => cases e4
        | cons h1 h2 =>
          rename_i g pr rest ps2
          obtain ⟨gk, gv⟩ := g
          rw [List.map_cons] at e4
          injection e4 with e5 e6
          subst e5 e6
          obtain ⟨z, ez, wz, nc, jt, ep⟩ := h1
          have ez : keyT gk = .str z := ez
          have nc : Nice (m + 1) gv := nc
          have jt : jobD m gv = true := jt
          have ep : prioD gv = some pr := ep
          obtain ⟨i, ds, eds, epr⟩ := jobD_prio jt
          rw [ep] at epr
          cases epr
          have hv : valD kvs gk = some gv := by
            rw [e1]
            refine valD_at fun w => ?_
            rw [e1, List.map_append, List.nodup_append] at ndk
            exact ndk.2.2 _ w gk (by simp) rfl
          have at2 : atD (.dic kvs) (keyT gk) gv := .inl ⟨kvs, gk, rfl, by cases gk <;> rfl, hv⟩
          have new : pr ∉ ps1 := fun h => by
            rw [e2, List.nodup_append] at np
            exact np.2.2 _ h pr (by simp) rfl
          have nin : S (.inl pr) = false := by
            cases w : S (.inl pr) with
            | false => rfl
            | true =>
              obtain ⟨q, hq, e⟩ := List.mem_map.mp ((hS _).mp w)
              cases e
              exact absurd hq new
          have wl := word_len wz
          refine ⟨_, rfl, keyT gk, "str", rfl, by rw [ez]; rfl, (fun y hy => by rw [ez] at hy; cases hy; omega), _, rfl, true, by rw [ez]; exact congrArg Dt.bl wz, ?_⟩
          refine dF ?_
          refine ⟨_, rfl, _, rfl, gv, at2, gv, rfl, nc, _, rfl, true, by rw [jt], ?_⟩
          refine dF ?_
          refine ⟨_, rfl, _, rfl, gv, at2, _, 0, .int pr, eds, rfl, atI_nat (j := 0) rfl, .inl pr, S, c, rfl, rfl, ?_⟩
          rw [nin]
          refine dF ?_
          have lg : pre.length ≤ 60 := by
            rw [e1, List.length_append] at kl
            omega
          refine ⟨⟨S, c, rfl⟩, _, rfl, _, rfl, gv, at2, _, 0, .int pr, eds, rfl, atI_nat (j := 0) rfl, S, c, .inl pr, rfl, rfl, (show c + 1 < 4096 by omega), ?_⟩
          refine hR _ _ ⟨pre ++ [(gk, gv)], rest, ps1 ++ [pr], ps2, _, _, _, by rw [e1, List.append_assoc]; rfl, by rw [e2, List.append_assoc]; rfl, h2, rfl, rfl, fun k => ?_, ?_, rfl⟩
          · show (S k || decide (k = Sum.inl pr)) = true ↔ _
            rw [Bool.or_eq_true, hS, decide_eq_true_iff, List.map_append, List.mem_append]
            simp
          · rw [List.length_append]
            show (if S (.inl pr) = true then c else c + 1) ≤ pre.length + 1
            split <;> omega
end
end K59
/-! ## K59s -/
set_option Elab.async false
set_option linter.all false
set_option maxRecDepth 100000
set_option maxHeartbeats 4000000
/-! k59: drawn jobs. -/
namespace K59
open PySem PySem.Spec PyProof.Rows L2 DL
abbrev sLJ : Stmt := tp 43
abbrev wordsL : List Str := ["a", "b", "c", "job", "zz", "high", "low"]
abbrev priosL : List Int := [1, 2, 3, 4, 5, 7, 9, 20]
abbrev thingsL : List Str := ["t", "u", "lock"]
/-- a drawn job: priority, distance, body -/
structure OneJ (e : Key × Dt) (z : Str) (p : Int) (q : Int) (ps : List Part) : Prop where
  eq : e = (Sum.inr z, .tup [.int p, .int q, .tup (partsT ps)])
  q1 : 1 ≤ q
  wf : Wf 3 thingsL ps
/-- drawn jobs, their words and priorities -/
def LawJ (kvs : List (Key × Dt)) (zs : List Str) (prs : List Int) : Prop := Paired (fun e (zp : Str × Int) => ∃ q ps, OneJ e zp.1 zp.2 q ps) kvs (zs.zip prs) ∧ zs.length = prs.length ∧ zs.Nodup ∧ prs.Nodup ∧ (∀ z ∈ zs, z ∈ wordsL) ∧ ∀ p ∈ prs, p ∈ priosL
theorem wf_lawf : ∀ (m : Nat) (ts : List Str) (ps : List Part), (∀ t ∈ ts, wordT t = true) → Wf m ts ps → Lawf m ps
  | 0, _, _, _, h => h
  | m + 1, ts, ps, hw, ⟨h1, h2, h3⟩ => ⟨h1, h2, fun p hp => by
    have hq := h3 p hp
    cases p with
    | unit k => exact hq
    | inn t b =>
      obtain ⟨ht, left, hl, wf⟩ := hq
      exact ⟨hw t ht, wf_lawf m left b (fun x hx => hw x (hl x hx).1) wf⟩⟩
theorem paired_app {α β : Type} {F : α → β → Prop} : ∀ {xs xs' : List α} {ys ys' : List β}, Paired F xs ys → Paired F xs' ys' → Paired F (xs ++ xs') (ys ++ ys')
  | _, _, _, _, .nil, h => h
  | _, _, _, _, .cons h1 h2, h => .cons h1 (paired_app h2 h)
theorem perm_map {α β : Type} {f : α → β} {m es : List β} (h : es.Perm m) : ∀ l : List α, m = l.map f → ∃ l' : List α, l'.Perm l ∧ es = l'.map f := by
  induction h with
  | nil =>
    intro l e
    cases l with
    | nil => exact ⟨[], .nil, rfl⟩
    | cons _ _ => cases e
  | cons x h ih =>
    intro l e
    cases l with
    | nil => cases e
    | cons a l =>
      injection e with e1 e2
      obtain ⟨l', p, e3⟩ := ih l e2
      exact ⟨a :: l', p.cons a, by rw [e1, e3]; rfl⟩
  | swap x y l0 =>
    intro l e
    cases l with
    | nil => cases e
    | cons a l =>
      injection e with e1 e2
      cases l with
      | nil => cases e2
      | cons b l =>
        injection e2 with e2 e3
        exact ⟨b :: a :: l, .swap .., by rw [e1, e2, e3]; rfl⟩
  | trans h1 h2 ih1 ih2 =>
    intro l e
    obtain ⟨l', p, e'⟩ := ih2 l e
    obtain ⟨l2, p2, e2⟩ := ih1 l' e'
    exact ⟨l2, p2.trans p, e2⟩
variable [Wd]
def cLJ : Ct := fun rs n Q _ => ∃ k : Nat, rs = [.pool, .ro (.int (k : Nat))] ∧ 1 ≤ k ∧ k ≤ 4 ∧ n + 500 ≤ 10000 ∧ ∀ kvs zs prs n', LawJ kvs zs prs → zs.length = k → n' ≤ n + 500 → Q (.own (.dic kvs)) n'
section
variable {P : Program} {K : PySem.W.Frag} {mg : Str → Option Value} {base : Heap} {f g : Addr} {fd gd : FuncData}
theorem scLJ : FnScope ["pool", "many", "words", "order", "found", "word", "priority", "body", "cost"] ["pool", "many"] (defScope sLJ) := ⟨rfl, rfl, rfl, by decide +kernel, rfl, by decide +kernel, by decide +kernel⟩
theorem ok_lj (F : Fun K "_law_jobs" "_law_jobs" sLJ f fd) (cT : DL.Cl P Wd.w K mg base CX0 1 "_law_take" (spC cTake)) (cX : DL.Cl P Wd.w K mg base CX0 2 "_law_mixed" (spC cMixed)) (cB : DL.Cl P Wd.w K mg base CX0 6 "_law_body" (spC (cBody 3))) (cU : DL.Cl P Wd.w K mg base CX0 5 "_law_units" (spC (cUnits 3))) (gL : mg "len" = none) (g_zip : mg "zip" = none) :
    FnOk P Wd.w K mg base CX0 7 f fd ["pool", "many"] (spC cLJ) := by
  have l63 := sizeLine_eq
  refine okC F scLJ (fun rs n Qd Xd h => ?_) (fun cdv A outer s H E Xd hr => ?_)
  · obtain ⟨k, rfl, _⟩ := h
    rfl
  · refine ⟨_, (dss_cons (ds_set (i := 2) (fun _ _ h => ps_set (i := 2) scLJ.nd rfl (Or.inl rfl) h) (de_sliceTo (K := K) (fun _ _ _ h1 h2 => pe_slice sl_list h1 po_none (po_some h2)) (DE.r (de_call (fun _ _ h => DL.pe_cl cX hr (by omega) pass0 h) (DA.pool (de_pool fun _ => pv 0) (DA.cons (DE.r (de_lst (DA.cons (dr_c (fun _ => pe_str) fun _ _ => .str "a") (DA.cons (dr_c (fun _ => pe_str) fun _ _ => .str "b") (DA.cons (dr_c (fun _ => pe_str) fun _ _ => .str "c") (DA.cons (dr_c (fun _ => pe_str) fun _ _ => .str "job") (DA.cons (dr_c (fun _ => pe_str) fun _ _ => .str "zz") (DA.cons (dr_c (fun _ => pe_str) fun _ _ => .str "high") (DA.cons (dr_c (fun _ => pe_str) fun _ _ => .str "low") DA.nil))))))))) DA.nil)))) (dr_var fun _ => pv 1))) (dss_cons (ds_par (i := 3) (j := 4) (fun _ _ h => ps_par (by rfl) scLJ.nd rfl rfl (by decide) rfl rfl h (by rfl)) (de_sliceTo (K := K) (fun _ _ _ h1 h2 => pe_slice sl_list h1 po_none (po_some h2)) (DE.r (de_call (fun _ _ h => DL.pe_cl cX hr (by omega) pass0 h) (DA.pool (de_pool fun _ => pv 0) (DA.cons (DE.r (de_lst (DA.cons (dr_c (fun _ => pe_int) fun _ _ => .int 1) (DA.cons (dr_c (fun _ => pe_int) fun _ _ => .int 2) (DA.cons (dr_c (fun _ => pe_int) fun _ _ => .int 3) (DA.cons (dr_c (fun _ => pe_int) fun _ _ => .int 4) (DA.cons (dr_c (fun _ => pe_int) fun _ _ => .int 5) (DA.cons (dr_c (fun _ => pe_int) fun _ _ => .int 7) (DA.cons (dr_c (fun _ => pe_int) fun _ _ => .int 9) (DA.cons (dr_c (fun _ => pe_int) fun _ _ => .int 20) DA.nil)))))))))) DA.nil)))) (dr_var fun _ => pv 1)) de_dic) (dss_cons (ds_for (vs := [5, 6]) (fun _ => PassesOwn.never) (fun _ => rfl) (di_zip (K := K) (DA.cons (dr_rel fun _ => pv 2) (DA.cons (dr_rel fun _ => pv 3) DA.nil)) fun _ _ h => pi_zip (by rfl) g_zip h) (dg_tup (K := K) (m := 2) (dgs_cons (dg_name (i := 5) (fun _ => pg_name (i := 5) scLJ.nd rfl (Or.inl rfl)) (by decide)) (dgs_cons (dg_name (i := 6) (fun _ => pg_name (i := 6) scLJ.nd rfl (Or.inl rfl)) (by decide)) dgs_nil)) (fun _ _ h => pg_tup (by rfl) h)) (dss_cons (ds_set (i := 7) (fun _ _ h => ps_set (i := 7) scLJ.nd rfl (Or.inl rfl) h) (de_call (fun _ _ h => DL.pe_cl cB hr (by omega) pass0 h) (DA.pool (de_pool fun _ => pv 0) (DA.cons (DE.r (de_lst (DA.cons (dr_c (fun _ => pe_str) fun _ _ => .str "t") (DA.cons (dr_c (fun _ => pe_str) fun _ _ => .str "u") (DA.cons (dr_c (fun _ => pe_str) fun _ _ => .str "lock") DA.nil))))) (DA.cons (dr_c (fun _ => pe_int) fun _ _ => .int 0) DA.nil))))) (dss_cons (ds_set (i := 8) (fun _ _ h => ps_set (i := 8) scLJ.nd rfl (Or.inl rfl) h) (DR.e (dr_cb1 (fun _ _ h => pe_callB call_len (by rfl) gL PySem.boot_len h) dcall_len (DR.b (DE.r (de_call (fun _ _ h => DL.pe_cl cU hr (by omega) pass0 h) (DA.cons (dr_var fun _ => pv 7) (DA.cons (dr_tup DA.nil) DA.nil)))))))) (dss_one (ds_dput (i := 4) (fun _ _ _ h1 h2 => ps_dput (hu_of hr) (pv 4) h1 h2 rfl) (dr_var fun _ => pv 5) (dr_tup (DA.cons (dr_var fun _ => pv 6) (DA.cons (dr_op (fun _ _ _ h1 h2 => pe_op op_add h1 h2) (dop_i rfl (gd := fun i j => .int (i + j)) fun _ _ => sc_int) (dr_op (fun _ _ _ h1 h2 => pe_op op_add h1 h2) (dop_i rfl (gd := fun i j => .int (i + j)) fun _ _ => sc_int) (dr_c (fun _ => pe_int) fun _ _ => .int 1) (DR.b (DE.r (de_call (fun _ _ h => DL.pe_cl cT hr (by omega) pass0 h) (DA.pool (de_pool fun _ => pv 0) (DA.cons (dr_c (fun _ => pe_int) fun _ _ => .int 6) DA.nil)))))) (DR.b (dr_op (fun _ _ _ h1 h2 => pe_op op_mul h1 h2) (dop_int (C := CMul) (g := fun i j => .int (i * j)) (gd := fun i j => .int (i * j)) (fun _ _ _ _ h => h) fun _ _ => sc_int) (dr_var fun _ => pv 8) (DR.b (dr_op (fun _ _ _ h1 h2 => pe_op op_add h1 h2) (dop_i rfl (gd := fun i j => .int (i + j)) fun _ _ => sc_int) (dr_c (fun _ => pe_int) fun _ _ => .int 1) (DR.b (DE.r (de_call (fun _ _ h => DL.pe_cl cT hr (by omega) pass0 h) (DA.pool (de_pool fun _ => pv 0) (DA.cons (dr_var fun _ => pv 1) DA.nil)))))))))) (DA.cons (dr_var fun _ => pv 7) DA.nil))))))))) (dss_one (ds_retOwn (i := 4) fun _ => pv 4))))), fun rs n Qd h => ?_⟩
    obtain ⟨k, rfl, k1, k4, hn, q⟩ := h
    have okw : okD 64 (.lst (wordsL.map .str)) = true := ok_words (by decide +kernel)
    have oki : okD 64 (.lst (priosL.map .int)) = true := by
      rw [okD_lst, List.all_eq_true]
      intro d hd
      obtain ⟨i, _, rfl⟩ := List.mem_map.mp hd
      rw [okD]
    refine ⟨rfl, rfl, wordsL.map .str, rfl, (by show 7 ≤ sizeLine; omega), _, rfl, wordsL.map .str, rfl, (by show n + 7 ≤ 10000; omega), okw, fun es pm => ⟨_, rfl, _, rfl, es, k, rfl, rfl, ?_⟩⟩
    obtain ⟨zs, pz, rfl⟩ := perm_map pm wordsL rfl
    refine ⟨rfl, rfl, priosL.map .int, rfl, (by show 8 ≤ sizeLine; omega), _, rfl, priosL.map .int, rfl, (by show n + 7 + 8 ≤ 10000; omega), oki, fun es2 pm2 => ⟨_, rfl, _, rfl, es2, k, rfl, rfl, ?_⟩⟩
    obtain ⟨prs, pp, rfl⟩ := perm_map pm2 priosL rfl
    have zl : zs.length = 7 := pz.length_eq
    have pl : prs.length = 8 := pp.length_eq
    have zn : zs.Nodup := pz.nodup_iff.mpr (by decide +kernel)
    have pn : prs.Nodup := pp.nodup_iff.mpr (by decide +kernel)
    have hw : ∀ t ∈ thingsL, wordT t = true := by decide +kernel
    refine ⟨_, rfl, _, rfl, _, _, rfl, ?_⟩
    rw [← List.map_take, ← List.map_take]
    have ztl : (zs.take k).length = k := by rw [List.length_take]; omega
    have ptl : (prs.take k).length = k := by rw [List.length_take]; omega
    have ztn : (zs.take k).Nodup := zn.sublist (List.take_sublist _ _)
    have ptn : (prs.take k).Nodup := pn.sublist (List.take_sublist _ _)
    have zin : ∀ z ∈ zs.take k, z ∈ wordsL := fun z h => pz.subset (List.mem_of_mem_take h)
    have pin : ∀ p ∈ prs.take k, p ∈ priosL := fun p h => pp.subset (List.mem_of_mem_take h)
    generalize zs.take k = Z at *
    generalize prs.take k = PR at *
    refine dFor_go (fun ds' n' δ' => ∃ (kvs : List (Key × Dt)) (z1 z2 : List Str) (p1 p2 : List Int) (x5 x6 x7 x8 : Sl), Z = z1 ++ z2 ∧ PR = p1 ++ p2 ∧ z1.length = p1.length ∧ Paired (fun e (zp : Str × Int) => ∃ q ps, OneJ e zp.1 zp.2 q ps) kvs (z1.zip p1) ∧ kvs.map (·.1) = z1.map Sum.inr ∧ ds' = zipD (z2.map .str) (p2.map .int) ∧ n' ≤ n + 15 + 100 * z1.length ∧
      δ' = [.pool, .ro (.int (k : Nat)), .ro (.lst (Z.map .str)), .ro (.lst (PR.map .int)), .own (.dic kvs), x5, x6, x7, x8]) ?_ ?_ ⟨[], [], Z, [], PR, .no, .no, .no, .no, rfl, rfl, rfl, .nil, rfl, rfl, by show n + 7 + 8 ≤ _; omega, rfl⟩
    · rintro n' δ' ⟨kvs, z1, z2, p1, p2, x5, x6, x7, x8, e1, e2, e3, pr, hk, e4, hn', rfl⟩
      have l1 := congrArg List.length e1
      have l2 := congrArg List.length e2
      rw [List.length_append] at l1 l2
      have l3 := congrArg List.length e4
      simp [zipD] at l3
      have z2n : z2 = [] := List.eq_nil_of_length_eq_zero (by omega)
      have p2n : p2 = [] := List.eq_nil_of_length_eq_zero (by omega)
      subst z2n p2n
      rw [List.append_nil] at e1 e2
      subst e1 e2
      exact ⟨_, rfl, q kvs _ _ n' ⟨pr, e3, ztn, ptn, zin, pin⟩ ztl (by omega)⟩
    · rintro y r n' δ' R hR ⟨kvs, z1, z2, p1, p2, x5, x6, x7, x8, e1, e2, e3, pr, hk, e4, hn', rfl⟩
      have l1 := congrArg List.length e1
      have l2 := congrArg List.length e2
      rw [List.length_append] at l1 l2
      cases z2 with
      | nil => simp [zipD] at e4
      | cons z z2 =>
        cases p2 with
        | nil => simp [zipD] at e4
        | cons p p2 =>
          have e4 : y :: r = .tup [.str z, .int p] :: zipD (z2.map .str) (p2.map .int) := e4
          injection e4 with e5 e6
          subst e5 e6
          have z1l : z1.length + 1 ≤ k := by simp at l1; omega
          have nk : (Sum.inr z : Key) ∉ kvs.map (·.1) := fun h => by
            rw [hk] at h
            obtain ⟨a, ha, e⟩ := List.mem_map.mp h
            have e : a = z := Sum.inr.inj e
            subst e
            rw [e1, List.nodup_append] at ztn
            exact ztn.2.2 _ ha a (by simp) rfl
          refine ⟨_, rfl, rfl, _, _, rfl, _, _, rfl, rfl, ?_⟩
          refine ⟨rfl, rfl, thingsL.map .str, rfl, (by show 3 ≤ sizeLine; omega), _, rfl, thingsL, 0, rfl, by decide, by decide, by decide, (fun h => by omega), by decide, hw, (by show n' + 91 ≤ 10000; omega), fun ps n2 wf le => ?_⟩
          have le : n2 ≤ n' + 91 := le
          refine ⟨_, rfl, [], rfl, (by decide), ps, [], rfl, wf_lawf 3 thingsL ps hw wf, by decide, _, rfl, _, rfl, ?_⟩
          have ul := units_len 3 ps (wf_lawf 3 thingsL ps hw wf) [] 0
          have n81 : 3 ^ (3 + 1) = 81 := by decide
          refine ⟨_, rfl, rfl, rfl, 6, rfl, by omega, by decide, by decide, fun r1 a1 b1 => ⟨_, rfl, 1, r1, rfl, rfl, _, rfl, rfl, rfl, _, rfl, (k : Nat), rfl, by omega, by omega, by omega, fun r2 a2 b2 => ⟨_, rfl, 1, r2, rfl, rfl, _, _, rfl, rfl, .inl ⟨by omega, by omega⟩, _, _, rfl, rfl, _, rfl, [_, _, _], rfl, (by show 3 ≤ sizeLine; omega), ⟨_, rfl⟩, _, rfl, kvs, .inr z, rfl, rfl, ?_, ?_⟩⟩⟩
          · have := congrArg List.length hk
            simp at this
            omega
          · rw [putD_new nk]
            refine hR _ _ ⟨_, z1 ++ [z], z2, p1 ++ [p], p2, _, _, _, _, by rw [e1, List.append_assoc]; rfl, by rw [e2, List.append_assoc]; rfl, by rw [List.length_append, List.length_append, e3]; rfl, ?_, ?_, rfl, ?_, rfl⟩
            · rw [List.zip_append e3]
              refine paired_app pr (.cons ⟨_, ps, rfl, ?_, wf⟩ .nil)
              have h1 : (0 : Int) ≤ ((unitsD ps [] 0).length : Nat) := by omega
              have h2 : 0 ≤ ((unitsD ps [] 0).length : Int) * (1 + r2) := Int.mul_nonneg h1 (by omega)
              omega
            · rw [List.map_append, List.map_append, hk]
              rfl
            · rw [List.length_append]
              show n2 + 1 + 1 ≤ n + 15 + 100 * (z1.length + 1)
              omega
end
end K59
/-! ## K59t -/
set_option Elab.async false
set_option linter.all false
set_option maxRecDepth 100000
set_option maxHeartbeats 4000000
/-! k59: what jobs cost, the ceilings of things, by trees. -/
namespace K59
open PySem PySem.Spec PyProof.Rows L2 DL
/-- a job: word, priority, distance, parts -/
structure JR where
  z : Str
  p : Int
  q : Int
  ps : List Part
def JR.tup (r : JR) : Dt := .tup [.int r.p, .int r.q, .tup (partsT r.ps)]
def tbOf (rs : List JR) : List (Key × Dt) := rs.map fun r => (.inr r.z, r.tup)
def csOf (rs : List JR) : List (Key × Dt) := rs.map fun r => (.inr r.z, .int (countD r.ps))
mutual
/-- the things of a body's parts -/
def thsP : Part → List Str
  | .unit _ => []
  | .inn t b => t :: thsD b
def thsD : List Part → List Str
  | [] => []
  | p :: r => thsP p ++ thsD r
end
/-- a span with such a thing -/
def Spn (CS : Addr) (d : Dt) (t : Str) : Prop := ∃ path f s, d = .ins CS (spanN.zip [path, .str t, f, s])
mutual
theorem spansP_ths (CS : Addr) (path : List Dt) (i : Nat) (first : Int) : ∀ p : Part, Paired (Spn CS) (spansP CS path i first p) (thsP p)
  | .unit _ => by
    rw [spansP, thsP]
    exact .nil
  | .inn t b => by
    rw [spansP, thsP]
    exact .cons ⟨_, _, _, rfl⟩ (spansD_ths CS _ 0 first b)
theorem spansD_ths (CS : Addr) (path : List Dt) (i : Nat) (first : Int) : ∀ ps : List Part, Paired (Spn CS) (spansD CS path i first ps) (thsD ps)
  | [] => by
    rw [spansD, thsD]
    exact .nil
  | p :: r => by
    rw [spansD, thsD]
    exact paired_app (spansP_ths CS path i first p) (spansD_ths CS path (i + 1) _ r)
end
def evsJ (r : JR) : List (Str × Int) := (thsD r.ps).map fun t => (t, r.p)
def evs (rs : List JR) : List (Str × Int) := rs.flatMap evsJ
/-- the table of the greatest -/
structure CeilOf (es : List (Str × Int)) (D : List (Key × Dt)) : Prop where
  keys : ∀ e ∈ D, ∃ z i, e = (.inr z, .int i)
  nd : (D.map (·.1)).Nodup
  len : D.length ≤ es.length
  yes : ∀ z m, valD D (.inr z) = some (.int m) → (z, m) ∈ es ∧ ∀ p, (z, p) ∈ es → p ≤ m
  no : ∀ z, valD D (.inr z) = none → ∀ p, (z, p) ∉ es
theorem valD_mapK {k k' : Key} {d : Dt} : ∀ {D : List (Key × Dt)}, valD (D.map fun kv => if kv.1 = k then (kv.1, d) else kv) k' = if k = k' then (if (valD D k').isSome then some d else none) else valD D k'
  | [] => by simp [valD]
  | (k0, d0) :: r => by
    rw [List.map_cons]
    by_cases e : k0 = k
    · subst e
      simp only [if_true, valD]
      by_cases e2 : k0 = k'
      · simp [e2]
      · simp only [e2, if_false]
        rw [valD_mapK]
        simp [e2]
    · simp only [e, if_false, valD]
      by_cases e2 : k0 = k'
      · subst e2
        have e' : ¬ k = k0 := fun z => e z.symm
        simp [e']
      · simp only [e2, if_false]
        exact valD_mapK
theorem valD_app {k' : Key} {b : List (Key × Dt)} : ∀ {a : List (Key × Dt)}, valD (a ++ b) k' = match valD a k' with | some d => some d | none => valD b k'
  | [] => rfl
  | (k0, d0) :: r => by
    rw [List.cons_append, valD, valD]
    by_cases e : k0 = k'
    · simp [e]
    · simp only [e, if_false]
      exact valD_app
theorem any_val {k : Key} : ∀ {D : List (Key × Dt)}, (D.any fun kv => decide (kv.1 = k)) = (valD D k).isSome
  | [] => rfl
  | (k0, d0) :: r => by
    rw [List.any_cons, valD]
    by_cases e : k0 = k
    · simp [e]
    · simp only [e, if_false, decide_false, Bool.false_or]
      exact any_val
theorem valD_put {k k' : Key} {d : Dt} {D : List (Key × Dt)} : valD (putD D k d) k' = if k = k' then some d else valD D k' := by
  unfold putD
  rw [any_val]
  by_cases h : (valD D k).isSome = true
  · rw [if_pos h, valD_mapK]
    by_cases e : k = k'
    · subst e
      simp [h]
    · simp [e]
  · rw [if_neg h, valD_app]
    have hn : valD D k = none := by simpa using h
    by_cases e : k = k'
    · subst e
      simp [hn, valD]
    · simp only [e, if_false, valD]
      cases valD D k' <;> rfl
theorem put_keys {k : Key} {d : Dt} {D : List (Key × Dt)} : (putD D k d).map (·.1) = if (valD D k).isSome then D.map (·.1) else D.map (·.1) ++ [k] := by
  unfold putD
  rw [any_val]
  split
  · rw [List.map_map]
    refine List.map_congr_left fun kv _ => ?_
    show (if kv.1 = k then (kv.1, d) else kv).1 = kv.1
    split <;> rfl
  · rw [List.map_append]
    rfl
theorem val_mem {k : Key} : ∀ {D : List (Key × Dt)}, valD D k = none → k ∉ D.map (·.1)
  | [], _ => by simp
  | (k0, d0) :: r, h => by
    rw [valD] at h
    by_cases e : k0 = k
    · simp [e] at h
    · simp only [e, if_false] at h
      rw [List.map_cons, List.mem_cons]
      rintro (z | z)
      · exact e z.symm
      · exact val_mem h z
theorem val_in {k : Key} {d : Dt} : ∀ {D : List (Key × Dt)}, valD D k = some d → (k, d) ∈ D
  | [], h => by cases h
  | (k0, d0) :: r, h => by
    rw [valD] at h
    by_cases e : k0 = k
    · simp [e] at h
      rw [e, h]
      exact List.mem_cons_self
    · simp only [e, if_false] at h
      exact List.mem_cons_of_mem _ (val_in h)
theorem CeilOf.nil : CeilOf [] [] := ⟨fun e h => (by cases h), List.nodup_nil, Nat.le_refl _, fun z m h => (by cases h), fun z h p => (by simp)⟩
/-- what a name stands for, or 0 -/
def getC (D : List (Key × Dt)) (z : Str) : Int := match valD D (.inr z) with
  | some (.int i) => i
  | _ => 0
theorem CeilOf.val {es : List (Str × Int)} {D : List (Key × Dt)} (c : CeilOf es D) (z : Str) : valD D (.inr z) = none ∨ ∃ m, valD D (.inr z) = some (.int m) := by
  cases h : valD D (.inr z) with
  | none => exact .inl rfl
  | some d =>
    obtain ⟨z', i, e⟩ := c.keys _ (val_in h)
    cases e
    exact .inr ⟨_, rfl⟩
theorem CeilOf.put {es : List (Str × Int)} {D : List (Key × Dt)} (c : CeilOf es D) (z : Str) {p : Int} (hp : 1 ≤ p) : CeilOf (es ++ [(z, p)]) (putD D (.inr z) (.int (if p > getC D z then p else getC D z))) := by
  have big : ∀ p', (z, p') ∈ es → p' ≤ getC D z := fun p' hp' => by
    unfold getC
    rcases c.val z with h | ⟨m, h⟩
    · exact absurd hp' (c.no z h p')
    · rw [h]
      exact (c.yes z m h).2 p' hp'
  refine ⟨fun e he => ?_, ?_, ?_, fun z' m h => ?_, fun z' h p' hp' => ?_⟩
  · unfold putD at he
    split at he
    · obtain ⟨kv, hkv, rfl⟩ := List.mem_map.mp he
      obtain ⟨z1, i1, rfl⟩ := c.keys kv hkv
      by_cases e : (Sum.inr z1 : Key) = .inr z
      · rw [if_pos e]
        exact ⟨_, _, rfl⟩
      · rw [if_neg e]
        exact ⟨_, _, rfl⟩
    · rcases List.mem_append.mp he with h | h
      · exact c.keys e h
      · rw [List.mem_singleton.mp h]
        exact ⟨_, _, rfl⟩
  · rw [put_keys]
    split
    · exact c.nd
    · rename_i h
      have hn : valD D (.inr z) = none := by simpa using h
      rw [List.nodup_append]
      exact ⟨c.nd, by simp, fun a ha b hb e => by rw [List.mem_singleton.mp hb] at e; exact val_mem hn (by rw [← e]; exact ha)⟩
  · have e := congrArg List.length (put_keys (k := .inr z) (d := .int (if p > getC D z then p else getC D z)) (D := D))
    rw [List.length_map] at e
    rw [e, List.length_append]
    have := c.len
    split
    · rw [List.length_map]
      omega
    · rw [List.length_append, List.length_map]
      simp
      omega
  · rw [valD_put] at h
    by_cases e : (Sum.inr z : Key) = .inr z'
    · cases e
      rw [if_pos rfl] at h
      injection h with h
      injection h with h
      by_cases g : p > getC D z
      · rw [if_pos g] at h
        subst h
        refine ⟨by simp, fun p' hp' => ?_⟩
        rcases List.mem_append.mp hp' with q | q
        · have := big p' q
          omega
        · cases List.mem_singleton.mp q
          exact Int.le_refl _
      · rw [if_neg g] at h
        subst h
        have m0 : 1 ≤ getC D z := by omega
        refine ⟨List.mem_append_left _ ?_, fun p' hp' => ?_⟩
        · unfold getC at m0 ⊢
          rcases c.val z with h | ⟨m, h⟩
          · rw [h] at m0
            exact absurd m0 (by decide)
          · rw [h]
            exact (c.yes z m h).1
        · rcases List.mem_append.mp hp' with q | q
          · exact big p' q
          · cases List.mem_singleton.mp q
            omega
    · rw [if_neg e] at h
      obtain ⟨h1, h2⟩ := c.yes z' m h
      refine ⟨List.mem_append_left _ h1, fun p' hp' => ?_⟩
      rcases List.mem_append.mp hp' with q | q
      · exact h2 p' q
      · cases List.mem_singleton.mp q
        exact absurd rfl e
  · rw [valD_put] at h
    by_cases e : (Sum.inr z : Key) = .inr z'
    · rw [if_pos e] at h
      cases h
    · rw [if_neg e] at h
      rcases List.mem_append.mp hp' with q | q
      · exact c.no z' h p' q
      · cases List.mem_singleton.mp q
        exact e rfl
/-- two tables of the same events, in any order -/
theorem CeilOf.same {es es' : List (Str × Int)} {D D' : List (Key × Dt)} (c : CeilOf es D) (c' : CeilOf es' D') (h : ∀ e, e ∈ es ↔ e ∈ es') (z : Str) : valD D (.inr z) = valD D' (.inr z) := by
  rcases c.val z with h1 | ⟨m, h1⟩ <;> rcases c'.val z with h2 | ⟨m', h2⟩
  · rw [h1, h2]
  · exact absurd ((h _).mpr (c'.yes z m' h2).1) (c.no z h1 m')
  · exact absurd ((h _).mp (c.yes z m h1).1) (c'.no z h2 m)
  · rw [h1, h2]
    obtain ⟨a1, a2⟩ := c.yes z m h1
    obtain ⟨b1, b2⟩ := c'.yes z m' h2
    have := a2 m' ((h _).mpr b1)
    have := b2 m ((h _).mp a1)
    have e : m = m' := by omega
    rw [e]
end K59
/-! ## K59u -/
set_option Elab.async false
set_option linter.all false
set_option maxRecDepth 100000
set_option maxHeartbeats 4000000
/-! k59: Jobs.__init__, what it works on. -/
namespace K59
open PySem PySem.Spec PyProof.Rows L2 DL
abbrev sInit : Stmt := inClass sJobsC 0
abbrev bInit (i : Nat) : Stmt := (defBody sInit).getD i (.Pass ⟨0, 0, 0, 0⟩)
/-- an entry of the jobs that are handed, and the job -/
structure GoodE (mj : Nat) (e : Key × Dt) (r : JR) : Prop where
  key : e.1 = .inr r.z
  right : RightJ mj (keyT e.1, e.2) r.p
  lawf : Lawf 3 r.ps
  fit : Fit 3 r.ps
  el : ∃ b bs, elemD e.2 = some [.int r.p, .int r.q, b] ∧ elemD b = some bs ∧ IsParts bs r.ps
  p1 : 1 ≤ r.p
structure GoodJ (mj : Nat) (kvs : List (Key × Dt)) (rs : List JR) : Prop where
  pr : Paired (GoodE mj) kvs rs
  nz : (rs.map (·.z)).Nodup
  np : (rs.map (·.p)).Nodup
  ne : kvs ≠ []
  len : kvs.length ≤ 60
theorem goodJ_keys {mj : Nat} : ∀ {kvs : List (Key × Dt)} {rs : List JR}, Paired (GoodE mj) kvs rs → kvs.map (·.1) = (rs.map (·.z)).map Sum.inr
  | _, _, .nil => rfl
  | _, _, .cons h t => by rw [List.map_cons, List.map_cons, List.map_cons, goodJ_keys t, h.key]
theorem good_val {mj : Nat} : ∀ {kvs : List (Key × Dt)} {rs : List JR}, Paired (GoodE mj) kvs rs → (rs.map (·.z)).Nodup → ∀ r ∈ rs, ∃ d, valD kvs (.inr r.z) = some d ∧ GoodE mj (.inr r.z, d) r
  | _, _, .nil, _, r, h => by cases h
  | (k, d) :: _, r0 :: rs, .cons h t, nd, r, hr => by
    obtain rfl : k = .inr r0.z := h.key
    rcases List.mem_cons.mp hr with e | hr
    · subst e
      exact ⟨d, by simp [valD], h⟩
    · rw [List.map_cons, List.nodup_cons] at nd
      obtain ⟨d', h1, h2⟩ := good_val t nd.2 r hr
      refine ⟨d', ?_, h2⟩
      rw [valD, if_neg, h1]
      exact fun z => nd.1 (List.mem_map.mpr ⟨r, hr, (Sum.inr.inj z).symm⟩)
variable [Wd]
section
variable {Γ : Gm} {A A' : Addr → Prop} {H H' : Hp} {σ : L2.St} {δ : List Sl} {n n' : Nat}
theorem owns_noc {x : Option V} {σ : L2.St} {δ : List Sl} : owns (x :: σ) (.no :: δ) = owns σ δ := by
  rcases owns_cons (x := x) (s := .no) (σ := σ) (δ := δ) with e | ⟨b, d, _, es, _⟩
  · exact e
  · cases es
theorem owns_end {x : Option V} {s : Sl} {σ : L2.St} {δ : List Sl} (h : owns σ δ = []) : owns (x :: σ) (s :: δ) = owns [x] [s] := by
  rcases owns_cons (x := x) (s := s) (σ := σ) (δ := δ) with e | ⟨b, d, ev, es, e⟩
  · rcases owns_cons (x := x) (s := s) (σ := []) (δ := []) with e2 | ⟨b, d, ev, es, e2⟩
    · rw [e, e2, h, owns_nil]
    · subst ev es
      rw [owns, owns, h, owns_nil]
  · subst ev es
    rw [owns, owns, h, owns_nil]
theorem owns4 {x0 x1 x2 x3 : Option V} {s : Sl} : owns [x0, x1, x2, x3] [.no, s, .no, .no] = owns [x1] [s] := by
  rw [owns_noc]
  exact owns_end (by rw [owns_noc, owns_noc, owns_nil])
theorem Rel.to4 {x1 : Option V} {s : Sl} (x0 x2 x3 : Option V) (R : Rel Γ [x1] [s] A H n) : Rel Γ [x0, x1, x2, x3] [.no, s, .no, .no] A H n := by
  have no : ∀ {x : Option V}, SlR Γ.p A H x .no := fun {x} => by cases x <;> trivial
  have h := R.sl
  cases h with
  | cons h _ => exact ⟨.cons no (.cons h (.cons no (.cons no .nil))), by rw [owns4]; exact R.nd, fun a ha => R.fo a (by rw [owns4] at ha; exact ha), R.fr, R.a0, R.ad, R.nw, R.inv⟩
theorem Rel.of4 {x0 x1 x2 x3 : Option V} {s s0 s2 s3 : Sl} (e0 : s0 = .no) (e2 : s2 = .no) (e3 : s3 = .no) (R : Rel Γ [x0, x1, x2, x3] [s0, s, s2, s3] A H n) : Rel Γ [x1] [s] A H n := by
  subst e0 e2 e3
  have h := R.sl
  cases h with
  | cons _ h =>
    cases h with
    | cons h _ => exact ⟨.cons h .nil, by rw [← owns4 (x0 := x0) (x2 := x2) (x3 := x3)]; exact R.nd, fun a ha => R.fo a (by rw [owns4]; exact ha), R.fr, R.a0, R.ad, R.nw, R.inv⟩
/-- an object apart -/
structure Ap (Γ : Gm) (A : Addr → Prop) (H : Hp) (σ : L2.St) (δ : List Sl) (b : Addr) (o : HO) : Prop where
  at_ : H b = some o
  fr : Free Γ A b
  no : b ∉ owns σ δ
theorem Ap.of {b : Addr} {o : HO} (R : Rel Γ σ δ A H n) (h : H b = none) (e : H' b = some o) : Ap Γ A H' σ δ b o :=
  ⟨e, ⟨R.h0 b h, fun z => R.dom b z h, fun m => R.md b m h⟩, fun z => own_some R.sl b z h⟩
theorem Ap.to {b : Addr} {o : HO} (h : Ap Γ A H σ δ b o) (k : ∀ o, H b = some o → H' b = some o) (na : ¬ A' b) : Ap Γ A' H' σ δ b o := ⟨k o h.at_, ⟨h.fr.h0, na, h.fr.nm⟩, h.no⟩
theorem Ap.mv {b : Addr} {o : HO} (h : Ap Γ A H σ δ b o) (m : Mv Γ σ δ A H δ A' H') : Ap Γ A' H' σ δ b o :=
  h.to (fun o e => m.fm b o e h.no h.fr.nm) fun z => by
    rcases m.na b z with z | z | z | z
    · exact h.fr.na z
    · rw [h.at_] at z
      cases z
    · exact h.no z
    · exact h.fr.nm z
theorem Ap.up {b c : Addr} {o u : HO} (h : Ap Γ A H σ δ b o) (ne : b ≠ c) : Ap Γ A (upd H c u) σ δ b o := h.to (fun o e => by rw [upd_ne ne]; exact e) h.fr.na
theorem Ap.set {b : Addr} {o u : HO} (h : Ap Γ A H σ δ b o) : Ap Γ A (upd H b u) σ δ b u := ⟨upd_same, h.fr, h.no⟩
theorem Ap.rel {b : Addr} {o u : HO} (h : Ap Γ A H σ δ b o) (R : Rel Γ σ δ A H n) : Rel Γ σ δ A (upd H b u) n := R.apart h.fr h.no
theorem Ap.kp {b : Addr} {o u : HO} (h : Ap Γ A H σ δ b o) : Kp A H A (upd H b u) := .of (fun _ h => h) fun a o' ha e => by
  rw [upd_ne (fun z => h.fr.na (by rw [← z]; exact ha))]
  exact e
theorem Ap.ne {b c : Addr} {o : HO} (h : Ap Γ A H σ δ b o) (hc : A c) : b ≠ c := fun z => h.fr.na (by rw [z]; exact hc)
/-- .. is only read from now on -/
theorem Ap.read {b : Addr} {o : HO} (h : Ap Γ A H σ δ b o) (R : Rel Γ σ δ A H n) : Rel Γ σ δ (fun c => A c ∨ c = b) H n ∧ Kp A H (fun c => A c ∨ c = b) H := R.more (by rw [h.at_]; exact fun z => by cases z) h.no h.fr
end
end K59
/-! ## K59v -/
set_option Elab.async false
set_option linter.all false
set_option maxRecDepth 100000
set_option maxHeartbeats 4000000
/-! k59: Jobs.__init__, its inner loop. -/
namespace K59
open PySem PySem.Spec PyProof.Rows L2 DL
structure TJ2 (K : PySem.W.Frag) (C CS : Addr) : Prop extends TJ K C where
  n4 : NoAttr K C "spans"
  n5 : NoAttr K C "kept"
  sp : TSp K CS
def rMax2 : List V → Hp → VK → Prop := fun xs H Q => ∃ i j, xs = [.int i, .int j] ∧ Q (.int (if j > i then j else i)) H
abbrev fsJ (t c g s : Addr) : List (Str × V) := [("_table", .ref t), ("_costs", .ref c), ("_ceilings", .ref g), ("spans", .ref s)]
theorem tb_val : ∀ {rs : List JR}, (rs.map (·.z)).Nodup → ∀ r ∈ rs, valD (tbOf rs) (.inr r.z) = some r.tup
  | r0 :: rs, nd, r, hr => by
    rw [tbOf, List.map_cons, valD]
    rw [List.map_cons, List.nodup_cons] at nd
    rcases List.mem_cons.mp hr with e | hr
    · rw [e, if_pos rfl]
    · rw [if_neg (fun z => nd.1 (List.mem_map.mpr ⟨r, hr, (Sum.inr.inj z).symm⟩))]
      exact tb_val nd.2 r hr
variable [Wd]
/-- the object under way -/
structure ObJ (Γ : Gm) (A : Addr → Prop) (H : Hp) (a : Addr) (s1 : Sl) (C x dx c g s t : Addr) (kc kg ks : List (Key × Dt)) : Prop where
  ox : Ap Γ A H [some (.ref a)] [s1] x (.ins C dx (fsJ t c g s))
  oc : ∃ es, Ap Γ A H [some (.ref a)] [s1] c (.dK es) ∧ RepK A H es kc
  og : ∃ es, Ap Γ A H [some (.ref a)] [s1] g (.dK es) ∧ RepK A H es kg
  os : ∃ es, Ap Γ A H [some (.ref a)] [s1] s (.dK es) ∧ RepK A H es ks
  xc : x ≠ c
  xg : x ≠ g
  xs : x ≠ s
  cg : c ≠ g
  cs : c ≠ s
  gs : g ≠ s
section
variable {Γ : Gm} {A A' : Addr → Prop} {H H' : Hp} {n n' : Nat} {a : Addr} {s1 : Sl} {C CS x dx c g s t : Addr} {kc kg ks : List (Key × Dt)}
theorem ObJ.mv (o : ObJ Γ A H a s1 C x dx c g s t kc kg ks) (R : Rel Γ [some (.ref a)] [s1] A H n) (m : Mv Γ [some (.ref a)] [s1] A H [s1] A' H') : ObJ Γ A' H' a s1 C x dx c g s t kc kg ks := by
  have k := m.kp R
  obtain ⟨e1, a1, r1⟩ := o.oc
  obtain ⟨e2, a2, r2⟩ := o.og
  obtain ⟨e3, a3, r3⟩ := o.os
  exact ⟨o.ox.mv m, ⟨e1, a1.mv m, r1.kp k⟩, ⟨e2, a2.mv m, r2.kp k⟩, ⟨e3, a3.mv m, r3.kp k⟩, o.xc, o.xg, o.xs, o.cg, o.cs, o.gs⟩
theorem ObJ.putG (o : ObJ Γ A H a s1 C x dx c g s t kc kg ks) {es : List (Key × V)} {kg' : List (Key × Dt)} (h : RepK A H es kg') : ObJ Γ A (upd H g (.dK es)) a s1 C x dx c g s t kc kg' ks := by
  obtain ⟨e1, a1, r1⟩ := o.oc
  obtain ⟨e2, a2, r2⟩ := o.og
  obtain ⟨e3, a3, r3⟩ := o.os
  have k := a2.kp (u := .dK es)
  exact ⟨o.ox.up o.xg, ⟨e1, a1.up o.cg, r1.kp k⟩, ⟨es, a2.set, h.kp k⟩, ⟨e3, a3.up o.gs.symm, r3.kp k⟩, o.xc, o.xg, o.xs, o.cg, o.cs, o.gs⟩
theorem ObJ.putC (o : ObJ Γ A H a s1 C x dx c g s t kc kg ks) {es : List (Key × V)} {kc' : List (Key × Dt)} (h : RepK A H es kc') : ObJ Γ A (upd H c (.dK es)) a s1 C x dx c g s t kc' kg ks := by
  obtain ⟨e1, a1, r1⟩ := o.oc
  obtain ⟨e2, a2, r2⟩ := o.og
  obtain ⟨e3, a3, r3⟩ := o.os
  have k := a1.kp (u := .dK es)
  exact ⟨o.ox.up o.xc, ⟨es, a1.set, h.kp k⟩, ⟨e2, a2.up o.cg.symm, r2.kp k⟩, ⟨e3, a3.up o.cs.symm, r3.kp k⟩, o.xc, o.xg, o.xs, o.cg, o.cs, o.gs⟩
theorem ObJ.putS (o : ObJ Γ A H a s1 C x dx c g s t kc kg ks) {es : List (Key × V)} {ks' : List (Key × Dt)} (h : RepK A H es ks') : ObJ Γ A (upd H s (.dK es)) a s1 C x dx c g s t kc kg ks' := by
  obtain ⟨e1, a1, r1⟩ := o.oc
  obtain ⟨e2, a2, r2⟩ := o.og
  obtain ⟨e3, a3, r3⟩ := o.os
  have k := a3.kp (u := .dK es)
  exact ⟨o.ox.up o.xs, ⟨e1, a1.up o.cs, r1.kp k⟩, ⟨e2, a2.up o.gs, r2.kp k⟩, ⟨es, a3.set, h.kp k⟩, o.xc, o.xg, o.xs, o.cg, o.cs, o.gs⟩
/-- a job's row in the table -/
theorem tb_at {rs : List JR} (nd : (rs.map (·.z)).Nodup) {r : JR} (hr : r ∈ rs) (rt : Rep A H (.ref t) (.dic (tbOf rs))) : ∃ b xs, DGet H t (.str r.z) (some (.ref b)) ∧ A b ∧ H b = some (.tup xs) ∧ Reps A H xs [.int r.p, .int r.q, .tup (partsT r.ps)] := by
  obtain ⟨t', o, es, e, at_, ht, rk⟩ := rep_dic rt
  cases e
  have hv := tb_val nd r hr
  rcases rk.val (.inr r.z) with ⟨_, h2⟩ | ⟨u, d, h1, h2, h3⟩
  · rw [hv] at h2
    cases h2
  · rw [hv] at h2
    cases h2
    obtain ⟨b, xs, rfl, hb, hx, rx⟩ := rep_tup h3
    exact ⟨b, xs, .inl ⟨es, .inr r.z, .inr ⟨o, ht⟩, rfl, h1.symm⟩, hb, hx, rx⟩
theorem get_val {es : List (Str × Int)} {xs : List (Key × V)} (ce : CeilOf es kg) (rk : RepK A H xs kg) (z : Str) : (valV xs (.inr z)).getD (.int 0) = .int (getC kg z) := by
  unfold getC
  rcases ce.val z with e | ⟨m, e⟩ <;> rcases rk.val (.inr z) with ⟨h1, h2⟩ | ⟨u, d, h1, h2, h3⟩
  · rw [e, h1]
    rfl
  · rw [e] at h2
    cases h2
  · rw [e] at h2
    cases h2
  · rw [h2] at e
    cases e
    rw [h1, h2]
    exact rep_int h3
abbrev fS (K : PySem.W.Frag) (f : Str) : TE := tFld K (tVar 0) f
abbrev rowT (K : PySem.W.Frag) (i : Int) : TE := tOp (rIx K) (tDGet (fS K "_table") (tVar 2)) (tC (.int i))
abbrev b3T (K : PySem.W.Frag) : TS := sDPut (fS K "_ceilings") (tFld K (tVar 3) "thing") (tCB rMax2 (tCons (tDGet2 (fS K "_ceilings") (tFld K (tVar 3) "thing") (tC (.int 0))) (tCons (rowT K 0) tNil)))
theorem inner {K : PySem.W.Frag} (tj : TJ2 K C CS) {rs : List JR} (nd : (rs.map (·.z)).Nodup) {r : JR} (hr : r ∈ rs) (p1 : 1 ≤ r.p) {D : Ends} {o3 : Option V} {es : List (Str × Int)} {sp : List Dt} (R : Rel Γ [some (.ref a)] [s1] A H n) (rt : Rep A H (.ref t) (.dic (tbOf rs))) (o : ObJ Γ A H a s1 C x dx c g s t kc kg ks)
    (hs : valD ks (.inr r.z) = some (.lst sp)) (hsp : Paired (Spn CS) sp (thsD r.ps)) (ce : CeilOf es kg) (big : es.length + (thsD r.ps).length < sizeLine)
    (k : ∀ H' o3' kg', Rel Γ [some (.ref a)] [s1] A H' n → Kp A H A H' → ObJ Γ A H' a s1 C x dx c g s t kc kg' ks → CeilOf (es ++ evsJ r) kg' → D.nx [some (.ref x), some (.ref a), some (.str r.z), o3'] H') :
    tFor (iList K (tDGet (fS K "spans") (tVar 2))) (gName 3) (b3T K) D [some (.ref x), some (.ref a), some (.str r.z), o3] H := by
  obtain ⟨e3, a3, r3⟩ := o.os
  rcases r3.val (.inr r.z) with ⟨_, h2⟩ | ⟨u, d, h1, h2, h3⟩
  · rw [hs] at h2
    cases h2
  · rw [hs] at h2
    cases h2
    obtain ⟨l, xs, rfl, al, hl, rx⟩ := rep_lst h3
    have len : xs.length = (thsD r.ps).length := rx.len.trans (Paired.length hsp)
    refine ⟨.ref x, rfl, x, C, dx, _, .ref s, rfl, o.ox.at_, tj.cl, tj.n4, rfl, .str r.z, rfl, s, .ref l, rfl, .inl ⟨e3, .inr r.z, .inl a3.at_, rfl, h1.symm⟩, l, rfl, ⟨xs, SqL.of hl⟩, ?_⟩
    refine for_list (K := K) (a := l) (xs := xs) (fun j σ' H' => ∃ o3' kg', σ' = [some (.ref x), some (.ref a), some (.str r.z), o3'] ∧ Rel Γ [some (.ref a)] [s1] A H' n ∧ Kp A H A H' ∧ ObJ Γ A H' a s1 C x dx c g s t kc kg' ks ∧ CeilOf (es ++ ((thsD r.ps).take j).map fun t => (t, r.p)) kg')
      ⟨o3, kg, rfl, R, .refl, o, by simpa using ce⟩ ?_ ?_ ?_
    · rintro j σ' H' _ ⟨_, _, rfl, _, kp, _⟩
      exact SqL.of (kp.ob l _ al hl)
    · rintro j v σ' H' hv ⟨o3', kg', rfl, R', kp, o', ce'⟩
      obtain ⟨d, ed, rd⟩ := rx.getV hv
      obtain ⟨th, eth, path, f, se, rfl⟩ := K01.paired_at hsp ed
      obtain ⟨b, dxb, fs, rfl, ab, hb, rf⟩ := rep_ins (rd.kp kp)
      obtain ⟨u, eu, ru⟩ := rf.look (f := "thing") (x := .str th) rfl
      obtain rfl : u = .str th := by cases ru; rfl
      obtain ⟨eg, ag, rg⟩ := o'.og
      obtain ⟨bt, xt, dg, abt, hbt, rxt⟩ := tb_at nd hr (rt.kp kp)
      obtain ⟨w, ew, rw_⟩ := rxt.get (i := 0) rfl
      obtain rfl : w = .int r.p := rep_int rw_
      have jl : j < (thsD r.ps).length := by
        rw [← len]
        exact (List.getElem?_eq_some_iff.mp hv).1
      have tk : ((thsD r.ps).take (j + 1)).map (fun t => (t, r.p)) = ((thsD r.ps).take j).map (fun t => (t, r.p)) ++ [(th, r.p)] := by
        rw [List.take_succ, eth, List.map_append]
        rfl
      have gv := get_val ce' rg th
      show b3T K _ [some (.ref x), some (.ref a), some (.str r.z), some (.ref b)] H'
      refine ⟨.ref x, rfl, x, C, dx, _, .ref g, rfl, o'.ox.at_, tj.cl, tj.n3, rfl, g, rfl, .inl ⟨eg, .inl ag.at_⟩, .ref b, rfl, b, CS, dxb, fs, .str th, rfl, hb, tj.sp.cl, tj.sp.n2, eu, _, .inl ⟨eg, .inr th, .inl ag.at_, rfl, rfl⟩, ?_⟩
      rw [gv]
      refine ⟨.ref x, rfl, x, C, dx, _, .ref t, rfl, o'.ox.at_, tj.cl, tj.n1, rfl, .str r.z, rfl, t, .ref bt, rfl, dg, .inr (.inl ⟨bt, xt, 0, .int r.p, rfl, rfl, SqT.of hbt, atI_nat (j := 0) ew, ?_⟩)⟩
      refine ⟨_, _, rfl, .ref x, rfl, x, C, dx, _, .ref g, rfl, o'.ox.at_, tj.cl, tj.n3, rfl, .ref b, rfl, b, CS, dxb, fs, .str th, rfl, hb, tj.sp.cl, tj.sp.n2, eu, g, _, rfl, DPut.k (k := .inr th) ag.at_ ?_, ?_⟩
      · rw [rg.len]
        have := ce'.len
        rw [List.length_append, List.length_map, List.length_take] at this
        omega
      · have rk := rg.put (k := .inr th) (d := .int (if r.p > getC kg' th then r.p else getC kg' th)) (v := .int (if r.p > getC kg' th then r.p else getC kg' th)) (.int _)
        refine ⟨_, _, rfl, ag.rel R', kp.trans (ag.kp), o'.putG rk, ?_⟩
        rw [tk, ← List.append_assoc]
        exact ce'.put th p1
    · rintro σ' H' ⟨o3', kg', rfl, R', kp, o', ce'⟩
      rw [len, List.take_of_length_le (Nat.le_refl _)] at ce'
      exact k H' o3' kg' R' kp o' ce'
end
end K59
/-! ## K59w -/
set_option Elab.async false
set_option linter.all false
set_option maxRecDepth 100000
set_option maxHeartbeats 4000000
/-! k59: Jobs.__init__, its loop. -/
namespace K59
open PySem PySem.Spec PyProof.Rows L2 DL
theorem ths_len {m : Nat} {ps : List Part} (h : Lawf m ps) : (thsD ps).length ≤ 6 ^ m := by
  rw [← Paired.length (spansD_ths 0 [] 0 0 ps)]
  exact spans_len m ps h [] 0 0
theorem evs_snoc (rs : List JR) (r : JR) : evs (rs ++ [r]) = evs rs ++ evsJ r := by
  unfold evs
  rw [List.flatMap_append]
  simp
theorem evs_len : ∀ {rs : List JR}, (∀ r ∈ rs, Lawf 3 r.ps) → (evs rs).length ≤ rs.length * 216
  | [], _ => Nat.le_refl _
  | r :: rs, h => by
    have h1 := ths_len (h r List.mem_cons_self)
    have h2 := evs_len fun r hr => h r (List.mem_cons_of_mem _ hr)
    have e : (evs (r :: rs)).length = (evsJ r).length + (evs rs).length := by
      unfold evs
      rw [List.flatMap_cons, List.length_append]
    have e2 : (evsJ r).length = (thsD r.ps).length := by
      unfold evsJ
      rw [List.length_map]
    have n6 : 6 ^ 3 = 216 := by decide
    rw [e, e2, List.length_cons]
    omega
theorem cs_keys (rs : List JR) : (csOf rs).map (·.1) = rs.map fun r => Sum.inr r.z := by
  unfold csOf
  rw [List.map_map]
  rfl
variable [Wd]
section
variable {Γ : Gm} {A A' : Addr → Prop} {H H' : Hp} {n n' : Nat} {a : Addr} {s1 : Sl} {C CS x dx c g s t : Addr} {kc kg ks : List (Key × Dt)}
abbrev b1T (K : PySem.W.Frag) (CS : Addr) (E : XK) : TS := tAsg (tCall (spC (cSpans CS 3)) [] E (tCons (rowT K 2) (tCons (tTup tNil) (tCons (tC (.int 0)) tNil)))) (gTup K 2 (gCons (gSub (fS K "spans") (tVar 2) rSetD) (gCons (gSub (fS K "_costs") (tVar 2) rSetD) gNil)))
abbrev b2T (K : PySem.W.Frag) : TS := tFor (iList K (tDGet (fS K "spans") (tVar 2))) (gName 3) (b3T K)
abbrev bT (K : PySem.W.Frag) (CS : Addr) (E : XK) : TS := fun D σ H => b1T K CS E { D with nx := fun σ' H' => b2T K D σ' H' } σ H
theorem outer {K : PySem.W.Frag} {E : XK} (tj : TJ2 K C CS) {rs : List JR} (nd : (rs.map (·.z)).Nodup) (len : rs.length ≤ 60) (lw : ∀ r ∈ rs, Lawf 3 r.ps) (p1 : ∀ r ∈ rs, 1 ≤ r.p) {D : Ends} {o2 o3 : Option V} (R : Rel Γ [some (.ref a)] [s1] A H n) (rt : Rep A H (.ref t) (.dic (tbOf rs))) (o : ObJ Γ A H a s1 C x dx c g s t [] [] [])
    (k : ∀ A' H' o2 o3 kg ks, Rel Γ [some (.ref a)] [s1] A' H' n → Kp A H A' H' → ObJ Γ A' H' a s1 C x dx c g s t (csOf rs) kg ks → CeilOf (evs rs) kg → D.nx [some (.ref x), some (.ref a), o2, o3] H') :
    tFor (iKeys (fS K "_table")) (gName 2) (bT K CS E) D [some (.ref x), some (.ref a), o2, o3] H := by
  have l63 := sizeLine_eq
  obtain ⟨t', ot, est, e, at_, ht, rk⟩ := rep_dic rt
  cases e
  have tl : est.length = rs.length := by
    rw [rk.len]
    exact List.length_map _
  refine ⟨.ref x, rfl, x, C, dx, _, .ref t, rfl, o.ox.at_, tj.cl, tj.n1, rfl, t, ot, rfl, .inl ⟨est, ht, ?_⟩⟩
  refine for_it walk_keys (fun i σ' H' => ∃ A' o2 o3 kg ks, σ' = [some (.ref x), some (.ref a), o2, o3] ∧ Rel Γ [some (.ref a)] [s1] A' H' n ∧ Kp A H A' H' ∧ ObJ Γ A' H' a s1 C x dx c g s t (csOf (rs.take i)) kg ks ∧ ks.map (·.1) = ((rs.take i).map fun r => Sum.inr r.z) ∧ CeilOf (evs (rs.take i)) kg)
    ⟨A, o2, o3, [], [], rfl, R, .refl, o, rfl, CeilOf.nil⟩ ?_ ?_ ?_
  · rintro i σ' H' _ ⟨_, _, _, _, _, rfl, _, kp, _⟩
    exact kp.ob t _ at_ ht
  · rintro i v σ' H1 H2 hi ⟨A1, o2', o3', kg, ks, rfl, R1, kp, o1, kk, ce⟩ ⟨rfl, key, v', ekv, rfl⟩
    rw [tl] at hi
    obtain ⟨r, er⟩ : ∃ r, rs[i]? = some r := ⟨rs[i], List.getElem?_eq_getElem hi⟩
    have hr : r ∈ rs := List.mem_of_getElem? er
    have ek : key = .inr r.z := by
      have h := congrArg (·[i]?) rk.keys
      unfold tbOf at h
      simp only [List.getElem?_map, List.map_map, ekv, er] at h
      exact Option.some.inj h
    subst ek
    have rt1 := rt.kp kp
    obtain ⟨bt, xt, dg, abt, hbt, rxt⟩ := tb_at nd hr rt1
    obtain ⟨w, ew, rw_⟩ := rxt.get (i := 2) rfl
    have tk : rs.take (i + 1) = rs.take i ++ [r] := by
      rw [List.take_succ, er]
      rfl
    have nin : r.z ∉ (rs.take i).map (·.z) := fun h => by
      have nd2 : ((rs.take (i + 1)).map (·.z)).Nodup := nd.sublist ((List.take_sublist _ _).map _)
      rw [tk, List.map_append, List.nodup_append] at nd2
      exact nd2.2.2 _ h r.z (by simp) rfl
    have tlen : (rs.take i).length ≤ 60 := by
      rw [List.length_take]
      omega
    show bT K CS E _ [some (.ref x), some (.ref a), some (.str r.z), o3'] H2
    refine ⟨.ref x, rfl, x, C, dx, _, .ref t, rfl, o1.ox.at_, tj.cl, tj.n1, rfl, .str r.z, rfl, t, .ref bt, rfl, dg, .inr (.inl ⟨bt, xt, 2, w, rfl, rfl, SqT.of hbt, atI_nat (j := 2) ew, ?_⟩)⟩
    refine ⟨by show 0 ≤ sizeLine; omega, fun e1 ne1 => ?_⟩
    obtain ⟨g1, re1⟩ := new_tup ne1 R1.dom (xs := []) (ds := []) .nil
    have R2 := R1.grow g1
    have m1 : Mv Γ [some (.ref a)] [s1] A1 H2 [s1] _ _ := .grow g1
    refine ⟨⟨_, _, Γ.p⟩, n, [.ro (.tup (partsT r.ps)), .ro (.tup []), .ro (.int 0)], fun q n' => q = .ro (.tup [.lst (spansD CS [] 0 0 r.ps), .int (0 + countD r.ps)]) ∧ n' = n, fun _ _ _ _ => False, rfl, R2.exit0, .cons (.ro (rw_.kp g1.k)) (.cons (.ro re1) (.cons (.ro (.int 0)) .nil)),
      ⟨r.ps, [], 0, rfl, lw r hr, by decide, rfl, rfl⟩, fun v q A' H' n' ex ro qq => ?_, fun _ _ _ _ _ _ _ _ _ _ _ _ _ z => z.elim⟩
    obtain ⟨rfl, rfl⟩ := qq
    obtain ⟨R3, m2⟩ := R2.call ex
    obtain ⟨T, us, rfl, aT, hT, ru⟩ := rep_tup (show Rep A' H' v (.tup _) from ro)
    cases ru with
    | cons r1 ru =>
      rename_i u1 us
      cases ru with
      | cons r2 ru =>
        rename_i u2 us
        cases ru
        obtain rfl : u2 = .int (countD r.ps) := (rep_int r2).trans (by rw [Int.zero_add])
        have o2 := (o1.mv R1 m1).mv R2 m2
        obtain ⟨es, as, rs_⟩ := o2.os
        have rs2 := rs_.put (k := .inr r.z) (d := .lst (spansD CS [] 0 0 r.ps)) r1
        have R4 := as.rel (u := .dK (putK es (.inr r.z) u1)) R3
        have o3 := o2.putS rs2
        obtain ⟨ec, ac, rc⟩ := o3.oc
        have rc2 := rc.put (k := .inr r.z) (d := .int (countD r.ps)) (v := .int (countD r.ps)) (.int _)
        have o4 := o3.putC rc2
        have R5 := ac.rel (u := .dK (putK ec (.inr r.z) (.int (countD r.ps)))) R4
        have k5 := (((m1.kp R1).trans (m2.kp R2)).trans as.kp).trans (ac.kp (u := .dK (putK ec (.inr r.z) (.int (countD r.ps)))))
        have lks : ks.length ≤ 60 := by
          have := congrArg List.length kk
          rw [List.length_map, List.length_map] at this
          omega
        have lkc : (csOf (rs.take i)).length ≤ 60 := by
          unfold csOf
          rw [List.length_map]
          exact tlen
        refine ⟨T, _, rfl, SqT.of hT, rfl, u1, _, rfl, .ref x, rfl, x, C, dx, _, .ref s, rfl, o2.ox.at_, tj.cl, tj.n4, rfl, .str r.z, rfl, s, _, rfl, DPut.k (k := .inr r.z) as.at_ (by rw [rs_.len]; omega), ?_⟩
        refine ⟨_, _, rfl, .ref x, rfl, x, C, dx, _, .ref c, rfl, o3.ox.at_, tj.cl, tj.n2, rfl, .str r.z, rfl, c, _, rfl, DPut.k (k := .inr r.z) ac.at_ (by rw [rc.len]; omega), rfl, ?_⟩
        refine inner tj nd hr (p1 r hr) (es := evs (rs.take i)) R5 (rt1.kp k5) o4 (by rw [valD_put, if_pos rfl]) (spansD_ths CS [] 0 0 r.ps) ce ?_ fun H6 o3'' kg' R6 k6 o6 ce6 => ?_
        · have h1 := ths_len (lw r hr)
          have h2 := evs_len (rs := rs.take i) fun r hr => lw r (List.mem_of_mem_take hr)
          have n6 : 6 ^ 3 = 216 := by decide
          have : (rs.take i).length * 216 ≤ 60 * 216 := Nat.mul_le_mul_right _ tlen
          omega
        · refine ⟨_, _, _, kg', putD ks (.inr r.z) (.lst (spansD CS [] 0 0 r.ps)), rfl, R6, kp.trans (k5.trans k6), ?_, ?_, ?_⟩
          · rw [tk]
            rw [putD_new (by
              rw [cs_keys]
              intro h
              obtain ⟨r', hr', e⟩ := List.mem_map.mp h
              exact nin (List.mem_map.mpr ⟨r', hr', Sum.inr.inj e⟩))] at o6
            have e : csOf (rs.take i ++ [r]) = csOf (rs.take i) ++ [(.inr r.z, .int (countD r.ps))] := by
              unfold csOf
              rw [List.map_append]
              rfl
            rw [e]
            exact o6
          · rw [tk, put_keys, List.map_append]
            have : valD ks (.inr r.z) = none := by
              cases q : valD ks (.inr r.z) with
              | none => rfl
              | some d =>
                exfalso
                have : (Sum.inr r.z : Key) ∈ ks.map (·.1) := List.mem_map.mpr ⟨_, val_in q, rfl⟩
                rw [kk] at this
                obtain ⟨r', hr', e⟩ := List.mem_map.mp this
                exact nin (List.mem_map.mpr ⟨r', hr', Sum.inr.inj e⟩)
            rw [this, kk]
            rfl
          · rw [tk, evs_snoc]
            exact ce6
  · rintro σ' H' ⟨A', o2', o3', kg, ks, rfl, R', kp, o', _, ce⟩
    rw [tl, List.take_of_length_le (Nat.le_refl _)] at o' ce
    exact k A' H' o2' o3' kg ks R' kp o' ce
end
end K59
/-! ## K59x -/
set_option Elab.async false
set_option linter.all false
set_option maxRecDepth 100000
set_option maxHeartbeats 4000000
/-! k59: Jobs.__init__. -/
namespace K59
open PySem PySem.Spec PyProof.Rows L2 DL
variable [Wd]
section
variable {Γ : Gm} {A A' : Addr → Prop} {H H' : Hp} {n n' : Nat} {a : Addr} {s1 : Sl} {C CS x dx c g s t : Addr} {tb kc kg ks : List (Key × Dt)}
/-- the object is done -/
theorem done_obj {v : V} {ec eg : List (Key × V)} {od od2 : Obj} (R : Rel Γ [some (.ref a)] [s1] A H n) (rt : Rep A H (.ref t) (.dic tb)) (ox : Ap Γ A H [some (.ref a)] [s1] x (.ins C dx (fsJ t c g s))) (ac : Ap Γ A H [some (.ref a)] [s1] c (.dK ec)) (rc : RepK A H ec kc) (ag : Ap Γ A H [some (.ref a)] [s1] g (.dK eg)) (rg : RepK A H eg kg)
    (xc : x ≠ c) (xg : x ≠ g) (cg : c ≠ g) : ∃ A', Rel Γ [some (.ref a)] [s1] A' (upd (upd (upd H c (.frz od (.dK ec))) g (.frz od2 (.dK eg))) x (.ins C dx (putF "kept" v (fsJ t c g s)))) n ∧
      Rep A' (upd (upd (upd H c (.frz od (.dK ec))) g (.frz od2 (.dK eg))) x (.ins C dx (putF "kept" v (fsJ t c g s)))) (.ref x) (jobsT C tb kc kg) := by
  have R1 := ac.rel (u := .frz od (.dK ec)) R
  have x1 := ox.up (u := .frz od (.dK ec)) xc
  have c1 := ac.set (u := .frz od (.dK ec))
  have g1 := ag.up (u := .frz od (.dK ec)) cg.symm
  have k1 := ac.kp (u := .frz od (.dK ec))
  have R2 := g1.rel (u := .frz od2 (.dK eg)) R1
  have x2 := x1.up (u := .frz od2 (.dK eg)) xg
  have c2 := c1.up (u := .frz od2 (.dK eg)) cg
  have g2 := g1.set (u := .frz od2 (.dK eg))
  have k2 := g1.kp (u := .frz od2 (.dK eg))
  have R3 := x2.rel (u := .ins C dx (putF "kept" v (fsJ t c g s))) R2
  have x3 := x2.set (u := .ins C dx (putF "kept" v (fsJ t c g s)))
  have c3 := c2.up (u := .ins C dx (putF "kept" v (fsJ t c g s))) xc.symm
  have g3 := g2.up (u := .ins C dx (putF "kept" v (fsJ t c g s))) xg.symm
  have k3 := x2.kp (u := .ins C dx (putF "kept" v (fsJ t c g s)))
  have kk := (k1.trans k2).trans k3
  obtain ⟨R4, k4⟩ := c3.read R3
  have g4 := g3.to (A' := fun b => A b ∨ b = c) (fun _ e => e) (fun z => z.elim g3.fr.na cg.symm)
  have x4 := x3.to (A' := fun b => A b ∨ b = c) (fun _ e => e) (fun z => z.elim x3.fr.na xc)
  obtain ⟨R5, k5⟩ := g4.read R4
  have x5 := x4.to (A' := fun b => (A b ∨ b = c) ∨ b = g) (fun _ e => e) (fun z => z.elim x4.fr.na xg)
  obtain ⟨R6, k6⟩ := x5.read R5
  have kf := ((kk.trans k4).trans k5).trans k6
  refine ⟨_, R6, .ins (.inr rfl) x3.at_ (.cons (rt.kp kf) (.cons (.dic (.inl (.inl (.inr rfl))) c3.at_ (rc.kp kf)) (.cons (.dic (.inl (.inr rfl)) g3.at_ (rg.kp kf)) (.cons (.any _) (.cons (.any _) .nil)))))⟩
/-- a name's own dict was held fast for a while, and read -/
theorem Rel.unlend {kvs : List (Key × Dt)} {es : List (Key × V)} {od : Obj} (R : Rel Γ [some (.ref a)] [.own (.dic kvs)] A H n) (ha : H a = some (.dK es)) (rk : RepK A H es kvs) (ex : Exit ⟨upd H a (.frz od (.dK es)), fun b => A b ∨ b = a, Γ.p⟩ A' H' n') :
    H' a = some (.frz od (.dK es)) ∧ Rel Γ [some (.ref a)] [.own (.dic kvs)] (fun b => A' b ∧ b ≠ a) (upd H' a (.dK es)) n' ∧ ∀ b o, b ≠ a → ¬ Γ.M b → H b = some o → upd H' a (.dK es) b = some o := by
  have own : owns [some (V.ref a)] [.own (.dic kvs)] = [a] := by rw [owns, owns_nil]
  have f := R.fo a (by rw [own]; exact List.mem_singleton.mpr rfl)
  have h1 : H' a = some (.frz od (.dK es)) := ex.fr a _ f.nm upd_same
  have old : ∀ b o, b ≠ a → ¬ Γ.M b → H b = some o → upd H' a (.dK es) b = some o := fun b o nb nm e => by
    rw [upd_ne nb]
    exact ex.fr b o nm (by show upd H a _ b = _; rw [upd_ne nb]; exact e)
  have k : Kp A H (fun b => A' b ∧ b ≠ a) (upd H' a (.dK es)) := .of (fun b h => ⟨ex.a0 b (.inl h), fun z => f.na (by rw [← z]; exact h)⟩) fun b o h e => old b o (fun z => f.na (by rw [← z]; exact h)) (R.ad b h).2 e
  refine ⟨h1, ⟨.cons ⟨es, upd_same, rk.kp k⟩ .nil, R.nd, fun b hb => ?_, fun b o nm e => old b o (fun z => by rw [z, f.h0] at e; cases e) nm (R.fr b o nm e), fun b h => k.gr b (R.a0 b h), fun b h => ⟨?_, (ex.ad b h.1).2⟩, fun b h => ?_, fun p e => ?_, fun e he => ?_⟩, old⟩
  · rw [own] at hb
    obtain rfl := List.mem_singleton.mp hb
    exact ⟨f.h0, fun z => z.2 rfl, f.nm⟩
  · rw [upd_ne h.2]
    exact (ex.ad b h.1).1
  · rcases ex.nw b h.1 with z | z
    · rcases z with z | z
      · exact R.nw b z
      · exact absurd z h.2
    · have z : upd H a (.frz od (.dK es)) b = none := z
      rw [upd_ne h.2] at z
      exact .inr (R.h0 b z)
  · have np : p ≠ a := fun z => f.nm (by rw [← z]; exact .inl e)
    exact Wd.at_ _ _ p n' (upd_ne np) (ex.inv.1 p e)
  · obtain ⟨ps, q1, q2, q3⟩ := ex.inv.2 e he
    have ne : e.1 ≠ a := fun z => f.nm (by rw [← z]; exact .inr ⟨e, he, rfl⟩)
    refine ⟨ps, (upd_ne ne).trans q1, q2, fun pos cv hc => ?_⟩
    obtain ⟨cc, e1, e2, e3⟩ := q3 pos cv hc
    have nc : cc ≠ a := fun z => by
      rw [z, h1] at e3
      unfold LamX.CodeO at e3
      cases e3
    exact ⟨cc, e1, ⟨e2, nc⟩, (upd_ne nc).trans e3⟩
theorem Mv.of4 {x0 x1 x2 x3 : Option V} (m : Mv Γ [x0, x1, x2, x3] [.no, s1, .no, .no] A H [.no, s1, .no, .no] A' H') : Mv Γ [x1] [s1] A H [s1] A' H' :=
  ⟨m.gr, fun b o e no nm => m.fm b o e (by rw [owns4]; exact no) nm, fun b h => by
    have z := m.na b h
    rw [owns4] at z
    exact z, fun _ h => h, m.th⟩
end
section
variable {P : Program} {K : PySem.W.Frag} {mg : Str → Option Value} {base : Heap} {f : Addr} {fd : FuncData} {C CS CJ : Addr}
theorem scInit : FnScope ["self", "jobs", "job", "span"] ["self", "jobs"] (defScope sInit) := ⟨rfl, rfl, rfl, by decide +kernel, rfl, by decide +kernel, by decide +kernel⟩
/-- what the jobs handed may be: read, or a name's own -/
def JArg (s1 : Sl) (kvs : List (Key × Dt)) : Prop := s1 = .ro (.dic kvs) ∨ s1 = .own (.dic kvs)
def spJI (mj : Nat) (C CJ : Addr) : Sp := fun vs H Q E => ∃ (x dx : Addr) (v : V) (H1 : Hp) (Γ : Gm) (A : Addr → Prop) (n : Nat) (s1 : Sl), vs = [.ref x, v] ∧ H = upd (upd H1 dx (.own x)) x (.ins C dx []) ∧ H1 x = none ∧ H1 dx = none ∧ dx ≠ x ∧ Rel Γ [some v] [s1] A H1 n ∧
  ((∃ kvs rs, JArg s1 kvs ∧ GoodJ mj kvs rs ∧ ∀ A' H' rs' ce, rs'.Perm rs → sortedS (rs'.map (·.z)) = true → CeilOf (evs rs') ce → Rel Γ [some v] [s1] A' H' n → Rep A' H' (.ref x) (jobsT C (tbOf rs') (csOf rs') ce) → Q .non H') ∨
   ∃ d Xd, s1 = .ro d ∧ cCJ mj CJ [.ro d] n (fun _ _ => False) Xd ∧ ExSat Γ ⟨E, Xd⟩)
abbrev initX (P : Program) (K : PySem.W.Frag) (mg : Str → Option Value) (base : Heap) (f : Addr) (cdv : Value) (A : Around) (outer : List Env) (s : Shared) (H : Hp) (E : XK) : Cx := cxOf (L2.CX P Wd.w) P Wd.w K mg base ["self", "jobs", "job", "span"] "Jobs.__init__" (defScope sInit) f cdv A outer s H E
theorem init_table {cdv : Value} {A0 : Around} {outer : List Env} {s : Shared} {H0 : Hp} {E : XK} {k : Nat} (hr : Room k (A0.deeper (envOfC "Jobs.__init__" (defScope sInit) s.heap.objs.size f cdv))) (k5 : 5 ≤ k) (cC : DL.Cl P Wd.w K mg base CX0 5 "copied_parts" (spC (cCopied 3))) (g_sorted : mg "sorted" = none) :
    ∃ te, PS (initX P K mg base f cdv A0 outer s H0 E) (bInit 1) (sFld K (tVar 0) te "_table") ∧ ∀ (Γ : Gm) (A : Addr → Prop) (H : Hp) (n : Nat) (x v : V) (s1 : Sl) (kvs : List (Key × Dt)) (rs : List JR) (mj : Nat) (Q : VK), Rel Γ [some v] [s1] A H n → JArg s1 kvs → GoodJ mj kvs rs →
      (∀ t A' H' rs', rs'.Perm rs → sortedS (rs'.map (·.z)) = true → Rel Γ [some v] [s1] A' H' n → Rep A' H' (.ref t) (.dic (tbOf rs')) → Mv Γ [some v] [s1] A H [s1] A' H' → Q (.ref t) H') → te [some x, some v, none, none] H Q := by
  have l63 := sizeLine_eq
  obtain ⟨te, pe, ev⟩ := ((DE.z (de_dc (own := [("job", 2)]) (fun _ => rfl) (fun _ => scInit.nd) (di_list (K := K) (DE.r (de_sortD (fun _ _ h => pe_callB (call_sortedD rfl) (by rfl) g_sorted (by decide +kernel) (pa_cons h pa_nil)) (db_var fun _ => pv 1))) fun _ _ h => pi_list h) (fun _ => blkOk_by (own := [("job", 2)]) (N := ["self", "jobs", "job", "span"]) (sc := defScope sInit) (by decide +kernel)) (dg_name (i := 2) (fun _ => pg_name (i := 2) scInit.nd rfl (Or.inl rfl)) (by decide)) dts_nil (dr_var fun _ => pv 2) (dr_tup (DA.cons (dr_ix (K := K) (fun _ _ _ h1 h2 => pe_ix ix_seq h1 h2 fun _ _ => rfl) (dr_dgetB (fun _ _ _ h1 h2 => pe_dget (hu_of hr) h1 h2 fun _ _ => rfl) (db_var fun _ => pv 1) (dq_var fun _ => pv 2)) (dr_c (fun _ => pe_int) fun _ _ => .int 0)) (DA.cons (dr_ix (K := K) (fun _ _ _ h1 h2 => pe_ix ix_seq h1 h2 fun _ _ => rfl) (dr_dgetB (fun _ _ _ h1 h2 => pe_dget (hu_of hr) h1 h2 fun _ _ => rfl) (db_var fun _ => pv 1) (dq_var fun _ => pv 2)) (dr_c (fun _ => pe_int) fun _ _ => .int 1)) (DA.cons (DE.r (de_call (fun _ _ h => DL.pe_cl cC hr (by omega) pass0 h) (DA.cons (dr_ix (K := K) (fun _ _ _ h1 h2 => pe_ix ix_seq h1 h2 fun _ _ => rfl) (dr_dgetB (fun _ _ _ h1 h2 => pe_dget (hu_of hr) h1 h2 fun _ _ => rfl) (db_var fun _ => pv 1) (dq_var fun _ => pv 2)) (dr_c (fun _ => pe_int) fun _ _ => .int 2)) DA.nil))) DA.nil)))))) : DR (fun _ : Unit => initX P K mg base f cdv A0 outer s H0 E) ⟨E, fun _ _ _ _ => False⟩ (match bInit 1 with | .Assign _ e _ => e | _ => .Constant .none 0 ⟨0, 0, 0, 0⟩) _)
  refine ⟨te, ps_fld (pv 0) (pe ()) rfl, fun Γ A H n x v s1 kvs rs mj Q R ja gj q => ?_⟩
  have hd1 : dtOf s1 = some (.dic kvs) := by rcases ja with rfl | rfl <;> rfl
  have keys := goodJ_keys gj.pr
  have rl : rs.length ≤ 60 := by
    have := Paired.length gj.pr
    have := gj.len
    omega
  refine ev Γ (fun _ _ _ _ _ _ _ _ _ _ _ _ _ z => z.elim) _ A H n [.no, s1, .no, .no] (fun d n' δ' => (∃ rs', d = .dic (tbOf rs') ∧ rs'.Perm rs ∧ sortedS (rs'.map (·.z)) = true) ∧ n' = n ∧ δ' = [.no, s1, .no, .no]) Q (Rel.to4 _ _ _ R) ?_ fun w d A' H' n' δ' R' rd m qd => ?_
  · refine ⟨_, s1, rfl, hd1, kvs, rs.map (·.z), rfl, keys, (by rw [List.length_map]; omega), fun ys pm so => ⟨_, rfl, _, rfl, ?_⟩⟩
    obtain ⟨rs', pr, rfl⟩ := perm_map pm rs rfl
    have nd' : (rs'.map (·.z)).Nodup := (pr.map _).nodup_iff.mpr gj.nz
    refine dDc_go (fun ds' acc n2 δ' => ∃ pre rest : List JR, rs' = pre ++ rest ∧ ds' = (rest.map (·.z)).map .str ∧ acc = tbOf pre ∧ n2 = n ∧ δ' = [.no, s1, .no, .no]) ?_ ?_ ⟨[], rs', rfl, rfl, rfl, rfl, rfl⟩
    · rintro acc n2 δ' ⟨pre, rest, e1, e2, rfl, rfl, rfl⟩
      have : rest = [] := by
        cases rest with
        | nil => rfl
        | cons _ _ => cases e2
      subst this
      rw [List.append_nil] at e1
      subst e1
      exact ⟨_, rfl, ⟨_, rfl, pr, so⟩, rfl, rfl⟩
    · rintro y r acc n2 δ' RR hR ⟨pre, rest, e1, e2, rfl, rfl, rfl⟩
      cases rest with
      | nil => cases e2
      | cons j rest =>
        rw [List.map_cons, List.map_cons] at e2
        injection e2 with e3 e4
        subst e3 e4
        have hj : j ∈ rs := pr.subset (by rw [e1]; simp)
        obtain ⟨d, hv, ge⟩ := good_val gj.pr gj.nz j hj
        obtain ⟨b, bs, el, eb, ip⟩ := ge.el
        have nj : (Sum.inr j.z : Key) ∉ (tbOf pre).map (·.1) := fun h => by
          unfold tbOf at h
          rw [List.map_map] at h
          obtain ⟨a, ha, e⟩ := List.mem_map.mp h
          have e : a.z = j.z := Sum.inr.inj e
          rw [e1, List.map_append, List.nodup_append] at nd'
          exact nd'.2.2 _ (List.mem_map.mpr ⟨a, ha, rfl⟩) j.z (by simp) e
        have el : elemD d = some [.int j.p, .int j.q, b] := el
        refine dT ⟨_, rfl, _, s1, rfl, hd1, _, rfl, kvs, .inr j.z, d, rfl, rfl, hv, _, 0, _, el, rfl, rfl, _, s1, rfl, hd1, _, rfl, kvs, .inr j.z, d, rfl, rfl, hv, _, 1, _, el, rfl, rfl, _, s1, rfl, hd1, _, rfl, kvs, .inr j.z, d, rfl, rfl, hv, _, 2, _, el, rfl, rfl, _, bs, j.ps, rfl, eb, ip, ge.fit, _, rfl, [_, _, _], rfl, (by show 3 ≤ sizeLine; omega), .inr j.z, rfl, ?_, ?_⟩
        · unfold tbOf
          rw [List.length_map]
          have := congrArg List.length e1
          rw [List.length_append, pr.length_eq] at this
          omega
        · rw [putD_new nj]
          refine hR _ _ _ ⟨pre ++ [j], rest, by rw [e1, List.append_assoc]; rfl, rfl, ?_, rfl, rfl⟩
          unfold tbOf
          rw [List.map_append]
          rfl
  · obtain ⟨⟨rs', rfl, pr, so⟩, rfl, rfl⟩ := qd
    obtain ⟨t, o, es, rfl, _⟩ := rep_dic rd
    exact q t A' H' rs' pr so (Rel.of4 rfl rfl rfl R') rd (Mv.of4 m)
end
end K59
/-! ## K59y -/
set_option Elab.async false
set_option linter.all false
set_option maxRecDepth 100000
set_option maxHeartbeats 4000000
/-! k59: Jobs.__init__, whole. -/
namespace K59
open PySem PySem.Spec PyProof.Rows L2 DL
/-- whichever reading stands for the statement -/
def stAny (X : Cx) (st : Stmt) : TS := fun D σ H => ∃ t, PS X st t ∧ t D σ H
theorem ps_any {X : Cx} {st : Stmt} : PS X st (stAny X st) := ⟨fun pins s σ H D I ⟨t, p, h⟩ => p.run pins s σ H D I h⟩
variable [Wd]
section
variable {K : PySem.W.Frag} {mg : Str → Option Value} {base : Heap} {f : Addr} {fd : FuncData} {C CS CJ : Addr}
theorem init_body : defBody sInit = [bInit 0, bInit 1, bInit 2, bInit 3, bInit 4, bInit 5, bInit 6] := rfl
theorem ok_init (mj : Nat) (F : Fun K "__init__" "Jobs.__init__" sInit f fd) (cK : DL.Cl Wd.P Wd.w K mg base (L2.CX Wd.P Wd.w) (mj + 6) "check_jobs" (spC (cCJ mj CJ))) (cC : DL.Cl Wd.P Wd.w K mg base CX0 5 "copied_parts" (spC (cCopied 3)))
    (cS : DL.Cl Wd.P Wd.w K mg base CX0 6 "spans_in" (spC (cSpans CS 3))) (tj : TJ2 K C CS) (g_sorted : mg "sorted" = none) (g_max : mg "max" = none) : FnOk Wd.P Wd.w K mg base (L2.CX Wd.P Wd.w) (mj + 7) f fd ["self", "jobs"] (spJI mj C CJ) := by
  have l63 := sizeLine_eq
  refine F.okX scInit (fun vs H Q E h => ?_) (fun cdv A0 outer s0 H vs Q E hr h => ?_)
  · obtain ⟨x, dx, v, H1, Γ, A, n, s1, rfl, _⟩ := h
    rfl
  · obtain ⟨x, dx, v, H1, Γ, A, n, s1, rfl, rfl, nx, ndx, ne, R1, h⟩ := h
    rw [init_body]
    obtain ⟨te, pt, ht⟩ := init_table (H0 := upd (upd H1 dx (.own x)) x (.ins C dx [])) (outer := outer) (E := E) (P := Wd.P) (mg := mg) (base := base) hr (by omega) cC g_sorted
    refine ⟨_, pss_cons ps_any (pss_cons pt (pss_cons (ps_fld (pv 0) pe_dnewK rfl) (pss_cons (ps_fld (pv 0) pe_dnewK rfl) (pss_cons (ps_fld (pv 0) pe_dnewK rfl) (pss_cons
      (ps_for (passes_of rfl) rfl (pi_keys (pe_fld (pv 0) rfl)) (pg_name (i := 2) scInit.nd rfl (Or.inl rfl)) (pss_cons
        (ps_asg (DL.pe_cl cS hr (by omega) pass0 (pa_cons (pe_ix ix_seq (pe_dget (hu_of hr) (pe_fld (pv 0) rfl) (pv 2) fun _ _ => rfl) pe_int fun _ _ => rfl) (pa_cons (pe_tup pa_nil) (pa_cons pe_int pa_nil))))
          (pg_tup (by rfl) (pgs_cons (pg_sub (pe_fld (pv 0) rfl) (pv 2) (set_dict (hu_of hr))) (pgs_cons (pg_sub (pe_fld (pv 0) rfl) (pv 2) (set_dict (hu_of hr))) pgs_nil))))
        (pss_one (ps_for (passes_of rfl) rfl (pi_list (pe_dget (hu_of hr) (pe_fld (pv 0) rfl) (pv 2) fun _ _ => rfl)) (pg_name (i := 3) scInit.nd rfl (Or.inl rfl))
          (pss_one (ps_dput (hu_of hr) (pe_fld (pv 0) rfl) (pe_fld (pv 3) rfl) (pe_callB (call_max2 rfl) (by rfl) g_max (by decide +kernel) (pa_cons (pe_dget2 (hu_of hr) (pe_fld (pv 0) rfl) (pe_fld (pv 3) rfl) pe_int ⟨rfl, rfl, rfl, rfl⟩)
            (pa_cons (pe_ix ix_seq (pe_dget (hu_of hr) (pe_fld (pv 0) rfl) (pv 2) fun _ _ => rfl) pe_int fun _ _ => rfl) pa_nil))) rfl))))))
      (pss_one (ps_fld (pv 0) (K01.pe_frz (K01.pe_frz pe_dnewK)) rfl))))))), ?_⟩
    have g1 : Grow A H1 A (upd H1 dx (.own x)) := .new ndx R1.dom
    have R2 := R1.grow g1
    have nx2 : upd H1 dx (.own x) x = none := by
      rw [upd_ne (Ne.symm ne)]
      exact nx
    have g2 : Grow A (upd H1 dx (.own x)) A (upd (upd H1 dx (.own x)) x (.ins C dx [])) := .new nx2 R2.dom
    have R3 := R2.grow g2
    have ax : Ap Γ A (upd (upd H1 dx (.own x)) x (.ins C dx [])) [some v] [s1] x (.ins C dx []) := Ap.of R2 nx2 upd_same
    generalize upd (upd H1 dx (.own x)) x (.ins C dx []) = H at *
    clear R1 R2 g1 g2 nx2
    have r1 : PS (initX Wd.P K mg base f cdv A0 outer s0 H E) (bInit 0) (tDrop (tCall (spC (cCJ mj CJ)) [] E (tCons (tVar 1) tNil))) := ps_expr (DL.pe_cl cK hr (by omega) (passes_call (takes_of rfl rfl rfl rfl) fun _ _ _ _ h => h) (pa_cons (pv 1) pa_nil))
    rcases h with ⟨kvs, rs, ja, gj, q⟩ | ⟨d, Xd, rfl, cj, exs⟩
    · -- behind the check
      obtain ⟨a, rfl⟩ : ∃ a, v = .ref a := by
        have h := R3.sl
        cases h with
        | cons h _ =>
          rcases ja with rfl | rfl
          · obtain ⟨a, _, _, rfl, _⟩ := rep_dic (show Rep A H v (.dic kvs) from h)
            exact ⟨a, rfl⟩
          · obtain ⟨a, e, _⟩ := slR_own h
            exact ⟨a, Option.some.inj e⟩
      have rest : ∀ (A' : Addr → Prop) (H' : Hp) (T : TS), (∀ A' H', Rel Γ [some (.ref a)] [s1] A' H' n → Ap Γ A' H' [some (.ref a)] [s1] x (.ins C dx []) → T { nx := fun _ H' => Q .non H', rt := Q } [some (.ref x), some (.ref a), none, none] H') →
          stAny (initX Wd.P K mg base f cdv A0 outer s0 H E) (bInit 0) { nx := fun σ' H' => T { nx := fun _ H' => Q .non H', rt := Q } σ' H', rt := Q } [some (.ref x), some (.ref a), none, none] H := fun _ _ T hT => by
        have prs : Paired (fun (p : Key × Dt) pr => RightJ mj (keyT p.1, p.2) pr) kvs (rs.map (·.p)) := by
          have := gj.pr
          clear ja q gj hT
          induction this with
          | nil => exact .nil
          | cons h _ ih => exact .cons h.right ih
        have ndk : (kvs.map (·.1)).Nodup := by
          rw [goodJ_keys gj.pr]
          exact List.Pairwise.map _ (fun a b (h : a ≠ b) z => h (Sum.inr.inj z)) gj.nz
        have cc : cCJ mj CJ [.ro (.dic kvs)] n (fun r n' => r = .ro .non ∧ n' = n) (fun _ _ _ _ => False) := ⟨_, rfl, .inr (.inr ⟨kvs, rs.map (·.p), rfl, gj.ne, gj.len, ndk, prs, gj.np, rfl, rfl⟩)⟩
        rcases ja with rfl | rfl
        · have h := R3.sl
          cases h with
          | cons h _ =>
            refine ⟨_, r1, .ref a, rfl, ⟨H, A, Γ.p⟩, n, [.ro (.dic kvs)], _, _, rfl, R3.exit0, .cons (.ro h) .nil, cc, fun w r A' H' n' ex ro qq => ?_, fun _ _ _ _ _ _ _ _ _ _ _ _ _ z => z.elim⟩
            obtain ⟨rfl, rfl⟩ := qq
            obtain ⟨R4, m4⟩ := R3.call ex
            exact hT A' H' R4 (ax.mv m4)
        · have h := R3.sl
          cases h with
          | cons h _ =>
            obtain ⟨es, he, rk⟩ := (show Own A H a (.dic kvs) from h)
            have own : owns [some (V.ref a)] [.own (.dic kvs)] = [a] := by rw [owns, owns_nil]
            have fa := R3.fo a (by rw [own]; exact List.mem_singleton.mpr rfl)
            have xa : x ≠ a := fun z => ax.no (by rw [own, z]; exact List.mem_singleton.mpr rfl)
            refine ⟨_, ps_lock r1, a, .dK es, he, trivial, fun od => ⟨.ref a, rfl, ⟨upd H a (.frz od (.dK es)), fun b => A b ∨ b = a, Γ.p⟩, n, [.ro (.dic kvs)], _, _, rfl, ?_, ?_, cc, fun w r A' H' n' ex ro qq => ?_, fun _ _ _ _ _ _ _ _ _ _ _ _ _ z => z.elim⟩⟩
            · refine ⟨fun _ _ _ e => e, fun _ h => h, fun b hb => ?_, fun _ h => .inl h, ?_⟩
              · rcases hb with hb | rfl
                · exact ⟨by rw [upd_ne (fun z => fa.na (by rw [← z]; exact hb))]; exact (R3.ad b hb).1, (R3.ad b hb).2⟩
                · exact ⟨(by rw [upd_same]; exact fun z => by cases z), fa.nm⟩
              · exact Γ.ist H _ n (fun b m => upd_ne (fun z => fa.nm (by rw [← z]; exact m))) (.of (fun _ h => .inl h) fun b o hb e => by
                  rw [upd_ne (fun z => fa.na (by rw [← z]; exact hb))]
                  exact e) R3.inv
            · exact .cons (.ro (.dic (.inr rfl) upd_same (rk.kp (.of (fun _ h => .inl h) fun b o hb e => by
                rw [upd_ne (fun z => fa.na (by rw [← z]; exact hb))]
                exact e)))) .nil
            · obtain ⟨rfl, rfl⟩ := qq
              obtain ⟨h1, R4, old⟩ := Rel.unlend (od := od) R3 he rk ex
              refine ⟨h1, hT _ _ R4 ⟨old x _ xa ax.fr.nm ax.at_, ⟨ax.fr.h0, fun z => ?_, ax.fr.nm⟩, ax.no⟩⟩
              rcases ex.nw x z.1 with z | z
              · rcases z with z | z
                · exact ax.fr.na z
                · exact xa z
              · have z : upd H a (.frz od (.dK es)) x = none := z
                rw [upd_ne xa, ax.at_] at z
                cases z
      refine rest A H _ fun A' H' R4 ax4 => ?_
      clear rest r1 R3 ax
      refine ht Γ A' H' n (.ref x) (.ref a) s1 kvs rs mj _ R4 ja gj fun t A5 H5 rs' pr so R5 rt5 m5 => ?_
      have ax5 := ax4.mv m5
      refine ⟨.ref x, rfl, x, C, dx, [], rfl, ax5.at_, tj.cl, tj.n1, by decide, ?_⟩
      have R6 := ax5.rel (u := .ins C dx [("_table", .ref t)]) R5
      have ax6 := ax5.set (u := .ins C dx [("_table", .ref t)])
      have rt6 := rt5.kp (ax5.kp (u := .ins C dx [("_table", .ref t)]))
      show (fun (T : TS) => T _ [some (.ref x), some (.ref a), none, none] (upd H5 x (.ins C dx [("_table", .ref t)]))) _
      generalize upd H5 x (.ins C dx [("_table", .ref t)]) = H6 at *
      clear ax5 R5 rt5 m5 R4 ax4
      refine fun c nc => ⟨.ref x, rfl, x, C, dx, [("_table", .ref t)], rfl, (by rw [upd_ne (ne_of_none ax6.at_ nc)]; exact ax6.at_), tj.cl, tj.n2, (show 1 < 1000 by decide), ?_⟩
      have xc : x ≠ c := ne_of_none ax6.at_ nc
      have g7 : Grow A5 H6 A5 (upd H6 c (.dK [])) := .new nc R6.dom
      have R7 := R6.grow g7
      have ac7 : Ap Γ A5 (upd H6 c (.dK [])) [some (.ref a)] [s1] c (.dK []) := Ap.of R6 nc upd_same
      have ax7 := ax6.mv (.grow g7)
      have R8 := ax7.rel (u := .ins C dx [("_table", .ref t), ("_costs", .ref c)]) R7
      have ax8 := ax7.set (u := .ins C dx [("_table", .ref t), ("_costs", .ref c)])
      have ac8 := ac7.up (u := .ins C dx [("_table", .ref t), ("_costs", .ref c)]) xc.symm
      have rt8 := (rt6.kp g7.k).kp (ax7.kp (u := .ins C dx [("_table", .ref t), ("_costs", .ref c)]))
      show (fun (T : TS) => T _ [some (.ref x), some (.ref a), none, none] (upd (upd H6 c (.dK [])) x (.ins C dx [("_table", .ref t), ("_costs", .ref c)]))) _
      generalize upd (upd H6 c (.dK [])) x (.ins C dx [("_table", .ref t), ("_costs", .ref c)]) = H8 at *
      clear ax6 R6 rt6 g7 R7 ac7 ax7
      refine fun g ng => ⟨.ref x, rfl, x, C, dx, [("_table", .ref t), ("_costs", .ref c)], rfl, (by rw [upd_ne (ne_of_none ax8.at_ ng)]; exact ax8.at_), tj.cl, tj.n3, (show 2 < 1000 by decide), ?_⟩
      have xg : x ≠ g := ne_of_none ax8.at_ ng
      have cg : c ≠ g := ne_of_none ac8.at_ ng
      have g9 : Grow A5 H8 A5 (upd H8 g (.dK [])) := .new ng R8.dom
      have R9 := R8.grow g9
      have ag9 : Ap Γ A5 (upd H8 g (.dK [])) [some (.ref a)] [s1] g (.dK []) := Ap.of R8 ng upd_same
      have ax9 := ax8.mv (.grow g9)
      have ac9 := ac8.mv (.grow g9)
      have R10 := ax9.rel (u := .ins C dx [("_table", .ref t), ("_costs", .ref c), ("_ceilings", .ref g)]) R9
      have ax10 := ax9.set (u := .ins C dx [("_table", .ref t), ("_costs", .ref c), ("_ceilings", .ref g)])
      have ac10 := ac9.up (u := .ins C dx [("_table", .ref t), ("_costs", .ref c), ("_ceilings", .ref g)]) xc.symm
      have ag10 := ag9.up (u := .ins C dx [("_table", .ref t), ("_costs", .ref c), ("_ceilings", .ref g)]) xg.symm
      have rt10 := (rt8.kp g9.k).kp (ax9.kp (u := .ins C dx [("_table", .ref t), ("_costs", .ref c), ("_ceilings", .ref g)]))
      show (fun (T : TS) => T _ [some (.ref x), some (.ref a), none, none] (upd (upd H8 g (.dK [])) x (.ins C dx [("_table", .ref t), ("_costs", .ref c), ("_ceilings", .ref g)]))) _
      generalize upd (upd H8 g (.dK [])) x (.ins C dx [("_table", .ref t), ("_costs", .ref c), ("_ceilings", .ref g)]) = H10 at *
      clear ax8 R8 rt8 ac8 g9 R9 ag9 ax9 ac9
      refine fun s ns => ⟨.ref x, rfl, x, C, dx, [("_table", .ref t), ("_costs", .ref c), ("_ceilings", .ref g)], rfl, (by rw [upd_ne (ne_of_none ax10.at_ ns)]; exact ax10.at_), tj.cl, tj.n4, (show 3 < 1000 by decide), ?_⟩
      have xs : x ≠ s := ne_of_none ax10.at_ ns
      have cs : c ≠ s := ne_of_none ac10.at_ ns
      have gs : g ≠ s := ne_of_none ag10.at_ ns
      have g11 : Grow A5 H10 A5 (upd H10 s (.dK [])) := .new ns R10.dom
      have R11 := R10.grow g11
      have as11 : Ap Γ A5 (upd H10 s (.dK [])) [some (.ref a)] [s1] s (.dK []) := Ap.of R10 ns upd_same
      have ax11 := ax10.mv (.grow g11)
      have ac11 := ac10.mv (.grow g11)
      have ag11 := ag10.mv (.grow g11)
      have R12 := ax11.rel (u := .ins C dx (fsJ t c g s)) R11
      have ax12 := ax11.set (u := .ins C dx (fsJ t c g s))
      have ac12 := ac11.up (u := .ins C dx (fsJ t c g s)) xc.symm
      have ag12 := ag11.up (u := .ins C dx (fsJ t c g s)) xg.symm
      have as12 := as11.up (u := .ins C dx (fsJ t c g s)) xs.symm
      have rt12 := (rt10.kp g11.k).kp (ax11.kp (u := .ins C dx (fsJ t c g s)))
      show (fun (T : TS) => T _ [some (.ref x), some (.ref a), none, none] (upd (upd H10 s (.dK [])) x (.ins C dx (fsJ t c g s)))) _
      generalize upd (upd H10 s (.dK [])) x (.ins C dx (fsJ t c g s)) = H12 at *
      clear ax10 R10 rt10 ac10 ag10 g11 R11 as11 ax11 ac11 ag11
      have nd' : (rs'.map (·.z)).Nodup := (pr.map _).nodup_iff.mpr gj.nz
      have len' : rs'.length ≤ 60 := by
        have h1 := Paired.length gj.pr
        have h2 := gj.len
        have h3 := pr.length_eq
        omega
      have all : ∀ r ∈ rs', Lawf 3 r.ps ∧ 1 ≤ r.p := fun r hr => by
        obtain ⟨d, _, ge⟩ := good_val gj.pr gj.nz r (pr.subset hr)
        exact ⟨ge.lawf, ge.p1⟩
      refine K59.outer tj nd' len' (fun r hr => (all r hr).1) (fun r hr => (all r hr).2) R12 rt12 ⟨ax12, ⟨_, ac12, .nil⟩, ⟨_, ag12, .nil⟩, ⟨_, as12, .nil⟩, xc, xg, xs, cg, cs, gs⟩ fun A13 H13 o2 o3 kg ks R13 k13 o13 ce => ?_
      intro kp nk
      obtain ⟨ec, ac, rc⟩ := o13.oc
      obtain ⟨eg, ag, rg⟩ := o13.og
      have g14 : Grow A13 H13 A13 (upd H13 kp (.dK [])) := .new nk R13.dom
      have R14 := R13.grow g14
      have ax14 := o13.ox.mv (.grow g14)
      have ac14 := ac.mv (.grow g14)
      have ag14 := ag.mv (.grow g14)
      refine ⟨c, .dK ec, ac14.at_, trivial, fun od => ⟨g, .dK eg, by rw [upd_ne cg.symm]; exact ag14.at_, trivial, fun od2 => ?_⟩⟩
      obtain ⟨A15, R15, rp⟩ := done_obj (od := od) (od2 := od2) (v := .ref kp) R14 ((rt12.kp k13).kp g14.k) ax14 ac14 (rc.kp g14.k) ag14 (rg.kp g14.k) xc xg cg
      refine ⟨.ref x, rfl, x, C, dx, fsJ t c g s, rfl, (by rw [upd_ne xg, upd_ne xc]; exact ax14.at_), tj.cl, tj.n5, (show 4 < 1000 by decide), q A15 _ rs' kg pr so ce R15 rp⟩
    · have h := R3.sl
      cases h with
      | cons h _ =>
        refine ⟨_, r1, v, rfl, ⟨H, A, Γ.p⟩, n, [.ro d], _, Xd, rfl, R3.exit0, .cons (.ro h) .nil, cj, fun _ _ _ _ _ _ _ z => z.elim, fun A' H' n' C' f' d' v' x' ex e1 e2 e3 rp xd => ?_⟩
        exact exs A' H' n' C' f' d' v' x' (R3.exit ex) e1 (R3.h0 x' e2) e3 rp xd
end
end K59
/-! ## K60a -/
set_option Elab.async false
set_option linter.all false
set_option maxRecDepth 100000
set_option maxHeartbeats 4000000
/-! k59: Jobs.__eq__. -/
namespace K59
open PySem PySem.Spec PyProof.Rows L2 DL
abbrev sEqJ : Stmt := inClass sJobsC 1
structure TIJ (K : PySem.W.Frag) (C : Addr) : Prop where
  cl : L2.Cls K C
  ha : PySem.W.findIn K (.ref C) "__class__" = some (some (.builtin "object.__class__"))
  hn : PySem.W.specialIn K (.builtin "object.__class__") "__get__" = some (some (.builtin "getset_descriptor.__get__"))
  htk : PySem.W.takesIn K (.builtin "object.__class__") = some true
  hm : PySem.W.mroIn K C (.type "object") = some true
  yes : PySem.W.kitOne K (.ref C) (.ref C) = some true
  no : PySem.W.kitOne K (.type "dict") (.ref C) = some false
variable [Wd]
def isC (C : Addr) (d : Dt) (b : Bool) : Prop := ((∃ ks, d = .ins C ks) ∧ b = true) ∨ ((∃ ks, d = .dic ks) ∧ b = false)
theorem dr_isiC {ι : Type} {X : ι → Cx} {ac : DL.Act} {K : PySem.W.Frag} {C : Addr} (ti : TIJ K C) {a e : Expr} {T : TRd} (pe : ∀ c {t : TE}, PE (X c) a t → PE (X c) e (tCB (rIsi K) (tCons t (tCons (tC (.ref C)) tNil)))) (h : DR X ac a T) :
    DR X ac e (fun n δ Q => T n δ fun d n' δ' => ∃ b, isC C d b ∧ Q (.bl b) n' δ') := by
  obtain ⟨t, p, ev⟩ := h
  refine ⟨_, fun c => pe c (p c), fun Γ gx σ A H n δ Qd Q R hT k => ev Γ gx σ A H n δ _ _ R hT fun v d A' H' n' δ' R' r m q => ?_⟩
  obtain ⟨b, ic, q⟩ := q
  have fin := k (.bl b) (.bl b) A' H' n' δ' R' (.bl b) m q
  rcases ic with ⟨⟨ks, rfl⟩, rfl⟩ | ⟨⟨ks, rfl⟩, rfl⟩
  · obtain ⟨x, dx, fs, rfl, _, hx, _⟩ := rep_ins r
    exact ⟨_, .ref C, _, _, true, rfl, .own C, .base (.ins hx ti.cl ti.ha ti.hn ti.htk ti.hm), ti.yes, fin⟩
  · obtain ⟨x, o, es, rfl, _, hx, _⟩ := rep_dic r
    exact ⟨_, .ref C, _, _, false, rfl, .own C, .fDict hx, ti.no, fin⟩
def cEqJ (C : Addr) : Ct := fun rs n Q _ => ∃ tb cs ce d, rs = [.ro (jobsT C tb cs ce), .ro d] ∧ (∀ p ∈ tb, okD 60 p.2 = true) ∧ ((∃ tb2 cs2 ce2, d = jobsT C tb2 cs2 ce2 ∧ (∀ p ∈ tb2, okD 60 p.2 = true) ∧ Q (.ro (.bl (eqDic tb tb2))) n) ∨ ∃ kvs, d = .dic kvs ∧ Q (.ro (.bl false)) n)
section
variable {P : Program} {K : PySem.W.Frag} {mg : Str → Option Value} {base : Heap} {f : Addr} {fd : FuncData} {C : Addr}
theorem scEqJ : FnScope ["self", "other"] ["self", "other"] (defScope sEqJ) := ⟨rfl, rfl, rfl, by decide +kernel, rfl, by decide +kernel, by decide +kernel⟩
theorem ok_eqJ (F : Fun K "__eq__" "Jobs.__eq__" sEqJ f fd) (tj : TJ K C) (ti : TIJ K C) (gJ : mg "Jobs" = some (.ref C)) (gI : mg "isinstance" = none) : FnOk P Wd.w K mg base CX0 1 f fd ["self", "other"] (spC (cEqJ C)) := by
  refine okC F scEqJ (fun rs n Qd Xd h => ?_) (fun cdv A outer s H E Xd hr => ?_)
  · obtain ⟨tb, cs, ce, d, rfl, _⟩ := h
    rfl
  · refine ⟨_, dss_one (ds_ret (de_and (dr_isiC (K := K) ti (fun _ _ h => pe_callB call_isi (by rfl) gI (by decide +kernel) (pa_cons h (pa_cons (pe_glob (v := .ref C) (by rfl) gJ rfl) pa_nil))) (dr_var fun _ => pv 1)) (de_one (DR.e (dr_op (fun _ _ _ h1 h2 => pe_cmpR (op_eqK hr.units) h1 h2 (nomark _)) dop_eqK (dr_fld (K := K) (f := "_table") (fun _ _ h => pe_fld h rfl) (dr_var fun _ => pv 0)) (DR.b (dr_fld (K := K) (f := "_table") (fun _ _ h => pe_fld h rfl) (dr_var fun _ => pv 1)))))))), fun rs n Qd h => ?_⟩
    obtain ⟨tb, cs, ce, d, rfl, o1, h⟩ := h
    rcases h with ⟨tb2, cs2, ce2, rfl, o2, q⟩ | ⟨kvs, rfl, q⟩
    · exact ⟨_, rfl, true, .inl ⟨⟨_, rfl⟩, rfl⟩, true, rfl, dT ⟨_, rfl, C, _, .dic tb, rfl, tj.cl, tj.n1, rfl, _, rfl, C, _, .dic tb2, rfl, tj.cl, tj.n1, rfl, tb, tb2, rfl, rfl, o1, o2, q⟩⟩
    · exact ⟨_, rfl, false, .inr ⟨⟨_, rfl⟩, rfl⟩, false, rfl, dF q⟩
end
end K59
/-! ## K60b -/
set_option Elab.async false
set_option linter.all false
set_option maxRecDepth 100000
set_option maxHeartbeats 4000000
/-! k59: Jobs(..), by trees: of jobs that are read, of a name's own that are lent. -/
namespace K59
open PySem PySem.Spec PyProof.Rows L2 DL
variable [Wd]
section
variable {Γ : Gm} {A A' : Addr → Prop} {H H' : Hp} {σ : L2.St} {δ : List Sl} {n n' : Nat}
/-- the state of a call with one argument -/
theorem Rel.arg1 {v : V} {d : Dt} (R : Rel Γ σ δ A H n) (r : Rep A H v d) : Rel ⟨H, A, Γ.p⟩ [some v] [.ro d] A H n := by
  have ex := R.exit0
  have own : owns [some v] [.ro d] = [] := by
    rcases owns_cons (x := some v) (s := .ro d) (σ := []) (δ := []) with e | ⟨b, d, _, es, _⟩
    · rw [e, owns_nil]
    · cases es
  exact ⟨.cons r .nil, by rw [own]; exact List.nodup_nil, (fun a ha => by rw [own] at ha; cases ha), ex.fr, ex.a0, ex.ad, ex.nw, ex.inv⟩
/-- .. that is a name's own, lent -/
theorem Rel.lend {i : Nat} {a : Addr} {kvs : List (Key × Dt)} (R : Rel Γ σ δ A H n) (h1 : σ[i]? = some (some (.ref a))) (h2 : δ[i]? = some (.own (.dic kvs))) (ho : Own A H a (.dic kvs)) : Rel ⟨fun b => if b = a then none else H b, A, Γ.p⟩ [some (.ref a)] [.own (.dic kvs)] A H n := by
  have f := R.fo a (owns_at h1 h2)
  have own : owns [some (V.ref a)] [.own (.dic kvs)] = [a] := by rw [owns, owns_nil]
  refine ⟨.cons ho .nil, by rw [own]; simp, fun b hb => ?_, fun b o nm e => ?_, fun _ h => h, R.ad, fun _ h => .inl h, R.inv⟩
  · rw [own] at hb
    obtain rfl := List.mem_singleton.mp hb
    exact ⟨if_pos rfl, f.na, f.nm⟩
  · have e : (if b = a then none else H b) = some o := e
    split at e
    · cases e
    · exact e
theorem Rel.lent {i : Nat} {a : Addr} {kvs : List (Key × Dt)} (R : Rel Γ σ δ A H n) (h1 : σ[i]? = some (some (.ref a))) (h2 : δ[i]? = some (.own (.dic kvs))) (R2 : Rel ⟨fun b => if b = a then none else H b, A, Γ.p⟩ [some (.ref a)] [.own (.dic kvs)] A' H' n') : Rel Γ σ δ A' H' n' ∧ Mv Γ σ δ A H δ A' H' := by
  have f := R.fo a (owns_at h1 h2)
  obtain ⟨o1, o2, o3⟩ := owns_no (σ := σ) (δ := δ) (i := i) R.nd
  have na := o3 a _ h1 h2
  have own : owns [some (V.ref a)] [.own (.dic kvs)] = [a] := by rw [owns, owns_nil]
  have f2 := R2.fo a (by rw [own]; exact List.mem_singleton.mpr rfl)
  have k : Kp A H A (fun b => if b = a then none else H b) := .of (fun _ h => h) fun b o hb e => by
    show (if b = a then none else H b) = some o
    rw [if_neg (fun z => f.na (by rw [← z]; exact hb))]
    exact e
  have R0 : Rel Γ σ (δ.set i .no) A (fun b => if b = a then none else H b) n := by
    have Rn := R.no (i := i)
    refine ⟨slR_kp k (fun b hb => if_neg (fun z => na (by rw [← z]; exact hb))) Rn.sl, Rn.nd, Rn.fo, fun b o nm e => ?_, R.a0, fun b hb => ⟨?_, (R.ad b hb).2⟩, R.nw, Γ.ist H _ n (fun b m => if_neg (fun z => f.nm (by rw [← z]; exact m))) k R.inv⟩
    · show (if b = a then none else H b) = some o
      rw [if_neg (fun z => by rw [z, f.h0] at e; cases e)]
      exact R.fr b o nm e
    · show (if b = a then none else H b) ≠ none
      rw [if_neg (fun z => f.na (by rw [← z]; exact hb))]
      exact (R.ad b hb).1
  obtain ⟨R3, m3⟩ := R0.call R2.ex
  have own2 : Own A' H' a (.dic kvs) := by
    have h := R2.sl
    cases h with
    | cons h _ => exact h
  have rr : RRel Γ (fun _ => none) A' H' σ (δ.set i .no) (.ref a) (.own (.dic kvs)) := ⟨a, rfl, own2, na, ⟨f.h0, f2.na, f.nm⟩, rfl⟩
  have R4 := R3.set (i := i) rr
  rw [List.set_set, set_at h1, set_at h2] at R4
  obtain ⟨es, he, _⟩ := own2
  refine ⟨R4, ⟨m3.gr, fun b o e nb nm => ?_, fun b hb => ?_, fun _ h => h, fun b hb => ?_⟩⟩
  · have ne : b ≠ a := fun z => nb (by rw [z]; exact owns_at h1 h2)
    refine m3.fm b o ?_ (fun z => nb (o2 b z)) nm
    show (if b = a then none else H b) = some o
    rw [if_neg ne]
    exact e
  · rcases m3.na b hb with z | z | z | z
    · exact .inl z
    · by_cases e : b = a
      · rw [e]
        exact .inr (.inr (.inl (owns_at h1 h2)))
      · have z : (if b = a then none else H b) = none := z
        rw [if_neg e] at z
        exact .inr (.inl z)
    · exact .inr (.inr (.inl (o2 b z)))
    · exact .inr (.inr (.inr z))
  · by_cases e : b = a
    · rw [e, he]
      exact fun z => by cases z
    · refine m3.th b ?_
      show (if b = a then none else H b) ≠ none
      rw [if_neg e]
      exact hb
end
section
variable {ι : Type} {X : ι → Cx} {ac : DL.Act} {mj : Nat} {C CJ : Addr}
theorem dr_mkJ {a e : Expr} {T : TRd} (pe : ∀ c {t : TA}, PA (X c) [a] t → PE (X c) e (tMake C (spJI mj C CJ) [] ac.Ex t)) (h : DR X ac a T) (hs : ∀ c, starEach (a :: []) (X c).env = (false, eval a (X c).env) :: starEach [] (X c).env := by intro _; rfl) :
    DR X ac e (fun n δ Q => T n δ fun d n' δ' => (∃ kvs rs, d = .dic kvs ∧ GoodJ mj kvs rs ∧ ∀ rs' ce, rs'.Perm rs → sortedS (rs'.map (·.z)) = true → CeilOf (evs rs') ce → Q (jobsT C (tbOf rs') (csOf rs') ce) n' δ') ∨ cCJ mj CJ [.ro d] n' (fun _ _ => False) ac.Xd) := by
  obtain ⟨t, p, ev⟩ := h
  refine ⟨_, fun c => pe c (pa_cons (p c) pa_nil (hs c)), fun Γ gx σ A H n δ Qd Q R hT k => ev Γ gx σ A H n δ _ _ R hT fun v d A1 H1 n1 δ1 R1 r1 m1 q1 => fun x dx nx ndx ne => ?_⟩
  refine ⟨x, dx, v, H1, ⟨H1, A1, Γ.p⟩, A1, n1, .ro d, rfl, rfl, nx, ndx, ne, Rel.arg1 R1 r1, ?_⟩
  rcases q1 with ⟨kvs, rs, rfl, gj, q⟩ | cj
  · refine .inl ⟨kvs, rs, .inl rfl, gj, fun A' H' rs' ce pr so c R' rp => ⟨rfl, ?_⟩⟩
    obtain ⟨R2, m2⟩ := R1.call R'.ex
    exact k (.ref x) _ A' H' n1 δ1 R2 rp (m1.trans m2) (q rs' ce pr so c)
  · exact .inr ⟨d, ac.Xd, rfl, cj, fun A' H' n' C f d v x ex e1 e2 e3 rp q => gx A' H' n' C f d v x (R1.exit ex) e1 (R1.h0 x e2) e3 rp q⟩
theorem dr_mkJ0 {Ec : XK} {a e : Expr} {T : TRd} (pe : ∀ c {t : TA}, PA (X c) [a] t → PE (X c) e (tMake C (spJI mj C CJ) [] Ec t)) (h : DR X ac a T) (hs : ∀ c, starEach (a :: []) (X c).env = (false, eval a (X c).env) :: starEach [] (X c).env := by intro _; rfl) :
    DR X ac e (fun n δ Q => T n δ fun d n' δ' => ∃ kvs rs, d = .dic kvs ∧ GoodJ mj kvs rs ∧ ∀ rs' ce, rs'.Perm rs → sortedS (rs'.map (·.z)) = true → CeilOf (evs rs') ce → Q (jobsT C (tbOf rs') (csOf rs') ce) n' δ') := by
  obtain ⟨t, p, ev⟩ := h
  refine ⟨_, fun c => pe c (pa_cons (p c) pa_nil (hs c)), fun Γ gx σ A H n δ Qd Q R hT k => ev Γ gx σ A H n δ _ _ R hT fun v d A1 H1 n1 δ1 R1 r1 m1 q1 => fun x dx nx ndx ne => ?_⟩
  refine ⟨x, dx, v, H1, ⟨H1, A1, Γ.p⟩, A1, n1, .ro d, rfl, rfl, nx, ndx, ne, Rel.arg1 R1 r1, ?_⟩
  obtain ⟨kvs, rs, rfl, gj, q⟩ := q1
  refine .inl ⟨kvs, rs, .inl rfl, gj, fun A' H' rs' ce pr so c R' rp => ⟨rfl, ?_⟩⟩
  obtain ⟨R2, m2⟩ := R1.call R'.ex
  exact k (.ref x) _ A' H' n1 δ1 R2 rp (m1.trans m2) (q rs' ce pr so c)
theorem dr_mkJL {Ec : XK} {i : Nat} {x : Str} {pos : Pos} {e : Expr} (pe : ∀ c {t : TA}, PA (X c) [.Name x pos] t → PE (X c) e (tMake C (spJI mj C CJ) [] Ec t)) (h : ∀ c, PE (X c) (.Name x pos) (tVar i)) (hs : ∀ c, starEach (Expr.Name x pos :: []) (X c).env = (false, eval (.Name x pos) (X c).env) :: starEach [] (X c).env := by intro _; rfl) :
    DR X ac e (fun n δ Q => ∃ kvs rs, δ[i]? = some (.own (.dic kvs)) ∧ GoodJ mj kvs rs ∧ ∀ rs' ce, rs'.Perm rs → sortedS (rs'.map (·.z)) = true → CeilOf (evs rs') ce → Q (jobsT C (tbOf rs') (csOf rs') ce) n δ) := by
  refine ⟨_, fun c => pe c (pa_cons (h c) pa_nil (hs c)), fun Γ gx σ A H n δ Qd Q R hT k => ?_⟩
  obtain ⟨kvs, rs, h2, gj, q⟩ := hT
  obtain ⟨y, h1, ho⟩ := slR_get R.sl h2
  obtain ⟨a, rfl, ho⟩ := slR_own ho
  refine ⟨_, h1, fun x dx nx ndx ne => ⟨x, dx, .ref a, H, _, A, n, .own (.dic kvs), rfl, rfl, nx, ndx, ne, Rel.lend R h1 h2 ho, .inl ⟨kvs, rs, .inr rfl, gj, fun A' H' rs' ce pr so c R' rp => ⟨rfl, ?_⟩⟩⟩⟩
  obtain ⟨R2, m2⟩ := Rel.lent R h1 h2 R'
  exact k (.ref x) _ A' H' n δ R2 rp m2 (q rs' ce pr so c)
end
end K59
/-! ## K60c -/
set_option Elab.async false
set_option linter.all false
set_option maxRecDepth 100000
set_option maxHeartbeats 4000000
/-! k59: the drawn jobs, handed with lists for tuples, are right. -/
namespace K59
open PySem PySem.Spec PyProof.Rows L2 DL
/-- drawn jobs -/
structure LawR (rs : List JR) : Prop where
  l1 : 1 ≤ rs.length
  l4 : rs.length ≤ 4
  nz : (rs.map (·.z)).Nodup
  np : (rs.map (·.p)).Nodup
  zw : ∀ r ∈ rs, r.z ∈ wordsL
  pw : ∀ r ∈ rs, r.p ∈ priosL
  q1 : ∀ r ∈ rs, 1 ≤ r.q
  wf : ∀ r ∈ rs, Wf 3 thingsL r.ps
theorem lawR_of : ∀ {kvs : List (Key × Dt)} {zs : List Str} {prs : List Int}, Paired (fun e (zp : Str × Int) => ∃ q ps, OneJ e zp.1 zp.2 q ps) kvs (zs.zip prs) → zs.length = prs.length → ∃ rs : List JR, kvs = tbOf rs ∧ rs.map (·.z) = zs ∧ rs.map (·.p) = prs ∧ (∀ r ∈ rs, 1 ≤ r.q) ∧ ∀ r ∈ rs, Wf 3 thingsL r.ps
  | _, [], [], .nil, _ => ⟨[], rfl, rfl, rfl, (fun r h => by cases h), fun r h => by cases h⟩
  | _, z :: zs, p :: prs, .cons h t, hl => by
    obtain ⟨rs, rfl, rfl, rfl, h1, h2⟩ := lawR_of t (by simpa using hl)
    obtain ⟨q, ps, o⟩ := h
    refine ⟨⟨z, p, q, ps⟩ :: rs, ?_, rfl, rfl, fun r hr => ?_, fun r hr => ?_⟩
    · rw [o.eq]
      rfl
    · rcases List.mem_cons.mp hr with rfl | hr
      · exact o.q1
      · exact h1 r hr
    · rcases List.mem_cons.mp hr with rfl | hr
      · exact o.wf
      · exact h2 r hr
  | _, [], _ :: _, _, hl => by simp at hl
  | _, _ :: _, [], _, hl => by simp at hl
theorem lawJ_R {kvs : List (Key × Dt)} {zs : List Str} {prs : List Int} (h : LawJ kvs zs prs) (l1 : 1 ≤ zs.length) (l4 : zs.length ≤ 4) : ∃ rs, kvs = tbOf rs ∧ LawR rs ∧ rs.length = zs.length := by
  obtain ⟨pr, hl, nz, np, zw, pw⟩ := h
  obtain ⟨rs, rfl, rfl, rfl, h1, h2⟩ := lawR_of pr hl
  have e : (rs.map (·.z)).length = rs.length := List.length_map _
  exact ⟨rs, rfl, ⟨by omega, by omega, nz, np, fun r hr => zw _ (List.mem_map.mpr ⟨r, hr, rfl⟩), fun r hr => pw _ (List.mem_map.mpr ⟨r, hr, rfl⟩), h1, h2⟩, by omega⟩
theorem words_all : ∀ z ∈ wordsL, wordT z = true := by decide +kernel
theorem things_all : ∀ z ∈ thingsL, wordT z = true := by decide +kernel
theorem prios_all : ∀ p ∈ priosL, 1 ≤ p ∧ p < 900 := by decide +kernel
theorem hds_mem : ∀ {ds es : List Dt}, Hds ds es → ∀ x ∈ es, ∃ y ∈ ds, Hd y x
  | _, _, .cons h t, x, hx => by
    rcases List.mem_cons.mp hx with rfl | hx
    · exact ⟨_, List.mem_cons_self, h⟩
    · obtain ⟨y, hy, q⟩ := hds_mem t x hx
      exact ⟨y, List.mem_cons_of_mem _ hy, q⟩
theorem elem_tyd {d : Dt} {ds : List Dt} (e : elemD d = some ds) : (∃ ty, tyD d = some ty) ∧ ∀ z, d ≠ .str z := by
  cases d <;> simp [elemD] at e
  · exact ⟨⟨_, rfl⟩, fun z q => by cases q⟩
  · exact ⟨⟨_, rfl⟩, fun z q => by cases q⟩
theorem hd_nice : ∀ (m : Nat) {d e : Dt}, Hd d e → Nice m d → Nice m e
  | 0, _, _, _, h => h.elim
  | m + 1, d, e, h, ⟨h1, h2, h3⟩ => by
    cases h with
    | same _ => exact ⟨h1, h2, h3⟩
    | seq e1 e2 hs =>
      obtain ⟨t1, t2⟩ := elem_tyd e2
      refine ⟨t1, fun z q => absurd q (t2 z), fun es q => ?_⟩
      rw [e2] at q
      cases q
      obtain ⟨l, hx⟩ := h3 _ e1
      refine ⟨by rw [← hs.len]; exact l, fun x hx2 => ?_⟩
      obtain ⟨y, hy, hd⟩ := hds_mem hs x hx2
      exact hd_nice m hd (hx y hy)
theorem nice_int (m : Nat) (i : Int) : Nice (m + 1) (.int i) := ⟨⟨_, rfl⟩, (fun z q => by cases q), fun ds q => by cases q⟩
theorem nice_str (m : Nat) (z : Str) (h : wordT z = true) : Nice (m + 1) (.str z) := ⟨⟨_, rfl⟩, (fun y q => by cases q; have := word_len h; omega), fun ds q => by cases q⟩
theorem nice_tup (m : Nat) (ds : List Dt) (l : ds.length ≤ 1000) (h : ∀ x ∈ ds, Nice m x) : Nice (m + 1) (.tup ds) := ⟨⟨_, rfl⟩, (fun y q => by cases q), fun es q => by cases q; exact ⟨l, h⟩⟩
theorem nice_lst (m : Nat) (ds : List Dt) (l : ds.length ≤ 1000) (h : ∀ x ∈ ds, Nice m x) : Nice (m + 1) (.lst ds) := ⟨⟨_, rfl⟩, (fun y q => by cases q), fun es q => by cases q; exact ⟨l, h⟩⟩
theorem nice_wf (k : Nat) : ∀ (m : Nat) (ts : List Str) (ps : List Part), (∀ t ∈ ts, wordT t = true) → Wf m ts ps → Nice (2 * m + k) (.tup (partsT ps))
  | 0, _, _, _, h => h.elim
  | m + 1, ts, ps, hw, ⟨_, l3, h⟩ => by
    rw [show 2 * (m + 1) + k = (2 * m + k + 1) + 1 by omega]
    refine nice_tup (2 * m + k + 1) _ (by rw [partsT_map, List.length_map]; omega) fun x hx => ?_
    rw [partsT_map] at hx
    obtain ⟨p, hp, rfl⟩ := List.mem_map.mp hx
    have hq := h p hp
    cases p with
    | unit q => rw [Part.t]; exact nice_int _ _
    | inn t b =>
      obtain ⟨ht, left, hl, wf⟩ := hq
      rw [Part.t]
      refine nice_tup (2 * m + k) _ (by simp) fun x hx => ?_
      have m1 : 1 ≤ m := by
        cases m with
        | zero => exact wf.elim
        | succ m => omega
      rcases List.mem_cons.mp hx with rfl | hx
      · obtain ⟨k', ek⟩ : ∃ k', 2 * m + k = k' + 1 := ⟨2 * m + k - 1, by omega⟩
        rw [ek]
        exact nice_str _ _ (hw t ht)
      · rw [List.mem_singleton.mp hx]
        exact nice_wf k m left b (fun y hy => hw y (hl y hy).1) wf
theorem nice_row {rs : List JR} (h : LawR rs) {r : JR} (hr : r ∈ rs) : Nice 9 r.tup := by
  refine nice_tup 8 _ (by simp) fun x hx => ?_
  have n6 := nice_wf 2 3 thingsL r.ps things_all (h.wf r hr)
  simp only [List.mem_cons, List.not_mem_nil, or_false] at hx
  rcases hx with rfl | rfl | rfl
  · exact nice_int _ _
  · exact nice_int _ _
  · exact n6
theorem hd_int {i : Int} {e : Dt} (h : Hd (.int i) e) : e = .int i := by
  cases h with
  | same _ => rfl
  | seq e1 _ _ => cases e1
theorem hd_str {z : Str} {e : Dt} (h : Hd (.str z) e) : e = .str z := by
  cases h with
  | same _ => rfl
  | seq e1 _ _ => cases e1
theorem hd_tup {ds : List Dt} {e : Dt} (h : Hd (.tup ds) e) : ∃ es, elemD e = some es ∧ Hds ds es := by
  cases h with
  | same q => cases q
  | seq e1 e2 hs =>
    cases e1
    exact ⟨_, e2, hs⟩
mutual
theorem hd_part : ∀ {p : Part} {e : Dt}, Hd p.t e → IsPart e p
  | .unit k, e, h => by
    rw [Part.t] at h
    rw [hd_int h]
    exact .unit k
  | .inn t b, e, h => by
    rw [Part.t] at h
    obtain ⟨es, e1, hs⟩ := hd_tup h
    cases hs with
    | cons h1 hs =>
      cases hs with
      | cons h2 hs =>
        cases hs
        obtain rfl := hd_str h1
        obtain ⟨bs, e2, hb⟩ := hd_tup h2
        exact .inn e1 e2 (hd_parts hb)
theorem hd_parts : ∀ {ps : List Part} {es : List Dt}, Hds (partsT ps) es → IsParts es ps
  | [], _, h => by
    rw [partsT] at h
    cases h
    exact .nil
  | p :: r, _, h => by
    rw [partsT] at h
    cases h with
    | cons h1 h2 => exact .cons (hd_part h1) (hd_parts h2)
end
theorem hd_are (k : Nat) : ∀ (m : Nat) (ts ar : List Str) (ps : List Part) (e : Dt), (∀ t ∈ ts, wordT t = true) → (∀ t ∈ ts, t ∉ ar) → Wf m ts ps → Hd (.tup (partsT ps)) e → areD (2 * m + k) ar e = true
  | 0, _, _, _, _, _, _, h, _ => h.elim
  | m + 1, ts, ar, ps, e, hw, hn, ⟨l1, _, h⟩, hd => by
    obtain ⟨es, e1, hs⟩ := hd_tup hd
    rw [show 2 * (m + 1) + k = (2 * m + k + 1) + 1 by omega]
    rw [areD, e1]
    have hl := hs.len
    rw [partsT_map, List.length_map] at hl
    have ne : es.isEmpty = false := by
      cases es with
      | nil => simp at hl; rw [hl] at l1; exact absurd l1 (by decide)
      | cons _ _ => rfl
    show (!es.isEmpty && es.all (partD (2 * m + k + 1) ar)) = true
    rw [ne]
    simp only [Bool.not_false, Bool.true_and, List.all_eq_true]
    intro x hx
    obtain ⟨y, hy, hxy⟩ := hds_mem hs x hx
    rw [partsT_map] at hy
    obtain ⟨p, hp, rfl⟩ := List.mem_map.mp hy
    have hq := h p hp
    cases p with
    | unit q =>
      rw [Part.t] at hxy
      rw [hd_int hxy, partD]
      simp only [decide_eq_true_eq]
      exact hq.1
    | inn t b =>
      obtain ⟨ht, left, hleft, wf⟩ := hq
      rw [Part.t] at hxy
      obtain ⟨us, e2, hu⟩ := hd_tup hxy
      cases hu with
      | cons h1 hu =>
        cases hu with
        | cons h2 hu =>
          cases hu
          obtain rfl := hd_str h1
          rename_i x2
          have ih := hd_are k m left (ar ++ [t]) b x2 (fun y hy => hw y (hleft y hy).1) (fun y hy z => by
            rcases List.mem_append.mp z with z | z
            · exact hn y (hleft y hy).1 z
            · exact (hleft y hy).2 (List.mem_singleton.mp z)) wf h2
          have fin : partD (2 * m + k + 1) ar x = true := by
            cases x <;> simp only [elemD] at e2 <;> cases e2
            all_goals (
              simp only [partD, elemD, wordS, hw t ht, if_true, Bool.and_eq_true, Bool.not_eq_true', decide_eq_false_iff_not]
              exact ⟨hn t ht, ih⟩)
          exact fin
theorem fit_of : ∀ (m : Nat) (ps : List Part), Lawf m ps → Fit m ps
  | 0, _, h => h
  | m + 1, ps, ⟨_, l3, h⟩ => ⟨by omega, fun p hp => by
    have hq := h p hp
    cases p with
    | unit k => trivial
    | inn t b => exact fit_of m b hq.2⟩
/-- a drawn job, handed, is right -/
theorem good_of {rs : List JR} (h : LawR rs) {r : JR} (hr : r ∈ rs) {e : Dt} (hd : Hd r.tup e) : GoodE 8 (.inr r.z, e) r := by
  have ni := hd_nice 9 hd (nice_row h hr)
  obtain ⟨es, e1, hs⟩ := hd_tup (show Hd (.tup [.int r.p, .int r.q, .tup (partsT r.ps)]) e from hd)
  cases hs with
  | cons h1 hs =>
    cases hs with
    | cons h2 hs =>
      cases hs with
      | cons h3 hs =>
        cases hs
        obtain rfl := hd_int h1
        obtain rfl := hd_int h2
        rename_i b
        obtain ⟨bs, eb, hb⟩ := hd_tup h3
        have pp := prios_all r.p (h.pw r hr)
        have q1 := h.q1 r hr
        have wf := h.wf r hr
        have lw := wf_lawf 3 thingsL r.ps things_all wf
        have ar := hd_are 2 3 thingsL [] r.ps b things_all (fun t _ z => by cases z) wf h3
        refine ⟨rfl, ⟨r.z, rfl, words_all r.z (h.zw r hr), ni, ?_, ?_⟩, lw, fit_of 3 r.ps lw, ⟨b, bs, e1, eb, hd_parts hb⟩, pp.1⟩
        · show jobD 8 e = true
          unfold jobD
          rw [e1]
          simp only [Bool.and_eq_true, decide_eq_true_eq]
          exact ⟨pp.1, q1, ar⟩
        · show prioD e = some r.p
          unfold prioD
          rw [e1]
def nb : Nat → Nat
  | 0 => 0
  | m + 1 => 1 + 3 * (1 + nb m)
theorem nodes_wf : ∀ (m : Nat) (ts : List Str) (ps : List Part), Wf m ts ps → nodesD (.tup (partsT ps)) ≤ nb m
  | 0, _, _, h => h.elim
  | m + 1, ts, ps, ⟨_, l3, h⟩ => by
    have one : ∀ p ∈ ps, nodesD p.t ≤ 1 + nb m := fun p hp => by
      have hq := h p hp
      cases p with
      | unit k =>
        rw [Part.t]
        simp [nodesD]
      | inn t b =>
        obtain ⟨_, left, _, wf⟩ := hq
        have := nodes_wf m left b wf
        rw [Part.t]
        simp only [nodesD, nodesDs] at this ⊢
        omega
    have all : ∀ (qs : List Part), (∀ p ∈ qs, p ∈ ps) → nodesDs (partsT qs) ≤ qs.length * (1 + nb m) := by
      intro qs
      induction qs with
      | nil =>
        intro _
        simp [partsT, nodesDs]
      | cons q r ih =>
        intro sub
        rw [partsT, nodesDs, List.length_cons, Nat.add_mul]
        have := one q (sub q List.mem_cons_self)
        have := ih fun p hp => sub p (List.mem_cons_of_mem _ hp)
        omega
    have h1 := all ps fun _ h => h
    have h2 : ps.length * (1 + nb m) ≤ 3 * (1 + nb m) := Nat.mul_le_mul_right _ l3
    rw [nb]
    simp only [nodesD]
    omega
theorem nodes_row {rs : List JR} (h : LawR rs) {r : JR} (hr : r ∈ rs) : nodesD r.tup ≤ 53 := by
  have := nodes_wf 3 thingsL r.ps (h.wf r hr)
  have n3 : nb 3 = 52 := by decide
  unfold JR.tup
  simp only [nodesD, nodesDs] at this ⊢
  omega
end K59
/-! ## K60d -/
set_option Elab.async false
set_option linter.all false
set_option maxRecDepth 100000
set_option maxHeartbeats 4000000
/-! k59: _law_made. -/
namespace K59
open PySem PySem.Spec PyProof.Rows L2 DL
abbrev sMade : Stmt := tp 46
abbrev E0 : XK := C8.E0
theorem passX0 {X : Cx} : Passes (L2.CX X.prog X.w) X E0 := passes_call LamX.takes0 fun _ _ _ _ h => h
theorem tb_keys (rs : List JR) : (tbOf rs).map (·.1) = (rs.map (·.z)).map Sum.inr := by
  unfold tbOf
  rw [List.map_map, List.map_map]
  rfl
/-- the jobs, handed, in some order -/
def HdR (rs : List JR) (kvs : List (Key × Dt)) : Prop := Paired (fun (e : Key × Dt) (r : JR) => e.1 = .inr r.z ∧ Hd r.tup e.2) kvs rs
theorem goodJ_of {rs js : List JR} (h : LawR rs) (p : js.Perm rs) {kvs : List (Key × Dt)} (hd : HdR js kvs) : GoodJ 8 kvs js := by
  have hl := Paired.length hd
  have pl := p.length_eq
  have l1 := h.l1
  have l4 := h.l4
  refine ⟨?_, (p.map _).nodup_iff.mpr h.nz, (p.map _).nodup_iff.mpr h.np, fun z => ?_, by omega⟩
  · have sub : ∀ r ∈ js, r ∈ rs := fun r hr => p.subset hr
    clear hl pl p
    unfold HdR at hd
    induction hd with
    | nil => exact .nil
    | @cons e r es rs' h1 _ ih =>
      obtain ⟨k, d⟩ := e
      obtain ⟨rfl, h2⟩ := h1
      exact .cons (good_of h (sub r List.mem_cons_self) h2) (ih fun r hr => sub r (List.mem_cons_of_mem _ hr))
  · rw [z] at hl
    have : js.length = 0 := hl.symm
    omega
variable [Wd]
theorem ok_strs {rs : List JR} (h : LawR rs) : okD 64 (.lst ((rs.map (·.z)).map .str)) = true := by
  rw [okD_lst, List.all_eq_true]
  intro d hd
  obtain ⟨z, hz, rfl⟩ := List.mem_map.mp hd
  obtain ⟨r, hr, rfl⟩ := List.mem_map.mp hz
  rw [okD]
  exact word_ok (words_all _ (h.zw r hr))
def cMade (C : Addr) : Ct := fun as n Q _ => ∃ rs, as = [.pool, .ro (.dic (tbOf rs))] ∧ LawR rs ∧ n + 300 ≤ 10000 ∧ ∀ rs' ce n', rs'.Perm rs → sortedS (rs'.map (·.z)) = true → CeilOf (evs rs') ce → n' ≤ n + 300 → Q (.ro (jobsT C (tbOf rs') (csOf rs') ce)) n'
section
variable {P : Program} {K : PySem.W.Frag} {mg : Str → Option Value} {base : Heap} {f g : Addr} {fd gd : FuncData} {C CJ : Addr}
theorem scMade : FnScope ["pool", "jobs", "job"] ["pool", "jobs"] (defScope sMade) := ⟨rfl, rfl, rfl, by decide +kernel, rfl, by decide +kernel, by decide +kernel⟩
theorem ok_made (F : Fun K "_law_made" "_law_made" sMade f fd) (cX : DL.Cl P Wd.w K mg base CX0 2 "_law_mixed" (spC cMixed)) (cH : DL.Cl P Wd.w K mg base CX0 11 "_law_handed" (spC (cHanded 9))) (MJ : MakC P Wd.w K mg base (L2.CX P Wd.w) 15 "Jobs" C g gd ["self", "jobs"] (spJI 8 C CJ)) (g_dict : mg "dict" = none) (g_sorted : mg "sorted" = none) :
    FnOk P Wd.w K mg base CX0 17 f fd ["pool", "jobs"] (spC (cMade C)) := by
  have l63 := sizeLine_eq
  refine okC F scMade (fun as n Qd Xd h => ?_) (fun cdv A outer s H E Xd hr => ?_)
  · obtain ⟨rs, rfl, _⟩ := h
    rfl
  · refine ⟨_, (dss_one (ds_ret (DR.e (dr_mkJ0 (fun _ _ h => pe_make MJ.mke MJ.fn (hr.mono (by omega)) (by rfl) MJ.gC MJ.bi .nil passX0 h) (DE.z (de_dictP (K := K) (fun _ _ h => pe_callTy (call_dictP rfl) (by rfl) g_dict (by decide +kernel) (pa_cons h pa_nil)) (DR.b (DE.r (de_lc (own := [("job", 2)]) (fun _ => rfl) (fun _ => scMade.nd) (di_list (K := K) (DE.r (de_call (fun _ _ h => DL.pe_cl cX hr (by omega) pass0 h) (DA.pool (de_pool fun _ => pv 0) (DA.cons (DE.r (de_sortD (fun _ _ h => pe_callB (call_sortedD rfl) (by rfl) g_sorted (by decide +kernel) (pa_cons h pa_nil)) (db_var fun _ => pv 1))) DA.nil)))) fun _ _ h => pi_list h) (fun _ => blkOk_by (own := [("job", 2)]) (N := ["pool", "jobs", "job"]) (sc := defScope sMade) (by decide +kernel)) (dg_name (i := 2) (fun _ => pg_name (i := 2) scMade.nd rfl (Or.inl rfl)) (by decide)) dts_nil (dr_tup (DA.cons (dr_var fun _ => pv 2) (DA.cons (DE.r (de_call (fun _ _ h => DL.pe_cl cH hr (by omega) pass0 h) (DA.pool (de_pool fun _ => pv 0) (DA.cons (dr_dget (fun _ _ _ h1 h2 => pe_dget (hu_of hr) h1 h2 fun _ _ => rfl) (dr_var fun _ => pv 1) (dr_var fun _ => pv 2)) DA.nil)))) DA.nil)))))))))))), fun as n Qd h => ?_⟩
    obtain ⟨rs, rfl, lr, hn, q⟩ := h
    have l4 := lr.l4
    refine ⟨rfl, rfl, .dic (tbOf rs), .ro _, rfl, rfl, tbOf rs, rs.map (·.z), rfl, tb_keys rs, (by rw [List.length_map]; omega), fun ys pm so => ⟨_, rfl, ys.map .str, rfl, ?_, ?_, fun es pm2 => ⟨_, rfl, es, rfl, ?_⟩⟩⟩
    · have := pm.length_eq
      rw [List.length_map] at this ⊢
      omega
    · exact okD_perm (ok_strs lr) fun d hd => (pm.map Dt.str).subset hd
    obtain ⟨zs, pz, rfl⟩ := perm_map pm2 ys rfl
    obtain ⟨js, pj, rfl⟩ := perm_map (pz.trans pm) rs rfl
    have jl := pj.length_eq
    have nj : (js.map (·.z)).Nodup := (pj.map _).nodup_iff.mpr lr.nz
    have yl : (ys.map Dt.str).length = rs.length := by
      rw [List.length_map, pm.length_eq, List.length_map]
    refine dLc_go (fun ds' acc n' δ' => ∃ (pre rest : List JR) (kvs : List (Key × Dt)), js = pre ++ rest ∧ HdR pre kvs ∧ acc = kvs.map pairT ∧ ds' = (rest.map (·.z)).map .str ∧ n' ≤ n + rs.length + 53 * pre.length ∧ δ' = [.pool, .ro (.dic (tbOf rs)), .no]) ?_ ?_ ⟨[], js, [], rfl, .nil, rfl, rfl, by rw [yl]; simp, rfl⟩
    · rintro acc n' δ' ⟨pre, rest, kvs, e1, hd, rfl, e2, hn', rfl⟩
      have : rest = [] := by
        cases rest with
        | nil => rfl
        | cons _ _ => cases e2
      subst this
      rw [List.append_nil] at e1
      subst e1
      have nk : (kvs.map (·.1)).Nodup := by
        rw [goodJ_keys (goodJ_of lr pj hd).pr]
        exact List.Pairwise.map _ (fun a b (h : a ≠ b) z => h (Sum.inr.inj z)) nj
      exact ⟨_, rfl, kvs, rfl, nk, _, rfl, kvs, js, rfl, goodJ_of lr pj hd, fun rs' ce pr so' c => q rs' ce n' (pr.trans pj) so' c (by omega)⟩
    · rintro y r acc n' δ' R hR ⟨pre, rest, kvs, e1, hd, rfl, e2, hn', rfl⟩
      cases rest with
      | nil => cases e2
      | cons j rest =>
        rw [List.map_cons, List.map_cons] at e2
        injection e2 with e3 e4
        subst e3 e4
        have hj : j ∈ rs := pj.subset (by rw [e1]; simp)
        have nn := nodes_row lr hj
        have pl : pre.length + 1 ≤ rs.length := by
          rw [← jl, e1, List.length_append, List.length_cons]
          omega
        refine dT ⟨_, rfl, rfl, rfl, _, rfl, _, rfl, tbOf rs, .inr j.z, j.tup, rfl, rfl, tb_val lr.nz j hj, _, rfl, nice_row lr hj, by omega, fun e he => ⟨_, rfl, [_, _], rfl, (by show 2 ≤ sizeLine; omega), ?_, ?_⟩⟩
        · rw [List.length_map, Paired.length hd]
          omega
        · refine hR _ _ _ ⟨pre ++ [j], rest, kvs ++ [(.inr j.z, e)], by rw [e1, List.append_assoc]; rfl, paired_app hd (.cons ⟨rfl, he⟩ .nil), by rw [List.map_append]; rfl, rfl, ?_, rfl⟩
          rw [List.length_append]
          show n' + nodesD j.tup ≤ n + rs.length + 53 * (pre.length + 1)
          omega
end
end K59
/-! ## K60e -/
set_option Elab.async false
set_option linter.all false
set_option maxRecDepth 100000
set_option maxHeartbeats 4000000
/-! k59: _law_ceilings. -/
namespace K59
open PySem PySem.Spec PyProof.Rows L2 DL
abbrev sCeils : Stmt := tp 47
/-- marks of these things -/
def Marks (ds : List Dt) (ms : List Str) : Prop := Paired (fun d t => ∃ i : Int, d = .tup [.str t, .int i]) ds ms
def UnitM (u : Dt) (ms : List Str) : Prop := ∃ ds, u = .tup ds ∧ Marks ds ms
theorem marks_app {ds : List Dt} {ms : List Str} {t : Str} {i : Int} (h : Marks ds ms) : Marks (ds ++ [.tup [.str t, .int i]]) (ms ++ [t]) := paired_app h (.cons ⟨i, rfl⟩ .nil)
structure UOk (ar : List Dt) (as : List Str) (i : Nat) (qs : List Part) : Prop where
  all : ∀ u ∈ unitsD qs ar i, ∃ ms, UnitM u ms ∧ ms.Nodup ∧ ∀ t ∈ ms, t ∈ as ∨ t ∈ thsD qs
  ths : ∀ t ∈ thsD qs, ∃ u ∈ unitsD qs ar i, ∃ ms, UnitM u ms ∧ t ∈ ms
  as_ : qs ≠ [] → ∃ u ∈ unitsD qs ar i, ∃ ms, UnitM u ms ∧ ∀ t ∈ as, t ∈ ms
theorem units_ok : ∀ (m : Nat) (ts : List Str) (ps : List Part), Wf m ts ps → ∀ (ar : List Dt) (as : List Str), Marks ar as → as.Nodup → (∀ t ∈ ts, t ∉ as) → ∀ (qs : List Part), (∀ p ∈ qs, p ∈ ps) → ∀ i, UOk ar as i qs
  | 0, _, _, h, _, _, _, _, _, _, _, _ => h.elim
  | m + 1, ts, ps, wf, ar, as, ma, na, dis, [], _, i => by
    refine ⟨fun u hu => ?_, fun t ht => ?_, fun h => absurd rfl h⟩
    · rw [unitsD] at hu
      cases hu
    · rw [thsD] at ht
      cases ht
  | m + 1, ts, ps, wf, ar, as, ma, na, dis, p :: r, sub, i => by
    have ih := units_ok (m + 1) ts ps wf ar as ma na dis r (fun q hq => sub q (List.mem_cons_of_mem _ hq)) (i + 1)
    have hq := wf.2.2 p (sub p List.mem_cons_self)
    -- the first part
    have one : (∀ u ∈ unitsP p ar i, ∃ ms, UnitM u ms ∧ ms.Nodup ∧ ∀ t ∈ ms, t ∈ as ∨ t ∈ thsP p) ∧ (∀ t ∈ thsP p, ∃ u ∈ unitsP p ar i, ∃ ms, UnitM u ms ∧ t ∈ ms) ∧ ∃ u ∈ unitsP p ar i, ∃ ms, UnitM u ms ∧ ∀ t ∈ as, t ∈ ms := by
      cases p with
      | unit k =>
        have k1 : 1 ≤ k ∧ k ≤ 3 := hq
        refine ⟨fun u hu => ?_, fun t ht => ?_, ?_⟩
        · rw [unitsP] at hu
          rw [List.eq_of_mem_replicate hu]
          exact ⟨as, ⟨ar, rfl, ma⟩, na, fun t h => .inl h⟩
        · rw [thsP] at ht
          cases ht
        · refine ⟨.tup ar, ?_, as, ⟨ar, rfl, ma⟩, fun t h => h⟩
          rw [unitsP, List.mem_replicate]
          exact ⟨by omega, rfl⟩
      | inn t b =>
        obtain ⟨ht, left, hl, wfb⟩ := hq
        have nt := dis t ht
        have ub := units_ok m left b wfb (ar ++ [.tup [.str t, .int ((ar.length : Nat) * 100 + (i : Nat) : Int)]]) (as ++ [t]) (marks_app ma) (by
          rw [List.nodup_append]
          exact ⟨na, by simp, fun x hx y hy e => nt (by rw [List.mem_singleton] at hy; rw [← hy, ← e]; exact hx)⟩) (fun y hy z => by
          rcases List.mem_append.mp z with z | z
          · exact dis y (hl y hy).1 z
          · exact (hl y hy).2 (List.mem_singleton.mp z)) b (fun _ h => h) 0
        have bne : b ≠ [] := by
          cases m with
          | zero => exact wfb.elim
          | succ m =>
            intro z
            have := wfb.1
            rw [z] at this
            exact absurd this (by decide)
        refine ⟨fun u hu => ?_, fun t' ht' => ?_, ?_⟩
        · rw [unitsP] at hu
          obtain ⟨ms, h1, h2, h3⟩ := ub.all u hu
          refine ⟨ms, h1, h2, fun x hx => ?_⟩
          rcases h3 x hx with z | z
          · rcases List.mem_append.mp z with z | z
            · exact .inl z
            · rw [List.mem_singleton.mp z, thsP]
              exact .inr List.mem_cons_self
          · rw [thsP]
            exact .inr (List.mem_cons_of_mem _ z)
        · rw [thsP] at ht'
          rw [unitsP]
          rcases List.mem_cons.mp ht' with rfl | z
          · obtain ⟨u, hu, ms, h1, h2⟩ := ub.as_ bne
            exact ⟨u, hu, ms, h1, h2 _ (by simp)⟩
          · exact ub.ths t' z
        · rw [unitsP]
          obtain ⟨u, hu, ms, h1, h2⟩ := ub.as_ bne
          exact ⟨u, hu, ms, h1, fun x hx => h2 x (List.mem_append_left _ hx)⟩
    obtain ⟨o1, o2, o3⟩ := one
    refine ⟨fun u hu => ?_, fun t ht => ?_, fun _ => ?_⟩
    · rw [unitsD] at hu
      rw [thsD]
      rcases List.mem_append.mp hu with hu | hu
      · obtain ⟨ms, h1, h2, h3⟩ := o1 u hu
        exact ⟨ms, h1, h2, fun x hx => (h3 x hx).imp_right (List.mem_append_left _)⟩
      · obtain ⟨ms, h1, h2, h3⟩ := ih.all u hu
        exact ⟨ms, h1, h2, fun x hx => (h3 x hx).imp_right (List.mem_append_right _)⟩
    · rw [thsD] at ht
      rw [unitsD]
      rcases List.mem_append.mp ht with ht | ht
      · obtain ⟨u, hu, q⟩ := o2 t ht
        exact ⟨u, List.mem_append_left _ hu, q⟩
      · obtain ⟨u, hu, q⟩ := ih.ths t ht
        exact ⟨u, List.mem_append_right _ hu, q⟩
    · rw [unitsD]
      obtain ⟨u, hu, q⟩ := o3
      exact ⟨u, List.mem_append_left _ hu, q⟩
termination_by m _ _ _ _ _ _ _ _ qs => (m, qs.length)
theorem marks_fun : ∀ {ds : List Dt} {ms ms' : List Str}, Marks ds ms → Marks ds ms' → ms = ms'
  | _, _, _, .nil, .nil => rfl
  | _, _, _, .cons ⟨i, e⟩ t, .cons ⟨j, e'⟩ t' => by
    rw [e] at e'
    injection e' with e'
    injection e' with e' _
    injection e' with e'
    rw [e', marks_fun t t']
theorem unit_fun {u : Dt} {ms ms' : List Str} (h : UnitM u ms) (h' : UnitM u ms') : ms = ms' := by
  obtain ⟨ds, rfl, m⟩ := h
  obtain ⟨ds', e, m'⟩ := h'
  cases e
  exact marks_fun m m'
/-- many at once -/
theorem fold_put {p : Int} (hp : 1 ≤ p) {g : Str → Int} : ∀ (ms : List Str) (es : List (Str × Int)) (D : List (Key × Dt)), ms.Nodup → CeilOf es D → (∀ t ∈ ms, getC D t = g t) →
    CeilOf (es ++ ms.map fun t => (t, p)) ((ms.map fun t => ((Sum.inr t : Key), Dt.int (if g t > p then g t else p))).foldl (fun acc q => putD acc q.1 q.2) D)
  | [], es, D, _, c, _ => by simpa using c
  | t :: ms, es, D, nd, c, h => by
    rw [List.nodup_cons] at nd
    have e1 : (if g t > p then g t else p) = (if p > getC D t then p else getC D t) := by
      rw [h t List.mem_cons_self]
      split <;> split <;> omega
    have c1 := c.put t hp
    have ih := fold_put hp (g := g) ms (es ++ [(t, p)]) _ nd.2 c1 fun t' ht' => by
      rw [← h t' (List.mem_cons_of_mem _ ht')]
      unfold getC
      rw [valD_put, if_neg (fun z => nd.1 (by rw [Sum.inr.inj z]; exact ht'))]
    rw [List.append_assoc] at ih
    rw [List.map_cons, List.map_cons, List.foldl_cons, e1]
    exact ih
theorem nodup_len {α : Type} [DecidableEq α] : ∀ {xs ys : List α}, xs.Nodup → (∀ x ∈ xs, x ∈ ys) → xs.length ≤ ys.length
  | [], _, _, _ => Nat.zero_le _
  | x :: xs, ys, nd, sub => by
    rw [List.nodup_cons] at nd
    have hx := sub x List.mem_cons_self
    have ih := nodup_len (ys := ys.erase x) nd.2 fun y hy => (List.mem_erase_of_ne (fun z => nd.1 (by rw [← z]; exact hy))).mpr (sub y (List.mem_cons_of_mem _ hy))
    rw [List.length_erase_of_mem hx] at ih
    have := List.length_pos_of_mem hx
    rw [List.length_cons]
    omega
variable [Wd]
def cCeils : Ct := fun as n Q _ => ∃ rs, as = [.ro (.dic (tbOf rs))] ∧ LawR rs ∧ ∀ ce es, CeilOf es ce → (∀ e, e ∈ es ↔ e ∈ evs rs) → Q (.own (.dic ce)) n
section
variable {P : Program} {K : PySem.W.Frag} {mg : Str → Option Value} {base : Heap} {f g : Addr} {fd gd : FuncData}
theorem scCeils : FnScope ["jobs", "found", "priority", "distance", "body", "around", "mark"] ["jobs"] (defScope sCeils) := ⟨rfl, rfl, rfl, by decide +kernel, rfl, by decide +kernel, by decide +kernel⟩
theorem ok_ceils (F : Fun K "_law_ceilings" "_law_ceilings" sCeils f fd) (cU : DL.Cl P Wd.w K mg base CX0 5 "_law_units" (spC (cUnits 3))) (g_dict : mg "dict" = none) (g_max : mg "max" = none) :
    FnOk P Wd.w K mg base CX0 6 f fd ["jobs"] (spC cCeils) := by
  have l63 := sizeLine_eq
  refine okC F scCeils (fun as n Qd Xd h => ?_) (fun cdv A outer s H E Xd hr => ?_)
  · obtain ⟨rs, rfl, _⟩ := h
    rfl
  · refine ⟨_, (dss_cons (ds_set (i := 1) (fun _ _ h => ps_set (i := 1) scCeils.nd rfl (Or.inr rfl) h) de_dic) (dss_cons (ds_for (vs := [2, 3, 4]) (fun _ => PassesOwn.never) (fun _ => rfl) (di_vals (dr_var fun _ => pv 0) fun _ _ h => pi_values h) (dg_tup (K := K) (m := 3) (dgs_cons (dg_name (i := 2) (fun _ => pg_name (i := 2) scCeils.nd rfl (Or.inr rfl)) (by decide)) (dgs_cons (dg_name (i := 3) (fun _ => pg_name (i := 3) scCeils.nd rfl (Or.inl rfl)) (by decide)) (dgs_cons (dg_name (i := 4) (fun _ => pg_name (i := 4) scCeils.nd rfl (Or.inl rfl)) (by decide)) dgs_nil))) (fun _ _ h => pg_tup (by rfl) h)) (dss_one (ds_for (vs := [5]) (fun _ => PassesOwn.never) (fun _ => rfl) (di_list (K := K) (DE.r (de_call (fun _ _ h => DL.pe_cl cU hr (by omega) pass0 h) (DA.cons (dr_var fun _ => pv 4) (DA.cons (dr_tup DA.nil) DA.nil)))) fun _ _ h => pi_list h) (dg_name (i := 5) (fun _ => pg_name (i := 5) scCeils.nd rfl (Or.inl rfl)) (by decide)) (dss_one (ds_update (K := K) (i := 1) (fun _ _ _ h1 h2 => ps_expr (pe_bm PySem.F.plainAttrs_dict PySem.F.slot_dict_update PySem.F.type_dict_update mt_update h1 (pa_cons h2 pa_nil))) (fun _ => pv 1) (de_dictP (K := K) (fun _ _ h => pe_callTy (call_dictP rfl) (by rfl) g_dict (by decide +kernel) (pa_cons h pa_nil)) (DR.b (DE.r (de_lc (own := [("mark", 6)]) (fun _ => rfl) (fun _ => scCeils.nd) (di_seq (K := K) (dr_var fun _ => pv 5) fun _ _ h => pi_seq h) (fun _ => blkOk_by (own := [("mark", 6)]) (N := ["jobs", "found", "priority", "distance", "body", "around", "mark"]) (sc := defScope sCeils) (by decide +kernel)) (dg_name (i := 6) (fun _ => pg_name (i := 6) scCeils.nd rfl (Or.inl rfl)) (by decide)) dts_nil (dr_tup (DA.cons (dr_ix (K := K) (fun _ _ _ h1 h2 => pe_ix ix_seq h1 h2 fun _ _ => rfl) (dr_var fun _ => pv 6) (dr_c (fun _ => pe_int) fun _ _ => .int 0)) (DA.cons (dr_max2 (fun _ _ _ h1 h2 => pe_callB (call_max2 rfl) (by rfl) g_max (by decide +kernel) (pa_cons h1 (pa_cons h2 pa_nil))) (dr_var fun _ => pv 2) (dr_get2 (fun _ _ _ _ h1 h2 h3 => pe_dget2 (hu_of hr) h1 h2 h3 ⟨rfl, rfl, rfl, rfl⟩) (db_var fun _ => pv 1) (dq_ix (K := K) (fun _ _ _ h1 h2 => pe_ix ix_seq h1 h2 fun _ _ => rfl) (dq_var fun _ => pv 6) (dq_c (fun _ => pe_int) (sc_int (i := 0)))) (dq_c (fun _ => pe_int) (sc_int (i := 0))))) DA.nil)))))))))))) (dss_one (ds_retOwn (i := 1) fun _ => pv 1)))), fun as n Qd h => ?_⟩
    obtain ⟨rs, rfl, lr, q⟩ := h
    refine ⟨_, rfl, _, rfl, ?_⟩
    refine dFor_go (fun ds' n' δ' => ∃ (pre rest : List JR) (D : List (Key × Dt)) (es : List (Str × Int)) (x2 x3 x4 x5 x6 : Sl), rs = pre ++ rest ∧ ds' = rest.map JR.tup ∧ CeilOf es D ∧ (∀ e, e ∈ es ↔ e ∈ evs pre) ∧ es.length ≤ 300 * pre.length ∧ n' = n ∧ δ' = [.ro (.dic (tbOf rs)), .own (.dic D), x2, x3, x4, x5, x6]) ?_ ?_
      ⟨[], rs, [], [], .no, .no, .no, .no, .no, rfl, by unfold tbOf; rw [List.map_map]; rfl, CeilOf.nil, fun e => Iff.rfl, Nat.le_refl _, rfl, rfl⟩
    · rintro n' δ' ⟨pre, rest, D, es, x2, x3, x4, x5, x6, e1, e2, ce, me, _, rfl, rfl⟩
      have : rest = [] := by
        cases rest with
        | nil => rfl
        | cons _ _ => cases e2
      subst this
      rw [List.append_nil] at e1
      subst e1
      exact ⟨_, rfl, q D es ce me⟩
    · rintro y r n' δ' R hR ⟨pre, rest, D, es, x2, x3, x4, x5, x6, e1, e2, ce, me, hl, rfl, rfl⟩
      cases rest with
      | nil => cases e2
      | cons j rest =>
        rw [List.map_cons] at e2
        injection e2 with e3 e4
        subst e3 e4
        have hj : j ∈ rs := by rw [e1]; simp
        have wf := lr.wf j hj
        have lw := wf_lawf 3 thingsL j.ps things_all wf
        have pp := (prios_all j.p (lr.pw j hj)).1
        have uo := units_ok 3 thingsL j.ps wf [] [] .nil List.nodup_nil (fun t _ z => by cases z) j.ps (fun _ h => h) 0
        have ul := units_len 3 j.ps lw [] 0
        have pl : pre.length ≤ 4 := by
          have := congrArg List.length e1
          have := lr.l4
          rw [List.length_append] at *
          omega
        refine ⟨_, rfl, rfl, _, _, rfl, _, _, rfl, _, _, rfl, rfl, ?_⟩
        refine ⟨_, rfl, [], rfl, (by decide), j.ps, [], rfl, lw, by decide, _, rfl, _, rfl, ?_⟩
        refine dFor_go (fun ds' n2 δ' => ∃ (pu ru : List Dt) (D' : List (Key × Dt)) (es' : List (Str × Int)) (x5 x6 : Sl), unitsD j.ps [] 0 = pu ++ ru ∧ ds' = ru ∧ CeilOf (es ++ es') D' ∧ (∀ e, e ∈ es' ↔ ∃ u ∈ pu, ∃ ms, UnitM u ms ∧ ∃ t ∈ ms, e = (t, j.p)) ∧ es'.length ≤ 3 * pu.length ∧ n2 = n' ∧ δ' = [.ro (.dic (tbOf rs)), .own (.dic D'), .ro (.int j.p), .ro (.int j.q), .ro (.tup (partsT j.ps)), x5, x6]) ?_ ?_
          ⟨[], unitsD j.ps [] 0, D, [], _, _, rfl, rfl, by simpa using ce, fun e => ⟨fun h => (by cases h), fun ⟨u, h, _⟩ => (by cases h)⟩, Nat.le_refl _, rfl, rfl⟩
        · rintro n2 δ' ⟨pu, ru, D', es', x5', x6', f1, rfl, ce', me', hl', rfl, rfl⟩
          rw [List.append_nil] at f1
          refine hR _ _ ⟨pre ++ [j], rest, D', es ++ es', _, _, _, _, _, by rw [e1, List.append_assoc]; rfl, rfl, ce', fun e => ?_, ?_, rfl, rfl⟩
          · rw [evs_snoc, List.mem_append, List.mem_append, me e, me' e]
            refine or_congr Iff.rfl ⟨fun ⟨u, hu, ms, h1, t, ht, ee⟩ => ?_, fun h => ?_⟩
            · rw [← f1] at hu
              obtain ⟨ms', h1', _, h3⟩ := uo.all u hu
              rw [← unit_fun h1 h1'] at h3
              rcases h3 t ht with z | z
              · cases z
              · rw [ee]
                exact List.mem_map.mpr ⟨t, z, rfl⟩
            · obtain ⟨t, ht, rfl⟩ := List.mem_map.mp h
              obtain ⟨u, hu, ms, h1, h2⟩ := uo.ths t ht
              exact ⟨u, by rw [← f1]; exact hu, ms, h1, t, h2, rfl⟩
          · rw [List.length_append, List.length_append]
            have n81 : 3 ^ (3 + 1) = 81 := by decide
            have : pu.length ≤ 81 := by rw [← f1]; omega
            show es.length + es'.length ≤ 300 * (pre.length + 1)
            omega
        · rintro u ru' n2 δ' R2 hR2 ⟨pu, ru, D', es', x5', x6', f1, f2, ce', me', hl', rfl, rfl⟩
          subst f2
          obtain ⟨ms, ⟨ds, rfl, mk⟩, nd, sub⟩ := uo.all u (by rw [f1]; simp)
          have ml : ms.length ≤ 3 := by
            have h3 : ∀ t ∈ thsD j.ps, t ∈ thingsL := by
              have gen : ∀ (m : Nat) (ts : List Str) (ps : List Part), Wf m ts ps → ∀ (qs : List Part), (∀ p ∈ qs, p ∈ ps) → ∀ t ∈ thsD qs, t ∈ ts := by
                intro m
                induction m with
                | zero => exact fun _ _ h => h.elim
                | succ m ih =>
                  intro ts ps wf qs
                  induction qs with
                  | nil =>
                    intro _ t h
                    rw [thsD] at h
                    cases h
                  | cons p r ihq =>
                    intro sub t h
                    rw [thsD] at h
                    rcases List.mem_append.mp h with h | h
                    · have hq := wf.2.2 p (sub p List.mem_cons_self)
                      cases p with
                      | unit k =>
                        rw [thsP] at h
                        cases h
                      | inn t' b =>
                        obtain ⟨ht, left, hl, wfb⟩ := hq
                        rw [thsP] at h
                        rcases List.mem_cons.mp h with rfl | h
                        · exact ht
                        · exact (hl t (ih left b wfb b (fun _ h => h) t h)).1
                    · exact ihq (fun q hq => sub q (List.mem_cons_of_mem _ hq)) t h
              exact gen 3 thingsL j.ps wf j.ps fun _ h => h
            have h4 : ms ⊆ thingsL := fun t ht => by
              rcases sub t ht with z | z
              · cases z
              · exact h3 t z
            exact nodup_len nd h4
          have dl : ds.length = ms.length := Paired.length mk
          have dk := ce'.len
          rw [List.length_append] at dk
          have pul : pu.length ≤ 81 := by
            have := congrArg List.length f1
            have n81 : 3 ^ (3 + 1) = 81 := by decide
            rw [List.length_append] at this
            omega
          refine ⟨⟨_, rfl⟩, _, rfl, ds, rfl, ?_⟩
          refine dLc_go (fun ds' acc n3 δ' => ∃ (d1 d2 : List Dt) (m1 m2 : List Str), ds = d1 ++ d2 ∧ ms = m1 ++ m2 ∧ Marks d1 m1 ∧ Marks d2 m2 ∧ ds' = d2 ∧ acc = (m1.map fun t => ((Sum.inr t : Key), Dt.int (if getC D' t > j.p then getC D' t else j.p))).map pairT ∧ n3 = n2 ∧ δ' = [.ro (.dic (tbOf rs)), .own (.dic D'), .ro (.int j.p), .ro (.int j.q), .ro (.tup (partsT j.ps)), .ro (.tup ds), .no]) ?_ ?_ ⟨[], ds, [], ms, rfl, rfl, .nil, mk, rfl, rfl, rfl, rfl⟩
          · rintro acc n3 δ' ⟨d1, d2, m1, m2, g1, g2, k1, k2, rfl, rfl, rfl, rfl⟩
            cases k2
            rw [List.append_nil] at g1 g2
            subst g1 g2
            refine ⟨_, rfl, _, rfl, ?_, D', _, rfl, rfl, ?_, hR2 _ _ ⟨pu ++ [.tup ds], ru', _, es' ++ ms.map fun t => (t, j.p), _, _, by rw [f1, List.append_assoc]; rfl, rfl, ?_, fun e => ?_, ?_, rfl, rfl⟩⟩
            · rw [List.map_map]
              exact List.Pairwise.map _ (fun a b (h : a ≠ b) z => h (Sum.inr.inj z)) nd
            · rw [List.length_map]
              omega
            · rw [← List.append_assoc]
              exact fold_put pp ms _ D' nd ce' fun t _ => rfl
            · rw [List.mem_append, me' e]
              refine ⟨fun h => ?_, fun ⟨u, hu, ms', h1, h2⟩ => ?_⟩
              · rcases h with ⟨u, hu, q⟩ | h
                · exact ⟨u, List.mem_append_left _ hu, q⟩
                · obtain ⟨t, ht, rfl⟩ := List.mem_map.mp h
                  exact ⟨.tup ds, by simp, ms, ⟨ds, rfl, mk⟩, t, ht, rfl⟩
              · rcases List.mem_append.mp hu with hu | hu
                · exact .inl ⟨u, hu, ms', h1, h2⟩
                · rw [List.mem_singleton] at hu
                  subst hu
                  rw [unit_fun h1 ⟨ds, rfl, mk⟩] at h2
                  obtain ⟨t, ht, rfl⟩ := h2
                  exact .inr (List.mem_map.mpr ⟨t, ht, rfl⟩)
            · rw [List.length_append, List.length_append, List.length_map]
              show es'.length + ms.length ≤ 3 * (pu.length + 1)
              omega
          · rintro x xs acc n3 δ' R3 hR3 ⟨d1, d2, m1, m2, g1, g2, k1, k2, g3, rfl, rfl, rfl⟩
            subst g3
            cases k2 with
            | cons h k2 =>
              rename_i t m2
              obtain ⟨i, rfl⟩ := h
              have gv : (valD D' (.inr t)).getD (.int 0) = .int (getC D' t) := by
                unfold getC
                rcases ce'.val t with h | ⟨m, h⟩ <;> rw [h] <;> rfl
              refine dT ⟨_, rfl, _, 0, _, rfl, rfl, rfl, _, rfl, _, _, rfl, rfl, D', rfl, _, rfl, _, 0, _, rfl, rfl, rfl, .inr t, rfl, j.p, getC D' t, rfl, gv, [_, _], rfl, (by show 2 ≤ sizeLine; omega), ?_, ?_⟩
              · rw [List.length_map, List.length_map]
                rw [g2, List.length_append] at ml
                omega
              · refine hR3 _ _ _ ⟨d1 ++ [.tup [.str t, .int i]], xs, m1 ++ [t], m2, by rw [g1, List.append_assoc]; rfl, by rw [g2, List.append_assoc]; rfl, marks_app k1, k2, rfl, ?_, rfl, rfl⟩
                rw [List.map_append, List.map_append]
                rfl
end
end K59
/-! ## K60f -/
set_option Elab.async false
set_option linter.all false
set_option maxRecDepth 100000
set_option maxHeartbeats 4000000
/-! k59: _law_bad_jobs. -/
namespace K59
open PySem PySem.Spec PyProof.Rows L2 DL
abbrev sBadJ : Stmt := tp 49
/-- one step of a reading by trees -/
local macro_rules | `(tactic| walk_at "dl") => `(tactic| first
  | refine ⟨_, rfl, ?_⟩
  | refine ⟨[], rfl, Nat.zero_le _, ?_⟩
  | refine ⟨[_], rfl, (by show 1 ≤ sizeLine; omega), ?_⟩
  | refine ⟨[_, _], rfl, (by show 2 ≤ sizeLine; omega), ?_⟩
  | refine ⟨[_, _, _], rfl, (by show 3 ≤ sizeLine; omega), ?_⟩
  | refine ⟨[_, _, _, _], rfl, (by show 4 ≤ sizeLine; omega), ?_⟩
  | refine ⟨[_, _, _, _, _], rfl, (by show 5 ≤ sizeLine; omega), ?_⟩
  | refine ⟨[_, _, _, _, _, _], rfl, (by show 6 ≤ sizeLine; omega), ?_⟩
  | refine ⟨[_, _, _, _, _, _, _, _], rfl, (by show 8 ≤ sizeLine; omega), ?_⟩
  | refine ⟨_, _, rfl, rfl, (by simp only [List.length_cons, List.length_nil, List.length_append]; omega), ?_⟩)
theorem nice_s (m : Nat) (z : Str) (h : z.length ≤ 1000) : Nice (m + 1) (.str z) := ⟨⟨_, rfl⟩, (fun y q => by cases q; exact h), fun ds q => by cases q⟩
theorem nice_bl (m : Nat) (b : Bool) : Nice (m + 1) (.bl b) := ⟨⟨_, rfl⟩, (fun y q => by cases q), fun ds q => by cases q⟩
theorem nice_non (m : Nat) : Nice (m + 1) .non := ⟨⟨_, rfl⟩, (fun y q => by cases q), fun ds q => by cases q⟩
theorem nice_dic (m : Nat) : Nice (m + 1) (.dic []) := ⟨⟨_, rfl⟩, (fun y q => by cases q), fun ds q => by cases q⟩
theorem nl_nil (m : Nat) : ∀ x ∈ ([] : List Dt), Nice m x := fun x h => by cases h
theorem nl_cons {m : Nat} {d : Dt} {ds : List Dt} (h : Nice m d) (t : ∀ x ∈ ds, Nice m x) : ∀ x ∈ d :: ds, Nice m x := fun x hx => by
  rcases List.mem_cons.mp hx with rfl | hx
  · exact h
  · exact t x hx
def odds1 (p q : Int) (b : Dt) : List Dt := [.non, .int 5, .str "ab", .dic [], .tup [.int p], .tup [.int 900, .int q, b, .int 1], .tup [.int 0, .int q, b], .tup [.bl true, .int q, b]]
def odds2 (b : Dt) : List Dt := [.tup [.int 900, .int 0, b], .tup [.int 900, .non, b], .tup [.int 900, .int 5, .lst []], .tup [.int 900, .int 5, .int 3], .tup [.int 900, .int 5, .lst [.int 0]], .tup [.int 900, .int 5, .lst [.bl true]]]
def odds3 : List Dt := [.tup [.int 900, .int 5, .lst [.tup [.str "t"]]], .tup [.int 900, .int 5, .lst [.tup [.str "T", .lst [.int 1]]]], .tup [.int 900, .int 5, .lst [.tup [.str "t", .lst []]]], .tup [.int 900, .int 5, .lst [.tup [.str "t", .int 2]]]]
def odds4 : List Dt := [.tup [.int 900, .int 5, .lst [.int 1, .tup [.str "t", .lst [.int 1, .tup [.str "t", .lst [.int 1]]]]]], .tup [.int 900, .int 5, .lst [.tup [.str "t", .lst [.tup [.str "u", .lst [.int 1, .tup [.str "t", .lst [.int 2]]]]]]]]]
def OddJ (d : Dt) : Prop := Nice 9 d ∧ jobD 8 d = false
theorem oj_nil : ∀ x ∈ ([] : List Dt), OddJ x := fun x h => by cases h
theorem oj_cons {d : Dt} {ds : List Dt} (h1 : Nice 9 d) (h2 : jobD 8 d = false) (t : ∀ x ∈ ds, OddJ x) : ∀ x ∈ d :: ds, OddJ x := fun x hx => by
  rcases List.mem_cons.mp hx with rfl | hx
  · exact ⟨h1, h2⟩
  · exact t x hx
theorem odds_all {p q : Int} {b : Dt} (hb : Nice 8 b) : ∀ d ∈ ((odds1 p q b ++ odds2 b) ++ odds3) ++ odds4, OddJ d := by
  unfold odds1 odds2 odds3 odds4
  simp only [List.cons_append, List.nil_append]
  repeat' (first
    | exact oj_nil
    | refine oj_cons ?_ ?_ ?_
    | exact hb
    | exact nl_nil _
    | refine nl_cons ?_ ?_
    | exact nice_int _ _
    | exact nice_bl _ _
    | exact nice_non _
    | exact nice_dic _
    | exact nice_s _ _ (by decide +kernel)
    | refine nice_tup _ _ (by simp) ?_
    | refine nice_lst _ _ (by simp) ?_)
  all_goals first
    | rfl
    | decide +kernel
    | simp [jobD, elemD]
theorem nice_mono : ∀ (m : Nat) {d : Dt}, Nice m d → Nice (m + 1) d
  | 0, _, h => h.elim
  | m + 1, d, ⟨h1, h2, h3⟩ => ⟨h1, h2, fun ds e => ⟨(h3 ds e).1, fun x hx => nice_mono m ((h3 ds e).2 x hx)⟩⟩
mutual
theorem hd_refl : ∀ d : Dt, Hd d d
  | .lst ds => .seq rfl rfl (hds_refl ds)
  | .tup ds => .seq rfl rfl (hds_refl ds)
  | .non => .same rfl
  | .bl _ => .same rfl
  | .int _ => .same rfl
  | .str _ => .same rfl
  | .dic _ => .same rfl
  | .mix _ => .same rfl
  | .ins _ _ => .same rfl
  | .any => .same rfl
  | .raw _ => .same rfl
  | .set _ _ => .same rfl
theorem hds_refl : ∀ ds : List Dt, Hds ds ds
  | [] => .nil
  | d :: r => .cons (hd_refl d) (hds_refl r)
end
/-- jobs of which one is wrong, and its key -/
structure BadJ (es : List (Dt × Dt)) (key : Dt) : Prop where
  ex : ∃ (good : List (Dt × Dt)) (p : Dt × Dt) (rest : List (Dt × Dt)) (prs : List Int), es = good ++ p :: rest ∧ Paired (RightJ 8) good prs ∧ prs.Nodup ∧ WrongJ 8 prs p ∧ key = p.1
  len : es.length ≤ 60
theorem rows_right {rs : List JR} (h : LawR rs) : ∀ {js : List JR}, (∀ r ∈ js, r ∈ rs) → Paired (RightJ 8) (js.map fun r => (Dt.str r.z, r.tup)) (js.map (·.p))
  | [], _ => .nil
  | r :: js, sub => .cons (good_of h (sub r List.mem_cons_self) (hd_refl r.tup)).right (rows_right h fun x hx => sub x (List.mem_cons_of_mem _ hx))
theorem worse_not : ("worse" : Str) ∉ wordsL ∧ ("wrong" : Str) ∉ wordsL ∧ ("Wrong" : Str) ∉ wordsL := by decide +kernel
variable [Wd]
def cBadJ : Ct := fun as n Q _ => ∃ rs, as = [.pool, .ro (.dic (tbOf rs))] ∧ LawR rs ∧ n + 20 ≤ 10000 ∧ ∀ es key n', BadJ es key → (key = .str "wrong" ∨ key = .int 5 ∨ key = .str "Wrong" ∨ key = .non) → n' ≤ n + 20 → Q (.ro (.tup [.mix es, key])) n'
theorem room20 {j : Nat} {A : Around} (hr : Room j A) : A.units + 20 < cLine := by
  have := hr.units
  omega
section
variable {P : Program} {K : PySem.W.Frag} {mg : Str → Option Value} {base : Heap} {f g : Addr} {fd gd : FuncData}
theorem scBadJ : FnScope ["pool", "jobs", "word", "priority", "distance", "body", "odds", "good", "odd", "key", "rows", "job"] ["pool", "jobs"] (defScope sBadJ) := ⟨rfl, rfl, rfl, by decide +kernel, rfl, by decide +kernel, by decide +kernel⟩
theorem ok_badJ (F : Fun K "_law_bad_jobs" "_law_bad_jobs" sBadJ f fd) (cX : DL.Cl P Wd.w K mg base CX0 2 "_law_mixed" (spC cMixed)) (cO : DL.Cl P Wd.w K mg base CX0 2 "_law_one" (spC cOne)) (g_dict : mg "dict" = none) (g_sorted : mg "sorted" = none) :
    FnOk P Wd.w K mg base CX0 4 f fd ["pool", "jobs"] (spC cBadJ) := by
  have l63 := sizeLine_eq
  refine okC F scBadJ (fun as n Qd Xd h => ?_) (fun cdv A outer s H E Xd hr => ?_)
  · obtain ⟨rs, rfl, _⟩ := h
    rfl
  · refine ⟨_, (dss_cons (ds_set (i := 2) (fun _ _ h => ps_set (i := 2) scBadJ.nd rfl (Or.inl rfl) h) (de_call (fun _ _ h => DL.pe_cl cO hr (by omega) pass0 h) (DA.pool (de_pool fun _ => pv 0) (DA.cons (DE.r (de_sortD (fun _ _ h => pe_callB (call_sortedD rfl) (by rfl) g_sorted (by decide +kernel) (pa_cons h pa_nil)) (db_var fun _ => pv 1))) DA.nil)))) (dss_cons (ds_unp (vs := [3, 4, 5]) (fun _ _ _ h1 h2 => ps_asg h1 h2) (dr_dget (fun _ _ _ h1 h2 => pe_dget (hu_of hr) h1 h2 fun _ _ => rfl) (dr_var fun _ => pv 1) (dr_var fun _ => pv 2)) (dg_tup (K := K) (m := 3) (dgs_cons (dg_name (i := 3) (fun _ => pg_name (i := 3) scBadJ.nd rfl (Or.inl rfl)) (by decide)) (dgs_cons (dg_name (i := 4) (fun _ => pg_name (i := 4) scBadJ.nd rfl (Or.inl rfl)) (by decide)) (dgs_cons (dg_name (i := 5) (fun _ => pg_name (i := 5) scBadJ.nd rfl (Or.inl rfl)) (by decide)) dgs_nil))) (fun _ _ h => pg_tup (by rfl) h))) (dss_cons (ds_set (i := 6) (fun _ _ h => ps_set (i := 6) scBadJ.nd rfl (Or.inl rfl) h) (de_lst (DA.cons (dr_c (fun _ => pe_non) fun _ _ => .non) (DA.cons (dr_c (fun _ => pe_int) fun _ _ => .int 5) (DA.cons (dr_c (fun _ => pe_str) fun _ _ => .str "ab") (DA.cons (DE.z de_dic) (DA.cons (dr_tup (DA.cons (dr_var fun _ => pv 3) DA.nil)) (DA.cons (dr_tup (DA.cons (dr_c (fun _ => pe_int) fun _ _ => .int 900) (DA.cons (dr_var fun _ => pv 4) (DA.cons (dr_var fun _ => pv 5) (DA.cons (dr_c (fun _ => pe_int) fun _ _ => .int 1) DA.nil))))) (DA.cons (dr_tup (DA.cons (dr_c (fun _ => pe_int) fun _ _ => .int 0) (DA.cons (dr_var fun _ => pv 4) (DA.cons (dr_var fun _ => pv 5) DA.nil)))) (DA.cons (dr_tup (DA.cons (dr_c (fun _ => pe_bl) fun _ _ => .bl true) (DA.cons (dr_var fun _ => pv 4) (DA.cons (dr_var fun _ => pv 5) DA.nil)))) DA.nil)))))))))) (dss_cons (ds_set (i := 6) (fun _ _ h => ps_set (i := 6) scBadJ.nd rfl (Or.inl rfl) h) (de_op (fun _ _ _ h1 h2 => pe_op op_cat h1 h2) dop_cat (dr_rel fun _ => pv 6) (DE.r (de_lst (DA.cons (dr_tup (DA.cons (dr_c (fun _ => pe_int) fun _ _ => .int 900) (DA.cons (dr_c (fun _ => pe_int) fun _ _ => .int 0) (DA.cons (dr_var fun _ => pv 5) DA.nil)))) (DA.cons (dr_tup (DA.cons (dr_c (fun _ => pe_int) fun _ _ => .int 900) (DA.cons (dr_c (fun _ => pe_non) fun _ _ => .non) (DA.cons (dr_var fun _ => pv 5) DA.nil)))) (DA.cons (dr_tup (DA.cons (dr_c (fun _ => pe_int) fun _ _ => .int 900) (DA.cons (dr_c (fun _ => pe_int) fun _ _ => .int 5) (DA.cons (DE.r (de_lst DA.nil)) DA.nil)))) (DA.cons (dr_tup (DA.cons (dr_c (fun _ => pe_int) fun _ _ => .int 900) (DA.cons (dr_c (fun _ => pe_int) fun _ _ => .int 5) (DA.cons (dr_c (fun _ => pe_int) fun _ _ => .int 3) DA.nil)))) (DA.cons (dr_tup (DA.cons (dr_c (fun _ => pe_int) fun _ _ => .int 900) (DA.cons (dr_c (fun _ => pe_int) fun _ _ => .int 5) (DA.cons (DE.r (de_lst (DA.cons (dr_c (fun _ => pe_int) fun _ _ => .int 0) DA.nil))) DA.nil)))) (DA.cons (dr_tup (DA.cons (dr_c (fun _ => pe_int) fun _ _ => .int 900) (DA.cons (dr_c (fun _ => pe_int) fun _ _ => .int 5) (DA.cons (DE.r (de_lst (DA.cons (dr_c (fun _ => pe_bl) fun _ _ => .bl true) DA.nil))) DA.nil)))) DA.nil)))))))))) (dss_cons (ds_set (i := 6) (fun _ _ h => ps_set (i := 6) scBadJ.nd rfl (Or.inl rfl) h) (de_op (fun _ _ _ h1 h2 => pe_op op_cat h1 h2) dop_cat (dr_rel fun _ => pv 6) (DE.r (de_lst (DA.cons (dr_tup (DA.cons (dr_c (fun _ => pe_int) fun _ _ => .int 900) (DA.cons (dr_c (fun _ => pe_int) fun _ _ => .int 5) (DA.cons (DE.r (de_lst (DA.cons (dr_tup (DA.cons (dr_c (fun _ => pe_str) fun _ _ => .str "t") DA.nil)) DA.nil))) DA.nil)))) (DA.cons (dr_tup (DA.cons (dr_c (fun _ => pe_int) fun _ _ => .int 900) (DA.cons (dr_c (fun _ => pe_int) fun _ _ => .int 5) (DA.cons (DE.r (de_lst (DA.cons (dr_tup (DA.cons (dr_c (fun _ => pe_str) fun _ _ => .str "T") (DA.cons (DE.r (de_lst (DA.cons (dr_c (fun _ => pe_int) fun _ _ => .int 1) DA.nil))) DA.nil))) DA.nil))) DA.nil)))) (DA.cons (dr_tup (DA.cons (dr_c (fun _ => pe_int) fun _ _ => .int 900) (DA.cons (dr_c (fun _ => pe_int) fun _ _ => .int 5) (DA.cons (DE.r (de_lst (DA.cons (dr_tup (DA.cons (dr_c (fun _ => pe_str) fun _ _ => .str "t") (DA.cons (DE.r (de_lst DA.nil)) DA.nil))) DA.nil))) DA.nil)))) (DA.cons (dr_tup (DA.cons (dr_c (fun _ => pe_int) fun _ _ => .int 900) (DA.cons (dr_c (fun _ => pe_int) fun _ _ => .int 5) (DA.cons (DE.r (de_lst (DA.cons (dr_tup (DA.cons (dr_c (fun _ => pe_str) fun _ _ => .str "t") (DA.cons (dr_c (fun _ => pe_int) fun _ _ => .int 2) DA.nil))) DA.nil))) DA.nil)))) DA.nil)))))))) (dss_cons (ds_set (i := 6) (fun _ _ h => ps_set (i := 6) scBadJ.nd rfl (Or.inl rfl) h) (de_op (fun _ _ _ h1 h2 => pe_op op_cat h1 h2) dop_cat (dr_rel fun _ => pv 6) (DE.r (de_lst (DA.cons (dr_tup (DA.cons (dr_c (fun _ => pe_int) fun _ _ => .int 900) (DA.cons (dr_c (fun _ => pe_int) fun _ _ => .int 5) (DA.cons (DE.r (de_lst (DA.cons (dr_c (fun _ => pe_int) fun _ _ => .int 1) (DA.cons (dr_tup (DA.cons (dr_c (fun _ => pe_str) fun _ _ => .str "t") (DA.cons (DE.r (de_lst (DA.cons (dr_c (fun _ => pe_int) fun _ _ => .int 1) (DA.cons (dr_tup (DA.cons (dr_c (fun _ => pe_str) fun _ _ => .str "t") (DA.cons (DE.r (de_lst (DA.cons (dr_c (fun _ => pe_int) fun _ _ => .int 1) DA.nil))) DA.nil))) DA.nil)))) DA.nil))) DA.nil)))) DA.nil)))) (DA.cons (dr_tup (DA.cons (dr_c (fun _ => pe_int) fun _ _ => .int 900) (DA.cons (dr_c (fun _ => pe_int) fun _ _ => .int 5) (DA.cons (DE.r (de_lst (DA.cons (dr_tup (DA.cons (dr_c (fun _ => pe_str) fun _ _ => .str "t") (DA.cons (DE.r (de_lst (DA.cons (dr_tup (DA.cons (dr_c (fun _ => pe_str) fun _ _ => .str "u") (DA.cons (DE.r (de_lst (DA.cons (dr_c (fun _ => pe_int) fun _ _ => .int 1) (DA.cons (dr_tup (DA.cons (dr_c (fun _ => pe_str) fun _ _ => .str "t") (DA.cons (DE.r (de_lst (DA.cons (dr_c (fun _ => pe_int) fun _ _ => .int 2) DA.nil))) DA.nil))) DA.nil)))) DA.nil))) DA.nil))) DA.nil))) DA.nil))) DA.nil)))) DA.nil)))))) (dss_cons (ds_par (i := 7) (j := 8) (fun _ _ h => ps_par (by rfl) scBadJ.nd rfl rfl (by decide) rfl rfl h (by rfl)) (DR.e (dr_tup (DA.cons (dr_c (fun _ => pe_int) fun _ _ => .int 900) (DA.cons (dr_c (fun _ => pe_int) fun _ _ => .int 5) (DA.cons (DE.r (de_lst (DA.cons (dr_c (fun _ => pe_int) fun _ _ => .int 1) DA.nil))) DA.nil))))) (de_call (fun _ _ h => DL.pe_cl cO hr (by omega) pass0 h) (DA.pool (de_pool fun _ => pv 0) (DA.cons (DE.r (de_op (fun _ _ _ h1 h2 => pe_op op_cat h1 h2) dop_cat (dr_rel fun _ => pv 6) (DE.r (de_lst (DA.cons (dr_tup (DA.cons (dr_var fun _ => pv 3) (DA.cons (dr_c (fun _ => pe_int) fun _ _ => .int 5) (DA.cons (DE.r (de_lst (DA.cons (dr_c (fun _ => pe_int) fun _ _ => .int 1) DA.nil))) DA.nil)))) DA.nil))))) DA.nil)))) (dss_cons (ds_unp (vs := [9, 8]) (fun _ _ _ h1 h2 => ps_asg h1 h2) (DE.r (de_call (fun _ _ h => DL.pe_cl cO hr (by omega) pass0 h) (DA.pool (de_pool fun _ => pv 0) (DA.cons (DE.r (de_lst (DA.cons (dr_tup (DA.cons (dr_c (fun _ => pe_str) fun _ _ => .str "wrong") (DA.cons (dr_var fun _ => pv 8) DA.nil))) (DA.cons (dr_tup (DA.cons (dr_c (fun _ => pe_str) fun _ _ => .str "wrong") (DA.cons (dr_var fun _ => pv 8) DA.nil))) (DA.cons (dr_tup (DA.cons (dr_c (fun _ => pe_int) fun _ _ => .int 5) (DA.cons (dr_var fun _ => pv 7) DA.nil))) (DA.cons (dr_tup (DA.cons (dr_c (fun _ => pe_str) fun _ _ => .str "Wrong") (DA.cons (dr_var fun _ => pv 7) DA.nil))) (DA.cons (dr_tup (DA.cons (dr_c (fun _ => pe_non) fun _ _ => .non) (DA.cons (dr_c (fun _ => pe_non) fun _ _ => .non) DA.nil))) DA.nil))))))) DA.nil)))) (dg_tup (K := K) (m := 2) (dgs_cons (dg_name (i := 9) (fun _ => pg_name (i := 9) scBadJ.nd rfl (Or.inl rfl)) (by decide)) (dgs_cons (dg_name (i := 8) (fun _ => pg_name (i := 8) scBadJ.nd rfl (Or.inl rfl)) (by decide)) dgs_nil)) (fun _ _ h => pg_tup (by rfl) h))) (dss_cons (ds_set (i := 10) (fun _ _ h => ps_set (i := 10) scBadJ.nd rfl (Or.inl rfl) h) (de_op (fun _ _ _ h1 h2 => pe_op op_cat h1 h2) dop_cat (DE.r (de_lc (own := [("job", 11)]) (fun _ => rfl) (fun _ => scBadJ.nd) (di_list (K := K) (DE.r (de_call (fun _ _ h => DL.pe_cl cX hr (by omega) pass0 h) (DA.pool (de_pool fun _ => pv 0) (DA.cons (DE.r (de_sortD (fun _ _ h => pe_callB (call_sortedD rfl) (by rfl) g_sorted (by decide +kernel) (pa_cons h pa_nil)) (db_var fun _ => pv 1))) DA.nil)))) fun _ _ h => pi_list h) (fun _ => blkOk_by (own := [("job", 11)]) (N := ["pool", "jobs", "word", "priority", "distance", "body", "odds", "good", "odd", "key", "rows", "job"]) (sc := defScope sBadJ) (by decide +kernel)) (dg_name (i := 11) (fun _ => pg_name (i := 11) scBadJ.nd rfl (Or.inl rfl)) (by decide)) dts_nil (dr_tup (DA.cons (dr_var fun _ => pv 11) (DA.cons (dr_dget (fun _ _ _ h1 h2 => pe_dget (hu_of hr) h1 h2 fun _ _ => rfl) (dr_var fun _ => pv 1) (dr_var fun _ => pv 11)) DA.nil))))) (DE.r (de_lst (DA.cons (dr_tup (DA.cons (dr_var fun _ => pv 9) (DA.cons (dr_var fun _ => pv 8) DA.nil))) (DA.cons (dr_tup (DA.cons (dr_c (fun _ => pe_str) fun _ _ => .str "worse") (DA.cons (dr_c (fun _ => pe_non) fun _ _ => .non) DA.nil))) DA.nil)))))) (dss_one (ds_ret (DR.e (dr_tup (DA.cons (DE.z (de_dictM (K := K) (fun _ _ h => pe_callTy (K01.call_dictMix rfl (room20 hr)) (by rfl) g_dict (by decide +kernel) (pa_cons h pa_nil)) (db_var fun _ => pv 10))) (DA.cons (dr_var fun _ => pv 9) DA.nil))))))))))))))), fun as n Qd h => ?_⟩
    obtain ⟨rs, rfl, lr, hn, q⟩ := h
    have l1 := lr.l1
    have l4 := lr.l4
    refine ⟨rfl, rfl, .dic (tbOf rs), .ro _, rfl, rfl, tbOf rs, rs.map (·.z), rfl, tb_keys rs, (by rw [List.length_map]; omega), fun ys pm so => ⟨_, rfl, ys.map .str, rfl, by omega, ?_, ?_, fun w hw => ?_⟩⟩
    · rw [List.length_map, pm.length_eq, List.length_map]
      omega
    · rw [List.length_map, pm.length_eq, List.length_map]
      omega
    obtain ⟨z, hz, rfl⟩ := List.mem_map.mp hw
    obtain ⟨j, hj, rfl⟩ := List.mem_map.mp (pm.subset hz)
    have pp := prios_all j.p (lr.pw j hj)
    have nbody : Nice 8 (.tup (partsT j.ps)) := nice_wf 2 3 thingsL j.ps things_all (lr.wf j hj)
    refine ⟨_, rfl, _, rfl, tbOf rs, .inr j.z, j.tup, rfl, rfl, tb_val lr.nz j hj, [_, _, _], rfl, rfl, _, _, rfl, _, _, rfl, _, _, rfl, rfl, ?_⟩
    repeat walk_at "dl"
    refine ⟨rfl, rfl, ?_⟩
    repeat walk_at "dl"
    refine ⟨by omega, by simp, by simp, fun odd hodd => ?_⟩
    have ho : OddJ odd ∨ odd = .tup [.int j.p, .int 5, .lst [.int 1]] := by
      rcases List.mem_append.mp hodd with h | h
      · exact .inl (odds_all (p := j.p) (q := j.q) nbody odd h)
      · exact .inr (List.mem_singleton.mp h)
    clear hodd
    refine ⟨rfl, rfl, ?_⟩
    repeat walk_at "dl"
    refine ⟨by omega, by simp, by simp, fun d hd => ?_⟩
    have hk : ∃ key od, d = .tup [key, od] ∧ (key = .str "wrong" ∨ key = .int 5 ∨ key = .str "Wrong" ∨ key = .non) ∧ ((key = .str "wrong" ∧ (OddJ od ∨ od = .tup [.int j.p, .int 5, .lst [.int 1]])) ∨ (wordD key = false ∧ ∃ ty, tyD key = some ty)) := by
      simp only [List.mem_cons, List.not_mem_nil, or_false] at hd
      rcases hd with rfl | rfl | rfl | rfl | rfl
      · exact ⟨_, _, rfl, .inl rfl, .inl ⟨rfl, ho⟩⟩
      · exact ⟨_, _, rfl, .inl rfl, .inl ⟨rfl, ho⟩⟩
      · exact ⟨_, _, rfl, .inr (.inl rfl), .inr ⟨rfl, _, rfl⟩⟩
      · exact ⟨_, _, rfl, .inr (.inr (.inl rfl)), .inr ⟨by decide +kernel, _, rfl⟩⟩
      · exact ⟨_, _, rfl, .inr (.inr (.inr rfl)), .inr ⟨rfl, _, rfl⟩⟩
    clear hd ho
    obtain ⟨key, od, rfl, kk, hw2⟩ := hk
    refine ⟨_, rfl, _, rfl, rfl, _, _, rfl, _, _, rfl, rfl, ?_⟩
    refine ⟨rfl, rfl, .dic (tbOf rs), .ro _, rfl, rfl, tbOf rs, rs.map (·.z), rfl, tb_keys rs, (by rw [List.length_map]; omega), fun ys2 pm2 so2 => ⟨_, rfl, ys2.map .str, rfl, ?_, ?_, fun es pm3 => ⟨_, rfl, es, rfl, ?_⟩⟩⟩
    · have := pm2.length_eq
      rw [List.length_map] at this ⊢
      omega
    · exact okD_perm (ok_strs lr) fun d hd => (pm2.map Dt.str).subset hd
    obtain ⟨zs, pz, rfl⟩ := perm_map pm3 ys2 rfl
    obtain ⟨js, pj, rfl⟩ := perm_map (pz.trans pm2) rs rfl
    have jl := pj.length_eq
    have nj : (js.map (·.z)).Nodup := (pj.map _).nodup_iff.mpr lr.nz
    have njp : (js.map (·.p)).Nodup := (pj.map _).nodup_iff.mpr lr.np
    have yl : (ys2.map Dt.str).length = rs.length := by
      rw [List.length_map, pm2.length_eq, List.length_map]
    rw [yl]
    refine dLc_go (fun ds' acc n' δ' => ∃ (pre rest : List JR), js = pre ++ rest ∧ acc = (pre.map fun r => ((Dt.str r.z, r.tup) : Dt × Dt)).map pairM ∧ ds' = (rest.map (·.z)).map .str ∧ n' ≤ n + 10 ∧ ∃ w, δ' = [.pool, .ro (.dic (tbOf rs)), .ro (.str j.z), .ro (.int j.p), .ro (.int j.q), .ro (.tup (partsT j.ps)), .ro (.lst w), .ro (.tup [.int 900, .int 5, .lst [.int 1]]), .ro od, .ro key, .no, .no]) ?_ ?_ ⟨[], js, rfl, rfl, rfl, by omega, ((odds1 j.p j.q (.tup (partsT j.ps)) ++ odds2 (.tup (partsT j.ps))) ++ odds3) ++ odds4, by kernel_rfl⟩
    · rintro acc n' δ' ⟨pre, rest, e1, rfl, e2, hn', w, rfl⟩
      have : rest = [] := by
        cases rest with
        | nil => rfl
        | cons _ _ => cases e2
      subst this
      rw [List.append_nil] at e1
      subst e1
      obtain ⟨qk, eqk, nq1, nq2⟩ : ∃ qk, nkD key = some qk ∧ qk ≠ .text "worse" ∧ ∀ z ∈ wordsL, qk ≠ .text z := by
        obtain ⟨w1, w2, w3⟩ := worse_not
        rcases kk with rfl | rfl | rfl | rfl
        · exact ⟨_, rfl, fun z => by injection z with z; revert z; decide +kernel, fun z hz e => by injection e with e; rw [← e] at hz; exact w2 hz⟩
        · exact ⟨_, rfl, (fun z => by cases z), fun z hz e => by cases e⟩
        · exact ⟨_, rfl, fun z => by injection z with z; revert z; decide +kernel, fun z hz e => by injection e with e; rw [← e] at hz; exact w3 hz⟩
        · exact ⟨_, rfl, (fun z => by cases z), fun z hz e => by cases e⟩
      have good : Paired (fun (p : Dt × Dt) q => nkD p.1 = some q) (js.map fun r => ((Dt.str r.z, r.tup) : Dt × Dt)) (js.map fun r => NestedKey.text r.z) := by
        clear jl nj njp pz pj pm3
        induction js with
        | nil => exact .nil
        | cons r js ih => exact .cons rfl ih
      have zin : ∀ r ∈ js, r.z ∈ wordsL := fun r hr => lr.zw r (pj.subset hr)
      refine ⟨_, rfl, _, rfl, _, rfl, [_, _], rfl, (by show 2 ≤ sizeLine; omega), [_, _], rfl, (by show 2 ≤ sizeLine; omega), [_, _], rfl, (by show 2 ≤ sizeLine; omega), _, rfl, _, _, rfl, rfl, ?_, ?_⟩
      · rw [List.length_map, List.length_map]
        show js.length + 2 ≤ sizeLine
        omega
      refine ⟨_, _, rfl, rfl, (js.map fun r => ((Dt.str r.z, r.tup) : Dt × Dt)) ++ [(key, od), (.str "worse", .non)], (js.map fun r => NestedKey.text r.z) ++ [qk, .text "worse"], ?_, paired_app good (.cons eqk (.cons rfl .nil)), ?_, _, rfl, _, rfl, [_, _], rfl, (by show 2 ≤ sizeLine; omega), q _ key _ ⟨⟨_, (key, od), [(.str "worse", .non)], js.map (·.p), rfl, rows_right lr fun r hr => pj.subset hr, njp, ?_, rfl⟩, ?_⟩ kk (by omega)⟩
      · rw [List.map_append]
        rfl
      · rw [List.nodup_append]
        refine ⟨?_, ?_, ?_⟩
        · rw [show (js.map fun r => NestedKey.text r.z) = (js.map (·.z)).map NestedKey.text by rw [List.map_map]; rfl]
          exact List.Pairwise.map _ (fun a b (h : a ≠ b) z => h (NestedKey.text.inj z)) nj
        · simp [nq1]
        · intro a ha b hb e
          obtain ⟨r, hr, rfl⟩ := List.mem_map.mp ha
          simp only [List.mem_cons, List.not_mem_nil, or_false] at hb
          rcases hb with rfl | rfl
          · exact nq2 r.z (zin r hr) e.symm
          · injection e with e
            exact worse_not.1 (by rw [← e]; exact zin r hr)
      · rcases hw2 with ⟨rfl, ho⟩ | ⟨w, ty, hty⟩
        · refine ⟨⟨_, rfl⟩, (fun z e => by cases e; decide +kernel), .inr ⟨(by decide +kernel : wordD (.str "wrong") = true), ?_⟩⟩
          rcases ho with ⟨h1, h2⟩ | rfl
          · exact ⟨h1, .inl h2⟩
          · refine ⟨?_, .inr ⟨j.p, ?_, rfl, List.mem_map.mpr ⟨j, pj.symm.subset hj, rfl⟩⟩⟩
            · exact nice_tup 8 _ (by simp) (nl_cons (nice_int _ _) (nl_cons (nice_int _ _) (nl_cons (nice_lst 7 _ (by simp) (nl_cons (nice_int _ _) (nl_nil _))) (nl_nil _))))
            · show (decide (1 ≤ j.p) && (decide ((1 : Int) ≤ 5) && areD 8 [] (.lst [.int 1]))) = true
              rw [decide_eq_true pp.1]
              decide +kernel
        · refine ⟨⟨ty, hty⟩, fun z e => ?_, .inl w⟩
          rcases kk with rfl | rfl | rfl | rfl <;> cases e <;> decide +kernel
      · rw [List.length_append, List.length_map]
        show js.length + 2 ≤ 60
        omega
    · rintro y r acc n' δ' R hR ⟨pre, rest, e1, rfl, e2, hn', w, rfl⟩
      cases rest with
      | nil => cases e2
      | cons j' rest =>
        rw [List.map_cons, List.map_cons] at e2
        injection e2 with e3 e4
        subst e3 e4
        have hj' : j' ∈ rs := pj.subset (by rw [e1]; simp)
        refine dT ⟨_, rfl, _, rfl, _, rfl, tbOf rs, .inr j'.z, j'.tup, rfl, rfl, tb_val lr.nz j' hj', [_, _], rfl, (by show 2 ≤ sizeLine; omega), ?_, ?_⟩
        · rw [List.length_map, List.length_map]
          have := congrArg List.length e1
          rw [List.length_append] at this
          omega
        · refine hR _ _ _ ⟨pre ++ [j'], rest, by rw [e1, List.append_assoc]; rfl, ?_, rfl, hn', w, rfl⟩
          rw [List.map_append, List.map_append]
          rfl
end
end K59
/-! ## K60g -/
set_option Elab.async false
set_option linter.all false
set_option maxRecDepth 100000
set_option maxHeartbeats 4000000
/-! k59: _law_bad_comings. -/
namespace K59
open PySem PySem.Spec PyProof.Rows L2 DL
abbrev sBadC : Stmt := tp 50
/-- one step of a reading by trees -/
local macro_rules | `(tactic| walk_at "dl") => `(tactic| first
  | refine ⟨_, rfl, ?_⟩
  | refine ⟨[], rfl, Nat.zero_le _, ?_⟩
  | refine ⟨[_], rfl, (by show 1 ≤ sizeLine; omega), ?_⟩
  | refine ⟨[_, _], rfl, (by show 2 ≤ sizeLine; omega), ?_⟩
  | refine ⟨[_, _, _], rfl, (by show 3 ≤ sizeLine; omega), ?_⟩
  | refine ⟨[_, _, _, _, _], rfl, (by show 5 ≤ sizeLine; omega), ?_⟩
  | refine ⟨[_, _, _, _, _, _, _, _, _], rfl, (by show 9 ≤ sizeLine; omega), ?_⟩
  | refine ⟨_, _, rfl, rfl, (by simp only [List.length_cons, List.length_nil, List.length_append]; omega), ?_⟩
  | refine ⟨_, _, rfl, rfl, ?_⟩)
def oddC (q : Int) : List Dt := [.non, .int 5, .str "ab", .dic [], .lst [.int (0 - 1)], .lst [.bl true], .lst [.non], .lst [.tup [.int 0]], .lst [.int 9, .int 0]] ++ [.lst [.int 0, .int (q - 1)], .lst [.int 3, .int (3 + q), .int (2 + q)]]
def OddC (q : Int) (d : Dt) : Prop := Flat2 d ∧ momR q d = false
theorem oc_nil {q : Int} : ∀ x ∈ ([] : List Dt), OddC q x := fun x h => by cases h
theorem oc_cons {q : Int} {d : Dt} {ds : List Dt} (h1 : Flat2 d) (h2 : momR q d = false) (t : ∀ x ∈ ds, OddC q x) : ∀ x ∈ d :: ds, OddC q x := fun x hx => by
  rcases List.mem_cons.mp hx with rfl | hx
  · exact ⟨h1, h2⟩
  · exact t x hx
theorem nice_tup0 (ds : List Dt) (l : ds.length ≤ 1000) : (∀ x ∈ ds, Nice 0 x) → Nice 1 (.tup ds) := nice_tup 0 ds l
theorem gaps2 {q a b : Int} : gapsR q [a, b] = decide (q ≤ b - a) := by
  simp [gapsR, List.range_succ]
theorem gaps3 {q a b c : Int} : gapsR q [a, b, c] = (decide (q ≤ b - a) && decide (q ≤ c - b)) := by
  simp [gapsR, List.range_succ]
theorem flat_no {d : Dt} {ty : String} (h : tyD d = some ty) (e : elemD d = none) : Flat2 d := ⟨⟨ty, h⟩, trivial, fun ds q => by rw [e] at q; cases q⟩
theorem flat_lst {ds : List Dt} (l : ds.length ≤ 1000) (h : ∀ x ∈ ds, ∃ ty, tyD x = some ty) : Flat2 (.lst ds) := ⟨⟨_, rfl⟩, trivial, fun es q => by cases q; exact ⟨l, h⟩⟩
theorem ty_nil : ∀ x ∈ ([] : List Dt), ∃ ty, tyD x = some ty := fun x h => by cases h
theorem ty_cons {d : Dt} {ds : List Dt} {ty : String} (h : tyD d = some ty) (t : ∀ x ∈ ds, ∃ ty, tyD x = some ty) : ∀ x ∈ d :: ds, ∃ ty, tyD x = some ty := fun x hx => by
  rcases List.mem_cons.mp hx with rfl | hx
  · exact ⟨ty, h⟩
  · exact t x hx
theorem oddsC_all {q : Int} (h : 1 ≤ q) : ∀ d ∈ oddC q, OddC q d := by
  have m2 : ∀ {a b : Int}, ¬ q ≤ b - a → momR q (.lst [.int a, .int b]) = false := fun {a b} h => by
    show ([Dt.int a, .int b].all goodI && gapsR q [a, b]) = false
    rw [gaps2, decide_eq_false h, Bool.and_false]
  have m3 : ∀ {a b c : Int}, ¬ q ≤ c - b → momR q (.lst [.int a, .int b, .int c]) = false := fun {a b c} h => by
    show ([Dt.int a, .int b, .int c].all goodI && gapsR q [a, b, c]) = false
    rw [gaps3, decide_eq_false h, Bool.and_false, Bool.and_false]
  unfold oddC
  simp only [List.cons_append, List.nil_append]
  refine oc_cons (flat_no rfl rfl) rfl (oc_cons (flat_no rfl rfl) rfl (oc_cons (flat_no rfl rfl) rfl (oc_cons (flat_no rfl rfl) rfl (oc_cons (flat_lst (by simp) (ty_cons rfl ty_nil)) rfl (oc_cons (flat_lst (by simp) (ty_cons rfl ty_nil)) rfl
    (oc_cons (flat_lst (by simp) (ty_cons rfl ty_nil)) rfl (oc_cons (flat_lst (by simp) (ty_cons rfl ty_nil)) rfl (oc_cons (flat_lst (by simp) (ty_cons rfl (ty_cons rfl ty_nil))) (m2 (by omega)) (oc_cons (flat_lst (by simp) (ty_cons rfl (ty_cons rfl ty_nil))) (m2 (by omega))
    (oc_cons (flat_lst (by simp) (ty_cons rfl (ty_cons rfl (ty_cons rfl ty_nil)))) (m3 (by omega)) oc_nil))))))))))
/-- comings of which one is wrong, and its key -/
structure BadM (rs : List JR) (es : List (Dt × Dt)) (key : Dt) : Prop where
  ex : ∃ (good : List (Dt × Dt)) (p : Dt × Dt) (rest : List (Dt × Dt)), es = good ++ p :: rest ∧ (∀ g ∈ good, ∃ r ∈ rs, g = (.str r.z, .lst [.int 0])) ∧ ((∃ r ∈ rs, p.1 = .str r.z ∧ OddC r.q p.2) ∨ p.1 = .str "wrong" ∨ p.1 = .int 5 ∨ p.1 = .non) ∧ key = p.1
  len : es.length ≤ 1000
def fl1 (js : List JR) (j : JR) : List JR := js.filter fun r => !decide (r.z = j.z)
variable [Wd]
def cBadM : Ct := fun as n Q _ => ∃ rs, as = [.pool, .ro (.dic (tbOf rs))] ∧ LawR rs ∧ n + 20 ≤ 10000 ∧ ∀ es key n', BadM rs es key → ((∃ r ∈ rs, key = .str r.z) ∨ key = .str "wrong" ∨ key = .int 5 ∨ key = .non) → n' ≤ n + 20 → Q (.ro (.tup [.mix es, key])) n'
section
variable {P : Program} {K : PySem.W.Frag} {mg : Str → Option Value} {base : Heap} {f g : Addr} {fd gd : FuncData}
theorem scBadC : FnScope ["pool", "jobs", "job", "distance", "odds", "rows", "odd", "key", "one"] ["pool", "jobs"] (defScope sBadC) := ⟨rfl, rfl, rfl, by decide +kernel, rfl, by decide +kernel, by decide +kernel⟩
theorem ok_badC (F : Fun K "_law_bad_comings" "_law_bad_comings" sBadC f fd) (cT : DL.Cl P Wd.w K mg base CX0 1 "_law_take" (spC cTake)) (cO : DL.Cl P Wd.w K mg base CX0 2 "_law_one" (spC cOne)) (g_dict : mg "dict" = none) (g_sorted : mg "sorted" = none) :
    FnOk P Wd.w K mg base CX0 4 f fd ["pool", "jobs"] (spC cBadM) := by
  have l63 := sizeLine_eq
  refine okC F scBadC (fun as n Qd Xd h => ?_) (fun cdv A outer s H E Xd hr => ?_)
  · obtain ⟨rs, rfl, _⟩ := h
    rfl
  · refine ⟨_, (dss_cons (ds_set (i := 2) (fun _ _ h => ps_set (i := 2) scBadC.nd rfl (Or.inr rfl) h) (de_call (fun _ _ h => DL.pe_cl cO hr (by omega) pass0 h) (DA.pool (de_pool fun _ => pv 0) (DA.cons (DE.r (de_sortD (fun _ _ h => pe_callB (call_sortedD rfl) (by rfl) g_sorted (by decide +kernel) (pa_cons h pa_nil)) (db_var fun _ => pv 1))) DA.nil)))) (dss_cons (ds_set (i := 3) (fun _ _ h => ps_set (i := 3) scBadC.nd rfl (Or.inl rfl) h) (DR.e (dr_ix (K := K) (fun _ _ _ h1 h2 => pe_ix ix_seq h1 h2 fun _ _ => rfl) (dr_dget (fun _ _ _ h1 h2 => pe_dget (hu_of hr) h1 h2 fun _ _ => rfl) (dr_var fun _ => pv 1) (dr_var fun _ => pv 2)) (dr_c (fun _ => pe_int) fun _ _ => .int 1)))) (dss_cons (ds_set (i := 4) (fun _ _ h => ps_set (i := 4) scBadC.nd rfl (Or.inl rfl) h) (de_lst (DA.cons (dr_c (fun _ => pe_non) fun _ _ => .non) (DA.cons (dr_c (fun _ => pe_int) fun _ _ => .int 5) (DA.cons (dr_c (fun _ => pe_str) fun _ _ => .str "ab") (DA.cons (DE.z de_dic) (DA.cons (DE.r (de_lst (DA.cons (dr_op (fun _ _ _ h1 h2 => pe_op op_sub h1 h2) (dop_i rfl (gd := fun i j => .int (i - j)) fun _ _ => sc_int) (dr_c (fun _ => pe_int) fun _ _ => .int 0) (DR.b (dr_c (fun _ => pe_int) fun _ _ => .int 1))) DA.nil))) (DA.cons (DE.r (de_lst (DA.cons (dr_c (fun _ => pe_bl) fun _ _ => .bl true) DA.nil))) (DA.cons (DE.r (de_lst (DA.cons (dr_c (fun _ => pe_non) fun _ _ => .non) DA.nil))) (DA.cons (DE.r (de_lst (DA.cons (dr_tup (DA.cons (dr_c (fun _ => pe_int) fun _ _ => .int 0) DA.nil)) DA.nil))) (DA.cons (DE.r (de_lst (DA.cons (dr_c (fun _ => pe_int) fun _ _ => .int 9) (DA.cons (dr_c (fun _ => pe_int) fun _ _ => .int 0) DA.nil)))) DA.nil))))))))))) (dss_cons (ds_set (i := 4) (fun _ _ h => ps_set (i := 4) scBadC.nd rfl (Or.inl rfl) h) (de_op (fun _ _ _ h1 h2 => pe_op op_cat h1 h2) dop_cat (dr_rel fun _ => pv 4) (DE.r (de_lst (DA.cons (DE.r (de_lst (DA.cons (dr_c (fun _ => pe_int) fun _ _ => .int 0) (DA.cons (dr_op (fun _ _ _ h1 h2 => pe_op op_sub h1 h2) (dop_i rfl (gd := fun i j => .int (i - j)) fun _ _ => sc_int) (dr_var fun _ => pv 3) (DR.b (dr_c (fun _ => pe_int) fun _ _ => .int 1))) DA.nil)))) (DA.cons (DE.r (de_lst (DA.cons (dr_c (fun _ => pe_int) fun _ _ => .int 3) (DA.cons (dr_op (fun _ _ _ h1 h2 => pe_op op_add h1 h2) (dop_i rfl (gd := fun i j => .int (i + j)) fun _ _ => sc_int) (dr_c (fun _ => pe_int) fun _ _ => .int 3) (DR.b (dr_var fun _ => pv 3))) (DA.cons (dr_op (fun _ _ _ h1 h2 => pe_op op_add h1 h2) (dop_i rfl (gd := fun i j => .int (i + j)) fun _ _ => sc_int) (dr_c (fun _ => pe_int) fun _ _ => .int 2) (DR.b (dr_var fun _ => pv 3))) DA.nil))))) DA.nil)))))) (dss_cons (ds_set (i := 5) (fun _ _ h => ps_set (i := 5) scBadC.nd rfl (Or.inl rfl) h) (de_sliceTo (K := K) (fun _ _ _ h1 h2 => pe_slice sl_list h1 po_none (po_some h2)) (DE.r (de_lc (own := [("one", 8)]) (fun _ => rfl) (fun _ => scBadC.nd) (di_list (K := K) (DE.r (de_sortD (fun _ _ h => pe_callB (call_sortedD rfl) (by rfl) g_sorted (by decide +kernel) (pa_cons h pa_nil)) (db_var fun _ => pv 1))) fun _ _ h => pi_list h) (fun _ => blkOk_by (own := [("one", 8)]) (N := ["pool", "jobs", "job", "distance", "odds", "rows", "odd", "key", "one"]) (sc := defScope sBadC) (by decide +kernel)) (dg_name (i := 8) (fun _ => pg_name (i := 8) scBadC.nd rfl (Or.inl rfl)) (by decide)) (dts_one (dt_op (fun _ _ _ h1 h2 => pt_cmpR op_ne h1 h2 (nomark _)) dop_neS (dr_var fun _ => pv 8) (DR.b (dr_var fun _ => pv 2)))) (dr_tup (DA.cons (dr_var fun _ => pv 8) (DA.cons (DE.r (de_lst (DA.cons (dr_c (fun _ => pe_int) fun _ _ => .int 0) DA.nil))) DA.nil))))) (DE.r (de_call (fun _ _ h => DL.pe_cl cT hr (by omega) pass0 h) (DA.pool (de_pool fun _ => pv 0) (DA.cons (dr_c (fun _ => pe_int) fun _ _ => .int 3) DA.nil)))))) (dss_cons (ds_set (i := 6) (fun _ _ h => ps_set (i := 6) scBadC.nd rfl (Or.inl rfl) h) (de_call (fun _ _ h => DL.pe_cl cO hr (by omega) pass0 h) (DA.pool (de_pool fun _ => pv 0) (DA.cons (dr_rel fun _ => pv 4) DA.nil)))) (dss_cons (ds_unp (vs := [7, 6]) (fun _ _ _ h1 h2 => ps_asg h1 h2) (DE.r (de_call (fun _ _ h => DL.pe_cl cO hr (by omega) pass0 h) (DA.pool (de_pool fun _ => pv 0) (DA.cons (DE.r (de_lst (DA.cons (dr_tup (DA.cons (dr_var fun _ => pv 2) (DA.cons (dr_var fun _ => pv 6) DA.nil))) (DA.cons (dr_tup (DA.cons (dr_var fun _ => pv 2) (DA.cons (dr_var fun _ => pv 6) DA.nil))) (DA.cons (dr_tup (DA.cons (dr_c (fun _ => pe_str) fun _ _ => .str "wrong") (DA.cons (DE.r (de_lst (DA.cons (dr_c (fun _ => pe_int) fun _ _ => .int 0) DA.nil))) DA.nil))) (DA.cons (dr_tup (DA.cons (dr_c (fun _ => pe_int) fun _ _ => .int 5) (DA.cons (DE.r (de_lst DA.nil)) DA.nil))) (DA.cons (dr_tup (DA.cons (dr_c (fun _ => pe_non) fun _ _ => .non) (DA.cons (DE.r (de_lst DA.nil)) DA.nil))) DA.nil))))))) DA.nil)))) (dg_tup (K := K) (m := 2) (dgs_cons (dg_name (i := 7) (fun _ => pg_name (i := 7) scBadC.nd rfl (Or.inl rfl)) (by decide)) (dgs_cons (dg_name (i := 6) (fun _ => pg_name (i := 6) scBadC.nd rfl (Or.inl rfl)) (by decide)) dgs_nil)) (fun _ _ h => pg_tup (by rfl) h))) (dss_one (ds_ret (DR.e (dr_tup (DA.cons (DE.z (de_dictM (K := K) (fun _ _ h => pe_callTy (K01.call_dictMix rfl (room20 hr)) (by rfl) g_dict (by decide +kernel) (pa_cons h pa_nil)) (DR.b (DE.r (de_op (fun _ _ _ h1 h2 => pe_op op_cat h1 h2) dop_cat (dr_rel fun _ => pv 5) (DE.r (de_lst (DA.cons (dr_tup (DA.cons (dr_var fun _ => pv 7) (DA.cons (dr_var fun _ => pv 6) DA.nil))) (DA.cons (dr_tup (DA.cons (dr_c (fun _ => pe_str) fun _ _ => .str "worse") (DA.cons (dr_c (fun _ => pe_non) fun _ _ => .non) DA.nil))) DA.nil))))))))) (DA.cons (dr_var fun _ => pv 7) DA.nil))))))))))))), fun as n Qd h => ?_⟩
    obtain ⟨rs, rfl, lr, hn, q⟩ := h
    have l1 := lr.l1
    have l4 := lr.l4
    refine ⟨rfl, rfl, .dic (tbOf rs), .ro _, rfl, rfl, tbOf rs, rs.map (·.z), rfl, tb_keys rs, (by rw [List.length_map]; omega), fun ys pm so => ⟨_, rfl, ys.map .str, rfl, by omega, ?_, ?_, fun w hw => ?_⟩⟩
    · rw [List.length_map, pm.length_eq, List.length_map]
      omega
    · rw [List.length_map, pm.length_eq, List.length_map]
      omega
    obtain ⟨z, hz, rfl⟩ := List.mem_map.mp hw
    obtain ⟨j, hj, rfl⟩ := List.mem_map.mp (pm.subset hz)
    have q1 := lr.q1 j hj
    refine ⟨_, rfl, _, rfl, tbOf rs, .inr j.z, j.tup, rfl, rfl, tb_val lr.nz j hj, _, 1, _, rfl, rfl, rfl, ?_⟩
    repeat walk_at "dl"
    refine ⟨tbOf rs, rs.map (·.z), rfl, tb_keys rs, (by rw [List.length_map]; omega), fun ys2 pm2 so2 => ⟨_, rfl, _, rfl, ?_⟩⟩
    obtain ⟨js, pj, rfl⟩ := perm_map pm2 rs rfl
    have jl := pj.length_eq
    have nj : (js.map (·.z)).Nodup := (pj.map _).nodup_iff.mpr lr.nz
    refine dLc_go (fun ds' acc n' δ' => ∃ (pre rest : List JR), js = pre ++ rest ∧ acc = ((fl1 pre j).map fun r => ((Dt.str r.z, .lst [.int 0]) : Dt × Dt)).map pairM ∧ ds' = (rest.map (·.z)).map .str ∧ n' = n + 1 ∧ δ' = [.pool, .ro (.dic (tbOf rs)), .ro (.str j.z), .ro (.int j.q), .own (.lst (oddC j.q)), .no, .no, .no, .no]) ?_ ?_ ⟨[], js, rfl, rfl, rfl, rfl, by kernel_rfl⟩
    · rintro acc n' δ' ⟨pre, rest, e1, rfl, e2, rfl, rfl⟩
      have : rest = [] := by
        cases rest with
        | nil => rfl
        | cons _ _ => cases e2
      subst this
      rw [List.append_nil] at e1
      subst e1
      have fl : (fl1 js j).length ≤ 4 := by
        have := List.length_filter_le (fun r : JR => !decide (r.z = j.z)) js
        unfold fl1
        omega
      refine ⟨_, rfl, rfl, rfl, _, rfl, by omega, by decide, by decide, fun k k0 k1 => ⟨_, rfl, ?_⟩⟩
      obtain ⟨k, rfl⟩ := Int.eq_ofNat_of_zero_le k0
      refine ⟨_, k, rfl, rfl, rfl, rfl, _, rfl, _, rfl, by omega, by simp [oddC], by simp [oddC], fun odd hodd => ?_⟩
      have ho : OddC j.q odd := oddsC_all q1 odd hodd
      clear hodd
      refine ⟨rfl, rfl, ?_⟩
      repeat walk_at "dl"
      refine ⟨by omega, by simp, by simp, fun d hd => ?_⟩
      have hk : ∃ key od, d = .tup [key, od] ∧ ((key = .str j.z ∧ OddC j.q od) ∨ key = .str "wrong" ∨ key = .int 5 ∨ key = .non) := by
        simp only [List.mem_cons, List.not_mem_nil, or_false] at hd
        rcases hd with rfl | rfl | rfl | rfl | rfl
        · exact ⟨_, _, rfl, .inl ⟨rfl, ho⟩⟩
        · exact ⟨_, _, rfl, .inl ⟨rfl, ho⟩⟩
        · exact ⟨_, _, rfl, .inr (.inl rfl)⟩
        · exact ⟨_, _, rfl, .inr (.inr (.inl rfl))⟩
        · exact ⟨_, _, rfl, .inr (.inr (.inr rfl))⟩
      clear hd ho
      obtain ⟨key, od, rfl, kk⟩ := hk
      refine ⟨_, rfl, _, rfl, rfl, _, _, rfl, _, _, rfl, rfl, ?_⟩
      obtain ⟨qk, eqk, nq1, nq2⟩ : ∃ qk, nkD key = some qk ∧ qk ≠ .text "worse" ∧ ∀ r ∈ fl1 js j, qk ≠ .text r.z := by
        obtain ⟨w1, w2, w3⟩ := worse_not
        have zin : ∀ r ∈ fl1 js j, r.z ∈ wordsL := fun r hr => lr.zw r (pj.subset (List.mem_filter.mp hr).1)
        rcases kk with ⟨rfl, _⟩ | rfl | rfl | rfl
        · refine ⟨_, rfl, fun z => ?_, fun r hr e => ?_⟩
          · injection z with z
            exact w1 (by rw [← z]; exact lr.zw j hj)
          · injection e with e
            have := (List.mem_filter.mp hr).2
            simp [e] at this
        · exact ⟨_, rfl, fun z => by injection z with z; revert z; decide +kernel, fun r hr e => by injection e with e; exact w2 (by rw [e]; exact zin r hr)⟩
        · exact ⟨_, rfl, (fun z => by cases z), fun z hz e => by cases e⟩
        · exact ⟨_, rfl, (fun z => by cases z), fun z hz e => by cases e⟩
      have good : ∀ l : List JR, Paired (fun (p : Dt × Dt) q => nkD p.1 = some q) (l.map fun r => ((Dt.str r.z, .lst [.int 0]) : Dt × Dt)) (l.map fun r => NestedKey.text r.z) := by
        intro l
        induction l with
        | nil => exact .nil
        | cons r js ih => exact .cons rfl ih
      have tl : ((fl1 js j).take k).length ≤ 4 := by
        rw [List.length_take]
        omega
      refine ⟨_, rfl, _, rfl, _, rfl, [_, _], rfl, (by show 2 ≤ sizeLine; omega), [_, _], rfl, (by show 2 ≤ sizeLine; omega), [_, _], rfl, (by show 2 ≤ sizeLine; omega), _, rfl, _, _, rfl, rfl, ?_, ?_⟩
      · rw [← List.map_take, ← List.map_take, List.length_map, List.length_map]
        show ((fl1 js j).take k).length + 2 ≤ sizeLine
        omega
      refine ⟨_, rfl, (((fl1 js j).take k).map fun r => ((Dt.str r.z, .lst [.int 0]) : Dt × Dt)) ++ [(key, od), (.str "worse", .non)], (((fl1 js j).take k).map fun r => NestedKey.text r.z) ++ [qk, .text "worse"], ?_, paired_app (good _) (.cons eqk (.cons rfl .nil)), ?_, _, rfl, _, rfl, [_, _], rfl, (by show 2 ≤ sizeLine; omega), q _ key _ ⟨⟨_, (key, od), [(.str "worse", .non)], rfl, fun g hg => ?_, ?_, rfl⟩, ?_⟩ ?_ (by omega)⟩
      · rw [List.map_append, List.map_take, List.map_take]
        rfl
      · rw [List.nodup_append]
        refine ⟨?_, ?_, ?_⟩
        · rw [show (((fl1 js j).take k).map fun r => NestedKey.text r.z) = (((fl1 js j).take k).map (·.z)).map NestedKey.text by rw [List.map_map]; rfl]
          exact List.Pairwise.map _ (fun a b (h : a ≠ b) z => h (NestedKey.text.inj z)) (nj.sublist (((List.take_sublist _ _).trans List.filter_sublist).map _))
        · simp [nq1]
        · intro a ha b hb e
          obtain ⟨r, hr, rfl⟩ := List.mem_map.mp ha
          have hr2 := List.mem_of_mem_take hr
          simp only [List.mem_cons, List.not_mem_nil, or_false] at hb
          rcases hb with rfl | rfl
          · exact nq2 r hr2 e.symm
          · injection e with e
            exact worse_not.1 (by rw [← e]; exact lr.zw r (pj.subset (List.mem_filter.mp hr2).1))
      · obtain ⟨r, hr, rfl⟩ := List.mem_map.mp hg
        exact ⟨r, pj.subset (List.mem_filter.mp (List.mem_of_mem_take hr)).1, rfl⟩
      · rcases kk with ⟨rfl, h⟩ | h | h | h
        · exact .inl ⟨j, hj, rfl, h⟩
        · exact .inr (.inl h)
        · exact .inr (.inr (.inl h))
        · exact .inr (.inr (.inr h))
      · rw [List.length_append, List.length_map]
        show ((fl1 js j).take k).length + 2 ≤ 1000
        omega
      · rcases kk with ⟨rfl, h⟩ | h | h | h
        · exact .inl ⟨j, hj, rfl⟩
        · exact .inr (.inl h)
        · exact .inr (.inr (.inl h))
        · exact .inr (.inr (.inr h))
    · rintro y r acc n' δ' R hR ⟨pre, rest, e1, rfl, e2, rfl, rfl⟩
      cases rest with
      | nil => cases e2
      | cons j' rest =>
        rw [List.map_cons, List.map_cons] at e2
        injection e2 with e3 e4
        subst e3 e4
        have fs : fl1 (pre ++ [j']) j = fl1 pre j ++ (if (!decide (j'.z = j.z)) = true then [j'] else []) := by
          unfold fl1
          rw [List.filter_append, List.filter_cons, List.filter_nil]
        have pl : (fl1 pre j).length ≤ 4 := by
          have := List.length_filter_le (fun r : JR => !decide (r.z = j.z)) pre
          have := congrArg List.length e1
          rw [List.length_append] at this
          unfold fl1
          omega
        refine ⟨_, rfl, _, rfl, _, _, rfl, rfl, _, rfl, dB (fun e => ⟨_, rfl, [_], rfl, (by show 1 ≤ sizeLine; omega), _, rfl, [_, _], rfl, (by show 2 ≤ sizeLine; omega), ?_, ?_⟩) fun e => ?_⟩
        · rw [List.length_map, List.length_map]
          omega
        · refine hR _ _ _ ⟨pre ++ [j'], rest, by rw [e1, List.append_assoc]; rfl, ?_, rfl, rfl, rfl⟩
          rw [fs, if_pos e, List.map_append, List.map_append]
          rfl
        · refine hR _ _ _ ⟨pre ++ [j'], rest, by rw [e1, List.append_assoc]; rfl, ?_, rfl, rfl, rfl⟩
          rw [fs, if_neg (by rw [e]; exact Bool.false_ne_true), List.append_nil]
end
end K59
/-! ## K60h -/
set_option Elab.async false
set_option linter.all false
set_option maxRecDepth 100000
set_option maxHeartbeats 4000000
/-! k59: _law_refused. -/
namespace K59
open PySem PySem.Spec PyProof.Rows L2 DL
abbrev sRef : Stmt := tp 51
/-- one step of a reading by trees -/
local macro_rules | `(tactic| walk_at "dl") => `(tactic| first
  | refine ⟨_, rfl, ?_⟩
  | refine ⟨[], rfl, Nat.zero_le _, ?_⟩
  | refine ⟨[_], rfl, (by show 1 ≤ sizeLine; omega), ?_⟩
  | refine ⟨[_, _], rfl, (by show 2 ≤ sizeLine; omega), ?_⟩
  | refine ⟨[_, _, _], rfl, (by show 3 ≤ sizeLine; omega), ?_⟩
  | refine ⟨[_, _, _, _], rfl, (by show 4 ≤ sizeLine; omega), ?_⟩
  | refine ⟨[_, _, _, _, _], rfl, (by show 5 ≤ sizeLine; omega), ?_⟩
  | refine ⟨[_, _, _, _, _, _, _], rfl, (by show 7 ≤ sizeLine; omega), ?_⟩
  | refine ⟨_, _, rfl, rfl, ?_⟩)
/-- the five clauses of _law_met -/
def cs5 (cJ cN cT cC cM : Addr) : List Xc := [⟨cJ, "BadJobs", "job", "jobs"⟩, ⟨cN, "NoJob", "job", "job"⟩, ⟨cT, "NoThing", "thing", "thing"⟩, ⟨cC, "BadComings", "job", "comings"⟩, ⟨cM, "BadNumber", "number", "number"⟩]
def eC (C : Addr) : Xc := ⟨C, "BadComings", "job", "comings"⟩
def eN (C : Addr) : Xc := ⟨C, "NoJob", "job", "job"⟩
def eM (C : Addr) : Xc := ⟨C, "BadNumber", "number", "number"⟩
theorem nx_to {E : ED} {n : Nat} {δ1 δ2 : List Sl} (e : δ1 = δ2) (h : E.nx n δ2) : E.nx n δ1 := by rw [e]; exact h
theorem distT {rs : List JR} (nd : (rs.map (·.z)).Nodup) {r : JR} (hr : r ∈ rs) : distD (tbOf rs) r.z = some r.q := by
  unfold distD
  rw [tb_val nd r hr]
  rfl
theorem mom1 {q i : Int} (h : 0 ≤ i) : Flat2 (.lst [.int i]) ∧ momR q (.lst [.int i]) = true := by
  refine ⟨flat_lst (by show 1 ≤ 1000; omega) (ty_cons rfl ty_nil), ?_⟩
  show ([Dt.int i].all goodI && gapsR q [i]) = true
  simp [gapsR, goodI, h]
theorem ko_of {rs : List JR} (l : rs.length ≤ 4) (nd : (rs.map (·.z)).Nodup) : KeysOk (tbOf rs) (rs.map (·.z)) := ⟨tb_keys rs, nd, by rw [List.length_map]; omega⟩
theorem bad_of {rs rs' : List JR} {es : List (Dt × Dt)} {key : Dt} (lr : LawR rs) (pm : rs'.Perm rs) (b : BadM rs es key) : BadC (tbOf rs') (rs'.map (·.z)) (.mix es) key := by
  have nd : (rs'.map (·.z)).Nodup := (pm.map _).nodup_iff.mpr lr.nz
  have zin : ∀ z ∈ rs'.map (·.z), z ∈ wordsL := fun z hz => by
    obtain ⟨r, hr, rfl⟩ := List.mem_map.mp hz
    exact lr.zw r (pm.subset hr)
  obtain ⟨good, p, rest, e, hg, hp, rfl⟩ := b.ex
  refine .inr ⟨es, good, p, rest, rfl, b.len, e, fun g hgm => ?_, ?_, rfl⟩
  · obtain ⟨r, hr, rfl⟩ := hg g hgm
    have hr' := pm.symm.subset hr
    obtain ⟨f, m⟩ := mom1 (q := r.q) (Int.le_refl 0)
    exact ⟨r.z, r.q, List.mem_map.mpr ⟨r, hr', rfl⟩, rfl, distT nd hr', f, m⟩
  · rcases hp with ⟨r, hr, e1, o⟩ | e1 | e1 | e1
    · have hr' := pm.symm.subset hr
      exact ⟨⟨"str", by rw [e1]; rfl⟩, .inr ⟨r.z, r.q, List.mem_map.mpr ⟨r, hr', rfl⟩, e1, distT nd hr', o.1, o.2⟩⟩
    · refine ⟨⟨"str", by rw [e1]; rfl⟩, .inl fun z hz e2 => worse_not.2.1 ?_⟩
      rw [e1] at e2
      injection e2 with e2
      rw [e2]
      exact zin z hz
    · exact ⟨⟨"int", by rw [e1]; rfl⟩, .inl fun z _ e2 => by rw [e1] at e2; cases e2⟩
    · exact ⟨⟨"NoneType", by rw [e1]; rfl⟩, .inl fun z _ e2 => by rw [e1] at e2; cases e2⟩
theorem good1 {rs' : List JR} (nd : (rs'.map (·.z)).Nodup) {j : JR} (hj : j ∈ rs') : GoodC (tbOf rs') (rs'.map (·.z)) [(.inr j.z, .lst [.int 3])] [j.z] := by
  refine ⟨rfl, by simp, by show 1 ≤ 60; omega, fun p hp => ?_⟩
  obtain rfl := List.mem_singleton.mp hp
  obtain ⟨f, m⟩ := mom1 (q := j.q) (show (0 : Int) ≤ 3 by decide)
  exact ⟨j.z, j.q, List.mem_map.mpr ⟨j, hj, rfl⟩, rfl, distT nd hj, f, m⟩
theorem good0 {tb : List (Key × Dt)} {ks : List Str} : GoodC tb ks [] [] := ⟨rfl, List.nodup_nil, Nat.zero_le _, fun p hp => by cases hp⟩
theorem many1 {z : Str} {d : Dt} : manyC [(.inr z, .lst [d])] z = 1 := by
  unfold manyC
  rw [valD, if_pos rfl]
  rfl
theorem tell_one {m : Nat} {ds : List Dt} (h : ∀ x ∈ ds, Tell m x) (l : ds.length ≤ 1000) : Tell (m + 1) (.lst ds) := ⟨l, h⟩
theorem tell2 {m : Nat} {a b : Dt} (h1 : Tell m a) (h2 : Tell m b) : Tell (m + 1) (.tup [a, b]) := ⟨by show 2 ≤ 1000; omega, fun x hx => by
  simp only [List.mem_cons, List.not_mem_nil, or_false] at hx
  rcases hx with rfl | rfl
  · exact h1
  · exact h2⟩
variable [Wd]
section
variable {ι : Type} {X : ι → Cx} {scope : Scope} {k : Nat}
theorem lam_callX {E : XK} {Xd : XD} {j : Nat} {x : Str} {C : Ct} {e : Expr} {es : List Expr} {Ts : TAd} {p pos : Pos} (c : ∀ c, DL.Cl (X c).prog (X c).w (X c).K (X c).mg (X c).base (L2.CX (X c).prog (X c).w) j x (spC C)) (hj : j ≤ k)
    (ha : DA (fun i : (c : ι) × LIx (X c) scope k => i.2.cx E) ⟨E, Xd⟩ (e :: es) Ts) (hg : ∀ i : (c : ι) × LIx (X c) scope k, Gl (i.2.cx E) x := by intro _; rfl) (hdb : (x == ("__debug__" : Str)) = false := by decide) (he : ∀ i : (c : ι) × LIx (X c) scope k, starEach (e :: es) (i.2.cx E).env = (false, eval e (i.2.cx E).env) :: starEach es (i.2.cx E).env := by intro _; rfl) (hpl : ∀ i : (c : ι) × LIx (X c) scope k, (backTo pos (starEach es (i.2.cx E).env)).any (·.1) = false := by intro _; rfl) :
    DE (fun i : (c : ι) × LIx (X c) scope k => i.2.cx E) ⟨E, Xd⟩ (.Call (.Name x p) (e :: es) [] pos) (fun n δ Q => Ts n δ fun rs n' δ' => C rs n' (fun r n'' => Q r n'' δ') Xd) := de_callX (fun i _ h => DL.pe_cl (c i.1) i.2.room hj (lamPass i.2) h (hg i) (hdb := hdb) (he := he i) (hpl := hpl i)) ha
end
def cRef (C : Addr) : Ct := fun as n Q _ => ∃ rs rs' ce, as = [.pool, .ro (jobsT C (tbOf rs') (csOf rs') ce), .ro (.dic (tbOf rs))] ∧ LawR rs ∧ rs'.Perm rs ∧ n + 60 ≤ 10000 ∧ ∀ n', n' ≤ n + 60 → Q (.ro (.bl true)) n'
section
variable {P : Program} {K : PySem.W.Frag} {mg : Str → Option Value} {base : Heap} {f g cd tb : Addr} {fd gd : FuncData} {C cJ cN cT cC cM : Addr}
theorem scRef : FnScope ["pool", "made", "jobs", "bad", "key", "job", "odd", "good", "number", "found", "thing", "due"] ["pool", "made", "jobs"] (defScope sRef) := ⟨rfl, rfl, rfl, by decide +kernel, rfl, by decide +kernel, by decide +kernel⟩
theorem ok_refused (F : FunC K "_law_refused" "_law_refused" sRef f fd cd) (tB : LamX.TabB base mg cd tb) (hT : (tb, ("_law_refused.<locals>.<lambda>" : Str)) ∈ Wd.T) (mD : MetD P Wd.w K mg base (tp 48) (cs5 cJ cN cT cC cM))
    (cMM : DL.Cl P Wd.w K mg base CX0 4 "_law_bad_comings" (spC cBadM)) (cO : DL.Cl P Wd.w K mg base CX0 2 "_law_one" (spC cOne)) (cD : DL.Cl P Wd.w K mg base (L2.CX P Wd.w) 5 "done" (spC (cBadC C cC))) (cA : DL.Cl P Wd.w K mg base (L2.CX P Wd.w) 5 "answers" (spC (cBadC C cC)))
    (cB : DL.Cl P Wd.w K mg base (L2.CX P Wd.w) 5 "breakdown" (spC (cBrk C cN cC cM))) (cS : DL.Cl P Wd.w K mg base CX0 5 "_law_same" (spC (cSame 4))) (g_sorted : mg "sorted" = none) :
    FnOk P Wd.w K mg base CX0 8 f fd ["pool", "made", "jobs"] (spC (cRef C)) := by
  have l63 := sizeLine_eq
  refine okCc F scRef (fun as n Qd Xd h => ?_) (fun A outer s H E Xd hr => ?_)
  · obtain ⟨rs, rs', ce, rfl, _⟩ := h
    rfl
  · refine ⟨_, (dss_cons (ds_unp (vs := [3, 4]) (fun _ _ _ h1 h2 => ps_asg h1 h2) (DE.r (de_call (fun _ _ h => DL.pe_cl cMM hr (by omega) pass0 h) (DA.pool (de_pool fun _ => pv 0) (DA.cons (dr_var fun _ => pv 2) DA.nil)))) (dg_tup (K := K) (m := 2) (dgs_cons (dg_name (i := 3) (fun _ => pg_name (i := 3) scRef.nd rfl (Or.inr rfl)) (by decide)) (dgs_cons (dg_name (i := 4) (fun _ => pg_name (i := 4) scRef.nd rfl (Or.inl rfl)) (by decide)) dgs_nil)) (fun _ _ h => pg_tup (by rfl) h))) (dss_cons (ds_unp (vs := [5, 6]) (fun _ _ _ h1 h2 => ps_asg h1 h2) (dr_tup (DA.cons (DE.r (de_call (fun _ _ h => DL.pe_cl cO hr (by omega) pass0 h) (DA.pool (de_pool fun _ => pv 0) (DA.cons (DE.r (de_sortD (fun _ _ h => pe_callB (call_sortedD rfl) (by rfl) g_sorted (by decide +kernel) (pa_cons h pa_nil)) (db_var fun _ => pv 2))) DA.nil)))) (DA.cons (DE.r (de_call (fun _ _ h => DL.pe_cl cO hr (by omega) pass0 h) (DA.pool (de_pool fun _ => pv 0) (DA.cons (DE.r (de_lst (DA.cons (dr_c (fun _ => pe_non) fun _ _ => .non) (DA.cons (dr_c (fun _ => pe_int) fun _ _ => .int 5) (DA.cons (dr_c (fun _ => pe_str) fun _ _ => .str "") (DA.cons (dr_c (fun _ => pe_str) fun _ _ => .str "nobody") (DA.cons (DE.r (de_lst DA.nil)) (DA.cons (DE.z de_dic) (DA.cons (dr_c (fun _ => pe_bl) fun _ _ => .bl true) DA.nil))))))))) DA.nil)))) DA.nil))) (dg_tup (K := K) (m := 2) (dgs_cons (dg_name (i := 5) (fun _ => pg_name (i := 5) scRef.nd rfl (Or.inr rfl)) (by decide)) (dgs_cons (dg_name (i := 6) (fun _ => pg_name (i := 6) scRef.nd rfl (Or.inr rfl)) (by decide)) dgs_nil)) (fun _ _ h => pg_tup (by rfl) h))) (dss_cons (ds_unp (vs := [7, 8]) (fun _ _ _ h1 h2 => ps_asg h1 h2) (dr_tup (DA.cons (DE.z (de_disp1 (dr_var fun _ => pv 5) (DE.r (de_lst (DA.cons (dr_c (fun _ => pe_int) fun _ _ => .int 3) DA.nil))))) (DA.cons (DE.r (de_call (fun _ _ h => DL.pe_cl cO hr (by omega) pass0 h) (DA.pool (de_pool fun _ => pv 0) (DA.cons (DE.r (de_lst (DA.cons (dr_c (fun _ => pe_non) fun _ _ => .non) (DA.cons (dr_op (fun _ _ _ h1 h2 => pe_op op_sub h1 h2) (dop_i rfl (gd := fun i j => .int (i - j)) fun _ _ => sc_int) (dr_c (fun _ => pe_int) fun _ _ => .int 0) (DR.b (dr_c (fun _ => pe_int) fun _ _ => .int 1))) (DA.cons (dr_c (fun _ => pe_int) fun _ _ => .int 1) (DA.cons (dr_c (fun _ => pe_bl) fun _ _ => .bl true) (DA.cons (dr_c (fun _ => pe_str) fun _ _ => .str "0") (DA.cons (dr_tup (DA.cons (dr_c (fun _ => pe_int) fun _ _ => .int 0) DA.nil)) (DA.cons (DE.r (de_lst DA.nil)) DA.nil))))))))) DA.nil)))) DA.nil))) (dg_tup (K := K) (m := 2) (dgs_cons (dg_name (i := 7) (fun _ => pg_name (i := 7) scRef.nd rfl (Or.inr rfl)) (by decide)) (dgs_cons (dg_name (i := 8) (fun _ => pg_name (i := 8) scRef.nd rfl (Or.inr rfl)) (by decide)) dgs_nil)) (fun _ _ h => pg_tup (by rfl) h))) (dss_cons (ds_set (i := 9) (fun _ _ h => ps_set (i := 9) scRef.nd rfl (Or.inl rfl) h) (de_lst (DA.cons (dr_met (k := 5) (fun _ => mD) (fun _ => tB) (fun _ => rfl) (fun _ => rfl) hT (fun _ => hr) (fun _ => LamX.lamS_by (sc := defScope sRef) (by decide +kernel)) (fun _ => rfl) (fun _ _ _ _ _ => rfl) (fun _ => rfl) fun E Xd => (lam_callX (fun _ => cD) (by omega) (DA.cons (dr_var fun _ => pv 1) (DA.cons (dr_var fun _ => pv 3) DA.nil)))) DA.nil))) (dss_cons (ds_append (K := K) (i := 9) (fun _ _ h => ps_expr (pe_bm PySem.F.plainAttrs_list PySem.F.slot_list_append PySem.F.type_list_append mt_append (pv 9) (pa_cons h pa_nil))) (dr_met (k := 5) (fun _ => mD) (fun _ => tB) (fun _ => rfl) (fun _ => rfl) hT (fun _ => hr) (fun _ => LamX.lamS_by (sc := defScope sRef) (by decide +kernel)) (fun _ => rfl) (fun _ _ _ _ _ => rfl) (fun _ => rfl) fun E Xd => (lam_callX (fun _ => cA) (by omega) (DA.cons (dr_var fun _ => pv 1) (DA.cons (dr_var fun _ => pv 3) DA.nil))))) (dss_cons (ds_append (K := K) (i := 9) (fun _ _ h => ps_expr (pe_bm PySem.F.plainAttrs_list PySem.F.slot_list_append PySem.F.type_list_append mt_append (pv 9) (pa_cons h pa_nil))) (dr_met (k := 5) (fun _ => mD) (fun _ => tB) (fun _ => rfl) (fun _ => rfl) hT (fun _ => hr) (fun _ => LamX.lamS_by (sc := defScope sRef) (by decide +kernel)) (fun _ => rfl) (fun _ _ _ _ _ => rfl) (fun _ => rfl) fun E Xd => (lam_callX (fun _ => cB) (by omega) (DA.cons (dr_var fun _ => pv 1) (DA.cons (dr_var fun _ => pv 3) (DA.cons (dr_var fun _ => pv 5) (DA.cons (dr_c (fun _ => pe_non) fun _ _ => .non) DA.nil))))))) (dss_cons (ds_append (K := K) (i := 9) (fun _ _ h => ps_expr (pe_bm PySem.F.plainAttrs_list PySem.F.slot_list_append PySem.F.type_list_append mt_append (pv 9) (pa_cons h pa_nil))) (dr_met (k := 5) (fun _ => mD) (fun _ => tB) (fun _ => rfl) (fun _ => rfl) hT (fun _ => hr) (fun _ => LamX.lamS_by (sc := defScope sRef) (by decide +kernel)) (fun _ => rfl) (fun _ _ _ _ _ => rfl) (fun _ => rfl) fun E Xd => (lam_callX (fun _ => cB) (by omega) (DA.cons (dr_var fun _ => pv 1) (DA.cons (dr_var fun _ => pv 3) (DA.cons (dr_var fun _ => pv 6) (DA.cons (dr_c (fun _ => pe_non) fun _ _ => .non) DA.nil))))))) (dss_cons (ds_append (K := K) (i := 9) (fun _ _ h => ps_expr (pe_bm PySem.F.plainAttrs_list PySem.F.slot_list_append PySem.F.type_list_append mt_append (pv 9) (pa_cons h pa_nil))) (dr_met (k := 5) (fun _ => mD) (fun _ => tB) (fun _ => rfl) (fun _ => rfl) hT (fun _ => hr) (fun _ => LamX.lamS_by (sc := defScope sRef) (by decide +kernel)) (fun _ => rfl) (fun _ _ _ _ _ => rfl) (fun _ => rfl) fun E Xd => (lam_callX (fun _ => cB) (by omega) (DA.cons (dr_var fun _ => pv 1) (DA.cons (dr_var fun _ => pv 7) (DA.cons (dr_var fun _ => pv 5) (DA.cons (dr_var fun _ => pv 8) DA.nil))))))) (dss_cons (ds_append (K := K) (i := 9) (fun _ _ h => ps_expr (pe_bm PySem.F.plainAttrs_list PySem.F.slot_list_append PySem.F.type_list_append mt_append (pv 9) (pa_cons h pa_nil))) (dr_met (k := 5) (fun _ => mD) (fun _ => tB) (fun _ => rfl) (fun _ => rfl) hT (fun _ => hr) (fun _ => LamX.lamS_by (sc := defScope sRef) (by decide +kernel)) (fun _ => rfl) (fun _ _ _ _ _ => rfl) (fun _ => rfl) fun E Xd => (lam_callX (fun _ => cB) (by omega) (DA.cons (dr_var fun _ => pv 1) (DA.cons (DE.z de_dic) (DA.cons (dr_var fun _ => pv 5) (DA.cons (dr_c (fun _ => pe_int) fun _ _ => .int 0) DA.nil))))))) (dss_cons (ds_set (i := 10) (fun _ _ h => ps_set (i := 10) scRef.nd rfl (Or.inr rfl) h) (de_call (fun _ _ h => DL.pe_cl cO hr (by omega) pass0 h) (DA.pool (de_pool fun _ => pv 0) (DA.cons (DE.r (de_lst (DA.cons (dr_c (fun _ => pe_non) fun _ _ => .non) (DA.cons (dr_c (fun _ => pe_int) fun _ _ => .int 5) (DA.cons (DE.r (de_lst DA.nil)) (DA.cons (dr_c (fun _ => pe_str) fun _ _ => .str "ab") (DA.cons (dr_c (fun _ => pe_bl) fun _ _ => .bl true) DA.nil))))))) DA.nil)))) (dss_cons (ds_append (K := K) (i := 9) (fun _ _ h => ps_expr (pe_bm PySem.F.plainAttrs_list PySem.F.slot_list_append PySem.F.type_list_append mt_append (pv 9) (pa_cons h pa_nil))) (dr_met (k := 5) (fun _ => mD) (fun _ => tB) (fun _ => rfl) (fun _ => rfl) hT (fun _ => hr) (fun _ => LamX.lamS_by (sc := defScope sRef) (by decide +kernel)) (fun _ => rfl) (fun _ _ _ _ _ => rfl) (fun _ => rfl) fun E Xd => (lam_callX (fun _ => cD) (by omega) (DA.cons (dr_var fun _ => pv 1) (DA.cons (dr_var fun _ => pv 10) DA.nil))))) (dss_cons (ds_set (i := 11) (fun _ _ h => ps_set (i := 11) scRef.nd rfl (Or.inl rfl) h) (de_op (fun _ _ _ h1 h2 => pe_op op_cat h1 h2) dop_cat (DE.r (de_op (fun _ _ _ h1 h2 => pe_op op_rep h1 h2) dop_rep (DE.r (de_lst (DA.cons (dr_tup (DA.cons (dr_c (fun _ => pe_str) fun _ _ => .str "comings") (DA.cons (dr_var fun _ => pv 4) DA.nil))) DA.nil))) (dr_c (fun _ => pe_int) fun _ _ => .int 3))) (DE.r (de_lst (DA.cons (dr_tup (DA.cons (dr_c (fun _ => pe_str) fun _ _ => .str "job") (DA.cons (dr_var fun _ => pv 6) DA.nil))) (DA.cons (dr_tup (DA.cons (dr_c (fun _ => pe_str) fun _ _ => .str "number") (DA.cons (dr_var fun _ => pv 8) DA.nil))) (DA.cons (dr_tup (DA.cons (dr_c (fun _ => pe_str) fun _ _ => .str "number") (DA.cons (dr_c (fun _ => pe_int) fun _ _ => .int 0) DA.nil))) (DA.cons (dr_tup (DA.cons (dr_c (fun _ => pe_str) fun _ _ => .str "comings") (DA.cons (dr_c (fun _ => pe_non) fun _ _ => .non) DA.nil))) DA.nil)))))))) (dss_one (ds_ret (de_call (fun _ _ h => DL.pe_cl cS hr (by omega) pass0 h) (DA.cons (dr_rel fun _ => pv 9) (DA.cons (dr_rel fun _ => pv 11) DA.nil))))))))))))))))), fun as n Qd h => ?_⟩
    obtain ⟨rs, rs', ce, rfl, lr, pm', hn, q⟩ := h
    have l1 := lr.l1
    have l4 := lr.l4
    refine ⟨rfl, rfl, _, rfl, rs, rfl, lr, by omega, fun es key n1 bm hk le1 => ?_⟩
    repeat walk_at "dl"
    refine ⟨rfl, _, _, rfl, _, _, rfl, rfl, rfl, rfl, .dic (tbOf rs), .ro _, rfl, rfl, tbOf rs, rs.map (·.z), rfl, tb_keys rs, (by rw [List.length_map]; omega), fun ys pm so => ⟨_, rfl, ys.map .str, rfl, by omega, ?_, ?_, fun w hw => ?_⟩⟩
    · rw [List.length_map, pm.length_eq, List.length_map]
      omega
    · rw [List.length_map, pm.length_eq, List.length_map]
      omega
    obtain ⟨z, hz, rfl⟩ := List.mem_map.mp hw
    obtain ⟨j, hj, rfl⟩ := List.mem_map.mp (pm.subset hz)
    clear hw hz
    refine ⟨_, rfl, rfl, rfl, ?_⟩
    repeat walk_at "dl"
    refine ⟨by omega, (by show 0 < 7; omega), (by show 7 < 2 ^ 30; omega), fun odd ho => ?_⟩
    repeat walk_at "dl"
    refine ⟨rfl, _, _, rfl, _, _, rfl, rfl, ?_⟩
    repeat walk_at "dl"
    refine ⟨rfl, rfl, _, _, rfl, rfl, ?_⟩
    repeat walk_at "dl"
    refine ⟨by omega, (by show 0 < 7; omega), (by show 7 < 2 ^ 30; omega), fun number hnu => ?_⟩
    repeat walk_at "dl"
    refine ⟨rfl, _, _, rfl, _, _, rfl, rfl, ?_⟩
    have nd : (rs'.map (·.z)).Nodup := (pm'.map _).nodup_iff.mpr lr.nz
    have l4' : rs'.length ≤ 4 := by
      have := pm'.length_eq
      omega
    have ko := ko_of l4' nd
    have bc := bad_of lr pm' bm
    have hj' := pm'.symm.subset hj
    have jin : j.z ∈ rs'.map (·.z) := List.mem_map.mpr ⟨j, hj', rfl⟩
    have zin : ∀ z ∈ rs'.map (·.z), z ∈ wordsL := fun z hz => by
      obtain ⟨r, hr, rfl⟩ := List.mem_map.mp hz
      exact lr.zw r (pm'.subset hr)
    obtain ⟨to, eto, no, tlo⟩ : ∃ ty, tyD odd = some ty ∧ (∀ z ∈ rs'.map (·.z), odd ≠ .str z) ∧ Tell 2 odd := by
      have nb : ("nobody" : Str) ∉ wordsL ∧ ("" : Str) ∉ wordsL := by decide +kernel
      simp only [List.mem_cons, List.not_mem_nil, or_false] at ho
      rcases ho with rfl | rfl | rfl | rfl | rfl | rfl | rfl
      · exact ⟨_, rfl, fun z _ e => Dt.noConfusion e, trivial⟩
      · exact ⟨_, rfl, fun z _ e => Dt.noConfusion e, trivial⟩
      · exact ⟨_, rfl, fun z h e => nb.2 (by injection e with e; rw [e]; exact zin z h), by show PyData.strOk _ = true; decide +kernel⟩
      · exact ⟨_, rfl, fun z h e => nb.1 (by injection e with e; rw [e]; exact zin z h), by show PyData.strOk _ = true; decide +kernel⟩
      · exact ⟨_, rfl, fun z _ e => Dt.noConfusion e, Nat.zero_le _, fun x h => by cases h⟩
      · exact ⟨_, rfl, fun z _ e => Dt.noConfusion e, rfl⟩
      · exact ⟨_, rfl, fun z _ e => Dt.noConfusion e, trivial⟩
    obtain ⟨tn, etn, nn, tln⟩ : ∃ ty, tyD number = some ty ∧ (∀ i : Int, number = .int i → i < 0 ∨ ((1 : Nat) : Int) ≤ i) ∧ Tell 2 number := by
      simp only [List.mem_cons, List.not_mem_nil, or_false] at hnu
      rcases hnu with rfl | rfl | rfl | rfl | rfl | rfl | rfl
      · exact ⟨_, rfl, (fun i e => by cases e), trivial⟩
      · exact ⟨_, rfl, (fun i e => by cases e; exact .inl (by decide)), trivial⟩
      · exact ⟨_, rfl, (fun i e => by cases e; exact .inr (by decide)), trivial⟩
      · exact ⟨_, rfl, (fun i e => by cases e), trivial⟩
      · exact ⟨_, rfl, (fun i e => by cases e), by show PyData.strOk _ = true; decide +kernel⟩
      · exact ⟨_, rfl, (fun i e => by cases e), by show 1 ≤ 1000; omega, fun x h => by obtain rfl := List.mem_singleton.mp h; trivial⟩
      · exact ⟨_, rfl, (fun i e => by cases e), Nat.zero_le _, fun x h => by cases h⟩
    have tlk : Tell 2 key := by
      rcases hk with ⟨r, hr, rfl⟩ | rfl | rfl | rfl
      · exact word_ok (words_all _ (lr.zw r hr))
      · show PyData.strOk _ = true
        decide +kernel
      · trivial
      · trivial
    clear ho hnu hk bm pm so
    have mC : eC cC ∈ cs5 cJ cN cT cC cM := by simp [cs5, eC]
    have mN : eN cN ∈ cs5 cJ cN cT cC cM := by simp [cs5, eN]
    have mM : eM cM ∈ cs5 cJ cN cT cC cM := by simp [cs5, eM]
    -- done(made, bad)
    show ED.nx _ _ _
    refine nx_to (δ2 := [.pool, .ro (jobsT C (tbOf rs') (csOf rs') ce), .ro (.dic (tbOf rs)), .ro (.mix es), .ro key, .ro (.str j.z), .ro odd, .ro (.dic [(.inr j.z, .lst [.int 3])]), .ro number, .no, .no, .no]) (by kernel_rfl) ?_
    refine ⟨_, rfl, _, rfl, ⟨tbOf rs', csOf rs', ce, _, .mix es, key, rfl, ko, bc, eC cC, mC, rfl, rfl, ?_⟩⟩
    repeat walk_at "dl"
    show ED.nx _ _ _
    refine nx_to (δ2 := [.pool, .ro (jobsT C (tbOf rs') (csOf rs') ce), .ro (.dic (tbOf rs)), .ro (.mix es), .ro key, .ro (.str j.z), .ro odd, .ro (.dic [(.inr j.z, .lst [.int 3])]), .ro number, .own (.lst [.tup [.str "comings", key]]), .no, .no]) (by kernel_rfl) ?_
    refine ⟨⟨_, rfl⟩, _, rfl, _, rfl, ⟨tbOf rs', csOf rs', ce, _, .mix es, key, rfl, ko, bc, eC cC, mC, rfl, rfl, _, rfl, (by show 1 < sizeLine; omega), ?_⟩⟩
    refine nx_to (δ2 := [.pool, .ro (jobsT C (tbOf rs') (csOf rs') ce), .ro (.dic (tbOf rs)), .ro (.mix es), .ro key, .ro (.str j.z), .ro odd, .ro (.dic [(.inr j.z, .lst [.int 3])]), .ro number, .own (.lst [.tup [.str "comings", key], .tup [.str "comings", key]]), .no, .no]) (by kernel_rfl) ?_
    refine ⟨⟨_, rfl⟩, _, rfl, _, rfl, _, rfl, ⟨tbOf rs', csOf rs', ce, _, .mix es, .str j.z, .non, "str", "NoneType", rfl, ko, rfl, rfl, .inr (.inl ⟨⟨_, jin, rfl⟩, key, bc, eC cC, mC, rfl, rfl, _, rfl, (by show 2 < sizeLine; omega), ?_⟩)⟩⟩
    refine nx_to (δ2 := [.pool, .ro (jobsT C (tbOf rs') (csOf rs') ce), .ro (.dic (tbOf rs)), .ro (.mix es), .ro key, .ro (.str j.z), .ro odd, .ro (.dic [(.inr j.z, .lst [.int 3])]), .ro number, .own (.lst [.tup [.str "comings", key], .tup [.str "comings", key], .tup [.str "comings", key]]), .no, .no]) (by kernel_rfl) ?_
    refine ⟨⟨_, rfl⟩, _, rfl, _, rfl, _, rfl, ⟨tbOf rs', csOf rs', ce, _, .mix es, odd, .non, to, "NoneType", rfl, ko, eto, rfl, .inl ⟨no, eN cN, mN, rfl, rfl, _, rfl, (by show 3 < sizeLine; omega), ?_⟩⟩⟩
    refine nx_to (δ2 := [.pool, .ro (jobsT C (tbOf rs') (csOf rs') ce), .ro (.dic (tbOf rs)), .ro (.mix es), .ro key, .ro (.str j.z), .ro odd, .ro (.dic [(.inr j.z, .lst [.int 3])]), .ro number, .own (.lst [.tup [.str "comings", key], .tup [.str "comings", key], .tup [.str "comings", key], .tup [.str "job", odd]]), .no, .no]) (by kernel_rfl) ?_
    refine ⟨⟨_, rfl⟩, _, rfl, _, rfl, _, rfl, _, rfl, ⟨tbOf rs', csOf rs', ce, _, _, .str j.z, number, "str", tn, rfl, ko, rfl, etn, .inr (.inr ⟨j.z, [(.inr j.z, .lst [.int 3])], [j.z], jin, rfl, rfl, good1 nd hj', (fun i e => by rw [many1]; exact nn i e), eM cM, mM, rfl, rfl, _, rfl, (by show 4 < sizeLine; omega), ?_⟩)⟩⟩
    refine nx_to (δ2 := [.pool, .ro (jobsT C (tbOf rs') (csOf rs') ce), .ro (.dic (tbOf rs)), .ro (.mix es), .ro key, .ro (.str j.z), .ro odd, .ro (.dic [(.inr j.z, .lst [.int 3])]), .ro number, .own (.lst [.tup [.str "comings", key], .tup [.str "comings", key], .tup [.str "comings", key], .tup [.str "job", odd], .tup [.str "number", number]]), .no, .no]) (by kernel_rfl) ?_
    refine ⟨⟨_, rfl⟩, _, rfl, _, rfl, _, rfl, ⟨tbOf rs', csOf rs', ce, _, _, .str j.z, .int 0, "str", "int", rfl, ko, rfl, rfl, .inr (.inr ⟨j.z, [], [], jin, rfl, rfl, good0, (fun i e => by cases e; exact .inr (Int.le_refl 0)), eM cM, mM, rfl, rfl, _, rfl, (by show 5 < sizeLine; omega), ?_⟩)⟩⟩
    refine nx_to (δ2 := [.pool, .ro (jobsT C (tbOf rs') (csOf rs') ce), .ro (.dic (tbOf rs)), .ro (.mix es), .ro key, .ro (.str j.z), .ro odd, .ro (.dic [(.inr j.z, .lst [.int 3])]), .ro number, .own (.lst [.tup [.str "comings", key], .tup [.str "comings", key], .tup [.str "comings", key], .tup [.str "job", odd], .tup [.str "number", number], .tup [.str "number", .int 0]]), .no, .no]) (by kernel_rfl) ?_
    refine ⟨rfl, rfl, ?_⟩
    repeat walk_at "dl"
    refine ⟨by omega, (by show 0 < 5; omega), (by show 5 < 2 ^ 30; omega), fun thing ht => ?_⟩
    have bt : BadC (tbOf rs') (rs'.map (·.z)) thing .non := by
      refine .inl ?_
      simp only [List.mem_cons, List.not_mem_nil, or_false] at ht
      rcases ht with rfl | rfl | rfl | rfl | rfl
      · exact ⟨_, rfl, by decide, rfl⟩
      · exact ⟨_, rfl, by decide, rfl⟩
      · exact ⟨_, rfl, by decide, rfl⟩
      · exact ⟨_, rfl, by decide, rfl⟩
      · exact ⟨_, rfl, by decide, rfl⟩
    show ED.nx _ _ _
    refine nx_to (δ2 := [.pool, .ro (jobsT C (tbOf rs') (csOf rs') ce), .ro (.dic (tbOf rs)), .ro (.mix es), .ro key, .ro (.str j.z), .ro odd, .ro (.dic [(.inr j.z, .lst [.int 3])]), .ro number, .own (.lst [.tup [.str "comings", key], .tup [.str "comings", key], .tup [.str "comings", key], .tup [.str "job", odd], .tup [.str "number", number], .tup [.str "number", .int 0]]), .ro thing, .no]) (by kernel_rfl) ?_
    refine ⟨⟨_, rfl⟩, _, rfl, _, rfl, ⟨tbOf rs', csOf rs', ce, _, thing, .non, rfl, ko, bt, eC cC, mC, rfl, rfl, _, rfl, (by show 6 < sizeLine; omega), ?_⟩⟩
    refine nx_to (δ2 := [.pool, .ro (jobsT C (tbOf rs') (csOf rs') ce), .ro (.dic (tbOf rs)), .ro (.mix es), .ro key, .ro (.str j.z), .ro odd, .ro (.dic [(.inr j.z, .lst [.int 3])]), .ro number, .own (.lst [.tup [.str "comings", key], .tup [.str "comings", key], .tup [.str "comings", key], .tup [.str "job", odd], .tup [.str "number", number], .tup [.str "number", .int 0], .tup [.str "comings", .non]]), .ro thing, .no]) (by kernel_rfl) ?_
    refine ⟨_, rfl, [_, _], rfl, (by show 2 ≤ sizeLine; omega), [_], rfl, (by show 1 ≤ sizeLine; omega), ?_⟩
    refine ⟨_, rfl, _, _, rfl, rfl, by decide, by decide, (by show 3 ≤ sizeLine; omega), _, rfl, _, rfl, [_, _], rfl, (by show 2 ≤ sizeLine; omega), _, rfl, [_, _], rfl, (by show 2 ≤ sizeLine; omega), [_, _], rfl, (by show 2 ≤ sizeLine; omega), [_, _], rfl, (by show 2 ≤ sizeLine; omega), [_, _, _, _], rfl, (by show 4 ≤ sizeLine; omega), ?_⟩
    refine ⟨_, rfl, _, _, rfl, rfl, (by show 7 ≤ sizeLine; omega), ?_⟩
    refine ⟨_, rfl, _, rfl, (.lst [.tup [.str "comings", key], .tup [.str "comings", key], .tup [.str "comings", key], .tup [.str "job", odd], .tup [.str "number", number], .tup [.str "number", .int 0], .tup [.str "comings", .non]]), by kernel_rfl, ?_, q _ (by omega)⟩
    refine tell_one (fun x hx => ?_) (by show 7 ≤ 1000; omega)
    have sj : Tell 2 (.str "comings") ∧ Tell 2 (.str "job") ∧ Tell 2 (.str "number") := ⟨by show PyData.strOk _ = true; decide +kernel, by show PyData.strOk _ = true; decide +kernel, by show PyData.strOk _ = true; decide +kernel⟩
    simp only [List.mem_cons, List.not_mem_nil, or_false] at hx
    rcases hx with rfl | rfl | rfl | rfl | rfl | rfl | rfl
    · exact tell2 sj.1 tlk
    · exact tell2 sj.1 tlk
    · exact tell2 sj.1 tlk
    · exact tell2 sj.2.1 tlo
    · exact tell2 sj.2.2 tln
    · exact tell2 sj.2.2 trivial
    · exact tell2 sj.1 trivial
end
end K59
/-! ## K60i -/
set_option Elab.async false
set_option linter.all false
set_option maxRecDepth 100000
set_option maxHeartbeats 4000000
/-! k59: what the law's own text leans on. -/
namespace K59
open PySem PySem.Spec PyProof.Rows L2 DL
/-! sorted words -/
theorem rising_le {p x : Str} {r : List Str} (h : risingS p (x :: r) = true) : p.cps.toList ≤ x.cps.toList ∧ risingS x r = true := by
  rw [risingS, Bool.and_eq_true, Bool.not_eq_true', ltCps_eq] at h
  exact ⟨List.not_lt.mp (of_decide_eq_false h.1), h.2⟩
theorem rising_pair : ∀ {r : List Str} {p : Str}, risingS p r = true → (p :: r).Pairwise (fun a b => a.cps.toList ≤ b.cps.toList)
  | [], p, _ => by simp
  | x :: r, p, h => by
    obtain ⟨h1, h2⟩ := rising_le h
    have ih := rising_pair h2
    rw [List.pairwise_cons]
    refine ⟨fun y hy => ?_, ih⟩
    rcases List.mem_cons.mp hy with rfl | hy
    · exact h1
    · exact List.le_trans h1 (List.rel_of_pairwise_cons ih hy)
theorem sorted_pair {l : List Str} (h : sortedS l = true) : l.Pairwise (fun a b => a.cps.toList ≤ b.cps.toList) := by
  cases l with
  | nil => exact .nil
  | cons p r => exact rising_pair h
theorem str_ext {a b : Str} (h : a.cps.toList = b.cps.toList) : a = b := by
  cases a with
  | mk x =>
    cases b with
    | mk y =>
      have : x = y := Array.toList_inj.mp h
      rw [this]
theorem sorted_eq {xs ys : List Str} (p : xs.Perm ys) (hx : sortedS xs = true) (hy : sortedS ys = true) : xs = ys :=
  List.Perm.eq_of_pairwise (le := fun a b : Str => a.cps.toList ≤ b.cps.toList) (fun a b _ _ h1 h2 => str_ext (List.le_antisymm h1 h2)) (sorted_pair hx) (sorted_pair hy) p
theorem z_inj : ∀ {rs : List JR}, (rs.map (·.z)).Nodup → ∀ a ∈ rs, ∀ b ∈ rs, a.z = b.z → a = b
  | r :: rs, nd, a, ha, b, hb, e => by
    rw [List.map_cons, List.nodup_cons] at nd
    rcases List.mem_cons.mp ha with ea | ha <;> rcases List.mem_cons.mp hb with eb | hb
    · rw [ea, eb]
    · exact absurd (List.mem_map.mpr ⟨b, hb, (by rw [← e, ea])⟩) nd.1
    · exact absurd (List.mem_map.mpr ⟨a, ha, (by rw [e, eb])⟩) nd.1
    · exact z_inj nd.2 a ha b hb e
theorem rows_same {rs : List JR} (nd : (rs.map (·.z)).Nodup) : ∀ {as bs : List JR}, (∀ r ∈ as, r ∈ rs) → (∀ r ∈ bs, r ∈ rs) → as.map (·.z) = bs.map (·.z) → as = bs
  | [], [], _, _, _ => rfl
  | a :: as, b :: bs, h1, h2, e => by
    rw [List.map_cons, List.map_cons] at e
    injection e with e1 e2
    rw [z_inj nd a (h1 a List.mem_cons_self) b (h2 b List.mem_cons_self) e1, rows_same nd (fun r h => h1 r (List.mem_cons_of_mem _ h)) (fun r h => h2 r (List.mem_cons_of_mem _ h)) e2]
  | [], _ :: _, _, _, e => by cases e
  | _ :: _, [], _, _, e => by cases e
/-! how many units -/
theorem units_many : ∀ (m : Nat) (ts : List Str) (ps : List Part), Wf m ts ps → ∀ (qs : List Part), (∀ p ∈ qs, p ∈ ps) → ∀ (ar : List Dt) (i : Nat), ((unitsD qs ar i).length : Int) = countD qs
  | 0, _, _, h, _, _, _, _ => h.elim
  | m + 1, ts, ps, wf, [], _, ar, i => by
    rw [unitsD, countD]
    rfl
  | m + 1, ts, ps, wf, p :: r, sub, ar, i => by
    have ih := units_many (m + 1) ts ps wf r (fun q hq => sub q (List.mem_cons_of_mem _ hq)) ar (i + 1)
    have hq := wf.2.2 p (sub p List.mem_cons_self)
    rw [unitsD, countD, List.length_append]
    have one : ((unitsP p ar i).length : Int) = countP p := by
      cases p with
      | unit k =>
        have k1 : 1 ≤ k ∧ k ≤ 3 := hq
        rw [unitsP, countP, List.length_replicate]
        omega
      | inn t b =>
        obtain ⟨ht, left, hl, wfb⟩ := hq
        rw [unitsP, countP]
        exact units_many m left b wfb b (fun _ h => h) _ 0
    omega
/-! what is told apart -/
theorem tell_wf (k : Nat) : ∀ (m : Nat) (ts : List Str) (ps : List Part), (∀ t ∈ ts, wordT t = true) → Wf m ts ps → Tell (2 * m + k + 1) (.tup (partsT ps))
  | 0, _, _, _, h => h.elim
  | m + 1, ts, ps, hw, ⟨_, l3, h⟩ => by
    rw [show 2 * (m + 1) + k + 1 = (2 * m + k + 1) + 1 + 1 by omega]
    refine ⟨by rw [partsT_map, List.length_map]; omega, fun x hx => ?_⟩
    rw [partsT_map] at hx
    obtain ⟨p, hp, rfl⟩ := List.mem_map.mp hx
    have hq := h p hp
    cases p with
    | unit q => trivial
    | inn t b =>
      obtain ⟨ht, left, hl, wf⟩ := hq
      rw [Part.t]
      refine ⟨by show 2 ≤ 1000; omega, fun x hx => ?_⟩
      rcases List.mem_cons.mp hx with rfl | hx
      · exact word_ok (hw t ht)
      · rw [List.mem_singleton.mp hx]
        exact tell_wf k m left b (fun y hy => hw y (hl y hy).1) wf
theorem tell_row {rs : List JR} (h : LawR rs) {r : JR} (hr : r ∈ rs) : Tell 10 (.tup [.str r.z, r.tup]) := by
  have n6 := tell_wf 1 3 thingsL r.ps things_all (h.wf r hr)
  refine ⟨by show 2 ≤ 1000; omega, fun x hx => ?_⟩
  simp only [List.mem_cons, List.not_mem_nil, or_false] at hx
  rcases hx with rfl | rfl
  · exact word_ok (words_all _ (h.zw r hr))
  · refine ⟨by show 3 ≤ 1000; omega, fun x hx => ?_⟩
    simp only [List.mem_cons, List.not_mem_nil, or_false] at hx
    rcases hx with rfl | rfl | rfl
    · trivial
    · trivial
    · exact n6
/-! equality of tables -/
theorem okDs_all {n : Nat} : ∀ {ds : List Dt}, okDs n ds = ds.all (okD n)
  | [] => rfl
  | d :: ds => by rw [okDs, List.all_cons, okDs_all]
theorem okD_tup {n : Nat} {ds : List Dt} : okD (n + 1) (.tup ds) = ds.all (okD n) := by rw [okD, okDs_all]
theorem ok_wf (k : Nat) : ∀ (m : Nat) (ts : List Str) (ps : List Part), (∀ t ∈ ts, wordT t = true) → Wf m ts ps → okD (2 * m + k) (.tup (partsT ps)) = true
  | 0, _, _, _, h => h.elim
  | m + 1, ts, ps, hw, ⟨_, l3, h⟩ => by
    rw [show 2 * (m + 1) + k = (2 * m + k) + 1 + 1 by omega, okD_tup, List.all_eq_true]
    intro x hx
    rw [partsT_map] at hx
    obtain ⟨p, hp, rfl⟩ := List.mem_map.mp hx
    have hq := h p hp
    cases p with
    | unit q => rw [Part.t, okD]
    | inn t b =>
      obtain ⟨ht, left, hl, wf⟩ := hq
      rw [Part.t, okD_tup, List.all_eq_true]
      intro x hx
      rcases List.mem_cons.mp hx with rfl | hx
      · rw [okD]
        exact word_ok (hw t ht)
      · rw [List.mem_singleton.mp hx]
        exact ok_wf k m left b (fun y hy => hw y (hl y hy).1) wf
theorem ok_row {rs : List JR} (h : LawR rs) {r : JR} (hr : r ∈ rs) : okD 60 r.tup = true := by
  have n6 := ok_wf 53 3 thingsL r.ps things_all (h.wf r hr)
  show okD (59 + 1) (.tup [.int r.p, .int r.q, .tup (partsT r.ps)]) = true
  rw [okD_tup, List.all_eq_true]
  intro x hx
  simp only [List.mem_cons, List.not_mem_nil, or_false] at hx
  rcases hx with rfl | rfl | rfl
  · rw [okD]
  · rw [okD]
  · exact n6
theorem ok_tb {rs js : List JR} (h : LawR rs) (sub : ∀ r ∈ js, r ∈ rs) : ∀ p ∈ tbOf js, okD 60 p.2 = true := fun p hp => by
  obtain ⟨r, hr, rfl⟩ := List.mem_map.mp hp
  exact ok_row h (sub r hr)
theorem eqD_refl {d : Dt} (h : okD 60 d = true) : eqD d d = true := by
  obtain ⟨x, e, c, _⟩ := okD_dat d 60 h
  unfold eqD
  rw [e]
  exact PySem.SeqAt.eqv_refl x c
theorem eqDic_perm {rs as bs : List JR} (h : LawR rs) (pa : as.Perm rs) (pb : bs.Perm rs) : eqDic (tbOf as) (tbOf bs) = true := by
  have nd : (bs.map (·.z)).Nodup := (pb.map _).nodup_iff.mpr h.nz
  unfold eqDic
  rw [Bool.and_eq_true, beq_iff_eq, List.all_eq_true]
  refine ⟨by unfold tbOf; rw [List.length_map, List.length_map, pa.length_eq, pb.length_eq], fun p hp => ?_⟩
  obtain ⟨r, hr, rfl⟩ := List.mem_map.mp hp
  have hb : r ∈ bs := pb.symm.subset (pa.subset hr)
  show (match valD (tbOf bs) (.inr r.z) with | some e => eqD r.tup e | none => false) = true
  rw [tb_val nd r hb]
  exact eqD_refl (ok_row h (pa.subset hr))
/-! other jobs: one distance grown -/
def othR (w : Str) (r : JR) : JR := if r.z = w then ⟨r.z, r.p, r.q + 1, r.ps⟩ else r
theorem oth_z {w : Str} {r : JR} : (othR w r).z = r.z := by
  unfold othR
  split <;> rfl
theorem oth_p {w : Str} {r : JR} : (othR w r).p = r.p := by
  unfold othR
  split <;> rfl
theorem oth_ps {w : Str} {r : JR} : (othR w r).ps = r.ps := by
  unfold othR
  split <;> rfl
theorem oth_q {w : Str} {r : JR} : (othR w r).q = r.q + (if r.z = w then 1 else 0) := by
  unfold othR
  split <;> simp
theorem law_oth {rs : List JR} (h : LawR rs) (w : Str) : LawR (rs.map (othR w)) := by
  have ez : (rs.map (othR w)).map (·.z) = rs.map (·.z) := by
    rw [List.map_map]
    exact List.map_congr_left fun r _ => oth_z
  have ep : (rs.map (othR w)).map (·.p) = rs.map (·.p) := by
    rw [List.map_map]
    exact List.map_congr_left fun r _ => oth_p
  refine ⟨by rw [List.length_map]; exact h.l1, by rw [List.length_map]; exact h.l4, by rw [ez]; exact h.nz, by rw [ep]; exact h.np, fun r hr => ?_, fun r hr => ?_, fun r hr => ?_, fun r hr => ?_⟩ <;> obtain ⟨r0, h0, rfl⟩ := List.mem_map.mp hr
  · rw [oth_z]
    exact h.zw r0 h0
  · rw [oth_p]
    exact h.pw r0 h0
  · have := h.q1 r0 h0
    rw [oth_q]
    split <;> omega
  · rw [oth_ps]
    exact h.wf r0 h0
theorem eqD_oth {rs : List JR} (h : LawR rs) {r : JR} (hr : r ∈ rs) : eqD r.tup (othR r.z r).tup = false := by
  have n6 := ok_wf 53 3 thingsL r.ps things_all (h.wf r hr)
  obtain ⟨x, e, _⟩ := okD_dat _ _ n6
  have d1 : datD r.tup = some (.tuple [.int r.p, .int r.q, x]) := by
    show datD (.tup [.int r.p, .int r.q, .tup (partsT r.ps)]) = _
    simp [datD, datsD] at e ⊢
    obtain ⟨y, e1, e2⟩ := e
    rw [e1]
    simp [e2]
  have d2 : datD (othR r.z r).tup = some (.tuple [.int r.p, .int (r.q + 1), x]) := by
    have : othR r.z r = ⟨r.z, r.p, r.q + 1, r.ps⟩ := if_pos rfl
    rw [this]
    show datD (.tup [.int r.p, .int (r.q + 1), .tup (partsT r.ps)]) = _
    simp [datD, datsD] at e ⊢
    obtain ⟨y, e1, e2⟩ := e
    rw [e1]
    simp [e2]
  unfold eqD
  rw [d1, d2]
  have : ¬ r.q = r.q + 1 := by omega
  simp [PyData.eqv, PyData.eqvAll, this]
theorem eqDic_oth {rs as bs : List JR} (h : LawR rs) {w : Str} (hw : w ∈ rs.map (·.z)) (pa : as.Perm rs) (pb : bs.Perm (rs.map (othR w))) : eqDic (tbOf as) (tbOf bs) = false := by
  obtain ⟨r, hr, rfl⟩ := List.mem_map.mp hw
  have nd : (bs.map (·.z)).Nodup := (pb.map _).nodup_iff.mpr (law_oth h r.z).nz
  have hb : othR r.z r ∈ bs := pb.symm.subset (List.mem_map.mpr ⟨r, hr, rfl⟩)
  cases e : eqDic (tbOf as) (tbOf bs) with
  | false => rfl
  | true =>
    unfold eqDic at e
    rw [Bool.and_eq_true, List.all_eq_true] at e
    have := e.2 (.inr r.z, r.tup) (List.mem_map.mpr ⟨r, pa.symm.subset hr, rfl⟩)
    have v := tb_val nd _ hb
    rw [oth_z] at v
    have this : (match valD (tbOf bs) (.inr r.z) with | some e => eqD r.tup e | none => false) = true := this
    rw [v] at this
    have this : eqD r.tup (othR r.z r).tup = true := this
    rw [eqD_oth h hr] at this
    cases this
theorem hdR_refl : ∀ rs : List JR, HdR rs (tbOf rs)
  | [] => .nil
  | r :: rs => .cons ⟨rfl, hd_refl _⟩ (hdR_refl rs)
theorem sub_perm {rs js : List JR} (p : js.Perm rs) : ∀ r ∈ js, r ∈ rs := fun r h => p.subset h
/-- the table's rows, as told -/
theorem rows_told {rs as bs : List JR} (h : LawR rs) (pa : as.Perm rs) (pb : bs.Perm rs) (sa : sortedS (as.map (·.z)) = true) (sb : sortedS (bs.map (·.z)) = true) : as = bs :=
  rows_same h.nz (sub_perm pa) (sub_perm pb) (sorted_eq ((pa.trans pb.symm).map _) sa sb)
theorem cs_val : ∀ {rs : List JR}, (rs.map (·.z)).Nodup → ∀ r ∈ rs, valD (csOf rs) (.inr r.z) = some (.int (countD r.ps))
  | r0 :: rs, nd, r, hr => by
    rw [csOf, List.map_cons, valD]
    rw [List.map_cons, List.nodup_cons] at nd
    rcases List.mem_cons.mp hr with e | hr
    · rw [e, if_pos rfl]
    · rw [if_neg (fun z => nd.1 (by rw [Sum.inr.inj z]; exact List.mem_map.mpr ⟨r, hr, rfl⟩))]
      exact cs_val nd.2 r hr
end K59
/-! ## K60j -/
set_option Elab.async false
set_option linter.all false
set_option maxRecDepth 100000
set_option maxHeartbeats 4000000
/-! k59: the law's own text: the beginning of a turn. -/
namespace K59
open PySem PySem.Spec PyProof.Rows L2 DL
/-- one step of a reading by trees -/
local macro_rules | `(tactic| walk_at "dl") => `(tactic| first
  | refine ⟨_, rfl, ?_⟩
  | refine ⟨[], rfl, Nat.zero_le _, ?_⟩
  | refine ⟨[_, _], rfl, (by show 2 ≤ sizeLine; omega), ?_⟩)
abbrev sLaw : Stmt := tp 52
abbrev nLaw : List Str := ["script", "turn", "pool", "jobs", "handed", "made", "ceilings", "job", "thing", "other", "odd", "found", "bad", "key"]
theorem scLaw : FnScope nLaw ["script"] (defScope sLaw) := ⟨rfl, rfl, rfl, by decide +kernel, rfl, by decide +kernel, by decide +kernel⟩
def loopOf : List Stmt → List Stmt
  | [.For _ _ b _ _, _] => b
  | _ => []
abbrev lawLoop : List Stmt := loopOf (defBody sLaw)
abbrev stl (i : Nat) : Stmt := lawLoop.getD i (.Pass ⟨0, 0, 0, 0⟩)
theorem loop_eq : lawLoop = [stl 0, stl 1, stl 2, stl 3, stl 4, stl 5, stl 6, stl 7, stl 8, stl 9, stl 10, stl 11, stl 12, stl 13, stl 14, stl 15, stl 16, stl 17, stl 18, stl 19] := rfl
abbrev lawX (P : Program) (w : World) (K : PySem.W.Frag) (mg : Str → Option Value) (base : Heap) (f cd : Addr) (A : Around) (outer : List Env) (s : Shared) (H : Hp) (E : XK) : Cx := (cxOf CX0 P w K mg base nLaw "law" (defScope sLaw) f (.ref cd) A outer s H E).nox
abbrev dl (S : Dt) (t : Int) (x3 x4 x5 x6 x7 x8 x9 x10 x11 x12 x13 : Sl) : List Sl := [.ro S, .ro (.int t), .pool, x3, x4, x5, x6, x7, x8, x9, x10, x11, x12, x13]
abbrev jbs (rs : List JR) : Sl := .ro (.dic (tbOf rs))
/-- the jobs drawn, the jobs made of them, what the things' ceilings are -/
structure FxL (rs as : List JR) (ce ce' : List (Key × Dt)) : Prop where
  lr : LawR rs
  pa : as.Perm rs
  so : sortedS (as.map (·.z)) = true
  ca : CeilOf (evs as) ce
  cb : ∃ es, CeilOf es ce' ∧ ∀ e, e ∈ es ↔ e ∈ evs rs
abbrev mds (C : Addr) (as : List JR) (ce : List (Key × Dt)) : Sl := .ro (jobsT C (tbOf as) (csOf as) ce)
def PreM (M : List JR → List (Key × Dt) → Sl) (S : Dt) (t : Int) (n : Nat) (δ : List Sl) : Prop := ∃ rs as ce ce' x7 x8, FxL rs as ce ce' ∧ n ≤ 801 ∧ δ = dl S t (jbs rs) (.own (.dic [])) (M as ce) (.ro (.dic ce')) x7 x8 .no .no .no .no .no
variable [Wd]
/-- all that the law calls -/
structure LawH (P : Program) (K : PySem.W.Frag) (mg : Str → Option Value) (base : Heap) (tb cd C cJ cN cT cC cM gI gJ gC gE gS : Addr) (dI dJ dC dE dS : FuncData) : Prop where
  tB : LamX.TabB base mg cd tb
  hT : (tb, ("law.<locals>.<lambda>" : Str)) ∈ Wd.T
  mD : MetD P Wd.w K mg base (tp 48) (cs5 cJ cN cT cC cM)
  cTk : DL.Cl P Wd.w K mg base CX0 1 "_law_take" (spC cTake)
  cO : DL.Cl P Wd.w K mg base CX0 2 "_law_one" (spC cOne)
  cX : DL.Cl P Wd.w K mg base CX0 2 "_law_mixed" (spC cMixed)
  cL : DL.Cl P Wd.w K mg base CX0 7 "_law_jobs" (spC cLJ)
  cH : DL.Cl P Wd.w K mg base CX0 11 "_law_handed" (spC (cHanded 9))
  cU : DL.Cl P Wd.w K mg base CX0 5 "_law_units" (spC (cUnits 3))
  cS : DL.Cl P Wd.w K mg base CX0 12 "_law_same" (spC (cSame 11))
  cMd : DL.Cl P Wd.w K mg base CX0 17 "_law_made" (spC (cMade C))
  cCe : DL.Cl P Wd.w K mg base CX0 6 "_law_ceilings" (spC cCeils)
  cBJ : DL.Cl P Wd.w K mg base CX0 4 "_law_bad_jobs" (spC cBadJ)
  cR : DL.Cl P Wd.w K mg base CX0 8 "_law_refused" (spC (cRef C))
  MJ : MakC P Wd.w K mg base (L2.CX P Wd.w) 15 "Jobs" C gI dI ["self", "jobs"] (spJI 8 C cJ)
  MB : Mth P Wd.w K mg base CX0 2 C "jobs" gJ dJ ["self"] (spC (cJobs C))
  MC : Mth P Wd.w K mg base (L2.CX P Wd.w) 5 C "cost" gC dC ["self", "job"] (spC (cCost C cN))
  ME : Mth P Wd.w K mg base (L2.CX P Wd.w) 4 C "ceiling" gE dE ["self", "thing"] (spC (cCeil C cT))
  eF : FnOk P Wd.w K mg base CX0 1 gS dS ["self", "other"] (spC (cEqJ C))
  eS : PySem.W.findIn K (.ref C) "__eq__" = some (some (.ref gS))
  eI : PySem.W.isFn K (.ref gS) = true
  eB : Binds K dS ["self", "other"] []
  eN : PySem.W.notFirst K C (.type "dict") = true
  g_dict : mg "dict" = none
  g_sorted : mg "sorted" = none
  g_list : mg "list" = none
  g_min : mg "min" = none
  g_int : mg "int" = none
  gL : mg "len" = none
section
variable {P : Program} {K : PySem.W.Frag} {mg : Str → Option Value} {base : Heap} {f tb cd C cJ cN cT cC cM gI gJ gC gE gS : Addr} {dI dJ dC dE dS : FuncData} {A : Around} {outer : List Env} {s : Shared} {H : Hp} {E : XK} {Xd : XD} {S : Dt} {t : Int}
theorem law1 (Lw : LawH P K mg base tb cd C cJ cN cT cC cM gI gJ gC gE gS dI dJ dC dE dS) (hr : Room 17 (A.deeper (envOfC "law" (defScope sLaw) s.heap.objs.size f (.ref cd)))) :
    StepD (fun _ : Unit => lawX P Wd.w K mg base f cd A outer s H E) ⟨E, Xd⟩ (stl 1) (fun n δ => n = 0 ∧ δ = dl S t .no .no .no .no .no .no .no .no .no .no .no)
      (fun n δ => ∃ rs, LawR rs ∧ n ≤ 501 ∧ δ = dl S t (jbs rs) .no .no .no .no .no .no .no .no .no .no) := by
  have l63 := sizeLine_eq
  refine ⟨_, (ds_set (i := 3) (fun _ _ h => ps_set (i := 3) scLaw.nd rfl (Or.inr rfl) h) (DR.e (DE.z (de_call (fun _ _ h => DL.pe_cl Lw.cL hr (by omega) pass0 h) (DA.pool (de_pool fun _ => pv 2) (DA.cons (dr_op (fun _ _ _ h1 h2 => pe_op op_add h1 h2) (dop_i rfl (gd := fun i j => .int (i + j)) fun _ _ => sc_int) (dr_c (fun _ => pe_int) fun _ _ => .int 1) (DR.b (DE.r (de_call (fun _ _ h => DL.pe_cl Lw.cTk hr (by omega) pass0 h) (DA.pool (de_pool fun _ => pv 2) (DA.cons (dr_c (fun _ => pe_int) fun _ _ => .int 4) DA.nil)))))) DA.nil)))))), fun n δ Ed pre k => ?_⟩
  obtain ⟨rfl, rfl⟩ := pre
  refine ⟨rfl, rfl, rfl, rfl, _, rfl, by omega, by decide, by decide, fun k0 h0 h1 => ?_⟩
  obtain ⟨m, rfl⟩ := Int.eq_ofNat_of_zero_le h0
  refine ⟨_, rfl, _, _, rfl, rfl, ?_⟩
  refine ⟨m + 1, by rw [show (1 : Int) + (m : Int) = ((m + 1 : Nat) : Int) by omega], by omega, by omega, by omega, fun kvs zs prs n' hl hz hn' => ?_⟩
  obtain ⟨rs, rfl, lr, _⟩ := lawJ_R hl (by omega) (by omega)
  exact ⟨_, rfl, k _ _ ⟨rs, lr, by omega, rfl⟩⟩
theorem law2 (Lw : LawH P K mg base tb cd C cJ cN cT cC cM gI gJ gC gE gS dI dJ dC dE dS) (hr : Room 17 (A.deeper (envOfC "law" (defScope sLaw) s.heap.objs.size f (.ref cd)))) :
    StepD (fun _ : Unit => lawX P Wd.w K mg base f cd A outer s H E) ⟨E, Xd⟩ (stl 2) (fun n δ => ∃ rs, LawR rs ∧ n ≤ 501 ∧ δ = dl S t (jbs rs) .no .no .no .no .no .no .no .no .no .no)
      (fun n δ => ∃ rs js kvs, LawR rs ∧ js.Perm rs ∧ HdR js kvs ∧ n ≤ 801 ∧ δ = dl S t (jbs rs) (.own (.dic kvs)) .no .no .no .no .no .no .no .no .no) := by
  have l63 := sizeLine_eq
  refine ⟨_, (ds_set (i := 4) (fun _ _ h => ps_set (i := 4) scLaw.nd rfl (Or.inl rfl) h) (de_dictP (K := K) (fun _ _ h => pe_callTy (call_dictP rfl) (by rfl) Lw.g_dict (by decide +kernel) (pa_cons h pa_nil)) (DR.b (DE.r (de_lc (own := [("job", 7)]) (fun _ => rfl) (fun _ => scLaw.nd) (di_list (K := K) (DE.r (de_call (fun _ _ h => DL.pe_cl Lw.cX hr (by omega) pass0 h) (DA.pool (de_pool fun _ => pv 2) (DA.cons (DE.r (de_sortD (fun _ _ h => pe_callB (call_sortedD rfl) (by rfl) Lw.g_sorted (by decide +kernel) (pa_cons h pa_nil)) (db_var fun _ => pv 3))) DA.nil)))) fun _ _ h => pi_list h) (fun _ => blkOk_by (own := [("job", 7)]) (N := ["script", "turn", "pool", "jobs", "handed", "made", "ceilings", "job", "thing", "other", "odd", "found", "bad", "key"]) (sc := defScope sLaw) (by decide +kernel)) (dg_name (i := 7) (fun _ => pg_name (i := 7) scLaw.nd rfl (Or.inl rfl)) (by decide)) dts_nil (dr_tup (DA.cons (dr_var fun _ => pv 7) (DA.cons (DE.r (de_call (fun _ _ h => DL.pe_cl Lw.cH hr (by omega) pass0 h) (DA.pool (de_pool fun _ => pv 2) (DA.cons (dr_dget (fun _ _ _ h1 h2 => pe_dget (hu_of hr) h1 h2 fun _ _ => rfl) (dr_var fun _ => pv 3) (dr_var fun _ => pv 7)) DA.nil)))) DA.nil)))))))), fun n δ Ed pre k => ?_⟩
  obtain ⟨rs, lr, hn, rfl⟩ := pre
  have l4 := lr.l4
  refine ⟨rfl, rfl, .dic (tbOf rs), .ro _, rfl, rfl, tbOf rs, rs.map (·.z), rfl, tb_keys rs, (by rw [List.length_map]; omega), fun ys pm so => ⟨_, rfl, ys.map .str, rfl, ?_, ?_, fun es pm2 => ⟨_, rfl, es, rfl, ?_⟩⟩⟩
  · have := pm.length_eq
    rw [List.length_map] at this ⊢
    omega
  · exact okD_perm (ok_strs lr) fun d hd => (pm.map Dt.str).subset hd
  obtain ⟨zs, pz, rfl⟩ := perm_map pm2 ys rfl
  obtain ⟨js, pj, rfl⟩ := perm_map (pz.trans pm) rs rfl
  have jl := pj.length_eq
  have nj : (js.map (·.z)).Nodup := (pj.map _).nodup_iff.mpr lr.nz
  have yl : (ys.map Dt.str).length = rs.length := by
    rw [List.length_map, pm.length_eq, List.length_map]
  refine dLc_go (fun ds' acc n' δ' => ∃ (pre rest : List JR) (kvs : List (Key × Dt)), js = pre ++ rest ∧ HdR pre kvs ∧ acc = kvs.map pairT ∧ ds' = (rest.map (·.z)).map .str ∧ n' ≤ n + rs.length + 53 * pre.length ∧ δ' = dl S t (jbs rs) .no .no .no .no .no .no .no .no .no .no) ?_ ?_ ⟨[], js, [], rfl, .nil, rfl, rfl, by rw [yl]; simp, by kernel_rfl⟩
  · rintro acc n' δ' ⟨pre, rest, kvs, e1, hd, rfl, e2, hn', rfl⟩
    have : rest = [] := by
      cases rest with
      | nil => rfl
      | cons _ _ => cases e2
    subst this
    rw [List.append_nil] at e1
    subst e1
    have nk : (kvs.map (·.1)).Nodup := by
      rw [goodJ_keys (goodJ_of lr pj hd).pr]
      exact List.Pairwise.map _ (fun a b (h : a ≠ b) z => h (Sum.inr.inj z)) nj
    exact ⟨_, rfl, kvs, rfl, nk, k _ _ ⟨rs, js, kvs, lr, pj, hd, by omega, rfl⟩⟩
  · rintro y r acc n' δ' R hR ⟨pre, rest, kvs, e1, hd, rfl, e2, hn', rfl⟩
    cases rest with
    | nil => cases e2
    | cons j rest =>
      rw [List.map_cons, List.map_cons] at e2
      injection e2 with e3 e4
      subst e3 e4
      have hj : j ∈ rs := pj.subset (by rw [e1]; simp)
      have nn := nodes_row lr hj
      have pl : pre.length + 1 ≤ rs.length := by
        rw [← jl, e1, List.length_append, List.length_cons]
        omega
      refine dT ⟨_, rfl, rfl, rfl, _, rfl, _, rfl, tbOf rs, .inr j.z, j.tup, rfl, rfl, tb_val lr.nz j hj, _, rfl, nice_row lr hj, by omega, fun e he => ⟨_, rfl, [_, _], rfl, (by show 2 ≤ sizeLine; omega), ?_, ?_⟩⟩
      · rw [List.length_map, Paired.length hd]
        omega
      · refine hR _ _ _ ⟨pre ++ [j], rest, kvs ++ [(.inr j.z, e)], by rw [e1, List.append_assoc]; rfl, paired_app hd (.cons ⟨rfl, he⟩ .nil), by rw [List.map_append]; rfl, rfl, ?_, by kernel_rfl⟩
        rw [List.length_append]
        show n' + nodesD j.tup ≤ n + rs.length + 53 * (pre.length + 1)
        omega
theorem law3 (Lw : LawH P K mg base tb cd C cJ cN cT cC cM gI gJ gC gE gS dI dJ dC dE dS) (hr : Room 17 (A.deeper (envOfC "law" (defScope sLaw) s.heap.objs.size f (.ref cd)))) :
    StepD (fun _ : Unit => lawX P Wd.w K mg base f cd A outer s H E) ⟨E, Xd⟩ (stl 3) (fun n δ => ∃ rs js kvs, LawR rs ∧ js.Perm rs ∧ HdR js kvs ∧ n ≤ 801 ∧ δ = dl S t (jbs rs) (.own (.dic kvs)) .no .no .no .no .no .no .no .no .no)
      (fun n δ => ∃ rs as ce ce' kvs, FxL rs as ce ce' ∧ n ≤ 801 ∧ δ = dl S t (jbs rs) (.own (.dic kvs)) (mds C as ce) (.ro (.dic ce')) .no .no .no .no .no .no .no) := by
  have l63 := sizeLine_eq
  refine ⟨_, (ds_unp (vs := [5, 6]) (fun _ _ _ h1 h2 => ps_asg h1 h2) (dr_tup (DA.cons (dr_mkJL (i := 4) (fun _ _ h => pe_make Lw.MJ.mke Lw.MJ.fn (hr.mono (by omega)) (by rfl) Lw.MJ.gC Lw.MJ.bi .nil passX0 h) fun _ => pv 4) (DA.cons (DE.z (de_call (fun _ _ h => DL.pe_cl Lw.cCe hr (by omega) pass0 h) (DA.cons (dr_var fun _ => pv 3) DA.nil))) DA.nil))) (dg_tup (K := K) (m := 2) (dgs_cons (dg_name (i := 5) (fun _ => pg_name (i := 5) scLaw.nd rfl (Or.inr rfl)) (by decide)) (dgs_cons (dg_name (i := 6) (fun _ => pg_name (i := 6) scLaw.nd rfl (Or.inl rfl)) (by decide)) dgs_nil)) (fun _ _ h => pg_tup (by rfl) h))), fun n δ Ed pre k => ?_⟩
  obtain ⟨rs, js, kvs, lr, pj, hd, hn, rfl⟩ := pre
  refine ⟨kvs, js, rfl, goodJ_of lr pj hd, fun as ce pa so ca => ⟨_, rfl, rs, rfl, lr, fun ce' es cb ev => ?_⟩⟩
  refine ⟨_, rfl, [_, _], rfl, (by show 2 ≤ sizeLine; omega), _, rfl, rfl, _, _, rfl, _, _, rfl, rfl, k _ _ ⟨rs, as, ce, ce', kvs, ⟨lr, pa.trans pj, so, ca, es, cb, ev⟩, hn, rfl⟩⟩
theorem law4 (Lw : LawH P K mg base tb cd C cJ cN cT cC cM gI gJ gC gE gS dI dJ dC dE dS) (hr : Room 17 (A.deeper (envOfC "law" (defScope sLaw) s.heap.objs.size f (.ref cd)))) :
    StepD (fun _ : Unit => lawX P Wd.w K mg base f cd A outer s H E) ⟨E, Xd⟩ (stl 4) (fun n δ => ∃ rs as ce ce' kvs, FxL rs as ce ce' ∧ n ≤ 801 ∧ δ = dl S t (jbs rs) (.own (.dic kvs)) (mds C as ce) (.ro (.dic ce')) .no .no .no .no .no .no .no)
      (PreM (fun as ce => mds C as ce) S t) := by
  have l63 := sizeLine_eq
  refine ⟨_, (ds_clear (K := K) (i := 4) (fun _ _ h => ps_expr (pe_dclear h)) fun _ => pv 4), fun n δ Ed pre k => ?_⟩
  obtain ⟨rs, as, ce, ce', kvs, fx, hn, rfl⟩ := pre
  exact ⟨⟨_, rfl⟩, k _ _ ⟨rs, as, ce, ce', _, _, fx, hn, rfl⟩⟩
theorem law5 (Lw : LawH P K mg base tb cd C cJ cN cT cC cM gI gJ gC gE gS dI dJ dC dE dS) (hr : Room 17 (A.deeper (envOfC "law" (defScope sLaw) s.heap.objs.size f (.ref cd)))) :
    StepD (fun _ : Unit => lawX P Wd.w K mg base f cd A outer s H E) ⟨E, Xd⟩ (stl 5) (PreM (fun as ce => mds C as ce) S t) (PreM (fun as ce => mds C as ce) S t) := by
  have l63 := sizeLine_eq
  refine ⟨_, (ds_expr (de_clear (K := K) (fun _ _ h => pe_dclear h) (de_meth0 (fun _ _ h => pe_meth0 h Lw.MB.cl Lw.MB.me (Lw.MB.fn.mono (by omega)) hr Lw.MB.bi .nil pass0) (dr_var fun _ => pv 5)))), fun n δ Ed pre k => ?_⟩
  obtain ⟨rs, as, ce, ce', x7, x8, fx, hn, rfl⟩ := pre
  have pl := fx.pa.length_eq
  have l4 := fx.lr.l4
  exact ⟨_, rfl, _, rfl, rfl, tbOf as, csOf as, ce, as.map (·.z), rfl, ko_of (by omega) ((fx.pa.map _).nodup_iff.mpr fx.lr.nz), ⟨_, rfl⟩, k _ _ ⟨rs, as, ce, ce', x7, x8, fx, hn, rfl⟩⟩
end
end K59
/-! ## K60k -/
set_option Elab.async false
set_option linter.all false
set_option maxRecDepth 100000
set_option maxHeartbeats 4000000
/-! k59: the law's own text: what the jobs tell. -/
namespace K59
open PySem PySem.Spec PyProof.Rows L2 DL
/-- one step of a reading by trees -/
local macro_rules | `(tactic| walk_at "dl") => `(tactic| first
  | refine ⟨_, rfl, ?_⟩
  | refine ⟨[], rfl, Nat.zero_le _, ?_⟩
  | refine ⟨[_, _], rfl, (by show 2 ≤ sizeLine; omega), ?_⟩)
theorem best_le (bt : Nat → Nat → Bool) : ∀ k, argBest bt k ≤ k
  | 0 => Nat.le_refl _
  | k + 1 => by
    rw [argBest]
    have := best_le bt k
    split <;> omega
theorem minK_mem {ks : List Str} (h : ks ≠ []) : minK ks ∈ ks := by
  have l : 0 < ks.length := List.length_pos_iff.mpr h
  unfold minK
  have b := best_le (fun i j => decide ((ks.getD i "").cps.toList < (ks.getD j "").cps.toList)) (ks.length - 1)
  rw [List.getD_eq_getElem?_getD, List.getElem?_eq_getElem (by omega)]
  exact List.getElem_mem _
theorem ceil_keys {es : List (Str × Int)} {D : List (Key × Dt)} (c : CeilOf es D) : ∃ ks : List Str, D.map (·.1) = ks.map Sum.inr := by
  have h := c.keys
  clear c
  induction D with
  | nil => exact ⟨[], rfl⟩
  | cons e D ih =>
    obtain ⟨ks, hk⟩ := ih fun x hx => h x (List.mem_cons_of_mem _ hx)
    obtain ⟨z, i, rfl⟩ := h e List.mem_cons_self
    exact ⟨z :: ks, by rw [List.map_cons, List.map_cons, hk]⟩
theorem evs_perm {as rs : List JR} (p : as.Perm rs) (e : Str × Int) : e ∈ evs as ↔ e ∈ evs rs := by
  unfold evs
  rw [List.mem_flatMap, List.mem_flatMap]
  exact ⟨fun ⟨r, h, q⟩ => ⟨r, p.subset h, q⟩, fun ⟨r, h, q⟩ => ⟨r, p.symm.subset h, q⟩⟩
theorem eqD_str {a b : Str} : eqD (.str a) (.str b) = decide (a = b) := by
  simp only [eqD, datD, PyData.eqv]
  by_cases h : a = b
  · simp [h]
  · simp [h]
theorem oth_tup {w : Str} {r : JR} : Dt.tup [.int r.p, .int (r.q + if eqD (.str r.z) (.str w) = true then 1 else 0), .tup (partsT r.ps)] = (othR w r).tup := by
  rw [eqD_str]
  unfold othR
  by_cases h : r.z = w
  · simp [h, JR.tup]
  · simp [h, JR.tup]
variable [Wd]
theorem dt_own {ι : Type} {X : ι → Cx} {ac : DL.Act} {K : PySem.W.Frag} {C : Addr} {Ct : Ct} {Ec : XK} {a b e : Expr} {Ta Tb : TRd} (pe : ∀ c {ta tb : TE}, PE (X c) a ta → PE (X c) b tb → PT (X c) e (tTest (tOp (rEqW K C (spC Ct) Ec) ta tb))) (nf : PySem.W.notFirst K C (.type "dict") = true) (ha : DR X ac a Ta) (hb : DR X ac b Tb) :
    DT X ac e (fun n δ Q => Ta n δ fun d n1 δ1 => Tb n1 δ1 fun d' n2 δ2 => (∃ ks, d = .ins C ks) ∧ ((∃ ks, d' = .ins C ks) ∨ ∃ ks, d' = .dic ks) ∧ Ct [.ro d, .ro d'] n2 (fun r n3 => ∃ b, r = .ro (.bl b) ∧ Q b n3 δ2) fun _ _ _ _ => False) := by
  obtain ⟨ta, pa, ea⟩ := ha
  obtain ⟨tb, pb, eb⟩ := hb
  refine ⟨_, fun c => pe c (pa c) (pb c), fun Γ gx σ A H n δ Qd Q R hT k => ea Γ gx σ A H n δ _ _ R hT fun v d A1 H1 n1 δ1 R1 r1 m1 q1 => eb Γ gx σ A1 H1 n1 δ1 _ _ R1 q1 fun w e A2 H2 n2 δ2 R2 r2 m2 q2 => ?_⟩
  obtain ⟨⟨ks, rfl⟩, hd, q⟩ := q2
  have r1' := r1.kp (m2.kp R1)
  obtain ⟨p, dx, fs, rfl, hp, hx, _⟩ := rep_ins r1'
  refine ⟨p, dx, fs, rfl, hx, ?_, ⟨H2, A2, Γ.p⟩, n2, [.ro _, .ro _], _, fun _ _ _ _ => False, rfl, R2.exit0, .cons (.ro r1') (.cons (.ro r2) .nil), q, fun v r A' H' n' ex ro q => ?_, fun _ _ _ _ _ _ _ _ _ _ _ _ _ z => z.elim⟩
  · rcases hd with ⟨ls, rfl⟩ | ⟨ls, rfl⟩
    · obtain ⟨b, dy, gs, rfl, _, hy, _⟩ := rep_ins r2
      exact .inl ⟨b, dy, gs, rfl, hy⟩
    · obtain ⟨b, es, rfl, rb, _⟩ := bor_dic (.rep r2)
      exact .inr ⟨b, es, rfl, rb, nf⟩
  · obtain ⟨b, rfl, q⟩ := q
    obtain ⟨R3, m3⟩ := R2.call ex
    have rv : Rep A' H' v (.bl b) := ro
    exact ⟨b, rep_bl rv, b, rfl, k b A' H' n' δ2 R3 ((m1.trans m2).trans m3) q⟩
section
variable {P : Program} {K : PySem.W.Frag} {mg : Str → Option Value} {base : Heap} {f tb cd C cJ cN cT cC cM gI gJ gC gE gS : Addr} {dI dJ dC dE dS : FuncData} {A : Around} {outer : List Env} {s : Shared} {H : Hp} {E : XK} {Xd : XD} {S : Dt} {t : Int}
theorem law6 (Lw : LawH P K mg base tb cd C cJ cN cT cC cM gI gJ gC gE gS dI dJ dC dE dS) (hr : Room 17 (A.deeper (envOfC "law" (defScope sLaw) s.heap.objs.size f (.ref cd)))) :
    StepD (fun _ : Unit => lawX P Wd.w K mg base f cd A outer s H E) ⟨E, Xd⟩ (stl 6) (PreM (fun as ce => mds C as ce) S t) (PreM (fun as ce => mds C as ce) S t) := by
  have l63 := sizeLine_eq
  refine ⟨_, (ds_if (dt_not (dt_val (DE.r (de_call (fun _ _ h => DL.pe_cl Lw.cS hr (by omega) pass0 h) (DA.cons (DE.r (de_items (fun _ _ h => LiI.pe_listItems rfl h (by rfl) Lw.g_list (by decide +kernel)) (de_meth0 (fun _ _ h => pe_meth0 h Lw.MB.cl Lw.MB.me (Lw.MB.fn.mono (by omega)) hr Lw.MB.bi .nil pass0) (dr_var fun _ => pv 5)))) (DA.cons (DE.r (de_lc (own := [("job", 7)]) (fun _ => rfl) (fun _ => scLaw.nd) (di_list (K := K) (DE.r (de_sortD (fun _ _ h => pe_callB (call_sortedD rfl) (by rfl) Lw.g_sorted (by decide +kernel) (pa_cons h pa_nil)) (db_var fun _ => pv 3))) fun _ _ h => pi_list h) (fun _ => blkOk_by (own := [("job", 7)]) (N := ["script", "turn", "pool", "jobs", "handed", "made", "ceilings", "job", "thing", "other", "odd", "found", "bad", "key"]) (sc := defScope sLaw) (by decide +kernel)) (dg_name (i := 7) (fun _ => pg_name (i := 7) scLaw.nd rfl (Or.inl rfl)) (by decide)) dts_nil (dr_tup (DA.cons (dr_var fun _ => pv 7) (DA.cons (dr_dget (fun _ _ _ h1 h2 => pe_dget (hu_of hr) h1 h2 fun _ _ => rfl) (dr_var fun _ => pv 3) (dr_var fun _ => pv 7)) DA.nil))))) DA.nil)))))) (dss_one (ds_ret (DR.e (dr_c (fun _ => pe_bl) fun _ _ => .bl false)))) dss_nil), fun n δ Ed pre k => ?_⟩
  obtain ⟨rs, as, ce, ce', x7, x8, fx, hn, rfl⟩ := pre
  have pl := fx.pa.length_eq
  have l4 := fx.lr.l4
  have ko := ko_of (rs := as) (by omega) ((fx.pa.map _).nodup_iff.mpr fx.lr.nz)
  refine ⟨_, rfl, _, rfl, rfl, tbOf as, csOf as, ce, as.map (·.z), rfl, ko, _, rfl, _, rfl, .dic (tbOf rs), .ro _, rfl, rfl, tbOf rs, rs.map (·.z), rfl, tb_keys rs, (by rw [List.length_map]; omega), fun ys pm so => ⟨_, rfl, _, rfl, ?_⟩⟩
  obtain ⟨js, pj, rfl⟩ := perm_map pm rs rfl
  have e := rows_told fx.lr fx.pa pj fx.so so
  subst e
  refine dLc_go (fun ds' acc n' δ' => ∃ pre rest : List JR, as = pre ++ rest ∧ acc = pre.map (fun r => Dt.tup [.str r.z, r.tup]) ∧ ds' = (rest.map (·.z)).map .str ∧ n' = n ∧ δ' = dl S t (jbs rs) (.own (.dic [])) (mds C as ce) (.ro (.dic ce')) .no x8 .no .no .no .no .no) ?_ ?_ ⟨[], as, rfl, rfl, rfl, rfl, by kernel_rfl⟩
  · rintro acc n' δ' ⟨pre, rest, e1, rfl, e2, rfl, rfl⟩
    have : rest = [] := by
      cases rest with
      | nil => rfl
      | cons _ _ => cases e2
    subst this
    rw [List.append_nil] at e1
    subst e1
    refine ⟨_, rfl, .lst (as.map fun r => Dt.tup [.str r.z, r.tup]), ?_, tell_one (fun x hx => ?_) (by rw [List.length_map]; omega), ?_⟩
    · rw [show (tbOf as).map pairT = as.map fun r => Dt.tup [.str r.z, r.tup] by unfold tbOf; rw [List.map_map]; rfl]
    · obtain ⟨r, hr, rfl⟩ := List.mem_map.mp hx
      exact tell_row fx.lr (fx.pa.subset hr)
    · exact ⟨_, rfl, _, rfl, dF (k _ _ ⟨rs, as, ce, ce', _, x8, fx, hn, rfl⟩)⟩
  · rintro y r acc n' δ' R hR ⟨pre, rest, e1, rfl, e2, rfl, rfl⟩
    cases rest with
    | nil => cases e2
    | cons j rest =>
      rw [List.map_cons, List.map_cons] at e2
      injection e2 with e3 e4
      subst e3 e4
      have hj : j ∈ rs := fx.pa.subset (by rw [e1]; simp)
      refine dT ⟨_, rfl, _, rfl, _, rfl, tbOf rs, .inr j.z, j.tup, rfl, rfl, tb_val fx.lr.nz j hj, [_, _], rfl, (by show 2 ≤ sizeLine; omega), ?_, ?_⟩
      · rw [List.length_map]
        have := congrArg List.length e1
        rw [List.length_append] at this
        omega
      · exact hR _ _ _ ⟨pre ++ [j], rest, by rw [e1, List.append_assoc]; rfl, by rw [List.map_append]; rfl, rfl, rfl, by kernel_rfl⟩
theorem law7 (Lw : LawH P K mg base tb cd C cJ cN cT cC cM gI gJ gC gE gS dI dJ dC dE dS) (hr : Room 17 (A.deeper (envOfC "law" (defScope sLaw) s.heap.objs.size f (.ref cd)))) :
    StepD (fun _ : Unit => lawX P Wd.w K mg base f cd A outer s H E) ⟨E, Xd⟩ (stl 7) (PreM (fun as ce => mds C as ce) S t) (PreM (fun as ce => mds C as ce) S t) := by
  have l63 := sizeLine_eq
  refine ⟨_, (ds_for (vs := [7]) (fun _ => PassesOwn.never) (fun _ => rfl) (di_keys (dr_var fun _ => pv 3) fun _ _ h => pi_keys h) (dg_name (i := 7) (fun _ => pg_name (i := 7) scLaw.nd rfl (Or.inl rfl)) (by decide)) (dss_one (ds_if (dt_not (dt_val (DE.r (de_call (fun _ _ h => DL.pe_cl Lw.cS hr (by omega) pass0 h) (DA.cons (DE.r (de_meth1 (Ec := E0) (fun _ _ _ h1 h2 => pe_meth h1 Lw.MC.cl Lw.MC.me (Lw.MC.fn.mono (by omega)) hr Lw.MC.bi .nil passX0 h2) (dr_var fun _ => pv 5) (dr_var fun _ => pv 7))) (DA.cons (dr_cb1 (fun _ _ h => pe_callB call_len (by rfl) Lw.gL PySem.boot_len h) dcall_len (DR.b (DE.r (de_call (fun _ _ h => DL.pe_cl Lw.cU hr (by omega) pass0 h) (DA.cons (dr_ix (K := K) (fun _ _ _ h1 h2 => pe_ix ix_seq h1 h2 fun _ _ => rfl) (dr_dget (fun _ _ _ h1 h2 => pe_dget (hu_of hr) h1 h2 fun _ _ => rfl) (dr_var fun _ => pv 3) (dr_var fun _ => pv 7)) (dr_c (fun _ => pe_int) fun _ _ => .int 2)) (DA.cons (dr_tup DA.nil) DA.nil)))))) DA.nil)))))) (dss_one (ds_ret (DR.e (dr_c (fun _ => pe_bl) fun _ _ => .bl false)))) dss_nil))), fun n δ Ed pre k => ?_⟩
  obtain ⟨rs, as, ce, ce', x7, x8, fx, hn, rfl⟩ := pre
  have pl := fx.pa.length_eq
  have l4 := fx.lr.l4
  have nda : (as.map (·.z)).Nodup := (fx.pa.map _).nodup_iff.mpr fx.lr.nz
  have ko := ko_of (rs := as) (by omega) nda
  refine ⟨_, rfl, tbOf rs, rfl, ?_⟩
  refine dFor_go (fun ds' n' δ' => ∃ (pre rest : List JR) (x7 : Sl), rs = pre ++ rest ∧ ds' = (rest.map (·.z)).map .str ∧ n' = n ∧ δ' = dl S t (jbs rs) (.own (.dic [])) (mds C as ce) (.ro (.dic ce')) x7 x8 .no .no .no .no .no) ?_ ?_ ⟨[], rs, x7, rfl, by unfold tbOf; rw [List.map_map, List.map_map]; rfl, rfl, by kernel_rfl⟩
  · rintro n' δ' ⟨pre, rest, x7, e1, e2, rfl, rfl⟩
    exact k _ _ ⟨rs, as, ce, ce', _, x8, fx, hn, rfl⟩
  · rintro y r n' δ' R hR ⟨pre, rest, x7, e1, e2, rfl, rfl⟩
    cases rest with
    | nil => cases e2
    | cons j rest =>
      rw [List.map_cons, List.map_cons] at e2
      injection e2 with e3 e4
      subst e3 e4
      have hj : j ∈ rs := by rw [e1]; simp
      have ha : j ∈ as := fx.pa.symm.subset hj
      refine ⟨_, rfl, _, rfl, rfl, _, rfl, tbOf as, csOf as, ce, as.map (·.z), .str j.z, "str", rfl, ko, rfl, .inl ⟨j.z, List.mem_map.mpr ⟨j, ha, rfl⟩, .int (countD j.ps), rfl, cs_val nda j ha, ?_⟩⟩
      refine ⟨_, rfl, _, rfl, _, rfl, tbOf rs, .inr j.z, j.tup, rfl, rfl, tb_val fx.lr.nz j hj, _, 2, _, rfl, rfl, rfl, ?_⟩
      refine ⟨[], rfl, Nat.zero_le _, j.ps, [], rfl, wf_lawf 3 thingsL j.ps things_all (fx.lr.wf j hj), (by show 0 + 3 ≤ 10; omega), _, rfl, _, rfl, ?_⟩
      exact ⟨.int (countD j.ps), by rw [units_many 3 thingsL j.ps (fx.lr.wf j hj) j.ps (fun _ h => h) [] 0], trivial, _, rfl, _, rfl, dF (hR _ _ ⟨pre ++ [j], rest, .ro (.str j.z), by rw [e1, List.append_assoc]; rfl, rfl, rfl, by kernel_rfl⟩)⟩
theorem law8 (Lw : LawH P K mg base tb cd C cJ cN cT cC cM gI gJ gC gE gS dI dJ dC dE dS) (hr : Room 17 (A.deeper (envOfC "law" (defScope sLaw) s.heap.objs.size f (.ref cd)))) :
    StepD (fun _ : Unit => lawX P Wd.w K mg base f cd A outer s H E) ⟨E, Xd⟩ (stl 8) (PreM (fun as ce => mds C as ce) S t) (PreM (fun as ce => mds C as ce) S t) := by
  have l63 := sizeLine_eq
  refine ⟨_, (ds_for (vs := [8]) (fun _ => PassesOwn.never) (fun _ => rfl) (di_keys (dr_var fun _ => pv 6) fun _ _ h => pi_keys h) (dg_name (i := 8) (fun _ => pg_name (i := 8) scLaw.nd rfl (Or.inr rfl)) (by decide)) (dss_one (ds_if (dt_not (dt_val (DE.r (de_call (fun _ _ h => DL.pe_cl Lw.cS hr (by omega) pass0 h) (DA.cons (DE.r (de_meth1 (Ec := E0) (fun _ _ _ h1 h2 => pe_meth h1 Lw.ME.cl Lw.ME.me (Lw.ME.fn.mono (by omega)) hr Lw.ME.bi .nil passX0 h2) (dr_var fun _ => pv 5) (dr_var fun _ => pv 8))) (DA.cons (dr_dget (fun _ _ _ h1 h2 => pe_dget (hu_of hr) h1 h2 fun _ _ => rfl) (dr_var fun _ => pv 6) (dr_var fun _ => pv 8)) DA.nil)))))) (dss_one (ds_ret (DR.e (dr_c (fun _ => pe_bl) fun _ _ => .bl false)))) dss_nil))), fun n δ Ed pre k => ?_⟩
  obtain ⟨rs, as, ce, ce', x7, x8, fx, hn, rfl⟩ := pre
  obtain ⟨es, cb, ev⟩ := fx.cb
  obtain ⟨ks, hks⟩ := ceil_keys fx.ca
  refine ⟨_, rfl, ce', rfl, ?_⟩
  refine dFor_go (fun ds' n' δ' => ∃ (pre rest : List (Key × Dt)) (x8 : Sl), ce' = pre ++ rest ∧ ds' = rest.map (fun p => keyT p.1) ∧ n' = n ∧ δ' = dl S t (jbs rs) (.own (.dic [])) (mds C as ce) (.ro (.dic ce')) x7 x8 .no .no .no .no .no) ?_ ?_ ⟨[], ce', x8, rfl, rfl, rfl, by kernel_rfl⟩
  · rintro n' δ' ⟨pre, rest, x8, e1, e2, rfl, rfl⟩
    exact k _ _ ⟨rs, as, ce, ce', x7, _, fx, hn, rfl⟩
  · rintro y r n' δ' R hR ⟨pre, rest, x8, e1, e2, rfl, rfl⟩
    cases rest with
    | nil => cases e2
    | cons p rest =>
      rw [List.map_cons] at e2
      injection e2 with e3 e4
      subst e3 e4
      obtain ⟨z, i, rfl⟩ := cb.keys p (by rw [e1]; simp)
      have nk : (Sum.inr z : Key) ∉ pre.map (·.1) := fun q => by
        have nd := cb.nd
        rw [e1, List.map_append, List.nodup_append] at nd
        exact nd.2.2 _ q _ (by simp) rfl
      have v2 : valD ce' (.inr z) = some (.int i) := by rw [e1]; exact valD_at nk
      have v1 : valD ce (.inr z) = some (.int i) := by rw [CeilOf.same fx.ca cb (fun e => (evs_perm fx.pa e).trans (ev e).symm) z]; exact v2
      have zm : z ∈ ks := by
        have e := valD_some hks z
        rw [v1] at e
        exact of_decide_eq_true e.symm
      exact ⟨_, rfl, _, rfl, rfl, _, rfl, tbOf as, csOf as, ce, ks, .str z, "str", rfl, hks, rfl, .inl ⟨z, zm, .int i, rfl, v1, _, rfl, _, rfl, _, rfl, ce', .inr z, .int i, rfl, rfl, v2, .int i, rfl, trivial, _, rfl, _, rfl, dF (hR _ _ ⟨pre ++ [(.inr z, .int i)], rest, .ro (.str z), by rw [e1, List.append_assoc]; rfl, rfl, rfl, by kernel_rfl⟩)⟩⟩
def PreO (C : Addr) (S : Dt) (t : Int) (n : Nat) (δ : List Sl) : Prop := ∃ rs as ce ce' x7 x8 w, FxL rs as ce ce' ∧ n ≤ 801 ∧ w ∈ rs.map (·.z) ∧ δ = dl S t (jbs rs) (.own (.dic [])) (mds C as ce) (.ro (.dic ce')) x7 x8 (.ro (.dic (tbOf (rs.map (othR w))))) .no .no .no .no
def PreN (C : Addr) (S : Dt) (t : Int) (n : Nat) (δ : List Sl) : Prop := ∃ rs as ce ce' x7 x8 x9, FxL rs as ce ce' ∧ n ≤ 1101 ∧ δ = dl S t (jbs rs) (.own (.dic [])) (mds C as ce) (.ro (.dic ce')) x7 x8 x9 .no .no .no .no
theorem law9 (Lw : LawH P K mg base tb cd C cJ cN cT cC cM gI gJ gC gE gS dI dJ dC dE dS) (hr : Room 17 (A.deeper (envOfC "law" (defScope sLaw) s.heap.objs.size f (.ref cd)))) :
    StepD (fun _ : Unit => lawX P Wd.w K mg base f cd A outer s H E) ⟨E, Xd⟩ (stl 9) (PreM (fun as ce => mds C as ce) S t) (PreO C S t) := by
  have l63 := sizeLine_eq
  refine ⟨_, (ds_set (i := 9) (fun _ _ h => ps_set (i := 9) scLaw.nd rfl (Or.inl rfl) h) (DR.e (DE.z (de_dictP (K := K) (fun _ _ h => pe_callTy (call_dictP rfl) (by rfl) Lw.g_dict (by decide +kernel) (pa_cons h pa_nil)) (DR.b (DE.r (de_lc (own := [("job", 7)]) (fun _ => rfl) (fun _ => scLaw.nd) (di_keys (dr_var fun _ => pv 3) fun _ _ h => pi_keys h) (fun _ => blkOk_by (own := [("job", 7)]) (N := ["script", "turn", "pool", "jobs", "handed", "made", "ceilings", "job", "thing", "other", "odd", "found", "bad", "key"]) (sc := defScope sLaw) (by decide +kernel)) (dg_name (i := 7) (fun _ => pg_name (i := 7) scLaw.nd rfl (Or.inl rfl)) (by decide)) dts_nil (dr_tup (DA.cons (dr_var fun _ => pv 7) (DA.cons (dr_tup (DA.cons (dr_ix (K := K) (fun _ _ _ h1 h2 => pe_ix ix_seq h1 h2 fun _ _ => rfl) (dr_dget (fun _ _ _ h1 h2 => pe_dget (hu_of hr) h1 h2 fun _ _ => rfl) (dr_var fun _ => pv 3) (dr_var fun _ => pv 7)) (dr_c (fun _ => pe_int) fun _ _ => .int 0)) (DA.cons (dr_op (fun _ _ _ h1 h2 => pe_op op_add h1 h2) (dop_i rfl (gd := fun i j => .int (i + j)) fun _ _ => sc_int) (dr_ix (K := K) (fun _ _ _ h1 h2 => pe_ix ix_seq h1 h2 fun _ _ => rfl) (dr_dget (fun _ _ _ h1 h2 => pe_dget (hu_of hr) h1 h2 fun _ _ => rfl) (dr_var fun _ => pv 3) (dr_var fun _ => pv 7)) (dr_c (fun _ => pe_int) fun _ _ => .int 1)) (DR.b (dr_intB (fun _ _ h => pe_callTy call_int1 (by rfl) Lw.g_int (by decide +kernel) (pa_cons h pa_nil)) (dr_op (fun _ _ _ h1 h2 => pe_cmpR (op_eqS hr.units) h1 h2 (nomark _)) dop_eqS (dr_var fun _ => pv 7) (DR.b (dr_minS (fun _ _ h => pe_callB (cr_minS rfl) (by rfl) Lw.g_min (by decide +kernel) (pa_cons h pa_nil)) (db_var fun _ => pv 3))))))) (DA.cons (dr_ix (K := K) (fun _ _ _ h1 h2 => pe_ix ix_seq h1 h2 fun _ _ => rfl) (dr_dget (fun _ _ _ h1 h2 => pe_dget (hu_of hr) h1 h2 fun _ _ => rfl) (dr_var fun _ => pv 3) (dr_var fun _ => pv 7)) (dr_c (fun _ => pe_int) fun _ _ => .int 2)) DA.nil)))) DA.nil)))))))))), fun n δ Ed pre k => ?_⟩
  obtain ⟨rs, as, ce, ce', x7, x8, fx, hn, rfl⟩ := pre
  have l1 := fx.lr.l1
  have l4 := fx.lr.l4
  refine ⟨_, rfl, tbOf rs, rfl, ?_⟩
  refine dLc_go (fun ds' acc n' δ' => ∃ pre rest : List JR, rs = pre ++ rest ∧ acc = pre.map (fun r => Dt.tup [.str r.z, (othR (minK (rs.map (·.z))) r).tup]) ∧ ds' = (rest.map (·.z)).map .str ∧ n' = n ∧ δ' = dl S t (jbs rs) (.own (.dic [])) (mds C as ce) (.ro (.dic ce')) .no x8 .no .no .no .no .no) ?_ ?_ ⟨[], rs, rfl, rfl, by unfold tbOf; rw [List.map_map, List.map_map]; rfl, rfl, by kernel_rfl⟩
  · rintro acc n' δ' ⟨pre, rest, e1, rfl, e2, rfl, rfl⟩
    have : rest = [] := by
      cases rest with
      | nil => rfl
      | cons _ _ => cases e2
    subst this
    rw [List.append_nil] at e1
    subst e1
    have lo := law_oth fx.lr (minK (rs.map (·.z)))
    have ne : rs.map (·.z) ≠ [] := fun z => by
      have := congrArg List.length z
      rw [List.length_map] at this
      exact absurd this (by simp; intro z2; rw [z2] at l1; exact absurd l1 (by decide))
    refine ⟨_, rfl, tbOf (rs.map (othR (minK (rs.map (·.z))))), ?_, ?_, _, rfl, k _ _ ⟨rs, as, ce, ce', _, x8, minK (rs.map (·.z)), fx, hn, ?_, rfl⟩⟩
    · unfold tbOf
      rw [List.map_map, List.map_map]
      refine congrArg Dt.lst (List.map_congr_left fun r _ => ?_)
      show Dt.tup [.str r.z, _] = Dt.tup [.str (othR _ r).z, _]
      rw [oth_z]
    · rw [tb_keys]
      exact List.Pairwise.map _ (fun a b (h : a ≠ b) z => h (Sum.inr.inj z)) lo.nz
    · exact minK_mem ne
  · rintro y r acc n' δ' R hR ⟨pre, rest, e1, rfl, e2, rfl, rfl⟩
    cases rest with
    | nil => cases e2
    | cons j rest =>
      rw [List.map_cons, List.map_cons] at e2
      injection e2 with e3 e4
      subst e3 e4
      have hj : j ∈ rs := by rw [e1]; simp
      have ne : rs.map (·.z) ≠ [] := fun z => by
        rw [e1] at z
        simp at z
      refine dT ⟨_, rfl, _, rfl, _, rfl, tbOf rs, .inr j.z, j.tup, rfl, rfl, tb_val fx.lr.nz j hj, _, 0, _, rfl, rfl, rfl, ?_⟩
      refine ⟨_, rfl, _, rfl, tbOf rs, .inr j.z, j.tup, rfl, rfl, tb_val fx.lr.nz j hj, _, 1, _, rfl, rfl, rfl, ?_⟩
      refine ⟨_, rfl, .dic (tbOf rs), .ro _, rfl, rfl, tbOf rs, rs.map (·.z), rfl, tb_keys rs, ne, fun w ew hw => ?_⟩
      obtain rfl := ew
      have ow : ∀ z ∈ rs.map (·.z), okD 64 (.str z) = true := fun z hz => by
        obtain ⟨r, hr, rfl⟩ := List.mem_map.mp hz
        rw [okD]
        exact word_ok (words_all _ (fx.lr.zw r hr))
      refine .inl ⟨ow _ (List.mem_map.mpr ⟨j, hj, rfl⟩), ow _ hw, _, rfl, _, _, rfl, rfl, ?_⟩
      refine ⟨_, rfl, _, rfl, tbOf rs, .inr j.z, j.tup, rfl, rfl, tb_val fx.lr.nz j hj, _, 2, _, rfl, rfl, rfl, [_, _, _], rfl, (by show 3 ≤ sizeLine; omega), [_, _], rfl, (by show 2 ≤ sizeLine; omega), ?_, ?_⟩
      · rw [List.length_map]
        have := congrArg List.length e1
        rw [List.length_append] at this
        omega
      · exact hR _ _ _ ⟨pre ++ [j], rest, by rw [e1, List.append_assoc]; rfl, by rw [List.map_append, oth_tup]; rfl, rfl, rfl, by kernel_rfl⟩
theorem law10 (Lw : LawH P K mg base tb cd C cJ cN cT cC cM gI gJ gC gE gS dI dJ dC dE dS) (hr : Room 17 (A.deeper (envOfC "law" (defScope sLaw) s.heap.objs.size f (.ref cd)))) :
    StepD (fun _ : Unit => lawX P Wd.w K mg base f cd A outer s H E) ⟨E, Xd⟩ (stl 10) (PreO C S t) (PreN C S t) := by
  have l63 := sizeLine_eq
  refine ⟨_, (ds_if (DW.t (dw_or (dt_not (dt_own (Ec := E0) (fun _ _ _ h1 h2 => pt_cmpR (op_eqW Lw.eF Lw.eS Lw.eI Lw.eB pass0 (hr.mono (by omega))) h1 h2 (nomark _)) Lw.eN (dr_var fun _ => pv 5) (DE.r (de_call (fun _ _ h => DL.pe_cl Lw.cMd hr (by omega) pass0 h) (DA.pool (de_pool fun _ => pv 2) (DA.cons (dr_var fun _ => pv 3) DA.nil)))))) (dw_or (dt_own (Ec := E0) (fun _ _ _ h1 h2 => pt_cmpR (op_eqW Lw.eF Lw.eS Lw.eI Lw.eB pass0 (hr.mono (by omega))) h1 h2 (nomark _)) Lw.eN (dr_var fun _ => pv 5) (dr_mkJ0 (fun _ _ h => pe_make Lw.MJ.mke Lw.MJ.fn (hr.mono (by omega)) (by rfl) Lw.MJ.gC Lw.MJ.bi .nil passX0 h) (dr_var fun _ => pv 9))) (dw_or1 (dt_own (Ec := E0) (fun _ _ _ h1 h2 => pt_cmpR (op_eqW Lw.eF Lw.eS Lw.eI Lw.eB pass0 (hr.mono (by omega))) h1 h2 (nomark _)) Lw.eN (dr_var fun _ => pv 5) (dr_var fun _ => pv 3)))))) (dss_one (ds_ret (DR.e (dr_c (fun _ => pe_bl) fun _ _ => .bl false)))) dss_nil), fun n δ Ed pre k => ?_⟩
  obtain ⟨rs, as, ce, ce', x7, x8, w, fx, hn, hw, rfl⟩ := pre
  have oa := ok_tb fx.lr (sub_perm fx.pa)
  have lo := law_oth fx.lr w
  refine ⟨_, rfl, rfl, rfl, _, rfl, rs, rfl, fx.lr, by omega, fun bs cb n' pb sb cc hn' => ⟨_, rfl, ⟨_, rfl⟩, .inl ⟨_, rfl⟩, tbOf as, csOf as, ce, _, rfl, oa, .inl ⟨tbOf bs, csOf bs, cb, rfl, ok_tb fx.lr (sub_perm pb), true, by rw [eqDic_perm fx.lr fx.pa pb], dF ?_⟩⟩⟩
  refine ⟨_, rfl, _, rfl, tbOf (rs.map (othR w)), rs.map (othR w), rfl, goodJ_of lo (.refl _) (hdR_refl _), fun bs2 cb2 pb2 sb2 cc2 => ⟨⟨_, rfl⟩, .inl ⟨_, rfl⟩, tbOf as, csOf as, ce, _, rfl, oa, .inl ⟨tbOf bs2, csOf bs2, cb2, rfl, ok_tb lo (sub_perm pb2), false, by rw [eqDic_oth fx.lr hw fx.pa pb2], dF ?_⟩⟩⟩
  exact ⟨_, rfl, _, rfl, ⟨_, rfl⟩, .inr ⟨_, rfl⟩, tbOf as, csOf as, ce, _, rfl, oa, .inr ⟨_, rfl, false, rfl, dF (k _ _ ⟨rs, as, ce, ce', x7, x8, _, fx, by omega, rfl⟩)⟩⟩
end
end K59
/-! ## K60l -/
set_option Elab.async false
set_option linter.all false
set_option maxRecDepth 100000
set_option maxHeartbeats 4000000
/-! k59: the law's own text: what is refused. -/
namespace K59
open PySem PySem.Spec PyProof.Rows L2 DL
/-- one step of a reading by trees -/
local macro_rules | `(tactic| walk_at "dl") => `(tactic| first
  | refine ⟨_, rfl, ?_⟩
  | refine ⟨[], rfl, Nat.zero_le _, ?_⟩
  | refine ⟨[_, _], rfl, (by show 2 ≤ sizeLine; omega), ?_⟩
  | refine ⟨[_, _, _, _], rfl, (by show 4 ≤ sizeLine; omega), ?_⟩
  | refine ⟨[_, _, _, _, _], rfl, (by show 5 ≤ sizeLine; omega), ?_⟩
  | refine ⟨[_, _, _, _, _, _], rfl, (by show 6 ≤ sizeLine; omega), ?_⟩
  | refine ⟨[_, _, _, _, _, _, _], rfl, (by show 7 ≤ sizeLine; omega), ?_⟩)
theorem tell_mono : ∀ (m : Nat) (d : Dt), Tell m d → Tell (m + 1) d
  | 0, _, h => h.elim
  | m + 1, .non, _ => trivial
  | m + 1, .bl _, _ => trivial
  | m + 1, .int _, _ => trivial
  | m + 1, .str _, h => h
  | m + 1, .lst ds, h => ⟨h.1, fun x hx => tell_mono m x (h.2 x hx)⟩
  | m + 1, .tup ds, h => ⟨h.1, fun x hx => tell_mono m x (h.2 x hx)⟩
  | m + 1, .dic _, h => h
  | m + 1, .mix _, h => h.elim
  | m + 1, .set _ _, h => h.elim
  | m + 1, .ins _ _, h => h.elim
  | m + 1, .any, h => h.elim
  | m + 1, .raw _, h => h.elim
theorem tell9 {d : Dt} (h : Tell 2 d) : Tell 9 d := tell_mono 8 d (tell_mono 7 d (tell_mono 6 d (tell_mono 5 d (tell_mono 4 d (tell_mono 3 d (tell_mono 2 d h))))))
theorem ths_in : ∀ (m : Nat) (ts : List Str) (ps : List Part), Wf m ts ps → ∀ (qs : List Part), (∀ p ∈ qs, p ∈ ps) → ∀ t ∈ thsD qs, t ∈ ts
  | 0, _, _, h, _, _, _, _ => h.elim
  | m + 1, ts, ps, wf, [], _, t, ht => by
    rw [thsD] at ht
    cases ht
  | m + 1, ts, ps, wf, p :: r, sub, t, ht => by
    rw [thsD, List.mem_append] at ht
    rcases ht with ht | ht
    · have hq := wf.2.2 p (sub p List.mem_cons_self)
      cases p with
      | unit k =>
        rw [thsP] at ht
        cases ht
      | inn t' b =>
        obtain ⟨ht', left, hl, wfb⟩ := hq
        rw [thsP] at ht
        rcases List.mem_cons.mp ht with rfl | ht
        · exact ht'
        · exact (hl t (ths_in m left b wfb b (fun _ h => h) t ht)).1
    · exact ths_in (m + 1) ts ps wf r (fun q hq => sub q (List.mem_cons_of_mem _ hq)) t ht
def eJ (C : Addr) : Xc := ⟨C, "BadJobs", "job", "jobs"⟩
def eT (C : Addr) : Xc := ⟨C, "NoThing", "thing", "thing"⟩
/-- a thing that is none of some words -/
structure OddW (ws : List Str) (d : Dt) : Prop where
  ty : ∃ ty, tyD d = some ty
  no : ∀ z ∈ ws, d ≠ .str z
  te : Tell 2 d
abbrev e1 (odd : Dt) : Dt := .tup [.str "job", odd]
abbrev e2 (thing : Dt) : Dt := .tup [.str "thing", thing]
abbrev e3 (key : Dt) : Dt := .tup [.str "jobs", key]
abbrev e4 : Dt := .tup [.str "jobs", .non]
def PreQ (C : Addr) (S : Dt) (t : Int) (n0 : Nat) (R : Sl → Sl → Sl → Sl → Sl → Prop) (n : Nat) (δ : List Sl) : Prop := ∃ rs as ce ce' x7 x8 x9 x10 x11 x12 x13, FxL rs as ce ce' ∧ n ≤ n0 ∧ R x8 x10 x11 x12 x13 ∧ δ = dl S t (jbs rs) (.own (.dic [])) (mds C as ce) (.ro (.dic ce')) x7 x8 x9 x10 x11 x12 x13
def R11 (x8 x10 x11 x12 x13 : Sl) : Prop := ∃ odd, x10 = .ro odd ∧ OddW wordsL odd ∧ x11 = .no ∧ x12 = .no ∧ x13 = .no
def R12 (x8 x10 x11 x12 x13 : Sl) : Prop := ∃ odd thing, x8 = .ro thing ∧ x10 = .ro odd ∧ OddW wordsL odd ∧ OddW thingsL thing ∧ x11 = .no ∧ x12 = .no ∧ x13 = .no
def R13 (x8 x10 x11 x12 x13 : Sl) : Prop := ∃ odd thing, x8 = .ro thing ∧ x10 = .ro odd ∧ OddW wordsL odd ∧ OddW thingsL thing ∧ x11 = .own (.lst [e1 odd]) ∧ x12 = .no ∧ x13 = .no
def R14 (x8 x10 x11 x12 x13 : Sl) : Prop := ∃ odd thing, x8 = .ro thing ∧ x10 = .ro odd ∧ OddW wordsL odd ∧ OddW thingsL thing ∧ x11 = .own (.lst [e1 odd, e2 thing]) ∧ x12 = .no ∧ x13 = .no
def R15 (x8 x10 x11 x12 x13 : Sl) : Prop := ∃ odd thing es key, x8 = .ro thing ∧ x10 = .ro odd ∧ OddW wordsL odd ∧ OddW thingsL thing ∧ x11 = .own (.lst [e1 odd, e2 thing]) ∧ x12 = .ro (.mix es) ∧ x13 = .ro key ∧ BadJ es key ∧ Tell 2 key
def R16 (x8 x10 x11 x12 x13 : Sl) : Prop := ∃ odd thing es key, x8 = .ro thing ∧ x10 = .ro odd ∧ OddW wordsL odd ∧ OddW thingsL thing ∧ x11 = .own (.lst [e1 odd, e2 thing, e3 key]) ∧ x12 = .ro (.mix es) ∧ x13 = .ro key ∧ BadJ es key ∧ Tell 2 key
def R17 (x8 x10 x11 x12 x13 : Sl) : Prop := ∃ odd thing es key, x8 = .ro thing ∧ x10 = .ro odd ∧ OddW wordsL odd ∧ OddW thingsL thing ∧ x11 = .own (.lst [e1 odd, e2 thing, e3 key, e4]) ∧ x12 = .ro (.mix es) ∧ x13 = .ro key ∧ BadJ es key ∧ Tell 2 key
def R18 (x8 x10 x11 x12 x13 : Sl) : Prop := True
variable [Wd]
section
variable {ι : Type} {X : ι → Cx} {scope : Scope} {k : Nat}
theorem lam_call {E : XK} {Xd : XD} {j : Nat} {x : Str} {C : Ct} {e : Expr} {es : List Expr} {Ts : TAd} {p pos : Pos} (c : ∀ c, DL.Cl (X c).prog (X c).w (X c).K (X c).mg (X c).base CX0 j x (spC C)) (hj : j ≤ k)
    (ha : DA (fun i : (c : ι) × LIx (X c) scope k => i.2.cx E) ⟨E, Xd⟩ (e :: es) Ts) (hg : ∀ i : (c : ι) × LIx (X c) scope k, Gl (i.2.cx E) x := by intro _; rfl) (hdb : (x == ("__debug__" : Str)) = false := by decide) (he : ∀ i : (c : ι) × LIx (X c) scope k, starEach (e :: es) (i.2.cx E).env = (false, eval e (i.2.cx E).env) :: starEach es (i.2.cx E).env := by intro _; rfl) (hpl : ∀ i : (c : ι) × LIx (X c) scope k, (backTo pos (starEach es (i.2.cx E).env)).any (·.1) = false := by intro _; rfl) :
    DE (fun i : (c : ι) × LIx (X c) scope k => i.2.cx E) ⟨E, Xd⟩ (.Call (.Name x p) (e :: es) [] pos) (fun n δ Q => Ts n δ fun rs n' δ' => C rs n' (fun r n'' => Q r n'' δ') fun _ _ _ _ => False) := de_call (Ec := E) (fun i _ h => DL.pe_cl (c i.1) i.2.room hj pass0 h (hg i) (hdb := hdb) (he := he i) (hpl := hpl i)) ha
theorem lam_meth {E : XK} {Xd : XD} {j : Nat} {C f : Addr} {fd : FuncData} {ps : List Str} {m : Str} {Ct : Ct} {o a : Expr} {T Ta : TRd} {apos pos : Pos} {pl : ((c : ι) × LIx (X c) scope k) → Sem Bool} (M : ∀ c, Mth (X c).prog (X c).w (X c).K (X c).mg (X c).base (L2.CX (X c).prog (X c).w) j C m f fd ps (spC Ct)) (hj : j ≤ k)
    (h : DR (fun i : (c : ι) × LIx (X c) scope k => i.2.cx E) ⟨E, Xd⟩ o T) (ha : DR (fun i : (c : ι) × LIx (X c) scope k => i.2.cx E) ⟨E, Xd⟩ a Ta)
    (hst : ∀ i : (c : ι) × LIx (X c) scope k, starEach (a :: []) (i.2.cx E).env = (false, eval a (i.2.cx E).env) :: starEach [] (i.2.cx E).env := by intro _; rfl) (hpl : ∀ i : (c : ι) × LIx (X c) scope k, (backTo pos (starEach [] (i.2.cx E).env)).any (·.1) = false := by intro _; rfl)
    (ht : ∀ i : (c : ι) × LIx (X c) scope k, eval (.Call (.Attribute o m apos) (a :: []) [] pos) (i.2.cx E).env = (do
      let ov ← eval o (i.2.cx E).env
      standAt apos.atName
      let (f, first) ← holding [ov] (getMethod ov m (pl i))
      callWith pos f first (backTo pos (starEach (a :: []) (i.2.cx E).env)) (backToKw pos (keywordEach [] (i.2.cx E).env))) := by intro _; rfl) :
    DE (fun i : (c : ι) × LIx (X c) scope k => i.2.cx E) ⟨E, Xd⟩ (.Call (.Attribute o m apos) (a :: []) [] pos) (fun n δ Q => T n δ fun d n1 δ1 => ∃ ks, d = .ins C ks ∧ ks.lookup m = none ∧ Ta n1 δ1 fun d2 n2 δ2 => Ct [.ro d, .ro d2] n2 (fun r n3 => Q r n3 δ2) Xd) :=
  de_meth1X (ac := ⟨E, Xd⟩) (fun i _ _ h1 h2 => pe_meth (pl := pl i) h1 (M i.1).cl (M i.1).me ((M i.1).fn.mono hj) i.2.room (M i.1).bi .nil (lamPass i.2) h2 (hst i) (hpl i) (ht i)) h ha hst
theorem lam_mkJ {E : XK} {Xd : XD} {C CJ f : Addr} {fd : FuncData} {ps : List Str} {mj : Nat} {a : Expr} {T : TRd} {p pos : Pos} {j : Nat} (M : ∀ c, MakC (X c).prog (X c).w (X c).K (X c).mg (X c).base (L2.CX (X c).prog (X c).w) j "Jobs" C f fd ps (spJI mj C CJ)) (hj : j + 1 ≤ k)
    (h : DR (fun i : (c : ι) × LIx (X c) scope k => i.2.cx E) ⟨E, Xd⟩ a T) (hg : ∀ i : (c : ι) × LIx (X c) scope k, Gl (i.2.cx E) "Jobs" := by intro _; rfl)
    (hst : ∀ i : (c : ι) × LIx (X c) scope k, starEach (a :: []) (i.2.cx E).env = (false, eval a (i.2.cx E).env) :: starEach [] (i.2.cx E).env := by intro _; rfl) (hpl : ∀ i : (c : ι) × LIx (X c) scope k, (backTo pos (starEach [] (i.2.cx E).env)).any (·.1) = false := by intro _; rfl) :
    DR (fun i : (c : ι) × LIx (X c) scope k => i.2.cx E) ⟨E, Xd⟩ (.Call (.Name "Jobs" p) (a :: []) [] pos) (fun n δ Q => T n δ fun d n' δ' => (∃ kvs rs, d = .dic kvs ∧ GoodJ mj kvs rs ∧ ∀ rs' ce, rs'.Perm rs → sortedS (rs'.map (·.z)) = true → CeilOf (evs rs') ce → Q (jobsT C (tbOf rs') (csOf rs') ce) n' δ') ∨ cCJ mj CJ [.ro d] n' (fun _ _ => False) Xd) :=
  dr_mkJ (ac := ⟨E, Xd⟩) (fun i _ h => pe_make (M i.1).mke (M i.1).fn (i.2.room.mono hj) (hg i) (M i.1).gC (M i.1).bi .nil (lamPass i.2) h (by decide) (hst i) (hpl i)) h hst
end
section
variable {P : Program} {K : PySem.W.Frag} {mg : Str → Option Value} {base : Heap} {f tb cd C cJ cN cT cC cM gI gJ gC gE gS : Addr} {dI dJ dC dE dS : FuncData} {A : Around} {outer : List Env} {s : Shared} {H : Hp} {E : XK} {Xd : XD} {S : Dt} {t : Int}
theorem law11 (Lw : LawH P K mg base tb cd C cJ cN cT cC cM gI gJ gC gE gS dI dJ dC dE dS) (hr : Room 18 (A.deeper (envOfC "law" (defScope sLaw) s.heap.objs.size f (.ref cd)))) :
    StepD (fun _ : Unit => lawX P Wd.w K mg base f cd A outer s H E) ⟨E, Xd⟩ (stl 11) (PreN C S t) (PreQ C S t 1102 R11) := by
  have l63 := sizeLine_eq
  refine ⟨_, (ds_set (i := 10) (fun _ _ h => ps_set (i := 10) scLaw.nd rfl (Or.inr rfl) h) (de_call (fun _ _ h => DL.pe_cl Lw.cO hr (by omega) pass0 h) (DA.pool (de_pool fun _ => pv 2) (DA.cons (DE.r (de_lst (DA.cons (dr_c (fun _ => pe_non) fun _ _ => .non) (DA.cons (dr_c (fun _ => pe_int) fun _ _ => .int 5) (DA.cons (dr_c (fun _ => pe_str) fun _ _ => .str "") (DA.cons (dr_c (fun _ => pe_str) fun _ _ => .str "nobody") (DA.cons (DE.r (de_lst DA.nil)) (DA.cons (DE.z de_dic) (DA.cons (dr_c (fun _ => pe_bl) fun _ _ => .bl true) DA.nil))))))))) DA.nil)))), fun n δ Ed pre k => ?_⟩
  obtain ⟨rs, as, ce, ce', x7, x8, x9, fx, hn, rfl⟩ := pre
  refine ⟨rfl, rfl, ?_⟩
  repeat walk_at "dl"
  refine ⟨by omega, (by show 0 < 7; omega), (by show 7 < 2 ^ 30; omega), fun odd ho => k _ _ ⟨rs, as, ce, ce', x7, x8, x9, .ro odd, .no, .no, .no, fx, by omega, ⟨odd, rfl, ?_, rfl, rfl, rfl⟩, rfl⟩⟩
  have nb : ("nobody" : Str) ∉ wordsL ∧ ("" : Str) ∉ wordsL := by decide +kernel
  simp only [List.mem_cons, List.not_mem_nil, or_false] at ho
  rcases ho with rfl | rfl | rfl | rfl | rfl | rfl | rfl
  · exact ⟨⟨_, rfl⟩, fun z _ e => Dt.noConfusion e, trivial⟩
  · exact ⟨⟨_, rfl⟩, fun z _ e => Dt.noConfusion e, trivial⟩
  · exact ⟨⟨_, rfl⟩, fun z h e => nb.2 (by injection e with e; rw [e]; exact h), by show PyData.strOk _ = true; decide +kernel⟩
  · exact ⟨⟨_, rfl⟩, fun z h e => nb.1 (by injection e with e; rw [e]; exact h), by show PyData.strOk _ = true; decide +kernel⟩
  · exact ⟨⟨_, rfl⟩, fun z _ e => Dt.noConfusion e, Nat.zero_le _, fun x h => by cases h⟩
  · exact ⟨⟨_, rfl⟩, fun z _ e => Dt.noConfusion e, rfl⟩
  · exact ⟨⟨_, rfl⟩, fun z _ e => Dt.noConfusion e, trivial⟩
theorem law12 (Lw : LawH P K mg base tb cd C cJ cN cT cC cM gI gJ gC gE gS dI dJ dC dE dS) (hr : Room 18 (A.deeper (envOfC "law" (defScope sLaw) s.heap.objs.size f (.ref cd)))) :
    StepD (fun _ : Unit => lawX P Wd.w K mg base f cd A outer s H E) ⟨E, Xd⟩ (stl 12) (PreQ C S t 1102 R11) (PreQ C S t 1103 R12) := by
  have l63 := sizeLine_eq
  refine ⟨_, (ds_set (i := 8) (fun _ _ h => ps_set (i := 8) scLaw.nd rfl (Or.inr rfl) h) (de_call (fun _ _ h => DL.pe_cl Lw.cO hr (by omega) pass0 h) (DA.pool (de_pool fun _ => pv 2) (DA.cons (DE.r (de_lst (DA.cons (dr_c (fun _ => pe_non) fun _ _ => .non) (DA.cons (dr_c (fun _ => pe_int) fun _ _ => .int 5) (DA.cons (dr_c (fun _ => pe_str) fun _ _ => .str "") (DA.cons (dr_c (fun _ => pe_str) fun _ _ => .str "nothing") (DA.cons (DE.r (de_lst DA.nil)) (DA.cons (DE.z de_dic) DA.nil)))))))) DA.nil)))), fun n δ Ed pre k => ?_⟩
  obtain ⟨rs, as, ce, ce', x7, x8, x9, x10, x11, x12, x13, fx, hn, ⟨odd, rfl, o1, rfl, rfl, rfl⟩, rfl⟩ := pre
  refine ⟨rfl, rfl, ?_⟩
  repeat walk_at "dl"
  refine ⟨by omega, (by show 0 < 6; omega), (by show 6 < 2 ^ 30; omega), fun thing ho => k _ _ ⟨rs, as, ce, ce', x7, .ro thing, x9, .ro odd, .no, .no, .no, fx, by omega, ⟨odd, thing, rfl, rfl, o1, ?_, rfl, rfl, rfl⟩, rfl⟩⟩
  have nb : ("nothing" : Str) ∉ thingsL ∧ ("" : Str) ∉ thingsL := by decide +kernel
  simp only [List.mem_cons, List.not_mem_nil, or_false] at ho
  rcases ho with rfl | rfl | rfl | rfl | rfl | rfl
  · exact ⟨⟨_, rfl⟩, fun z _ e => Dt.noConfusion e, trivial⟩
  · exact ⟨⟨_, rfl⟩, fun z _ e => Dt.noConfusion e, trivial⟩
  · exact ⟨⟨_, rfl⟩, fun z h e => nb.2 (by injection e with e; rw [e]; exact h), by show PyData.strOk _ = true; decide +kernel⟩
  · exact ⟨⟨_, rfl⟩, fun z h e => nb.1 (by injection e with e; rw [e]; exact h), by show PyData.strOk _ = true; decide +kernel⟩
  · exact ⟨⟨_, rfl⟩, fun z _ e => Dt.noConfusion e, Nat.zero_le _, fun x h => by cases h⟩
  · exact ⟨⟨_, rfl⟩, fun z _ e => Dt.noConfusion e, rfl⟩
theorem law13 (Lw : LawH P K mg base tb cd C cJ cN cT cC cM gI gJ gC gE gS dI dJ dC dE dS) (hr : Room 18 (A.deeper (envOfC "law" (defScope sLaw) s.heap.objs.size f (.ref cd)))) :
    StepD (fun _ : Unit => lawX P Wd.w K mg base f cd A outer s H E) ⟨E, Xd⟩ (stl 13) (PreQ C S t 1103 R12) (PreQ C S t 1103 R13) := by
  have l63 := sizeLine_eq
  refine ⟨_, (ds_set (i := 11) (fun _ _ h => ps_set (i := 11) scLaw.nd rfl (Or.inl rfl) h) (de_lst (DA.cons (dr_met (k := 16) (fun _ => Lw.mD) (fun _ => Lw.tB) (fun _ => rfl) (fun _ => rfl) Lw.hT (fun _ => hr) (fun _ => LamX.lamS_by (sc := defScope sLaw) (by decide +kernel)) (fun _ => rfl) (fun _ _ _ _ _ => rfl) (fun _ => rfl) fun E' Xd' => (lam_meth (fun _ => Lw.MC) (by omega) (dr_var fun _ => pv 5) (dr_var fun _ => pv 10))) DA.nil))), fun n δ Ed pre k => ?_⟩
  obtain ⟨rs, as, ce, ce', x7, x8, x9, x10, x11, x12, x13, fx, hn, ⟨odd, thing, rfl, rfl, o1, o2, rfl, rfl, rfl⟩, rfl⟩ := pre
  have pl := fx.pa.length_eq
  have l4 := fx.lr.l4
  have ko := ko_of (rs := as) (by omega) ((fx.pa.map _).nodup_iff.mpr fx.lr.nz)
  have sub : ∀ z ∈ as.map (·.z), z ∈ wordsL := fun z hz => by
    obtain ⟨r, hr, rfl⟩ := List.mem_map.mp hz
    exact fx.lr.zw r (fx.pa.subset hr)
  obtain ⟨ty, et⟩ := o1.ty
  exact ⟨_, rfl, _, rfl, rfl, _, rfl, tbOf as, csOf as, ce, as.map (·.z), odd, ty, rfl, ko, et, .inr ⟨fun z hz => o1.no z (sub z hz), eN cN, by simp [cs5, eN], rfl, rfl, [_], rfl, (by show 1 ≤ sizeLine; omega), k _ _ ⟨rs, as, ce, ce', x7, .ro thing, x9, .ro odd, _, .no, .no, fx, by omega, ⟨odd, thing, rfl, rfl, o1, o2, rfl, rfl, rfl⟩, rfl⟩⟩⟩
theorem law14 (Lw : LawH P K mg base tb cd C cJ cN cT cC cM gI gJ gC gE gS dI dJ dC dE dS) (hr : Room 18 (A.deeper (envOfC "law" (defScope sLaw) s.heap.objs.size f (.ref cd)))) :
    StepD (fun _ : Unit => lawX P Wd.w K mg base f cd A outer s H E) ⟨E, Xd⟩ (stl 14) (PreQ C S t 1103 R13) (PreQ C S t 1103 R14) := by
  have l63 := sizeLine_eq
  refine ⟨_, (ds_append (K := K) (i := 11) (fun _ _ h => ps_expr (pe_bm PySem.F.plainAttrs_list PySem.F.slot_list_append PySem.F.type_list_append mt_append (pv 11) (pa_cons h pa_nil))) (dr_met (k := 16) (fun _ => Lw.mD) (fun _ => Lw.tB) (fun _ => rfl) (fun _ => rfl) Lw.hT (fun _ => hr) (fun _ => LamX.lamS_by (sc := defScope sLaw) (by decide +kernel)) (fun _ => rfl) (fun _ _ _ _ _ => rfl) (fun _ => rfl) fun E' Xd' => (lam_meth (fun _ => Lw.ME) (by omega) (dr_var fun _ => pv 5) (dr_var fun _ => pv 8)))), fun n δ Ed pre k => ?_⟩
  obtain ⟨rs, as, ce, ce', x7, x8, x9, x10, x11, x12, x13, fx, hn, ⟨odd, thing, rfl, rfl, o1, o2, rfl, rfl, rfl⟩, rfl⟩ := pre
  obtain ⟨ks, hks⟩ := ceil_keys fx.ca
  obtain ⟨ty, et⟩ := o2.ty
  have sub : ∀ z ∈ ks, z ∈ thingsL := fun z hz => by
    have e := valD_some hks z
    rw [decide_eq_true hz] at e
    obtain ⟨d, hd⟩ := Option.isSome_iff_exists.mp e
    obtain ⟨m, e2⟩ | h := (fx.ca.val z).symm
    · have y := (fx.ca.yes z m e2).1
      unfold evs at y
      obtain ⟨r, hr, q⟩ := List.mem_flatMap.mp y
      unfold evsJ at q
      obtain ⟨t', ht, e3⟩ := List.mem_map.mp q
      injection e3 with e4 e5
      rw [← e4]
      exact ths_in 3 thingsL r.ps (fx.lr.wf r (fx.pa.subset hr)) r.ps (fun _ h => h) t' ht
    · rw [h] at hd
      cases hd
  exact ⟨⟨_, rfl⟩, _, rfl, _, rfl, rfl, _, rfl, tbOf as, csOf as, ce, ks, thing, ty, rfl, hks, et, .inr ⟨fun z hz => o2.no z (sub z hz), eT cT, by simp [cs5, eT], rfl, rfl, _, rfl, (by show 1 < sizeLine; omega), k _ _ ⟨rs, as, ce, ce', x7, .ro thing, x9, .ro odd, _, .no, .no, fx, by omega, ⟨odd, thing, rfl, rfl, o1, o2, rfl, rfl, rfl⟩, rfl⟩⟩⟩
theorem law15 (Lw : LawH P K mg base tb cd C cJ cN cT cC cM gI gJ gC gE gS dI dJ dC dE dS) (hr : Room 18 (A.deeper (envOfC "law" (defScope sLaw) s.heap.objs.size f (.ref cd)))) :
    StepD (fun _ : Unit => lawX P Wd.w K mg base f cd A outer s H E) ⟨E, Xd⟩ (stl 15) (PreQ C S t 1103 R14) (PreQ C S t 1123 R15) := by
  have l63 := sizeLine_eq
  refine ⟨_, (ds_unp (vs := [12, 13]) (fun _ _ _ h1 h2 => ps_asg h1 h2) (DE.r (de_call (fun _ _ h => DL.pe_cl Lw.cBJ hr (by omega) pass0 h) (DA.pool (de_pool fun _ => pv 2) (DA.cons (dr_var fun _ => pv 3) DA.nil)))) (dg_tup (K := K) (m := 2) (dgs_cons (dg_name (i := 12) (fun _ => pg_name (i := 12) scLaw.nd rfl (Or.inr rfl)) (by decide)) (dgs_cons (dg_name (i := 13) (fun _ => pg_name (i := 13) scLaw.nd rfl (Or.inl rfl)) (by decide)) dgs_nil)) (fun _ _ h => pg_tup (by rfl) h))), fun n δ Ed pre k => ?_⟩
  obtain ⟨rs, as, ce, ce', x7, x8, x9, x10, x11, x12, x13, fx, hn, ⟨odd, thing, rfl, rfl, o1, o2, rfl, rfl, rfl⟩, rfl⟩ := pre
  refine ⟨rfl, rfl, _, rfl, rs, rfl, fx.lr, by omega, fun es key n' bj hk hn' => ?_⟩
  have tk : Tell 2 key := by
    rcases hk with rfl | rfl | rfl | rfl
    · show PyData.strOk _ = true
      decide +kernel
    · trivial
    · show PyData.strOk _ = true
      decide +kernel
    · trivial
  exact ⟨_, rfl, _, rfl, rfl, _, _, rfl, _, _, rfl, rfl, k _ _ ⟨rs, as, ce, ce', x7, .ro thing, x9, .ro odd, _, .ro (.mix es), .ro key, fx, by omega, ⟨odd, thing, es, key, rfl, rfl, o1, o2, rfl, rfl, rfl, bj, tk⟩, rfl⟩⟩
theorem law16 (Lw : LawH P K mg base tb cd C cJ cN cT cC cM gI gJ gC gE gS dI dJ dC dE dS) (hr : Room 18 (A.deeper (envOfC "law" (defScope sLaw) s.heap.objs.size f (.ref cd)))) :
    StepD (fun _ : Unit => lawX P Wd.w K mg base f cd A outer s H E) ⟨E, Xd⟩ (stl 16) (PreQ C S t 1123 R15) (PreQ C S t 1123 R16) := by
  have l63 := sizeLine_eq
  refine ⟨_, (ds_append (K := K) (i := 11) (fun _ _ h => ps_expr (pe_bm PySem.F.plainAttrs_list PySem.F.slot_list_append PySem.F.type_list_append mt_append (pv 11) (pa_cons h pa_nil))) (dr_met (k := 16) (fun _ => Lw.mD) (fun _ => Lw.tB) (fun _ => rfl) (fun _ => rfl) Lw.hT (fun _ => hr) (fun _ => LamX.lamS_by (sc := defScope sLaw) (by decide +kernel)) (fun _ => rfl) (fun _ _ _ _ _ => rfl) (fun _ => rfl) fun E' Xd' => (DR.e (lam_mkJ (fun _ => Lw.MJ) (by omega) (dr_var fun _ => pv 12))))), fun n δ Ed pre k => ?_⟩
  obtain ⟨rs, as, ce, ce', x7, x8, x9, x10, x11, x12, x13, fx, hn, ⟨odd, thing, es, key, rfl, rfl, o1, o2, rfl, rfl, rfl, bj, tk⟩, rfl⟩ := pre
  obtain ⟨good, p, rest, prs, ees, pr, nd, wr, ek⟩ := bj.ex
  subst ek
  exact ⟨⟨_, rfl⟩, _, rfl, .inr ⟨.mix es, rfl, .inr (.inl ⟨es, good, p, rest, prs, rfl, bj.len, ees, pr, nd, wr, eJ cJ, by simp [cs5, eJ], rfl, rfl, _, rfl, (by show 2 < sizeLine; omega), k _ _ ⟨rs, as, ce, ce', x7, .ro thing, x9, .ro odd, _, .ro (.mix es), .ro p.1, fx, by omega, ⟨odd, thing, es, p.1, rfl, rfl, o1, o2, rfl, rfl, rfl, bj, tk⟩, rfl⟩⟩)⟩⟩
theorem law17 (Lw : LawH P K mg base tb cd C cJ cN cT cC cM gI gJ gC gE gS dI dJ dC dE dS) (hr : Room 18 (A.deeper (envOfC "law" (defScope sLaw) s.heap.objs.size f (.ref cd)))) :
    StepD (fun _ : Unit => lawX P Wd.w K mg base f cd A outer s H E) ⟨E, Xd⟩ (stl 17) (PreQ C S t 1123 R16) (PreQ C S t 1124 R17) := by
  have l63 := sizeLine_eq
  refine ⟨_, (ds_append (K := K) (i := 11) (fun _ _ h => ps_expr (pe_bm PySem.F.plainAttrs_list PySem.F.slot_list_append PySem.F.type_list_append mt_append (pv 11) (pa_cons h pa_nil))) (dr_met (k := 16) (fun _ => Lw.mD) (fun _ => Lw.tB) (fun _ => rfl) (fun _ => rfl) Lw.hT (fun _ => hr) (fun _ => LamX.lamS_by (sc := defScope sLaw) (by decide +kernel)) (fun _ => rfl) (fun _ _ _ _ _ => rfl) (fun _ => rfl) fun E' Xd' => (DR.e (lam_mkJ (fun _ => Lw.MJ) (by omega) (DE.r (lam_call (fun _ => Lw.cO) (by omega) (DA.pool (de_pool fun _ => pv 2) (DA.cons (DE.r (de_lst (DA.cons (dr_c (fun _ => pe_non) fun _ _ => .non) (DA.cons (dr_c (fun _ => pe_int) fun _ _ => .int 5) (DA.cons (DE.r (de_lst DA.nil)) (DA.cons (DE.z de_dic) (DA.cons (dr_c (fun _ => pe_str) fun _ _ => .str "ab") DA.nil))))))) DA.nil)))))))), fun n δ Ed pre k => ?_⟩
  obtain ⟨rs, as, ce, ce', x7, x8, x9, x10, x11, x12, x13, fx, hn, ⟨odd, thing, es, key, rfl, rfl, o1, o2, rfl, rfl, rfl, bj, tk⟩, rfl⟩ := pre
  refine ⟨⟨_, rfl⟩, rfl, rfl, ?_⟩
  repeat walk_at "dl"
  refine ⟨by omega, (by show 0 < 5; omega), (by show 5 < 2 ^ 30; omega), fun d hd => ?_⟩
  have hd2 : (∃ ty, tyD d = some ty ∧ ty ≠ "dict") ∨ d = .dic [] := by
    simp only [List.mem_cons, List.not_mem_nil, or_false] at hd
    rcases hd with rfl | rfl | rfl | rfl | rfl
    · exact .inl ⟨_, rfl, by decide⟩
    · exact .inl ⟨_, rfl, by decide⟩
    · exact .inl ⟨_, rfl, by decide⟩
    · exact .inr rfl
    · exact .inl ⟨_, rfl, by decide⟩
  exact ⟨_, rfl, .inr ⟨d, rfl, .inl ⟨hd2, eJ cJ, by simp [cs5, eJ], rfl, rfl, _, rfl, (by show 3 < sizeLine; omega), k _ _ ⟨rs, as, ce, ce', x7, .ro thing, x9, .ro odd, _, .ro (.mix es), .ro key, fx, by omega, ⟨odd, thing, es, key, rfl, rfl, o1, o2, rfl, rfl, rfl, bj, tk⟩, rfl⟩⟩⟩⟩
theorem law18 (Lw : LawH P K mg base tb cd C cJ cN cT cC cM gI gJ gC gE gS dI dJ dC dE dS) (hr : Room 18 (A.deeper (envOfC "law" (defScope sLaw) s.heap.objs.size f (.ref cd)))) :
    StepD (fun _ : Unit => lawX P Wd.w K mg base f cd A outer s H E) ⟨E, Xd⟩ (stl 18) (PreQ C S t 1124 R17) (PreQ C S t 1124 R18) := by
  have l63 := sizeLine_eq
  refine ⟨_, (ds_if (dt_not (dt_val (DE.r (de_call (fun _ _ h => DL.pe_cl Lw.cS hr (by omega) pass0 h) (DA.cons (dr_rel fun _ => pv 11) (DA.cons (DE.r (de_lst (DA.cons (dr_tup (DA.cons (dr_c (fun _ => pe_str) fun _ _ => .str "job") (DA.cons (dr_var fun _ => pv 10) DA.nil))) (DA.cons (dr_tup (DA.cons (dr_c (fun _ => pe_str) fun _ _ => .str "thing") (DA.cons (dr_var fun _ => pv 8) DA.nil))) (DA.cons (dr_tup (DA.cons (dr_c (fun _ => pe_str) fun _ _ => .str "jobs") (DA.cons (dr_var fun _ => pv 13) DA.nil))) (DA.cons (dr_tup (DA.cons (dr_c (fun _ => pe_str) fun _ _ => .str "jobs") (DA.cons (dr_c (fun _ => pe_non) fun _ _ => .non) DA.nil))) DA.nil)))))) DA.nil)))))) (dss_one (ds_ret (DR.e (dr_c (fun _ => pe_bl) fun _ _ => .bl false)))) dss_nil), fun n δ Ed pre k => ?_⟩
  obtain ⟨rs, as, ce, ce', x7, x8, x9, x10, x11, x12, x13, fx, hn, ⟨odd, thing, es, key, rfl, rfl, o1, o2, rfl, rfl, rfl, bj, tk⟩, rfl⟩ := pre
  refine ⟨_, rfl, _, rfl, [_, _], rfl, (by show 2 ≤ sizeLine; omega), _, rfl, [_, _], rfl, (by show 2 ≤ sizeLine; omega), _, rfl, [_, _], rfl, (by show 2 ≤ sizeLine; omega), [_, _], rfl, (by show 2 ≤ sizeLine; omega), [_, _, _, _], rfl, (by show 4 ≤ sizeLine; omega), _, rfl, .lst [e1 odd, e2 thing, e3 key, e4], rfl, tell_one (fun x hx => ?_) (by show 4 ≤ 1000; omega), _, rfl, _, rfl, dF (k _ _ ⟨rs, as, ce, ce', x7, .ro thing, x9, .ro odd, _, .ro (.mix es), .ro key, fx, by omega, trivial, rfl⟩)⟩
  have sj : Tell 9 (.str "thing") ∧ Tell 9 (.str "job") ∧ Tell 9 (.str "jobs") := ⟨by show PyData.strOk _ = true; decide +kernel, by show PyData.strOk _ = true; decide +kernel, by show PyData.strOk _ = true; decide +kernel⟩
  simp only [List.mem_cons, List.not_mem_nil, or_false] at hx
  rcases hx with rfl | rfl | rfl | rfl
  · exact tell2 sj.2.1 (tell9 o1.te)
  · exact tell2 sj.1 (tell9 o2.te)
  · exact tell2 sj.2.2 (tell9 tk)
  · exact tell2 sj.2.2 trivial
theorem law19 (Lw : LawH P K mg base tb cd C cJ cN cT cC cM gI gJ gC gE gS dI dJ dC dE dS) (hr : Room 18 (A.deeper (envOfC "law" (defScope sLaw) s.heap.objs.size f (.ref cd)))) :
    StepD (fun _ : Unit => lawX P Wd.w K mg base f cd A outer s H E) ⟨E, Xd⟩ (stl 19) (PreQ C S t 1124 R18) (PreQ C S t 1184 R18) := by
  have l63 := sizeLine_eq
  refine ⟨_, (ds_if (dt_not (dt_val (DE.r (de_call (fun _ _ h => DL.pe_cl Lw.cR hr (by omega) pass0 h) (DA.pool (de_pool fun _ => pv 2) (DA.cons (dr_var fun _ => pv 5) (DA.cons (dr_var fun _ => pv 3) DA.nil))))))) (dss_one (ds_ret (DR.e (dr_c (fun _ => pe_bl) fun _ _ => .bl false)))) dss_nil), fun n δ Ed pre k => ?_⟩
  obtain ⟨rs, as, ce, ce', x7, x8, x9, x10, x11, x12, x13, fx, hn, _, rfl⟩ := pre
  exact ⟨rfl, rfl, _, rfl, _, rfl, rs, as, ce, rfl, fx.lr, fx.pa, by omega, fun n' hn' => ⟨_, rfl, _, rfl, dF (k _ _ ⟨rs, as, ce, ce', x7, x8, x9, x10, x11, x12, x13, fx, by omega, trivial, rfl⟩)⟩⟩
end
end K59
/-! ## K60m -/
set_option Elab.async false
set_option linter.all false
set_option maxRecDepth 100000
set_option maxHeartbeats 4000000
/-! k59: the law. -/
namespace K59
open PySem PySem.Spec PyProof.Rows L2 DL
def tAny (X : Cx) (ss : List Stmt) : TS := fun D σ H => ∃ t, PSs X ss t ∧ t D σ H
theorem pss_any {X : Cx} {ss : List Stmt} : PSs X ss (tAny X ss) := ⟨fun pins s σ H D I ⟨t, p, h⟩ => p.run pins s σ H D I h⟩
theorem list14 {α : Type} : ∀ {l : List α}, l.length = 14 → ∃ x0 x1 x2 x3 x4 x5 x6 x7 x8 x9 x10 x11 x12 x13, l = [x0, x1, x2, x3, x4, x5, x6, x7, x8, x9, x10, x11, x12, x13]
  | [x0, x1, x2, x3, x4, x5, x6, x7, x8, x9, x10, x11, x12, x13], _ => ⟨x0, x1, x2, x3, x4, x5, x6, x7, x8, x9, x10, x11, x12, x13, rfl⟩
  | [], h => by cases h
  | [_], h => by cases h
  | [_, _], h => by cases h
  | [_, _, _], h => by cases h
  | [_, _, _, _], h => by cases h
  | [_, _, _, _, _], h => by cases h
  | [_, _, _, _, _, _], h => by cases h
  | [_, _, _, _, _, _, _], h => by cases h
  | [_, _, _, _, _, _, _, _], h => by cases h
  | [_, _, _, _, _, _, _, _, _], h => by cases h
  | [_, _, _, _, _, _, _, _, _, _], h => by cases h
  | [_, _, _, _, _, _, _, _, _, _, _], h => by cases h
  | [_, _, _, _, _, _, _, _, _, _, _, _], h => by cases h
  | [_, _, _, _, _, _, _, _, _, _, _, _, _], h => by cases h
  | _ :: _ :: _ :: _ :: _ :: _ :: _ :: _ :: _ :: _ :: _ :: _ :: _ :: _ :: _ :: _, h => by simp at h
theorem sql_ext {K : PySem.W.Frag} {H H' : Hp} {a : Addr} {xs : List V} (h : SqL K H a xs) (e : ∀ o, (∀ ps, o ≠ .tbl ps) → H a = some o → H' a = some o) : SqL K H' a xs := by
  rcases h with (h | ⟨o, h⟩) | h
  · exact .inl (.inl (e _ (fun _ z => by cases z) h))
  · exact .inl (.inr ⟨o, e _ (fun _ z => by cases z) h⟩)
  · exact .inr h
variable [Wd]
theorem slNo {p : Option Addr} {A : Addr → Prop} {H : Hp} {x : Option V} : SlR p A H x .no := by
  unfold DL.SlR
  trivial
/-- the law's promise -/
def spLaw (K : PySem.W.Frag) : Sp := fun vs H Q _ => ∃ (scr : Addr) (ns : List Int), vs = [.ref scr] ∧ SqL K H scr (ns.map V.int) ∧ ns.length ≤ 1000 ∧ LamX.Tabs Wd.T H ∧ ∀ H', Q (.bl true) H'
/-- between the turns -/
def Betw (K : PySem.W.Frag) (scr : Addr) (ns : List Int) (σ : L2.St) (H : Hp) : Prop := σ.length = 14 ∧ σ[0]? = some (some (.ref scr)) ∧ SqL K H scr (ns.map V.int) ∧ ∃ A : Addr → Prop, TabA A H ∧ ∀ b, A b → H b ≠ none ∧ ¬ IsTb b
theorem betw0 {K : PySem.W.Frag} {H : Hp} {scr : Addr} {ns : List Int} (hs : SqL K H scr (ns.map V.int)) (tb : LamX.Tabs Wd.T H) : Betw K scr ns (start nLaw [.ref scr]) H := by
  refine ⟨rfl, rfl, hs, fun b => ∃ q, H b = some (LamX.CodeO b q), fun e he => ?_, fun b hb => ?_⟩
  · obtain ⟨ps, h1, h2, h3⟩ := tb e he
    exact ⟨ps, h1, h2, fun pos cv hc => by obtain ⟨c, e1, e2⟩ := h3 pos cv hc; exact ⟨c, e1, ⟨_, e2⟩, e2⟩⟩
  · obtain ⟨q, hq⟩ := hb
    refine ⟨(fun z => by rw [hq] at z; cases z), fun z => ?_⟩
    obtain ⟨e, he, ee⟩ := z
    obtain ⟨ps, h1, _⟩ := tb e he
    rw [ee, hq] at h1
    cases h1
section
variable {P : Program} {K : PySem.W.Frag} {mg : Str → Option Value} {base : Heap} {f tb cd C cJ cN cT cC cM gI gJ gC gE gS : Addr} {dI dJ dC dE dS fd : FuncData} {A : Around} {outer : List Env} {s : Shared} {H : Hp} {E : XK} {S : Dt} {t : Int}
theorem law_rest (Lw : LawH P K mg base tb cd C cJ cN cT cC cM gI gJ gC gE gS dI dJ dC dE dS) (hr : Room 18 (A.deeper (envOfC "law" (defScope sLaw) s.heap.objs.size f (.ref cd)))) :
    PartD (fun _ : Unit => lawX P Wd.w K mg base f cd A outer s H E) ⟨E, fun _ _ _ _ => False⟩ [stl 1, stl 2, stl 3, stl 4, stl 5, stl 6, stl 7, stl 8, stl 9, stl 10, stl 11, stl 12, stl 13, stl 14, stl 15, stl 16, stl 17, stl 18, stl 19]
      (fun n δ => n = 0 ∧ δ = dl S t .no .no .no .no .no .no .no .no .no .no .no) (PreQ C S t 1184 R18) := by
  have hr' : Room 17 (A.deeper (envOfC "law" (defScope sLaw) s.heap.objs.size f (.ref cd))) := hr.mono (by omega)
  exact .cons (law1 Lw hr') (.cons (law2 Lw hr') (.cons (law3 Lw hr') (.cons (law4 Lw hr') (.cons (law5 Lw hr') (.cons (law6 Lw hr') (.cons (law7 Lw hr') (.cons (law8 Lw hr') (.cons (law9 Lw hr') (.cons (law10 Lw hr')
    (.cons (law11 Lw hr) (.cons (law12 Lw hr) (.cons (law13 Lw hr) (.cons (law14 Lw hr) (.cons (law15 Lw hr) (.cons (law16 Lw hr) (.cons (law17 Lw hr) (.cons (law18 Lw hr) (.cons (law19 Lw hr) .nil))))))))))))))))))
theorem turn_ok (Lw : LawH P K mg base tb cd C cJ cN cT cC cM gI gJ gC gE gS dI dJ dC dE dS) (hr : Room 18 (A.deeper (envOfC "law" (defScope sLaw) s.heap.objs.size f (.ref cd)))) (cP : DL.Cl P Wd.w K mg base CX0 1 "_law_pool" (spPool K)) (hw : ∀ H p, Spring H p 0 → Wd.spr H p 0)
    {scr : Addr} {ns : List Int} (hl : ns.length ≤ 1000) (t0 : 0 ≤ t) (t1 : t ≤ 1000) : ∃ tt, PSs (lawX P Wd.w K mg base f cd A outer s H E) lawLoop tt ∧ ∀ (D : Ends) σ H1, Betw K scr ns σ H1 → (∀ σ' H', Betw K scr ns σ' H' → D.nx σ' H') → tt D (σ.set 1 (some (.int t))) H1 := by
  obtain ⟨T, ⟨ts, ps, ev⟩, hT⟩ := law_rest (outer := outer) (H := H) (E := E) (S := .raw (.ref scr)) (t := t) Lw hr
  rw [loop_eq]
  refine ⟨_, pss_cons (ps_set (i := 2) scLaw.nd rfl (Or.inr rfl) (DL.pe_cl cP hr (by omega) pass0 (pa_cons (pv 0) (pa_cons (pv 1) pa_nil)))) (ps ()), fun D σ H1 j k => ?_⟩
  obtain ⟨len, h0, hs, A0, ta, ad⟩ := j
  obtain ⟨x0, x1, x2, x3, x4, x5, x6, x7, x8, x9, x10, x11, x12, x13, rfl⟩ := list14 len
  obtain rfl : x0 = some (.ref scr) := by simpa using h0
  refine ⟨_, rfl, _, rfl, scr, ns, t, rfl, hs, hl, t0, t1, fun H2 p np sp ext => ?_⟩
  have pne : ∀ b o, H1 b = some o → b ≠ p := fun b o e z => by rw [z, np] at e; cases e
  have h2t : ∀ b, IsTb b → H2 b = H1 b := fun b ⟨e, he, eb⟩ => by
    obtain ⟨q, h1, _⟩ := ta e he
    rw [← eb, h1]
    exact ext _ _ h1
  have kp : Kp A0 H1 A0 H2 := .of (fun _ h => h) fun b o _ e => ext b o e
  have notP : ∀ b, IsTb b → b ≠ p := fun b ⟨e, he, eb⟩ z => by
    obtain ⟨q, h1, _⟩ := ta e he
    exact pne _ _ h1 (by rw [eb, z])
  have R : Rel ⟨H2, A0, some p⟩ [some (.ref scr), some (.int t), some (.ref p), x3, x4, x5, x6, x7, x8, x9, x10, x11, x12, x13] (dl (.raw (.ref scr)) t .no .no .no .no .no .no .no .no .no .no .no) A0 H2 0 := by
    have eo : owns [some (V.ref scr), some (.int t), some (.ref p), x3, x4, x5, x6, x7, x8, x9, x10, x11, x12, x13] (dl (.raw (.ref scr)) t .no .no .no .no .no .no .no .no .no .no .no) = [] := owns_un (δ := dl (.raw (.ref scr)) t .no .no .no .no .no .no .no .no .no .no .no)
    refine ⟨.cons (Rep.raw _) (.cons (Rep.int t) (.cons ⟨p, rfl, rfl⟩ (.cons slNo (.cons slNo (.cons slNo (.cons slNo (.cons slNo (.cons slNo (.cons slNo (.cons slNo (.cons slNo (.cons slNo (.cons slNo .nil))))))))))))), by rw [eo]; exact List.nodup_nil, (fun a ha => by rw [eo] at ha; cases ha), fun _ _ _ e => e, fun _ h => h, fun b hb => ?_, fun b hb => .inl hb, ⟨fun a e => ?_, ta.kp h2t kp⟩⟩
    · obtain ⟨n1, n2⟩ := ad b hb
      obtain ⟨o, eo⟩ : ∃ o, H1 b = some o := by
        cases e : H1 b with
        | none => exact absurd e n1
        | some o => exact ⟨o, rfl⟩
      refine ⟨(fun z => by rw [ext b o eo] at z; cases z), fun m => ?_⟩
      rcases m with m | m
      · exact pne b o eo (Option.some.inj m).symm
      · exact n2 m
    · cases e
      exact hw H2 p sp
  refine ev ⟨H2, A0, some p⟩ (fun _ _ _ _ _ _ _ _ _ _ _ _ _ z => z.elim) _ A0 H2 0 _ _ { nx := PreQ C (.raw (.ref scr)) t 1184 R18, rt := fun _ _ => False } R ⟨fun σ' δ' A' H' n' R' _ q => ?_, fun _ _ _ _ _ _ _ q => q.elim, fun _ _ _ _ _ _ _ q => q.elim, fun _ _ _ _ _ _ _ _ _ _ q => q.elim⟩ (hT 0 _ _ ⟨rfl, rfl⟩ fun _ _ q => q)
  obtain ⟨rs, as, ce, ce', y7, y8, y9, y10, y11, y12, y13, _, _, _, rfl⟩ := q
  refine k σ' H' ⟨by rw [slR_len R'.sl]; rfl, ?_, sql_ext hs fun o nt e => ?_, A', R'.inv.2, fun b hb => ⟨(R'.ad b hb).1, fun z => (R'.ad b hb).2 (.inr z)⟩⟩
  · obtain ⟨y, e1, e2⟩ := slR_get (i := 0) R'.sl rfl
    cases y with
    | none => exact e2.elim
    | some v =>
      have e2 : Rep A' H' v (.raw (.ref scr)) := e2
      cases e2
      exact e1
  · refine R'.fr scr o (fun m => ?_) (ext _ _ e)
    rcases m with m | ⟨e', he, eb⟩
    · exact pne _ _ e (Option.some.inj m).symm
    · obtain ⟨q, h1, _⟩ := ta e' he
      rw [eb, e] at h1
      exact nt q (Option.some.inj h1)
theorem ok_law (F : FunC K "law" "law" sLaw f fd cd) (Lw : LawH P K mg base tb cd C cJ cN cT cC cM gI gJ gC gE gS dI dJ dC dE dS) (cP : DL.Cl P Wd.w K mg base CX0 1 "_law_pool" (spPool K)) (hw : ∀ H p, Spring H p 0 → Wd.spr H p 0) (g_range : mg "range" = none) :
    FnOk P Wd.w K mg base CX0 19 f fd ["script"] (spLaw K) := by
  refine F.ok scLaw (fun vs H Q E h => ?_) (fun A outer s H vs Q E hr h => ?_)
  · obtain ⟨scr, ns, rfl, _⟩ := h
    rfl
  · obtain ⟨scr, ns, rfl, hs, hl, tb, k⟩ := h
    refine ⟨_, pss_cons (ps_for PassesOwn.never rfl (pi_range1 rfl g_range (pa_cons pe_int pa_nil)) (pg_name (i := 1) scLaw.nd rfl (Or.inl rfl)) (show PSs (lawX P Wd.w K mg base f cd A outer s H E) lawLoop (tAny (lawX P Wd.w K mg base f cd A outer s H E) lawLoop) from pss_any)) (pss_one (ps_ret pe_bl)), ?_⟩
    refine ⟨3, rfl, by decide, by decide, ?_⟩
    refine for_range (lo := 0) (n := 3) (fun i σ H1 => Betw K scr ns σ H1) (betw0 hs tb) ?_ ?_
    · intro i σ H1 hi j
      obtain ⟨tt, p, kt⟩ := turn_ok (outer := outer) (H := H) (E := E) (t := 0 + i) (scr := scr) (ns := ns) Lw hr cP hw hl (by omega) (by omega)
      exact ⟨tt, p, kt _ _ _ j fun _ _ q => q⟩
    · intro σ H1 _
      exact k _
end
end K59
/-! ## K61H1 -/
set_option Elab.async false
set_option linter.all false
set_option maxRecDepth 100000
set_option maxHeartbeats 4000000
/-! k59: what the looks say: defs, the error classes, the class of jobs. -/
namespace K59L
open PySem PySem.Spec PyProof.Rows L2 ErrK LamX LiI K59
theorem looks_eq {g : G} : looks g = (exB g (KK g), He.obsD hfa hfn (KK g)) := forceF_eq _ _
/-- what the looks have told of the heap -/
structure Told (g : G) : Prop where
  ex : exB g (KK g) = true
  sd : He.SaysD hfa hfn (KK g)
theorem told_of {g : G} (h : looks g = vals) : Told g := by
  rw [looks_eq] at h
  unfold vals at h
  exact ⟨congrArg Prod.fst h, congrArg Prod.snd h⟩
section
variable {K : PySem.W.Frag} {x q : Str} {st : Stmt} {f C : Addr} {fd : FuncData}
theorem fun_of (F : FunD K x q (defArgs st) (defBody st) (defScope st) [] [] f fd) : Fun K x q st f fd := by
  obtain ⟨oc, od, dV, kV, doc, pm, an, cdv, ct, osl, rfl, lk, hcd, hD, hK⟩ := F.ex
  rcases hD with ⟨_, rfl⟩ | ⟨e, _⟩
  · exact ⟨⟨oc, od, kV, doc, pm, an, cdv, ct, osl, rfl, lk, hcd⟩, F.kp⟩
  · exact absurd rfl e
theorem funC_of (F : Fun K x q st f fd) (c : codeB K f = true) : DL.FunC K x q st f fd (cdK K f) ∧ PySem.W.codeHdIn K (cdK K f) (tbK K (cdK K f)) = true := by
  obtain ⟨oc, od, kV, doc, pm, an, cdv, ct, osl, rfl, lk, hcd⟩ := F.ex
  have c' := c
  unfold codeB at c'
  rw [lk] at c'
  cases cdv with
  | ref cc =>
    have c2 : (cc == cdK K f && PySem.W.codeHdIn K cc (tbK K cc)) = true := c'
    obtain ⟨c3, c4⟩ := Bool.and_eq_true_iff.mp c2
    have e : cc = cdK K f := eq_of_beq c3
    rw [← e]
    exact ⟨⟨⟨oc, od, kV, doc, pm, an, ct, osl, rfl, lk, hcd⟩, F.kp⟩, c4⟩
  | _ => exact absurd (show false = true from c') Bool.false_ne_true
theorem oex_of (h : oexB K C = true) : ∃ nm q N bs bm sn sub ab col dd k0 k1 k2 k3 k5, K.lookup C = some (excClassObj nm q C N bs bm true sn sub ab col dd k0 k1 k2 k3 k5 "ValueError.__new__") ∧ PySem.HandSPX.refsVE bm = true := by
  unfold oexB at h
  split at h
  · rename_i dd cd sl hg
    split at h
    · rename_i k0 k1 k2 k3 n k5 hs
      simp only [Bool.and_eq_true, beq_iff_eq, Bool.not_eq_true'] at h
      obtain ⟨hn, hdel, hd, hm⟩ := h
      obtain ⟨nm, bs, mro, ns, qn, hdc, sn, sub, ab, col, del⟩ := cd
      dsimp only at hdel hd hm
      subst hdel hd hn
      split at hm
      · rename_i C' bm
        simp only [Bool.and_eq_true, beq_iff_eq] at hm
        obtain ⟨rfl, hb⟩ := hm
        have es : sl = #[k0, k1, k2, k3, some (.builtin "ValueError.__new__"), k5] := by
          cases sl
          simpa using hs
        refine ⟨nm, qn, ns, bs, bm, sn, sub, ab, col, dd, k0, k1, k2, k3, k5, ?_, hb⟩
        rw [hg, es]
      · cases hm
    · cases h
  · cases h
theorem err_parts (h : errB K C = true) : OexC K C ∧ XfC K C ∧ PySem.W.findIn K (.ref C) "__init__" = some (some (.ref (He.ma K C "__init__"))) ∧ PySem.W.typeIn K (.ref (He.ma K C "__init__")) = some (.type "function") := by
  unfold errB at h
  obtain ⟨h1, h⟩ := Bool.and_eq_true_iff.mp h
  obtain ⟨h2, h⟩ := Bool.and_eq_true_iff.mp h
  obtain ⟨h3, h⟩ := Bool.and_eq_true_iff.mp h
  obtain ⟨h4, h⟩ := Bool.and_eq_true_iff.mp h
  obtain ⟨h5, h⟩ := Bool.and_eq_true_iff.mp h
  obtain ⟨h6, h⟩ := Bool.and_eq_true_iff.mp h
  obtain ⟨h7, h8⟩ := Bool.and_eq_true_iff.mp h
  exact ⟨⟨oex_of h1, He.eqO_ok h2, of_decide_eq_true h3, of_decide_eq_true h4, h5⟩, xfB_ok h6, He.eqO_ok h7, of_decide_eq_true h8⟩
/-- an error class as the words want it -/
theorem err_of {P : Program} {w : World} {mg : Str → Option Value} {base : Heap} {fn : Str} (h : errB K C = true) (gC : mg x = some (.ref C)) (F : Fun K "__init__" q st (He.ma K C "__init__") fd) (no : PySem.W.findIn K (.ref C) fn = some none)
    (S : FnScope ["self", fn] ["self", fn] (defScope st)) (hb : ∃ p1 p2 p3 p4 : Pos, defBody st = [.Assign [.Attribute (.Name "self" p1) fn p2] (.Name fn p3) p4]) (d1 : (fn == ("__debug__" : Str)) = false) (d2 : (fn == ("__classdict__" : Str)) = false)
    (b : Binds K fd ["self", fn] []) : Err P w K mg base x fn C := by
  obtain ⟨T, X, i1, i2⟩ := err_parts h
  exact ⟨T, gC, ⟨_, fd, i1, i2, ok_ini F S hb T no d1 d2, b⟩, no, X⟩
end
section
variable {g : G} {h : Heap} {mg : Str → Option Value}
structure TabP (g : G) (x : Str) : Prop where
  co : codeB (KK g) (He.ga (KK g) x) = true
  et : emptyTab (g (tbK (KK g) (cdK (KK g) (He.ga (KK g) x)))) = true
  no : (KK g).lookup (tbK (KK g) (cdK (KK g) (He.ga (KK g) x))) = none
theorem tabP_of {x : Str} (h : tabB g (KK g) x = true) : TabP g x := by
  unfold tabB at h
  obtain ⟨h1, h⟩ := Bool.and_eq_true_iff.mp h
  obtain ⟨h2, h3⟩ := Bool.and_eq_true_iff.mp h
  exact ⟨h1, h2, by simpa using h3⟩
structure Parts (g : G) : Prop where
  th : thB (KK g) (He.ga (KK g) "Jobs") = true
  er : ∀ x ∈ errN, errB (KK g) (He.ga (KK g) x) = true
  la : TabP g "law"
  re : TabP g "_law_refused"
  ne : tbK (KK g) (cdK (KK g) (He.ga (KK g) "law")) ≠ tbK (KK g) (cdK (KK g) (He.ga (KK g) "_law_refused"))
theorem Told.parts (t : Told g) : Parts g := by
  have e := t.ex
  unfold exB at e
  obtain ⟨h1, e⟩ := Bool.and_eq_true_iff.mp e
  obtain ⟨h2, e⟩ := Bool.and_eq_true_iff.mp e
  obtain ⟨h3, e⟩ := Bool.and_eq_true_iff.mp e
  obtain ⟨h4, h5⟩ := Bool.and_eq_true_iff.mp e
  exact ⟨h1, List.all_eq_true.mp h2, tabP_of h3, tabP_of h4, by simpa using h5⟩
theorem emptyTab_ok {o : Option Obj} (h : emptyTab o = true) : o = some { cls := .none, data := .fields #[] } := by
  unfold emptyTab at h
  split at h
  · rename_i a sl
    obtain ⟨z1, z2⟩ := Bool.and_eq_true_iff.mp h
    have e1 : a = #[] := Array.eq_empty_of_size_eq_zero (by simpa using z1)
    have e2 : sl = #[] := Array.eq_empty_of_size_eq_zero (by simpa using z2)
    rw [e1, e2]
  · cases h
theorem thing_parts {K : PySem.W.Frag} {T : Addr} (hc : L2.Cls K T) (h : thB K T = true) : PySem.W.notFirst K T (.type "dict") = true ∧ TIJ K T := by
  unfold thB at h
  obtain ⟨h1, h⟩ := Bool.and_eq_true_iff.mp h
  obtain ⟨h3, h⟩ := Bool.and_eq_true_iff.mp h
  obtain ⟨h4, h⟩ := Bool.and_eq_true_iff.mp h
  obtain ⟨h5, h⟩ := Bool.and_eq_true_iff.mp h
  obtain ⟨h6, h⟩ := Bool.and_eq_true_iff.mp h
  obtain ⟨h7, h8⟩ := Bool.and_eq_true_iff.mp h
  exact ⟨h3, ⟨hc, He.eqO_ok h4, He.eqO_ok h5, of_decide_eq_true h6, of_decide_eq_true h1, of_decide_eq_true h7, of_decide_eq_true h8⟩⟩
end
end K59L
/-! ## K61H2 -/
set_option Elab.async false
set_option linter.all false
set_option maxRecDepth 100000
set_option maxHeartbeats 4000000
namespace K59L
open PySem PySem.Spec PyProof.Rows L2 ErrK LamX LiI K59
section
variable {g : G} {h : Heap} {mg : Str → Option Value} {P : Program} {w : World} {base : Heap}
theorem Told.g_isinstance (t : Told g) (X : (KK g).In h) (G : h.Ns mainGlobals mg) : mg "isinstance" = none := He.free_ok X G (t.sd.fact 41 (f := .free "isinstance") rfl)
theorem Told.g_str (t : Told g) (X : (KK g).In h) (G : h.Ns mainGlobals mg) : mg "str" = none := He.free_ok X G (t.sd.fact 42 (f := .free "str") rfl)
theorem Told.g_len (t : Told g) (X : (KK g).In h) (G : h.Ns mainGlobals mg) : mg "len" = none := He.free_ok X G (t.sd.fact 43 (f := .free "len") rfl)
theorem Told.g_all (t : Told g) (X : (KK g).In h) (G : h.Ns mainGlobals mg) : mg "all" = none := He.free_ok X G (t.sd.fact 44 (f := .free "all") rfl)
theorem Told.g_list (t : Told g) (X : (KK g).In h) (G : h.Ns mainGlobals mg) : mg "list" = none := He.free_ok X G (t.sd.fact 45 (f := .free "list") rfl)
theorem Told.g_tuple (t : Told g) (X : (KK g).In h) (G : h.Ns mainGlobals mg) : mg "tuple" = none := He.free_ok X G (t.sd.fact 46 (f := .free "tuple") rfl)
theorem Told.g_set (t : Told g) (X : (KK g).In h) (G : h.Ns mainGlobals mg) : mg "set" = none := He.free_ok X G (t.sd.fact 47 (f := .free "set") rfl)
theorem Told.g_enumerate (t : Told g) (X : (KK g).In h) (G : h.Ns mainGlobals mg) : mg "enumerate" = none := He.free_ok X G (t.sd.fact 48 (f := .free "enumerate") rfl)
theorem Told.g_dict (t : Told g) (X : (KK g).In h) (G : h.Ns mainGlobals mg) : mg "dict" = none := He.free_ok X G (t.sd.fact 49 (f := .free "dict") rfl)
theorem Told.g_sorted (t : Told g) (X : (KK g).In h) (G : h.Ns mainGlobals mg) : mg "sorted" = none := He.free_ok X G (t.sd.fact 50 (f := .free "sorted") rfl)
theorem Told.g_int (t : Told g) (X : (KK g).In h) (G : h.Ns mainGlobals mg) : mg "int" = none := He.free_ok X G (t.sd.fact 51 (f := .free "int") rfl)
theorem Told.g_sum (t : Told g) (X : (KK g).In h) (G : h.Ns mainGlobals mg) : mg "sum" = none := He.free_ok X G (t.sd.fact 52 (f := .free "sum") rfl)
theorem Told.g_abs (t : Told g) (X : (KK g).In h) (G : h.Ns mainGlobals mg) : mg "abs" = none := He.free_ok X G (t.sd.fact 53 (f := .free "abs") rfl)
theorem Told.g_range (t : Told g) (X : (KK g).In h) (G : h.Ns mainGlobals mg) : mg "range" = none := He.free_ok X G (t.sd.fact 54 (f := .free "range") rfl)
theorem Told.g_bool (t : Told g) (X : (KK g).In h) (G : h.Ns mainGlobals mg) : mg "bool" = none := He.free_ok X G (t.sd.fact 55 (f := .free "bool") rfl)
theorem Told.g_zip (t : Told g) (X : (KK g).In h) (G : h.Ns mainGlobals mg) : mg "zip" = none := He.free_ok X G (t.sd.fact 56 (f := .free "zip") rfl)
theorem Told.g_min (t : Told g) (X : (KK g).In h) (G : h.Ns mainGlobals mg) : mg "min" = none := He.free_ok X G (t.sd.fact 57 (f := .free "min") rfl)
theorem Told.g_max (t : Told g) (X : (KK g).In h) (G : h.Ns mainGlobals mg) : mg "max" = none := He.free_ok X G (t.sd.fact 58 (f := .free "max") rfl)
theorem Told.m_TaskError (t : Told g) (X : (KK g).In h) (G : h.Ns mainGlobals mg) : mg "TaskError" = some (.ref (He.ga (KK g) "TaskError")) := He.glo_ok X G (t.sd.fact 0 (f := .glo "TaskError") rfl)
theorem Told.m_NoThing (t : Told g) (X : (KK g).In h) (G : h.Ns mainGlobals mg) : mg "NoThing" = some (.ref (He.ga (KK g) "NoThing")) := He.glo_ok X G (t.sd.fact 1 (f := .glo "NoThing") rfl)
theorem Told.m_BadNumber (t : Told g) (X : (KK g).In h) (G : h.Ns mainGlobals mg) : mg "BadNumber" = some (.ref (He.ga (KK g) "BadNumber")) := He.glo_ok X G (t.sd.fact 2 (f := .glo "BadNumber") rfl)
theorem Told.m_BadJobs (t : Told g) (X : (KK g).In h) (G : h.Ns mainGlobals mg) : mg "BadJobs" = some (.ref (He.ga (KK g) "BadJobs")) := He.glo_ok X G (t.sd.fact 3 (f := .glo "BadJobs") rfl)
theorem Told.m_NoJob (t : Told g) (X : (KK g).In h) (G : h.Ns mainGlobals mg) : mg "NoJob" = some (.ref (He.ga (KK g) "NoJob")) := He.glo_ok X G (t.sd.fact 4 (f := .glo "NoJob") rfl)
theorem Told.m_BadComings (t : Told g) (X : (KK g).In h) (G : h.Ns mainGlobals mg) : mg "BadComings" = some (.ref (He.ga (KK g) "BadComings")) := He.glo_ok X G (t.sd.fact 5 (f := .glo "BadComings") rfl)
theorem Told.m_Span (t : Told g) (X : (KK g).In h) (G : h.Ns mainGlobals mg) : mg "Span" = some (.ref (He.ga (KK g) "Span")) := He.glo_ok X G (t.sd.fact 6 (f := .glo "Span") rfl)
theorem Told.m_Jobs (t : Told g) (X : (KK g).In h) (G : h.Ns mainGlobals mg) : mg "Jobs" = some (.ref (He.ga (KK g) "Jobs")) := He.glo_ok X G (t.sd.fact 7 (f := .glo "Jobs") rfl)
theorem Told.m_is_word (t : Told g) (X : (KK g).In h) (G : h.Ns mainGlobals mg) : mg "is_word" = some (.ref (He.ga (KK g) "is_word")) := He.glo_ok X G (t.sd.fact 8 (f := .glo "is_word") rfl)
theorem Told.m_is_integer (t : Told g) (X : (KK g).In h) (G : h.Ns mainGlobals mg) : mg "is_integer" = some (.ref (He.ga (KK g) "is_integer")) := He.glo_ok X G (t.sd.fact 9 (f := .glo "is_integer") rfl)
theorem Told.m_is_list (t : Told g) (X : (KK g).In h) (G : h.Ns mainGlobals mg) : mg "is_list" = some (.ref (He.ga (KK g) "is_list")) := He.glo_ok X G (t.sd.fact 10 (f := .glo "is_list") rfl)
theorem Told.m_is_pair (t : Told g) (X : (KK g).In h) (G : h.Ns mainGlobals mg) : mg "is_pair" = some (.ref (He.ga (KK g) "is_pair")) := He.glo_ok X G (t.sd.fact 11 (f := .glo "is_pair") rfl)
theorem Told.m_units_of (t : Told g) (X : (KK g).In h) (G : h.Ns mainGlobals mg) : mg "units_of" = some (.ref (He.ga (KK g) "units_of")) := He.glo_ok X G (t.sd.fact 12 (f := .glo "units_of") rfl)
theorem Told.m_is_part (t : Told g) (X : (KK g).In h) (G : h.Ns mainGlobals mg) : mg "is_part" = some (.ref (He.ga (KK g) "is_part")) := He.glo_ok X G (t.sd.fact 13 (f := .glo "is_part") rfl)
theorem Told.m_are_parts (t : Told g) (X : (KK g).In h) (G : h.Ns mainGlobals mg) : mg "are_parts" = some (.ref (He.ga (KK g) "are_parts")) := He.glo_ok X G (t.sd.fact 14 (f := .glo "are_parts") rfl)
theorem Told.m_copied_parts (t : Told g) (X : (KK g).In h) (G : h.Ns mainGlobals mg) : mg "copied_parts" = some (.ref (He.ga (KK g) "copied_parts")) := He.glo_ok X G (t.sd.fact 15 (f := .glo "copied_parts") rfl)
theorem Told.m_spans_in (t : Told g) (X : (KK g).In h) (G : h.Ns mainGlobals mg) : mg "spans_in" = some (.ref (He.ga (KK g) "spans_in")) := He.glo_ok X G (t.sd.fact 16 (f := .glo "spans_in") rfl)
theorem Told.m_is_job (t : Told g) (X : (KK g).In h) (G : h.Ns mainGlobals mg) : mg "is_job" = some (.ref (He.ga (KK g) "is_job")) := He.glo_ok X G (t.sd.fact 17 (f := .glo "is_job") rfl)
theorem Told.m_check_jobs (t : Told g) (X : (KK g).In h) (G : h.Ns mainGlobals mg) : mg "check_jobs" = some (.ref (He.ga (KK g) "check_jobs")) := He.glo_ok X G (t.sd.fact 18 (f := .glo "check_jobs") rfl)
theorem Told.m_known_job (t : Told g) (X : (KK g).In h) (G : h.Ns mainGlobals mg) : mg "known_job" = some (.ref (He.ga (KK g) "known_job")) := He.glo_ok X G (t.sd.fact 19 (f := .glo "known_job") rfl)
theorem Told.m_are_moments (t : Told g) (X : (KK g).In h) (G : h.Ns mainGlobals mg) : mg "are_moments" = some (.ref (He.ga (KK g) "are_moments")) := He.glo_ok X G (t.sd.fact 20 (f := .glo "are_moments") rfl)
theorem Told.m_checked_comings (t : Told g) (X : (KK g).In h) (G : h.Ns mainGlobals mg) : mg "checked_comings" = some (.ref (He.ga (KK g) "checked_comings")) := He.glo_ok X G (t.sd.fact 21 (f := .glo "checked_comings") rfl)
theorem Told.m_done (t : Told g) (X : (KK g).In h) (G : h.Ns mainGlobals mg) : mg "done" = some (.ref (He.ga (KK g) "done")) := He.glo_ok X G (t.sd.fact 22 (f := .glo "done") rfl)
theorem Told.m_answers (t : Told g) (X : (KK g).In h) (G : h.Ns mainGlobals mg) : mg "answers" = some (.ref (He.ga (KK g) "answers")) := He.glo_ok X G (t.sd.fact 23 (f := .glo "answers") rfl)
theorem Told.m_breakdown (t : Told g) (X : (KK g).In h) (G : h.Ns mainGlobals mg) : mg "breakdown" = some (.ref (He.ga (KK g) "breakdown")) := He.glo_ok X G (t.sd.fact 24 (f := .glo "breakdown") rfl)
theorem Told.m__law_pool (t : Told g) (X : (KK g).In h) (G : h.Ns mainGlobals mg) : mg "_law_pool" = some (.ref (He.ga (KK g) "_law_pool")) := He.glo_ok X G (t.sd.fact 25 (f := .glo "_law_pool") rfl)
theorem Told.m__law_take (t : Told g) (X : (KK g).In h) (G : h.Ns mainGlobals mg) : mg "_law_take" = some (.ref (He.ga (KK g) "_law_take")) := He.glo_ok X G (t.sd.fact 26 (f := .glo "_law_take") rfl)
theorem Told.m__law_one (t : Told g) (X : (KK g).In h) (G : h.Ns mainGlobals mg) : mg "_law_one" = some (.ref (He.ga (KK g) "_law_one")) := He.glo_ok X G (t.sd.fact 27 (f := .glo "_law_one") rfl)
theorem Told.m__law_mixed (t : Told g) (X : (KK g).In h) (G : h.Ns mainGlobals mg) : mg "_law_mixed" = some (.ref (He.ga (KK g) "_law_mixed")) := He.glo_ok X G (t.sd.fact 28 (f := .glo "_law_mixed") rfl)
theorem Told.m__law_same (t : Told g) (X : (KK g).In h) (G : h.Ns mainGlobals mg) : mg "_law_same" = some (.ref (He.ga (KK g) "_law_same")) := He.glo_ok X G (t.sd.fact 29 (f := .glo "_law_same") rfl)
theorem Told.m__law_body (t : Told g) (X : (KK g).In h) (G : h.Ns mainGlobals mg) : mg "_law_body" = some (.ref (He.ga (KK g) "_law_body")) := He.glo_ok X G (t.sd.fact 30 (f := .glo "_law_body") rfl)
theorem Told.m__law_jobs (t : Told g) (X : (KK g).In h) (G : h.Ns mainGlobals mg) : mg "_law_jobs" = some (.ref (He.ga (KK g) "_law_jobs")) := He.glo_ok X G (t.sd.fact 31 (f := .glo "_law_jobs") rfl)
theorem Told.m__law_units (t : Told g) (X : (KK g).In h) (G : h.Ns mainGlobals mg) : mg "_law_units" = some (.ref (He.ga (KK g) "_law_units")) := He.glo_ok X G (t.sd.fact 32 (f := .glo "_law_units") rfl)
theorem Told.m__law_handed (t : Told g) (X : (KK g).In h) (G : h.Ns mainGlobals mg) : mg "_law_handed" = some (.ref (He.ga (KK g) "_law_handed")) := He.glo_ok X G (t.sd.fact 33 (f := .glo "_law_handed") rfl)
theorem Told.m__law_made (t : Told g) (X : (KK g).In h) (G : h.Ns mainGlobals mg) : mg "_law_made" = some (.ref (He.ga (KK g) "_law_made")) := He.glo_ok X G (t.sd.fact 34 (f := .glo "_law_made") rfl)
theorem Told.m__law_ceilings (t : Told g) (X : (KK g).In h) (G : h.Ns mainGlobals mg) : mg "_law_ceilings" = some (.ref (He.ga (KK g) "_law_ceilings")) := He.glo_ok X G (t.sd.fact 35 (f := .glo "_law_ceilings") rfl)
theorem Told.m__law_met (t : Told g) (X : (KK g).In h) (G : h.Ns mainGlobals mg) : mg "_law_met" = some (.ref (He.ga (KK g) "_law_met")) := He.glo_ok X G (t.sd.fact 36 (f := .glo "_law_met") rfl)
theorem Told.m__law_bad_jobs (t : Told g) (X : (KK g).In h) (G : h.Ns mainGlobals mg) : mg "_law_bad_jobs" = some (.ref (He.ga (KK g) "_law_bad_jobs")) := He.glo_ok X G (t.sd.fact 37 (f := .glo "_law_bad_jobs") rfl)
theorem Told.m__law_bad_comings (t : Told g) (X : (KK g).In h) (G : h.Ns mainGlobals mg) : mg "_law_bad_comings" = some (.ref (He.ga (KK g) "_law_bad_comings")) := He.glo_ok X G (t.sd.fact 38 (f := .glo "_law_bad_comings") rfl)
theorem Told.m__law_refused (t : Told g) (X : (KK g).In h) (G : h.Ns mainGlobals mg) : mg "_law_refused" = some (.ref (He.ga (KK g) "_law_refused")) := He.glo_ok X G (t.sd.fact 39 (f := .glo "_law_refused") rfl)
theorem Told.m_law (t : Told g) (X : (KK g).In h) (G : h.Ns mainGlobals mg) : mg "law" = some (.ref (He.ga (KK g) "law")) := He.glo_ok X G (t.sd.fact 40 (f := .glo "law") rfl)
theorem Told.gLet (t : Told g) (X : (KK g).In h) (G : h.Ns mainGlobals mg) : ∃ t, mg "LETTERS" = some (.str letters t) := He.str_ok X G (t.sd.fact 60 (f := .str "LETTERS" letters0) rfl)
theorem Told.gLon (t : Told g) (X : (KK g).In h) (G : h.Ns mainGlobals mg) : ∃ t, mg "LONGEST_WORD" = some (.int 8 t) := He.int_ok X G (t.sd.fact 59 (f := .int "LONGEST_WORD" 8) rfl)
theorem Told.f_is_word (t : Told g) : ∃ fd, Fun (KK g) "is_word" "is_word" (tp 3) (He.ga (KK g) "is_word") fd := by
  obtain ⟨fd, F⟩ := t.sd.def_ 0 (d := dDef "is_word" 3) rfl
  exact ⟨fd, fun_of (st := tp 3) F⟩
theorem Told.f_is_integer (t : Told g) : ∃ fd, Fun (KK g) "is_integer" "is_integer" (tp 4) (He.ga (KK g) "is_integer") fd := by
  obtain ⟨fd, F⟩ := t.sd.def_ 1 (d := dDef "is_integer" 4) rfl
  exact ⟨fd, fun_of (st := tp 4) F⟩
theorem Told.f_is_list (t : Told g) : ∃ fd, Fun (KK g) "is_list" "is_list" (tp 5) (He.ga (KK g) "is_list") fd := by
  obtain ⟨fd, F⟩ := t.sd.def_ 2 (d := dDef "is_list" 5) rfl
  exact ⟨fd, fun_of (st := tp 5) F⟩
theorem Told.f_is_pair (t : Told g) : ∃ fd, Fun (KK g) "is_pair" "is_pair" (tp 6) (He.ga (KK g) "is_pair") fd := by
  obtain ⟨fd, F⟩ := t.sd.def_ 3 (d := dDef "is_pair" 6) rfl
  exact ⟨fd, fun_of (st := tp 6) F⟩
theorem Told.f_units_of (t : Told g) : ∃ fd, Fun (KK g) "units_of" "units_of" (tp 11) (He.ga (KK g) "units_of") fd := by
  obtain ⟨fd, F⟩ := t.sd.def_ 4 (d := dDef "units_of" 11) rfl
  exact ⟨fd, fun_of (st := tp 11) F⟩
theorem Told.f_is_part (t : Told g) : ∃ fd, Fun (KK g) "is_part" "is_part" (tp 21) (He.ga (KK g) "is_part") fd := by
  obtain ⟨fd, F⟩ := t.sd.def_ 5 (d := dDef "is_part" 21) rfl
  exact ⟨fd, fun_of (st := tp 21) F⟩
theorem Told.f_are_parts (t : Told g) : ∃ fd, Fun (KK g) "are_parts" "are_parts" (tp 22) (He.ga (KK g) "are_parts") fd := by
  obtain ⟨fd, F⟩ := t.sd.def_ 6 (d := dDef "are_parts" 22) rfl
  exact ⟨fd, fun_of (st := tp 22) F⟩
theorem Told.f_copied_parts (t : Told g) : ∃ fd, Fun (KK g) "copied_parts" "copied_parts" (tp 23) (He.ga (KK g) "copied_parts") fd := by
  obtain ⟨fd, F⟩ := t.sd.def_ 7 (d := dDef "copied_parts" 23) rfl
  exact ⟨fd, fun_of (st := tp 23) F⟩
theorem Told.f_spans_in (t : Told g) : ∃ fd, Fun (KK g) "spans_in" "spans_in" (tp 25) (He.ga (KK g) "spans_in") fd := by
  obtain ⟨fd, F⟩ := t.sd.def_ 8 (d := dDef "spans_in" 25) rfl
  exact ⟨fd, fun_of (st := tp 25) F⟩
theorem Told.f_is_job (t : Told g) : ∃ fd, Fun (KK g) "is_job" "is_job" (tp 27) (He.ga (KK g) "is_job") fd := by
  obtain ⟨fd, F⟩ := t.sd.def_ 9 (d := dDef "is_job" 27) rfl
  exact ⟨fd, fun_of (st := tp 27) F⟩
theorem Told.f_check_jobs (t : Told g) : ∃ fd, Fun (KK g) "check_jobs" "check_jobs" (tp 28) (He.ga (KK g) "check_jobs") fd := by
  obtain ⟨fd, F⟩ := t.sd.def_ 10 (d := dDef "check_jobs" 28) rfl
  exact ⟨fd, fun_of (st := tp 28) F⟩
theorem Told.f_known_job (t : Told g) : ∃ fd, Fun (KK g) "known_job" "known_job" (tp 30) (He.ga (KK g) "known_job") fd := by
  obtain ⟨fd, F⟩ := t.sd.def_ 11 (d := dDef "known_job" 30) rfl
  exact ⟨fd, fun_of (st := tp 30) F⟩
theorem Told.f_are_moments (t : Told g) : ∃ fd, Fun (KK g) "are_moments" "are_moments" (tp 31) (He.ga (KK g) "are_moments") fd := by
  obtain ⟨fd, F⟩ := t.sd.def_ 12 (d := dDef "are_moments" 31) rfl
  exact ⟨fd, fun_of (st := tp 31) F⟩
theorem Told.f_checked_comings (t : Told g) : ∃ fd, Fun (KK g) "checked_comings" "checked_comings" (tp 32) (He.ga (KK g) "checked_comings") fd := by
  obtain ⟨fd, F⟩ := t.sd.def_ 13 (d := dDef "checked_comings" 32) rfl
  exact ⟨fd, fun_of (st := tp 32) F⟩
theorem Told.f_done (t : Told g) : ∃ fd, Fun (KK g) "done" "done" (tp 33) (He.ga (KK g) "done") fd := by
  obtain ⟨fd, F⟩ := t.sd.def_ 14 (d := dDef "done" 33) rfl
  exact ⟨fd, fun_of (st := tp 33) F⟩
theorem Told.f_answers (t : Told g) : ∃ fd, Fun (KK g) "answers" "answers" (tp 34) (He.ga (KK g) "answers") fd := by
  obtain ⟨fd, F⟩ := t.sd.def_ 15 (d := dDef "answers" 34) rfl
  exact ⟨fd, fun_of (st := tp 34) F⟩
theorem Told.f_breakdown (t : Told g) : ∃ fd, Fun (KK g) "breakdown" "breakdown" (tp 35) (He.ga (KK g) "breakdown") fd := by
  obtain ⟨fd, F⟩ := t.sd.def_ 16 (d := dDef "breakdown" 35) rfl
  exact ⟨fd, fun_of (st := tp 35) F⟩
theorem Told.f__law_pool (t : Told g) : ∃ fd, Fun (KK g) "_law_pool" "_law_pool" (tp 37) (He.ga (KK g) "_law_pool") fd := by
  obtain ⟨fd, F⟩ := t.sd.def_ 17 (d := dDef "_law_pool" 37) rfl
  exact ⟨fd, fun_of (st := tp 37) F⟩
theorem Told.f__law_take (t : Told g) : ∃ fd, Fun (KK g) "_law_take" "_law_take" (tp 38) (He.ga (KK g) "_law_take") fd := by
  obtain ⟨fd, F⟩ := t.sd.def_ 18 (d := dDef "_law_take" 38) rfl
  exact ⟨fd, fun_of (st := tp 38) F⟩
theorem Told.f__law_one (t : Told g) : ∃ fd, Fun (KK g) "_law_one" "_law_one" (tp 39) (He.ga (KK g) "_law_one") fd := by
  obtain ⟨fd, F⟩ := t.sd.def_ 19 (d := dDef "_law_one" 39) rfl
  exact ⟨fd, fun_of (st := tp 39) F⟩
theorem Told.f__law_mixed (t : Told g) : ∃ fd, Fun (KK g) "_law_mixed" "_law_mixed" (tp 40) (He.ga (KK g) "_law_mixed") fd := by
  obtain ⟨fd, F⟩ := t.sd.def_ 20 (d := dDef "_law_mixed" 40) rfl
  exact ⟨fd, fun_of (st := tp 40) F⟩
theorem Told.f__law_same (t : Told g) : ∃ fd, Fun (KK g) "_law_same" "_law_same" (tp 41) (He.ga (KK g) "_law_same") fd := by
  obtain ⟨fd, F⟩ := t.sd.def_ 21 (d := dDef "_law_same" 41) rfl
  exact ⟨fd, fun_of (st := tp 41) F⟩
theorem Told.f__law_body (t : Told g) : ∃ fd, Fun (KK g) "_law_body" "_law_body" (tp 42) (He.ga (KK g) "_law_body") fd := by
  obtain ⟨fd, F⟩ := t.sd.def_ 22 (d := dDef "_law_body" 42) rfl
  exact ⟨fd, fun_of (st := tp 42) F⟩
theorem Told.f__law_jobs (t : Told g) : ∃ fd, Fun (KK g) "_law_jobs" "_law_jobs" (tp 43) (He.ga (KK g) "_law_jobs") fd := by
  obtain ⟨fd, F⟩ := t.sd.def_ 23 (d := dDef "_law_jobs" 43) rfl
  exact ⟨fd, fun_of (st := tp 43) F⟩
theorem Told.f__law_units (t : Told g) : ∃ fd, Fun (KK g) "_law_units" "_law_units" (tp 44) (He.ga (KK g) "_law_units") fd := by
  obtain ⟨fd, F⟩ := t.sd.def_ 24 (d := dDef "_law_units" 44) rfl
  exact ⟨fd, fun_of (st := tp 44) F⟩
theorem Told.f__law_handed (t : Told g) : ∃ fd, Fun (KK g) "_law_handed" "_law_handed" (tp 45) (He.ga (KK g) "_law_handed") fd := by
  obtain ⟨fd, F⟩ := t.sd.def_ 25 (d := dDef "_law_handed" 45) rfl
  exact ⟨fd, fun_of (st := tp 45) F⟩
theorem Told.f__law_made (t : Told g) : ∃ fd, Fun (KK g) "_law_made" "_law_made" (tp 46) (He.ga (KK g) "_law_made") fd := by
  obtain ⟨fd, F⟩ := t.sd.def_ 26 (d := dDef "_law_made" 46) rfl
  exact ⟨fd, fun_of (st := tp 46) F⟩
theorem Told.f__law_ceilings (t : Told g) : ∃ fd, Fun (KK g) "_law_ceilings" "_law_ceilings" (tp 47) (He.ga (KK g) "_law_ceilings") fd := by
  obtain ⟨fd, F⟩ := t.sd.def_ 27 (d := dDef "_law_ceilings" 47) rfl
  exact ⟨fd, fun_of (st := tp 47) F⟩
theorem Told.f__law_met (t : Told g) : ∃ fd, Fun (KK g) "_law_met" "_law_met" (tp 48) (He.ga (KK g) "_law_met") fd := by
  obtain ⟨fd, F⟩ := t.sd.def_ 28 (d := dDef "_law_met" 48) rfl
  exact ⟨fd, fun_of (st := tp 48) F⟩
theorem Told.f__law_bad_jobs (t : Told g) : ∃ fd, Fun (KK g) "_law_bad_jobs" "_law_bad_jobs" (tp 49) (He.ga (KK g) "_law_bad_jobs") fd := by
  obtain ⟨fd, F⟩ := t.sd.def_ 29 (d := dDef "_law_bad_jobs" 49) rfl
  exact ⟨fd, fun_of (st := tp 49) F⟩
theorem Told.f__law_bad_comings (t : Told g) : ∃ fd, Fun (KK g) "_law_bad_comings" "_law_bad_comings" (tp 50) (He.ga (KK g) "_law_bad_comings") fd := by
  obtain ⟨fd, F⟩ := t.sd.def_ 30 (d := dDef "_law_bad_comings" 50) rfl
  exact ⟨fd, fun_of (st := tp 50) F⟩
theorem Told.f__law_refused (t : Told g) : ∃ fd, Fun (KK g) "_law_refused" "_law_refused" (tp 51) (He.ga (KK g) "_law_refused") fd := by
  obtain ⟨fd, F⟩ := t.sd.def_ 31 (d := dDef "_law_refused" 51) rfl
  exact ⟨fd, fun_of (st := tp 51) F⟩
theorem Told.f_law (t : Told g) : ∃ fd, Fun (KK g) "law" "law" (tp 52) (He.ga (KK g) "law") fd := by
  obtain ⟨fd, F⟩ := t.sd.def_ 32 (d := dDef "law" 52) rfl
  exact ⟨fd, fun_of (st := tp 52) F⟩
theorem Told.e_BadJobs (t : Told g) (X : (KK g).In h) (G : h.Ns mainGlobals mg) : Err P w (KK g) mg base "BadJobs" "job" (He.ga (KK g) "BadJobs") := by
  obtain ⟨fd, F⟩ := t.sd.def_ 33 (d := dMet "BadJobs" "__init__" "BadJobs.__init__" 17 0) rfl
  have F2 := fun_of (st := inClass (tp 17) 0) F
  exact err_of (t.parts.er "BadJobs" (by simp [errN])) (t.m_BadJobs X G) F2 (He.noat_ok (t.sd.fact 78 (f := .noat "BadJobs" "job") rfl)) ⟨rfl, rfl, rfl, by decide +kernel, rfl, by decide +kernel, by decide +kernel⟩ ⟨_, _, _, _, rfl⟩ (by decide) (by decide) (F2.binds fun _ _ _ _ _ _ us hl => match us, hl with | [_, _], _ => rfl)
theorem Told.e_NoJob (t : Told g) (X : (KK g).In h) (G : h.Ns mainGlobals mg) : Err P w (KK g) mg base "NoJob" "job" (He.ga (KK g) "NoJob") := by
  obtain ⟨fd, F⟩ := t.sd.def_ 34 (d := dMet "NoJob" "__init__" "NoJob.__init__" 18 0) rfl
  have F2 := fun_of (st := inClass (tp 18) 0) F
  exact err_of (t.parts.er "NoJob" (by simp [errN])) (t.m_NoJob X G) F2 (He.noat_ok (t.sd.fact 79 (f := .noat "NoJob" "job") rfl)) ⟨rfl, rfl, rfl, by decide +kernel, rfl, by decide +kernel, by decide +kernel⟩ ⟨_, _, _, _, rfl⟩ (by decide) (by decide) (F2.binds fun _ _ _ _ _ _ us hl => match us, hl with | [_, _], _ => rfl)
theorem Told.e_NoThing (t : Told g) (X : (KK g).In h) (G : h.Ns mainGlobals mg) : Err P w (KK g) mg base "NoThing" "thing" (He.ga (KK g) "NoThing") := by
  obtain ⟨fd, F⟩ := t.sd.def_ 35 (d := dMet "NoThing" "__init__" "NoThing.__init__" 15 0) rfl
  have F2 := fun_of (st := inClass (tp 15) 0) F
  exact err_of (t.parts.er "NoThing" (by simp [errN])) (t.m_NoThing X G) F2 (He.noat_ok (t.sd.fact 80 (f := .noat "NoThing" "thing") rfl)) ⟨rfl, rfl, rfl, by decide +kernel, rfl, by decide +kernel, by decide +kernel⟩ ⟨_, _, _, _, rfl⟩ (by decide) (by decide) (F2.binds fun _ _ _ _ _ _ us hl => match us, hl with | [_, _], _ => rfl)
theorem Told.e_BadComings (t : Told g) (X : (KK g).In h) (G : h.Ns mainGlobals mg) : Err P w (KK g) mg base "BadComings" "job" (He.ga (KK g) "BadComings") := by
  obtain ⟨fd, F⟩ := t.sd.def_ 36 (d := dMet "BadComings" "__init__" "BadComings.__init__" 19 0) rfl
  have F2 := fun_of (st := inClass (tp 19) 0) F
  exact err_of (t.parts.er "BadComings" (by simp [errN])) (t.m_BadComings X G) F2 (He.noat_ok (t.sd.fact 81 (f := .noat "BadComings" "job") rfl)) ⟨rfl, rfl, rfl, by decide +kernel, rfl, by decide +kernel, by decide +kernel⟩ ⟨_, _, _, _, rfl⟩ (by decide) (by decide) (F2.binds fun _ _ _ _ _ _ us hl => match us, hl with | [_, _], _ => rfl)
theorem Told.e_BadNumber (t : Told g) (X : (KK g).In h) (G : h.Ns mainGlobals mg) : Err P w (KK g) mg base "BadNumber" "number" (He.ga (KK g) "BadNumber") := by
  obtain ⟨fd, F⟩ := t.sd.def_ 37 (d := dMet "BadNumber" "__init__" "BadNumber.__init__" 16 0) rfl
  have F2 := fun_of (st := inClass (tp 16) 0) F
  exact err_of (t.parts.er "BadNumber" (by simp [errN])) (t.m_BadNumber X G) F2 (He.noat_ok (t.sd.fact 82 (f := .noat "BadNumber" "number") rfl)) ⟨rfl, rfl, rfl, by decide +kernel, rfl, by decide +kernel, by decide +kernel⟩ ⟨_, _, _, _, rfl⟩ (by decide) (by decide) (F2.binds fun _ _ _ _ _ _ us hl => match us, hl with | [_, _], _ => rfl)
theorem Told.t_Span___init__ (t : Told g) : ∃ fd, Fun (KK g) "__init__" "Span.__init__" (inClass (tp 24) 0) (He.ma (KK g) (He.ga (KK g) "Span") "__init__") fd := by
  obtain ⟨fd, F⟩ := t.sd.def_ 38 (d := dMet "Span" "__init__" "Span.__init__" 24 0) rfl
  exact ⟨fd, fun_of (st := inClass (tp 24) 0) F⟩
theorem Told.t_Jobs___init__ (t : Told g) : ∃ fd, Fun (KK g) "__init__" "Jobs.__init__" (inClass (tp 29) 0) (He.ma (KK g) (He.ga (KK g) "Jobs") "__init__") fd := by
  obtain ⟨fd, F⟩ := t.sd.def_ 39 (d := dMet "Jobs" "__init__" "Jobs.__init__" 29 0) rfl
  exact ⟨fd, fun_of (st := inClass (tp 29) 0) F⟩
theorem Told.t_Jobs___eq__ (t : Told g) : ∃ fd, Fun (KK g) "__eq__" "Jobs.__eq__" (inClass (tp 29) 1) (He.ma (KK g) (He.ga (KK g) "Jobs") "__eq__") fd := by
  obtain ⟨fd, F⟩ := t.sd.def_ 40 (d := dMet "Jobs" "__eq__" "Jobs.__eq__" 29 1) rfl
  exact ⟨fd, fun_of (st := inClass (tp 29) 1) F⟩
theorem Told.t_Jobs_jobs (t : Told g) : ∃ fd, Fun (KK g) "jobs" "Jobs.jobs" (inClass (tp 29) 2) (He.ma (KK g) (He.ga (KK g) "Jobs") "jobs") fd := by
  obtain ⟨fd, F⟩ := t.sd.def_ 41 (d := dMet "Jobs" "jobs" "Jobs.jobs" 29 2) rfl
  exact ⟨fd, fun_of (st := inClass (tp 29) 2) F⟩
theorem Told.t_Jobs_cost (t : Told g) : ∃ fd, Fun (KK g) "cost" "Jobs.cost" (inClass (tp 29) 3) (He.ma (KK g) (He.ga (KK g) "Jobs") "cost") fd := by
  obtain ⟨fd, F⟩ := t.sd.def_ 42 (d := dMet "Jobs" "cost" "Jobs.cost" 29 3) rfl
  exact ⟨fd, fun_of (st := inClass (tp 29) 3) F⟩
theorem Told.t_Jobs_ceiling (t : Told g) : ∃ fd, Fun (KK g) "ceiling" "Jobs.ceiling" (inClass (tp 29) 4) (He.ma (KK g) (He.ga (KK g) "Jobs") "ceiling") fd := by
  obtain ⟨fd, F⟩ := t.sd.def_ 43 (d := dMet "Jobs" "ceiling" "Jobs.ceiling" 29 4) rfl
  exact ⟨fd, fun_of (st := inClass (tp 29) 4) F⟩
theorem Told.h_jobs (t : Told g) : Meth (KK g) (He.ga (KK g) "Jobs") "jobs" (He.ma (KK g) (He.ga (KK g) "Jobs") "jobs") := He.meth_ok (t.sd.fact 72 (f := .meth "Jobs" "jobs") rfl)
theorem Told.h_cost (t : Told g) : Meth (KK g) (He.ga (KK g) "Jobs") "cost" (He.ma (KK g) (He.ga (KK g) "Jobs") "cost") := He.meth_ok (t.sd.fact 73 (f := .meth "Jobs" "cost") rfl)
theorem Told.h_ceiling (t : Told g) : Meth (KK g) (He.ga (KK g) "Jobs") "ceiling" (He.ma (KK g) (He.ga (KK g) "Jobs") "ceiling") := He.meth_ok (t.sd.fact 74 (f := .meth "Jobs" "ceiling") rfl)
theorem Told.h___eq__ (t : Told g) : Meth (KK g) (He.ga (KK g) "Jobs") "__eq__" (He.ma (KK g) (He.ga (KK g) "Jobs") "__eq__") := He.meth_ok (t.sd.fact 75 (f := .meth "Jobs" "__eq__") rfl)
theorem Told.tj (t : Told g) : TJ (KK g) (He.ga (KK g) "Jobs") := ⟨He.cls_ok (t.sd.fact 61 (f := .cls "Jobs") rfl), He.noat_ok (t.sd.fact 63 (f := .noat "Jobs" "_table") rfl), He.noat_ok (t.sd.fact 64 (f := .noat "Jobs" "_costs") rfl), He.noat_ok (t.sd.fact 65 (f := .noat "Jobs" "_ceilings") rfl)⟩
theorem Told.tsp (t : Told g) : TSp (KK g) (He.ga (KK g) "Span") := ⟨He.cls_ok (t.sd.fact 62 (f := .cls "Span") rfl), He.noat_ok (t.sd.fact 68 (f := .noat "Span" "path") rfl), He.noat_ok (t.sd.fact 69 (f := .noat "Span" "thing") rfl), He.noat_ok (t.sd.fact 70 (f := .noat "Span" "first") rfl), He.noat_ok (t.sd.fact 71 (f := .noat "Span" "stop") rfl)⟩
theorem Told.tj2 (t : Told g) : TJ2 (KK g) (He.ga (KK g) "Jobs") (He.ga (KK g) "Span") := ⟨t.tj, He.noat_ok (t.sd.fact 66 (f := .noat "Jobs" "spans") rfl), He.noat_ok (t.sd.fact 67 (f := .noat "Jobs" "kept") rfl), t.tsp⟩
theorem Told.mk_Jobs (t : Told g) : Mk (KK g) (He.ga (KK g) "Jobs") (He.ma (KK g) (He.ga (KK g) "Jobs") "__init__") := He.mkr_ok (t.sd.fact 76 (f := .mkr "Jobs") rfl)
theorem Told.mk_Span (t : Told g) : Mk (KK g) (He.ga (KK g) "Span") (He.ma (KK g) (He.ga (KK g) "Span") "__init__") := He.mkr_ok (t.sd.fact 77 (f := .mkr "Span") rfl)
theorem Told.x_BadJobs_BadJobs (t : Told g) : PySem.W.exmOne (KK g) (.ref (He.ga (KK g) "BadJobs")) (.ref (He.ga (KK g) "BadJobs")) = some true := He.exm_ok (t.sd.fact 83 (f := .exm "BadJobs" "BadJobs" true) rfl)
theorem Told.x_BadJobs_NoJob (t : Told g) : PySem.W.exmOne (KK g) (.ref (He.ga (KK g) "BadJobs")) (.ref (He.ga (KK g) "NoJob")) = some false := He.exm_ok (t.sd.fact 84 (f := .exm "BadJobs" "NoJob" false) rfl)
theorem Told.x_BadJobs_NoThing (t : Told g) : PySem.W.exmOne (KK g) (.ref (He.ga (KK g) "BadJobs")) (.ref (He.ga (KK g) "NoThing")) = some false := He.exm_ok (t.sd.fact 85 (f := .exm "BadJobs" "NoThing" false) rfl)
theorem Told.x_BadJobs_BadComings (t : Told g) : PySem.W.exmOne (KK g) (.ref (He.ga (KK g) "BadJobs")) (.ref (He.ga (KK g) "BadComings")) = some false := He.exm_ok (t.sd.fact 86 (f := .exm "BadJobs" "BadComings" false) rfl)
theorem Told.x_BadJobs_BadNumber (t : Told g) : PySem.W.exmOne (KK g) (.ref (He.ga (KK g) "BadJobs")) (.ref (He.ga (KK g) "BadNumber")) = some false := He.exm_ok (t.sd.fact 87 (f := .exm "BadJobs" "BadNumber" false) rfl)
theorem Told.x_NoJob_BadJobs (t : Told g) : PySem.W.exmOne (KK g) (.ref (He.ga (KK g) "NoJob")) (.ref (He.ga (KK g) "BadJobs")) = some false := He.exm_ok (t.sd.fact 88 (f := .exm "NoJob" "BadJobs" false) rfl)
theorem Told.x_NoJob_NoJob (t : Told g) : PySem.W.exmOne (KK g) (.ref (He.ga (KK g) "NoJob")) (.ref (He.ga (KK g) "NoJob")) = some true := He.exm_ok (t.sd.fact 89 (f := .exm "NoJob" "NoJob" true) rfl)
theorem Told.x_NoJob_NoThing (t : Told g) : PySem.W.exmOne (KK g) (.ref (He.ga (KK g) "NoJob")) (.ref (He.ga (KK g) "NoThing")) = some false := He.exm_ok (t.sd.fact 90 (f := .exm "NoJob" "NoThing" false) rfl)
theorem Told.x_NoJob_BadComings (t : Told g) : PySem.W.exmOne (KK g) (.ref (He.ga (KK g) "NoJob")) (.ref (He.ga (KK g) "BadComings")) = some false := He.exm_ok (t.sd.fact 91 (f := .exm "NoJob" "BadComings" false) rfl)
theorem Told.x_NoJob_BadNumber (t : Told g) : PySem.W.exmOne (KK g) (.ref (He.ga (KK g) "NoJob")) (.ref (He.ga (KK g) "BadNumber")) = some false := He.exm_ok (t.sd.fact 92 (f := .exm "NoJob" "BadNumber" false) rfl)
theorem Told.x_NoThing_BadJobs (t : Told g) : PySem.W.exmOne (KK g) (.ref (He.ga (KK g) "NoThing")) (.ref (He.ga (KK g) "BadJobs")) = some false := He.exm_ok (t.sd.fact 93 (f := .exm "NoThing" "BadJobs" false) rfl)
theorem Told.x_NoThing_NoJob (t : Told g) : PySem.W.exmOne (KK g) (.ref (He.ga (KK g) "NoThing")) (.ref (He.ga (KK g) "NoJob")) = some false := He.exm_ok (t.sd.fact 94 (f := .exm "NoThing" "NoJob" false) rfl)
theorem Told.x_NoThing_NoThing (t : Told g) : PySem.W.exmOne (KK g) (.ref (He.ga (KK g) "NoThing")) (.ref (He.ga (KK g) "NoThing")) = some true := He.exm_ok (t.sd.fact 95 (f := .exm "NoThing" "NoThing" true) rfl)
theorem Told.x_NoThing_BadComings (t : Told g) : PySem.W.exmOne (KK g) (.ref (He.ga (KK g) "NoThing")) (.ref (He.ga (KK g) "BadComings")) = some false := He.exm_ok (t.sd.fact 96 (f := .exm "NoThing" "BadComings" false) rfl)
theorem Told.x_NoThing_BadNumber (t : Told g) : PySem.W.exmOne (KK g) (.ref (He.ga (KK g) "NoThing")) (.ref (He.ga (KK g) "BadNumber")) = some false := He.exm_ok (t.sd.fact 97 (f := .exm "NoThing" "BadNumber" false) rfl)
theorem Told.x_BadComings_BadJobs (t : Told g) : PySem.W.exmOne (KK g) (.ref (He.ga (KK g) "BadComings")) (.ref (He.ga (KK g) "BadJobs")) = some false := He.exm_ok (t.sd.fact 98 (f := .exm "BadComings" "BadJobs" false) rfl)
theorem Told.x_BadComings_NoJob (t : Told g) : PySem.W.exmOne (KK g) (.ref (He.ga (KK g) "BadComings")) (.ref (He.ga (KK g) "NoJob")) = some false := He.exm_ok (t.sd.fact 99 (f := .exm "BadComings" "NoJob" false) rfl)
theorem Told.x_BadComings_NoThing (t : Told g) : PySem.W.exmOne (KK g) (.ref (He.ga (KK g) "BadComings")) (.ref (He.ga (KK g) "NoThing")) = some false := He.exm_ok (t.sd.fact 100 (f := .exm "BadComings" "NoThing" false) rfl)
theorem Told.x_BadComings_BadComings (t : Told g) : PySem.W.exmOne (KK g) (.ref (He.ga (KK g) "BadComings")) (.ref (He.ga (KK g) "BadComings")) = some true := He.exm_ok (t.sd.fact 101 (f := .exm "BadComings" "BadComings" true) rfl)
theorem Told.x_BadComings_BadNumber (t : Told g) : PySem.W.exmOne (KK g) (.ref (He.ga (KK g) "BadComings")) (.ref (He.ga (KK g) "BadNumber")) = some false := He.exm_ok (t.sd.fact 102 (f := .exm "BadComings" "BadNumber" false) rfl)
theorem Told.x_BadNumber_BadJobs (t : Told g) : PySem.W.exmOne (KK g) (.ref (He.ga (KK g) "BadNumber")) (.ref (He.ga (KK g) "BadJobs")) = some false := He.exm_ok (t.sd.fact 103 (f := .exm "BadNumber" "BadJobs" false) rfl)
theorem Told.x_BadNumber_NoJob (t : Told g) : PySem.W.exmOne (KK g) (.ref (He.ga (KK g) "BadNumber")) (.ref (He.ga (KK g) "NoJob")) = some false := He.exm_ok (t.sd.fact 104 (f := .exm "BadNumber" "NoJob" false) rfl)
theorem Told.x_BadNumber_NoThing (t : Told g) : PySem.W.exmOne (KK g) (.ref (He.ga (KK g) "BadNumber")) (.ref (He.ga (KK g) "NoThing")) = some false := He.exm_ok (t.sd.fact 105 (f := .exm "BadNumber" "NoThing" false) rfl)
theorem Told.x_BadNumber_BadComings (t : Told g) : PySem.W.exmOne (KK g) (.ref (He.ga (KK g) "BadNumber")) (.ref (He.ga (KK g) "BadComings")) = some false := He.exm_ok (t.sd.fact 106 (f := .exm "BadNumber" "BadComings" false) rfl)
theorem Told.x_BadNumber_BadNumber (t : Told g) : PySem.W.exmOne (KK g) (.ref (He.ga (KK g) "BadNumber")) (.ref (He.ga (KK g) "BadNumber")) = some true := He.exm_ok (t.sd.fact 107 (f := .exm "BadNumber" "BadNumber" true) rfl)
end
end K59L
/-! ## K61H3 -/
set_option Elab.async false
set_option linter.all false
set_option maxRecDepth 100000
set_option maxHeartbeats 4000000
namespace K59L
open PySem PySem.Spec PyProof.Rows L2 ErrK LamX LiI K59 DL
abbrev aJobs (g : G) : Addr := He.ga (KK g) "Jobs"
abbrev aSpan (g : G) : Addr := He.ga (KK g) "Span"
abbrev aBadJobs (g : G) : Addr := He.ga (KK g) "BadJobs"
abbrev aNoJob (g : G) : Addr := He.ga (KK g) "NoJob"
abbrev aNoThing (g : G) : Addr := He.ga (KK g) "NoThing"
abbrev aBadComings (g : G) : Addr := He.ga (KK g) "BadComings"
abbrev aBadNumber (g : G) : Addr := He.ga (KK g) "BadNumber"
abbrev cdL (g : G) : Addr := cdK (KK g) (He.ga (KK g) "law")
abbrev tbL (g : G) : Addr := tbK (KK g) (cdL g)
abbrev cdR (g : G) : Addr := cdK (KK g) (He.ga (KK g) "_law_refused")
abbrev tbR (g : G) : Addr := tbK (KK g) (cdR g)
variable [Wd]
section
variable {g : G} {h : Heap} {mg : Str → Option Value} {base : Heap}
theorem Told.c_is_word (t : Told g) (X : (KK g).In h) (G : h.Ns mainGlobals mg) : DL.Cl Wd.P Wd.w (KK g) mg base CX0 1 "is_word" (spC cWord) := by
  obtain ⟨fd, F⟩ := t.f_is_word
  exact ⟨⟨_, fd, _, wordC (ok_word F (t.g_isinstance X G) (t.g_str X G) (t.g_len X G) (t.g_all X G) (t.gLet X G) (t.gLon X G)), t.m_is_word X G, F.kp, F.binds fun _ _ _ _ _ _ us hl => match us, hl with | [_], _ => rfl⟩⟩
theorem Told.c_is_integer (t : Told g) (X : (KK g).In h) (G : h.Ns mainGlobals mg) : DL.Cl Wd.P Wd.w (KK g) mg base CX0 1 "is_integer" (spC cInt) := by
  obtain ⟨fd, F⟩ := t.f_is_integer
  exact ⟨⟨_, fd, _, ok_integer F (t.g_isinstance X G) (t.g_int X G) (t.g_bool X G), t.m_is_integer X G, F.kp, F.binds fun _ _ _ _ _ _ us hl => match us, hl with | [_], _ => rfl⟩⟩
theorem Told.c_is_list (t : Told g) (X : (KK g).In h) (G : h.Ns mainGlobals mg) : DL.Cl Wd.P Wd.w (KK g) mg base CX0 1 "is_list" (spC cList) := by
  obtain ⟨fd, F⟩ := t.f_is_list
  exact ⟨⟨_, fd, _, ok_list F (t.g_isinstance X G) (t.g_list X G) (t.g_tuple X G), t.m_is_list X G, F.kp, F.binds fun _ _ _ _ _ _ us hl => match us, hl with | [_], _ => rfl⟩⟩
theorem Told.c_is_pair (t : Told g) (X : (KK g).In h) (G : h.Ns mainGlobals mg) : DL.Cl Wd.P Wd.w (KK g) mg base CX0 2 "is_pair" (spC cPair) := by
  obtain ⟨fd, F⟩ := t.f_is_pair
  exact ⟨⟨_, fd, _, ok_pair F (t.c_is_list X G) (t.g_len X G), t.m_is_pair X G, F.kp, F.binds fun _ _ _ _ _ _ us hl => match us, hl with | [_], _ => rfl⟩⟩
theorem Told.c__law_pool (t : Told g) (X : (KK g).In h) (G : h.Ns mainGlobals mg) : DL.Cl Wd.P Wd.w (KK g) mg base CX0 1 "_law_pool" (spPool (KK g)) := by
  obtain ⟨fd, F⟩ := t.f__law_pool
  exact ⟨⟨_, fd, _, ok_pool F (t.g_int X G) (t.g_len X G) (t.g_sum X G) (t.g_abs X G), t.m__law_pool X G, F.kp, F.binds fun _ _ _ _ _ _ us hl => match us, hl with | [_, _], _ => rfl⟩⟩
theorem Told.c__law_one (t : Told g) (X : (KK g).In h) (G : h.Ns mainGlobals mg) (tk : DL.Cl Wd.P Wd.w (KK g) mg base CX0 1 "_law_take" (spC cTake)) : DL.Cl Wd.P Wd.w (KK g) mg base CX0 2 "_law_one" (spC cOne) := by
  obtain ⟨fd, F⟩ := t.f__law_one
  exact ⟨⟨_, fd, _, ok_one F tk (t.g_len X G), t.m__law_one X G, F.kp, F.binds fun _ _ _ _ _ _ us hl => match us, hl with | [_, _], _ => rfl⟩⟩
theorem Told.c__law_mixed (t : Told g) (X : (KK g).In h) (G : h.Ns mainGlobals mg) (tk : DL.Cl Wd.P Wd.w (KK g) mg base CX0 1 "_law_take" (spC cTake)) : DL.Cl Wd.P Wd.w (KK g) mg base CX0 2 "_law_mixed" (spC cMixed) := by
  obtain ⟨fd, F⟩ := t.f__law_mixed
  exact ⟨⟨_, fd, _, ok_mixed F tk (t.g_len X G) (t.g_list X G), t.m__law_mixed X G, F.kp, F.binds fun _ _ _ _ _ _ us hl => match us, hl with | [_, _], _ => rfl⟩⟩
theorem Told.c_copied_parts (t : Told g) (X : (KK g).In h) (G : h.Ns mainGlobals mg) : DL.Cl Wd.P Wd.w (KK g) mg base CX0 5 "copied_parts" (spC (cCopied 3)) := by
  obtain ⟨fd, F⟩ := t.f_copied_parts
  have S : Self Wd.P (KK g) mg "copied_parts" (He.ga (KK g) "copied_parts") fd ["parts"] := ⟨t.m_copied_parts X G, F.kp, F.binds fun _ _ _ _ _ _ us hl => match us, hl with | [_], _ => rfl⟩
  exact ⟨⟨_, fd, _, ok_copied F S (t.c_is_integer X G) (t.g_tuple X G) 3, t.m_copied_parts X G, F.kp, F.binds fun _ _ _ _ _ _ us hl => match us, hl with | [_], _ => rfl⟩⟩
theorem Told.c_are_parts (t : Told g) (X : (KK g).In h) (G : h.Ns mainGlobals mg) : DL.Cl Wd.P Wd.w (KK g) mg base CX0 11 "are_parts" (spC (cAre 8)) := by
  obtain ⟨fd, F⟩ := t.f_are_parts
  have S : Self Wd.P (KK g) mg "are_parts" (He.ga (KK g) "are_parts") fd ["thing", "around"] := ⟨t.m_are_parts X G, F.kp, F.binds fun _ _ _ _ _ _ us hl => match us, hl with | [_, _], _ => rfl⟩
  obtain ⟨fd1, F1⟩ := t.f_is_part
  have S1 : Self Wd.P (KK g) mg "is_part" (He.ga (KK g) "is_part") fd1 ["thing", "around"] := ⟨t.m_is_part X G, F1.kp, F1.binds fun _ _ _ _ _ _ us hl => match us, hl with | [_, _], _ => rfl⟩
  exact ⟨⟨_, fd, _, (ok_parts F1 S1 F S (t.c_is_integer X G) (t.c_is_list X G) (t.c_is_pair X G) (t.c_is_word X G) (t.g_len X G) (t.g_all X G) 8).2, t.m_are_parts X G, F.kp, F.binds fun _ _ _ _ _ _ us hl => match us, hl with | [_, _], _ => rfl⟩⟩
theorem Told.c_is_job (t : Told g) (X : (KK g).In h) (G : h.Ns mainGlobals mg) : DL.Cl Wd.P Wd.w (KK g) mg base CX0 12 "is_job" (spC (cJob 8)) := by
  obtain ⟨fd, F⟩ := t.f_is_job
  exact ⟨⟨_, fd, _, ok_job 8 F (t.c_is_integer X G) (t.c_is_list X G) (t.c_are_parts X G) (by decide) (t.g_len X G), t.m_is_job X G, F.kp, F.binds fun _ _ _ _ _ _ us hl => match us, hl with | [_], _ => rfl⟩⟩
theorem Told.c_are_moments (t : Told g) (X : (KK g).In h) (G : h.Ns mainGlobals mg) : DL.Cl Wd.P Wd.w (KK g) mg base CX0 2 "are_moments" (spC cMoms) := by
  obtain ⟨fd, F⟩ := t.f_are_moments
  exact ⟨⟨_, fd, _, ok_moms F (t.c_is_integer X G) (t.c_is_list X G) (t.g_len X G) (t.g_all X G) (t.g_range X G), t.m_are_moments X G, F.kp, F.binds fun _ _ _ _ _ _ us hl => match us, hl with | [_, _], _ => rfl⟩⟩
theorem Told.c__law_units (t : Told g) (X : (KK g).In h) (G : h.Ns mainGlobals mg) : DL.Cl Wd.P Wd.w (KK g) mg base CX0 5 "_law_units" (spC (cUnits 3)) := by
  obtain ⟨fd, F⟩ := t.f__law_units
  have S : Self Wd.P (KK g) mg "_law_units" (He.ga (KK g) "_law_units") fd ["body", "around"] := ⟨t.m__law_units X G, F.kp, F.binds fun _ _ _ _ _ _ us hl => match us, hl with | [_, _], _ => rfl⟩
  exact ⟨⟨_, fd, _, (ok_units F S (t.g_len X G) (t.g_isinstance X G) (t.g_int X G) (t.g_enumerate X G) 3 (by decide)).mono (by omega), t.m__law_units X G, F.kp, F.binds fun _ _ _ _ _ _ us hl => match us, hl with | [_, _], _ => rfl⟩⟩
theorem Told.c__law_handed (t : Told g) (X : (KK g).In h) (G : h.Ns mainGlobals mg) (tk : DL.Cl Wd.P Wd.w (KK g) mg base CX0 1 "_law_take" (spC cTake)) : DL.Cl Wd.P Wd.w (KK g) mg base CX0 11 "_law_handed" (spC (cHanded 9)) := by
  obtain ⟨fd, F⟩ := t.f__law_handed
  have S : Self Wd.P (KK g) mg "_law_handed" (He.ga (KK g) "_law_handed") fd ["pool", "thing"] := ⟨t.m__law_handed X G, F.kp, F.binds fun _ _ _ _ _ _ us hl => match us, hl with | [_, _], _ => rfl⟩
  exact ⟨⟨_, fd, _, ok_handed F S tk (t.g_isinstance X G) (t.g_list X G) (t.g_tuple X G) 9, t.m__law_handed X G, F.kp, F.binds fun _ _ _ _ _ _ us hl => match us, hl with | [_, _], _ => rfl⟩⟩
theorem Told.c__law_body (t : Told g) (X : (KK g).In h) (G : h.Ns mainGlobals mg) (tk : DL.Cl Wd.P Wd.w (KK g) mg base CX0 1 "_law_take" (spC cTake)) : DL.Cl Wd.P Wd.w (KK g) mg base CX0 6 "_law_body" (spC (cBody 3)) := by
  obtain ⟨fd, F⟩ := t.f__law_body
  have S : Self Wd.P (KK g) mg "_law_body" (He.ga (KK g) "_law_body") fd ["pool", "things", "deep"] := ⟨t.m__law_body X G, F.kp, F.binds fun _ _ _ _ _ _ us hl => match us, hl with | [_, _, _], _ => rfl⟩
  exact ⟨⟨_, fd, _, ok_body F S tk (t.c__law_one X G tk) (t.g_range X G) (t.g_tuple X G) 3, t.m__law_body X G, F.kp, F.binds fun _ _ _ _ _ _ us hl => match us, hl with | [_, _, _], _ => rfl⟩⟩
theorem Told.c_same (m : Nat) (t : Told g) (X : (KK g).In h) (G : h.Ns mainGlobals mg) : DL.Cl Wd.P Wd.w (KK g) mg base CX0 (m + 1) "_law_same" (spC (cSame m)) := by
  obtain ⟨fd, F⟩ := t.f__law_same
  have S : Self Wd.P (KK g) mg "_law_same" (He.ga (KK g) "_law_same") fd ["found", "due"] := ⟨t.m__law_same X G, F.kp, F.binds fun _ _ _ _ _ _ us hl => match us, hl with | [_, _], _ => rfl⟩
  exact S.cl (ok_same F S (t.g_isinstance X G) (t.g_list X G) (t.g_tuple X G) (t.g_int X G) (t.g_bool X G) (t.g_zip X G) (t.g_len X G) (t.g_all X G) m)
theorem Told.q_jobs (t : Told g) (X : (KK g).In h) (G : h.Ns mainGlobals mg) : ∃ fd, Mth Wd.P Wd.w (KK g) mg base CX0 2 (aJobs g) "jobs" (He.ma (KK g) (aJobs g) "jobs") fd ["self"] (spC (cJobs (aJobs g))) := by
  obtain ⟨fd, F⟩ := t.t_Jobs_jobs
  exact ⟨fd, t.tj.cl, t.h_jobs, ok_jobs F t.tj, F.binds fun _ _ _ _ _ _ us hl => match us, hl with | [_], _ => rfl⟩
theorem Told.c_known_job (t : Told g) (X : (KK g).In h) (G : h.Ns mainGlobals mg) : DL.Cl Wd.P Wd.w (KK g) mg base (L2.CX Wd.P Wd.w) 4 "known_job" (spC (cKnown (aJobs g) (aNoJob g))) := by
  obtain ⟨fd, F⟩ := t.f_known_job
  obtain ⟨fd2, M⟩ := t.q_jobs (base := base) X G
  exact ⟨⟨_, fd, _, ok_known F M (t.e_NoJob X G) (t.g_isinstance X G) (t.g_str X G), t.m_known_job X G, F.kp, F.binds fun _ _ _ _ _ _ us hl => match us, hl with | [_, _], _ => rfl⟩⟩
theorem Told.q_cost (t : Told g) (X : (KK g).In h) (G : h.Ns mainGlobals mg) : ∃ fd, Mth Wd.P Wd.w (KK g) mg base (L2.CX Wd.P Wd.w) 5 (aJobs g) "cost" (He.ma (KK g) (aJobs g) "cost") fd ["self", "job"] (spC (cCost (aJobs g) (aNoJob g))) := by
  obtain ⟨fd, F⟩ := t.t_Jobs_cost
  exact ⟨fd, t.tj.cl, t.h_cost, ok_cost F t.tj (t.c_known_job X G), F.binds fun _ _ _ _ _ _ us hl => match us, hl with | [_, _], _ => rfl⟩
theorem Told.q_ceiling (t : Told g) (X : (KK g).In h) (G : h.Ns mainGlobals mg) : ∃ fd, Mth Wd.P Wd.w (KK g) mg base (L2.CX Wd.P Wd.w) 4 (aJobs g) "ceiling" (He.ma (KK g) (aJobs g) "ceiling") fd ["self", "thing"] (spC (cCeil (aJobs g) (aNoThing g))) := by
  obtain ⟨fd, F⟩ := t.t_Jobs_ceiling
  exact ⟨fd, t.tj.cl, t.h_ceiling, ok_ceil F t.tj (t.e_NoThing X G) (t.g_isinstance X G) (t.g_str X G), F.binds fun _ _ _ _ _ _ us hl => match us, hl with | [_, _], _ => rfl⟩
theorem Told.c_checked_comings (t : Told g) (X : (KK g).In h) (G : h.Ns mainGlobals mg) : DL.Cl Wd.P Wd.w (KK g) mg base (L2.CX Wd.P Wd.w) 4 "checked_comings" (spC (cCC (aJobs g) (aBadComings g))) := by
  obtain ⟨fd, F⟩ := t.f_checked_comings
  obtain ⟨fd2, M⟩ := t.q_jobs (base := base) X G
  exact ⟨⟨_, fd, _, ok_cc F M (t.c_are_moments X G) (t.e_BadComings X G) (t.g_isinstance X G) (t.g_str X G) (t.g_dict X G) (t.g_list X G) (t.g_sorted X G), t.m_checked_comings X G, F.kp, F.binds fun _ _ _ _ _ _ us hl => match us, hl with | [_, _], _ => rfl⟩⟩
theorem Told.c_units_of (t : Told g) (X : (KK g).In h) (G : h.Ns mainGlobals mg) : DL.Cl Wd.P Wd.w (KK g) mg base CX0 1 "units_of" (spC cNo) := by
  obtain ⟨fd, F⟩ := t.f_units_of
  exact ⟨⟨_, fd, _, noC (ps := ["jobs", "comings"]), t.m_units_of X G, F.kp, F.binds fun _ _ _ _ _ _ us hl => match us, hl with | [_, _], _ => rfl⟩⟩
theorem Told.c_done (t : Told g) (X : (KK g).In h) (G : h.Ns mainGlobals mg) : DL.Cl Wd.P Wd.w (KK g) mg base (L2.CX Wd.P Wd.w) 5 "done" (spC (cBadC (aJobs g) (aBadComings g))) := by
  obtain ⟨fd, F⟩ := t.f_done
  exact ⟨⟨_, fd, _, ok_done F (t.c_checked_comings X G) (t.c_units_of X G), t.m_done X G, F.kp, F.binds fun _ _ _ _ _ _ us hl => match us, hl with | [_, _], _ => rfl⟩⟩
theorem Told.c_answers (t : Told g) (X : (KK g).In h) (G : h.Ns mainGlobals mg) : DL.Cl Wd.P Wd.w (KK g) mg base (L2.CX Wd.P Wd.w) 5 "answers" (spC (cBadC (aJobs g) (aBadComings g))) := by
  obtain ⟨fd, F⟩ := t.f_answers
  exact ⟨⟨_, fd, _, ok_ans F (t.c_checked_comings X G), t.m_answers X G, F.kp, F.binds fun _ _ _ _ _ _ us hl => match us, hl with | [_, _], _ => rfl⟩⟩
theorem Told.c_breakdown (t : Told g) (X : (KK g).In h) (G : h.Ns mainGlobals mg) : DL.Cl Wd.P Wd.w (KK g) mg base (L2.CX Wd.P Wd.w) 5 "breakdown" (spC (cBrk (aJobs g) (aNoJob g) (aBadComings g) (aBadNumber g))) := by
  obtain ⟨fd, F⟩ := t.f_breakdown
  exact ⟨⟨_, fd, _, ok_brk F (t.c_known_job X G) (t.c_checked_comings X G) (t.c_is_integer X G) (t.e_BadNumber X G) (t.g_len X G), t.m_breakdown X G, F.kp, F.binds fun _ _ _ _ _ _ us hl => match us, hl with | [_, _, _, _], _ => rfl⟩⟩
theorem Told.k_Span (t : Told g) (X : (KK g).In h) (G : h.Ns mainGlobals mg) : ∃ fd, MakC Wd.P Wd.w (KK g) mg base CX0 1 "Span" (aSpan g) (He.ma (KK g) (aSpan g) "__init__") fd ["self", "path", "thing", "first", "stop"] (spFill (aSpan g) spanN) := by
  obtain ⟨fd, F⟩ := t.t_Span___init__
  exact ⟨fd, t.mk_Span, ok_spanI F t.tsp, t.m_Span X G, F.binds fun _ _ _ _ _ _ us hl => match us, hl with | [_, _, _, _, _], _ => rfl⟩
theorem Told.c_spans_in (t : Told g) (X : (KK g).In h) (G : h.Ns mainGlobals mg) : DL.Cl Wd.P Wd.w (KK g) mg base CX0 6 "spans_in" (spC (cSpans (aSpan g) 3)) := by
  obtain ⟨fd, F⟩ := t.f_spans_in
  have S : Self Wd.P (KK g) mg "spans_in" (He.ga (KK g) "spans_in") fd ["parts", "path", "first"] := ⟨t.m_spans_in X G, F.kp, F.binds fun _ _ _ _ _ _ us hl => match us, hl with | [_, _, _], _ => rfl⟩
  obtain ⟨fd2, M⟩ := t.k_Span (base := base) X G
  exact ⟨⟨_, fd, _, ok_spans F S (t.c_is_integer X G) M (t.g_enumerate X G) 3 (by decide), t.m_spans_in X G, F.kp, F.binds fun _ _ _ _ _ _ us hl => match us, hl with | [_, _, _], _ => rfl⟩⟩
theorem Told.c_check_jobs (t : Told g) (X : (KK g).In h) (G : h.Ns mainGlobals mg) : DL.Cl Wd.P Wd.w (KK g) mg base (L2.CX Wd.P Wd.w) 14 "check_jobs" (spC (cCJ 8 (aBadJobs g))) := by
  obtain ⟨fd, F⟩ := t.f_check_jobs
  exact ⟨⟨_, fd, _, ok_cj 8 F (t.c_is_word X G) (t.c_is_job X G) (t.e_BadJobs X G) (t.g_isinstance X G) (t.g_dict X G) (t.g_set X G), t.m_check_jobs X G, F.kp, F.binds fun _ _ _ _ _ _ us hl => match us, hl with | [_], _ => rfl⟩⟩
theorem Told.c__law_jobs (t : Told g) (X : (KK g).In h) (G : h.Ns mainGlobals mg) (tk : DL.Cl Wd.P Wd.w (KK g) mg base CX0 1 "_law_take" (spC cTake)) : DL.Cl Wd.P Wd.w (KK g) mg base CX0 7 "_law_jobs" (spC cLJ) := by
  obtain ⟨fd, F⟩ := t.f__law_jobs
  exact ⟨⟨_, fd, _, ok_lj F tk (t.c__law_mixed X G tk) (t.c__law_body X G tk) (t.c__law_units X G) (t.g_len X G) (t.g_zip X G), t.m__law_jobs X G, F.kp, F.binds fun _ _ _ _ _ _ us hl => match us, hl with | [_, _], _ => rfl⟩⟩
theorem Told.k_Jobs (t : Told g) (X : (KK g).In h) (G : h.Ns mainGlobals mg) : ∃ fd, MakC Wd.P Wd.w (KK g) mg base (L2.CX Wd.P Wd.w) 15 "Jobs" (aJobs g) (He.ma (KK g) (aJobs g) "__init__") fd ["self", "jobs"] (spJI 8 (aJobs g) (aBadJobs g)) := by
  obtain ⟨fd, F⟩ := t.t_Jobs___init__
  exact ⟨fd, t.mk_Jobs, ok_init 8 F (t.c_check_jobs X G) (t.c_copied_parts X G) (t.c_spans_in X G) t.tj2 (t.g_sorted X G) (t.g_max X G), t.m_Jobs X G, F.binds fun _ _ _ _ _ _ us hl => match us, hl with | [_, _], _ => rfl⟩
theorem Told.c__law_made (t : Told g) (X : (KK g).In h) (G : h.Ns mainGlobals mg) (tk : DL.Cl Wd.P Wd.w (KK g) mg base CX0 1 "_law_take" (spC cTake)) : DL.Cl Wd.P Wd.w (KK g) mg base CX0 17 "_law_made" (spC (cMade (aJobs g))) := by
  obtain ⟨fd, F⟩ := t.f__law_made
  obtain ⟨fd2, M⟩ := t.k_Jobs (base := base) X G
  exact ⟨⟨_, fd, _, ok_made F (t.c__law_mixed X G tk) (t.c__law_handed X G tk) M (t.g_dict X G) (t.g_sorted X G), t.m__law_made X G, F.kp, F.binds fun _ _ _ _ _ _ us hl => match us, hl with | [_, _], _ => rfl⟩⟩
theorem Told.c__law_ceilings (t : Told g) (X : (KK g).In h) (G : h.Ns mainGlobals mg) : DL.Cl Wd.P Wd.w (KK g) mg base CX0 6 "_law_ceilings" (spC cCeils) := by
  obtain ⟨fd, F⟩ := t.f__law_ceilings
  exact ⟨⟨_, fd, _, ok_ceils F (t.c__law_units X G) (t.g_dict X G) (t.g_max X G), t.m__law_ceilings X G, F.kp, F.binds fun _ _ _ _ _ _ us hl => match us, hl with | [_], _ => rfl⟩⟩
theorem Told.c__law_bad_jobs (t : Told g) (X : (KK g).In h) (G : h.Ns mainGlobals mg) (tk : DL.Cl Wd.P Wd.w (KK g) mg base CX0 1 "_law_take" (spC cTake)) : DL.Cl Wd.P Wd.w (KK g) mg base CX0 4 "_law_bad_jobs" (spC cBadJ) := by
  obtain ⟨fd, F⟩ := t.f__law_bad_jobs
  exact ⟨⟨_, fd, _, ok_badJ F (t.c__law_mixed X G tk) (t.c__law_one X G tk) (t.g_dict X G) (t.g_sorted X G), t.m__law_bad_jobs X G, F.kp, F.binds fun _ _ _ _ _ _ us hl => match us, hl with | [_, _], _ => rfl⟩⟩
theorem Told.c__law_bad_comings (t : Told g) (X : (KK g).In h) (G : h.Ns mainGlobals mg) (tk : DL.Cl Wd.P Wd.w (KK g) mg base CX0 1 "_law_take" (spC cTake)) : DL.Cl Wd.P Wd.w (KK g) mg base CX0 4 "_law_bad_comings" (spC cBadM) := by
  obtain ⟨fd, F⟩ := t.f__law_bad_comings
  exact ⟨⟨_, fd, _, ok_badC F tk (t.c__law_one X G tk) (t.g_dict X G) (t.g_sorted X G), t.m__law_bad_comings X G, F.kp, F.binds fun _ _ _ _ _ _ us hl => match us, hl with | [_, _], _ => rfl⟩⟩
theorem Told.ne_BadJobs_NoJob (t : Told g) : aBadJobs g ≠ aNoJob g := fun z => by
  have e1 := t.x_NoJob_NoJob
  have e2 := t.x_BadJobs_NoJob
  have z : He.ga (KK g) "BadJobs" = He.ga (KK g) "NoJob" := z
  rw [z] at e2
  rw [e2] at e1
  cases e1
theorem Told.ne_BadJobs_NoThing (t : Told g) : aBadJobs g ≠ aNoThing g := fun z => by
  have e1 := t.x_NoThing_NoThing
  have e2 := t.x_BadJobs_NoThing
  have z : He.ga (KK g) "BadJobs" = He.ga (KK g) "NoThing" := z
  rw [z] at e2
  rw [e2] at e1
  cases e1
theorem Told.ne_BadJobs_BadComings (t : Told g) : aBadJobs g ≠ aBadComings g := fun z => by
  have e1 := t.x_BadComings_BadComings
  have e2 := t.x_BadJobs_BadComings
  have z : He.ga (KK g) "BadJobs" = He.ga (KK g) "BadComings" := z
  rw [z] at e2
  rw [e2] at e1
  cases e1
theorem Told.ne_BadJobs_BadNumber (t : Told g) : aBadJobs g ≠ aBadNumber g := fun z => by
  have e1 := t.x_BadNumber_BadNumber
  have e2 := t.x_BadJobs_BadNumber
  have z : He.ga (KK g) "BadJobs" = He.ga (KK g) "BadNumber" := z
  rw [z] at e2
  rw [e2] at e1
  cases e1
theorem Told.ne_NoJob_BadJobs (t : Told g) : aNoJob g ≠ aBadJobs g := fun z => by
  have e1 := t.x_BadJobs_BadJobs
  have e2 := t.x_NoJob_BadJobs
  have z : He.ga (KK g) "NoJob" = He.ga (KK g) "BadJobs" := z
  rw [z] at e2
  rw [e2] at e1
  cases e1
theorem Told.ne_NoJob_NoThing (t : Told g) : aNoJob g ≠ aNoThing g := fun z => by
  have e1 := t.x_NoThing_NoThing
  have e2 := t.x_NoJob_NoThing
  have z : He.ga (KK g) "NoJob" = He.ga (KK g) "NoThing" := z
  rw [z] at e2
  rw [e2] at e1
  cases e1
theorem Told.ne_NoJob_BadComings (t : Told g) : aNoJob g ≠ aBadComings g := fun z => by
  have e1 := t.x_BadComings_BadComings
  have e2 := t.x_NoJob_BadComings
  have z : He.ga (KK g) "NoJob" = He.ga (KK g) "BadComings" := z
  rw [z] at e2
  rw [e2] at e1
  cases e1
theorem Told.ne_NoJob_BadNumber (t : Told g) : aNoJob g ≠ aBadNumber g := fun z => by
  have e1 := t.x_BadNumber_BadNumber
  have e2 := t.x_NoJob_BadNumber
  have z : He.ga (KK g) "NoJob" = He.ga (KK g) "BadNumber" := z
  rw [z] at e2
  rw [e2] at e1
  cases e1
theorem Told.ne_NoThing_BadJobs (t : Told g) : aNoThing g ≠ aBadJobs g := fun z => by
  have e1 := t.x_BadJobs_BadJobs
  have e2 := t.x_NoThing_BadJobs
  have z : He.ga (KK g) "NoThing" = He.ga (KK g) "BadJobs" := z
  rw [z] at e2
  rw [e2] at e1
  cases e1
theorem Told.ne_NoThing_NoJob (t : Told g) : aNoThing g ≠ aNoJob g := fun z => by
  have e1 := t.x_NoJob_NoJob
  have e2 := t.x_NoThing_NoJob
  have z : He.ga (KK g) "NoThing" = He.ga (KK g) "NoJob" := z
  rw [z] at e2
  rw [e2] at e1
  cases e1
theorem Told.ne_NoThing_BadComings (t : Told g) : aNoThing g ≠ aBadComings g := fun z => by
  have e1 := t.x_BadComings_BadComings
  have e2 := t.x_NoThing_BadComings
  have z : He.ga (KK g) "NoThing" = He.ga (KK g) "BadComings" := z
  rw [z] at e2
  rw [e2] at e1
  cases e1
theorem Told.ne_NoThing_BadNumber (t : Told g) : aNoThing g ≠ aBadNumber g := fun z => by
  have e1 := t.x_BadNumber_BadNumber
  have e2 := t.x_NoThing_BadNumber
  have z : He.ga (KK g) "NoThing" = He.ga (KK g) "BadNumber" := z
  rw [z] at e2
  rw [e2] at e1
  cases e1
theorem Told.ne_BadComings_BadJobs (t : Told g) : aBadComings g ≠ aBadJobs g := fun z => by
  have e1 := t.x_BadJobs_BadJobs
  have e2 := t.x_BadComings_BadJobs
  have z : He.ga (KK g) "BadComings" = He.ga (KK g) "BadJobs" := z
  rw [z] at e2
  rw [e2] at e1
  cases e1
theorem Told.ne_BadComings_NoJob (t : Told g) : aBadComings g ≠ aNoJob g := fun z => by
  have e1 := t.x_NoJob_NoJob
  have e2 := t.x_BadComings_NoJob
  have z : He.ga (KK g) "BadComings" = He.ga (KK g) "NoJob" := z
  rw [z] at e2
  rw [e2] at e1
  cases e1
theorem Told.ne_BadComings_NoThing (t : Told g) : aBadComings g ≠ aNoThing g := fun z => by
  have e1 := t.x_NoThing_NoThing
  have e2 := t.x_BadComings_NoThing
  have z : He.ga (KK g) "BadComings" = He.ga (KK g) "NoThing" := z
  rw [z] at e2
  rw [e2] at e1
  cases e1
theorem Told.ne_BadComings_BadNumber (t : Told g) : aBadComings g ≠ aBadNumber g := fun z => by
  have e1 := t.x_BadNumber_BadNumber
  have e2 := t.x_BadComings_BadNumber
  have z : He.ga (KK g) "BadComings" = He.ga (KK g) "BadNumber" := z
  rw [z] at e2
  rw [e2] at e1
  cases e1
theorem Told.ne_BadNumber_BadJobs (t : Told g) : aBadNumber g ≠ aBadJobs g := fun z => by
  have e1 := t.x_BadJobs_BadJobs
  have e2 := t.x_BadNumber_BadJobs
  have z : He.ga (KK g) "BadNumber" = He.ga (KK g) "BadJobs" := z
  rw [z] at e2
  rw [e2] at e1
  cases e1
theorem Told.ne_BadNumber_NoJob (t : Told g) : aBadNumber g ≠ aNoJob g := fun z => by
  have e1 := t.x_NoJob_NoJob
  have e2 := t.x_BadNumber_NoJob
  have z : He.ga (KK g) "BadNumber" = He.ga (KK g) "NoJob" := z
  rw [z] at e2
  rw [e2] at e1
  cases e1
theorem Told.ne_BadNumber_NoThing (t : Told g) : aBadNumber g ≠ aNoThing g := fun z => by
  have e1 := t.x_NoThing_NoThing
  have e2 := t.x_BadNumber_NoThing
  have z : He.ga (KK g) "BadNumber" = He.ga (KK g) "NoThing" := z
  rw [z] at e2
  rw [e2] at e1
  cases e1
theorem Told.ne_BadNumber_BadComings (t : Told g) : aBadNumber g ≠ aBadComings g := fun z => by
  have e1 := t.x_BadComings_BadComings
  have e2 := t.x_BadNumber_BadComings
  have z : He.ga (KK g) "BadNumber" = He.ga (KK g) "BadComings" := z
  rw [z] at e2
  rw [e2] at e1
  cases e1
theorem Told.met (t : Told g) (X : (KK g).In h) (G : h.Ns mainGlobals mg) : MetD Wd.P Wd.w (KK g) mg base (tp 48) (cs5 (aBadJobs g) (aNoJob g) (aNoThing g) (aBadComings g) (aBadNumber g)) := by
  obtain ⟨fd, F⟩ := t.f__law_met
  have b : L2.Binds (KK g) fd ["ask"] [] := F.binds fun _ _ _ _ _ _ us hl => match us, hl with | [_], _ => rfl
  obtain ⟨oc, od, kV, doc, pm, an, cdv, ct, osl, rfl, lk, hcd⟩ := F.ex
  refine ⟨⟨_, oc, od, _, kV, doc, pm, an, cdv, ct, osl, t.m__law_met X G, F.kp, lk, hcd, b⟩, ⟨rfl, rfl, rfl, by decide +kernel, rfl, by decide +kernel, by decide +kernel⟩, ⟨_, _, _, _, _, _, _, _, _, rfl, ?_⟩, ⟨fun e he => ?_, fun e he e' he' => ?_, ?_⟩, rfl, Or.inl rfl, rfl⟩
  · exact .cons (e := ⟨_, "BadJobs", "job", "jobs"⟩) (.cons (e := ⟨_, "NoJob", "job", "job"⟩) (.cons (e := ⟨_, "NoThing", "thing", "thing"⟩) (.cons (e := ⟨_, "BadComings", "job", "comings"⟩) (.cons (e := ⟨_, "BadNumber", "number", "number"⟩) .nil))))
  · unfold cs5 at he
    simp only [List.mem_cons, List.not_mem_nil, or_false] at he
    rcases he with rfl | rfl | rfl | rfl | rfl
    · exact ⟨t.m_BadJobs X G, (err_parts (t.parts.er "BadJobs" (by simp [errN]))).2.1, He.noat_ok (t.sd.fact 78 (f := .noat "BadJobs" "job") rfl), by show (("BadJobs" : Str) == ("__debug__" : Str)) = false; decide, rfl⟩
    · exact ⟨t.m_NoJob X G, (err_parts (t.parts.er "NoJob" (by simp [errN]))).2.1, He.noat_ok (t.sd.fact 79 (f := .noat "NoJob" "job") rfl), by show (("NoJob" : Str) == ("__debug__" : Str)) = false; decide, rfl⟩
    · exact ⟨t.m_NoThing X G, (err_parts (t.parts.er "NoThing" (by simp [errN]))).2.1, He.noat_ok (t.sd.fact 80 (f := .noat "NoThing" "thing") rfl), by show (("NoThing" : Str) == ("__debug__" : Str)) = false; decide, rfl⟩
    · exact ⟨t.m_BadComings X G, (err_parts (t.parts.er "BadComings" (by simp [errN]))).2.1, He.noat_ok (t.sd.fact 81 (f := .noat "BadComings" "job") rfl), by show (("BadComings" : Str) == ("__debug__" : Str)) = false; decide, rfl⟩
    · exact ⟨t.m_BadNumber X G, (err_parts (t.parts.er "BadNumber" (by simp [errN]))).2.1, He.noat_ok (t.sd.fact 82 (f := .noat "BadNumber" "number") rfl), by show (("BadNumber" : Str) == ("__debug__" : Str)) = false; decide, rfl⟩
  · unfold cs5 at he he'
    simp only [List.mem_cons, List.not_mem_nil, or_false] at he he'
    rcases he with rfl | rfl | rfl | rfl | rfl <;> rcases he' with rfl | rfl | rfl | rfl | rfl
    · exact t.x_BadJobs_BadJobs.trans (by rw [decide_eq_true rfl])
    · exact t.x_BadJobs_NoJob.trans (by rw [decide_eq_false (t.ne_BadJobs_NoJob)])
    · exact t.x_BadJobs_NoThing.trans (by rw [decide_eq_false (t.ne_BadJobs_NoThing)])
    · exact t.x_BadJobs_BadComings.trans (by rw [decide_eq_false (t.ne_BadJobs_BadComings)])
    · exact t.x_BadJobs_BadNumber.trans (by rw [decide_eq_false (t.ne_BadJobs_BadNumber)])
    · exact t.x_NoJob_BadJobs.trans (by rw [decide_eq_false (t.ne_NoJob_BadJobs)])
    · exact t.x_NoJob_NoJob.trans (by rw [decide_eq_true rfl])
    · exact t.x_NoJob_NoThing.trans (by rw [decide_eq_false (t.ne_NoJob_NoThing)])
    · exact t.x_NoJob_BadComings.trans (by rw [decide_eq_false (t.ne_NoJob_BadComings)])
    · exact t.x_NoJob_BadNumber.trans (by rw [decide_eq_false (t.ne_NoJob_BadNumber)])
    · exact t.x_NoThing_BadJobs.trans (by rw [decide_eq_false (t.ne_NoThing_BadJobs)])
    · exact t.x_NoThing_NoJob.trans (by rw [decide_eq_false (t.ne_NoThing_NoJob)])
    · exact t.x_NoThing_NoThing.trans (by rw [decide_eq_true rfl])
    · exact t.x_NoThing_BadComings.trans (by rw [decide_eq_false (t.ne_NoThing_BadComings)])
    · exact t.x_NoThing_BadNumber.trans (by rw [decide_eq_false (t.ne_NoThing_BadNumber)])
    · exact t.x_BadComings_BadJobs.trans (by rw [decide_eq_false (t.ne_BadComings_BadJobs)])
    · exact t.x_BadComings_NoJob.trans (by rw [decide_eq_false (t.ne_BadComings_NoJob)])
    · exact t.x_BadComings_NoThing.trans (by rw [decide_eq_false (t.ne_BadComings_NoThing)])
    · exact t.x_BadComings_BadComings.trans (by rw [decide_eq_true rfl])
    · exact t.x_BadComings_BadNumber.trans (by rw [decide_eq_false (t.ne_BadComings_BadNumber)])
    · exact t.x_BadNumber_BadJobs.trans (by rw [decide_eq_false (t.ne_BadNumber_BadJobs)])
    · exact t.x_BadNumber_NoJob.trans (by rw [decide_eq_false (t.ne_BadNumber_NoJob)])
    · exact t.x_BadNumber_NoThing.trans (by rw [decide_eq_false (t.ne_BadNumber_NoThing)])
    · exact t.x_BadNumber_BadComings.trans (by rw [decide_eq_false (t.ne_BadNumber_BadComings)])
    · exact t.x_BadNumber_BadNumber.trans (by rw [decide_eq_true rfl])
  · simp [cs5, t.ne_BadJobs_NoJob, t.ne_BadJobs_NoThing, t.ne_BadJobs_BadComings, t.ne_BadJobs_BadNumber, t.ne_NoJob_NoThing, t.ne_NoJob_BadComings, t.ne_NoJob_BadNumber, t.ne_NoThing_BadComings, t.ne_NoThing_BadNumber, t.ne_BadComings_BadNumber]
theorem Told.c__law_refused (t : Told g) (X : (KK g).In h) (G : h.Ns mainGlobals mg) (tk : DL.Cl Wd.P Wd.w (KK g) mg base CX0 1 "_law_take" (spC cTake)) (hT : (tbR g, ("_law_refused.<locals>.<lambda>" : Str)) ∈ Wd.T) (TB : TabB base mg (cdR g) (tbR g)) : DL.Cl Wd.P Wd.w (KK g) mg base CX0 8 "_law_refused" (spC (cRef (aJobs g))) := by
  obtain ⟨fd, F⟩ := t.f__law_refused
  obtain ⟨FC, _⟩ := funC_of F t.parts.re.co
  exact ⟨⟨_, fd, _, ok_refused FC TB hT (t.met X G) (t.c__law_bad_comings X G tk) (t.c__law_one X G tk) (t.c_done X G) (t.c_answers X G) (t.c_breakdown X G) (t.c_same 4 X G) (t.g_sorted X G), t.m__law_refused X G, F.kp, F.binds fun _ _ _ _ _ _ us hl => match us, hl with | [_, _, _], _ => rfl⟩⟩
theorem Told.law (t : Told g) (X : (KK g).In h) (G : h.Ns mainGlobals mg) (tk : DL.Cl Wd.P Wd.w (KK g) mg base CX0 1 "_law_take" (spC cTake)) (hT : (tbR g, ("_law_refused.<locals>.<lambda>" : Str)) ∈ Wd.T) (hT2 : (tbL g, ("law.<locals>.<lambda>" : Str)) ∈ Wd.T) (TB : TabB base mg (cdR g) (tbR g)) (TB2 : TabB base mg (cdL g) (tbL g)) (hw : ∀ H p, Spring H p 0 → Wd.spr H p 0) {fd : FuncData} (F : Fun (KK g) "law" "law" (tp 52) (He.ga (KK g) "law") fd) :
    FnOk Wd.P Wd.w (KK g) mg base CX0 19 (He.ga (KK g) "law") fd ["script"] (spLaw (KK g)) := by
  obtain ⟨FC, _⟩ := funC_of F t.parts.la.co
  obtain ⟨f1, MJ⟩ := t.k_Jobs (base := base) X G
  obtain ⟨f2, MB⟩ := t.q_jobs (base := base) X G
  obtain ⟨f3, MC⟩ := t.q_cost (base := base) X G
  obtain ⟨f4, ME⟩ := t.q_ceiling (base := base) X G
  obtain ⟨f5, FQ⟩ := t.t_Jobs___eq__
  obtain ⟨nf, ti⟩ := thing_parts t.tj.cl t.parts.th
  have L : LawH Wd.P (KK g) mg base (tbL g) (cdL g) (aJobs g) (aBadJobs g) (aNoJob g) (aNoThing g) (aBadComings g) (aBadNumber g) _ _ _ _ _ f1 f2 f3 f4 f5 :=
    { tB := TB2, hT := hT2, mD := t.met X G, cTk := tk, cO := (t.c__law_one X G tk), cX := (t.c__law_mixed X G tk), cL := (t.c__law_jobs X G tk), cH := (t.c__law_handed X G tk), cU := (t.c__law_units X G), cS := t.c_same 11 X G, cMd := (t.c__law_made X G tk), cCe := (t.c__law_ceilings X G), cBJ := (t.c__law_bad_jobs X G tk), cR := t.c__law_refused X G tk hT TB, MJ := MJ, MB := MB, MC := MC, ME := ME,
      eF := ok_eqJ FQ t.tj ti (t.m_Jobs X G) (t.g_isinstance X G), eS := t.h___eq__.at_, eI := t.h___eq__.fn, eB := FQ.binds fun _ _ _ _ _ _ us hl => match us, hl with | [_, _], _ => rfl, eN := nf, g_dict := (t.g_dict X G), g_sorted := (t.g_sorted X G), g_list := (t.g_list X G), g_min := (t.g_min X G), g_int := (t.g_int X G), gL := (t.g_len X G) }
  exact ok_law FC L (t.c__law_pool X G) hw (t.g_range X G)
end
end K59L
/-! ## K61H4 -/
set_option Elab.async false
set_option linter.all false
set_option maxRecDepth 100000
set_option maxHeartbeats 4000000
namespace K59L
open PySem PySem.Spec PyProof.Rows L2 LamX K59 DL
def hk : PySem.W.Hook where
  α := LkT
  obs := fun s => looks s.heap.get?
  val := fun _ => vals
  says := fun _ h => ∃ g : G, looks g = vals ∧ ∀ a o, g a = some o → h.get? a = some o
  of := fun _ _ e => ⟨_, e, fun _ _ z => z⟩
  keeps := fun _ _ _ ⟨g, e, k⟩ kk => ⟨g, e, fun a o z => kk _ _ (k a o z)⟩
def ob (s : PySem.W.SharedT) : LkT := looks (HandSHeadRun.getT s)
theorem ob_eq (s : PySem.W.SharedT) : ob s = hk.obs s.abs := by
  have e : HandSHeadRun.getT s = s.abs.heap.get? := funext (HandSHeadRun.getT_eq s)
  unfold ob
  rw [e]
  rfl
theorem run_all (w : World) : HandSHeadRun.RunEq R q52 hk ob 20000 loose w := by
  intro os
  have h1 := run1 w os
  have h2 := run2 w os
  have hA := runA w os
  show (endS w os).map _ = _
  cases e : endS w os with
  | none =>
    rw [e] at h1
    cases h1
  | some s =>
    rw [e, Option.map_some] at h1 h2 hA
    rw [Option.map_some]
    have z1 := Option.some.inj h1
    have z2 := Option.some.inj h2
    have zz : ob s = vals := Option.some.inj hA
    rw [z1, z2, zz]
    rfl
theorem facts {P : Program} {w : World} {h : Heap} {mg : Str → Option Value} {fa : Addr} {n : Nat} (hn : n ≤ 1000) (Y : hk.says w h) (G : h.Ns mainGlobals mg) (hfa : mg ("law" : Str) = some (.ref fa)) :
    ∃ K : PySem.W.Frag, K.In h ∧ ∃ (fd : FuncData) (cs : List (Addr × Addr)) (sp : Sp), (∀ p ∈ cs, h.get? p.2 = some { cls := .none, data := .fields #[] }) ∧ (∀ p ∈ cs, K.lookup p.2 = none) ∧ (∀ p ∈ cs, PySem.W.CodeHd h p.1 p.2) ∧ (∀ (s : Shared) (u : Value), BindsTo s fd ⟨[u], []⟩ [("script", u)]) ∧
      (∀ (H : Hp) (a : Addr) (ns : List Int), ns.length ≤ n → (∀ z ∈ ns, Builtin.Int.intBits z ≤ 1048576) → (∀ p ∈ cs, H p.2 = some (.tbl #[])) → SqL K H a (ns.map V.int) → sp [.ref a] H (fun v _ => v = .bl true) fun _ _ _ => False) ∧
      ∀ base : Heap, K.In base → base.Ns mainGlobals mg → (∀ p ∈ cs, TabB base mg p.1 p.2) → FnOk P w K mg base CX0 19 fa fd ["script"] sp := by
  obtain ⟨g, lk, k⟩ := Y
  have t := told_of lk
  have X : (KK g).In h := fun a o e => k _ _ (He.frG_at _ e)
  have ps := t.parts
  let T : List (Addr × Str) := [(tbL g, "law.<locals>.<lambda>"), (tbR g, "_law_refused.<locals>.<lambda>")]
  have tu : ∀ e ∈ T, ∀ e' ∈ T, e.1 = e'.1 → e.2 = e'.2 := fun e he e' he' q => by
    rcases List.mem_cons.mp he with rfl | he <;> rcases List.mem_cons.mp he' with rfl | he'
    · rfl
    · rw [List.mem_singleton.mp he'] at q
      exact absurd q ps.ne
    · rw [List.mem_singleton.mp he] at q
      exact absurd q.symm ps.ne
    · rw [List.mem_singleton.mp he, List.mem_singleton.mp he']
  letI : Wd := K59.wd P w T tu
  obtain ⟨fd, F⟩ := t.f_law
  have e := hfa.symm.trans (t.m_law X G)
  cases e
  obtain ⟨fdR, FR⟩ := t.f__law_refused
  obtain ⟨_, hcL⟩ := funC_of F ps.la.co
  obtain ⟨_, hcR⟩ := funC_of FR ps.re.co
  refine ⟨KK g, X, fd, [(cdL g, tbL g), (cdR g, tbR g)], K59.spLaw (KK g), fun p hp => ?_, fun p hp => ?_, fun p hp => ?_, fun s u => ?_, fun H a ns hl _ hH hS => ?_, fun base Xb Gb TB => ?_⟩
  · rcases List.mem_cons.mp hp with rfl | hp
    · exact k _ _ (emptyTab_ok ps.la.et)
    · rw [List.mem_singleton.mp hp]
      exact k _ _ (emptyTab_ok ps.re.et)
  · rcases List.mem_cons.mp hp with rfl | hp
    · exact ps.la.no
    · rw [List.mem_singleton.mp hp]
      exact ps.re.no
  · rcases List.mem_cons.mp hp with rfl | hp
    · exact PySem.W.codeHd_of_K X hcL
    · rw [List.mem_singleton.mp hp]
      exact PySem.W.codeHd_of_K X hcR
  · obtain ⟨oc, od, kV, doc, pm, an, cdv, ct, osl, rfl, lk, hcd⟩ := F.ex
    exact BindsTo.of_eq rfl
  · have hL : H (tbL g) = some (.tbl #[]) := hH (cdL g, tbL g) List.mem_cons_self
    have hR : H (tbR g) = some (.tbl #[]) := hH (cdR g, tbR g) (List.mem_cons_of_mem _ List.mem_cons_self)
    refine ⟨a, ns, rfl, hS, Nat.le_trans hl hn, fun p hm => ?_, fun _ => rfl⟩
    have hm : p ∈ T := hm
    rcases List.mem_cons.mp hm with rfl | hm
    · exact ⟨#[], hL, trivial, fun pos cv hc => by cases hc⟩
    · rw [List.mem_singleton.mp hm]
      exact ⟨#[], hR, trivial, fun pos cv hc => by cases hc⟩
  · have tk : DL.Cl P w (KK g) mg base CX0 1 "_law_take" (spC cTake) := by
      obtain ⟨fdT, FT⟩ := t.f__law_take
      exact ⟨⟨_, fdT, _, takeC T tu (ok_take FT (t.g_int X G)), t.m__law_take X G, FT.kp, FT.binds fun _ _ _ _ _ _ us hl => match us, hl with | [_, _], _ => rfl⟩⟩
    exact t.law X G tk (List.mem_cons_of_mem _ List.mem_cons_self) List.mem_cons_self (TB _ (List.mem_cons_of_mem _ List.mem_cons_self)) (TB _ List.mem_cons_self) (fun _ _ s => s) F
end K59L
/-! ## K61H5 -/
set_option Elab.async false
set_option linter.all false
set_option maxRecDepth 100000
set_option maxHeartbeats 0
open PySem PySem.W PySem.Calls PyProof.Rows
theorem PySem.Challenge.cw_meettasks_k59_jobs_told_and_refused_holds : PySem.Challenge.rw_meettasks_k59_jobs_told_and_refused.Holds := by
  w_on; o_law
  refine HandSHeadRun.head_any (r := OpenLaw.row PySem.Challenge.rw_meettasks_k59_jobs_told_and_refused) (q := K59L.q52) (H := K59L.hk) (ob := K59L.ob) (M := 20000) (loose := K59L.loose) (d := HandSHeadRun.topDef (OpenLaw.row PySem.Challenge.rw_meettasks_k59_jobs_told_and_refused).prog 52) (kwd := []) K59L.ob_eq
    (by kernel_rfl) (fun s => by kernel_rfl) K59L.run_all (by kernel_rfl) (by kernel_rfl) (by kernel_rfl) (by rfl) (by first | assumption | decide +kernel) (by decide +kernel) ⟨rfl, rfl, rfl, rfl, rfl, by decide +kernel⟩ ?hw ?hc
  case hw => w_witness2
  case hc =>
    refine LamX.walk_ofTsE (l := PySem.Challenge.rw_meettasks_k59_jobs_told_and_refused) (n := 63) (k := 19) (x := "script") (CX := fun _ => L2.CX0) rfl (by decide) (by kernel_rfl) ⟨rfl, by decide, by decide⟩ ?F (fun _ _ _ _ _ z => z)
    intro w mg fa h Y G hmg0
    have hmg : mg ("law" : PySem.Str) = some (.ref fa) := by
      have e : (HandSHeadRun.topDef (OpenLaw.row PySem.Challenge.rw_meettasks_k59_jobs_told_and_refused).prog 52).name = ("law" : PySem.Str) := by kernel_rfl
      rw [← e]
      exact hmg0
    exact K59L.facts (by decide) Y G hmg
