import PyProof.Rows.All
import Wide.All
import OpenK.AllK
import Wide.FinOn
import HandS.TupSets
import HandS.Sort
import HandS.SetFor
import HandS.Strs
import HandS.ForMost
import HandS.Flow
import HandS.Style
import HandS.IsInst
import HandS.Conv
import HandS.ClsMeth
import HandS.SortRule
import HandS.TupLen
import HandS.Star
import HandS.TupAny
import HandS.Codes
import HandS.SortInts
import PyProof.ReprRoads
import PyProof.CallFns
import HandS.Ends
import HandS.WordsExc
import HandS.Lambda
import HandS.Nested
import HandS.IterVal
import HandS.EndTab
import HandS.EndOwn
import HandS.Walk
import PyProof.ReprReads
import PyProof.ReprLen
import HandS.DictComp
import HandS.TupMul
import KE.KExcIs
import KE.KIsAll
import HandS.Exc
import HandS.ExcOwn
import HandS.ExcInit
import HandS.ExcField
import KE.GoesEnum
import HandS.Iter
import PyProof.TupleOfSeq
import HandS.SortOrd
import PyProof.FitsInt
import HandS.Deep
import HandS.Zip
import HandS.Defaults
import HandS.Property
import KE.KNestM
import PySem.Challenge.RW_huefall_k33_normal_run
set_option Elab.async false
set_option linter.all false
section
set_option maxRecDepth 100000
set_option maxHeartbeats 2000000
namespace L2
open PySem PySem.Spec PyProof.Rows
/-! ### ranges as values, walked by their name -/
section
variable {X : Cx} {tg e : Expr} {te : TE}
theorem hu_cr_range1 : CallR X (.type "range") (fun vs H Q => ∃ j, vs = [V.int j] ∧ ∀ p, H p = none → Q (.ref p) (upd H p (.rng 0 j))) := by
  intro pins s σ H vs us Q I r h
  obtain ⟨j, rfl, q⟩ := h
  cases r with
  | cons rj rr =>
    cases rr
    obtain ⟨t, rfl⟩ := rj
    have lay := I.laid (a := s.heap.objs.size) (o := .rng 0 j) (t' := s.toks + 1 + 1) (h' := s.heap.push { cls := .type "range", data := .fields #[.int 0 s.toks, .int j t, .int 1 (s.toks + 1)] })
      (fun b o ho => Heap.get?_push_of_some _ ho) (Nat.le_refl _) ⟨s.toks, t, s.toks + 1, Heap.get?_push_size _ rfl⟩
    exact call_range_1 ⟨.ref s.heap.objs.size, _, lay, rfl, q _ (I.hok.fresh (Nat.le_refl _))⟩
def iHuRng (te : TE) : TI := fun σ H R => te σ H fun v H1 => ∃ a lo hi, v = .ref a ∧ H1 a = some (.rng lo hi) ∧ (-(2 ^ 62) ≤ lo ∧ lo < 2 ^ 62 ∧ -(2 ^ 62) ≤ hi ∧ hi < 2 ^ 62) ∧ R (Itr lo (hi - lo).toNat) H1
theorem hu_pi_rng (he : PE X e te) : PI X tg e (iHuRng te) := by
  refine ⟨fun pins s σ H R I h => ?_⟩
  refine thn (he.run pins s σ H _ I h) fun v s1 ⟨x, H1, I1, r1, q1⟩ => ?_
  obtain ⟨a, lo, hi, rfl, ha, ⟨b1, b2, b3, b4⟩, q⟩ := q1
  cases r1
  obtain ⟨t, u, w, ho⟩ := I1.hok a _ ha
  have ho' : IsRange s1.heap a lo hi 1 t u w := ho
  refine wpAny_pyIter_range ho' (small_one b1 b2 b3 b4) ?_
  refine ⟨s1.heap.objs.size, [s1.heap.objs.size], _, _, H1, rfl, I1.kept (t' := s1.toks) fun b o eo => Heap.get?_push_of_some _ eo, turn_range _ lo (hi - lo).toNat, ?_, fun b hb => ?_, q⟩
  · have z1 : lo + ((0 : Nat) : Int) * 1 = lo := by simp
    have z2 : (((hi - lo).toNat : Nat) : Int) - ((0 : Nat) : Int) = Builtin.Range.rangeSize lo hi 1 := by
      rw [rangeSize_one]; split <;> omega
    show IsRangeIter _ _ (lo + ((0 : Nat) : Int) * 1) ((((hi - lo).toNat : Nat) : Int) - ((0 : Nat) : Int)) 1
    rw [z1, z2]
    exact Heap.get?_push_size _ rfl
  · obtain rfl : b = s1.heap.objs.size := by simpa using hb
    exact I1.fpOk (Nat.le_refl _) (I1.hok.fresh (Nat.le_refl _))
end
/-! ### set(xs), xs a list of ints -/
section
variable {P : Program} {w : World} {A : Around} {E : Value → Shared → Prop} {s : Shared}
/-- the new set's record -/
abbrev newSetO (w : World) : Obj := { cls := .type "set", dict := none, data := .set #[] 0 (.fresh 0 0 (!w.params.followText "set-order")) }
set_option maxHeartbeats 3200000 in
theorem hu_call_set_list {l : Addr} {its : Array Value} (ns : List Int) {Q : Value → Shared → Prop} (nh : A.handled = none) (isl : s.heap.IsList l its) (hin : IntsAre its.toList ns) (small : ns.length + 1 < scanBound)
    (fin : ∀ (g : Heap) (tk c : Nat), SetR w g s.heap.objs.size (fun j => decide (j ∈ ns)) c → c ≤ ns.length → (∀ b o, s.heap.get? b = some o → g.get? b = some o) → Q (.ref s.heap.objs.size) { s with heap := g, toks := tk }) :
    wpAny (model P w) A (call (.type "set") [.ref l]) Q E s := by
  have size_eq : its.size = ns.length := by
    have z := IntsAre.length hin
    rwa [Array.length_toList] at z
  obtain ⟨c, tl, hmro⟩ := F.called_set.mro
  have made := F.called_set.made
  have sub := F.called_set.sub
  refine wpAny_call (codeAny_of_tree ?_)
  show wpAny _ _ (callAny (.type "set") _) _ _ _
  refine wpAny_pure ⟨Code.quiet_builtin _ (by decide +kernel), codeAny_builtin F.entry_type_call ?_⟩
  rw [Around.under_plain (weight_type_call_type "set" [.ref l] []) rfl]
  have nt := F.called_set.notType
  have cc := F.called_set.canCreate
  have tc := F.typeCall_set_1 (.ref l)
  repeat (any_goals (first | assumption | wp_step))
  refine codeAny_mono (code_set_led1 (.ref l) (E := E) (Q₁ := fun obj s1 => obj = .ref s.heap.objs.size ∧ s1 = { s with heap := s.heap.push (newSetO w) }) ⟨rfl, rfl⟩) fun r s1 hr => ?_
  cases r with
  | error e => exact hr
  | ok fl =>
    cases fl with
    | ret obj =>
      obtain ⟨rfl, rfl⟩ := hr
      have gS : (s.heap.push (newSetO w)).get? s.heap.objs.size = some (newSetO w) := Heap.get?_push_size _ rfl
      have tS : Shared.TypeIs { s with heap := s.heap.push (newSetO w) } (.ref s.heap.objs.size) "set" := ⟨_, gS, rfl⟩
      have il := F.called_set.init.lookup
      have ib := F.called_set.init.bind (.ref s.heap.objs.size)
      repeat (any_goals (first | assumption | wp_step))
      refine codeAny_mono (codeAny_call_builtin (R := wants (fun r s2 => r = .none ∧ ∃ g tk c, s2 = { s with heap := g, toks := tk } ∧ SetR w g s.heap.objs.size (fun j => decide (j ∈ ns)) c ∧ c ≤ ns.length ∧
          (∀ b o, s.heap.get? b = some o → g.get? b = some o)) E) F.called_set.init.plain F.entry_set_init (check_set_init_1 tS ?_)) fun r2 s2 hr2 => ?_
      · obtain ⟨⟨oc, od, odat, osl⟩, hol, hcl, nl, hdl⟩ := isl
        simp only at hcl hdl
        subst hcl; subst hdl
        have hol1 : (s.heap.push (newSetO w)).get? l = some { cls := .type "list", dict := od, data := .seq its nl, slots := osl } := Heap.get?_push_of_some _ hol
        have k1 := F.sub_list_set
        have k2 := F.sub_list_frozenset
        have k3 : (Value.type "list" == Value.type "dict") = false := by decide
        have isl1 : (s.heap.push (newSetO w)).IsList l its := ⟨_, hol1, rfl, nl, rfl⟩
        unfold Builtin.«set.__init__» noKeywords Builtin.Frozenset.updateFrom
        generalize hPI : pyIter = PI
        wp_walk
        subst hPI
        refine wpAny_pyIter_list isl1 ?_
        refine wpAny_bind (wpAny_runValue ?_)
        have lt : l < s.heap.objs.size := Heap.lt_size hol
        have nh3 : A.in1.in1.in1.handled = none := by simp [nh]
        have ne1 : l ≠ (s.heap.push (newSetO w)).objs.size := by
          rw [Heap.size_push]; exact Nat.ne_of_lt (Nat.lt_succ_of_lt lt)
        have nin : s.heap.objs.size ∉ [(s.heap.push (newSetO w)).objs.size, l] := by
          rw [Heap.size_push]
          simp only [List.mem_cons, List.mem_singleton, List.not_mem_nil, or_false, not_or]
          exact ⟨Nat.ne_of_lt (Nat.lt_succ_self _), Nat.ne_of_gt lt⟩
        have val : ∀ (i : Nat) (v : Value), its[i]? = some v → ∃ k t, ns[i]? = some k ∧ v = .int k t := fun i v hv => by
          have hi : i < ns.length := by rw [← size_eq]; exact (Array.getElem?_eq_some_iff.mp hv).1
          obtain ⟨t, e⟩ := PyProof.Rows.IntsAre.int_at hin i v (by rw [Array.getElem?_toList]; exact hv)
          refine ⟨ns[i], t, List.getElem?_eq_getElem hi, ?_⟩
          rw [e, List.getD_eq_getElem?_getD, List.getElem?_eq_getElem hi] <;> rfl
        refine set_update_ints ((Walks.list nh3 _ l ne1 its).toS) s.heap.objs.size nin ns size_eq small val (its.size - 0) 0 _ (by omega) (Nat.zero_le _)
          ⟨⟨_, Heap.get?_push_size _ rfl, rfl, rfl⟩, (isl1.push _)⟩ ?start ?ends
        case start =>
          exact ⟨0, Nat.le_refl 0, setR_new_at (Heap.get?_push_of_some _ gS)⟩
        case ends =>
          intro s3 c3 mv hc3 hS3
          obtain ⟨g3, gn3, d3, tk3, os3⟩ := s3
          obtain rfl : gn3 = s.gens := mv.gens
          obtain rfl : d3 = s.drawn := mv.drawn
          obtain rfl : os3 = s.os := mv.os
          show wpAny _ _ _ _ _ _
          refine wpAny_pure ?_
          show wpAny _ _ (ret Value.none) _ _ _
          rw [size_eq] at hc3
          refine wpAny_pure ⟨rfl, g3, tk3, c3, rfl, hS3, hc3, fun b o e => ?_⟩
          have b0 : b < s.heap.objs.size := Heap.lt_size e
          have b2 : b ≠ (s.heap.push (newSetO w)).objs.size := by
            rw [Heap.size_push]; exact Nat.ne_of_lt (Nat.lt_succ_of_lt b0)
          refine mv.heap b o ?_ (Heap.get?_push_of_some _ (Heap.get?_push_of_some _ e))
          simp only [List.mem_cons, List.mem_singleton, List.not_mem_nil, or_false, not_or]
          exact ⟨Nat.ne_of_lt b0, b2⟩
      · cases r2 with
        | error e => exact hr2
        | ok fl2 =>
          cases fl2 with
          | ret r =>
            obtain ⟨rfl, g, tk, c, rfl, hS, hc, hk⟩ := hr2
            repeat (any_goals (first | assumption | wp_step))
            exact fin _ _ _ hS hc hk
          | _ => exact hr2.elim
    | _ => exact hr.elim
end
section
variable {X : Cx}
/-- set(xs) of a list of ints -/
def rHuSetL (K : PySem.W.Frag) (w : World) : List V → Hp → VK → Prop := fun vs H Q => ∃ (a : Addr) (ns : List Int), vs = [V.ref a] ∧ SqL K H a (ns.map V.int) ∧ ns.length ≤ 1000 ∧
  ∀ p c, H p = none → c ≤ ns.length → Q (.ref p) (upd H p (SetO w p (fun j => decide (j ∈ ns)) c))
theorem hu_cr_setL (hc : X.calm = true) : CallR X (.type "set") (rHuSetL X.K X.w) := by
  intro pins s σ H vs us Q I r h
  obtain ⟨a, ns, rfl, hl, hn, q⟩ := h
  rw [Vals.ref1 r]
  obtain ⟨its, rv, pl, hz⟩ := I.list hl
  refine hu_call_set_list (P := X.prog) (w := X.w) ns (I.ok.hd hc) pl.isList (by simpa using rv.ints) (by unfold scanBound; omega) fun g tk c hS hle hk => ?_
  exact ⟨.ref s.heap.objs.size, _, I.laid (t' := tk) hk (Nat.le_refl _) (setO_new hS), rfl, q _ c (I.hok.fresh (Nat.le_refl _)) hle⟩
end
end L2

end
section
set_option maxRecDepth 100000
set_option maxHeartbeats 2000000
namespace L2
open PySem PySem.Spec PyProof.Rows
/-! ### sets of tuples of ints: in, add, set() -/
section
variable {P : Program} {w : World} {A : Around} {E : Value → Shared → Prop} {s : Shared}
variable {a : Addr} {L : List (Addr × List Int)} {es : Array (Int × Value)} {ep : Nat} {t : SetTable}
/-- the c-th place that a search for the hash comes to -/
abbrev pAt (m : Nat) (h : Int) (c : Nat) : SetTable.Probe := nth m (runAt m (SetTable.bits h % (m + 1)) (SetTable.bits h)) c
theorem pAt_dummy (m : Nat) (h : Int) (c : Nat) : (pAt m h c).dummy = none := by
  have all : ∀ (n : Nat) (p : SetTable.Probe), p.dummy = none → (nth m p n).dummy = none := by
    intro n
    induction n with
    | zero => exact fun p hp => hp
    | succ n ih =>
      intro p hp
      refine ih (adv m p) ?_
      unfold adv
      split <;> exact hp
  exact all c _ rfl
theorem pAt_on (m : Nat) (h : Int) (c q : Nat) : nth m (pAt m h c) q = pAt m h (c + q) := (nth_add m c _ q).symm
/-- a search that only asks -/
theorem find_from (R : SetTR P w s.heap a L es ep t) {x : Addr} {k : List Int} (hx : IsT P w s.heap k x) (hu : A.units < cLine) {K : Nat} (fuelK : K < 10 * SetTable.turns t.mask)
    (freeK : way t.mask (thash P w k) K ∉ t.place.toList) (below : ∀ c, c < K → way t.mask (thash P w k) c ∈ t.place.toList) {Q : SetFound → Shared → Prop}
    (yes : ∀ i, k ∈ L.map (·.2) → Q (.there (some i)) s) (no : k ∉ L.map (·.2) → Q (.free (way t.mask (thash P w k) K) false) s) :
    ∀ (f c : Nat) (stand : Option SetTable.Probe), stand.getD (t.probeStart (thash P w k)) = pAt t.mask (thash P w k) c → c ≤ K → K - c < f →
      (∀ (i : Nat) p, L[i]? = some p → p.2 = k → ∃ d, c ≤ d ∧ d < K ∧ t.place.toList[i]? = some (way t.mask (thash P w k) d)) →
      wpAny (model P w) A (setSearchFrom a (.ref x) (thash P w k) false f stand) Q E s
  | 0, _, _, _, _, lt, _ => absurd lt (Nat.not_lt_zero _)
  | f + 1, c, stand, st, cK, lt, left => by
    obtain ⟨o, ho, hex, hd⟩ := R.ob
    rw [setSearchFrom_succ]
    refine wpAny_bind (wpAny_setState_of ho hd R.fits ?_)
    dsimp only
    refine wp_if_neg R.gw ?_
    try refine wpAny_bind (wpAny_pure ?_)
    have jq : ∀ q, (nth t.mask (pAt t.mask (thash P w k) c) q).j = way t.mask (thash P w k) (c + q) := fun q => congrArg SetTable.Probe.j (pAt_on ..)
    have hashAt : ∀ (i : Nat) p, L[i]? = some p → (es[i]?.map (·.1)).getD 0 = thash P w p.2 := fun i p hp => by
      rw [R.entry hp] <;> rfl
    rcases go_spec t R.tab.ris R.tab.dm (fun i => (es[i]?.map (·.1)).getD 0) (thash P w k) (10 * SetTable.turns t.mask) (K - c) _ (pAt_dummy t.mask (thash P w k) c) (by omega)
      (fun q hq => by rw [jq]; exact below (c + q) (by omega)) (by rw [jq, show c + (K - c) = K by omega]; exact freeK) with ⟨q, i, hq, hi, hh, hno, hpr⟩ | ⟨hno, hpr⟩
    · have pr : t.probe (fun i => (es[i]?.map (·.1)).getD 0) (thash P w k) (stand.getD (t.probeStart (thash P w k))) = some (.candidate (way t.mask (thash P w k) (c + q)) i (pAt t.mask (thash P w k) (c + (q + 1)))) := by
        rw [st, ← jq, ← pAt_on]
        exact hpr
      rw [pr]
      dsimp only
      rw [jq] at hi
      have il : i < L.length := by
        have z1 : i < t.place.toList.length := (List.getElem?_eq_some_iff.mp hi).1
        have z2 := R.tab.sz
        rw [List.length_map] at z2
        rw [Array.length_toList] at z1
        omega
      obtain ⟨p, hp⟩ : ∃ p, L[i]? = some p := ⟨_, List.getElem?_eq_getElem il⟩
      have mem : p ∈ L := List.mem_of_getElem? hp
      have live : t.slot (way t.mask (thash P w k) (c + q)) = .live i := slot_live R.tab.ris hi
      have cont : wpAny (model P w) A (searchRest a (.ref x) (thash P w k) false f es t (way t.mask (thash P w k) (c + q)) i (pAt t.mask (thash P w k) (c + (q + 1)))) Q E s := by
        unfold searchRest
        rw [R.entry hp]
        dsimp only
        refine wpAny_bind (wpAny_holding (wpAny_eqBool_tuple hu (R.tup p mem) hx ?_))
        refine wpAny_bind (wpAny_setState_of ho hd R.fits ?_)
        dsimp only
        refine wp_if_neg (by simp) ?_
        try refine wpAny_bind (wpAny_pure ?_)
        rw [sameMem]
        dsimp only
        simp only [if_true, live, R.entry hp]
        refine wpAny_bind (wpAny_isSame_ref_self (wpAny_bind (wpAny_pure ?_)))
        simp only [if_true]
        by_cases kk : p.2 = k
        · refine wp_if_pos (by simp [kk]) ?_
          exact wpAny_pure (yes i (List.mem_map.mpr ⟨p, mem, kk⟩))
        · refine wp_if_neg (by simp [kk]) ?_
          refine find_from R hx hu fuelK freeK below yes no f (c + (q + 1)) _ rfl (by omega) (by omega) fun i0 p0 h0 k0 => ?_
          obtain ⟨d, d1, d2, d3⟩ := left i0 p0 h0 k0
          refine ⟨d, ?_, d2, d3⟩
          have e0 : (es[i0]?.map (·.1)).getD 0 = thash P w k := (hashAt i0 p0 h0).trans (congrArg (thash P w) k0)
          rcases Nat.lt_trichotomy d (c + q) with z | z | z
          · exact absurd e0 (hno (d - c) i0 (by omega) (by rw [jq, show c + (d - c) = d by omega]; exact d3))
          · exfalso
            rw [z] at d3
            have live0 := slot_live R.tab.ris d3
            rw [live] at live0
            injection live0 with ei
            rw [← ei, hp] at h0
            exact kk ((congrArg Prod.snd (Option.some.inj h0)).trans k0)
          · omega
      by_cases led : t.led = true
      · refine wp_if_neg (by simp [led]) ?_
        try refine wpAny_bind (wpAny_pure ?_)
        exact cont
      · refine wp_if_pos (by simp [led]) ?_
        refine wpAny_bind (seen_tup hx (fun y hy => ?_) ?_)
        · obtain ⟨e, he, ee⟩ := List.mem_map.mp hy
          have he1 : e ∈ es ∧ e.1 = thash P w k := by simpa using he
          have he2 : e ∈ es.toList := by simpa using he1.1
          rw [R.rows] at he2
          obtain ⟨p2, hp2, e2⟩ := List.mem_map.mp he2
          exact ⟨p2.2, p2.1, by rw [← ee, ← e2], R.tup p2 hp2⟩
        · refine wp_if_neg (by decide) ?_
          try refine wpAny_bind (wpAny_pure ?_)
          exact cont
    · have pr : t.probe (fun i => (es[i]?.map (·.1)).getD 0) (thash P w k) (stand.getD (t.probeStart (thash P w k))) = some (.empty (way t.mask (thash P w k) K) none) := by
        have eK : way t.mask (thash P w k) K = (nth t.mask (pAt t.mask (thash P w k) c) (K - c)).j := by
          rw [jq, show c + (K - c) = K by omega]
        rw [st, eK]
        exact hpr
      rw [pr]
      dsimp only
      refine wpAny_pure (no fun hm => ?_)
      obtain ⟨p0, h0, k0⟩ := List.mem_map.mp hm
      obtain ⟨i0, hi0, e0⟩ := List.getElem_of_mem h0
      have at0 : L[i0]? = some p0 := by rw [List.getElem?_eq_getElem hi0, e0]
      obtain ⟨d, d1, d2, d3⟩ := left i0 p0 at0 k0
      exact hno (d - c) i0 (by omega) (by rw [jq, show c + (d - c) = d by omega]; exact d3) ((hashAt i0 p0 at0).trans (congrArg (thash P w) k0))
/-- x in the set -/
theorem find_at (R : SetTR P w s.heap a L es ep t) {x : Addr} {k : List Int} (hx : IsT P w s.heap k x) (hu : A.units < cLine) {Q : Option Nat → Shared → Prop}
    (h : ∀ r : Option Nat, r.isSome = decide (k ∈ L.map (·.2)) → Q r s) : wpAny (model P w) A (setFind a (.ref x) (thash P w k)) Q E s := by
  obtain ⟨o, ho, hex, hd⟩ := R.ob
  have room := R.room
  obtain ⟨K, fuelK, freeK, below⟩ := R.tab.first (by rw [List.length_map]; omega) (thash P w k)
  have big : K < 100000 := by
    have z : 10 * SetTable.turns t.mask ≤ 1420 := by
      unfold SetTable.turns
      rcases R.tab.mok with e | e | e <;> omega
    omega
  unfold setFind
  rw [show (100000 : Nat) = 99999 + 1 from rfl]
  unfold setFindIn
  refine wpAny_bind (wpAny_setState_of ho hd R.fits ?_)
  dsimp only
  refine wp_if_neg (by simp [byScan, Value.scannable]) ?_
  try refine wpAny_bind (wpAny_pure ?_)
  unfold setSearch
  refine wpAny_bind (find_from R hx hu fuelK freeK below (fun i hm => ?_) (fun hm => ?_) 100000 0 none rfl (Nat.zero_le _) (by omega) fun i p hp hk => ?_)
  · exact wpAny_pure (h _ (by rw [decide_eq_true hm] <;> rfl))
  · exact wpAny_pure (h _ (by rw [decide_eq_false hm] <;> rfl))
  · have hi : (L.map fun p => thash P w p.2)[i]? = some (thash P w k) := by rw [List.getElem?_map, hp, ← hk] <;> rfl
    have il : i < t.place.toList.length := by
      have z1 : i < L.length := (List.getElem?_eq_some_iff.mp hp).1
      have z2 := R.tab.sz
      rw [List.length_map] at z2
      rw [Array.length_toList]
      omega
    have hj := List.getElem?_eq_getElem il
    obtain ⟨c, hc, e⟩ := R.tab.before freeK hi hj
    exact ⟨c, Nat.zero_le _, hc, by rw [hj, e]⟩
theorem SetTR.typ (R : SetTR P w s.heap a L es ep t) : s.TypeIs (.ref a) "set" := let ⟨o, ho, hex, _⟩ := R.ob; ⟨o, ho, hex.1⟩
theorem in_tupset (R : SetTR P w s.heap a L es ep t) {x : Addr} {k : List Int} (hx : IsT P w s.heap k x) (hu : A.units + 64 < cLine) {Q : Value → Shared → Prop}
    (h : ∀ tk, Q (.bool (decide (k ∈ L.map (·.2)))) { s with toks := tk }) : wpAny (model P w) A (compareOp .In (.ref x) (.ref a)) Q E s := by
  show wpAny _ _ (do return .bool (← contains (.ref a) (.ref x))) Q E s
  refine wpAny_bind ?_
  unfold contains
  try with_reducible refine wpAny_holding ?_
  refine wpAny_bind (wpAny_specialOf R.typ F.slot_set_contains.lookup ?_)
  show wpAny _ _ (if (some (Value.builtin "set.__contains__") == some Value.none) = true then _ else _) _ E s
  rw [if_neg (by rw [beq_builtin_none]; exact Bool.false_ne_true)]
  refine wpAny_bind (wpAny_callSpecialUnlessNone?_slot (name := Str.ofString "__contains__") R.typ F.slot_set_contains
    (wpAny_call_entry F.slot_set_contains R.typ entry_set_contains ?_ (F.args_set_contains_2 _ _)))
  unfold Builtin.«frozenset.__contains__» Builtin.Frozenset.oneOther
  simp only [List.isEmpty_nil, bind_assoc]
  unfold Builtin.Frozenset.addrOf Builtin.Frozenset.withSetAsKey setContains
  refine wpAny_bind (wpAny_pure ?_)
  try dsimp only
  refine wpAny_bind (wpAny_pure ?_)
  try dsimp only
  refine wpAny_bind (wpAny_tryCatch ?_)
  refine wpAny_holding ?_
  refine wpAny_bind (wpAny_pyHash_tuple ?_ hx ?_)
  · show A.units + 1 < cLine
    omega
  refine wpAny_bind (find_at (s := { s with toks := s.toks + (k.length + 1) }) R hx ?_ fun r hr => ?_)
  · show A.units + 1 < cLine
    omega
  refine wpAny_pure ?_
  show wpAny _ _ (ret (Value.bool r.isSome)) _ _ _
  rw [hr]
  exact wpAny_pure ⟨_, rfl, wpAny_truthy_bool (wpAny_pure (h _))⟩
theorem add_tupset (R : SetTR P w s.heap a L es ep t) {x : Addr} {k : List Int} (hx : IsT P w s.heap k x) (hu : A.units + 64 < cLine) (few : L.length + 1 < 64) {Q : Value → Shared → Prop}
    (h : ∀ g tk L2 es2 ep2 t2, Heap.SameBut a s.heap g → SetTR P w g a L2 es2 ep2 t2 → (k ∈ L.map (·.2) → L2 = L) → (k ∉ L.map (·.2) → L2.Perm ((x, k) :: L)) → Q .none { s with heap := g, toks := tk }) :
    wpAny (model P w) A (call (.builtin "set.add") [.ref a, .ref x]) Q E s := by
  refine wpAny_call_entry F.slot_set_add R.typ F.entry_set_add ?_ (F.args_set_add_2 _ _)
  unfold Builtin.«set.add» Builtin.Frozenset.oneOther
  simp only [List.isEmpty_nil, bind_assoc]
  unfold Builtin.Frozenset.addrOf setAdd
  refine wpAny_bind (wpAny_pure ?_)
  try dsimp only
  refine wpAny_bind (wpAny_pure ?_)
  try dsimp only
  refine wpAny_bind ?_
  refine wpAny_holding ?_
  refine wpAny_bind (wpAny_pyHash_tuple ?_ hx ?_)
  · show A.units + 1 < cLine
    omega
  refine add_at (s := { s with toks := s.toks + (k.length + 1) }) R hx ?_ few fun b g L2 es2 ep2 t2 sb R2 c1 c2 => ?_
  · show A.units + 1 < cLine
    omega
  show wpAny _ _ (ret Value.none) _ _ _
  exact wpAny_pure ⟨_, rfl, h g _ L2 es2 ep2 t2 sb R2 c1 c2⟩
end
section
variable {X : Cx}
/-- the set at a holds the tuples L, each still readable -/
def HasT (K : PySem.W.Frag) (P : Program) (w : World) (H : Hp) (a : Addr) (L : List (Addr × List Int)) : Prop :=
  H a = some (SetTO P w a L) ∧ ∀ p ∈ L, SqT K H p.1 (p.2.map V.int)
theorem HasT.full {pins : List (Addr × Obj)} {σ : St} {H : Hp} {s : Shared} {a : Addr} {L : List (Addr × List Int)} (I : Inv X pins σ H s) (h : HasT X.K X.prog X.w H a L) : ∃ es ep t, SetTR X.prog X.w s.heap a L es ep t := by
  have R0 : SetT0 X.prog X.w s.heap a L := (I.hok a _ h.1).1
  exact R0.full fun p hp => I.isT (h.2 p hp)
def rHuSet0T (P : Program) (w : World) : List V → Hp → VK → Prop := fun vs H Q => vs = [] ∧ ∀ p, H p = none → Q (.ref p) (upd H p (SetTO P w p []))
theorem hu_cr_set0T : CallR X (.type "set") (rHuSet0T X.prog X.w) := by
  intro pins s σ H vs us Q I r h
  obtain ⟨rfl, q⟩ := h
  cases r
  refine setR_new fun _ => ?_
  have R := setTR_fresh (P := X.prog) (w := X.w) (h := s.heap.push { cls := .type "set", dict := none, data := .set #[] 0 (.fresh 0 0 (!X.w.params.followText "set-order")) }) (a := s.heap.objs.size) (Heap.get?_push_size _ rfl)
  exact ⟨.ref _, _, I.laid (t' := s.toks) (fun b u e => Heap.get?_push_of_some _ e) (Nat.le_refl _) (setTO_new R.t0), rfl, q _ (I.hok.fresh (Nat.le_refl _))⟩
/-- k in found -/
def rHuInT (K : PySem.W.Frag) (P : Program) (w : World) : V → V → Hp → VK → Prop := fun x y H Q => ∃ (b a : Addr) (k : List Int) (L : List (Addr × List Int)), x = V.ref b ∧ y = V.ref a ∧ SqT K H b (k.map V.int) ∧ HasT K P w H a L ∧ Q (.bl (decide (k ∈ L.map (·.2)))) H
theorem hu_or_inT (hu : X.A.units + 64 < cLine) : OpR X (compareOp .In) (rHuInT X.K X.prog X.w) := by
  intro pins s σ H x y v u Q I rx ry h
  obtain ⟨b, a, k, L, rfl, rfl, hb, ha, q⟩ := h
  cases rx
  cases ry
  obtain ⟨es, ep, t, R⟩ := ha.full I
  exact in_tupset R (I.isT hb) hu fun tk => ⟨.bl _, H, I.tok _, rfl, q⟩
/-- found.add(k) -/
def rHuAddT (K : PySem.W.Frag) (P : Program) (w : World) : V → List V → Hp → VK → Prop := fun x vs H Q => ∃ (a b : Addr) (k : List Int) (L : List (Addr × List Int)), x = V.ref a ∧ vs = [V.ref b] ∧ SqT K H b (k.map V.int) ∧ HasT K P w H a L ∧ L.length + 1 < 64 ∧
  k ∉ L.map (·.2) ∧ ∀ L2, L2.Perm ((b, k) :: L) → Q .non (upd H a (SetTO P w a L2))
theorem hu_mt_addT (hu : X.A.units + 64 < cLine) : MtR X "set.add" (rHuAddT X.K X.prog X.w) := by
  intro pins s σ H x vs v us Q I rx rxs h
  obtain ⟨a, b, k, L, rfl, rfl, hb, ha, few, new, q⟩ := h
  cases rx
  rw [Vals.ref1 rxs]
  obtain ⟨es, ep, t, R⟩ := ha.full I
  refine add_tupset R (I.isT hb) hu few fun g tk L2 es2 ep2 t2 sb R2 _ c2 => ?_
  obtain ⟨o2, ho2, _⟩ := R2.ob
  exact ⟨.non, _, I.write (e := a) (t' := tk) (by rw [ha.1]; trivial) (.inl rfl) (fun c u hc hu => (sb.2 c hc).trans hu) ⟨o2, ho2⟩ (setTO_new R2.t0), rfl, q L2 (c2 new)⟩
def tHuAddT (K : PySem.W.Frag) (P : Program) (w : World) (to : TE) (t : TA) : TE := fun σ H Q => to σ H fun x H1 => (∃ a L, x = V.ref a ∧ H1 a = some (SetTO P w a L)) ∧ t σ H1 fun xs H2 => rHuAddT K P w x xs H2 Q
variable {o e : Expr} {es : List Expr} {to : TE} {t : TA} {apos cpos : Pos}
theorem hu_pe_addT (hu : X.A.units + 64 < cLine) (ho : PE X o to) (ha : PA X (e :: es) t)
    (hbase : attributeBase o "add" X.env (eval o X.env) = eval o X.env := by rfl)
    (hfew : ((backTo cpos (starEach (e :: es) X.env)).all (fun x => !x.1) && (backToKw cpos (keywordEach [] X.env)).all (fun x => x.1.isSome)
      && decide ((e :: es).length + ([] : List Keyword).length + (if ([] : List Keyword).isEmpty then 0 else 1) < 30)) = true := by rfl)
    (hline : (apos.endLine == cpos.line) = true := by rfl) (hs : starEach (e :: es) X.env = (false, eval e X.env) :: starEach es X.env := by rfl) (hplain : (backTo cpos (starEach es X.env)).any (·.1) = false := by rfl) :
    PE X (.Call (.Attribute o "add" apos) (e :: es) [] cpos) (tHuAddT X.K X.prog X.w to t) := by
  refine ⟨fun pins s σ H Q I h => ?_⟩
  refine wpAny_Call_method_late hbase hfew hline rfl (thn (ho.run pins s σ H _ I h) fun v s1 ⟨x, H1, I1, r1, ⟨a, L, ex, hka⟩, q1⟩ => ?_)
  subst ex
  have R0 : SetT0 X.prog X.w s1.heap a L := (I1.hok a _ hka).1
  obtain ⟨es0, ep0, t0, ⟨o0, ho0, hex0, _⟩, _⟩ := R0.ex
  cases r1
  refine ⟨"set", "set.add", F.plainAttrs_set, F.slot_set_add, F.type_set_add, ⟨o0, ho0, hex0.1⟩, ?_, ?_⟩
  · intro b eb
    injection eb with eb
    subst eb
    exact ⟨o0, ho0, by first | exact hex0.2.1 | exact hex0.2.2⟩
  have hA := ha.run cpos pins s1 σ H1 _ I1 q1
  rw [hs] at hA ⊢
  refine Calls.callWith_builtin (by show (false || (backTo cpos (starEach es X.env)).any (·.1)) = false; rw [hplain] <;> rfl) (Calls.evalArgs_plain ?_)
  exact thn hA fun us s2 ⟨vs, H2, I2, r2, q2⟩ => hu_mt_addT hu pins s2 σ H2 (.ref a) vs (.ref a) us Q I2 rfl r2 q2
end
end L2

end
section
set_option maxRecDepth 100000
namespace L2
open PySem PySem.Spec PyProof.Rows
/-! ### a def of the text under its name: its promise, its level, how it is bound -/
structure Cal (P : Program) (w : World) (K : PySem.W.Frag) (mg : Str → Option Value) (base : Heap) (x : Str) (k : Nat) (sp : Sp) : Prop where
  ex : ∃ (f : Addr) (fd : FuncData) (ps : List Str), FnOk P w K mg base CX0 k f fd ps sp ∧ mg x = some (.ref f) ∧ PySem.W.keepIn K (.ref f) = true ∧ Binds K fd ps []
/-- a method of the class at C -/
structure MCal (P : Program) (w : World) (K : PySem.W.Frag) (mg : Str → Option Value) (base : Heap) (C : Addr) (m : Str) (k : Nat) (sp : Sp) : Prop where
  ex : ∃ (f : Addr) (fd : FuncData) (ps : List Str), FnOk P w K mg base CX0 k f fd ps sp ∧ Meth K C m f ∧ Binds K fd ps []
/-- the making of an instance of the class at C, named x; k: the level of its __init__ -/
structure NCal (P : Program) (w : World) (K : PySem.W.Frag) (mg : Str → Option Value) (base : Heap) (C : Addr) (x : Str) (k : Nat) (sp : Sp) : Prop where
  ex : ∃ (f : Addr) (fd : FuncData) (ps : List Str), FnOk P w K mg base CX0 k f fd ps sp ∧ Mk K C f ∧ Binds K fd ps []
  mg : mg x = some (.ref C)
section
variable {X : Cx} {e o : Expr} {es : List Expr} {t : TA} {ta : TE} {x m : Str} {k : Nat} {sp : Sp} {C : Addr} {p pos apos : Pos}
theorem tCall_nil {t : TA} {E : XK} {σ : St} {H : Hp} {Q : VK} (h : t σ H fun vs H1 => sp vs H1 Q E) : tCall sp [] E t σ H Q := by
  unfold tCall
  simpa only [List.append_nil] using h
def tCal (sp : Sp) (t : TA) : TE := fun σ H Q => t σ H fun vs H1 => sp vs H1 Q E0
def tMCal (C : Addr) (m : Str) (sp : Sp) (to : TE) (t : TA) : TE := fun σ H Q => to σ H fun x H1 => ∃ a dx fs, x = .ref a ∧ H1 a = some (.ins C dx fs) ∧ fs.lookup m = none ∧ t σ H1 fun vs H2 => sp (x :: vs) H2 Q E0
def tNCal (C : Addr) (sp : Sp) (t : TA) : TE := fun σ H Q => t σ H fun vs H1 => ∀ x dx, H1 x = none → H1 dx = none → dx ≠ x → sp (.ref x :: vs) (upd (upd H1 dx (.own x)) x (.ins C dx [])) (fun v H2 => v = .non ∧ Q (.ref x) H2) E0
theorem PE.to {t u : TE} (h : PE X e t) (le : ∀ σ H Q, u σ H Q → t σ H Q) : PE X e u := ⟨fun pins s σ H Q I q => h.run pins s σ H Q I (le σ H Q q)⟩
theorem pe_cal (c : Cal X.prog X.w X.K X.mg X.base x k sp) (hr : Room k X.A) (ha : PA X (e :: es) t) (hg : Gl X x := by rfl) (hdb : (x == ("__debug__" : Str)) = false := by decide)
    (he : starEach (e :: es) X.env = (false, eval e X.env) :: starEach es X.env := by rfl) (hpl : (backTo pos (starEach es X.env)).any (·.1) = false := by rfl) :
    PE X (.Call (.Name x p) (e :: es) [] pos) (tCal sp t) := by
  obtain ⟨f, fd, ps, F, hm, hk, hb⟩ := c.ex
  exact (pe_call F hr hg hm hk hb .nil pass0 ha hdb he hpl).to fun σ H Q q => tCall_nil q
theorem pe_cal0 (c : Cal X.prog X.w X.K X.mg X.base x k sp) (hr : Room k X.A) (hg : Gl X x := by rfl) (hdb : (x == ("__debug__" : Str)) = false := by decide) :
    PE X (.Call (.Name x p) [] [] pos) (tCal sp tNil) := by
  obtain ⟨f, fd, ps, F, hm, hk, hb⟩ := c.ex
  exact (pe_call0 F hr hg hm hk hb .nil pass0 hdb).to fun σ H Q q => tCall_nil q
theorem pe_ncal (c : NCal X.prog X.w X.K X.mg X.base C x k sp) (hr : Room (k + 1) X.A) (ha : PA X (e :: es) t) (hg : Gl X x := by rfl) (hdb : (x == ("__debug__" : Str)) = false := by decide)
    (he : starEach (e :: es) X.env = (false, eval e X.env) :: starEach es X.env := by rfl) (hpl : (backTo pos (starEach es X.env)).any (·.1) = false := by rfl) :
    PE X (.Call (.Name x p) (e :: es) [] pos) (tNCal C sp t) := by
  obtain ⟨f, fd, ps, F, M, hb⟩ := c.ex
  refine (pe_make M F hr hg c.mg hb .nil pass0 ha hdb he hpl).to fun σ H Q q => ?_
  unfold tNCal at q
  unfold tMake
  simpa only [List.append_nil] using q
theorem setL_ (K : PySem.W.Frag) (w : World) (hc : X.calm = true) (hK : X.K = K := by rfl) (hw : X.w = w := by rfl) : CallR X (.type "set") (rHuSetL K w) := by
  subst hK hw; exact hu_cr_setL hc
theorem sortedSet_ (w : World) (hc : X.calm = true) (hw : X.w = w := by rfl) : CallR X (.builtin "sorted") (rSortedSet w) := by
  subst hw; exact cr_sortedSet hc
section
variable (K : PySem.W.Frag)
theorem all_ (hc : X.calm = true) (hK : X.K = K := by rfl) : CallR X (.builtin "all") (rAll K) := by subst hK; exact cr_all hc
theorem any_ (hc : X.calm = true) (hK : X.K = K := by rfl) : CallR X (.builtin "any") (rAny K) := by subst hK; exact cr_any hc
theorem sum_ (hc : X.calm = true) (hK : X.K = K := by rfl) : CallR X (.builtin "sum") (rSum K) := by subst hK; exact cr_sum hc
theorem min_ (hc : X.calm = true) (hK : X.K = K := by rfl) : CallR X (.builtin "min") (rMin K) := by subst hK; exact cr_min hc
theorem sortedI_ (hK : X.K = K := by rfl) : CallR X (.builtin "sorted") (rSortedI K) := by subst hK; exact cr_sortedI
theorem sortedPO_ (hK : X.K = K := by rfl) : CallR X (.builtin "sorted") (rSortedPO K) := by subst hK; exact cr_sortedPO
theorem isi_ (hK : X.K = K := by rfl) : CallR X (.builtin "isinstance") (rIsi K) := by subst hK; exact call_isi
theorem inS_ (hK : X.K = K := by rfl) : OpR X (compareOp .In) (rIn K false) := by subst hK; exact op_in_seq
theorem ninS_ (hK : X.K = K := by rfl) : OpR X (compareOp .NotIn) (rIn K true) := by subst hK; exact op_notIn_seq
theorem ixL_ (hK : X.K = K := by rfl) : IxR X (rIxL K) := by subst hK; exact ix_list
theorem ixT_ (hK : X.K = K := by rfl) : IxR X (rIxT K) := by subst hK; exact ix_tup
theorem slL_ (hK : X.K = K := by rfl) : SlR X (rSlL K) := by subst hK; exact sl_list
theorem slT_ (hK : X.K = K := by rfl) : SlR X (rSlT K) := by subst hK; exact sl_tup
theorem catT_ (hK : X.K = K := by rfl) : OpR X (binaryOp .Add) (rCatT K) := by subst hK; exact op_catT
theorem catA_ (hK : X.K = K := by rfl) : OpR X (binaryOp .Add) (rCatA K) := by subst hK; exact op_catA
theorem eqD_ (hu : X.A.units + 64 < cLine) (hK : X.K = K := by rfl) : OpR X (compareOp .Eq) (rEqD K) := by subst hK; exact op_eqD hu
theorem neD_ (hu : X.A.units + 64 < cLine) (hK : X.K = K := by rfl) : OpR X (compareOp .NotEq) (rNeD K) := by subst hK; exact op_neD hu
def rLenS (K : PySem.W.Frag) : List V → Hp → VK → Prop := fun xs H Q => ∃ p ys, xs = [.ref p] ∧ (SqL K H p ys ∨ SqT K H p ys) ∧ Q (.int ys.length) H
theorem lenS_ (hK : X.K = K := by rfl) : CallR X (.builtin "len") (rLenS K) := by subst hK; exact call_len_seq
def rLstOf (K : PySem.W.Frag) : List V → Hp → VK → Prop := fun xs H Q => ∃ p ys, xs = [.ref p] ∧ (SqL K H p ys ∨ SqT K H p ys) ∧ ∀ l, H l = none → Q (.ref l) (upd H l (.lst ys))
theorem lstOf_ (hK : X.K = K := by rfl) : CallR X (.type "list") (rLstOf K) := by subst hK; exact call_list_of
def rTupOf (K : PySem.W.Frag) : List V → Hp → VK → Prop := fun xs H Q => ∃ p ys, xs = [.ref p] ∧ ((SqL K H p ys ∧ ∀ l, H l = none → Q (.ref l) (upd H l (.tup ys))) ∨ (SqT K H p ys ∧ Q (.ref p) H))
theorem tupOf_ (hK : X.K = K := by rfl) : CallR X (.type "tuple") (rTupOf K) := by subst hK; exact call_tuple_of
theorem inT_ (P : Program) (w : World) (hu : X.A.units + 64 < cLine) (hP : X.prog = P := by rfl) (hw : X.w = w := by rfl) (hK : X.K = K := by rfl) : OpR X (compareOp .In) (rHuInT K P w) := by subst hK hP hw; exact hu_or_inT hu
theorem fld_ {f : Str} (he : PE X e ta) (hb : attributeBase e f X.env (eval e X.env) = eval e X.env := by rfl) (hK : X.K = K := by rfl) : PE X (.Attribute e f pos) (tFld K ta f) := by subst hK; exact pe_fld he hb
theorem cval_ {f : Str} (he : PE X e ta) (hb : attributeBase e f X.env (eval e X.env) = eval e X.env := by rfl) (hK : X.K = K := by rfl) : PE X (.Attribute e f pos) (ClX.tCVal K ta f) := by subst hK; exact ClX.pe_cval he hb
theorem pil_ {tg l : Expr} {tl : TE} (hl : PE X l tl) (hK : X.K = K := by rfl) : PI X tg l (iList K tl) := by subst hK; exact pi_list hl
theorem pit_ {tg l : Expr} {tl : TE} (hl : PE X l tl) (hK : X.K = K := by rfl) : PI X tg l (iTup K tl) := by subst hK; exact pi_tup hl
theorem star_ {te : TE} (he : PE X e te) (hr : PA X es t) (hK : X.K = K := by rfl) : PA X (.Starred e p :: es) (StX.tStar K te t) := by subst hK; exact StX.pa_star he hr
theorem revL_ {te : TE} {j : Nat} {p1 p2 p3 : Pos} (he : PE X e te) (hK : X.K = K := by rfl) : PE X (.Subscript e (.Slice none none (some (.UnaryOp .USub (.Constant (.int 1) j p1) p2)) p3) pos) (tRevL K te) := by subst hK; exact pe_revL he
def tTru (K : PySem.W.Frag) (ta : TE) : TT := fun σ H Q => ta σ H fun x H' => ∃ k, TruV K x H' k ∧ Q k H'
theorem truth_ (he : PE X e ta) (hh : ∀ whole, isTrue e X.env whole = (do let v ← whole; standAt e.pos; holding [v] (truthy v)) := by intro _; rfl) (hK : X.K = K := by rfl) : PT X e (tTru K ta) := by subst hK; exact pt_truth he hh
end
end
theorem b_len : bootBuiltins ("len" : Str) = some (.builtin "len") := by decide +kernel
theorem b_abs : bootBuiltins ("abs" : Str) = some (.builtin "abs") := by decide +kernel
theorem b_min : bootBuiltins ("min" : Str) = some (.builtin "min") := by decide +kernel
theorem b_max : bootBuiltins ("max" : Str) = some (.builtin "max") := by decide +kernel
theorem b_all : bootBuiltins ("all" : Str) = some (.builtin "all") := by decide +kernel
theorem b_any : bootBuiltins ("any" : Str) = some (.builtin "any") := by decide +kernel
theorem b_sum : bootBuiltins ("sum" : Str) = some (.builtin "sum") := by decide +kernel
theorem b_sorted : bootBuiltins ("sorted" : Str) = some (.builtin "sorted") := by decide +kernel
theorem b_isinstance : bootBuiltins ("isinstance" : Str) = some (.builtin "isinstance") := by decide +kernel
theorem b_int : bootBuiltins ("int" : Str) = some (.type "int") := by decide +kernel
theorem b_bool : bootBuiltins ("bool" : Str) = some (.type "bool") := by decide +kernel
theorem b_tuple : bootBuiltins ("tuple" : Str) = some (.type "tuple") := by decide +kernel
theorem b_list : bootBuiltins ("list" : Str) = some (.type "list") := by decide +kernel
theorem b_set : bootBuiltins ("set" : Str) = some (.type "set") := by decide +kernel
theorem b_range : bootBuiltins ("range" : Str) = some (.type "range") := by decide +kernel
theorem b_str : bootBuiltins ("str" : Str) = some (.type "str") := by decide +kernel
end L2

end
section
set_option maxRecDepth 100000
namespace L2
open PySem PySem.Spec PyProof.Rows
/-! ### repr of plain data, where no repr is under way -/
def rRepr (K : PySem.W.Frag) : List V → Hp → VK → Prop := fun xs H Q => ∃ x d, xs = [x] ∧ Dp K H x d ∧ d.showable = true ∧ d.hasDict = false ∧ d.depth ≤ 64 ∧ d.shown.length ≤ sizeLine ∧ Q (.str d.shown) H
theorem cr_repr {X : Cx} (hg : X.A.guards = some []) (hu : X.A.units + 100 < cLine) : CallR X (.builtin "repr") (rRepr X.K) := by
  intro pins s σ H xs us Q I r h
  obtain ⟨x, d, rfl, hd, hs, hno, hdep, hz, q⟩ := h
  cases r with
  | cons ru rn =>
    rename_i u us'
    cases rn
    obtain ⟨as, rd⟩ := Dp.reads I d x u hd ru
    have leaf : ∀ (y : Str) (tk : Nat), d.shown = y → EP X pins σ Q (.str y s.toks) { s with toks := tk } := fun y tk e => ⟨.str y, H, I.tok tk, ⟨_, rfl⟩, e ▸ q⟩
    cases rd with
    | none => exact PySem.P.repr_of_none (leaf _ _ rfl)
    | bool b => exact PySem.P.repr_of_bool (leaf _ _ (by cases b <;> rfl))
    | int i t => exact PySem.P.repr_of_int (of_decide_eq_true hs) (leaf _ _ rfl)
    | str y t => exact PySem.P.repr_of_str (leaf _ _ rfl) hz
    | list h1 h2 h3 h4 => exact repr_of_reads' (.list h1 h2 h3 h4) hs (fun z => by rw [hno] at z; cases z) hg (by omega) (fun b o e => e) (fun h' u tk hk => ⟨.str _, H, I.kept hk, ⟨u, rfl⟩, q⟩) hz
    | tuple h1 h2 h3 h4 => exact repr_of_reads' (.tuple h1 h2 h3 h4) hs (fun z => by rw [hno] at z; cases z) hg (by omega) (fun b o e => e) (fun h' u tk hk => ⟨.str _, H, I.kept hk, ⟨u, rfl⟩, q⟩) hz
    | dict h1 h2 h3 h4 h5 => cases hd
end L2

end
section
set_option maxRecDepth 100000
namespace L2
open PySem PySem.Spec PyProof.Rows
/-! ### a def's promise where no repr is under way around it -/
structure GOk (P : Program) (w : World) (K : PySem.W.Frag) (mg : Str → Option Value) (base : Heap) (CX : CXT) (k : Nat) (f : Addr) (fd : FuncData) (ps : List Str) (sp : Sp) : Prop where
  ln : ∀ vs H Q E, sp vs H Q E → vs.length = ps.length
  go : ∀ A : Around, A.guards = some [] → ∀ (outer : List Env) (s : Shared) (H : Hp) (args : Args) (us : List Value) (vs : List V) (Q : VK) (E : XK), Room k A → Env0 P w K mg base A outer s H → BindsTo s fd args (ps.zip us) → Vals vs us → sp vs H Q E →
    codeAny (model P w) A (.call (.ref f) args) (CR CX outer P w H s Q E) s
section
variable {P : Program} {w : World} {K : PySem.W.Frag} {mg : Str → Option Value} {base : Heap} {CX : CXT} {k : Nat} {f : Addr} {fd : FuncData} {N ps : List Str} {sp : Sp}
/-- what holds everywhere holds there too -/
theorem FnOk.g (F : FnOk P w K mg base CX k f fd ps sp) : GOk P w K mg base CX k f fd ps sp := ⟨F.len, fun A _ => F.run A⟩
/-- by the body, which may know that the guards are none -/
theorem g_of {name qual : Str} {params : Arguments} {body : List Stmt} {scope : Scope} {dV kV doc pm cdv ct oc : Value} {an od : Option Addr} {osl : Array (Option Value)}
    (at_f : K.lookup f = some ⟨oc, od, .func (PySem.W.fnOf name qual params body scope dV kV doc pm an cdv ct), osl⟩) (code : PySem.W.codeIn K cdv qual = true) (S : FnScope N ps scope) (ln : ∀ vs H Q E, sp vs H Q E → vs.length = ps.length)
    (bd : ∀ A : Around, A.guards = some [] → ∀ (outer : List Env) (s : Shared) (H : Hp) (vs : List V) (Q : VK) (E : XK), Room k (A.deeper (envOfC qual scope s.heap.objs.size f cdv)) → sp vs H Q E →
      ∃ t, PSs (cxOf CX P w K mg base N qual scope f cdv A outer s H E) body t ∧ t { nx := fun _ H' => Q .non H', rt := Q } (start N vs) H) :
    GOk P w K mg base CX (k + 1) f (PySem.W.fnOf name qual params body scope dV kV doc pm an cdv ct) ps sp := by
  constructor
  · exact ln
  intro A gA outer s H args us vs Q E room env bnd vals want
  have kept0 : ∀ c ob, base.get? c = some ob → s.heap.get? c = some ob := fun c ob z => (env.bs c ob z).1
  have inK := env.mod.kin.keeps kept0
  refine codeAny_call_function room.depth (inK _ _ at_f) rfl S.co S.gen rfl (PySem.W.codeRec_of inK code) (bnd _ _ _ _ ?_)
  refine wpAny_newFunctionEnv_cells S.kind ?_ fun en en_is s1 fresh => ?_
  · rintro ⟨n, v⟩ mem
    exact (S.par n (List.of_mem_zip mem).1).imp id fun cell => ⟨cell, PySem.W.cellsFrom_some _ _ _ (.inl cell)⟩
  subst en_is
  refine ⟨(env.mod.nolimit.keeps kept0).keeps fresh.toInCall.keep, codeAny_func ?_⟩
  obtain ⟨t, rd, start_ok⟩ := bd A gA outer s H vs Q E (room.deeper _) want
  refine wpAny_mono (rd.run [] s1 (start N vs) H _ (inv_start S room.hd env (ln _ _ _ _ want) vals fresh) start_ok) (fun fl s' ended => ?_) fun _ _ z => z
  cases fl with
  | ret u =>
    obtain ⟨v, _, H', J, rv, q⟩ := ended
    exact ⟨v, H', J.os, J.bare, J.base, J.hok, rv, q⟩
  | next =>
    obtain ⟨_, H', J, q⟩ := ended
    exact ⟨V.non, H', J.os, J.bare, J.base, J.hok, rfl, q⟩
  | brk => exact ended.choose_spec.choose_spec.2.elim
  | cont => exact ended.choose_spec.choose_spec.2.elim
/-- a def of the text, no defaults, nothing leaves it -/
theorem Fun.okG {x qual : Str} {st : Stmt} (F : Fun K x qual st f fd) (S : FnScope N ps (defScope st)) (ln : ∀ vs H Q E, sp vs H Q E → vs.length = ps.length)
    (bd : ∀ (cdv : Value) (A : Around), A.guards = some [] → ∀ (outer : List Env) (s : Shared) (H : Hp) (vs : List V) (Q : VK) (E : XK), Room k (A.deeper (envOfC qual (defScope st) s.heap.objs.size f cdv)) → sp vs H Q E →
      ∃ t, PSs (cxOf CX0 P w K mg base N qual (defScope st) f cdv A outer s H E).nox (defBody st) t ∧ t { nx := fun _ H' => Q .non H', rt := Q } (start N vs) H) : GOk P w K mg base CX0 (k + 1) f fd ps sp := by
  obtain ⟨oc, od, kV, doc, pm, an, cdv, ct, osl, rfl, at_f, code⟩ := F.ex
  refine g_of at_f code S ln fun A gA outer s H vs Q E room want => ?_
  obtain ⟨t, rd, q⟩ := bd cdv A gA outer s H vs Q E room want
  exact ⟨t, rd.nox, q⟩
/-- such a def under its name -/
structure CalG (P : Program) (w : World) (K : PySem.W.Frag) (mg : Str → Option Value) (base : Heap) (x : Str) (k : Nat) (sp : Sp) : Prop where
  ex : ∃ (f : Addr) (fd : FuncData) (ps : List Str), GOk P w K mg base CX0 k f fd ps sp ∧ mg x = some (.ref f) ∧ PySem.W.keepIn K (.ref f) = true ∧ Binds K fd ps []
end
section
variable {X : Cx} {e : Expr} {es : List Expr} {t : TA} {x : Str} {k : Nat} {sp : Sp} {p pos : Pos}
theorem pe_calG (c : CalG X.prog X.w X.K X.mg X.base x k sp) (gX : X.A.guards = some []) (hr : Room k X.A) (ha : PA X (e :: es) t) (hg : Gl X x := by rfl) (hdb : (x == ("__debug__" : Str)) = false := by decide)
    (he : starEach (e :: es) X.env = (false, eval e X.env) :: starEach es X.env := by rfl) (hpl : (backTo pos (starEach es X.env)).any (·.1) = false := by rfl) :
    PE X (.Call (.Name x p) (e :: es) [] pos) (tCal sp t) := by
  obtain ⟨f, fd, ps, F, hm, hk, hb⟩ := c.ex
  refine ⟨fun pins s σ H Q I h => wpAny_Call_Name_kw (ld_glob I hg hm ?_ hdb)⟩
  refine PySem.W.callWith_K (h₀ := X.base) I.ok.mod.kin hk (thn (ha.run pos pins s σ H _ I h) fun us s1 got => ?_) he hpl
  obtain ⟨vs, H1, I1, rv, want⟩ := got
  refine ⟨I1.kIn, wpAny_call ?_⟩
  have n := rv.length ▸ F.ln _ _ _ _ want
  have bnd := hb s1 us I1.kIn (by rw [List.append_nil]; exact n)
  rw [List.append_nil] at bnd
  refine codeAny_mono (F.go X.A gX X.stack s1 H1 ⟨us, []⟩ us vs Q E0 hr I1.env0 bnd rv want) fun r s' ended => ?_
  match r, ended with
  | .ok (.ret u), z => exact I1.after z
  | .ok .next, z => exact z.elim
  | .ok .brk, z => exact z.elim
  | .ok .cont, z => exact z.elim
  | .error _, z => exact z.elim
end
end L2

end
section
set_option maxRecDepth 100000
namespace L2
open PySem PySem.Spec PyProof.Rows
/-! ### the end, by a promise that wants no guards -/
section
variable {P : Program} {w : World} {K : PySem.W.Frag} {mg mb : Str → Option Value} {k : Nat} {fa a : Addr} {fd : FuncData} {x : Str} {sp : Sp} {s1 : Shared} {vs : List Value} {ns : List Int}
/-- the heap in which the script alone may be tracked, and only if it is none of the text's own objects -/
def scrH (K : PySem.W.Frag) (a : Addr) (vs : List Value) (ns : List Int) : Hp := fun b => if b = a ∧ K.lookup a = none then some (.frz { cls := .type "list", data := .seq vs.toArray } (.lst (ns.map V.int))) else none
theorem scrH_some {b : Addr} {o : HO} (h : scrH K a vs ns b = some o) : b = a ∧ K.lookup a = none ∧ o = .frz { cls := .type "list", data := .seq vs.toArray } (.lst (ns.map V.int)) := by
  unfold scrH at h
  split at h
  · rename_i c
    cases h
    exact ⟨c.1, c.2, rfl⟩
  · cases h
theorem scrH_only : Only (scrH K a vs ns) := fun b => by
  cases e : scrH K a vs ns b with
  | none => exact .inl rfl
  | some o => exact .inr ⟨_, _, congrArg some (scrH_some e).2.2⟩
theorem scr_call (inK : K.In s1.heap) (tops : s1.heap.Ns mainGlobals mg) (blt : s1.heap.Ns builtinsNs mb) (boot : ∀ x : Str, x ≠ "__name__" → mb x = bootBuiltins x) (lim : s1.heap.NoLimit) (none_run : s1.gens = #[])
    (obj : s1.heap.get? a = some { cls := .type "list", data := .seq vs.toArray }) (isI : IntsAre vs ns) (few : ns.length ≤ sizeLine) (room : Room k callerA)
    (F : ∀ base : Heap, K.In base → base.Ns mainGlobals mg → GOk P w K mg base CX0 k fa fd [x] sp) (bnd : ∀ (s : Shared) (u : Value), BindsTo s fd ⟨[u], []⟩ [(x, u)])
    (want : ∀ H : Hp, Only H → SqL K H a (ns.map V.int) → sp [.ref a] H (fun v _ => v = .bl true) fun _ _ _ => False) :
    codeAny (model P w) callerA (.call (.ref fa) ⟨[.ref a], []⟩) (fun r s' => r = .ok (.ret (.bool true)) ∧ OldK s1.heap s'.heap ∧ s'.os = s1.os ∧ AllBare s'.gens) s1 := by
  have vals := vals_ints isI
  have lv := isI.length
  have stand : ∀ {b : Addr} {o : Obj}, s1.heap.get? b = some o → b ≠ a ∨ K.lookup a ≠ none → (hidT s1.heap (scrH K a vs ns)).get? b = some o := fun {b o} e c => hidT_get e (by
    cases z : scrH K a vs ns b with
    | none => rfl
    | some u =>
      obtain ⟨z1, z2, _⟩ := scrH_some z
      rcases c with c | c
      · exact absurd z1 c
      · exact absurd z2 c)
  have dicts : ∀ {b : Addr} {o : Obj} {es : Array DictEntry} {ep : Nat}, s1.heap.get? b = some o → o.data = .dict es ep → b ≠ a := fun {b o es ep} e d z => by
    rw [z, obj] at e
    cases e
    cases d
  have spaces : ∀ {b : Addr} {m : Str → Option Value}, s1.heap.Ns b m → (hidT s1.heap (scrH K a vs ns)).Ns b m := fun {b m} ns => by
    obtain ⟨o, es, ep, e, d, r⟩ := ns
    exact ⟨o, es, ep, stand e (.inl (dicts e d)), d, r⟩
  have inB : K.In (hidT s1.heap (scrH K a vs ns)) := fun b o e => stand (inK b o e) (by
    by_cases z : b = a
    · exact .inr fun n => by rw [← z, e] at n; cases n
    · exact .inl z)
  have limB : (hidT s1.heap (scrH K a vs ns)).NoLimit := let ⟨mc, h1, h2⟩ := lim; ⟨mc, spaces h1, h2⟩
  have long : (ns.map V.int).length ≤ sizeLine := by rw [List.length_map]; exact few
  have ok : HOk P w (scrH K a vs ns) s1.heap := fun b o e => by
    obtain ⟨rfl, _, rfl⟩ := scrH_some e
    exact ⟨obj, long, vs, _, vals, obj⟩
  have listed : SqL K (scrH K a vs ns) a (ns.map V.int) := by
    cases lk : K.lookup a with
    | none => exact .inl (.inr ⟨_, if_pos ⟨rfl, lk⟩⟩)
    | some o =>
      have e := (inK a o lk).symm.trans obj
      cases e
      exact .inr ⟨_, vs.toArray, _, lk, rfl, rfl, rfl, by rw [List.size_toArray, lv]; exact few, by simpa using vals⟩
  have env : Env0 P w K mg (hidT s1.heap (scrH K a vs ns)) callerA [] s1 (scrH K a vs ns) :=
    { frames := rfl, mod := ⟨inB, spaces tops, ⟨mb, spaces blt, boot⟩, limB⟩, bs := fun b o e => of_hidT e, bsz := Nat.le_of_eq (hidT_size _ _), funs := trivial, frf := fun b z => (List.not_mem_nil z).elim, hok := ok, bare := .of_eq none_run }
  refine codeAny_mono ((F _ inB (spaces tops)).go callerA rfl [] s1 _ ⟨[.ref a], []⟩ [.ref a] [.ref a] _ _ room env (bnd s1 (.ref a)) (.cons rfl .nil) (want _ scrH_only listed)) fun r s' ended => ?_
  match r, ended with
  | .ok (.ret u), z =>
    obtain ⟨v, H', os, bare, un, ok', rv, q⟩ := z
    have ev : v = .bl true := q
    rw [ev] at rv
    cases rv
    refine ⟨rfl, .of_keep fun b o e => ?_, os, bare⟩
    cases n : scrH K a vs ns b with
    | none => exact un.keep b o e n List.not_mem_nil List.not_mem_nil
    | some t =>
      obtain ⟨rfl, _, rfl⟩ := scrH_some n
      have same := (ok' b _ (un.frzs b _ _ n)).1
      rw [obj] at e
      cases e
      exact same
  | .ok .next, z => exact z.elim
  | .ok .brk, z => exact z.elim
  | .ok .cont, z => exact z.elim
  | .error _, z => exact z.elim
end
theorem walk_ofG {l : PySem.W.OpenLaw} {n k : Nat} {q : Program} {loose : List Str} {XP : (Str → Option Value) → Heap → Prop} {YP : World → Heap → Prop} {d : DefRec} {K : Params → PySem.W.Frag} {sp : World → Sp} {x : Str}
    (hn : l.most = some n) (hn2 : n ≤ sizeLine) (hdf : d.params.defaults = []) (room : Room k callerA) (hY : ∀ (w : World) (h : Heap), YP w h → (K w.params).In h)
    (F : ∀ (w : World) (mg : Str → Option Value) (fa : Addr) (h : Heap), (K w.params).In h → h.Ns mainGlobals mg → mg d.name = some (.ref fa) →
      ∃ fd : FuncData, (∀ (s : Shared) (u : Value), BindsTo s fd ⟨[u], []⟩ [(x, u)]) ∧ ∀ base : Heap, (K w.params).In base → base.Ns mainGlobals mg → GOk l.prog w (K w.params) mg base CX0 k fa fd [x] (sp w))
    (want : ∀ (w : World) (H : Hp) (a : Addr) (ns : List Int), ns.length ≤ n → Only H → SqL (K w.params) H a (ns.map V.int) → sp w [.ref a] H (fun v _ => v = .bl true) fun _ _ _ => False) :
    PySem.W.WalkO q loose XP YP l.row.toRowW d [] (fun f vs => PySem.call f vs) := by
  refine Att.attach_call hn hdf fun w s0 s1 mg mb fa o pm cd doc a vs ns G Y _ _ _ named obj isI len none_run => ?_
  obtain ⟨fd, bnd, ok⟩ := F w mg fa _ (hY w _ Y) G.T.g named
  exact scr_call (hY w _ Y) G.T.g G.T.b G.T.builtins G.T.nolimit none_run obj isI (Nat.le_trans len hn2) room ok bnd fun H hO hS => want w H a ns len hO hS
end L2

end
section
set_option maxRecDepth 100000
set_option maxHeartbeats 2000000
/-! KitL: a lambda over one captured name, handed to a def and called there, however deep. -/
namespace LamA
open PySem PySem.Spec PyProof.Rows L2 LamX NdefX ItX
/-- the object at a is o, to the last word -/
def Fz (a : Addr) (o : Obj) : HO := .ext fun h => h.get? a = some o
theorem fz_at {P : Program} {w : World} {H : Hp} {h : Heap} {a : Addr} {o : Obj} (hok : HOk P w H h) (e : H a = some (Fz a o)) : h.get? a = some o := by
  obtain ⟨z, _, _⟩ := hok a _ e
  exact z
theorem fz_ok {P : Program} {w : World} {H : Hp} {h : Heap} {a : Addr} {o : Obj} (e : h.get? a = some o) : ObjOk P w H h a (Fz a o) := ⟨e, ⟨o, e⟩, fun _ _ z st => st _ z⟩
theorem fz_tbl {a : Addr} {o : Obj} (ps : Array Value) : Fz a o ≠ .tbl ps := fun z => by unfold Fz at z; cases z
/-- one more thing known -/
theorem hok_add {P : Program} {w : World} {H : Hp} {h : Heap} {a : Addr} {o : Obj} (hok : HOk P w H h) (n : H a = none) (e : h.get? a = some o) : HOk P w (upd H a (Fz a o)) h := fun b u z => by
  by_cases hb : b = a
  · subst hb
    rw [upd_same] at z
    cases z
    exact fz_ok e
  · rw [upd_ne hb] at z
    exact (hok b u z).stay (fun _ _ _ q => q) (fun c q => by rw [upd_ne (ne_of_none q n)]; exact q) fun c xs q => by rw [upd_ne (ne_of_none q n)]; exact q
/-- one thing forgotten -/
theorem hok_drop {P : Program} {w : World} {H : Hp} {h : Heap} {a : Addr} {o : Obj} (hok : HOk P w H h) (e : H a = some (Fz a o)) : HOk P w (dropH H a) h := fun b u z => by
  have hb : b ≠ a := fun y => by rw [y, dropH_same] at z; cases z
  rw [dropH_ne hb] at z
  have other : ∀ c v, H c = some v → (∀ ψ, v ≠ .ext ψ) → dropH H a c = some v := fun c v q n => by
    have hc : c ≠ a := fun y => by
      rw [y, e] at q
      exact n _ (Option.some.inj q).symm
    rw [dropH_ne hc]
    exact q
  exact (hok b u z).stay (fun _ _ _ q => q) (fun c q => other c _ q fun _ y => nomatch y) fun c xs q => other c _ q fun _ y => nomatch y
theorem drop_upd {H : Hp} {a : Addr} {o : HO} (e : H a = some o) : upd (dropH H a) a o = H := by
  funext b
  by_cases hb : b = a
  · rw [hb, upd_same, e]
  · rw [upd_ne hb, dropH_ne hb]
section
variable {P : Program} {w : World} {K : PySem.W.Frag} {mg : Str → Option Value} {base : Heap} {N ps : List Str} {y0 : Str} {F : NF} {f ch x : Addr} {k : Nat} {pm ctv : Value} {body : Expr} {oc : Obj} {A : Around} {outer : List Env} {s : Shared} {H : Hp} {us : List Value} {vs : List V} {Q : VK} {tb : TE}
/-- the lambda run: its body leaves all as it is -/
theorem lam_run (S : NScope N ps [y0] F.scope) (hcl : F.cl = [(y0, ch)]) (hx : oc.data = .cell (some (.ref x)))
    (hb : bindArgs (PySem.W.kla_fn F.name F.qual F.params body F.scope F.cl pm (.ref F.c) ctv) ⟨us, []⟩ = pure (ps.zip us)) (hl : vs.length = ps.length) (r : Vals vs us)
    (hr : Room (k + 1) A) (e0 : Env0 P w K mg base A outer s H) (hf : H f = some (Fz f (PySem.W.kla_obj F.name F.qual F.params body F.scope F.cl pm F.c ctv))) (hc : H F.c = some (CodeO F.c F.qual)) (hch : H ch = some (Fz ch oc))
    (hbody : Room k (A.deeper (envF F f s.heap.objs.size)) → PE (ncx CX0 P w K mg base N F f A outer s (dropH H ch) E0) body tb)
    (q : tb (startF N vs [some (.ref x)]) (dropH H ch) fun v H' => H' = dropH H ch ∧ Q v H) :
    codeAny (model P w) A (.call (.ref f) ⟨us, []⟩) (CR CX0 outer P w H s Q E0) s := by
  have lim : s.heap.NoLimit := e0.mod.nolimit.keeps fun b o e => (e0.bs b o e).1
  have hoc := fz_at e0.hok hch
  have e1 : Env0 P w K mg base A outer s (dropH H ch) := ⟨e0.frames, e0.mod, fun b o e => ⟨(e0.bs b o e).1, by
      by_cases z : b = ch
      · rw [z, dropH_same]
      · rw [dropH_ne z]; exact (e0.bs b o e).2⟩, e0.bsz, e0.funs, fun b hb => by
      by_cases z : b = ch
      · rw [z, dropH_same]
      · rw [dropH_ne z]; exact e0.frf b hb, hok_drop e0.hok hch, e0.bare⟩
  have nfr : ch ∉ frs outer := fun z => by
    have := e0.frf ch z
    rw [hch] at this
    cases this
  have C : CellsAt F.cl [y0] [some (V.ref x)] s.heap (dropH H ch) := by
    rw [hcl]
    have lk : ∀ {y c}, List.lookup y [(y0, ch)] = some c → y = y0 ∧ c = ch := fun {y c} e => by
      have e2 : (y, c) ∈ [(y0, ch)] := PySem.mem_of_lookup e
      rw [List.mem_singleton] at e2
      cases e2
      exact ⟨rfl, rfl⟩
    refine ⟨rfl, fun y c e => ?_, fun a b c e1 e2 => (lk e1).1.trans (lk e2).1.symm, fun i y hi => ?_⟩
    · rw [(lk e).2]
      exact ⟨dropH_same, _, oc, hoc, hx⟩
    · cases i with
      | zero =>
        have : y0 = y := by simpa using hi
        subst this
        refine ⟨ch, by simp [List.lookup], fun v hv => ?_⟩
        have : V.ref x = v := by simpa using hv
        subst this
        exact ⟨.ref x, rfl, oc, hoc, hx⟩
      | succ i => simp at hi
  refine PySem.W.kla_callFunE hr.depth (fz_at e0.hok hf) rfl S.co S.gen rfl (codeO_at e0.hok hc) ?_
  rw [hb]
  refine wpAny_pure (wpAny_newFunctionEnv S.nocell (fun ⟨n, _⟩ hy => S.par n (List.of_mem_zip hy).1) (fun h₁ hns hsb => ⟨lim.fresh _ hsb, ?_⟩) S.kind)
  show codeAny _ _ (.expr body (envF F f s.heap.objs.size)) _ _
  have kp : ∀ b o, s.heap.get? b = some o → h₁.get? b = some o := fun b o e => hsb.extBut b o (Nat.ne_of_lt (Heap.lt_size e)) (Heap.get?_push_of_some _ e)
  have I : Inv (ncx CX0 P w K mg base N F f A outer s (dropH H ch) E0) [] (startF N vs [some (V.ref x)]) (dropH H ch) { s with heap := h₁, toks := s.toks + (ps.zip us).length } := inv_startN S hr.hd e1 hl r C hns kp
  refine PySem.W.kla_codeExpr (wpAny_mono ((hbody (hr.deeper _)).run [] _ _ _ _ I q) (fun v s' hq => ?_) fun e s' hq => hq)
  obtain ⟨w', H', J, rv, rfl, q'⟩ := hq
  have un : Un (frs outer) [] (dropH H ch) (dropH H ch) s.heap s'.heap := J.base
  have low : ∀ b, H b = none → dropH H ch b = none := fun b e => by
    by_cases z : b = ch
    · rw [z, dropH_same]
    · rw [dropH_ne z]; exact e
  refine ⟨w', H, J.os, J.bare, ⟨fun b o e n => un.keep b o e (low b n), fun b o e n => un.slot b o e (low b n), fun b o e n _ => n, un.there, fun b xs e => e, fun b o u e => e, fun b ps e => ⟨#[], by rw [e]; simp⟩⟩, ?_, rv, q'⟩
  have h2 : HOk P w (upd (dropH H ch) ch (Fz ch oc)) s'.heap := hok_add J.hok dropH_same (un.keep ch oc hoc dropH_same nfr (by simp))
  rw [drop_upd hch] at h2
  exact h2
end
/-! ### what is known of a lambda -/
structure Lam where
  qual : Str
  params : Arguments
  body : Expr
  scope : Scope
  y0 : Str
abbrev Lam.nf (L : Lam) (ch c' : Addr) : NF := ⟨"<lambda>", L.qual, L.params, [], L.scope, [(L.y0, ch)], c'⟩
/-- at f stands the lambda L, which holds x -/
def LamAt (L : Lam) (H : Hp) (f x : Addr) : Prop := ∃ (c' ch : Addr) (pm ctv : Value) (oc : Obj), H f = some (Fz f (PySem.W.kla_obj "<lambda>" L.qual L.params L.body L.scope [(L.y0, ch)] pm c' ctv)) ∧ H c' = some (CodeO c' L.qual) ∧ H ch = some (Fz ch oc) ∧ oc.data = .cell (some (.ref x))
theorem LamAt.ext {L : Lam} {H H' : Hp} {f x : Addr} (a : LamAt L H f x) (e : ExtN H H') : LamAt L H' f x := by
  obtain ⟨c', ch, pm, ctv, oc, h1, h2, h3, h4⟩ := a
  exact ⟨c', ch, pm, ctv, oc, e _ _ h1 fz_tbl, e _ _ h2 codeO_ne, e _ _ h3 fz_tbl, h4⟩
theorem LamAt.same {L : Lam} {H H' : Hp} {f x : Addr} (a : LamAt L H f x) (s : ∀ b o, H b = some o → H' b = some o) : LamAt L H' f x := a.ext (ExtN.of s)
/-- what it promises -/
structure LamK (P : Program) (w : World) (K : PySem.W.Frag) (mg : Str → Option Value) (base : Heap) (L : Lam) (k : Nat) (lsp : Addr → List V → Hp → VK → Prop) : Prop where
  run : ∀ (A : Around) (outer : List Env) (s : Shared) (H : Hp) (f x : Addr) (us : List Value) (vs : List V) (Q : VK), Room k A → Env0 P w K mg base A outer s H → LamAt L H f x → Vals vs us → lsp x vs H Q → codeAny (model P w) A (.call (.ref f) ⟨us, []⟩) (CR CX0 outer P w H s Q E0) s
section
variable {P : Program} {w : World} {K : PySem.W.Frag} {mg : Str → Option Value} {base : Heap} {N ps : List Str} {L : Lam} {k : Nat} {lsp : Addr → List V → Hp → VK → Prop} {tb : TE}
theorem lamK_of (S : NScope N ps [L.y0] L.scope) (hb : ∀ (cl : List (Str × Addr)) (pm cv ctv : Value) (us : List Value), us.length = ps.length → bindArgs (PySem.W.kla_fn "<lambda>" L.qual L.params L.body L.scope cl pm cv ctv) ⟨us, []⟩ = pure (ps.zip us))
    (hbody : ∀ (f ch c' : Addr) (A : Around) (outer : List Env) (s : Shared) (H : Hp), Room k (A.deeper (envF (L.nf ch c') f s.heap.objs.size)) → PE (ncx CX0 P w K mg base N (L.nf ch c') f A outer s H E0) L.body tb)
    (hsp : ∀ (x : Addr) (vs : List V) (H : Hp) (ch : Addr) (φ : Heap → Prop) (Q : VK), H ch = some (.ext φ) → lsp x vs H Q → vs.length = ps.length ∧ tb (startF N vs [some (.ref x)]) (dropH H ch) fun v H' => H' = dropH H ch ∧ Q v H) : LamK P w K mg base L (k + 1) lsp := by
  refine ⟨fun A outer s H f x us vs Q hr e0 la r q => ?_⟩
  obtain ⟨c', ch, pm, ctv, oc, h1, h2, h3, h4⟩ := la
  obtain ⟨hl, q⟩ := hsp x vs H ch _ Q h3 q
  exact lam_run (F := L.nf ch c') S rfl h4 (hb _ _ _ _ us (by rw [← r.length]; exact hl)) hl r hr e0 h1 h2 h3 (fun hr' => hbody f ch c' A outer s (dropH H ch) hr') q
end
/-! ### the lambda called by the name that holds it -/
def tLamV (L : Lam) (lsp : Addr → List V → Hp → VK → Prop) (i : Nat) (t : TA) : TE := fun σ H Q => ∃ f x, σ[i]? = some (some (.ref f)) ∧ LamAt L H f x ∧ t σ H fun vs H1 => LamAt L H1 f x ∧ lsp x vs H1 Q
theorem lam_fnAt {P : Program} {w : World} {H : Hp} {h : Heap} {L : Lam} {f x : Addr} (hok : HOk P w H h) (a : LamAt L H f x) : PySem.W.FnAt f h := by
  obtain ⟨c', ch, pm, ctv, oc, h1, _⟩ := a
  exact ⟨_, _, _, _, fz_at hok h1⟩
section
variable {X : Cx} {L : Lam} {lsp : Addr → List V → Hp → VK → Prop} {k i : Nat} {nm : Str} {t : TA} {e : Expr} {es : List Expr} {p pos : Pos}
theorem pe_lamv (c : LamK X.prog X.w X.K X.mg X.base L k lsp) (hr : Room k X.A) (hN : X.N[i]? = some nm) (hv : Vis X.env.scope nm) (ha : PA X (e :: es) t)
    (hd : (nm == ("__debug__" : Str)) = false := by decide) (hcd : (nm == ("__classdict__" : Str)) = false := by decide)
    (he : starEach (e :: es) X.env = (false, eval e X.env) :: starEach es X.env := by rfl) (hpl : (backTo pos (starEach es X.env)).any (·.1) = false := by rfl) :
    PE X (.Call (.Name nm p) (e :: es) [] pos) (tLamV L lsp i t) := by
  refine ⟨fun pins s σ H Q I h => ?_⟩
  obtain ⟨f, x, hs, la, ht⟩ := h
  refine wpAny_Call_Name_kw (thn ((pe_var (pos := p) hN hv hd hcd).run pins s σ H (fun v H1 => v = .ref f ∧ H1 = H) I ⟨.ref f, hs, rfl, rfl⟩) fun u s1 ⟨v, H1, I1, r1, q1⟩ => ?_)
  obtain ⟨rfl, rfl⟩ := q1
  cases r1
  refine PySem.W.callWith_F (first := []) (lam_fnAt I1.hok la) (thn (ha.run pos pins s1 σ _ _ I1 ht) fun us s2 ⟨vs, H2, I2, r, la2, q⟩ => ⟨lam_fnAt I2.hok la2, ?_⟩) he hpl
  show wpAny _ _ (call (.ref f) us) _ _ _
  refine wpAny_call (codeAny_mono (c.run X.A X.stack s2 H2 f x us vs Q hr I2.env0 la2 r q) fun r s' hq => ?_)
  match r, hq with
  | .ok (.ret u), z => exact I2.after z
  | .ok .next, z => exact z.elim
  | .ok .brk, z => exact z.elim
  | .ok .cont, z => exact z.elim
  | .error e, z => exact z.elim
end
/-! ### the lambda made -/
section
variable {X : Cx} {pins : List (Addr × Obj)} {σ : L2.St} {H : Hp} {s : Shared}
theorem inv_fz {o : Obj} {t' : Nat} (I : Inv X pins σ H s) (ho : o.isFreed = false) : Inv X pins σ (upd H s.heap.objs.size (Fz s.heap.objs.size o)) { s with heap := s.heap.push o, toks := t' } :=
  I.laid (fun _ _ e => Heap.get?_push_of_some _ e) (Nat.le_refl _) (fz_ok (Heap.get?_push_size _ ho))
theorem upd_non {H : Hp} {a b : Addr} {o : HO} (e : upd H a o b = none) : H b = none := by
  unfold upd at e
  split at e
  · cases e
  · exact e
theorem extN_new {H : Hp} {a : Addr} {o : HO} (n : H a = none) : ExtN H (upd H a o) := fun b u e _ => by rw [upd_ne (ne_of_none e n)]; exact e
/-- a lambda evaluated: a function object, known to the last word -/
theorem lam_new {T : List (Addr × Str)} {c P : Addr} {params : Arguments} {body : Expr} {scope : Scope} {pos : Pos} {E : Value → Shared → Prop} {Q : Value → Shared → Prop} (I : Inv X pins σ H s) (TB : TabB X.base X.mg c P) (hcode : X.env.code = .ref c)
    (hm : (P, X.env.qual ++ "<lambda>") ∈ T) (hu : ∀ p ∈ T, p.1 = P → p.2 = X.env.qual ++ "<lambda>") (hT : Tabs T H) (hdef : defaultsOf params X.env = ([], [])) (hfree : ∀ y ∈ scope.names, y.2 = .free → ∃ c, X.env.cells.lookup y.1 = some c)
    (h : ∀ (f c' : Addr) (pm ctv : Value) (H1 : Hp) (s' : Shared), Inv X pins σ H1 s' → ExtN H H1 → (∀ b, H1 b = none → H b = none) → Tabs T H1 → H f = none →
      H1 f = some (Fz f (PySem.W.kla_obj "<lambda>" (X.env.qual ++ "<lambda>") params body scope (cloFrom X.env.cells scope.names []) pm c' ctv)) → H1 c' = some (CodeO c' (X.env.qual ++ "<lambda>")) → Q (.ref f) s') :
    wpAny (model X.prog X.w) X.A (eval (.Lambda params body scope pos) X.env) Q E s := by
  obtain ⟨ps, hP, tri, told⟩ := hT _ hm
  have atP := I.hok P _ hP
  have bP : s.heap.BuiltinsAt X.mg P := TB.bm.keeps I.bk
  -- the rest, once the code object is known
  have fin : ∀ {c' : Addr} {pm ctv : Value} {H1 : Hp} {s1 : Shared} {tk : Nat}, Inv X pins σ H1 s1 → ExtN H H1 → (∀ b, H1 b = none → H b = none) → Tabs T H1 → H1 c' = some (CodeO c' (X.env.qual ++ "<lambda>")) →
      Q (.ref s1.heap.objs.size) { s1 with heap := s1.heap.push (PySem.W.kla_obj "<lambda>" (X.env.qual ++ "<lambda>") params body scope (cloFrom X.env.cells scope.names []) pm c' ctv), toks := tk } := fun {c' pm ctv H1 s1 tk} I1 eN nn T1 hc => by
    have nF : H1 s1.heap.objs.size = none := I1.hok.fresh (Nat.le_refl _)
    have grow : ∀ b o, H1 b = some o → (upd H1 s1.heap.objs.size (Fz s1.heap.objs.size (PySem.W.kla_obj "<lambda>" (X.env.qual ++ "<lambda>") params body scope (cloFrom X.env.cells scope.names []) pm c' ctv))) b = some o := fun b o e => by
      rw [upd_ne (ne_of_none e nF)]
      exact e
    exact h _ c' pm ctv _ _ (inv_fz (t' := tk) I1 rfl) (eN.trans (extN_new nF)) (fun b e => nn b (upd_non e)) (T1.ext grow) (nn _ nF) upd_same (grow _ _ hc)
  refine PySem.W.kla_eval hdef ?_
  cases hca : codeAmong pos ps.toList with
  | some cv =>
    obtain ⟨c', rfl, hco⟩ := told pos cv hca
    refine PySem.W.kla_makeFunctionHit (mg := X.mg) (c := c) (P := P) (ps := ps) (closure_ok hfree) I.ok.glob (I.mod.glob.keeps I.bk) hcode (TB.code.keeps I.bk) atP tri hca bP fun ctv h' tk hx _ => ?_
    exact fin (s1 := { s with heap := h', toks := tk }) (I.kept hx) (ExtN.refl H) (fun _ e => e) hT hco
  | none =>
    refine PySem.W.kla_makeFunction (mg := X.mg) (c := c) (P := P) (ps := ps) (closure_ok hfree) I.ok.glob (I.mod.glob.keeps I.bk) hcode (TB.code.keeps I.bk) atP tri hca TB.gP bP fun c' ctv h' tk hx hge hlt hrec htb => ?_
    obtain ⟨c2, oc, vs, t, e2, hoc, hd, hv⟩ := hrec
    cases e2
    have nC : H c' = none := I.hok.fresh hge
    have I1 := inv_table (q := X.env.qual ++ "<lambda>") (t' := tk) (more := #[rawInt pos.line, rawInt pos.col, .ref c']) (h' := h') I hP (fun b o hb e => hx b o hb e) htb hge ⟨oc, vs, t, hoc, hd, hv⟩
    have hE : ExtN H (upd (upd H P (.tbl (ps ++ #[rawInt pos.line, rawInt pos.col, .ref c']))) c' (CodeO c' (X.env.qual ++ "<lambda>"))) := fun b o e n => by
      rw [upd_ne (ne_of_none e nC), upd_ne (fun z => n ps (Option.some.inj (e.symm.trans (by rw [z]; exact hP))))]
      exact e
    refine fin (s1 := { s with heap := h', toks := tk }) I1 hE (fun b e => upd_non (upd_non e)) (fun p hp => ?_) upd_same
    by_cases hb : p.1 = P
    · rw [hu p hp hb, hb]
      have eL : (ps ++ #[rawInt pos.line, rawInt pos.col, .ref c']).toList = ps.toList ++ [rawInt pos.line, rawInt pos.col, .ref c'] := by simp
      refine ⟨_, by rw [upd_ne (ne_of_none hP nC), upd_same], by rw [eL]; exact PySem.TriplesOk_snoc _ _ _ _ tri, fun p' cv hcv => ?_⟩
      rw [eL] at hcv
      rcases among_app _ tri hcv with z | z
      · obtain ⟨c0, z1, z2⟩ := told p' cv z
        exact ⟨c0, z1, hE _ _ z2 codeO_ne⟩
      · exact ⟨c', z, upd_same⟩
    · obtain ⟨ps', a1, a2, a3⟩ := hT p hp
      refine ⟨ps', by rw [upd_ne (ne_of_none a1 nC), upd_ne hb]; exact a1, a2, fun p' cv hcv => ?_⟩
      obtain ⟨c0, z1, z2⟩ := a3 p' cv hcv
      exact ⟨c0, z1, hE _ _ z2 codeO_ne⟩
end
/-- the reading of a lambda -/
def tLamN (T : List (Addr × Str)) (q : Str) (params : Arguments) (body : Expr) (scope : Scope) (cl : List (Str × Addr)) : TE := fun _ H Q => Tabs T H ∧ ∀ (f c' : Addr) (pm ctv : Value) (H1 : Hp), ExtN H H1 → (∀ b, H1 b = none → H b = none) → Tabs T H1 → H f = none → H1 f = some (Fz f (PySem.W.kla_obj "<lambda>" q params body scope cl pm c' ctv)) → H1 c' = some (CodeO c' q) → Q (.ref f) H1
section
variable {X : Cx}
theorem pe_lam {T : List (Addr × Str)} {c P : Addr} {params : Arguments} {body : Expr} {scope : Scope} {pos : Pos} {q : Str} {cl : List (Str × Addr)} (TB : TabB X.base X.mg c P) (hcode : X.env.code = .ref c) (hq : X.env.qual ++ "<lambda>" = q) (hcl : cloFrom X.env.cells scope.names [] = cl)
    (hm : (P, q) ∈ T) (hu : ∀ p ∈ T, p.1 = P → p.2 = q) (hdef : defaultsOf params X.env = ([], [])) (hfree : ∀ y ∈ scope.names, y.2 = .free → X.env.kindOf y.1 = some .cell ∨ X.env.kindOf y.1 = some .free) : PE X (.Lambda params body scope pos) (tLamN T q params body scope cl) := by
  subst hq hcl
  refine ⟨fun pins s σ H Q I h => ?_⟩
  obtain ⟨hT, h⟩ := h
  exact lam_new I TB hcode hm hu hT hdef (fun y hy e => I.ok.has _ (hfree y hy e)) fun f c' pm ctv H1 s' I1 eN nn T1 f0 f1 c1 => ⟨.ref f, H1, I1, rfl, h f c' pm ctv H1 eN nn T1 f0 f1 c1⟩
end
/-! ### a def called, to which the content of a cell of the running frame is made known -/
def tCalC (y0 : Str) (j : Nat) (ch : Addr) (sp : Sp) (t : TA) : TE := fun σ H Q => t σ H fun vs H1 => ∃ x, σ[j]? = some (some (.ref x)) ∧ ∀ oc : Obj, oc.data = .cell (some (.ref x)) → H1 ch = none → sp vs (upd H1 ch (Fz ch oc)) (fun v H' => H' ch = some (Fz ch oc) ∧ Q v (dropH H' ch)) E0
section
variable {X : Cx} {x y0 : Str} {j k : Nat} {ch : Addr} {sp : Sp} {t : TA} {e : Expr} {es : List Expr} {p pos : Pos}
theorem pe_calC (c : Cal X.prog X.w X.K X.mg X.base x k sp) (hr : Room k X.A) (hcell : X.env.cells.lookup y0 = some ch) (hge : X.s_0.heap.objs.size ≤ ch) (hN : X.N[j]? = some y0) (hkind : X.env.scope.names.lookup y0 = some .cell) (ha : PA X (e :: es) t) (hg : Gl X x := by rfl) (hdb : (x == ("__debug__" : Str)) = false := by decide)
    (he : starEach (e :: es) X.env = (false, eval e X.env) :: starEach es X.env := by rfl) (hpl : (backTo pos (starEach es X.env)).any (·.1) = false := by rfl) :
    PE X (.Call (.Name x p) (e :: es) [] pos) (tCalC y0 j ch sp t) := by
  obtain ⟨f, fd, ps, F, hm, hk, hb⟩ := c.ex
  refine ⟨fun pins s σ H Q I h => ?_⟩
  refine wpAny_Call_Name_kw (ld_glob I hg hm ?_ hdb)
  refine PySem.W.callWith_K (h₀ := X.base) I.ok.mod.kin hk (thn (ha.run pos pins s σ H _ I h) fun us s2 ⟨vs, H1, I2, r, x0, hx0, q⟩ => ⟨I2.kIn, ?_⟩) he hpl
  show wpAny _ _ (call (.ref f) us) _ _ _
  have nC : H1 ch = none := I2.freeC y0 ch hcell
  obtain ⟨oc, hoc, hd⟩ : ∃ oc : Obj, s2.heap.get? ch = some oc ∧ oc.data = .cell (some (.ref x0)) := by
    obtain ⟨m, _, hl⟩ := I2.loc
    obtain ⟨u, ru, lk⟩ := hl j y0 (.ref x0) hN hx0 (.inr (.inl hkind))
    cases ru
    rcases lk with ⟨k', _⟩ | ⟨_, c1, e1, o, ho, hd⟩
    · have k' : X.env.scope.names.lookup y0 = some .local := k'
      rw [hkind] at k'
      cases k'
    · rw [hcell] at e1
      cases e1
      exact ⟨o, ho, hd⟩
  have q := q oc hd nC
  have nfr : ch ∉ frs X.stack := fun z => by
    rcases List.mem_cons.mp (I2.stkSub ch z) with e1 | e1
    · exact I2.cne y0 ch hcell e1
    · obtain ⟨_, o, ho, _⟩ := I2.ok.funs.mem e1
      exact absurd (Nat.lt_of_lt_of_le (Heap.lt_size ho) hge) (Nat.lt_irrefl _)
  have e0 := I2.env0
  have e1 : Env0 X.prog X.w X.K X.mg X.base X.A X.stack s2 (upd H1 ch (Fz ch oc)) := ⟨e0.frames, e0.mod, fun b o e => ⟨(e0.bs b o e).1, by
      rw [upd_ne fun z => ?_]
      · exact (e0.bs b o e).2
      · rw [z] at e
        exact absurd (Nat.lt_of_lt_of_le (Heap.lt_size e) (Nat.le_trans I2.ok.bsz hge)) (Nat.lt_irrefl _)⟩, e0.bsz, e0.funs, fun b hb => by
      rw [upd_ne fun z => nfr (by rw [← z]; exact hb)]
      exact e0.frf b hb, hok_add e0.hok nC hoc, e0.bare⟩
  have hl := F.len _ _ _ _ q
  refine wpAny_call (codeAny_mono (F.run X.A X.stack s2 _ ⟨us, []⟩ us vs _ E0 hr e1 (by
    have := hb s2 us I2.kIn (by rw [List.append_nil, ← r.length]; exact hl)
    simpa using this) r q) fun r s' hq => ?_)
  match r, hq with
  | .ok (.ret u), z =>
    obtain ⟨v, H', os, bare, un, hok, rv, hch, q'⟩ := z
    have hoc' := fz_at hok hch
    have up : ∀ {b : Addr}, b ≠ ch → H1 b = none → (upd H1 ch (Fz ch oc)) b = none := fun n e => by rw [upd_ne n]; exact e
    have ext : ∀ {b : Addr} {o : HO}, H1 b = some o → (upd H1 ch (Fz ch oc)) b = some o ∧ b ≠ ch := fun e => ⟨by rw [upd_ne (ne_of_none e nC)]; exact e, ne_of_none e nC⟩
    refine I2.after ⟨v, dropH H' ch, os, bare, ⟨fun b o e n nf nx => ?_, fun b o e n fs nx => ?_, fun b o e n nx => ?_, un.there, fun b xs e => ?_, fun b o u e => ?_, fun b ps e => ?_⟩, hok_drop hok hch, rv, q'⟩
    · by_cases hb : b = ch
      · subst hb
        rw [hoc] at e
        cases e
        exact hoc'
      · exact un.keep b o e (up hb n) nf nx
    · by_cases hb : b = ch
      · subst hb
        exact absurd fs nfr
      · exact un.slot b o e (up hb n) fs nx
    · by_cases hb : b = ch
      · rw [hb, dropH_same]
      · rw [dropH_ne hb]
        exact un.free b o e (up hb n) nx
    · rw [dropH_ne (ext e).2]; exact un.tups b xs (ext e).1
    · rw [dropH_ne (ext e).2]; exact un.frzs b o u (ext e).1
    · rw [dropH_ne (ext e).2]; exact un.tbls b ps (ext e).1
  | .ok .next, z => exact z.elim
  | .ok .brk, z => exact z.elim
  | .ok .cont, z => exact z.elim
  | .error e, z => exact z.elim
end
end LamA

end
section
set_option maxRecDepth 100000
set_option maxHeartbeats 2000000
namespace L2
open PySem PySem.Spec PyProof.Rows LamX
/-! ### the end by a promise that wants no guards, with tables of code objects that may grow -/
section
variable {P : Program} {w : World} {K : PySem.W.Frag} {mg mb : Str → Option Value} {k : Nat} {fa a : Addr} {fd : FuncData} {x : Str} {sp : Sp} {s1 : Shared} {vs : List Value} {ns : List Int} {cs : List (Addr × Addr)}
/-- the script and the tables, which are empty -/
def tabH (K : PySem.W.Frag) (a : Addr) (vs : List Value) (ns : List Int) (cs : List (Addr × Addr)) : Hp := fun b => if b ∈ cs.map (·.2) then some (.tbl #[]) else scrH K a vs ns b
theorem tabH_tab {p : Addr × Addr} (h : p ∈ cs) : tabH K a vs ns cs p.2 = some (.tbl #[]) := if_pos (List.mem_map.mpr ⟨p, h, rfl⟩)
theorem tabH_not {b : Addr} (h : b ∉ cs.map (·.2)) : tabH K a vs ns cs b = scrH K a vs ns b := if_neg h
theorem tab_call (inK : K.In s1.heap) (tops : s1.heap.Ns mainGlobals mg) (blt : s1.heap.Ns builtinsNs mb) (boot : ∀ x : Str, x ≠ "__name__" → mb x = bootBuiltins x) (lim : s1.heap.NoLimit) (none_run : s1.gens = #[])
    (bmod : ∃ (bm : Addr) (ob : Obj), mg "__builtins__" = some (.ref bm) ∧ bm ≠ builtinsNs ∧ s1.heap.get? bm = some ob ∧ ob.cls = .type "module" ∧ ob.dict = some builtinsNs ∧ ob.data = .plain)
    (isT : ∀ p ∈ cs, s1.heap.get? p.2 = some { cls := .none, data := .fields #[] }) (offK : ∀ p ∈ cs, K.lookup p.2 = none) (heads : ∀ p ∈ cs, PySem.W.CodeHd s1.heap p.1 p.2)
    (obj : s1.heap.get? a = some { cls := .type "list", data := .seq vs.toArray }) (isI : IntsAre vs ns) (few : ns.length ≤ sizeLine) (room : Room k callerA)
    (F : ∀ base : Heap, K.In base → base.Ns mainGlobals mg → (∀ p ∈ cs, TabB base mg p.1 p.2) → GOk P w K mg base CX0 k fa fd [x] sp) (bnd : ∀ (s : Shared) (u : Value), BindsTo s fd ⟨[u], []⟩ [(x, u)])
    (want : ∀ H : Hp, (∀ p ∈ cs, H p.2 = some (.tbl #[])) → SqL K H a (ns.map V.int) → sp [.ref a] H (fun v _ => v = .bl true) fun _ _ _ => False) :
    codeAny (model P w) callerA (.call (.ref fa) ⟨[.ref a], []⟩) (fun r s' => r = .ok (.ret (.bool true)) ∧ OldK s1.heap s'.heap ∧ s'.os = s1.os ∧ AllBare s'.gens) s1 := by
  have vals := vals_ints isI
  have lv := isI.length
  have atT : ∀ {b : Addr}, b ∈ cs.map (·.2) → s1.heap.get? b = some { cls := .none, data := .fields #[] } ∧ K.lookup b = none := fun {b} hb => by
    obtain ⟨p, hp, e⟩ := List.mem_map.mp hb
    exact e ▸ ⟨isT p hp, offK p hp⟩
  have notT : ∀ {b : Addr} {o : Obj}, s1.heap.get? b = some o → o.data ≠ .fields #[] → b ∉ cs.map (·.2) := fun {b o} e n hb => by
    rw [(atT hb).1] at e
    cases e
    exact n rfl
  have aT : a ∉ cs.map (·.2) := notT obj fun z => by cases z
  -- what stands in the heap and is neither the script nor a table stands in the base
  have stand : ∀ {b : Addr} {o : Obj}, s1.heap.get? b = some o → b ∉ cs.map (·.2) → b ≠ a ∨ K.lookup a ≠ none → (hidT s1.heap (tabH K a vs ns cs)).get? b = some o := fun {b o} e t c => hidT_get e (by
    rw [tabH_not t]
    cases z : scrH K a vs ns b with
    | none => rfl
    | some u =>
      obtain ⟨z1, z2, _⟩ := scrH_some z
      rcases c with c | c
      · exact absurd z1 c
      · exact absurd z2 c)
  have plainly : ∀ {b : Addr} {o : Obj}, s1.heap.get? b = some o → (∀ us n, o.data ≠ .seq us n) → o.data ≠ .fields #[] → (hidT s1.heap (tabH K a vs ns cs)).get? b = some o := fun {b o} e h1 h2 => stand e (notT e h2) (.inl fun z => by
    rw [z, obj] at e
    cases e
    exact h1 _ _ rfl)
  have spaces : ∀ {b : Addr} {m : Str → Option Value}, s1.heap.Ns b m → (hidT s1.heap (tabH K a vs ns cs)).Ns b m := fun {b m} h => by
    obtain ⟨o, es, ep, e, d, r⟩ := h
    exact ⟨o, es, ep, plainly e (fun us n z => by rw [d] at z; cases z) (fun z => by rw [d] at z; cases z), d, r⟩
  have inB : K.In (hidT s1.heap (tabH K a vs ns cs)) := fun b o e => stand (inK b o e) (fun hb => by have n := (atT hb).2; rw [e] at n; cases n) (by
    by_cases z : b = a
    · exact .inr fun n => by rw [← z, e] at n; cases n
    · exact .inl z)
  have limB : (hidT s1.heap (tabH K a vs ns cs)).NoLimit := let ⟨mc, h1, h2⟩ := lim; ⟨mc, spaces h1, h2⟩
  have gT : ∀ p ∈ cs, mainGlobals ≠ p.2 := fun p hp z => by
    obtain ⟨o, es, ep, e, d, _⟩ := tops
    rw [z, isT p hp] at e
    cases e
    cases d
  have tabs : ∀ p ∈ cs, TabB (hidT s1.heap (tabH K a vs ns cs)) mg p.1 p.2 := fun p hp => by
    refine ⟨?_, ?_, gT p hp⟩
    · obtain ⟨o, us, file, tf, flags, tg, inF, text, tt, e1, r1, r2, rest⟩ := heads p hp
      refine ⟨o, us, file, tf, flags, tg, inF, text, tt, plainly e1 (fun us n z => by rw [r2] at z; cases z) (fun z => ?_), r1, r2, rest⟩
      rw [r2] at z
      cases z
      have r3 := rest.1
      simp at r3
    · obtain ⟨bm, ob, b1, b2, b3, b4, b5, b6⟩ := bmod
      have eb := plainly b3 (fun us n z => by rw [b6] at z; cases z) (fun z => by rw [b6] at z; cases z)
      refine ⟨bm, ob, b1, b2, fun q => ?_, fun q => ?_, eb, b4, b5, b6⟩
      · obtain ⟨o, es, ep, e, d, _⟩ := tops
        rw [q, e] at b3
        cases b3
        rw [d] at b6
        cases b6
      · rw [q, isT p hp] at b3
        cases b3
        cases b6
  have long : (ns.map V.int).length ≤ sizeLine := by rw [List.length_map]; exact few
  have ok : HOk P w (tabH K a vs ns cs) s1.heap := fun b o e => by
    by_cases hb : b ∈ cs.map (·.2)
    · have e' := (if_pos hb).symm.trans e
      cases e'
      exact (atT hb).1
    · rw [tabH_not hb] at e
      obtain ⟨rfl, _, rfl⟩ := scrH_some e
      exact ⟨obj, long, vs, _, vals, obj⟩
  have listed : SqL K (tabH K a vs ns cs) a (ns.map V.int) := by
    cases lk : K.lookup a with
    | none => exact .inl (.inr ⟨_, (tabH_not aT).trans (if_pos ⟨rfl, lk⟩)⟩)
    | some o =>
      have e := (inK a o lk).symm.trans obj
      cases e
      exact .inr ⟨_, vs.toArray, _, lk, rfl, rfl, rfl, by rw [List.size_toArray, lv]; exact few, by simpa using vals⟩
  have env : Env0 P w K mg (hidT s1.heap (tabH K a vs ns cs)) callerA [] s1 (tabH K a vs ns cs) :=
    { frames := rfl, mod := ⟨inB, spaces tops, ⟨mb, spaces blt, boot⟩, limB⟩, bs := fun b o e => of_hidT e, bsz := Nat.le_of_eq (hidT_size _ _), funs := trivial, frf := fun b z => (List.not_mem_nil z).elim, hok := ok, bare := .of_eq none_run }
  refine codeAny_mono ((F _ inB (spaces tops) tabs).go callerA rfl [] s1 _ ⟨[.ref a], []⟩ [.ref a] [.ref a] _ _ room env (bnd s1 (.ref a)) (.cons rfl .nil) (want _ (fun p hp => tabH_tab hp) listed)) fun r s' ended => ?_
  match r, ended with
  | .ok (.ret u), z =>
    obtain ⟨v, H', os, bare, un, ok', rv, q⟩ := z
    have ev : v = .bl true := q
    rw [ev] at rv
    cases rv
    have rest : ∀ b o, b ∉ cs.map (·.2) → s1.heap.get? b = some o → s'.heap.get? b = some o := fun b o hb e => by
      cases n : tabH K a vs ns cs b with
      | none => exact un.keep b o e n List.not_mem_nil List.not_mem_nil
      | some t =>
        have n' := (tabH_not hb).symm.trans n
        obtain ⟨rfl, _, rfl⟩ := scrH_some n'
        have same := (ok' b _ (un.frzs b _ _ n)).1
        rw [obj] at e
        cases e
        exact same
    have grown : ∀ p ∈ cs, ∃ more : Array Value, s'.heap.get? p.2 = some { cls := .none, data := .fields more } := fun p hp => by
      obtain ⟨more, z⟩ := un.tbls p.2 #[] (tabH_tab hp)
      exact ⟨_, ok' p.2 _ z⟩
    refine ⟨rfl, ⟨fun b o e => ?_, fun b o e => ?_⟩, os, bare⟩
    · by_cases hb : b ∈ cs.map (·.2)
      · obtain ⟨p, hp, ep⟩ := List.mem_map.mp hb
        obtain ⟨more, hm⟩ := grown p hp
        rw [← ep] at e ⊢
        rw [isT p hp] at e
        cases e
        exact .inr (.inl ⟨((heads p hp).tab (isT p hp)).isCodeTable, rfl, #[], more, rfl, by rw [Array.empty_append]; exact hm⟩)
      · exact .inl (rest b o hb e)
    · by_cases hb : b ∈ cs.map (·.2)
      · obtain ⟨p, hp, ep⟩ := List.mem_map.mp hb
        obtain ⟨more, hm⟩ := grown p hp
        rw [← ep]
        exact ⟨_, hm⟩
      · exact ⟨o, rest b o hb e⟩
  | .ok .next, z => exact z.elim
  | .ok .brk, z => exact z.elim
  | .ok .cont, z => exact z.elim
  | .error _, z => exact z.elim
end
/-- what the head's heap h tells of the law's promise, with tables -/
def LawT (l : PySem.W.OpenLaw) (w : World) (K : PySem.W.Frag) (k n : Nat) (x : Str) (mg : Str → Option Value) (fa : Addr) (h : Heap) : Prop :=
  ∃ (fd : FuncData) (cs : List (Addr × Addr)) (sp : Sp), (∀ p ∈ cs, h.get? p.2 = some { cls := .none, data := .fields #[] }) ∧ (∀ p ∈ cs, K.lookup p.2 = none) ∧ (∀ p ∈ cs, PySem.W.CodeHd h p.1 p.2) ∧ (∀ (s : Shared) (u : Value), BindsTo s fd ⟨[u], []⟩ [(x, u)]) ∧
    (∀ (H : Hp) (a : Addr) (ns : List Int), ns.length ≤ n → (∀ p ∈ cs, H p.2 = some (.tbl #[])) → SqL K H a (ns.map V.int) → sp [.ref a] H (fun v _ => v = .bl true) fun _ _ _ => False) ∧
    ∀ base : Heap, K.In base → base.Ns mainGlobals mg → (∀ p ∈ cs, TabB base mg p.1 p.2) → GOk l.prog w K mg base CX0 k fa fd [x] sp
theorem walk_ofGT {l : PySem.W.OpenLaw} {n k : Nat} {q : Program} {loose : List Str} {XP : (Str → Option Value) → Heap → Prop} {YP : World → Heap → Prop} {d : DefRec} {K : Params → PySem.W.Frag} {x : Str}
    (hn : l.most = some n) (hn2 : n ≤ sizeLine) (hdf : d.params.defaults = []) (room : Room k callerA) (hY : ∀ (w : World) (h : Heap), YP w h → (K w.params).In h)
    (F : ∀ (w : World) (mg : Str → Option Value) (fa : Addr) (h : Heap), YP w h → (K w.params).In h → h.Ns mainGlobals mg → mg d.name = some (.ref fa) → LawT l w (K w.params) k n x mg fa h) :
    PySem.W.WalkO q loose XP YP l.row.toRowW d [] (fun f vs => PySem.call f vs) := by
  refine Att.attach_call hn hdf fun w s0 s1 mg mb fa o pm cd doc a vs ns G Y _ _ _ named obj isI len none_run => ?_
  obtain ⟨fd, cs, sp, isT, offK, heads, bnd, want, ok⟩ := F w mg fa _ Y (hY w _ Y) G.T.g named
  exact tab_call (hY w _ Y) G.T.g G.T.b G.T.builtins G.T.nolimit none_run G.T.bmain isT offK heads obj isI (Nat.le_trans len hn2) room ok bnd fun H hH hS => want H a ns len hH hS
/-- the same, where the def of the name y is known to have an empty table when the law is called -/
theorem walk_ofGTab {l : PySem.W.OpenLaw} {n k : Nat} {q : Program} {loose : List Str} {XP : (Str → Option Value) → Heap → Prop} {YP : World → Heap → Prop} {d : DefRec} {K : Params → PySem.W.Frag} {x y : Str}
    (hn : l.most = some n) (hn2 : n ≤ sizeLine) (hdf : d.params.defaults = []) (room : Room k callerA) (hrec : ((recsOf q).any fun e => e.name == y) = true) (hY : ∀ (w : World) (h : Heap), YP w h → (K w.params).In h)
    (F : ∀ (w : World) (mg : Str → Option Value) (fa : Addr) (h : Heap), YP w h → (K w.params).In h → h.Ns mainGlobals mg → mg d.name = some (.ref fa) → (∀ f : Addr, mg y = some (.ref f) → OwnTab (K w.params) f h) → LawT l w (K w.params) k n x mg fa h) :
    PySem.W.WalkO q loose XP YP l.row.toRowW d [] (fun f vs => PySem.call f vs) := by
  refine Att.attach_call hn hdf fun w s0 s1 mg mb fa o pm cd doc a vs ns G Y _ _ _ named obj isI len none_run => ?_
  have KX := hY w _ Y
  have own : ∀ f : Addr, mg y = some (.ref f) → OwnTab (K w.params) f s1.heap := fun f hf c P of fd e dd us sl kf kd kc ko kP => by
    obtain ⟨r, hr, en⟩ := List.any_eq_true.mp hrec
    obtain ⟨f', of', fd', c', P', m1, m2, m3, m4, _, m6⟩ := G.T.tab r hr
    rw [beq_iff_eq.mp en, hf] at m1
    cases m1
    have g1 := (KX _ _ kf).symm.trans m2
    cases g1
    have g2 := kd.symm.trans m3
    cases g2
    have g3 := kc.symm.trans m4
    cases g3
    obtain ⟨⟨oc, vc, e1, _, e3, e4⟩, empty⟩ := m6
    have g4 := (KX _ _ ko).symm.trans e1
    cases g4
    cases e3
    have g5 := kP.symm.trans e4
    cases g5
    exact empty
  obtain ⟨fd, cs, sp, isT, offK, heads, bnd, want, ok⟩ := F w mg fa _ Y KX G.T.g named own
  exact tab_call KX G.T.g G.T.b G.T.builtins G.T.nolimit none_run G.T.bmain isT offK heads obj isI (Nat.le_trans len hn2) room ok bnd fun H hH hS => want H a ns len hH hS
end L2

end
section
set_option maxRecDepth 100000
namespace Hue
open PySem PySem.Spec PyProof.Rows L2
/-! ### heaps -/
theorem same_new {H : Hp} {p : Addr} {o : HO} (h : H p = Option.none) : Same H (upd H p o) := fun b u e => by
  rw [upd_ne (ne_of_none e h)]; exact e
theorem same_upd {H0 H : Hp} {p : Addr} {o : HO} (s : Same H0 H) (h : H0 p = Option.none) : Same H0 (upd H p o) := fun b u e => by
  rw [upd_ne (ne_of_none e h)]; exact s b u e
theorem same_then {H0 H : Hp} {p : Addr} {o : HO} (s : Same H0 H) (h : H p = Option.none) : Same H0 (upd H p o) := s.trans (same_new h)
theorem Same.tup {K : PySem.W.Frag} {H H' : Hp} {a : Addr} {xs : List V} (e : Same H H') (h : SqT K H a xs) : SqT K H' a xs := by
  rcases h with (h | ⟨o, h⟩) | h
  · exact .inl (.inl (e _ _ h))
  · exact .inl (.inr ⟨o, e _ _ h⟩)
  · exact .inr h
theorem ifT {c : Bool} {A B : Prop} (hc : c = true) (h : A) : if c = true then A else B := by rw [if_pos hc]; exact h
theorem ifF {c : Bool} {A B : Prop} (hc : c = false) (h : B) : if c = true then A else B := by rw [hc, if_neg Bool.false_ne_true]; exact h
theorem yesT {σ : L2.St} {H : Hp} {X Y : Hp → Prop} (h : X H) : tYes σ H (fun b H3 => if b = true then X H3 else Y H3) := h
/-! ### lists of numbers -/
def nI (l : List Nat) : List Int := l.map fun k : Nat => (k : Int)
def nL (l : List Nat) : List V := (nI l).map V.int
theorem nL_get {l : List Nat} {i k : Nat} (h : l[i]? = some k) : (nL l)[i]? = some (V.int (k : Int)) := by
  unfold nL nI; simp [List.getElem?_map, h]
theorem nL_len (l : List Nat) : (nL l).length = l.length := by unfold nL nI; simp
theorem nI_len (l : List Nat) : (nI l).length = l.length := by unfold nI; simp
theorem mem_nI {l : List Nat} {z : Int} : z ∈ nI l ↔ ∃ k, k ∈ l ∧ (k : Int) = z := by unfold nI; simp
theorem nL_app (a b : List Nat) : nL (a ++ b) = nL a ++ nL b := by unfold nL nI; simp
theorem nL_one (k : Nat) : nL [k] = [V.int (k : Int)] := rfl
theorem asc_ext : ∀ {a b : List Int}, a.Pairwise (· < ·) → b.Pairwise (· < ·) → (∀ k, k ∈ a ↔ k ∈ b) → a = b
  | [], [], _, _, _ => rfl
  | [], y :: b, _, _, h => absurd ((h y).mpr List.mem_cons_self) List.not_mem_nil
  | x :: a, [], _, _, h => absurd ((h x).mp List.mem_cons_self) List.not_mem_nil
  | x :: a, y :: b, ha, hb, h => by
    rw [List.pairwise_cons] at ha hb
    have exy : x = y := by
      rcases List.mem_cons.mp ((h x).mp List.mem_cons_self) with e | e
      · exact e
      · rcases List.mem_cons.mp ((h y).mpr List.mem_cons_self) with f | f
        · exact f.symm
        · have h1 := hb.1 x e
          have h2 := ha.1 y f
          omega
    subst exy
    rw [asc_ext ha.2 hb.2 fun k => ⟨fun hk => ?_, fun hk => ?_⟩]
    · rcases List.mem_cons.mp ((h k).mp (List.mem_cons_of_mem _ hk)) with e | e
      · have := ha.1 k hk; omega
      · exact e
    · rcases List.mem_cons.mp ((h k).mpr (List.mem_cons_of_mem _ hk)) with e | e
      · have := hb.1 k hk; omega
      · exact e
/-! ### relations on lamps -/
abbrev Rel := Nat → Nat → Bool
def Bel (n : Nat) (R : Rel) (i : Nat) : List Nat := (List.range n).filter fun j => R i j
theorem mem_Bel {n : Nat} {R : Rel} {i j : Nat} : j ∈ Bel n R i ↔ j < n ∧ R i j = true := by unfold Bel; simp
theorem Bel_asc (n : Nat) (R : Rel) (i : Nat) : (nI (Bel n R i)).Pairwise (· < ·) := by
  unfold nI
  rw [List.pairwise_map]
  have h : (List.range n).Pairwise (· < ·) := List.pairwise_lt_range
  refine List.Pairwise.imp ?_ (List.Pairwise.filter _ h)
  intro a b hab; omega
theorem Bel_len (n : Nat) (R : Rel) (i : Nat) : (Bel n R i).length ≤ n := by
  unfold Bel
  refine Nat.le_trans (List.length_filter_le ..) ?_
  rw [List.length_range]; exact Nat.le_refl _
theorem Bel_congr {n : Nat} {R S : Rel} {i : Nat} (h : ∀ j, j < n → R i j = S i j) : Bel n R i = Bel n S i := by
  unfold Bel
  refine List.filter_congr fun j hj => ?_
  exact h j (List.mem_range.mp hj)
def addW (R : Rel) (u l : Nat) : Rel := fun i j => R i j || ((i == u || R i u) && (j == l || R l j))
/-- at b: a list of lists of numbers -/
def Rows (H : Hp) (b : Addr) (rows : List (List Nat)) : Prop :=
  ∃ as : List Addr, H b = some (.lst (as.map V.ref)) ∧ as.length = rows.length ∧ ∀ (i : Nat) a r, as[i]? = some a → rows[i]? = some r → H a = some (.lst (nL r))
theorem Rows.same {H H' : Hp} {b : Addr} {rows : List (List Nat)} (h : Rows H b rows) (s : Same H H') : Rows H' b rows := by
  obtain ⟨as, h1, h2, h3⟩ := h
  exact ⟨as, s _ _ h1, h2, fun i a r ha hr => s _ _ (h3 i a r ha hr)⟩
/-- the row at i, as Python reads it -/
theorem Rows.at {H : Hp} {b : Addr} {rows : List (List Nat)} (h : Rows H b rows) {i : Nat} {r : List Nat} (hr : rows[i]? = some r) : ∃ xs a, H b = some (.lst xs) ∧ xs.length = rows.length ∧ xs[i]? = some (V.ref a) ∧ H a = some (.lst (nL r)) := by
  obtain ⟨as, h1, h2, h3⟩ := h
  have hi : i < as.length := by rw [h2]; exact (List.getElem?_eq_some_iff.mp hr).1
  refine ⟨_, as[i], h1, by rw [List.length_map, h2], by rw [List.getElem?_map, List.getElem?_eq_getElem hi]; rfl, h3 i _ r (List.getElem?_eq_getElem hi) hr⟩
def relRows (n : Nat) (R : Rel) : List (List Nat) := (List.range n).map (Bel n R)
theorem relRows_at {n : Nat} {R : Rel} {i : Nat} (h : i < n) : (relRows n R)[i]? = some (Bel n R i) := by
  unfold relRows; rw [List.getElem?_map, List.getElem?_range h]; rfl
theorem relRows_len (n : Nat) (R : Rel) : (relRows n R).length = n := by unfold relRows; simp
theorem flat_nL (l : List Nat) : (nL l).all flatV = true := by
  unfold nL; rw [List.all_eq_true]; intro x hx
  obtain ⟨z, _, rfl⟩ := List.mem_map.mp hx
  rfl
theorem in_nL {k : Nat} {l : List Nat} : inV (V.int (k : Int)) (nL l) = decide (k ∈ l) := by
  unfold inV nL nI
  rw [Bool.eq_iff_iff, List.any_eq_true, decide_eq_true_eq]
  constructor
  · rintro ⟨x, hx, e⟩
    obtain ⟨z, hz, rfl⟩ := List.mem_map.mp hx
    obtain ⟨m, hm, rfl⟩ := List.mem_map.mp hz
    have e2 : ((m : Int) == (k : Int)) = true := e
    have e3 : (m : Int) = (k : Int) := by simpa using e2
    have e4 : m = k := by omega
    rw [← e4]; exact hm
  · intro hk
    refine ⟨V.int k, List.mem_map.mpr ⟨k, List.mem_map.mpr ⟨k, hk, rfl⟩, rfl⟩, ?_⟩
    show ((k : Int) == (k : Int)) = true
    simp
theorem Rows.ext {H : Hp} {b e : Addr} {rows : List (List Nat)} {φ : Heap → Prop} {o : HO} (h : Rows H b rows) (he : H e = some (.ext φ)) : Rows (upd H e o) b rows := by
  obtain ⟨as, h1, h2, h3⟩ := h
  refine ⟨as, ?_, h2, fun i a r ha hr => ?_⟩
  · rw [upd_ne (ne_of h1 he (by intro z; cases z))]; exact h1
  · rw [upd_ne (ne_of (h3 i a r ha hr) he (by intro z; cases z))]; exact h3 i a r ha hr
/-- the tuples at ts are the pairs ps -/
def Pairs (H : Hp) (ts : List Addr) (ps : List (Nat × Nat)) : Prop :=
  ts.length = ps.length ∧ ∀ (i : Nat) t p, ts[i]? = some t → ps[i]? = some p → H t = some (.tup [.int (p.1 : Int), .int (p.2 : Int)])
theorem Pairs.same {H H' : Hp} {ts : List Addr} {ps : List (Nat × Nat)} (h : Pairs H ts ps) (s : Same H H') : Pairs H' ts ps := ⟨h.1, fun i t p a b => s _ _ (h.2 i t p a b)⟩
def relOf (ps : List (Nat × Nat)) : Rel := ps.foldl (fun R p => addW R p.1 p.2) fun _ _ => false
theorem relOf_more {ps : List (Nat × Nat)} {i : Nat} {p : Nat × Nat} (h : ps[i]? = some p) : relOf (ps.take (i + 1)) = addW (relOf (ps.take i)) p.1 p.2 := by
  unfold relOf
  rw [List.take_add_one, h, List.foldl_append]
  rfl
/-- along a rank the relation goes up -/
theorem relOf_rank {ρ : Nat → Nat} : ∀ {ps : List (Nat × Nat)}, (∀ p ∈ ps, ρ p.1 < ρ p.2) → ∀ i j, relOf ps i j = true → ρ i < ρ j := by
  have key : ∀ (ps : List (Nat × Nat)) (R : Rel), (∀ i j, R i j = true → ρ i < ρ j) → (∀ p ∈ ps, ρ p.1 < ρ p.2) → ∀ i j, ps.foldl (fun R p => addW R p.1 p.2) R i j = true → ρ i < ρ j := by
    intro ps
    induction ps with
    | nil => intro R hR _; exact hR
    | cons p ps ih =>
      intro R hR hp
      refine ih (addW R p.1 p.2) (fun i j h => ?_) fun q hq => hp q (List.mem_cons_of_mem _ hq)
      have hp0 := hp p List.mem_cons_self
      unfold addW at h
      rw [Bool.or_eq_true, Bool.and_eq_true, Bool.or_eq_true, Bool.or_eq_true, beq_iff_eq, beq_iff_eq] at h
      rcases h with h | ⟨h1, h2⟩
      · exact hR i j h
      · have a1 : ρ i ≤ ρ p.1 := by
          rcases h1 with e | e
          · rw [e]; exact Nat.le_refl _
          · exact Nat.le_of_lt (hR _ _ e)
        have a2 : ρ p.2 ≤ ρ j := by
          rcases h2 with e | e
          · rw [e]; exact Nat.le_refl _
          · exact Nat.le_of_lt (hR _ _ e)
        omega
  intro ps hp i j h
  exact key ps _ (fun i j h => by cases h) hp i j h
theorem mem_take_of {α : Type} {l : List α} {n : Nat} {x : α} (h : x ∈ l.take n) : x ∈ l := List.mem_of_mem_take h
/-! ### lists that a comprehension collects -/
def Coll (H1 : Hp) (D : Addr) (f : Nat → List V) (i : Nat) (H2 : Hp) : Prop :=
  ∃ as : List Addr, H2 D = some (.lst (as.map V.ref)) ∧ as.length = i ∧ Same H1 H2 ∧ ∀ (j : Nat) a, as[j]? = some a → a ≠ D ∧ H2 a = some (.lst (f j))
theorem Coll.start {H1 : Hp} {D : Addr} {f : Nat → List V} (hD : H1 D = Option.none) : Coll H1 D f 0 (upd H1 D (.lst [])) := ⟨[], upd_same, rfl, same_new hD, fun j a e => by simp at e⟩
theorem Coll.more {H1 H2 H3 : Hp} {D a : Addr} {f : Nat → List V} {i : Nat} (c : Coll H1 D f i H2) (hD : H1 D = Option.none) (s : Same H2 H3) (na : a ≠ D) (ha : H3 a = some (.lst (f i))) (hi : i < 1000) :
    ∃ acc, H3 D = some (.lst acc) ∧ acc.length < sizeLine ∧ Coll H1 D f (i + 1) (upd H3 D (.lst (acc ++ [V.ref a]))) := by
  obtain ⟨as, h1, h2, s2, h3⟩ := c
  refine ⟨_, s _ _ h1, by rw [List.length_map, h2, sizeLine_eq]; omega, as ++ [a], by rw [upd_same, List.map_append]; rfl, by rw [List.length_append, h2]; rfl, same_upd (s2.trans s) hD, fun j c2 e => ?_⟩
  rcases Nat.lt_or_ge j as.length with lt | ge
  · rw [List.getElem?_append_left lt] at e
    obtain ⟨n1, n2⟩ := h3 j c2 e
    exact ⟨n1, by rw [upd_ne n1]; exact s _ _ n2⟩
  · rw [List.getElem?_append_right ge] at e
    have j0 : j - as.length = 0 := by
      rcases Nat.eq_zero_or_pos (j - as.length) with z | z
      · exact z
      · rw [List.getElem?_eq_none (by rw [List.length_singleton]; exact z)] at e; cases e
    rw [j0] at e
    cases e
    have ji : j = i := by omega
    rw [ji]
    exact ⟨na, by rw [upd_ne na]; exact ha⟩
theorem Coll.same {H1 H2 : Hp} {D : Addr} {f : Nat → List V} {i : Nat} (c : Coll H1 D f i H2) : Same H1 H2 := let ⟨_, _, _, s, _⟩ := c; s
theorem Coll.rows {H1 H2 : Hp} {D : Addr} {n : Nat} {R : Rel} (c : Coll H1 D (fun j => nL (Bel n R j)) n H2) : Rows H2 D (relRows n R) := by
  obtain ⟨as, h1, h2, _, h3⟩ := c
  refine ⟨as, h1, by rw [h2, relRows_len], fun i a r ha hr => ?_⟩
  have hi : i < n := by rw [← h2]; exact (List.getElem?_eq_some_iff.mp ha).1
  rw [relRows_at hi] at hr
  cases hr
  exact (h3 i a ha).2
/-! ### all but one place as it was -/
def SB (x : Addr) (H H' : Hp) : Prop := ∀ b o, b ≠ x → H b = some o → H' b = some o
theorem SB.of {x : Addr} {H H' : Hp} (s : Same H H') : SB x H H' := fun b o _ e => s b o e
theorem SB.trans {x : Addr} {H H1 H2 : Hp} (a : SB x H H1) (b : SB x H1 H2) : SB x H H2 := fun c o n e => b c o n (a c o n e)
theorem SB.refl (x : Addr) (H : Hp) : SB x H H := fun _ _ _ e => e
theorem SB.upd {x : Addr} {H H1 : Hp} {o : HO} (a : SB x H H1) : SB x H (upd H1 x o) := fun c u n e => by rw [upd_ne n]; exact a c u n e
theorem SB.rows {x b : Addr} {H H' : Hp} {rows : List (List Nat)} {C dx : Addr} {fs : List (Str × V)} (s : SB x H H') (hx : H x = some (.ins C dx fs)) (h : Rows H b rows) : Rows H' b rows := by
  obtain ⟨as, h1, h2, h3⟩ := h
  exact ⟨as, s _ _ (ne_of h1 hx (by intro z; cases z)) h1, h2, fun i a r ha hr => s _ _ (ne_of (h3 i a r ha hr) hx (by intro z; cases z)) (h3 i a r ha hr)⟩
theorem lk_same (f : Str) (v : V) (fs : List (Str × V)) : (putF f v fs).lookup f = some v := by rw [lookup_putF, if_pos rfl]
theorem lk_ne {f g : Str} (v : V) (fs : List (Str × V)) (h : ¬ g = f) : (putF f v fs).lookup g = fs.lookup g := by rw [lookup_putF, if_neg h]
theorem put_few {f : Str} {v : V} {fs : List (Str × V)} {k : Nat} (h : fs.length ≤ k) : (putF f v fs).length ≤ k + 1 := by
  have := length_putF f v fs; omega
/-! ### a def with defaults, all parameters given -/
structure FunV (K : PySem.W.Frag) (x qual : Str) (st : Stmt) (f : Addr) (fd : FuncData) : Prop where
  ex : ∃ (oc : Value) (od : Option Addr) (dV kV doc pm : Value) (an : Option Addr) (cdv ct : Value) (osl : Array (Option Value)),
    fd = PySem.W.fnOf x qual (defArgs st) (defBody st) (defScope st) dV kV doc pm an cdv ct ∧ K.lookup f = some ⟨oc, od, .func fd, osl⟩ ∧ PySem.W.codeIn K cdv qual = true
  kp : PySem.W.keepIn K (.ref f) = true
theorem FunV.ok {P : Program} {w : World} {K : PySem.W.Frag} {mg : Str → Option Value} {base : Heap} {x qual : Str} {st : Stmt} {f : Addr} {fd : FuncData} {N ps : List Str} {k : Nat} {sp : Sp} (F : FunV K x qual st f fd) (S : FnScope N ps (defScope st)) (len : ∀ vs H Q E, sp vs H Q E → vs.length = ps.length)
    (hbody : ∀ (cdv : Value) (A : Around) (outer : List Env) (s : Shared) (H : Hp) (vs : List V) (Q : VK) (E : XK), Room k (A.deeper (envOfC qual (defScope st) s.heap.objs.size f cdv)) → sp vs H Q E →
      ∃ t, PSs (cxOf CX0 P w K mg base N qual (defScope st) f cdv A outer s H E).nox (defBody st) t ∧ t { nx := fun _ H' => Q .non H', rt := Q } (start N vs) H) : FnOk P w K mg base CX0 (k + 1) f fd ps sp := by
  obtain ⟨oc, od, dV, kV, doc, pm, an, cdv, ct, osl, rfl, lk, hcd⟩ := F.ex
  refine fn_of lk hcd S len fun A outer s H vs Q E hr hsp => ?_
  obtain ⟨t, h, q⟩ := hbody cdv A outer s H vs Q E hr hsp
  exact ⟨t, h.nox, q⟩
/-- a store into a list by place -/
theorem set_at {H : Hp} {p : Addr} {xs : List V} {k : Int} {j : Nat} {v : V} {Q : Hp → Prop} (hp : H p = some (.lst xs)) (hk : ixN xs.length k = some j)
    (h : ∀ H', SB p H H' → H' p = some (.lst (xs.set j v)) → Q H') : rSetL (.ref p) (.int k) v H Q := ⟨p, xs, k, j, rfl, rfl, hp, hk, h _ (SB.upd (SB.refl p H)) upd_same⟩
theorem ixN_nat {n k : Nat} (h : k < n) : ixN n (k : Int) = some k := by
  unfold ixN
  rw [if_pos (by omega), if_pos (by omega), Int.toNat_natCast]
theorem SB.to_same {x : Addr} {H0 H H' : Hp} (s : SB x H H') (s0 : Same H0 H) (n : H0 x = Option.none) : Same H0 H' := fun b o e => s b o (fun z => by rw [z, n] at e; cases e) (s0 b o e)
end Hue

end
section
set_option maxRecDepth 100000
namespace Hue
open PySem PySem.Spec PyProof.Rows L2
/-! ### the order list -/
def flip (R : Rel) : Rel := fun i j => R j i
/-- k is the next in turn -/
def nxt (n : Nat) (R : Rel) (ord : List Nat) (k : Nat) : Bool := !decide (k ∈ ord) && (Bel n (flip R) k).all fun j => decide (j ∈ ord)
def cands (n : Nat) (R : Rel) (ord : List Nat) : List Nat := (List.range n).filter (nxt n R ord)
def ordN (n : Nat) (R : Rel) : Nat → List Nat
  | 0 => []
  | k + 1 => ordN n R k ++ (cands n R (ordN n R k)).take 1
def Ranked (R : Rel) : Prop := ∃ ρ : Nat → Nat, ∀ i j, R i j = true → ρ i < ρ j
theorem nxt_iff {n : Nat} {R : Rel} {ord : List Nat} {k : Nat} : nxt n R ord k = true ↔ k ∉ ord ∧ ∀ j, j < n → R j k = true → j ∈ ord := by
  unfold nxt
  rw [Bool.and_eq_true, Bool.not_eq_true', decide_eq_false_iff_not, List.all_eq_true]
  constructor
  · rintro ⟨h1, h2⟩
    exact ⟨h1, fun j hj hr => of_decide_eq_true (h2 j (mem_Bel.mpr ⟨hj, hr⟩))⟩
  · rintro ⟨h1, h2⟩
    exact ⟨h1, fun j hj => decide_eq_true (h2 j (mem_Bel.mp hj).1 (mem_Bel.mp hj).2)⟩
theorem cands_ne {n : Nat} {R : Rel} (hR : Ranked R) {ord : List Nat} (hl : ord.length < n) : ∃ c rest, cands n R ord = c :: rest := by
  obtain ⟨ρ, hρ⟩ := hR
  have least : ∀ m i, i < n → i ∉ ord → ρ i ≤ m → ∃ c, c < n ∧ nxt n R ord c = true := by
    intro m
    induction m with
    | zero =>
      intro i hi hn hm
      refine ⟨i, hi, nxt_iff.mpr ⟨hn, fun j hj hr => ?_⟩⟩
      have := hρ j i hr
      omega
    | succ m ih =>
      intro i hi hn hm
      rcases Classical.em (∃ j, j < n ∧ R j i = true ∧ j ∉ ord) with ⟨j, hj, hr, hjn⟩ | none
      · have := hρ j i hr
        exact ih j hj hjn (by omega)
      · refine ⟨i, hi, nxt_iff.mpr ⟨hn, fun j hj hr => ?_⟩⟩
        rcases Classical.em (j ∈ ord) with h | h
        · exact h
        · exact absurd ⟨j, hj, hr, h⟩ none
  obtain ⟨i, hi, hn⟩ := st_missing ord n hl
  obtain ⟨c, hc, hx⟩ := least (ρ i) i hi hn (Nat.le_refl _)
  cases e : cands n R ord with
  | nil =>
    have : c ∈ cands n R ord := List.mem_filter.mpr ⟨List.mem_range.mpr hc, hx⟩
    rw [e] at this
    cases this
  | cons a rest => exact ⟨a, rest, rfl⟩
theorem cands_asc (n : Nat) (R : Rel) (ord : List Nat) : (cands n R ord).Pairwise (· < ·) := List.Pairwise.filter _ List.pairwise_lt_range
/-- the least of the candidates is the first -/
theorem cands_min {n : Nat} {R : Rel} {ord : List Nat} {c : Nat} {rest : List Nat} (e : cands n R ord = c :: rest) {m : Int} (hm : m ∈ nI (cands n R ord)) (hle : ∀ y, y ∈ nI (cands n R ord) → m ≤ y) : m = (c : Int) := by
  obtain ⟨k, hk, rfl⟩ := mem_nI.mp hm
  have h1 := hle (c : Int) (mem_nI.mpr ⟨c, by rw [e]; exact List.mem_cons_self, rfl⟩)
  have pw := cands_asc n R ord
  rw [e] at hk pw
  rcases List.mem_cons.mp hk with z | z
  · rw [z]
  · have := (List.pairwise_cons.mp pw).1 k z
    omega
theorem ordN_succ {n : Nat} {R : Rel} {k c : Nat} {rest : List Nat} (e : cands n R (ordN n R k) = c :: rest) : ordN n R (k + 1) = ordN n R k ++ [c] := by
  show ordN n R k ++ (cands n R (ordN n R k)).take 1 = _
  rw [e]; rfl
structure OrdOk (n : Nat) (R : Rel) (ord : List Nat) : Prop where
  nd : ord.Nodup
  lt : ∀ i ∈ ord, i < n
  up : ∀ q i, ord[q]? = some i → ∀ j, j < n → R j i = true → j ∈ ord.take q
theorem ordN_ok {n : Nat} {R : Rel} (hR : Ranked R) : ∀ k, k ≤ n → (ordN n R k).length = k ∧ OrdOk n R (ordN n R k)
  | 0, _ => ⟨rfl, ⟨List.nodup_nil, fun i h => absurd h List.not_mem_nil, fun q i h => by simp [ordN] at h⟩⟩
  | k + 1, hk => by
    obtain ⟨l, ok⟩ := ordN_ok hR k (Nat.le_of_succ_le hk)
    obtain ⟨c, rest, e⟩ := cands_ne (n := n) hR (ord := ordN n R k) (by omega)
    have cm : c ∈ cands n R (ordN n R k) := by rw [e]; exact List.mem_cons_self
    obtain ⟨c1, c2⟩ := List.mem_filter.mp cm
    obtain ⟨c3, c4⟩ := nxt_iff.mp c2
    rw [ordN_succ e]
    refine ⟨by rw [List.length_append, l]; rfl, ⟨?_, fun i hi => ?_, fun q i hq j hj hr => ?_⟩⟩
    · rw [List.nodup_append]
      refine ⟨ok.nd, by simp, fun a ha b hb => ?_⟩
      rw [List.mem_singleton.mp hb]
      intro z
      exact c3 (z ▸ ha)
    · rcases List.mem_append.mp hi with h | h
      · exact ok.lt i h
      · rw [List.mem_singleton.mp h]; exact List.mem_range.mp c1
    · rcases Nat.lt_or_ge q (ordN n R k).length with h | h
      · rw [List.getElem?_append_left h] at hq
        rw [List.take_append_of_le_length (Nat.le_of_lt h)]
        exact ok.up q i hq j hj hr
      · rw [List.getElem?_append_right h] at hq
        have q0 : q - (ordN n R k).length = 0 := by
          rcases Nat.eq_zero_or_pos (q - (ordN n R k).length) with z | z
          · exact z
          · rw [List.getElem?_eq_none (by rw [List.length_singleton]; exact z)] at hq; cases hq
        rw [q0] at hq
        cases hq
        have eq : q = (ordN n R k).length := by omega
        rw [eq, List.take_left']
        · exact c4 j hj hr
        · rfl
/-- every lamp stands in it -/
theorem ord_all {n : Nat} {R : Rel} (hR : Ranked R) {i : Nat} (hi : i < n) : i ∈ ordN n R n := by
  obtain ⟨l, ok⟩ := ordN_ok hR n (Nat.le_refl _)
  rcases Classical.em (i ∈ ordN n R n) with h | h
  · exact h
  · exfalso
    have := nat_nodup_len (i :: ordN n R n) (List.range n) (List.nodup_cons.mpr ⟨h, ok.nd⟩) fun x hx => by
      rcases List.mem_cons.mp hx with z | z
      · rw [z]; exact List.mem_range.mpr hi
      · exact List.mem_range.mpr (ok.lt x z)
    rw [List.length_cons, l, List.length_range] at this
    omega
theorem relOf_ranked {ps : List (Nat × Nat)} {ρ : Nat → Nat} (h : ∀ p ∈ ps, ρ p.1 < ρ p.2) : Ranked (relOf ps) := ⟨ρ, relOf_rank h⟩
/-! ### the relation goes on -/
def Trans (R : Rel) : Prop := ∀ i j k, R i j = true → R j k = true → R i k = true
theorem addW_iff {R : Rel} {u l i j : Nat} : addW R u l i j = true ↔ R i j = true ∨ ((i = u ∨ R i u = true) ∧ (j = l ∨ R l j = true)) := by
  unfold addW
  rw [Bool.or_eq_true, Bool.and_eq_true, Bool.or_eq_true, Bool.or_eq_true, beq_iff_eq, beq_iff_eq]
theorem addW_trans {R : Rel} (hR : Trans R) (u l : Nat) : Trans (addW R u l) := by
  intro i j k h1 h2
  rw [addW_iff] at h1 h2 ⊢
  rcases h1 with h1 | ⟨a1, a2⟩ <;> rcases h2 with h2 | ⟨b1, b2⟩
  · exact .inl (hR i j k h1 h2)
  · refine .inr ⟨.inr ?_, b2⟩
    rcases b1 with e | e
    · rw [← e]; exact h1
    · exact hR _ _ _ h1 e
  · refine .inr ⟨a1, .inr ?_⟩
    rcases a2 with e | e
    · rw [← e]; exact h2
    · exact hR _ _ _ e h2
  · exact .inr ⟨a1, b2⟩
theorem relOf_trans : ∀ (ps : List (Nat × Nat)), Trans (relOf ps) := by
  have key : ∀ (ps : List (Nat × Nat)) (R : Rel), Trans R → Trans (ps.foldl (fun R p => addW R p.1 p.2) R) := by
    intro ps
    induction ps with
    | nil => intro R h; exact h
    | cons p ps ih => intro R h; exact ih _ (addW_trans h p.1 p.2)
  intro ps
  exact key ps _ fun i j k h => by cases h
/-! ### states -/
abbrev stV (S : List Int) : List V := S.map V.int
def at_ (S : List Int) (k : Nat) : Int := S.getD k 0
theorem stV_get {S : List Int} {k : Nat} (h : k < S.length) : (stV S)[k]? = some (V.int (at_ S k)) := by
  unfold stV at_
  rw [List.getElem?_map, List.getElem?_eq_getElem h, List.getD_eq_getElem?_getD, List.getElem?_eq_getElem h]
  rfl
def StOk (n h : Nat) (S : List Int) : Prop := S.length = n ∧ ∀ z ∈ S, 0 ≤ z ∧ z < (h : Int)
theorem StOk.at {n h : Nat} {S : List Int} (s : StOk n h S) {k : Nat} (hk : k < n) : 0 ≤ at_ S k ∧ at_ S k < (h : Int) := by
  have hl : k < S.length := by rw [s.1]; exact hk
  unfold at_
  rw [List.getD_eq_getElem?_getD, List.getElem?_eq_getElem hl]
  exact s.2 _ (List.getElem_mem hl)
/-- T is reachable from S: every topmost difference goes down -/
def Reach (n : Nat) (R : Rel) (S T : List Int) : Prop := ∀ k, k < n → at_ S k ≠ at_ T k → (∀ u, u < n → R u k = true → at_ S u = at_ T u) → at_ T k < at_ S k
theorem rgV_nL (n : Nat) : rgV 0 (n : Int) = nL (List.range n) := by
  unfold rgV nL nI
  simp
theorem rgOk (n : Nat) (h : n ≤ 1000) : RgOk 0 (n : Int) := by
  unfold RgOk
  exact ⟨by omega, by omega, by omega, by omega, by omega⟩
theorem nL_erase (l : List Nat) (j : Nat) : (nL l).eraseIdx j = nL (l.eraseIdx j) := by
  unfold nL nI
  rw [List.map_map, List.map_map]
  induction l generalizing j with
  | nil => rfl
  | cons a l ih =>
    cases j with
    | zero => rfl
    | succ j => show _ :: _ = _ :: _; exact congrArg _ (ih j)
/-! ### the relation by its last wire -/
theorem fold_mono : ∀ (ps : List (Nat × Nat)) (R : Rel) (i j : Nat), R i j = true → ps.foldl (fun R p => addW R p.1 p.2) R i j = true
  | [], _, _, _, h => h
  | p :: ps, R, i, j, h => fold_mono ps _ i j (addW_iff.mpr (.inl h))
theorem fold_wire : ∀ (ps : List (Nat × Nat)) (R : Rel) (p : Nat × Nat), p ∈ ps → ps.foldl (fun R p => addW R p.1 p.2) R p.1 p.2 = true
  | [], _, _, h => by cases h
  | q :: ps, R, p, h => by
    rcases List.mem_cons.mp h with e | h
    · rw [e]
      exact fold_mono ps _ _ _ (addW_iff.mpr (.inr ⟨.inl rfl, .inl rfl⟩))
    · exact fold_wire ps _ p h
theorem rel_last {ps : List (Nat × Nat)} {j i : Nat} : relOf ps j i = true ↔ ∃ u, (u, i) ∈ ps ∧ (j = u ∨ relOf ps j u = true) := by
  have key : ∀ (ps qs : List (Nat × Nat)) (R : Rel), (∀ j i, R j i = true → ∃ u, (u, i) ∈ qs ∧ (j = u ∨ R j u = true)) →
      ∀ j i, ps.foldl (fun R p => addW R p.1 p.2) R j i = true → ∃ u, (u, i) ∈ qs ++ ps ∧ (j = u ∨ ps.foldl (fun R p => addW R p.1 p.2) R j u = true) := by
    intro ps
    induction ps with
    | nil =>
      intro qs R h j i hr
      rw [List.append_nil]
      exact h j i hr
    | cons p ps ih =>
      intro qs R h j i hr
      have z := ih (qs ++ [p]) (addW R p.1 p.2) (fun j i h2 => ?_) j i hr
      · rw [List.append_assoc] at z
        exact z
      · rcases addW_iff.mp h2 with h3 | ⟨h3, h4⟩
        · obtain ⟨u, hu, e⟩ := h j i h3
          exact ⟨u, List.mem_append_left _ hu, e.imp id fun z => addW_iff.mpr (.inl z)⟩
        · rcases h4 with e | e
          · refine ⟨p.1, List.mem_append_right _ (by rw [e]; exact List.mem_cons_self), ?_⟩
            exact h3.imp id fun z => addW_iff.mpr (.inl z)
          · obtain ⟨u, hu, e2⟩ := h p.2 i e
            refine ⟨u, List.mem_append_left _ hu, .inr (addW_iff.mpr (.inr ⟨h3, ?_⟩))⟩
            exact e2.imp Eq.symm id
  constructor
  · intro h
    have z := key ps [] (fun _ _ => false) (fun j i h => by cases h) j i h
    rw [List.nil_append] at z
    exact z
  · rintro ⟨u, hu, e⟩
    have w : relOf ps u i = true := fold_wire ps _ (u, i) hu
    rcases e with e | e
    · rw [e]; exact w
    · exact relOf_trans ps _ _ _ e w
end Hue

end
section
set_option maxRecDepth 100000
namespace L2
open PySem PySem.Spec PyProof.Rows
/-! ### states by == and != -/
section
variable {X : Cx}
theorem hu_eqD (K : PySem.W.Frag) (hu : X.A.units + 64 < cLine) (hK : X.K = K := by rfl) : OpR X (compareOp .Eq) (rEqD K) := by subst hK; exact op_eqD hu
theorem hu_neD (K : PySem.W.Frag) (hu : X.A.units + 64 < cLine) (hK : X.K = K := by rfl) : OpR X (compareOp .NotEq) (rNeD K) := by subst hK; exact op_neD hu
end
end L2
namespace Hue
open PySem PySem.Spec PyProof.Rows L2
/-- a state as plain data -/
def stD (S : List Int) : PyData := .tuple (S.map .int)
theorem ints_dp {K : PySem.W.Frag} {H : Hp} : ∀ S : List Int, DpAll K H (stV S) (S.map .int)
  | [] => .nil
  | z :: S => .cons (.int z) (ints_dp S)
theorem st_dp {K : PySem.W.Frag} {H : Hp} {a : Addr} {S : List Int} (h : H a = some (.tup (stV S))) : Dp K H (.ref a) (stD S) := .tup (SqT.of h) (ints_dp S)
theorem ints_lay : ∀ S : List Int, PyData.canLayAll0 (S.map .int) = true
  | [] => by simp [PyData.canLayAll0]
  | z :: S => by simp [PyData.canLayAll0, PyData.canLay0, ints_lay S]
theorem ints_deep : ∀ S : List Int, PyData.depthAll (S.map .int) ≤ 1
  | [] => by simp [PyData.depthAll]
  | z :: S => by
    have := ints_deep S
    simp only [List.map_cons, PyData.depthAll, PyData.depth]
    omega
theorem st_shaped (S : List Int) : SeqAt.shaped (stD S) = true := by
  have h1 := ints_deep S
  have h2 : PyData.depth (stD S) ≤ 64 := by
    simp only [stD, PyData.depth]
    omega
  show (PyData.canLay0 (stD S) && decide (PyData.depth (stD S) ≤ 64)) = true
  rw [decide_eq_true h2, Bool.and_true]
  show PyData.canLay0 (.tuple (S.map .int)) = true
  simp only [PyData.canLay0]
  exact ints_lay S
theorem ints_eqv : ∀ S T : List Int, PyData.eqvAll (S.map .int) (T.map .int) = decide (S = T)
  | [], [] => by simp [PyData.eqvAll]
  | [], _ :: _ => by simp [PyData.eqvAll]
  | _ :: _, [] => by simp [PyData.eqvAll]
  | z :: S, y :: T => by
    simp only [List.map_cons, PyData.eqvAll, PyData.eqv, ints_eqv S T]
    by_cases e : z = y
    · by_cases e2 : S = T
      · simp [e, e2]
      · simp [e, e2]
    · simp [e]
theorem st_eqv (S T : List Int) : PyData.eqv (stD S) (stD T) = decide (S = T) := by
  simp only [stD, PyData.eqv]
  exact ints_eqv S T
end Hue

end
section
set_option maxRecDepth 100000
set_option maxHeartbeats 4000000
namespace L2
open PySem PySem.Spec PyProof.Rows
/-! ### repr of plain data is text of true characters -/
def SOk (x : Str) : Prop := PyData.strOk x = true
theorem SOk.app {a b : Str} (ha : SOk a) (hb : SOk b) : SOk (a ++ b) := by
  unfold SOk PyData.strOk at *
  show (a.cps ++ b.cps).all _ = true
  rw [Array.all_append, ha, hb]
  rfl
theorem SOk.of (s : String) : SOk (Str.ofString s) := by
  unfold SOk PyData.strOk
  rw [Str.ofString_eq_toList]
  rw [Array.all_eq_true']
  intro x hx
  have hx2 : x ∈ s.toList.map Char.toNat := by simpa using hx
  obtain ⟨c, _, rfl⟩ := List.mem_map.mp hx2
  refine decide_eq_true ?_
  have v := c.valid
  have e : c.toNat = c.val.toNat := rfl
  rw [e]
  rcases v with v | ⟨_, v⟩
  · omega
  · exact v
theorem SOk.join {y : Str} (hy : SOk y) : ∀ {ts : List Str}, (∀ t ∈ ts, SOk t) → SOk (Str.join y ts)
  | [], _ => SOk.of ""
  | [t], h => h t List.mem_cons_self
  | t :: u :: r, h => by
    have z := SOk.join hy (ts := u :: r) fun v hv => h v (List.mem_cons_of_mem _ hv)
    show SOk (t ++ y ++ Str.join y (u :: r))
    exact ((h t List.mem_cons_self).app hy).app z
theorem SOk.from_ : ∀ {ts : List Str} {k : Nat} {acc : Str}, SOk acc → (∀ t ∈ ts, SOk t) → SOk (textFrom k acc ts)
  | [], _, _, a, _ => a
  | t :: r, k, acc, a, h => by
    show SOk (textFrom (k + 1) (acc ++ (if k > 0 then ", " else "" : String) ++ t) r)
    exact SOk.from_ ((a.app (SOk.of _)).app (h t List.mem_cons_self)) fun u hu => h u (List.mem_cons_of_mem _ hu)
theorem SOk.all {ds : List PyData} (h : ∀ d ∈ ds, SOk d.shown) : ∀ t ∈ PyData.shownAll ds, SOk t := by
  induction ds with
  | nil => intro t ht; simp [PyData.shownAll] at ht
  | cons d ds ih =>
    intro t ht
    simp only [PyData.shownAll, List.mem_cons] at ht
    rcases ht with e | ht
    · rw [e]; exact h d List.mem_cons_self
    · exact ih (fun e he => h e (List.mem_cons_of_mem _ he)) t ht
theorem SOk.lst {ds : List PyData} (h : ∀ d ∈ ds, SOk d.shown) : SOk (PyData.list ds).shown := by
  rw [show (PyData.list ds).shown = listText (PyData.shownAll ds) by simp only [PyData.shown]]
  exact (SOk.from_ (SOk.of "[") (SOk.all h)).app (SOk.of "]")
theorem SOk.tup {ds : List PyData} (h : ∀ d ∈ ds, SOk d.shown) : SOk (PyData.tuple ds).shown := by
  rw [show (PyData.tuple ds).shown = tupleText (PyData.shownAll ds) by simp only [PyData.shown]]
  exact ((SOk.of "(").app (SOk.join (SOk.of ", ") (SOk.all h))).app (SOk.of _)
theorem SOk.int (i : Int) : SOk (PyData.int i).shown := by
  rw [show (PyData.int i).shown = Str.ofString (toString i) by simp only [PyData.shown]]
  exact SOk.of _
theorem SOk.bool (b : Bool) : SOk (PyData.bool b).shown := by unfold SOk; cases b <;> decide +kernel
theorem SOk.non : SOk PyData.none.shown := by unfold SOk; decide +kernel
theorem SOk.ints (S : List Int) : ∀ d ∈ S.map PyData.int, SOk d.shown := fun d hd => by
  obtain ⟨i, _, rfl⟩ := List.mem_map.mp hd
  exact SOk.int i
end L2

end
section
set_option maxRecDepth 100000
set_option maxHeartbeats 4000000
namespace L2
open PySem PySem.Spec PyProof.Rows
/-- what is read of a list by place, within xs[i] += e -/
theorem get_list {X : Cx} {K : PySem.W.Frag} (hK : X.K = K := by rfl) : PGet X (rIxL K) := by
  subst hK
  intro pins s σ H x y v u Q I rx ry h
  obtain ⟨p, xs, i, z, rfl, rfl, hq, he, q⟩ := h
  cases rx
  obtain ⟨t, rfl⟩ := ry
  obtain ⟨its, r, pl, hz⟩ := I.list hq
  obtain ⟨j, h1, h2, h3, h4, h5⟩ := atI_get he
  obtain ⟨w, ew, rw'⟩ := r.get h2
  have hl := r.length
  have hn := line63
  have fin : EP X pins σ Q w s := ⟨z, H, I, rw', q⟩
  by_cases h0 : 0 ≤ i
  · have hj : i.toNat = j := by
      rw [seqIndex_of h0 h5] at h1
      exact Option.some.inj h1
    exact wpAny_getItem_list pl.isList h0 (by omega) (by rw [hj]; simpa using ew) fin
  · have hj : (i + (its.toArray.size : Int)).toNat = j := by
      rw [seqIndex_neg (by omega) h4] at h1
      rw [List.size_toArray, ← hl]
      exact Option.some.inj h1
    exact wpAny_getItem_list_neg pl.isList (by omega) (by rw [List.size_toArray] <;> omega) (by omega) (by rw [hj]; simpa using ew) fin
theorem isiT_ {X : Cx} (K : PySem.W.Frag) (hK : X.K = K := by rfl) : CallR X (.builtin "isinstance") (rIsiT K) := by subst hK; exact call_isiT
theorem putK_len {κ : Type} [DecidableEq κ] (kvs : List (κ × V)) (k : κ) (v : V) : (putK kvs k v).length ≤ kvs.length + 1 := by
  unfold putK
  split
  · rw [List.length_map]; omega
  · rw [List.length_append]; exact Nat.le_refl _
end L2

end
section
set_option maxRecDepth 100000
set_option maxHeartbeats 4000000
namespace L2
open PySem PySem.Spec PyProof.Rows
/-- {key: value for x in list}, the list stays -/
theorem dc_list {K : PySem.W.Frag} {a : Addr} {xs : List V} {g : TG} {tt : TT} {tk tv : TE} {vs : List Nat} {σ : St} {H1 : Hp} {D : Addr} {Qd : Hp → Prop} (Pv : Nat → Hp → Prop) (h0 : Pv 0 (upd H1 D (.dK []))) (hl : ∀ i H, i ≤ xs.length → Pv i H → SqL K H a xs)
    (hs : ∀ i x H, xs[i]? = some x → Pv i H → g x (wipe σ vs) H fun σ2 H2 => wipe σ2 vs = wipe σ vs ∧ tt σ2 H2 fun b H3 =>
      if b = true then tk σ2 H3 fun y H4 => tv σ2 H4 fun z H5 => ∃ kvs k, y = kV k ∧ H5 D = some (.dK kvs) ∧ kvs.length < sizeLine ∧ Pv (i + 1) (upd H5 D (.dK (putK kvs k z))) else Pv (i + 1) H3) (hd : ∀ H, Pv xs.length H → Qd H) :
    ∃ W : Nat → Nat → Hp → Prop, (∃ m, W 0 m (upd H1 D (.dK []))) ∧ ∀ i m H, W i m H →
      ((Itl K a).stop i H ∧ Qd H) ∨ ((Itl K a).go i H ∧ ∃ Nx : Hp → Prop, (∀ H', Nx H' → ∃ m', m' < m ∧ W (i + 1) m' H') ∧ ∀ x H', (Itl K a).yld i H x H' → g x (wipe σ vs) H' fun σ2 H2 => wipe σ2 vs = wipe σ vs ∧ tt σ2 H2 fun b H3 =>
        if b = true then tk σ2 H3 fun y H4 => tv σ2 H4 fun z H5 => ∃ kvs k, y = kV k ∧ H5 D = some (.dK kvs) ∧ kvs.length < sizeLine ∧ Nx (upd H5 D (.dK (putK kvs k z))) else Nx H3) := by
  refine ⟨fun i m H => m = xs.length - i ∧ i ≤ xs.length ∧ Pv i H, ⟨xs.length, by simp, Nat.zero_le _, h0⟩, ?_⟩
  rintro i m H ⟨rfl, hi, p⟩
  have q := hl i H hi p
  by_cases hlt : i < xs.length
  · refine .inr ⟨⟨xs, xs[i], q, by simp [hlt]⟩, Pv (i + 1), fun H' p' => ⟨xs.length - (i + 1), by omega, rfl, hlt, p'⟩, fun x H' y => ?_⟩
    obtain ⟨e, y⟩ := y
    subst e
    exact hs i x _ (y xs q) p
  · have e : i = xs.length := by omega
    subst e
    exact .inl ⟨⟨xs, q, Nat.le_refl _⟩, hd H p⟩
section
variable {X : Cx}
/-- y = {key: value for ..} -/
theorem ps_setDc {i : Nat} {y : Str} {py : Pos} {kx vx tg iter : Expr} {ifs : List Expr} {scope : Scope} {own : List (Str × Nat)} {pos spos : Pos} {wi : TI} {g : TG} {tt : TT} {tk tv : TE} (hc : X.calm = true) (hN : X.N.Nodup) (hy : X.N[i]? = some y) (hyl : X.env.scope.names.lookup y = some .local)
    (hsw : swapsWith (.DictComp kx vx [⟨tg, iter, ifs, 0⟩] scope pos) (some (.Name y py)) spos.line X.env = pure true) (hi : PI X tg iter wi) (ok : BlkOk X.N X.env.scope scope own)
    (hg : ∀ (s : Shared) (H : Hp) (C : Addr) (cl : List (Str × Addr)) (fp : List Addr), PG (X.blk s H scope (compEnvC scope cl C X.env) fp) tg g) (ht : ∀ (s : Shared) (H : Hp) (C : Addr) (cl : List (Str × Addr)) (fp : List Addr), PTs (X.blk s H scope (compEnvC scope cl C X.env) fp) ifs tt)
    (hk : ∀ (s : Shared) (H : Hp) (C : Addr) (cl : List (Str × Addr)) (fp : List Addr), PE (X.blk s H scope (compEnvC scope cl C X.env) fp) kx tk)
    (he : ∀ (s : Shared) (H : Hp) (C : Addr) (cl : List (Str × Addr)) (fp : List Addr), PE (X.blk s H scope (compEnvC scope cl C X.env) fp) vx tv) (hs : ∀ x, foldedSetIterable iter X.env x = pure x := by intro _; rfl) :
    PS X (.Assign [.Name y py] (.DictComp kx vx [⟨tg, iter, ifs, 0⟩] scope pos) spos) (tAsg (tDc wi g tt tk tv (own.map (·.2))) (gName i)) := by
  refine ⟨fun pins s σ H D I h => ?_⟩
  rw [exec_Assign_Name_used _ _ _ _ hsw]
  refine wpAny_bind (wpAny_standAt (wpAny_bind ?_))
  show wpAny _ X.A (do let _ ← comprehension (.DictComp kx vx [⟨tg, iter, ifs, 0⟩] scope pos) scope X.env (firstIterPos [⟨tg, iter, ifs, 0⟩] pos) newDict false (eval iter X.env) (some (assign (.Name y py) X.env))) _ _ s
  have h : tDc wi g tt tk tv (own.map (·.2)) σ H (fun x H1 => gName i x σ H1 D.nx) := h
  refine wpAny_bind (thn (dc_core (Qf := fun _ s' => SP X pins D .next s') hc hN I hi ok hg ht hk he hs h fun L C s' m H' I' q hn f => ?_) fun _ s' hq => wpAny_pure (wpAny_pure hq))
  show wpAny _ _ (assign (.Name y py) X.env (.ref L)) _ _ _
  refine wpAny_assign_Name (store_ok2 (v := V.ref L) I' hN hy (.inl hyl) rfl (fun s2 I2 ⟨a, sb, ha⟩ => ?_) (.inr hyl))
  obtain ⟨f0, f1, f2, f3, f4, f5⟩ := f
  have haC : C ≠ a := by
    rcases ha with z | z
    · rw [z]; exact f1
    · exact fun e => f4 y a z e.symm
  refine ⟨m, hn.sameBut sb haC, fun h3 sb3 => ?_⟩
  exact ⟨_, H', I2.turned (t' := s2.toks) (fun b o hb e => (sb3.2 b hb).trans e) f0 f1 f3 f4 f5, q⟩
theorem sw_trueD {kx vx : Expr} {gs : List Comprehension} {scope : Scope} {pos py : Pos} {y : Str} {l : Nat} {env : Env} (hk : env.scope.kind = .function) (hy : env.scope.names.lookup y = some .local) (hl : (py.line == pos.line) = true)
    (ha : (scope.names.any fun (n, k) => n == y && (k == .local || k == .cell)) = false) : swapsWith (.DictComp kx vx gs scope pos) (some (.Name y py)) l env = pure true := by
  have ky : env.kindOf y = some .local := hy
  have hb : env.blockKind = .function := by unfold Env.blockKind; rw [hk]; rfl
  unfold swapsWith
  simp only [hb, ky, ha, Expr.pos, hl]
  rfl
end
end L2

end
section
set_option maxRecDepth 100000
set_option maxHeartbeats 4000000
namespace L2
open PySem PySem.Spec PyProof.Rows
/-! ### a tuple once, or many times -/
theorem tuple_mul1 (l : Addr) (items : Array Value) (n : Nat) (dd : Option Addr) (sl : Array (Option Value)) (u : Tok) :
    Meets (Builtin.«tuple.__mul__» ⟨[.ref l, .int 1 u], []⟩) (fun _ R s => s.heap.get? l = some { cls := .type "tuple", dict := dd, data := .seq items n, slots := sl } ∧ R (.ok (.ret (Value.ref l))) s) :=
  .of_wp fun prog w A R s h => by
    obtain ⟨hp, g, d, tk, os⟩ := s
    obtain ⟨hl, h⟩ := h
    have f1 := AutoSeq1.idx_int
    have c1 : (items.isEmpty || (1 : Int) == 1) = true := by rw [show ((1 : Int) == 1) = true from rfl, Bool.or_true]
    wp_walk using wpAny_loadPart' hl
    repeat (first
      | (refine wpAny_ite_true (decide_eq_true c1) ?_; wp_walk using wpAny_loadPart' hl)
      | (refine wpAny_ite_true c1 ?_; wp_walk using wpAny_loadPart' hl))
    all_goals exact ⟨_, rfl, h⟩
def rRepTA (K : PySem.W.Frag) : R2 := fun x y H Q => ∃ l k xs, x = .ref l ∧ y = .int k ∧ SqT K H l xs ∧ xs ≠ [] ∧ 1 ≤ k ∧ k ≤ 1000 ∧ xs.length ≤ 1000 ∧ (k = 1 → Q (.ref l) H) ∧ (2 ≤ k → ∀ p, H p = none → Q (.ref p) (upd H p (.tup (List.replicate k.toNat xs).flatten)))
section
variable {X : Cx}
theorem op_repTA (K : PySem.W.Frag) (hK : X.K = K := by rfl) : OpR X (binaryOp .Mult) (rRepTA K) := by
  subst hK
  intro pins s σ H x y v u Q I rx ry h
  obtain ⟨l, k, xs, rfl, rfl, hT, hne, h1, h2, hz, q1, q2⟩ := h
  rcases Int.lt_or_le 1 k with h3 | h3
  · exact op_repT pins s σ H _ _ v u Q I rx ry ⟨l, k, xs, rfl, rfl, hT, hne, by omega, h2, hz, q2 (by omega)⟩
  obtain rfl : k = 1 := by omega
  cases rx
  obtain ⟨t, rfl⟩ := ry
  obtain ⟨its, r, ⟨⟨cls, dd, data, sl⟩, ho, hc, n, hd⟩, hs⟩ := I.tuple hT
  simp only at hc hd
  subst hc hd
  refine wpAny_binaryOp_repeat_ref (T := "tuple") (U := "int") (by decide) ⟨_, ho, rfl⟩ (fun s' => typeIs_int s' 1 t) noFill_tuple_mul F.fills_int_mul F.slot_int_rmul repeat_tuple F.slot_int_index.lookup
    (call_meets F.slot_int_rmul (typeIs_int s 1 t) F.entry_int_rmul (F.args_int_rmul_2 _ _) (int_rmul_tuple 1 t l its.toArray n dd sl)
      ⟨ho, rfl, ⟨_, ho, rfl⟩, call_meets F.slot_tuple_mul ⟨_, ho, rfl⟩ F.entry_tuple_mul (F.args_tuple_mul_2 _ _) (tuple_mul1 l its.toArray n dd sl t) ⟨ho, ?_⟩⟩)
  exact ⟨.ref l, H, I, rfl, q1 rfl⟩
end
end L2

end
section
set_option maxRecDepth 100000
namespace L2
open PySem PySem.Spec PyProof.Rows
/-! ### own exceptions with a field -/
/-- what an own exception class at C must have -/
structure XCls (K : PySem.W.Frag) (C : Addr) : Prop where
  oex : OexC K C
  xf : XfC K C
  ca : PySem.W.findIn K (.ref C) "__class__" = some (some (.builtin "object.__class__"))
  mo : PySem.W.mroIn K C (.type "object") = some true
structure XGlob (K : PySem.W.Frag) : Prop where
  gs : PySem.W.specialIn K (.builtin "object.__class__") "__get__" = some (some (.builtin "getset_descriptor.__get__"))
  tk : PySem.W.takesIn K (.builtin "object.__class__") = some true
/-- isinstance of the exception at a (class cls, dict d) -/
def rIsX (K : PySem.W.Frag) (a : Addr) (cls : Value) (C : Addr) (d : Option Addr) : List V → Hp → VK → Prop := fun xs H Q => cls = .ref C ∧ (∃ (dd : Addr) (fs : List (Str × V)), d = some dd ∧ H dd = some (.xd fs)) ∧
  ((∃ (D : Addr) (b : Bool), xs = [.ref a, .ref D] ∧ PySem.W.kitOne K (.ref C) (.ref D) = some b ∧ Q (.bl b) H) ∨
    (∃ (n : String) (b : Bool), xs = [.ref a, .ty n] ∧ PySem.W.kitOne K (.ref C) (.type n) = some b ∧ Q (.bl b) H) ∨
    ∃ (tp : Addr) (ds : List Addr) (b : Bool), xs = [.ref a, .ref tp] ∧ H tp = some (.tup (ds.map V.ref)) ∧ PySem.W.kitAny K (.ref C) (ds.map Value.ref) = some b ∧ Q (.bl b) H)
theorem refs_vals : ∀ {ds : List Addr} {us : List Value}, Vals (ds.map V.ref) us → us = ds.map Value.ref
  | [], _, .nil => rfl
  | d :: ds, _, .cons h r => by
    cases h
    rw [refs_vals r]
    rfl
theorem cr_isX {X : Cx} {a C : Addr} {cls : Value} {oe : Obj} {d : Option Addr} {pn : List (Addr × Obj)} (T : XCls X.K C) (G : XGlob X.K) (hz : Zc cls d oe) (hf : ∃ vs, oe.data = .fields vs) : CallR (X.suite a ((a, oe) :: pn)) (.builtin "isinstance") (rIsX X.K a cls C d) := by
  intro pins s σ H xs us Q I r h
  obtain ⟨ec, ⟨dd, fs, ed, hdd⟩, h⟩ := h
  subst ec
  subst ed
  obtain ⟨hget, _⟩ := I.pin (a, oe) (List.mem_append.mpr (.inl List.mem_cons_self))
  obtain ⟨fv, hv⟩ := hf
  have hx : ObjOk X.prog X.w H s.heap dd (.xd fs) := I.hok dd _ hdd
  obtain ⟨mA, hns, _⟩ := hx
  obtain ⟨od, ho, _⟩ := lookIn_ns hns
  have J : PySem.W.InstAt s.heap a oe C (some od) := ⟨hget, hz.1, by unfold PySem.W.notCls; rw [hv] <;> rfl, by rw [hz.2]; exact ho⟩
  have some_cls : (PySem.W.clsIn X.K C).isSome = true := by
    obtain ⟨nm, q, N, bs, bm, sn, sub, ab, col, dd, k0, k1, k2, k3, k5, hC, _⟩ := T.oex.cls
    unfold PySem.W.clsIn
    rw [hC] <;> rfl
  have Z := PySem.W.kitx_exc (x := a) (ox := oe) (od := some od) some_cls T.xf.ga T.xf.gg T.xf.exC T.ca G.gs G.tk T.mo
  have fin : ∀ b : Bool, Q (.bl b) H → ∀ tk, EP (X.suite a ((a, oe) :: pn)) pins σ Q (.bool b) { s with toks := tk } := fun b q tk => ⟨.bl b, H, I.tok tk, rfl, q⟩
  rcases h with ⟨D, b, rfl, e, q⟩ | ⟨n, b, rfl, e, q⟩ | ⟨tp, ds, b, rfl, ht, e, q⟩
  · cases r with
    | cons r1 r2 => cases r2 with
      | cons r2 r3 =>
        cases r3
        cases r1
        cases r2
        exact PySem.W.kia_one Z I.kIn J e (fun z => nomatch z) (fin b q)
  · cases r with
    | cons r1 r2 => cases r2 with
      | cons r2 r3 =>
        cases r3
        cases r1
        cases r2
        exact PySem.W.kia_one Z I.kIn J e (fun z => nomatch z) (fin b q)
  · cases r with
    | cons r1 r2 => cases r2 with
      | cons r2 r3 =>
        cases r3
        cases r1
        cases r2
        obtain ⟨_, its, rv, ⟨o, ho, hc, n, hd⟩⟩ := I.hok tp _ ht
        have ei := refs_vals rv
        subst ei
        obtain ⟨oc, odd, oda, osl⟩ := o
        cases hc
        cases hd
        exact PySem.W.kia_tup Z I.kIn J ho e (fun z => nomatch z) (fin b q)
/-! ### defs and methods that may raise -/
structure CalX (P : Program) (w : World) (K : PySem.W.Frag) (mg : Str → Option Value) (base : Heap) (x : Str) (k : Nat) (sp : Sp) : Prop where
  ex : ∃ (f : Addr) (fd : FuncData) (ps : List Str), FnOk P w K mg base (L2.CX P w) k f fd ps sp ∧ mg x = some (.ref f) ∧ PySem.W.keepIn K (.ref f) = true ∧ Binds K fd ps []
structure MCalX (P : Program) (w : World) (K : PySem.W.Frag) (mg : Str → Option Value) (base : Heap) (C : Addr) (m : Str) (k : Nat) (sp : Sp) : Prop where
  ex : ∃ (f : Addr) (fd : FuncData) (ps : List Str), FnOk P w K mg base (L2.CX P w) k f fd ps sp ∧ Meth K C m f ∧ Binds K fd ps []
section
variable {X : Cx} {e o : Expr} {es : List Expr} {t : TA} {ta : TE} {x m : Str} {k : Nat} {sp : Sp} {C : Addr} {E : XK} {W : WX} {p pos apos : Pos}
/-- what a callee lets out goes on -/
theorem goes_on (tk : Takes X (fun cls d _ H => E cls d H)) : Passes (L2.CX X.prog X.w) X E := fun _ _ _ _ e s' I c => tk e s' (XE.of_call I (fun _ _ _ h => h) c)
def tCalX (sp : Sp) (E : XK) (t : TA) : TE := fun σ H Q => t σ H fun vs H1 => sp vs H1 Q E
theorem pe_calX (c : CalX X.prog X.w X.K X.mg X.base x k sp) (tk : Takes X (fun cls d _ H => E cls d H)) (hr : Room k X.A) (ha : PA X (e :: es) t) (hg : Gl X x := by rfl) (hdb : (x == ("__debug__" : Str)) = false := by decide)
    (he : starEach (e :: es) X.env = (false, eval e X.env) :: starEach es X.env := by rfl) (hpl : (backTo pos (starEach es X.env)).any (·.1) = false := by rfl) :
    PE X (.Call (.Name x p) (e :: es) [] pos) (tCalX sp E t) := by
  obtain ⟨f, fd, ps, F, hm, hk, hb⟩ := c.ex
  refine (pe_call F hr hg hm hk hb .nil (goes_on tk) ha hdb he hpl).to fun σ H Q q => ?_
  have q' : t σ H fun vs H1 => sp vs H1 Q E := q
  show t σ H fun vs H1 => sp (vs ++ []) H1 Q E
  simpa only [List.append_nil] using q'
/-- the same where a try of the def's own takes it: wished for at the slots -/
theorem pe_calW (c : CalX X.prog X.w X.K X.mg X.base x k sp) (tk : Takes X W) (hr : Room k X.A) (ha : PA X (e :: es) t) (hg : Gl X x := by rfl) (hdb : (x == ("__debug__" : Str)) = false := by decide)
    (he : starEach (e :: es) X.env = (false, eval e X.env) :: starEach es X.env := by rfl) (hpl : (backTo pos (starEach es X.env)).any (·.1) = false := by rfl) :
    PE X (.Call (.Name x p) (e :: es) [] pos) (tCallS sp (WE W) t) := by
  obtain ⟨f, fd, ps, F, hm, hk, hb⟩ := c.ex
  exact pe_callS F hr hg hm hk hb (fun σ => passAt tk σ) ha hdb he hpl
/-- a method at the slots -/
def tMethW (C : Addr) (m : Str) (sp : Sp) (W : WX) (ta : TE) (t : TA) : TE := fun σ H Q => ta σ H fun y H1 => ∃ a dx fs, y = .ref a ∧ H1 a = some (.ins C dx fs) ∧ fs.lookup m = none ∧ t σ H1 fun vs H2 => sp (y :: vs) H2 Q (WE W σ)
theorem pe_methW {pl : Sem Bool} (ho : PE X o ta) (cl : Cls X.K C) (M : MCalX X.prog X.w X.K X.mg X.base C m k sp) (tk : Takes X W) (hr : Room k X.A) (ha : PA X (e :: es) t)
    (hst : starEach (e :: es) X.env = (false, eval e X.env) :: starEach es X.env := by rfl) (hpl : (backTo pos (starEach es X.env)).any (·.1) = false := by rfl)
    (shape : eval (.Call (.Attribute o m apos) (e :: es) [] pos) X.env = (do let ov ← eval o X.env; standAt apos.atName; let (f, first) ← holding [ov] (getMethod ov m pl); callWith pos f first (backTo pos (starEach (e :: es) X.env)) (backToKw pos (keywordEach [] X.env))) := by rfl) :
    PE X (.Call (.Attribute o m apos) (e :: es) [] pos) (tMethW C m sp W ta t) := by
  obtain ⟨f, fd, ps, F, hm, hb⟩ := M.ex
  refine ⟨fun pins s σ H Q I h => PySem.W.methodCall_KW (pl := pl) (thn (ho.run pins s σ H _ I h) fun u s1 got => ?_) shape⟩
  obtain ⟨y, H1, I1, ry, a, dx, fs, rfl, ea, l, q⟩ := got
  cases ry
  refine getmeth_ok I1 ea cl hm l (PySem.W.callWith_K (first := [.ref a]) (h₀ := X.base) I.ok.mod.kin hm.kp (thn (ha.run pos pins s1 σ H1 _ I1 q) fun us s2 got => ?_) hst hpl)
  obtain ⟨vs, H2, I2, rv, want⟩ := got
  exact ⟨I2.kIn, run_fnS (us := .ref a :: us) (vs := .ref a :: vs) F hr hb (passAt tk σ) I2 (.cons rfl rv) want⟩
/-- a method whose exceptions leave the def -/
def tMethX (C : Addr) (m : Str) (sp : Sp) (E : XK) (ta : TE) (t : TA) : TE := fun σ H Q => ta σ H fun y H1 => ∃ a dx fs, y = .ref a ∧ H1 a = some (.ins C dx fs) ∧ fs.lookup m = none ∧ t σ H1 fun vs H2 => sp (y :: vs) H2 Q E
/-- raise C(e, ..), C's own __init__ keeping sp -/
theorem ps_raiseX {fI : Addr} {fd : FuncData} {ps : List Str} (calm : X.calm = true) (tk : Takes X W) (T : OexC X.K C) (iC : PySem.W.findIn X.K (.ref C) "__init__" = some (some (.ref fI))) (tI : PySem.W.typeIn X.K (.ref fI) = some (.type "function"))
    (F : FnOk X.prog X.w X.K X.mg X.base CX0 k fI fd ps sp) (hr : Room (k + 1) X.A) (hb : Binds X.K fd ps []) (hm : X.mg x = some (.ref C)) (ha : PA X (e :: es) t) (hg : Gl X x := by rfl)
    (hdb : (x == ("__debug__" : Str)) = false := by decide) (he : starEach (e :: es) X.env = (false, eval e X.env) :: starEach es X.env := by rfl) (hpl : (backTo apos (starEach es X.env)).any (·.1) = false := by rfl) :
    PS X (.Raise (some (.Call (.Name x p) (e :: es) [] apos)) none pos) (fun _ σ H => tMkO C sp [] t σ H fun cls d H' => W cls d σ H') :=
  ps_raise calm tk (pmk_oex T iC tI F hr hb .nil (fun _ _ _ _ _ _ _ z => z.elim) hg hm ha hdb he hpl)
end
/-! ### an __init__ that keeps its one argument in a field -/
def spKeep (K : PySem.W.Frag) (f : Str) : Sp := fun vs H Q _ => ∃ (a C : Addr) (v : V), vs = [.ref a, v] ∧ OexC K C ∧ PySem.W.findIn K (.ref C) f = some none ∧ H a = some (exo a C none) ∧ ∀ dx, H dx = none → dx ≠ a → Q .non (upd (upd H dx (exd dx [(f, v)])) a (exo a C (some dx)))
/-- its raising, as the callers see it -/
theorem keep_raised {K : PySem.W.Frag} {C : Addr} {f : Str} {v : V} {H : Hp} {Q : XK} (T : OexC K C) (hf : PySem.W.findIn K (.ref C) f = some none) (q : ∀ (d : Addr) (H' : Hp), H d = none → Same H H' → H' d = some (.xd [(f, v)]) → Q (.ref C) (some d) H') (a : Addr) (na : H a = none) :
    spKeep K f [.ref a, v] (upd H a (exo a C none)) (fun y H2 => y = .non ∧ ∃ (d : Addr) (fs : List (Str × V)), H2 a = some (exo a C (some d)) ∧ H2 d = some (exd d fs) ∧ H d = none ∧ Q (.ref C) (some d) (upd (del H2 a) d (.xd fs))) fun _ _ _ => False := by
  refine ⟨a, C, v, rfl, T, hf, upd_same, fun dx ndx ne => ⟨rfl, dx, _, upd_same, by rw [upd_ne ne, upd_same], ?_, q dx _ ?_ (fun b o e => ?_) upd_same⟩⟩
  · rw [upd_ne ne] at ndx; exact ndx
  · rw [upd_ne ne] at ndx; exact ndx
  · have nb : b ≠ dx := fun z => by
      rw [upd_ne ne] at ndx
      rw [z, ndx] at e; cases e
    have na' : b ≠ a := fun z => by rw [z, na] at e; cases e
    rw [upd_ne nb, del_ne na', upd_ne na', upd_ne nb, upd_ne na']
    exact e
end L2
namespace L2
open PySem PySem.Spec PyProof.Rows
/-- an exception class with such an __init__, under its name -/
structure XMk (P : Program) (w : World) (K : PySem.W.Frag) (mg : Str → Option Value) (base : Heap) (C : Addr) (x f : Str) : Prop where
  ex : ∃ (fI : Addr) (fd : FuncData) (ps : List Str), FnOk P w K mg base CX0 1 fI fd ps (spKeep K f) ∧ Binds K fd ps [] ∧ PySem.W.findIn K (.ref C) "__init__" = some (some (.ref fI)) ∧ PySem.W.typeIn K (.ref fI) = some (.type "function")
  mg : mg x = some (.ref C)
  cls : XCls K C
  no : PySem.W.findIn K (.ref C) f = some none
section
variable {X : Cx} {e : Expr} {es : List Expr} {t : TA} {x f : Str} {C : Addr} {W : WX} {p pos apos : Pos}
theorem ps_raiseM (M : XMk X.prog X.w X.K X.mg X.base C x f) (calm : X.calm = true) (tk : Takes X W) (hr : Room 2 X.A) (ha : PA X (e :: es) t) (hg : Gl X x := by rfl)
    (hdb : (x == ("__debug__" : Str)) = false := by decide) (he : starEach (e :: es) X.env = (false, eval e X.env) :: starEach es X.env := by rfl) (hpl : (backTo apos (starEach es X.env)).any (·.1) = false := by rfl) :
    PS X (.Raise (some (.Call (.Name x p) (e :: es) [] apos)) none pos) (fun _ σ H => tMkO C (spKeep X.K f) [] t σ H fun cls d H' => W cls d σ H') := by
  obtain ⟨fI, fd, ps, F, hb, iC, tI⟩ := M.ex
  exact ps_raiseX calm tk M.cls.oex iC tI F hr hb M.mg ha hg hdb he hpl
end
/-- where it does not raise, it is as one that never does -/
theorem FnOk.calm {P : Program} {w : World} {K : PySem.W.Frag} {mg : Str → Option Value} {base : Heap} {k : Nat} {f : Addr} {fd : FuncData} {ps : List Str} {sp : Sp} (F : FnOk P w K mg base (L2.CX P w) k f fd ps sp) : FnOk P w K mg base CX0 k f fd ps (fun vs H Q _ => sp vs H Q fun _ _ _ => False) where
  len := fun vs H Q _ h => F.len vs H Q _ h
  run := fun A outer s H args us vs Q _ hr env bnd vals want => codeAny_mono (F.run A outer s H args us vs Q _ hr env bnd vals want) fun r s' z => match r, z with
    | .ok (.ret _), z => z
    | .ok .next, z => z.elim
    | .ok .brk, z => z.elim
    | .ok .cont, z => z.elim
    | .error _, ⟨_, _, _, _, _, _, _, _, _, _, _, _, no⟩ => no.elim
theorem CalX.calm {P : Program} {w : World} {K : PySem.W.Frag} {mg : Str → Option Value} {base : Heap} {x : Str} {k : Nat} {sp sp' : Sp} (c : CalX P w K mg base x k sp) (h : ∀ vs H Q E, sp' vs H Q E → sp vs H Q fun _ _ _ => False) : Cal P w K mg base x k sp' := by
  obtain ⟨f, fd, ps, F, r⟩ := c.ex
  exact ⟨f, fd, ps, F.calm.imp h, r⟩
theorem MCalX.calm {P : Program} {w : World} {K : PySem.W.Frag} {mg : Str → Option Value} {base : Heap} {C : Addr} {m : Str} {k : Nat} {sp sp' : Sp} (c : MCalX P w K mg base C m k sp) (h : ∀ vs H Q E, sp' vs H Q E → sp vs H Q fun _ _ _ => False) : MCal P w K mg base C m k sp' := by
  obtain ⟨f, fd, ps, F, r⟩ := c.ex
  exact ⟨f, fd, ps, F.calm.imp h, r⟩
theorem Cal.imp {P : Program} {w : World} {K : PySem.W.Frag} {mg : Str → Option Value} {base : Heap} {x : Str} {k : Nat} {sp sp' : Sp} (c : Cal P w K mg base x k sp) (h : ∀ vs H Q E, sp' vs H Q E → sp vs H Q E) : Cal P w K mg base x k sp' := by
  obtain ⟨f, fd, ps, F, r⟩ := c.ex
  exact ⟨f, fd, ps, F.imp h, r⟩
end L2

end
section
set_option maxRecDepth 100000
set_option maxHeartbeats 2000000
namespace L2
open PySem PySem.Spec PyProof.Rows
/-! ### sets of tuples of ints, up to 4914 of them -/
section
/-- the masks of such a set -/
def Wid (m : Nat) : Prop := m = 7 ∨ m = 31 ∨ m = 127 ∨ m = 511 ∨ m = 2047 ∨ m = 8191
theorem Wid.pow {m : Nat} (h : Wid m) : ∃ k, m + 1 = 2 ^ k := by
  rcases h with e | e | e | e | e | e
  · exact ⟨3, by rw [e]⟩
  · exact ⟨5, by rw [e]⟩
  · exact ⟨7, by rw [e]⟩
  · exact ⟨9, by rw [e]⟩
  · exact ⟨11, by rw [e]⟩
  · exact ⟨13, by rw [e]⟩
theorem Wid.bounds {m : Nat} (h : Wid m) : 7 ≤ m ∧ m ≤ 8191 ∧ m % 2 = 1 := by
  rcases h with e | e | e | e | e | e <;> omega

/-- five times and one more, again and again -/
def five : Nat → Nat → Nat
  | x, 0 => x
  | x, n + 1 => five (5 * x + 1) n
theorem five_add : ∀ (a x b : Nat), five x (a + b) = five (five x a) b
  | 0, x, b => by rw [Nat.zero_add] <;> rfl
  | a + 1, x, b => by
    have e : a + 1 + b = (a + b) + 1 := by omega
    rw [e]
    exact five_add a (5 * x + 1) b
/-- 2^k of these steps: x goes to x + 2^k, but for a multiple of 2^(k+1) -/
theorem five_pow (k : Nat) : ∃ a b : Nat, ∀ x, five x (2 ^ k) = (1 + 4 * (2 ^ k * a)) * x + 2 ^ k * (1 + 2 * b) := by
  induction k with
  | zero =>
    refine ⟨1, 0, fun x => ?_⟩
    show 5 * x + 1 = (1 + 4 * (2 ^ 0 * 1)) * x + 2 ^ 0 * (1 + 2 * 0)
    omega
  | succ k ih =>
    obtain ⟨a, b, h⟩ := ih
    refine ⟨a + 2 * (2 ^ k * a * a), b + 2 ^ k * a + 2 * (2 ^ k * a * b), fun x => ?_⟩
    have e : (2 : Nat) ^ (k + 1) = 2 ^ k + 2 ^ k := by rw [Nat.pow_succ]; omega
    rw [e, five_add, h, h]
    generalize (2 : Nat) ^ k = N
    grind
theorem five_shift (k x : Nat) : five x (2 ^ k) % 2 ^ (k + 1) = (x + 2 ^ k) % 2 ^ (k + 1) := by
  obtain ⟨a, b, h⟩ := five_pow k
  rw [h x]
  have e : (1 + 4 * (2 ^ k * a)) * x + 2 ^ k * (1 + 2 * b) = (x + 2 ^ k) + 2 ^ (k + 1) * (2 * (a * x) + b) := by
    rw [Nat.pow_succ]
    generalize (2 : Nat) ^ k = N
    grind
  rw [e, Nat.add_mul_mod_self_left]
/-- each remainder comes -/
theorem five_covers (x j : Nat) : ∀ k, ∃ n, n < 2 ^ k ∧ five x n % 2 ^ k = j % 2 ^ k
  | 0 => ⟨0, by decide, by rw [Nat.pow_zero, Nat.mod_one, Nat.mod_one]⟩
  | k + 1 => by
    obtain ⟨n, hn, e⟩ := five_covers x j k
    have hp : 0 < (2 : Nat) ^ k := Nat.pow_pos (by decide)
    have e2 : (2 : Nat) ^ (k + 1) = 2 ^ k * 2 := Nat.pow_succ ..
    by_cases c : five x n / 2 ^ k % 2 = j / 2 ^ k % 2
    · refine ⟨n, by omega, ?_⟩
      rw [e2, Nat.mod_mul, Nat.mod_mul, e, c]
    · refine ⟨n + 2 ^ k, by omega, ?_⟩
      rw [five_add, five_shift, e2, Nat.mod_mul, Nat.mod_mul, Nat.add_mod_right, e, Nat.add_div_right _ hp]
      have d : (five x n / 2 ^ k).succ % 2 = j / 2 ^ k % 2 := by omega
      rw [d]
theorem lcgI_five (m i : Nat) (hi : i ≤ m) : ∀ n, lcgI m i n = five i n % (m + 1)
  | 0 => (Nat.mod_eq_of_lt (Nat.lt_succ_of_le hi)).symm
  | n + 1 => by
    have e : five i (n + 1) = 5 * five i n + 1 := by rw [five_add] <;> rfl
    show (lcgI m i n * 5 + 1) % (m + 1) = _
    rw [lcgI_five m i hi n, e, Nat.add_mod, Nat.mul_mod, Nat.mod_mod, ← Nat.mul_mod, ← Nat.add_mod, Nat.mul_comm]
theorem Wid.covers {m : Nat} (h : Wid m) {i j : Nat} (hi : i ≤ m) (hj : j ≤ m) : ∃ n, n ≤ m ∧ lcgI m i n = j := by
  obtain ⟨k, hk⟩ := h.pow
  obtain ⟨n, hn, e⟩ := five_covers i j k
  rw [← hk] at hn e
  exact ⟨n, Nat.le_of_lt_succ hn, by rw [lcgI_five m i hi, e, Nat.mod_eq_of_lt (Nat.lt_succ_of_le hj)]⟩
/-- a run starts at each place, soon enough -/
theorem Wid.start {m : Nat} (wd : Wid m) (g : Int) {j : Nat} (hj : j ≤ m) : ∃ n, n ≤ m + 12 ∧ runI m (SetTable.bits g) n = j := by
  obtain ⟨n, hn, e⟩ := wd.covers (runI_le m (SetTable.bits g) 12) hj
  refine ⟨12 + n, by omega, ?_⟩
  rw [runI_tail (bits_lt g), e]
theorem Wid.comes {m : Nat} (wd : Wid m) (g : Int) {j : Nat} (hj : j ≤ m) : ∃ c, c < 10 * SetTable.turns m ∧ way m g c = j := by
  obtain ⟨n, hn, e⟩ := wd.start g hj
  obtain ⟨c, hc, e2⟩ := run_nth m (SetTable.bits g) n
  have e3 : way m g c = runI m (SetTable.bits g) n := congrArg SetTable.Probe.j e2
  exact ⟨c, by unfold SetTable.turns; omega, e3.trans e⟩
theorem way_low (m : Nat) (g : Int) (c : Nat) : way m g c ≤ m := by
  have b0 : SetTable.bits g % (m + 1) ≤ m := Nat.le_of_lt_succ (Nat.mod_lt _ (Nat.succ_pos m))
  have b1 := runEnd_bd b0
  have b2 := nth_in (m := m) c (runAt m (SetTable.bits g % (m + 1)) (SetTable.bits g)) (by
    show SetTable.bits g % (m + 1) + (SetTable.runEnd m (SetTable.bits g % (m + 1)) - SetTable.bits g % (m + 1)) ≤ m
    omega)
  exact Nat.le_trans (Nat.le_add_right _ _) b2

/-- a table in which a search for a hash passes its places -/
structure Lay (t : SetTable) (hs : List Int) : Prop where
  wid : Wid t.mask
  up : Ris t.place.toList
  bare : t.dummies = #[]
  many : t.place.size = hs.length
  low : ∀ j ∈ t.place.toList, j ≤ t.mask
  path : ∀ (i : Nat) (g : Int) (j : Nat), hs[i]? = some g → t.place.toList[i]? = some j → ∃ n, way t.mask g n = j ∧ ∀ c, c < n → way t.mask g c ∈ t.place.toList
variable {t : SetTable} {hs : List Int}
theorem Lay.hole (T : Lay t hs) (le : hs.length ≤ t.mask) (g : Int) : ∃ n, n < 10 * SetTable.turns t.mask ∧ way t.mask g n ∉ t.place.toList ∧ ∀ c, c < n → way t.mask g c ∈ t.place.toList := by
  obtain ⟨j, lt, out⟩ := st_missing t.place.toList (t.mask + 1) (by rw [Array.length_toList, T.many]; omega)
  obtain ⟨c0, lt0, e0⟩ := T.wid.comes g (Nat.le_of_lt_succ lt)
  obtain ⟨n, n1, n2, n3⟩ := st_least (p := fun c => way t.mask g c ∉ t.place.toList) c0 (fun hm => out (e0 ▸ hm))
  exact ⟨n, Nat.lt_of_le_of_lt n1 lt0, n2, fun c hc => Classical.not_not.mp (n3 c hc)⟩
theorem Lay.ahead (T : Lay t hs) {g : Int} {n i j : Nat} (out : way t.mask g n ∉ t.place.toList) (hi : hs[i]? = some g) (hj : t.place.toList[i]? = some j) : ∃ c, c < n ∧ way t.mask g c = j := by
  obtain ⟨c, e, bef⟩ := T.path i g j hi hj
  refine ⟨c, Nat.lt_of_not_le fun le => ?_, e⟩
  rcases Nat.lt_or_eq_of_le le with lt | eq
  · exact out (bef n lt)
  · rw [eq, e] at out
    exact out (List.mem_of_getElem? hj)
theorem Lay.put (T : Lay t hs) {g : Int} {n : Nat} (out : way t.mask g n ∉ t.place.toList) (bef : ∀ c, c < n → way t.mask g c ∈ t.place.toList) :
    SetTable.below t.place (way t.mask g n) ≤ hs.length ∧ Lay (t.put (way t.mask g n)).1 (hs.take (SetTable.below t.place (way t.mask g n)) ++ g :: hs.drop (SetTable.below t.place (way t.mask g n))) ∧
    (t.put (way t.mask g n)).1.fill = hs.length + 1 := by
  have jm := way_low t.mask g n
  obtain ⟨j, ej⟩ : ∃ j, way t.mask g n = j := ⟨_, rfl⟩
  rw [ej] at out jm ⊢
  have b1 : SetTable.below t.place j ≤ t.place.size := (below_cut T.up j).1
  have b2 : SetTable.below t.place j ≤ t.place.toList.length := by rw [Array.length_toList]; exact b1
  have b3 : SetTable.below t.place j ≤ hs.length := by rw [← T.many]; exact b1
  have pl := put_place t j
  have inn : ∀ x ∈ t.place.toList, x ∈ (t.put j).1.place.toList := fun x hx => by
    rw [pl]
    exact mem_ins.2 (.inr hx)
  have sz : (t.put j).1.place.size = hs.length + 1 := by
    rw [← Array.length_toList, pl, len_ins _ b2, Array.length_toList, T.many]
  refine ⟨b3, ⟨T.wid, ?_, put_dm T.bare j, by rw [len_ins _ b3]; exact sz, fun x hx => ?_, fun i g' j' h1 h2 => ?_⟩, ?_⟩
  · exact ris_insert T.up fun e => out (List.mem_of_getElem? (by rw [Array.getElem?_toList]; exact e))
  · rw [pl] at hx
    rcases mem_ins.1 hx with e | hx
    · rw [e]
      exact jm
    · exact T.low x hx
  · rw [pl, tins_get _ b2] at h2
    rw [tins_get hs b3] at h1
    have old : ∀ i0, hs[i0]? = some g' → t.place.toList[i0]? = some j' → ∃ n0, way t.mask g' n0 = j' ∧ ∀ c, c < n0 → way t.mask g' c ∈ (t.put j).1.place.toList := fun i0 a1 a2 => by
      obtain ⟨n0, x1, x2⟩ := T.path i0 g' j' a1 a2
      exact ⟨n0, x1, fun c hc => inn _ (x2 c hc)⟩
    rcases Nat.lt_trichotomy i (SetTable.below t.place j) with c | c | c
    · rw [if_pos c] at h1 h2
      exact old i h1 h2
    · rw [if_neg (by omega), if_pos c] at h1 h2
      obtain rfl := Option.some.inj h1
      obtain rfl := Option.some.inj h2
      exact ⟨n, ej, fun c hc => inn _ (bef c hc)⟩
    · rw [if_neg (by omega), if_neg (by omega)] at h1 h2
      exact old (i - 1) h1 h2
  · show (t.put j).1.place.size + (t.put j).1.dummies.size = _
    rw [sz, put_dm T.bare j] <;> rfl

/-! the table laid out again -/
theorem Wid.free {m : Nat} (wd : Wid m) (owner : Array (Option Nat)) (g : Int) {j : Nat} (hj : j ≤ m) (none0 : oAt owner j = none) :
    ∃ n, SetTable.layClean.free m owner (SetTable.turns m) (SetTable.bits g % (m + 1)) (SetTable.bits g) = some (way m g n) ∧ oAt owner (way m g n) = none ∧ ∀ c, c < n → oAt owner (way m g c) ≠ none := by
  obtain ⟨r, le, e⟩ := wd.start g hj
  have at_ : way m g (off m (SetTable.bits g % (m + 1)) (SetTable.bits g) r) = j := by
    refine Eq.trans (congrArg SetTable.Probe.j (nth_off m r _ _)) ?_
    rw [itL_run]
    exact e
  obtain ⟨n, n1, n2, n3⟩ := st_least (p := fun c => oAt owner (way m g c) = none) _ (show oAt owner (way m g _) = none by rw [at_]; exact none0)
  refine ⟨n, free_spec m owner _ r _ _ n (by unfold SetTable.turns; omega) n1 (fun c hc => ?_) ?_, n2, n3⟩
  · cases z : oAt owner (way m g c) with
    | none => exact absurd z (n3 c hc)
    | some q => rfl
  · exact (congrArg Option.isNone n2)
theorem Wid.own {m : Nat} (wd : Wid m) {done : List Int} {owner : Array (Option Nat)} (W : Own m done owner) (few : done.length ≤ m) (g : Int) :
    ∃ j, SetTable.layClean.free m owner (SetTable.turns m) (SetTable.bits g % (m + 1)) (SetTable.bits g) = some j ∧ Own m (done ++ [g]) (owner.setIfInBounds j (some done.length)) := by
  obtain ⟨ps, lp, cov⟩ := W.ps
  obtain ⟨j0, lt0, out0⟩ := st_missing ps (m + 1) (by omega)
  have no0 : oAt owner j0 = none := Classical.byContradiction fun z => out0 (cov j0 (Nat.le_of_lt_succ lt0) z)
  obtain ⟨n, f, vac, bef⟩ := wd.free owner g (Nat.le_of_lt_succ lt0) no0
  have lm := way_low m g n
  refine ⟨_, f, ?_⟩
  generalize hj : way m g n = j at vac lm
  have slf := oAt_set_self (owner := owner) (some done.length) (j := j) (by rw [W.sz]; omega)
  have keep : ∀ i, oAt owner i ≠ none → oAt (owner.setIfInBounds j (some done.length)) i ≠ none := fun i hi => by
    by_cases c : i = j
    · rw [c, slf]
      exact Option.some_ne_none _
    · rw [oAt_set_ne _ c]
      exact hi
  constructor
  · rw [Array.size_setIfInBounds, W.sz]
  · intro i k hi e
    by_cases c : i = j
    · rw [c, slf] at e
      obtain rfl := Option.some.inj e
      refine ⟨g, n, ?_, hj.trans c.symm, fun c hc => keep _ (bef c hc)⟩
      rw [List.getElem?_append_right (Nat.le_refl _), Nat.sub_self] <;> rfl
    · rw [oAt_set_ne _ c] at e
      obtain ⟨g', n', x1, x2, x3⟩ := W.at_ i k hi e
      exact ⟨g', n', by rw [List.getElem?_append_left (List.getElem?_eq_some_iff.mp x1).1]; exact x1, x2, fun c hc => keep _ (x3 c hc)⟩
  · intro k hk
    rw [List.length_append, List.length_singleton] at hk
    rcases Nat.lt_or_eq_of_le (Nat.le_of_lt_succ hk) with c | c
    · obtain ⟨i, hi, e⟩ := W.all k c
      have ne : i ≠ j := fun z => by
        rw [z, vac] at e
        exact nomatch e
      exact ⟨i, hi, by rw [oAt_set_ne _ ne]; exact e⟩
    · exact ⟨j, lm, by rw [slf, c]⟩
  · refine ⟨j :: ps, by rw [List.length_cons, lp, List.length_append] <;> rfl, fun i hi e => ?_⟩
    by_cases c : i = j
    · rw [c]
      exact .head _
    · rw [oAt_set_ne _ c] at e
      exact .tail _ (cov i hi e)
theorem Wid.lays {m : Nat} (wd : Wid m) : ∀ (rest done : List Int) (owner : Array (Option Nat)), Own m done owner → done.length + rest.length ≤ m →
    ∃ o2, rest.foldl (stepF m) (some (owner, done.length)) = some (o2, (done ++ rest).length) ∧ Own m (done ++ rest) o2
  | [], done, owner, W, _ => by
    rw [List.append_nil]
    exact ⟨owner, rfl, W⟩
  | g :: rest, done, owner, W, le => by
    have lc : (g :: rest).length = rest.length + 1 := rfl
    have ls : (done ++ [g]).length = done.length + 1 := by rw [List.length_append] <;> rfl
    obtain ⟨j, f, W1⟩ := wd.own W (by omega) g
    obtain ⟨o2, h1, h2⟩ := wd.lays rest (done ++ [g]) _ W1 (by omega)
    rw [ls, List.append_assoc] at h1
    rw [List.append_assoc] at h2
    exact ⟨o2, by rw [List.foldl_cons, stepF_some f]; exact h1, h2⟩
theorem Wid.relaid {M : Nat} (wd : Wid M) (t : SetTable) {hs : Array Int} {wanted : Nat} (hw : SetTable.sizeAbove wanted - 1 = M) (le : hs.size ≤ M) :
    ∃ t2 order, t.relaid hs wanted = some (t2, order) ∧ order.toList.Perm (List.range hs.size) ∧ Lay t2 (order.toList.map fun i => hs.getD i 0) ∧ t2.mask = M ∧ t2.led = t.led ∧ t2.plain = t.plain := by
  obtain ⟨owner, f, W⟩ := wd.lays hs.toList [] _ (Own.init M) (by rw [Array.length_toList]; show 0 + hs.size ≤ M; omega)
  rw [List.nil_append] at f W
  have lay : SetTable.layClean M hs = some owner := by
    rw [layClean_eq]
    exact (congrArg (Option.map (·.1)) f)
  generalize hLv : liveOf M owner = Lv
  have mem : ∀ j k, (j, k) ∈ Lv ↔ j ≤ M ∧ oAt owner j = some k := fun j k => by
    rw [← hLv]
    exact mem_live W.sz
  have up : Ris (Lv.map (·.1)) ∧ ∀ x ∈ Lv.map (·.1), x ∈ List.range (M + 1) := by
    rw [← hLv]
    exact ris_live (fun j => owner.getD j none) (List.range (M + 1)) (by
      unfold Ris
      first | exact List.pairwise_lt_range | exact List.pairwise_lt_range _)
  have ks : ∀ k, k < hs.size → k ∈ Lv.map (·.2) := fun k hk => by
    obtain ⟨j, j1, j2⟩ := W.all k (by rw [Array.length_toList]; exact hk)
    exact List.mem_map.mpr ⟨(j, k), (mem j k).2 ⟨j1, j2⟩, rfl⟩
  have cnt : (Lv.map (·.2)).length = hs.size := by
    obtain ⟨ps, lp, cov⟩ := W.ps
    have fs : (Lv.map (·.1)).Nodup := List.Pairwise.imp (fun h => Nat.ne_of_lt h) up.1
    have c1 := nat_nodup_len (Lv.map (·.1)) ps fs fun x hx => by
      obtain ⟨⟨j, k⟩, jk, rfl⟩ := List.mem_map.mp hx
      obtain ⟨x1, x2⟩ := (mem j k).1 jk
      exact cov j x1 (by rw [x2]; exact Option.some_ne_none k)
    have c2 := nat_nodup_len (List.range hs.size) (Lv.map (·.2)) List.nodup_range fun k hk => ks k (List.mem_range.mp hk)
    have z : hs.toList.length = hs.size := rfl
    rw [List.length_map, lp] at c1
    rw [List.length_range, List.length_map] at c2
    rw [List.length_map]
    omega
  refine ⟨tabOf t M owner, (Lv.map (·.2)).toArray, ?_, perm_range hs.size _ cnt ks, ⟨wd, ?_, rfl, ?_, fun j hj => ?_, fun i g j h1 h2 => ?_⟩, rfl, rfl, rfl⟩
  · rw [relaid_eq, hw, lay, ← hLv] <;> rfl
  · show Ris ((liveOf M owner).map (·.1))
    rw [hLv]
    exact up.1
  · show ((liveOf M owner).map (·.1)).toArray.size = _
    rw [hLv, List.size_toArray, List.length_map, List.length_map, List.length_map]
  · have hj' : j ∈ (liveOf M owner).map (·.1) := hj
    rw [hLv] at hj'
    exact Nat.le_of_lt_succ (List.mem_range.mp (up.2 j hj'))
  · have h2' : ((liveOf M owner).map (·.1))[i]? = some j := h2
    have h1' : ((Lv.map (·.2)).map fun i => hs.getD i 0)[i]? = some g := h1
    rw [hLv, List.getElem?_map] at h2'
    rw [List.getElem?_map, List.getElem?_map] at h1'
    obtain ⟨⟨y, k⟩, q1, rfl⟩ := Option.map_eq_some_iff.mp h2'
    rw [q1] at h1'
    obtain rfl := Option.some.inj h1'
    obtain ⟨m1, m2⟩ := (mem y k).1 (List.mem_of_getElem? q1)
    obtain ⟨g0, n, d1, d2, d3⟩ := W.at_ y k m1 m2
    have eg : hs.getD k 0 = g0 := by
      rw [Array.getD_eq_getD_getElem?, ← Array.getElem?_toList, d1] <;> rfl
    show ∃ n, way M (hs.getD k 0) n = y ∧ ∀ c, c < n → way M (hs.getD k 0) c ∈ (liveOf M owner).map (·.1)
    rw [eg, hLv]
    refine ⟨n, d2, fun c hc => ?_⟩
    obtain ⟨k2, e2⟩ := Option.ne_none_iff_exists'.mp (d3 c hc)
    exact List.mem_map.mpr ⟨(way M g0 c, k2), (mem _ _).2 ⟨way_low M g0 c, e2⟩, rfl⟩
end
end L2

end
section
set_option maxRecDepth 100000
set_option maxHeartbeats 2000000
namespace L2
open PySem PySem.Spec PyProof.Rows
/-! ### a set of up to 4914 tuples of ints: searching, adding -/
section
variable {P : Program} {w : World} {A : Around} {E : Value → Shared → Prop} {s : Shared}
variable {a : Addr} {L : List (Addr × List Int)} {es : Array (Int × Value)} {ep : Nat} {t : SetTable}
/-- the hashes of the rows -/
abbrev hsh (P : Program) (w : World) (L : List (Addr × List Int)) : List Int := L.map fun p => thash P w p.2
/-- the object at a is a set whose entries are L -/
structure BigO (P : Program) (w : World) (h : Heap) (a : Addr) (L : List (Addr × List Int)) (es : Array (Int × Value)) (ep : Nat) (t : SetTable) : Prop where
  obj : ∃ o, h.get? a = some o ∧ o.ExactSet ∧ o.data = .set es ep t
  ent : es.toList = rowsOf P w L
  lay : Lay t (hsh P w L)
  dif : (L.map (·.2)).Nodup
  pln : t.plain = true
  seq : w.params.followText "set-order" = true ∨ t.led = true
  gap : L.length * 5 < t.mask * 3
theorem rowsOf_len {es : Array (Int × Value)} (h : es.toList = rowsOf P w L) : es.size = L.length := by
  have e := congrArg List.length h
  rw [Array.length_toList] at e
  exact e.trans (List.length_map ..)
namespace BigO
theorem size (R : BigO P w s.heap a L es ep t) : es.size = L.length := rowsOf_len R.ent
theorem many (R : BigO P w s.heap a L es ep t) : t.place.size = L.length := R.lay.many.trans (List.length_map ..)
theorem fits (R : BigO P w s.heap a L es ep t) : t.fits es.size = true := by
  have g := R.gap
  have c1 : t.place.size = es.size := R.many.trans R.size.symm
  have c2 : t.place.size + t.dummies.size ≤ t.mask := by
    rw [R.lay.bare, R.many]
    show L.length + 0 ≤ _
    omega
  unfold SetTable.fits SetTable.fill
  rw [Bool.and_eq_true, beq_iff_eq, decide_eq_true_eq]
  exact ⟨c1, c2⟩
theorem row (R : BigO P w s.heap a L es ep t) {i : Nat} {p : Addr × List Int} (h : L[i]? = some p) : es[i]? = some (thash P w p.2, Value.ref p.1) := by
  rw [← Array.getElem?_toList, R.ent]
  refine (List.getElem?_map ..).trans ?_
  rw [h] <;> rfl
theorem whole (R : BigO P w s.heap a L es ep t) : ¬ t.gaveWay = true := by
  unfold SetTable.gaveWay
  rw [R.lay.wid.bounds.2.2]
  decide
end BigO
/-- a search, from its c-th place on: for adding, or for asking -/
theorem big_from (R : BigO P w s.heap a L es ep t) (tup : ∀ p ∈ L, IsT P w s.heap p.2 p.1) {x : Addr} {k : List Int} (hx : IsT P w s.heap k x) (hu : A.units < cLine) (adding : Bool) {n : Nat} (fuel : n < 10 * SetTable.turns t.mask)
    (out : way t.mask (thash P w k) n ∉ t.place.toList) (bef : ∀ c, c < n → way t.mask (thash P w k) c ∈ t.place.toList) {Q : SetFound → Shared → Prop}
    (yes : ∀ r, (adding = true → r = none) → (adding = false → r.isSome = true) → k ∈ L.map (·.2) → Q (.there r) s) (no : k ∉ L.map (·.2) → Q (.free (way t.mask (thash P w k) n) false) s) :
    ∀ (f c : Nat) (stand : Option SetTable.Probe), stand.getD (t.probeStart (thash P w k)) = pAt t.mask (thash P w k) c → c ≤ n → n - c < f →
      (∀ (i : Nat) p, L[i]? = some p → p.2 = k → ∃ d, c ≤ d ∧ d < n ∧ t.place.toList[i]? = some (way t.mask (thash P w k) d)) →
      wpAny (model P w) A (setSearchFrom a (.ref x) (thash P w k) adding f stand) Q E s
  | 0, _, _, _, _, lt, _ => absurd lt (Nat.not_lt_zero _)
  | f + 1, c, stand, st, cn, lt, left => by
    obtain ⟨o, ho, hex, hd⟩ := R.obj
    rw [setSearchFrom_succ]
    refine wpAny_bind (wpAny_setState_of ho hd R.fits ?_)
    dsimp only
    refine wp_if_neg R.whole ?_
    try refine wpAny_bind (wpAny_pure ?_)
    have step : ∀ q, (nth t.mask (pAt t.mask (thash P w k) c) q).j = way t.mask (thash P w k) (c + q) := fun q => congrArg SetTable.Probe.j (pAt_on t.mask (thash P w k) c q)
    have rest : n - c + c = n := Nat.sub_add_cancel cn
    have hash : ∀ (i : Nat) p, L[i]? = some p → (es[i]?.map (·.1)).getD 0 = thash P w p.2 := fun i p hp => by
      rw [R.row hp] <;> rfl
    have last : (nth t.mask (pAt t.mask (thash P w k) c) (n - c)).j = way t.mask (thash P w k) n := by rw [step, Nat.add_comm c, rest]
    have spec := go_spec t R.lay.up R.lay.bare (fun i => (es[i]?.map (·.1)).getD 0) (thash P w k) (10 * SetTable.turns t.mask) (n - c) _ (pAt_dummy t.mask (thash P w k) c) (by omega)
      (fun q hq => by rw [step]; exact bef (c + q) (by omega)) (by rw [last]; exact out)
    rcases spec with ⟨q, i, hq, hi, hh, before, pr⟩ | ⟨before, pr⟩
    · rw [step] at hi pr
      rw [show stand.getD (t.probeStart (thash P w k)) = pAt t.mask (thash P w k) c from st]
      rw [show t.probe (fun i => (es[i]?.map (·.1)).getD 0) (thash P w k) (pAt t.mask (thash P w k) c) = _ from pr]
      dsimp only
      have il : i < L.length := by
        have z := (List.getElem?_eq_some_iff.mp hi).1
        rw [Array.length_toList, R.many] at z
        exact z
      obtain ⟨p, hp⟩ : ∃ p, L[i]? = some p := ⟨_, List.getElem?_eq_getElem il⟩
      have mem : p ∈ L := List.mem_of_getElem? hp
      have live : t.slot (way t.mask (thash P w k) (c + q)) = .live i := slot_live R.lay.up hi
      have cont : wpAny (model P w) A (searchRest a (.ref x) (thash P w k) adding f es t (way t.mask (thash P w k) (c + q)) i (nth t.mask (pAt t.mask (thash P w k) c) (q + 1))) Q E s := by
        unfold searchRest
        rw [R.row hp]
        dsimp only
        refine wpAny_bind (wpAny_holding (wpAny_eqBool_tuple hu (tup p mem) hx ?_))
        refine wpAny_bind (wpAny_setState_of ho hd R.fits ?_)
        dsimp only
        by_cases kk : p.2 = k
        · have km : k ∈ L.map (·.2) := List.mem_map.mpr ⟨p, mem, kk⟩
          cases adding with
          | true =>
            refine wp_if_pos (by simp [kk]) ?_
            exact wpAny_pure (yes none (fun _ => rfl) (fun z => nomatch z) km)
          | false =>
            refine wp_if_neg (by simp) ?_
            try refine wpAny_bind (wpAny_pure ?_)
            rw [sameMem]
            dsimp only
            simp only [if_true, live, R.row hp]
            refine wpAny_bind (wpAny_isSame_ref_self (wpAny_bind (wpAny_pure ?_)))
            simp only [if_true]
            refine wp_if_pos (by simp [kk]) ?_
            exact wpAny_pure (yes (some i) (fun z => nomatch z) (fun _ => rfl) km)
        · refine wp_if_neg (by simp [kk]) ?_
          try refine wpAny_bind (wpAny_pure ?_)
          rw [sameMem]
          dsimp only
          simp only [if_true, live, R.row hp]
          refine wpAny_bind (wpAny_isSame_ref_self (wpAny_bind (wpAny_pure ?_)))
          simp only [if_true]
          refine wp_if_neg (by simp [kk]) ?_
          refine big_from R tup hx hu adding fuel out bef yes no f (c + (q + 1)) _ (pAt_on ..) (by omega) (by omega) fun i0 p0 h0 k0 => ?_
          obtain ⟨d, d1, d2, d3⟩ := left i0 p0 h0 k0
          refine ⟨d, Nat.lt_of_not_le fun le => ?_, d2, d3⟩
          have h1 : (es[i0]?.map (·.1)).getD 0 = thash P w k := (hash i0 p0 h0).trans (congrArg (thash P w) k0)
          have le2 : d ≤ c + q := le
          rcases Nat.lt_or_eq_of_le le2 with z | z
          · refine before (d - c) i0 (by omega) ?_ h1
            rw [step, show c + (d - c) = d by omega]
            exact d3
          · rw [z] at d3
            have two := live.symm.trans (slot_live R.lay.up d3)
            injection two with two
            rw [← two, hp] at h0
            exact kk ((congrArg Prod.snd (Option.some.inj h0)).trans k0)
      by_cases led : t.led = true
      · refine wp_if_neg (by simp [led]) ?_
        try refine wpAny_bind (wpAny_pure ?_)
        exact cont
      · refine wp_if_pos (by simp [led]) ?_
        refine wpAny_bind (seen_tup hx (fun y hy => ?_) (wp_if_neg (by decide) ?_))
        · obtain ⟨e, he, rfl⟩ := List.mem_map.mp hy
          have he2 : e ∈ es ∧ e.1 = thash P w k := by simpa using he
          have he3 : e ∈ rowsOf P w L := by
            rw [← R.ent]
            simpa using he2.1
          obtain ⟨p2, m2, rfl⟩ := List.mem_map.mp he3
          exact ⟨p2.2, p2.1, rfl, tup p2 m2⟩
        · try refine wpAny_bind (wpAny_pure ?_)
          exact cont
    · rw [last] at pr
      rw [show stand.getD (t.probeStart (thash P w k)) = pAt t.mask (thash P w k) c from st]
      rw [show t.probe (fun i => (es[i]?.map (·.1)).getD 0) (thash P w k) (pAt t.mask (thash P w k) c) = _ from pr]
      dsimp only
      refine wpAny_pure (no fun hm => ?_)
      obtain ⟨p0, m0, k0⟩ := List.mem_map.mp hm
      obtain ⟨i0, l0, e0⟩ := List.getElem_of_mem m0
      have h0 : L[i0]? = some p0 := (List.getElem?_eq_getElem l0).trans (congrArg some e0)
      obtain ⟨d, d1, d2, d3⟩ := left i0 p0 h0 k0
      refine before (d - c) i0 (by omega) ?_ ((hash i0 p0 h0).trans (congrArg (thash P w) k0))
      rw [step, show c + (d - c) = d by omega]
      exact d3
/-- the whole search -/
theorem big_search (R : BigO P w s.heap a L es ep t) (tup : ∀ p ∈ L, IsT P w s.heap p.2 p.1) {x : Addr} {k : List Int} (hx : IsT P w s.heap k x) (hu : A.units < cLine) (adding : Bool) {Q : SetFound → Shared → Prop}
    (yes : ∀ r, (adding = true → r = none) → (adding = false → r.isSome = true) → k ∈ L.map (·.2) → Q (.there r) s)
    (no : ∀ n, k ∉ L.map (·.2) → way t.mask (thash P w k) n ∉ t.place.toList → (∀ c, c < n → way t.mask (thash P w k) c ∈ t.place.toList) → Q (.free (way t.mask (thash P w k) n) false) s) :
    wpAny (model P w) A (setSearch a (.ref x) (thash P w k) adding) Q E s := by
  have g := R.gap
  obtain ⟨n, fuel, out, bef⟩ := R.lay.hole (by rw [List.length_map]; omega) (thash P w k)
  have big : n < 100000 := by
    have b := R.lay.wid.bounds.2.1
    unfold SetTable.turns at fuel
    omega
  unfold setSearch
  refine big_from R tup hx hu adding fuel out bef yes (fun nm => no n nm out bef) 100000 0 none rfl (Nat.zero_le _) (by omega) fun i p hp hk => ?_
  have hi : (hsh P w L)[i]? = some (thash P w k) := by
    refine (List.getElem?_map ..).trans ?_
    rw [hp, ← hk] <;> rfl
  have il : i < t.place.toList.length := by
    rw [Array.length_toList, R.many]
    exact (List.getElem?_eq_some_iff.mp hp).1
  obtain ⟨c, c1, c2⟩ := R.lay.ahead out hi (List.getElem?_eq_getElem il)
  exact ⟨c, Nat.zero_le c, c1, by rw [c2]; exact List.getElem?_eq_getElem il⟩
theorem BigO.typ (R : BigO P w s.heap a L es ep t) : s.TypeIs (.ref a) "set" := let ⟨o, ho, hex, _⟩ := R.obj; ⟨o, ho, hex.1⟩
/-- k in the set -/
theorem big_in (R : BigO P w s.heap a L es ep t) (tup : ∀ p ∈ L, IsT P w s.heap p.2 p.1) {x : Addr} {k : List Int} (hx : IsT P w s.heap k x) (hu : A.units + 64 < cLine) {Q : Value → Shared → Prop}
    (h : ∀ tk, Q (.bool (decide (k ∈ L.map (·.2)))) { s with toks := tk }) : wpAny (model P w) A (compareOp .In (.ref x) (.ref a)) Q E s := by
  show wpAny _ _ (do return .bool (← contains (.ref a) (.ref x))) Q E s
  refine wpAny_bind ?_
  unfold contains
  try with_reducible refine wpAny_holding ?_
  refine wpAny_bind (wpAny_specialOf R.typ F.slot_set_contains.lookup ?_)
  show wpAny _ _ (if (some (Value.builtin "set.__contains__") == some Value.none) = true then _ else _) _ E s
  rw [if_neg (by rw [beq_builtin_none]; exact Bool.false_ne_true)]
  refine wpAny_bind (wpAny_callSpecialUnlessNone?_slot (name := Str.ofString "__contains__") R.typ F.slot_set_contains
    (wpAny_call_entry F.slot_set_contains R.typ entry_set_contains ?_ (F.args_set_contains_2 _ _)))
  unfold Builtin.«frozenset.__contains__» Builtin.Frozenset.oneOther
  simp only [List.isEmpty_nil, bind_assoc]
  unfold Builtin.Frozenset.addrOf Builtin.Frozenset.withSetAsKey setContains
  refine wpAny_bind (wpAny_pure ?_)
  try dsimp only
  refine wpAny_bind (wpAny_pure ?_)
  try dsimp only
  refine wpAny_bind (wpAny_tryCatch ?_)
  refine wpAny_holding ?_
  refine wpAny_bind (wpAny_pyHash_tuple ?_ hx ?_)
  · show A.units + 1 < cLine
    omega
  have R2 : BigO P w ({ s with toks := s.toks + (k.length + 1) } : Shared).heap a L es ep t := R
  obtain ⟨o, ho, hex, hd⟩ := R2.obj
  have fin : ∀ r : Option Nat, r.isSome = decide (k ∈ L.map (·.2)) → wpAny (model P w) A (pure (Value.bool r.isSome)) (fun v s' => Q v s') E { s with toks := s.toks + (k.length + 1) } := fun r hr => by
    rw [hr]
    exact wpAny_pure (h _)
  refine wpAny_bind (Q := _) (m := setFind a (.ref x) (thash P w k)) ?_
  unfold setFind
  rw [show (100000 : Nat) = 99999 + 1 from rfl]
  unfold setFindIn
  refine wpAny_bind (wpAny_setState_of ho hd R2.fits ?_)
  dsimp only
  refine wp_if_neg (by simp [byScan, Value.scannable]) ?_
  try refine wpAny_bind (wpAny_pure ?_)
  refine wpAny_bind (big_search R2 tup hx (by show A.units + 1 < cLine; omega) false (fun r _ hr hm => ?_) (fun n nm out bef => ?_))
  · refine wpAny_pure ?_
    refine wpAny_pure ?_
    show wpAny _ _ (ret (Value.bool r.isSome)) _ _ _
    rw [hr rfl, ← decide_eq_true hm]
    exact wpAny_pure ⟨_, rfl, wpAny_truthy_bool (wpAny_pure (h _))⟩
  · refine wpAny_pure ?_
    refine wpAny_pure ?_
    show wpAny _ _ (ret (Value.bool (none : Option Nat).isSome)) _ _ _
    rw [show (none : Option Nat).isSome = decide (k ∈ L.map (·.2)) from (decide_eq_false nm).symm]
    exact wpAny_pure ⟨_, rfl, wpAny_truthy_bool (wpAny_pure (h _))⟩

theorem grow_size {n m : Nat} (wd : Wid m) (lt : n * 5 < m * 3) (ge : (n + 1) * 5 ≥ m * 3) (few : n + 1 < 4915) : ∃ M, SetTable.sizeAbove (SetTable.grown (n + 1)) = M + 1 ∧ Wid M ∧ (n + 1) * 5 < M * 3 ∧ M ≤ 8191 := by
  rcases wd with e | e | e | e | e | e
  · obtain rfl : n = 4 := by omega
    exact ⟨31, by decide +kernel, .inr (.inl rfl), by omega, by omega⟩
  · obtain rfl : n = 18 := by omega
    exact ⟨127, by decide +kernel, .inr (.inr (.inl rfl)), by omega, by omega⟩
  · obtain rfl : n = 76 := by omega
    exact ⟨511, by decide +kernel, .inr (.inr (.inr (.inl rfl))), by omega, by omega⟩
  · obtain rfl : n = 306 := by omega
    exact ⟨2047, by decide +kernel, .inr (.inr (.inr (.inr (.inl rfl)))), by omega, by omega⟩
  · obtain rfl : n = 1228 := by omega
    exact ⟨8191, by decide +kernel, .inr (.inr (.inr (.inr (.inr rfl)))), by omega, by omega⟩
  · omega
/-- the set's table laid out anew, larger -/
theorem big_relay {o : Obj} (ho : s.heap.get? a = some o) (hex : o.ExactSet) (hd : o.data = .set es ep t) (ent : es.toList = rowsOf P w L) (lay : Lay t (hsh P w L)) (le : L.length ≤ t.mask)
    (dif : (L.map (·.2)).Nodup) (pln : t.plain = true) (seq : w.params.followText "set-order" = true ∨ t.led = true) {wanted M : Nat}
    (hw : SetTable.sizeAbove wanted = M + 1) (wd : Wid M) (room : L.length * 5 < M * 3) {Q : Unit → Shared → Prop}
    (q : ∀ g L2 es2 ep2 t2, Heap.SameBut a s.heap g → BigO P w g a L2 es2 ep2 t2 → L2.Perm L → Q () { s with heap := g }) : wpAny (model P w) A (setRelay a wanted) Q E s := by
  have sz : es.size = L.length := rowsOf_len ent
  have many : t.place.size = L.length := lay.many.trans (List.length_map ..)
  have fits : t.fits es.size = true := by
    unfold SetTable.fits SetTable.fill
    rw [Bool.and_eq_true, beq_iff_eq, decide_eq_true_eq, lay.bare, many, sz]
    exact ⟨rfl, by show L.length + 0 ≤ _; omega⟩
  have bM := wd.bounds
  obtain ⟨t2, order, e, pm, lay2, em, el, ep2⟩ := wd.relaid t (hs := es.map (·.1)) (wanted := wanted) (by omega) (by rw [Array.size_map, sz]; omega)
  rw [Array.size_map, sz] at pm
  obtain ⟨L2, r1, r2, r3⟩ := order_rows L es order ent pm
  have lay3 : Lay t2 (hsh P w L2) := by
    show Lay t2 (L2.map fun p => thash P w p.2)
    rw [r3]
    exact lay2
  have sz2 : (order.filterMap (es[·]?)).size = es.size := by rw [rowsOf_len r1, r2.length_eq, sz]
  rw [setRelay_eq]
  refine wpAny_bind (wpAny_setState_of ho hd fits ?_)
  dsimp only
  refine wp_if_neg (by rw [hw, sizeLine_eq]; omega) ?_
  try refine wpAny_bind (wpAny_pure ?_)
  rw [e]
  dsimp only
  refine wpAny_bind (wp_if_neg (by rw [sz2]; simp) ?_)
  try refine wpAny_bind (wpAny_pure ?_)
  refine wpAny_pure ?_
  dsimp only
  refine wpAny_storeSet_of ho hd ?_ (by rw [sz2, sz, sizeLine_eq]; omega)
  refine q _ L2 (order.filterMap (es[·]?)) (ep + 1) t2 (Heap.SameBut.update ..) ?_ r2
  exact ⟨⟨_, store_at ho hd, ⟨hex.1, hex.2.1, hex.2.2⟩, rfl⟩, r1, lay3, (r2.map (·.2)).nodup_iff.mpr dif, ep2.trans pln, by rw [el]; exact seq, by rw [r2.length_eq, em]; exact room⟩
/-- one more tuple -/
theorem big_add (R : BigO P w s.heap a L es ep t) (tup : ∀ p ∈ L, IsT P w s.heap p.2 p.1) {x : Addr} {k : List Int} (hx : IsT P w s.heap k x) (hu : A.units < cLine) (few : L.length + 1 < 4915) {Q : Bool → Shared → Prop}
    (q : ∀ b g L2 es2 ep2 t2, Heap.SameBut a s.heap g → BigO P w g a L2 es2 ep2 t2 → (k ∈ L.map (·.2) → L2 = L) → (k ∉ L.map (·.2) → L2.Perm ((x, k) :: L)) → Q b { s with heap := g }) :
    wpAny (model P w) A (setAddHashed a (.ref x) (thash P w k)) Q E s := by
  obtain ⟨o, ho, hex, hd⟩ := R.obj
  have sz := R.size
  unfold setAddHashed
  refine wpAny_holding ?_
  rw [show (100000 : Nat) = 99999 + 1 from rfl, setAddHashedIn_succ]
  refine wpAny_bind (wpAny_setState_of ho hd R.fits ?_)
  dsimp only
  refine wp_if_neg (by simp [byScan, Value.scannable]) ?_
  try refine wpAny_bind (wpAny_pure ?_)
  refine wpAny_bind (big_search R tup hx hu true (fun r hr _ hm => ?_) fun n nm out bef => ?_)
  · dsimp only
    exact wpAny_pure (q false s.heap L es ep t (Heap.SameBut.refl a s.heap) R (fun _ => rfl) fun z => absurd hm z)
  dsimp only
  refine wpAny_bind (wpAny_setState_of ho hd R.fits ?_)
  dsimp only
  obtain ⟨le, lay1, fill1⟩ := R.lay.put out bef
  have m1 : (t.put (way t.mask (thash P w k) n)).1.mask = t.mask := rfl
  have p1 : (t.put (way t.mask (thash P w k) n)).1.plain = true := R.pln
  have l1 : w.params.followText "set-order" = true ∨ (t.put (way t.mask (thash P w k) n)).1.led = true := R.seq
  have at1 : (t.put (way t.mask (thash P w k) n)).2 = SetTable.below t.place (way t.mask (thash P w k) n) := rfl
  generalize hp1 : t.put (way t.mask (thash P w k) n) = pt at lay1 fill1 m1 p1 l1 at1 ⊢
  obtain ⟨t1, i⟩ := pt
  dsimp only at lay1 fill1 m1 p1 l1 at1 ⊢
  rw [← at1] at lay1
  first
    | (refine wpAny_bind ?_; refine wp_if_pos p1 ?_; refine hashBy_tup hx ?_)
    | refine wp_if_pos p1 (wpAny_bind (hashBy_tup hx ?_))
  simp only [if_true]
  have pm := put_perm L i (x, k)
  have ent1 : (SetTable.insertAt es i (thash P w k, Value.ref x)).toList = rowsOf P w (L.take i ++ (x, k) :: L.drop i) := by
    rw [SetTable.toList_insertAt, rows_put, R.ent]
  have lay2 : Lay t1 (hsh P w (L.take i ++ (x, k) :: L.drop i)) := by
    show Lay t1 ((L.take i ++ (x, k) :: L.drop i).map fun p => thash P w p.2)
    rw [List.map_append, List.map_cons, List.map_take, List.map_drop]
    exact lay1
  generalize SetTable.insertAt es i (thash P w k, Value.ref x) = es1 at ent1 ⊢
  generalize L.take i ++ (x, k) :: L.drop i = L1 at pm ent1 lay2
  have len1 : L1.length = L.length + 1 := pm.length_eq
  have sz1 : es1.size = L.length + 1 := (rowsOf_len ent1).trans len1
  have dif1 : (L1.map (·.2)).Nodup := (pm.map (·.2)).nodup_iff.mpr (by rw [List.map_cons]; exact List.nodup_cons.mpr ⟨nm, R.dif⟩)
  refine wpAny_bind (wpAny_storeSet_of ho hd ?_ (by rw [sz1, sizeLine_eq]; omega))
  have ho1 := store_at (es' := es1) (t' := t1) ho hd
  have sb : Heap.SameBut a s.heap (s.heap.update a (Obj.putSet es1 t1)) := Heap.SameBut.update ..
  generalize s.heap.update a (Obj.putSet es1 t1) = g1 at ho1 sb ⊢
  have gap := R.gap
  rw [List.length_map] at fill1
  by_cases full : t1.tooFull = true
  · have ge : (L.length + 1) * 5 ≥ t.mask * 3 := by
      have z := full
      unfold SetTable.tooFull at z
      rw [decide_eq_true_eq, fill1, m1] at z
      exact z
    obtain ⟨M, e1, e2, e3, e4⟩ := grow_size R.lay.wid gap ge few
    first
      | (refine wpAny_bind ?_; refine wp_if_pos (by simp [full]) ?_)
      | (refine wp_if_pos (by simp [full]) ?_; refine wpAny_bind ?_)
    rw [sz]
    refine big_relay (s := { s with heap := g1 }) ho1 ⟨hex.1, hex.2.1, hex.2.2⟩ rfl ent1 lay2 (by rw [len1, m1]; have := R.lay.wid.bounds; omega) dif1 p1 l1 e1 e2 (by rw [len1]; exact e3) fun g2 L2 es2 ep2 t2 sb2 R2 pm2 => ?_
    exact wpAny_pure (q true g2 L2 es2 ep2 t2 (sb.trans sb2) R2 (fun z => absurd z nm) fun _ => pm2.trans pm)
  · first
      | refine wp_if_neg (by simp [full]) ?_
      | (refine wpAny_bind ?_; refine wp_if_neg (by simp [full]) ?_; refine wpAny_pure ?_)
    refine wpAny_pure (q true g1 L1 es1 (ep + 1) t1 sb ⟨⟨_, ho1, ⟨hex.1, hex.2.1, hex.2.2⟩, rfl⟩, ent1, lay2, dif1, p1, l1, ?_⟩ (fun z => absurd z nm) fun _ => pm)
    have z := full
    unfold SetTable.tooFull at z
    rw [decide_eq_true_eq, fill1, m1] at z
    rw [len1, m1]
    omega
end
end L2

end
section
set_option maxRecDepth 100000
set_option maxHeartbeats 2000000
namespace L2
open PySem PySem.Spec PyProof.Rows
section
variable {P : Program} {w : World} {A : Around} {E : Value → Shared → Prop} {s : Shared}
variable {a : Addr} {L : List (Addr × List Int)} {es : Array (Int × Value)} {ep : Nat} {t : SetTable}
/-- the call that adds -/
theorem big_add_call (R : BigO P w s.heap a L es ep t) (tup : ∀ p ∈ L, IsT P w s.heap p.2 p.1) {x : Addr} {k : List Int} (hx : IsT P w s.heap k x) (hu : A.units + 64 < cLine) (few : L.length + 1 < 4915) {Q : Value → Shared → Prop}
    (h : ∀ g tk L2 es2 ep2 t2, Heap.SameBut a s.heap g → BigO P w g a L2 es2 ep2 t2 → (k ∈ L.map (·.2) → L2 = L) → (k ∉ L.map (·.2) → L2.Perm ((x, k) :: L)) → Q .none { s with heap := g, toks := tk }) :
    wpAny (model P w) A (call (.builtin "set.add") [.ref a, .ref x]) Q E s := by
  refine wpAny_call_entry F.slot_set_add R.typ F.entry_set_add ?_ (F.args_set_add_2 _ _)
  unfold Builtin.«set.add» Builtin.Frozenset.oneOther
  simp only [List.isEmpty_nil, bind_assoc]
  unfold Builtin.Frozenset.addrOf setAdd
  refine wpAny_bind (wpAny_pure ?_)
  try dsimp only
  refine wpAny_bind (wpAny_pure ?_)
  try dsimp only
  refine wpAny_bind (wpAny_holding (wpAny_bind (wpAny_pyHash_tuple (by show A.units + 1 < cLine; omega) hx ?_)))
  have R2 : BigO P w ({ s with toks := s.toks + (k.length + 1) } : Shared).heap a L es ep t := R
  refine big_add (s := { s with toks := s.toks + (k.length + 1) }) R2 tup hx (by show A.units + 1 < cLine; omega) few fun b g L2 es2 ep2 t2 sb R3 c1 c2 => ?_
  show wpAny _ _ (ret Value.none) _ _ _
  exact wpAny_pure ⟨_, rfl, h g _ L2 es2 ep2 t2 sb R3 c1 c2⟩
/-- the set() that was just made -/
theorem bigO_new {h : Heap} {a : Addr} (ho : h.get? a = some { cls := .type "set", dict := none, data := .set #[] 0 (.fresh 0 0 (!w.params.followText "set-order")) }) : BigO P w h a [] #[] 0 (.fresh 0 0 (!w.params.followText "set-order")) := by
  refine ⟨⟨_, ho, ⟨rfl, rfl, rfl⟩, rfl⟩, rfl, ⟨.inl rfl, .nil, rfl, rfl, (fun j hj => nomatch hj), (fun i g j h => nomatch h)⟩, .nil, rfl, ?_, by show 0 * 5 < 7 * 3; decide⟩
  show _ ∨ (!w.params.followText "set-order") = true
  cases w.params.followText "set-order"
  · exact .inr rfl
  · exact .inl rfl
end
section
/-- as an object of the heap -/
def BigSet (P : Program) (w : World) (h : Heap) (a : Addr) (L : List (Addr × List Int)) : Prop := ∃ es ep t, BigO P w h a L es ep t
def BigHO (P : Program) (w : World) (a : Addr) (L : List (Addr × List Int)) : HO := .ext fun h => BigSet P w h a L
theorem bigHO_new {P : Program} {w : World} {H : Hp} {h : Heap} {a : Addr} {L : List (Addr × List Int)} (R : BigSet P w h a L) : ObjOk P w H h a (BigHO P w a L) := by
  have ⟨es, ep, t, B⟩ := R
  have ⟨o, ho, _⟩ := B.obj
  refine ⟨R, ⟨o, ho⟩, fun h1 h2 p k => ?_⟩
  have ⟨es', ep', t', B'⟩ := (p : BigSet P w h1 a L)
  have ⟨o', ho', r'⟩ := B'.obj
  exact ⟨es', ep', t', ⟨⟨o', k o' ho', r'⟩, B'.ent, B'.lay, B'.dif, B'.pln, B'.seq, B'.gap⟩⟩
variable {X : Cx}
/-- a's set has the tuples L, and they are still there to be read -/
def HasB (K : PySem.W.Frag) (P : Program) (w : World) (H : Hp) (a : Addr) (L : List (Addr × List Int)) : Prop := H a = some (BigHO P w a L) ∧ ∀ p ∈ L, SqT K H p.1 (p.2.map V.int)
theorem HasB.get {pins : List (Addr × Obj)} {σ : St} {H : Hp} {s : Shared} {a : Addr} {L : List (Addr × List Int)} (I : Inv X pins σ H s) (h : HasB X.K X.prog X.w H a L) :
    (∃ es ep t, BigO X.prog X.w s.heap a L es ep t) ∧ ∀ p ∈ L, IsT X.prog X.w s.heap p.2 p.1 := ⟨(I.hok a _ h.1).1, fun p hp => I.isT (h.2 p hp)⟩
def rB0 (P : Program) (w : World) : List V → Hp → VK → Prop := fun vs H Q => vs = [] ∧ ∀ p, H p = none → Q (.ref p) (upd H p (BigHO P w p []))
theorem cr_b0 : CallR X (.type "set") (rB0 X.prog X.w) := by
  intro pins s σ H vs us Q I r h
  obtain ⟨rfl, q⟩ := h
  cases r
  refine setR_new fun _ => ?_
  have R := bigO_new (P := X.prog) (w := X.w) (h := s.heap.push { cls := .type "set", dict := none, data := .set #[] 0 (.fresh 0 0 (!X.w.params.followText "set-order")) }) (a := s.heap.objs.size) (Heap.get?_push_size _ rfl)
  exact ⟨.ref _, _, I.laid (t' := s.toks) (fun b u e => Heap.get?_push_of_some _ e) (Nat.le_refl _) (bigHO_new ⟨_, _, _, R⟩), rfl, q _ (I.hok.fresh (Nat.le_refl _))⟩
def rBIn (K : PySem.W.Frag) (P : Program) (w : World) : V → V → Hp → VK → Prop := fun x y H Q => ∃ (b a : Addr) (k : List Int) (L : List (Addr × List Int)), x = V.ref b ∧ y = V.ref a ∧ SqT K H b (k.map V.int) ∧ HasB K P w H a L ∧ Q (.bl (decide (k ∈ L.map (·.2)))) H
theorem or_bIn (hu : X.A.units + 64 < cLine) : OpR X (compareOp .In) (rBIn X.K X.prog X.w) := by
  intro pins s σ H x y v u Q I rx ry h
  obtain ⟨b, a, k, L, rfl, rfl, hb, ha, q⟩ := h
  cases rx
  cases ry
  obtain ⟨⟨es, ep, t, R⟩, tup⟩ := ha.get I
  exact big_in R tup (I.isT hb) hu fun tk => ⟨.bl _, H, I.tok _, rfl, q⟩
theorem bIn_ {K : PySem.W.Frag} (P : Program) (w : World) (hu : X.A.units + 64 < cLine) (hP : X.prog = P := by rfl) (hw : X.w = w := by rfl) (hK : X.K = K := by rfl) : OpR X (compareOp .In) (rBIn K P w) := by subst hK hP hw; exact or_bIn hu
def rBAdd (K : PySem.W.Frag) (P : Program) (w : World) : V → List V → Hp → VK → Prop := fun x vs H Q => ∃ (a b : Addr) (k : List Int) (L : List (Addr × List Int)), x = V.ref a ∧ vs = [V.ref b] ∧ SqT K H b (k.map V.int) ∧ HasB K P w H a L ∧ L.length + 1 < 4915 ∧
  (k ∈ L.map (·.2) → Q .non (upd H a (BigHO P w a L))) ∧ (k ∉ L.map (·.2) → ∀ L2, L2.Perm ((b, k) :: L) → Q .non (upd H a (BigHO P w a L2)))
theorem mt_bAdd (hu : X.A.units + 64 < cLine) : MtR X "set.add" (rBAdd X.K X.prog X.w) := by
  intro pins s σ H x vs v us Q I rx rxs h
  obtain ⟨a, b, k, L, rfl, rfl, hb, ha, few, q1, q2⟩ := h
  cases rx
  rw [Vals.ref1 rxs]
  obtain ⟨⟨es, ep, t, R⟩, tup⟩ := ha.get I
  refine big_add_call R tup (I.isT hb) hu few fun g tk L2 es2 ep2 t2 sb R2 c1 c2 => ?_
  obtain ⟨o2, ho2, _⟩ := R2.obj
  refine ⟨.non, _, I.write (e := a) (t' := tk) (by rw [ha.1]; trivial) (.inl rfl) (fun c u hc hu => (sb.2 c hc).trans hu) ⟨o2, ho2⟩ (bigHO_new ⟨_, _, _, R2⟩), rfl, ?_⟩
  by_cases m : k ∈ L.map (·.2)
  · rw [c1 m]
    exact q1 m
  · exact q2 m L2 (c2 m)
def tBAdd (K : PySem.W.Frag) (P : Program) (w : World) (to : TE) (t : TA) : TE := fun σ H Q => to σ H fun x H1 => (∃ a L, x = V.ref a ∧ H1 a = some (BigHO P w a L)) ∧ t σ H1 fun xs H2 => rBAdd K P w x xs H2 Q
variable {o e : Expr} {es : List Expr} {to : TE} {t : TA} {apos cpos : Pos}
theorem pe_bAdd (hu : X.A.units + 64 < cLine) (ho : PE X o to) (ha : PA X (e :: es) t)
    (late : attributeBase o "add" X.env (eval o X.env) = eval o X.env := by rfl)
    (less30 : ((backTo cpos (starEach (e :: es) X.env)).all (fun x => !x.1) && (backToKw cpos (keywordEach [] X.env)).all (fun x => x.1.isSome)
        && decide ((e :: es).length + ([] : List Keyword).length + (if ([] : List Keyword).isEmpty then 0 else 1) < 30)) = true := by rfl)
    (oneRow : (apos.endLine == cpos.line) = true := by rfl) (first1 : starEach (e :: es) X.env = (false, eval e X.env) :: starEach es X.env := by rfl)
    (noStar : (backTo cpos (starEach es X.env)).any (·.1) = false := by rfl) : PE X (.Call (.Attribute o "add" apos) (e :: es) [] cpos) (tBAdd X.K X.prog X.w to t) := by
  refine ⟨fun pins s σ H Q I h => ?_⟩
  refine wpAny_Call_method_late late less30 oneRow rfl (thn (ho.run pins s σ H _ I h) fun v s1 ⟨x, H1, I1, r1, ⟨a, L, ex, hka⟩, q1⟩ => ?_)
  subst ex
  obtain ⟨es0, ep0, t0, B⟩ := (show BigSet X.prog X.w s1.heap a L from (I1.hok a _ hka).1)
  obtain ⟨o0, ho0, hex0, _⟩ := B.obj
  cases r1
  refine ⟨"set", "set.add", F.plainAttrs_set, F.slot_set_add, F.type_set_add, ⟨o0, ho0, hex0.1⟩, fun b eb => ?_, ?_⟩
  · obtain rfl : a = b := by injection eb
    exact ⟨o0, ho0, by first | exact hex0.2.1 | exact hex0.2.2⟩
  have hA := ha.run cpos pins s1 σ H1 _ I1 q1
  rw [first1] at hA ⊢
  refine Calls.callWith_builtin (by show (false || (backTo cpos (starEach es X.env)).any (·.1)) = false; rw [noStar] <;> rfl) (Calls.evalArgs_plain ?_)
  exact thn hA fun us s2 ⟨vs, H2, I2, r2, q2⟩ => mt_bAdd hu pins s2 σ H2 (.ref a) vs (.ref a) us Q I2 rfl r2 q2
end
end L2

end
section
set_option maxRecDepth 100000
set_option maxHeartbeats 2000000
namespace L2
open PySem PySem.Spec PyProof.Rows
/-! ### enumerate(t), t a tuple -/
theorem eT_new {v : Value} {o : Obj} {G : Heap → Prop} (B : Begins v o G) :
    Meets (Builtin.«enumerate.__new__» ⟨[.type "enumerate", v], []⟩) (fun _ R s => G s.heap ∧
      R (.ok (.ret (.ref (s.heap.push o).objs.size))) { s with heap := (s.heap.push o).push { cls := .type "enumerate", data := .fields #[.none, .bool false, .ref s.heap.objs.size, rawInt 0, .none, .none] } }) :=
  .of_wp fun prog w A R s h => by
    obtain ⟨hp, g, d, tk, os⟩ := s
    obtain ⟨h1, h⟩ := h
    have hsub := sub_enumerate
    have q1 : ∀ {A' : Around} {E : Value → Shared → Prop} {Q : Value → Shared → Prop}, Q (.ref hp.objs.size) ⟨hp.push o, g, d, tk, os⟩ → wpAny (model prog w) A' (pyIter v) Q E ⟨hp, g, d, tk, os⟩ :=
      fun q => B.iter prog w _ _ ⟨hp, g, d, tk, os⟩ _ h1 q
    wp_walk using q1
    refine wpAny_stack_any fun st => wpAny_pure ?_
    split
    · rename_i c _ _ _ _ _
      cases (c == Value.type "enumerate")
      · wp_walk using q1
        exact ⟨_, rfl, h⟩
      · wp_walk using q1
        exact ⟨_, rfl, h⟩
    · wp_walk using q1
      exact ⟨_, rfl, h⟩
section
variable {prog : Program} {w : World} {A : Around} {E : Value → Shared → Prop} {s : Shared}
theorem eT_call {v : Value} {o : Obj} {G : Heap → Prop} {Q : Value → Shared → Prop} (B : Begins v o G) (h1 : G s.heap)
    (h : ∀ h', IsEnum h' (s.heap.objs.size + 1) s.heap.objs.size 0 .none → h'.get? s.heap.objs.size = some o → (∀ b o, s.heap.get? b = some o → h'.get? b = some o) → Q (.ref (s.heap.objs.size + 1)) { s with heap := h' }) :
    wpAny (model prog w) A (call (.type "enumerate") [v]) Q E s := by
  refine callType_new F.called_enumerate (by decide) (F.typeCall_enumerate_1 _) (F.newCall_enumerate_1 _) (fun obj => F.args_object_init_2 obj _) F.entry_enumerate_new (eT_new B) ⟨h1, ?_⟩
  have sz : (s.heap.push o).objs.size = s.heap.objs.size + 1 := Heap.size_push ..
  show _ ∧ _
  rw [sz]
  have new : IsEnum ((s.heap.push o).push { cls := .type "enumerate", data := .fields #[.none, .bool false, .ref s.heap.objs.size, rawInt 0, .none, .none] }) (s.heap.objs.size + 1) s.heap.objs.size 0 .none := by
    have z := Heap.get?_push_size (s.heap.push o) (o := { cls := .type "enumerate", data := .fields #[.none, .bool false, .ref s.heap.objs.size, rawInt 0, .none, .none] }) rfl
    rw [sz] at z
    exact z
  exact ⟨⟨_, new, rfl⟩, h _ new (Heap.get?_push_of_some _ (Heap.get?_push_size _ B.free)) fun b o x => Heap.get?_push_of_some _ (Heap.get?_push_of_some _ x)⟩
end
/-- the turns of enumerate(t), t the tuple at a -/
def IteT (K : PySem.W.Frag) (a : Addr) (n : Nat) : It :=
  ⟨fun i H => i < n ∧ ∃ (xs : List V) (x : V), SqT K H a xs ∧ xs[i]? = some x, fun i H v H' => ∃ T x, v = .ref T ∧ H T = none ∧ H' = upd H T (.tup [.int (i : Nat), x]) ∧ ∀ xs, SqT K H a xs → xs[i]? = some x, fun i H => n ≤ i ∧ ∃ xs : List V, SqT K H a xs ∧ xs.length = n⟩
theorem turn_enumT {P : Program} {w : World} {K : PySem.W.Frag} {elts : List Expr} {kk : Nat} {tpos : Pos} (a e it : Addr) (n : Nat) :
    Turn P w K (.Tuple elts kk tpos) (IteT K a n) [e, it] e (fun i h => i ≤ n ∧ (∃ old, IsEnum h e it ((i : Nat) : Int) old) ∧ h.IsTupleIter it a i ∧ e ≠ it ∧ a ≠ it) where
  mem := by simp
  obj := fun i h st b hb => by
    obtain ⟨_, ⟨old, he⟩, ⟨o, ho, hc, hd⟩, _⟩ := st
    rcases (show b = e ∨ b = it by simpa using hb) with z | z
    · rw [z]; exact ⟨_, he, fun v q => nomatch q⟩
    · rw [z]; exact ⟨o, ho, fun v q => by rw [hd] at q; cases q⟩
  keep := fun i h h' st k => by
    obtain ⟨le, ⟨old, he⟩, ⟨o, ho, r⟩, n1, n2⟩ := st
    exact ⟨le, ⟨old, k e (by simp) _ he⟩, ⟨o, k it (by simp) o ho, r⟩, n1, n2⟩
  item := by
    intro X hP hw hK hc i pins s σ H E I hf st hg
    subst hP hw hK
    obtain ⟨le, ⟨old, he⟩, hit, hne, nai⟩ := st
    obtain ⟨ltn, xs, x, hq, hx⟩ := hg
    obtain ⟨its, rv, p, hz⟩ := I.tuple hq
    obtain ⟨u, hu, ru⟩ := rv.get hx
    have hel : e < s.heap.objs.size := Heap.lt_size he
    have hil : it < s.heap.objs.size := by obtain ⟨_, q, _⟩ := hit; exact Heap.lt_size q
    have nea : e ≠ a := fun z => by
      obtain ⟨o, ho, hcl, _⟩ := p
      have he2 := he
      rw [z] at he2
      have q := ho.symm.trans he2
      cases q
      exact absurd (Value.type.inj hcl) (by decide)
    have iu : i < its.toArray.size := by
      have z := (List.getElem?_eq_some_iff.mp hu).1
      simpa using z
    refine wpAny_pyNext_enum_itemD (Draws.tuple (A := X.A.in1) (I.ok.hd hc) it a nai its.toArray) he ⟨hit, p⟩ iu hne (by simp [hne, nea]) fun v h' tk hv ho st' hT hsz hk => ?_
    have ev : v = u := by
      have hv' : its.toArray[i]? = some v := hv
      have hu' : its.toArray[i]? = some u := by simpa using hu
      rw [hu'] at hv'
      exact (Option.some.inj hv').symm
    subst ev
    refine ⟨_, rfl, wpAny_letOwnedTupleGo_enum (s := { s with heap := h', toks := tk + 1 }) ho fun h'' he' sb => ?_⟩
    have hT2 : h''.get? s.heap.objs.size = some { cls := .type "tuple", data := .seq #[.int i tk, v] } := (sb.2 _ (Nat.ne_of_gt hel)).trans hT
    have new : ObjOk X.prog X.w (upd H s.heap.objs.size (.tup [.int (i : Nat), x])) h'' s.heap.objs.size (.tup [.int (i : Nat), x]) :=
      ⟨by show 2 ≤ sizeLine; decide, [.int i tk, v], .cons ⟨_, rfl⟩ (.cons ru .nil), ⟨_, hT2, rfl, _, rfl⟩⟩
    have I1 : Inv X pins σ (upd H s.heap.objs.size (.tup [.int (i : Nat), x])) { s with heap := h'', toks := tk + 1 } :=
      I.turnedNew (ch := [e, it]) (fun b ob hb q => (sb.2 b (fun z => hb (by simp [z]))).trans (hk b ob (fun z => hb (by simp [z])) (fun z => hb (by simp [z])) q)) hf (Nat.le_refl _) new
    refine ⟨.ref s.heap.objs.size, _, I1, rfl, ⟨_, x, rfl, I.hok.fresh (Nat.le_refl _), rfl, fun ys hy => by rw [I.tuple_inj hy hq]; exact hx⟩, ⟨ltn, ⟨v, ?_⟩, ?_, hne, nai⟩, fun b hb => ?_⟩
    · have e1 : ((i + 1 : Nat) : Int) = (i : Int) + 1 := by omega
      rw [e1]; exact he'
    · obtain ⟨o, ho2, r⟩ := st'.1
      exact ⟨o, (sb.2 it (Ne.symm hne)).trans ho2, r⟩
    · have lt : b < s.heap.objs.size := by
        rcases (show b = e ∨ b = it by simpa using hb) with z | z
        · rw [z]; exact hel
        · rw [z]; exact hil
      rw [upd_ne (Nat.ne_of_lt lt)]
      exact (hf b hb).1
  done := by
    intro X hP hw hK hc i pins s σ H E I hf st hg
    subst hP hw hK
    obtain ⟨le, ⟨old, he⟩, hit, hne, nai⟩ := st
    obtain ⟨gen, xs, hq, hx⟩ := hg
    obtain ⟨its, rv, p, hz⟩ := I.tuple hq
    obtain ⟨f0, f1, f2, f3, f4, f5⟩ := hf it (by simp)
    have ei : i = its.toArray.size := by
      rw [List.size_toArray, ← rv.length]
      omega
    rw [ei] at hit
    exact wpAny_pyNext_enum_endD (Draws.tuple (A := X.A.in1) (I.ok.hd hc) it a nai its.toArray) he ⟨hit, p⟩ fun h' eb => ⟨rfl, I.turned (t' := s.toks) (fun b o hb q => eb b o hb q) f0 f1 f3 f4 f5⟩
  self := fun A i s Q E st h => let ⟨_, ⟨_, he⟩, _⟩ := st; wpAny_pyIter_enum he h
/-- enumerate(x), x a list or a tuple -/
def iEnumA (K : PySem.W.Frag) (ta : TA) : TI := fun σ H R => ta σ H fun vs H1 => ∃ a xs, vs = [.ref a] ∧ ((SqL K H1 a xs ∧ R (Ite K a) H1) ∨ (SqT K H1 a xs ∧ R (IteT K a xs.length) H1))
theorem pi_enumA {X : Cx} {e : Expr} {ta : TA} {p pos tpos : Pos} {elts : List Expr} {kk : Nat} (hg : Gl X "enumerate") (hm : X.mg "enumerate" = none) (ha : PA X [e] ta) (hs : starEach [e] X.env = [(false, eval e X.env)] := by rfl) :
    PI X (.Tuple elts kk tpos) (.Call (.Name "enumerate" p) [e] [] pos) (iEnumA X.K ta) := by
  refine ⟨fun pins s σ H R I h => ?_⟩
  refine Call_ (ld_blt I hg hm boot_enumerate (PyProof.Rows.callWith_type1 (thn (ha.run pos pins s σ H _ I h) fun us s1 ⟨vs, H1, I1, r1, q1⟩ => ?_) hs rfl))
  obtain ⟨a, xs, ex, q⟩ := q1
  subst ex
  cases r1 with
  | cons r rr =>
    cases rr
    cases r
    have fp : ∀ b ∈ [s1.heap.objs.size + 1, s1.heap.objs.size], s1.heap.objs.size ≤ b := fun b hb => by
      rcases (show b = s1.heap.objs.size + 1 ∨ b = s1.heap.objs.size by simpa using hb) with z | z
      · rw [z]; exact Nat.le_succ _
      · rw [z]; exact Nat.le_refl _
    rcases q with ⟨hq, q⟩ | ⟨hq, q⟩
    · obtain ⟨its, rv, p', hz⟩ := I1.list hq
      refine eT_call (begins_list a its.toArray) p'.isList fun h' he hit hk => wpAny_pyIter_enum he ?_
      exact ⟨_, _, _, _, H1, rfl, I1.kept (t' := s1.toks) hk, turn_enum a (s1.heap.objs.size + 1) s1.heap.objs.size, ⟨⟨.none, he⟩, ⟨_, hit, rfl, rfl⟩, Nat.succ_ne_self _⟩, fun b hb => I1.fpOk (fp b hb) (I1.hok.fresh (fp b hb)), q⟩
    · obtain ⟨its, rv, p', hz⟩ := I1.tuple hq
      have lt : a < s1.heap.objs.size := let ⟨_, ho, _⟩ := p'; Heap.lt_size ho
      refine eT_call (begins_tuple a its.toArray) p' fun h' he hit hk => wpAny_pyIter_enum he ?_
      exact ⟨_, _, _, _, H1, rfl, I1.kept (t' := s1.toks) hk, turn_enumT a (s1.heap.objs.size + 1) s1.heap.objs.size xs.length, ⟨Nat.zero_le _, ⟨.none, he⟩, ⟨_, hit, rfl, rfl⟩, Nat.succ_ne_self _, Nat.ne_of_lt lt⟩, fun b hb => I1.fpOk (fp b hb) (I1.hok.fresh (fp b hb)), q⟩
theorem walk_enumT {K : PySem.W.Frag} {a : Addr} {xs : List V} : Walk (IteT K a xs.length) xs.length (fun H => SqT K H a xs) (YPair (fun i => some (.int (i : Nat))) (fun i => xs[i]?)) := by
  refine ⟨fun i _ hi q => ⟨hi, xs, xs[i], q, by simp [hi]⟩, fun _ q => ⟨Nat.le_refl _, xs, q, rfl⟩, fun i H v H' _ q y => ?_⟩
  obtain ⟨T, x, h1, h2, h3, h4⟩ := y
  exact ⟨T, .int (i : Nat), x, h1, h2, h3, rfl, h4 xs q⟩
end L2

end
section
set_option maxRecDepth 100000
set_option maxHeartbeats 2000000
namespace Srt
open PySem PySem.W PySem.Calls PyProof.Rows
section
variable {prog : Program} {w : World} {A : Around} {E : Value → Shared → Prop} {s : Shared}
/-- sorted(x), x a list or a tuple of pairs of ints -/
theorem hu_sorted_seq {l : Addr} {T : String} {o : Obj} {items : Array Value} {n : Nat} {Q : Value → Shared → Prop} (hT : T = "list" ∨ T = "tuple") (ho : s.heap.get? l = some o) (hc : o.cls = .type T) (hd : o.data = .seq items n) (hz : items.size ≤ sizeLine)
    (hp : ∀ v ∈ items.toList, ∃ x y, IsPair s.heap v x y)
    (h : ∀ (h1 h' : Heap) (d : Addr) (out : List Value), out.Perm items.toList → (∀ b o, s.heap.get? b = some o → h1.get? b = some o) → (∀ b o, h1.get? b = some o → h'.get? b = some o) → h1.objs.size ≤ d → (∃ n, h'.get? d = some (seqObj "list" out.toArray n)) → Q (.ref d) { s with heap := h' }) :
    wpAny (model prog w) A (call (.builtin "sorted") [.ref l]) Q E s := by
  have hz' : items.toList.length ≤ sizeLine := hz
  refine Calls.call_function_entry kind_sorted plain_sorted entry_sorted (args_sorted1 _) ?_
  unfold Builtin.«sorted»
  refine wpAny_bind (m := checkCount "sorted" 1 1 _) (wpAny_pure ?_)
  refine wpAny_bind (wpAny_collect_seq l hT ho hc hd (fun h1 k1 => ?_) hz)
  refine wpAny_bind (wpAny_newList ?_ hz')
  have hoL : (h1.push (seqObj "list" items.toList.toArray 0)).get? h1.objs.size = some (seqObj "list" items.toList.toArray 0) := Heap.get?_push_size _ rfl
  have keep : ∀ b o, h1.get? b = some o → b < h1.objs.size ∧ (h1.push (seqObj "list" items.toList.toArray 0)).get? b = some o := fun b o e => ⟨Heap.lt_size e, Heap.get?_push_of_some _ e⟩
  refine wpAny_bind (wpAny_holding (wpAny_call_entry slot_list_sort ⟨_, hoL, rfl⟩ entry_list_sort (list_sort_any (s := { s with heap := h1.push (seqObj "list" items.toList.toArray 0) }) hoL hz' (fun h2 => ?_) fun out pm => ⟨_, rfl, ?_⟩) (args_list_sort _)))
  · refine pairs_sortable (s := { s with heap := h1.push (seqObj "list" items.toList.toArray 0) }) (by omega) (fun v hm => ?_) fun o e => ?_
    · obtain ⟨x, y, p⟩ := hp v hm
      exact ⟨x, y, p.keeps fun b o e _ => (keep b o (k1 b o e)).2⟩
    · have e' : some o = some (seqObj "list" items.toList.toArray 0) := e.symm.trans hoL
      cases e'
      intro c
      exact absurd (Value.type.inj c) (by decide)
  · refine wpAny_pure ⟨_, rfl, h h1 _ h1.objs.size out pm k1 (fun b o e => ?_) (Nat.le_refl _) (sortedHeap_at hoL)⟩
    obtain ⟨lt, e2⟩ := keep b o e
    rw [sortedHeap_old (Nat.ne_of_lt lt) (by rw [size_push']; exact Nat.lt_succ_of_lt lt)]
    exact e2
end
end Srt

namespace L2
open PySem PySem.Spec PyProof.Rows
section
variable {X : Cx}
/-- sorted(x), x a list or a tuple of pairs of ints -/
def rSortPA (K : PySem.W.Frag) : List V → Hp → VK → Prop := fun vs H Q => ∃ a xs, vs = [V.ref a] ∧ (SqL K H a xs ∨ SqT K H a xs) ∧ (∀ x ∈ xs, ∃ t i j, x = V.ref t ∧ H t = some (.tup [.int i, .int j])) ∧ ∀ ys p, ys.Perm xs → H p = none → Q (.ref p) (upd H p (.lst ys))
theorem cr_sortPA : CallR X (.builtin "sorted") (rSortPA X.K) := by
  intro pins s σ H vs us Q I r h
  obtain ⟨a, xs, rfl, hs, hx, q⟩ := h
  obtain ⟨T, its, o, n, hT, rv, ho, hc, hd, hz⟩ : ∃ (T : String) (its : List Value) (o : Obj) (n : Nat), (T = "list" ∨ T = "tuple") ∧ Vals xs its ∧ s.heap.get? a = some o ∧ o.cls = .type T ∧ o.data = .seq its.toArray n ∧ xs.length ≤ sizeLine := by
    rcases hs with hs | hs
    · obtain ⟨its, rv, hl, hz⟩ := I.list hs
      obtain ⟨o, ho, hc, n, hd⟩ := hl.isList
      exact ⟨"list", its, o, n, .inl rfl, rv, ho, hc, hd, hz⟩
    · obtain ⟨its, rv, ⟨o, ho, hc, n, hd⟩, hz⟩ := I.tuple hs
      exact ⟨"tuple", its, o, n, .inr rfl, rv, ho, hc, hd, hz⟩
  obtain ⟨u, rfl, ru⟩ := vals1 r
  obtain rfl : u = Value.ref a := ru
  obtain ⟨e1, e2⟩ := bkV_refs rv fun x m => by
    obtain ⟨t, _, _, e, _⟩ := hx x m
    exact ⟨t, e⟩
  refine Srt.hu_sorted_seq hT ho hc hd (by rw [List.size_toArray, ← rv.length]; exact hz) (fun v hv => ?_) fun h1 h' d out hp k1 k2 hd' hn => ?_
  · obtain ⟨t, rfl⟩ := e2 v hv
    have hm : V.ref t ∈ xs := by rw [e1]; exact List.mem_map.mpr ⟨_, hv, rfl⟩
    obtain ⟨t', i, j, e, ht⟩ := hx _ hm
    cases e
    obtain ⟨_, its2, r2, o2, ho2, hc2, n2, hd2⟩ := I.hok _ _ ht
    obtain ⟨u1, u2, rfl, ri, rj⟩ := vals2 r2
    obtain ⟨t1, rfl⟩ := ri
    obtain ⟨t2, rfl⟩ := rj
    exact ⟨i, j, t, o2, t1, t2, n2, rfl, ho2, hc2, hd2⟩
  · have h3 : ∀ u ∈ out, ∃ a, u = Value.ref a := fun u hu => e2 u (hp.mem_iff.mp hu)
    obtain ⟨n, hn⟩ := hn
    have I1 : Inv X pins σ H { s with heap := h1 } := I.kept (t' := s.toks) k1
    refine ⟨.ref d, upd H d (.lst (out.map bkV)), I1.laid (t' := s.toks) k2 hd' ⟨?_, out, n, bkV_vals h3, hn⟩, rfl, q _ d ?_ (I1.hok.fresh hd')⟩
    · rw [List.length_map, hp.length_eq]
      show its.length ≤ sizeLine
      rw [← rv.length]; exact hz
    · rw [e1]
      exact hp.map bkV
end
end L2

end
section
set_option maxRecDepth 100000
namespace L2
open PySem PySem.Spec PyProof.Rows
/-! ### a list or a tuple -/
def SqA (K : PySem.W.Frag) (H : Hp) (a : Addr) (xs : List V) : Prop := SqL K H a xs ∨ SqT K H a xs
section
variable {X : Cx} {K : PySem.W.Frag}
/-- all of H0 stands in H -/
def Same0 (H0 H : Hp) : Prop := ∀ b o, H0 b = some o → H b = some o
theorem Same0.sqL {H H' : Hp} {a : Addr} {xs : List V} (e : Same0 H H') (h : SqL K H a xs) : SqL K H' a xs := by
  rcases h with (h | ⟨o, h⟩) | h
  · exact .inl (.inl (e _ _ h))
  · exact .inl (.inr ⟨o, e _ _ h⟩)
  · exact .inr h
theorem Same0.sqT {H H' : Hp} {a : Addr} {xs : List V} (e : Same0 H H') (h : SqT K H a xs) : SqT K H' a xs := by
  rcases h with (h | ⟨o, h⟩) | h
  · exact .inl (.inl (e _ _ h))
  · exact .inl (.inr ⟨o, e _ _ h⟩)
  · exact .inr h
theorem SqA.same {H H' : Hp} {a : Addr} {xs : List V} (h : SqA K H a xs) (e : Same0 H H') : SqA K H' a xs := h.imp (Same0.sqL e) (Same0.sqT e)
/-- also where an instance changes -/
theorem SqA.sb {H H' : Hp} {a x C dx : Addr} {fs : List (Str × V)} {xs : List V} (h : SqA K H a xs) (hx : H x = some (.ins C dx fs)) (s : ∀ b o, b ≠ x → H b = some o → H' b = some o) : SqA K H' a xs := by
  rcases h with ((h | ⟨o, h⟩) | h) | ((h | ⟨o, h⟩) | h)
  · exact .inl (.inl (.inl (s _ _ (ne_of h hx (by intro z; cases z)) h)))
  · exact .inl (.inl (.inr ⟨o, s _ _ (ne_of h hx (by intro z; cases z)) h⟩))
  · exact .inl (.inr h)
  · exact .inr (.inl (.inl (s _ _ (ne_of h hx (by intro z; cases z)) h)))
  · exact .inr (.inl (.inr ⟨o, s _ _ (ne_of h hx (by intro z; cases z)) h⟩))
  · exact .inr (.inr h)
theorem piA_ (K : PySem.W.Frag) {e : Expr} {ta : TA} {p pos tpos : Pos} {elts : List Expr} {kk : Nat} (hg : Gl X "enumerate") (hm : X.mg "enumerate" = none) (ha : PA X [e] ta) (hs : starEach [e] X.env = [(false, eval e X.env)] := by rfl) (hK : X.K = K := by rfl) :
    PI X (.Tuple elts kk tpos) (.Call (.Name "enumerate" p) [e] [] pos) (iEnumA K ta) := by subst hK; exact pi_enumA hg hm ha hs
theorem sortPA_ (K : PySem.W.Frag) (hK : X.K = K := by rfl) : CallR X (.builtin "sorted") (rSortPA K) := by subst hK; exact cr_sortPA
/-- for i, x in enumerate(a list or a tuple) -/
theorem for_enumA {a : Addr} {xs : List V} {g : TG} {tb : TS} {D : Ends} {σ : L2.St} {H H0 : Hp} (sa : SqA K H0 a xs) (s0 : Same0 H0 H) (Pv : Nat → L2.St → Hp → Prop) (h0 : Pv 0 σ H) (keep : ∀ i σ H, i ≤ xs.length → Pv i σ H → Same0 H0 H)
    (hs : ∀ i x σ H H', i < xs.length → Pv i σ H → YPair (fun i => some (.int (i : Nat))) (fun i => xs[i]?) i H x H' → g x σ H' fun σ2 H2 => tb { D with nx := Pv (i + 1), ct := Pv (i + 1), bk := D.nx } σ2 H2) (hd : ∀ σ H, Pv xs.length σ H → D.nx σ H) :
    (SqL K H a xs ∧ ∃ W : Nat → Nat → L2.St → Hp → Prop, (∃ m, W 0 m σ H) ∧ ∀ i m σ H, W i m σ H →
      ((Ite K a).stop i H ∧ D.nx σ H) ∨ ((Ite K a).go i H ∧ ∃ N : L2.St → Hp → Prop, (∀ σ' H', N σ' H' → ∃ m', m' < m ∧ W (i + 1) m' σ' H') ∧ ∀ x H', (Ite K a).yld i H x H' → g x σ H' fun σ2 H2 => tb { D with nx := N, ct := N, bk := D.nx } σ2 H2)) ∨
    (SqT K H a xs ∧ ∃ W : Nat → Nat → L2.St → Hp → Prop, (∃ m, W 0 m σ H) ∧ ∀ i m σ H, W i m σ H →
      ((IteT K a xs.length).stop i H ∧ D.nx σ H) ∨ ((IteT K a xs.length).go i H ∧ ∃ N : L2.St → Hp → Prop, (∀ σ' H', N σ' H' → ∃ m', m' < m ∧ W (i + 1) m' σ' H') ∧ ∀ x H', (IteT K a xs.length).yld i H x H' → g x σ H' fun σ2 H2 => tb { D with nx := N, ct := N, bk := D.nx } σ2 H2)) := by
  rcases sa with sl | st
  · exact .inl ⟨Same0.sqL s0 sl, for_it walk_enum Pv h0 (fun i σ H hi p => Same0.sqL (keep i σ H hi p) sl) hs hd⟩
  · exact .inr ⟨Same0.sqT s0 st, for_it walk_enumT Pv h0 (fun i σ H hi p => Same0.sqT (keep i σ H hi p) st) hs hd⟩
end
end L2

end
section
set_option maxRecDepth 100000
namespace Hue
open PySem PySem.Spec PyProof.Rows L2
/-! ### the text by places -/
def top (i : Nat) : Stmt := PySem.Challenge.pw_huefall_k33_normal_run.main.body.getD i (.Pass ⟨0, 0, 0, 0⟩)
/-- what the top has left: the class, the built-ins' names -/
structure Txt (K : PySem.W.Frag) (mg : Str → Option Value) (C : Addr) : Prop where
  cl : Cls K C
  nCount : NoAttr K C "count"
  nHues : NoAttr K C "hues"
  nBen : NoAttr K C "_beneath"
  nWires : NoAttr K C "wires"
  nAbove : NoAttr K C "_above"
  nDirect : NoAttr K C "_direct"
  nOrder : NoAttr K C "_order"
  mgC : mg "House" = some (.ref C)
  con : ∃ mc, ClX.CRead K C mc ∧ (∃ u, ClX.CVal K C mc "MOST_LAMPS" (.int 16) u) ∧ ∃ u, ClX.CVal K C mc "MOST_HUES" (.int 10) u
  len : mg "len" = none
  range : mg "range" = none
  isinstance : mg "isinstance" = none
  int : mg "int" = none
  bool : mg "bool" = none
  tuple : mg "tuple" = none
  list : mg "list" = none
  set : mg "set" = none
  enumerate : mg "enumerate" = none
  sorted : mg "sorted" = none
  min : mg "min" = none
  all : mg "all" = none
  any : mg "any" = none
  abs : mg "abs" = none
  reversed : mg "reversed" = none
  max : mg "max" = none
  str : mg "str" = none
  repr : mg "repr" = none
  ValueError : mg "ValueError" = none
  sum : mg "sum" = none
  zip : mg "zip" = none
section
variable {P : Program} {w : World} {K : PySem.W.Frag} {mg : Str → Option Value} {base : Heap} {C : Addr}
/-! ### whole numbers -/
/-- the kinds of values that are asked -/
inductive Kd (H : Hp) : V → Prop
  | int (i : Int) : Kd H (.int i)
  | bl (b : Bool) : Kd H (.bl b)
  | non : Kd H .non
  | str (s : Str) : Kd H (.str s)
  | tup {t : Addr} {xs : List V} (h : H t = some (.tup xs)) : Kd H (.ref t)
  | lst {t : Addr} {xs : List V} (h : H t = some (.lst xs)) : Kd H (.ref t)
theorem Kd.same {H H' : Hp} {v : V} (k : Kd H v) (s : Same H H') : Kd H' v := by
  cases k with
  | int i => exact .int i
  | bl b => exact .bl b
  | non => exact .non
  | str s => exact .str s
  | tup h => exact .tup (s _ _ h)
  | lst h => exact .lst (s _ _ h)
def isI : V → Bool
  | .int _ => true
  | _ => false
def inI (v : V) (lo hi : Int) : Bool := match v with
  | .int i => decide (lo ≤ i) && decide (i ≤ hi)
  | _ => false
abbrev s_is_whole : Stmt := top 9
theorem sc_is_whole : FnScope ["value"] ["value"] (defScope s_is_whole) := ⟨rfl, rfl, rfl, by decide +kernel, rfl, by decide +kernel, by decide +kernel⟩
-- slots of is_whole: 0 value
def spWholeV : Sp := fun vs H Q _ => ∃ v, vs = [v] ∧ Kd H v ∧ Q (.bl (isI v)) H
theorem ok_is_whole (T : Txt K mg C) {f : Addr} {fd : FuncData} (F : Fun K "is_whole" "is_whole" s_is_whole f fd) : FnOk P w K mg base CX0 1 f fd ["value"] spWholeV := by
  refine F.ok sc_is_whole (fun vs H Q E h => ?_) (fun cdv A outer s H vs Q E hr h => ?_)
  · obtain ⟨v, rfl, _⟩ := h; rfl
  · obtain ⟨v, rfl, k, q⟩ := h
    refine ⟨_, (pss_one (ps_ret (pe_and (pe_callB (isi_ K) (by rfl) T.isinstance b_isinstance (pa_cons (pv 0) (pa_cons (pe_bltn (v := .ty "int") (by rfl) T.int b_int rfl) pa_nil))) (pe_one (pe_not (pe_callB (isi_ K) (by rfl) T.isinstance b_isinstance (pa_cons (pv 0) (pa_cons (pe_bltn (v := .ty "bool") (by rfl) T.bool b_bool rfl) pa_nil)))))))), ?_⟩
    cases k with
    | int i =>
      refine ⟨_, rfl, _, _, _, _, true, rfl, .ty _, .base (.int i), kit_ty (by decide +kernel), true, rfl, iteT ?_⟩
      exact ⟨_, rfl, _, _, _, _, false, rfl, .ty _, .base (.int i), kit_ty (by decide +kernel), false, rfl, q⟩
    | bl b =>
      refine ⟨_, rfl, _, _, _, _, true, rfl, .ty _, .base (.bl b), kit_ty (by decide +kernel), true, rfl, iteT ?_⟩
      exact ⟨_, rfl, _, _, _, _, true, rfl, .ty _, .base (.bl b), kit_ty (by decide +kernel), true, rfl, q⟩
    | non => exact ⟨_, rfl, _, _, _, _, false, rfl, .ty _, .base .non, kit_ty (by decide +kernel), false, rfl, iteF q⟩
    | str s => exact ⟨_, rfl, _, _, _, _, false, rfl, .ty _, .base (.str s), kit_ty (by decide +kernel), false, rfl, iteF q⟩
    | tup h => exact ⟨_, rfl, _, _, _, _, false, rfl, .ty _, .base (.tup h), kit_ty (by decide +kernel), false, rfl, iteF q⟩
    | lst h => exact ⟨_, rfl, _, _, _, _, false, rfl, .ty _, .base (.lst h), kit_ty (by decide +kernel), false, rfl, iteF q⟩
abbrev s_is_whole_in : Stmt := top 10
theorem sc_is_whole_in : FnScope ["value", "low", "high"] ["value", "low", "high"] (defScope s_is_whole_in) := ⟨rfl, rfl, rfl, by decide +kernel, rfl, by decide +kernel, by decide +kernel⟩
-- slots of is_whole_in: 0 value, 1 low, 2 high
def spWholeInV : Sp := fun vs H Q _ => ∃ v lo hi, vs = [v, .int lo, .int hi] ∧ Kd H v ∧ Q (.bl (inI v lo hi)) H
def spWholeIn : Sp := fun vs H Q _ => ∃ v lo hi, vs = [.int v, .int lo, .int hi] ∧ Q (.bl (decide (lo ≤ v) && decide (v ≤ hi))) H
theorem whole_in_int (vs : List V) (H : Hp) (Q : VK) (E : XK) (h : spWholeIn vs H Q E) : spWholeInV vs H Q E := by
  obtain ⟨v, lo, hi, e, q⟩ := h
  exact ⟨.int v, lo, hi, e, .int v, q⟩
theorem ok_is_whole_in (T : Txt K mg C) {f : Addr} {fd : FuncData} (F : Fun K "is_whole_in" "is_whole_in" s_is_whole_in f fd) (c_is_whole : Cal P w K mg base "is_whole" 1 spWholeV) : FnOk P w K mg base CX0 2 f fd ["value", "low", "high"] spWholeInV := by
  refine F.ok sc_is_whole_in (fun vs H Q E h => ?_) (fun cdv A outer s H vs Q E hr h => ?_)
  · obtain ⟨v, lo, hi, rfl, _⟩ := h; rfl
  · obtain ⟨v, lo, hi, rfl, k, q⟩ := h
    refine ⟨_, (pss_one (ps_ret (pe_and (pe_cal c_is_whole (hr.mono (by decide)) (pa_cons (pv 0) pa_nil)) (pe_one (pe_chain op_le op_le (pv 1) (pv 0) (pv 2)))))), ?_⟩
    refine ⟨_, rfl, v, rfl, k, ?_⟩
    cases v with
    | int i =>
      refine ⟨true, rfl, iteT ?_⟩
      refine ⟨_, rfl, _, rfl, _, _, rfl, rfl, _, rfl, ?_⟩
      refine ite2 (fun h1 => ?_) (fun h1 => ?_)
      · refine ⟨_, rfl, _, _, rfl, rfl, ?_⟩
        have e : inI (.int i) lo hi = decide (i ≤ hi) := by
          show (decide (lo ≤ i) && decide (i ≤ hi)) = _
          rw [h1, Bool.true_and]
        rw [e] at q
        exact q
      · have e : inI (.int i) lo hi = false := by
          show (decide (lo ≤ i) && decide (i ≤ hi)) = _
          rw [Bool.eq_false_iff.mpr h1, Bool.false_and]
        rw [e] at q
        exact q
    | _ => exact ⟨false, rfl, iteF q⟩
/-! ### the checks of a house's parts -/
abbrev s_check_count : Stmt := top 15
theorem sc_check_count : FnScope ["count"] ["count"] (defScope s_check_count) := ⟨rfl, rfl, rfl, by decide +kernel, rfl, by decide +kernel, by decide +kernel⟩
-- slots of check_count: 0 count
def spCheckCount : Sp := fun vs H Q _ => ∃ c : Int, vs = [.int c] ∧ 1 ≤ c ∧ c ≤ 16 ∧ Q .non H
theorem ok_check_count (T : Txt K mg C) {f : Addr} {fd : FuncData} (F : Fun K "check_count" "check_count" s_check_count f fd) (c_is_whole_in : Cal P w K mg base "is_whole_in" 2 spWholeIn) : FnOk P w K mg base CX0 3 f fd ["count"] spCheckCount := by
  refine F.ok sc_check_count (fun vs H Q E h => ?_) (fun cdv A outer s H vs Q E hr h => ?_)
  · obtain ⟨c, rfl, _⟩ := h; rfl
  · obtain ⟨c, rfl, h1, h2, q⟩ := h
    obtain ⟨mc, rd, ⟨u, cv⟩, _⟩ := T.con
    refine ⟨_, (pss_one (ps_if (pt_not (pt_val (pe_cal c_is_whole_in (hr.mono (by decide)) (pa_cons (pv 0) (pa_cons pe_int (pa_cons (cval_ K (pe_glob (v := .ref C) (by rfl) T.mgC rfl)) pa_nil))))))
      pss_never pss_nil)), ?_⟩
    refine ⟨_, rfl, C, mc, _, _, rfl, rd, cv, c, 1, 16, rfl, _, rfl, ifF ?_ q⟩
    rw [decide_eq_true h1, decide_eq_true h2] <;> rfl
abbrev s_check_hues : Stmt := top 16
theorem sc_check_hues : FnScope ["hues"] ["hues"] (defScope s_check_hues) := ⟨rfl, rfl, rfl, by decide +kernel, rfl, by decide +kernel, by decide +kernel⟩
-- slots of check_hues: 0 hues
def spCheckHues : Sp := fun vs H Q _ => ∃ c : Int, vs = [.int c] ∧ 2 ≤ c ∧ c ≤ 10 ∧ Q .non H
theorem ok_check_hues (T : Txt K mg C) {f : Addr} {fd : FuncData} (F : Fun K "check_hues" "check_hues" s_check_hues f fd) (c_is_whole_in : Cal P w K mg base "is_whole_in" 2 spWholeIn) : FnOk P w K mg base CX0 3 f fd ["hues"] spCheckHues := by
  refine F.ok sc_check_hues (fun vs H Q E h => ?_) (fun cdv A outer s H vs Q E hr h => ?_)
  · obtain ⟨c, rfl, _⟩ := h; rfl
  · obtain ⟨c, rfl, h1, h2, q⟩ := h
    obtain ⟨mc, rd, _, ⟨u, cv⟩⟩ := T.con
    refine ⟨_, (pss_one (ps_if (pt_not (pt_val (pe_cal c_is_whole_in (hr.mono (by decide)) (pa_cons (pv 0) (pa_cons pe_int (pa_cons (cval_ K (pe_glob (v := .ref C) (by rfl) T.mgC rfl)) pa_nil))))))
      pss_never pss_nil)), ?_⟩
    refine ⟨_, rfl, C, mc, _, _, rfl, rd, cv, c, 2, 10, rfl, _, rfl, ifF ?_ q⟩
    rw [decide_eq_true h1, decide_eq_true h2] <;> rfl
abbrev s_is_wire : Stmt := top 17
theorem sc_is_wire : FnScope ["count", "value", "upper", "lower"] ["count", "value"] (defScope s_is_wire) := ⟨rfl, rfl, rfl, by decide +kernel, rfl, by decide +kernel, by decide +kernel⟩
-- slots of is_wire: 0 count, 1 value, 2 upper, 3 lower
def spIsWire : Sp := fun vs H Q _ => ∃ (c u l : Int) (t : Addr), vs = [.int c, .ref t] ∧ H t = some (.tup [.int u, .int l]) ∧ 0 ≤ u ∧ u < c ∧ 0 ≤ l ∧ l < c ∧ u ≠ l ∧ Q (.bl true) H
theorem ok_is_wire (T : Txt K mg C) {f : Addr} {fd : FuncData} (F : Fun K "is_wire" "is_wire" s_is_wire f fd) (c_is_whole_in : Cal P w K mg base "is_whole_in" 2 spWholeIn) : FnOk P w K mg base CX0 3 f fd ["count", "value"] spIsWire := by
  refine F.ok sc_is_wire (fun vs H Q E h => ?_) (fun cdv A outer s H vs Q E hr h => ?_)
  · obtain ⟨c, u, l, t, rfl, _⟩ := h; rfl
  · obtain ⟨c, u, l, t, rfl, ht, u0, u1, l0, l1, ne, q⟩ := h
    refine ⟨_, (pss_cons (ps_if (PW.pt (pw_or (pt_not (pt_val (pe_callB (isi_ K) (by rfl) T.isinstance b_isinstance (pa_cons (pv 1) (pa_cons (pe_bltn (v := .ty "tuple") (by rfl) T.tuple b_tuple rfl) pa_nil))))) (pw_or1 (pt_cmpR op_ne (pe_callB (lenS_ K) (by rfl) T.len b_len (pa_cons (pv 1) pa_nil)) pe_int (nomark _)))))
      (pss_one (ps_ret pe_bl)) pss_nil)
      (pss_cons (ps_asg (pv 1) (pg_tup (by rfl) (pgs_cons (pg_name (i := 2) sc_is_wire.nd rfl (by first | exact Or.inl rfl | exact Or.inr rfl)) (pgs_cons (pg_name (i := 3) sc_is_wire.nd rfl (by first | exact Or.inl rfl | exact Or.inr rfl)) pgs_nil))))
      (pss_one (ps_ret (pe_and (pe_cal c_is_whole_in (hr.mono (by decide)) (pa_cons (pv 2) (pa_cons pe_int (pa_cons (pe_op op_sub (pv 0) pe_int) pa_nil)))) (pe_and (pe_cal c_is_whole_in (hr.mono (by decide)) (pa_cons (pv 3) (pa_cons pe_int (pa_cons (pe_op op_sub (pv 0) pe_int) pa_nil)))) (pe_one (pe_cmpR op_ne (pv 2) (pv 3) (nomark _))))))))), ?_⟩
    refine ⟨_, rfl, _, _, _, _, true, rfl, .ty _, .base (.tup ht), kit_ty (by decide +kernel), true, rfl, iteF ?_⟩
    refine ⟨_, rfl, t, _, rfl, .inr (SqT.of ht), rfl, _, rfl, iteNS rfl ?_⟩
    refine ⟨_, rfl, t, _, rfl, SqT.of ht, rfl, _, _, rfl, _, _, rfl, rfl, ?_⟩
    refine ⟨_, rfl, _, rfl, _, _, rfl, rfl, u, 0, c - 1, rfl, _, rfl, ifT (by rw [decide_eq_true u0, decide_eq_true (by omega : u ≤ c - 1)] <;> rfl) ?_⟩
    refine ⟨_, rfl, _, rfl, _, _, rfl, rfl, l, 0, c - 1, rfl, _, rfl, ifT (by rw [decide_eq_true l0, decide_eq_true (by omega : l ≤ c - 1)] <;> rfl) ?_⟩
    refine ⟨_, rfl, _, rfl, rfl, ?_⟩
    have e : decide (V.int u = V.int l) = false := decide_eq_false fun z => ne (by injection z)
    rw [e]
    exact q
/-! ### the lamps beneath -/
abbrev s_with_wire : Stmt := top 19
theorem sc_with_wire : FnScope ["beneath", "upper", "lower", "gained", "lamp", "lamps"] ["beneath", "upper", "lower"] (defScope s_with_wire) := ⟨rfl, rfl, rfl, by decide +kernel, rfl, by decide +kernel, by decide +kernel⟩
-- slots of with_wire: 0 beneath, 1 upper, 2 lower, 3 gained, 4 lamp, 5 lamps
def spWithWire : Sp := fun vs H Q _ => ∃ (b : Addr) (n u l : Nat) (R : Rel), vs = [.ref b, .int u, .int l] ∧ n ≤ 16 ∧ u < n ∧ l < n ∧ Rows H b (relRows n R) ∧
  ∀ (H' : Hp) (p : Addr), Same H H' → Rows H' p (relRows n (addW R u l)) → Q (.ref p) H'
theorem ok_with_wire (T : Txt K mg C) {f : Addr} {fd : FuncData} (F : Fun K "with_wire" "with_wire" s_with_wire f fd) : FnOk P w K mg base CX0 1 f fd ["beneath", "upper", "lower"] spWithWire := by
  refine F.ok sc_with_wire (fun vs H Q E h => ?_) (fun cdv A outer s H vs Q E hr h => ?_)
  · obtain ⟨b, n, u, l, R, rfl, _⟩ := h; rfl
  · obtain ⟨b, n, u, l, R, rfl, hn, hu, hl, rw0, q⟩ := h
    obtain ⟨xs, al, hb, hxs, hal, hL⟩ := rw0.at (relRows_at (R := R) hl)
    refine ⟨_, (pss_cons (ps_set (i := 3) sc_with_wire.nd rfl (by first | exact Or.inl rfl | exact Or.inr rfl) (pe_lst (pa_cons (pv 2) (star_ K (pe_ix (ixL_ K) (pv 0) (pv 2) (fun _ _ => rfl)) pa_nil))))
      (pss_one (ps_ret (pe_lc (own := [("lamp", 4), ("lamps", 5)]) (g := gTup K 2 (gCons (gName 4) (gCons (gName 5) gNil))) (tt := tYes) rfl sc_with_wire.nd (pi_enum (by rfl) T.enumerate (pa_cons (pv 0) pa_nil)) (blkOk_by (by kernel_rfl)) (fun _ _ _ _ _ => (pg_tup (by rfl) (pgs_cons (pg_name (i := 4) sc_with_wire.nd rfl (by first | exact Or.inl rfl | exact Or.inr rfl)) (pgs_cons (pg_name (i := 5) sc_with_wire.nd rfl (by first | exact Or.inl rfl | exact Or.inr rfl)) pgs_nil)))) (fun _ _ _ _ _ => pts_nil) (fun _ _ _ _ _ => (pe_ifExp (PW.pt (pw_or (pt_cmpR op_eq (pv 4) (pv 1) (nomark _)) (pw_or1 (pt_cmpR (inS_ K) (pv 1) (pv 5) (by rfl))))) (pe_callB (sortedSet_ w rfl) (by rfl) T.sorted b_sorted (pa_cons (pe_callTy (setL_ K w rfl) (by rfl) T.set b_set (pa_cons (pe_op op_cat (pv 5) (pv 3)) pa_nil)) pa_nil)) (pv 5))))))), ?_⟩
    -- gained = [lower, *beneath[lower]]
    refine ⟨_, rfl, _, rfl, _, rfl, b, xs, _, _, rfl, rfl, SqL.of hb, atI_nat hal, al, _, rfl, .inr (SqL.of hL), ?_, fun g hg => ?_⟩
    · have := Bel_len n R l
      rw [List.length_cons, List.length_append, nL_len, List.length_nil, sizeLine_eq]
      omega
    have eg : (V.int (l : Int) :: (nL (Bel n R l) ++ [])) = nL (l :: Bel n R l) := by rw [List.append_nil]; rfl
    rw [eg]
    have s1 : Same H (upd H g (.lst (nL (l :: Bel n R l)))) := same_new hg
    have hg1 : (upd H g (.lst (nL (l :: Bel n R l)))) g = some (.lst (nL (l :: Bel n R l))) := upd_same
    generalize upd H g (.lst (nL (l :: Bel n R l))) = H1 at s1 hg1 ⊢
    have rw1 := rw0.same s1
    obtain ⟨as0, hb1, las0, hrow⟩ := id rw1
    rw [relRows_len] at las0
    refine ⟨_, rfl, b, as0.map V.ref, rfl, SqL.of hb1, fun D hD => lc_it walk_enum (fun i H2 => ∃ as : List Addr, H2 D = some (.lst (as.map V.ref)) ∧ as.length = i ∧ Same H1 H2 ∧ ∀ (j : Nat) a, as[j]? = some a → a ≠ D ∧ H2 a = some (.lst (nL (Bel n (addW R u l) j))))
      ⟨[], upd_same, rfl, same_new hD, fun j a e => by simp at e⟩ (fun i H2 _ ⟨_, _, _, s2, _⟩ => SqL.of (s2 _ _ hb1)) ?_ ?_⟩
    · rintro i x H2 H3 hi ⟨as, h1, h2, s2, h3⟩ ⟨t, x1, y, rfl, ht, rfl, e1, e2⟩
      cases e1
      rw [List.length_map, las0] at hi
      obtain ⟨a, ha, rfl⟩ : ∃ a, as0[i]? = some a ∧ y = V.ref a := by
        have e3 : (as0.map V.ref)[i]? = some y := e2
        rw [List.getElem?_map] at e3
        obtain ⟨a, h, e⟩ := Option.map_eq_some_iff.mp e3
        exact ⟨a, h, e.symm⟩
      have hrow_i := hrow i a _ ha (relRows_at hi)
      have hz : as.length < sizeLine := by rw [h2, sizeLine_eq]; omega
      have nDt : D ≠ t := ne_of_none h1 ht
      have s3 : Same H1 (upd H2 t (.tup [.int (i : Int), .ref a])) := same_then s2 ht
      have h1' : (upd H2 t (.tup [.int (i : Int), .ref a])) D = some (.lst (as.map V.ref)) := by rw [upd_ne nDt]; exact h1
      have h3' : ∀ (j : Nat) c, as[j]? = some c → c ≠ D ∧ (upd H2 t (.tup [.int (i : Int), .ref a])) c = some (.lst (nL (Bel n (addW R u l) j))) := fun j c e => ⟨(h3 j c e).1, by rw [upd_ne (ne_of_none (h3 j c e).2 ht)]; exact (h3 j c e).2⟩
      have htt : (upd H2 t (.tup [.int (i : Int), .ref a])) t = some (.tup [.int (i : Int), .ref a]) := upd_same
      generalize upd H2 t (.tup [.int (i : Int), .ref a]) = H3 at s3 h1' h3' htt ⊢
      refine ⟨t, _, rfl, SqT.of htt, rfl, _, _, rfl, _, _, rfl, rfl, rfl, yesT ?_⟩
      -- what a turn ends with
      have fin : ∀ (H4 : Hp) (c : Addr), Same H3 H4 → c ≠ D → H4 c = some (.lst (nL (Bel n (addW R u l) i))) → ∃ acc, H4 D = some (.lst acc) ∧ acc.length < sizeLine ∧
          ∃ as : List Addr, (upd H4 D (.lst (acc ++ [V.ref c]))) D = some (.lst (as.map V.ref)) ∧ as.length = i + 1 ∧ Same H1 (upd H4 D (.lst (acc ++ [V.ref c]))) ∧ ∀ (j : Nat) a, as[j]? = some a → a ≠ D ∧ (upd H4 D (.lst (acc ++ [V.ref c]))) a = some (.lst (nL (Bel n (addW R u l) j))) := by
        intro H4 c s4 nc hc
        refine ⟨_, s4 _ _ h1', by rw [List.length_map]; exact hz, as ++ [c], by rw [upd_same, List.map_append]; rfl, by rw [List.length_append, h2]; rfl, same_upd (s3.trans s4) hD, fun j c2 e => ?_⟩
        rcases Nat.lt_or_ge j as.length with lt | ge
        · rw [List.getElem?_append_left lt] at e
          obtain ⟨n1, n2⟩ := h3' j c2 e
          exact ⟨n1, by rw [upd_ne n1]; exact s4 _ _ n2⟩
        · rw [List.getElem?_append_right ge] at e
          have j0 : j - as.length = 0 := by
            rcases Nat.eq_zero_or_pos (j - as.length) with z | z
            · exact z
            · rw [List.getElem?_eq_none (by rw [List.length_singleton]; exact z)] at e; cases e
          rw [j0] at e
          cases e
          have ji : j = i := by omega
          rw [ji]
          exact ⟨nc, by rw [upd_ne nc]; exact hc⟩
      -- the new row
      have grow : (i = u ∨ R i u = true) → tCB (rSortedSet w) (tCons (tCB (rHuSetL K w) (tCons (tOp rCat (tVar 5) (tVar 3)) tNil)) tNil)
          [some (.ref b), some (.int u), some (.int l), some (.ref g), some (.int (i : Int)), some (.ref a)] H3 fun y H4 => ∃ acc, H4 D = some (.lst acc) ∧ acc.length < sizeLine ∧
          ∃ as : List Addr, (upd H4 D (.lst (acc ++ [y]))) D = some (.lst (as.map V.ref)) ∧ as.length = i + 1 ∧ Same H1 (upd H4 D (.lst (acc ++ [y]))) ∧ ∀ (j : Nat) a, as[j]? = some a → a ≠ D ∧ (upd H4 D (.lst (acc ++ [y]))) a = some (.lst (nL (Bel n (addW R u l) j))) := by
        intro hcond
        have b1 := Bel_len n R i
        have b2 := Bel_len n R l
        refine ⟨_, rfl, _, rfl, a, g, _, _, rfl, rfl, s3 _ _ hrow_i, s3 _ _ hg1, ?_, fun c hc => ?_⟩
        · rw [nL_len, nL_len, List.length_cons, sizeLine_eq]; omega
        refine ⟨c, nI (Bel n R i ++ l :: Bel n R l), rfl, SqL.of (by rw [upd_same, ← nL_app]; rfl), by rw [nI_len, List.length_append, List.length_cons]; omega, fun d k hd hk => ?_⟩
        refine ⟨d, _, k, rfl, upd_same, ?_, fun ns p asc mem _ hp => ?_⟩
        · rw [nI_len, List.length_append, List.length_cons] at hk; omega
        have ens : ns = nI (Bel n (addW R u l) i) := by
          refine asc_ext asc (Bel_asc ..) fun z => ?_
          rw [mem, decide_eq_true_eq, mem_nI, mem_nI]
          constructor
          · rintro ⟨m, hm, rfl⟩
            refine ⟨m, mem_Bel.mpr ?_, rfl⟩
            unfold addW
            rcases List.mem_append.mp hm with hm | hm
            · obtain ⟨m1, m2⟩ := mem_Bel.mp hm
              exact ⟨m1, by rw [m2, Bool.true_or]⟩
            · have c1 : (i == u || R i u) = true := by
                rcases hcond with e | e
                · rw [e]; simp
                · rw [e, Bool.or_true]
              rcases List.mem_cons.mp hm with e | hm
              · rw [e, c1]; exact ⟨hl, by simp⟩
              · obtain ⟨m1, m2⟩ := mem_Bel.mp hm
                exact ⟨m1, by rw [c1, m2]; simp⟩
          · rintro ⟨m, hm, rfl⟩
            refine ⟨m, ?_, rfl⟩
            obtain ⟨m1, m2⟩ := mem_Bel.mp hm
            unfold addW at m2
            rw [Bool.or_eq_true, Bool.and_eq_true, Bool.or_eq_true, Bool.or_eq_true, beq_iff_eq, beq_iff_eq] at m2
            rcases m2 with e | ⟨_, e | e⟩
            · exact List.mem_append_left _ (mem_Bel.mpr ⟨m1, e⟩)
            · exact List.mem_append_right _ (by rw [e]; exact List.mem_cons_self)
            · exact List.mem_append_right _ (List.mem_cons_of_mem _ (mem_Bel.mpr ⟨m1, e⟩))
        have s4 := ((same_new (o := .lst (nL (Bel n R i) ++ nL (l :: Bel n R l))) hc).trans (same_new (o := SetO w d (fun j => decide (j ∈ nI (Bel n R i ++ l :: Bel n R l))) k) hd)).trans (same_new (o := .lst (ns.map V.int)) hp)
        refine fin _ p s4 ?_ (by rw [upd_same, ens]; rfl)
        intro e
        have z := (((same_new (o := .lst (nL (Bel n R i) ++ nL (l :: Bel n R l))) hc).trans (same_new (o := SetO w d (fun j => decide (j ∈ nI (Bel n R i ++ l :: Bel n R l))) k) hd)) _ _ h1')
        rw [← e, hp] at z
        cases z
      refine ⟨_, rfl, _, rfl, rfl, _, rfl, ?_⟩
      refine ite2 (fun he => ?_) (fun hne => ?_)
      · have e0 : i = u := by
          have z := of_decide_eq_true he
          injection z with z
          omega
        exact iteT (grow (.inl e0))
      · refine ⟨_, rfl, _, rfl, a, _, rfl, .inl (SqL.of (s3 _ _ hrow_i)), rfl, flat_nL _, _, rfl, ?_⟩
        have nu : ¬ i = u := fun z => hne (by rw [z]; exact decide_eq_true rfl)
        show if (inV (V.int (u : Int)) (nL (Bel n R i))) = true then _ else _
        rw [in_nL]
        refine ite2 (fun he => ?_) (fun hne2 => ?_)
        · exact grow (.inr (mem_Bel.mp (of_decide_eq_true he)).2)
        · refine ⟨_, rfl, fin H3 a (Same.refl _) (fun z => ?_) ?_⟩
          · have q1 := hrow_i
            rw [z, hD] at q1
            cases q1
          · rw [s3 _ _ hrow_i]
            have nR : R i u = false := by
              cases e : R i u with
              | false => rfl
              | true => exact absurd (decide_eq_true (mem_Bel.mpr ⟨hu, e⟩)) hne2
            rw [Bel_congr (S := addW R u l) (i := i) fun j _ => ?_]
            unfold addW
            rw [nR, Bool.or_false, beq_eq_false_iff_ne.mpr nu, Bool.false_and, Bool.or_false]
    · rintro H2 ⟨as, h1, h2, s2, h3⟩
      rw [List.length_map, las0] at h2
      refine q H2 D (s1.trans s2) ⟨as, h1, by rw [h2, relRows_len], fun i a r ha hr => ?_⟩
      have hi : i < n := by rw [← h2]; exact (List.getElem?_eq_some_iff.mp ha).1
      rw [relRows_at hi] at hr
      cases hr
      exact (h3 i a ha).2
abbrev s_lamps_beneath : Stmt := top 18
theorem sc_lamps_beneath : FnScope ["count", "wires", "beneath", "_", "earlier", "index", "wire", "upper", "lower"] ["count", "wires"] (defScope s_lamps_beneath) := ⟨rfl, rfl, rfl, by decide +kernel, rfl, by decide +kernel, by decide +kernel⟩
-- slots of lamps_beneath: 0 count, 1 wires, 2 beneath, 3 _, 4 earlier, 5 index, 6 wire, 7 upper, 8 lower
/-- at a: a list of the tuples ts, which are the pairs ps: wires down a rank -/
def Wires (K : PySem.W.Frag) (H : Hp) (a : Addr) (n : Nat) (ps : List (Nat × Nat)) : Prop :=
  (∃ ts : List Addr, SqA K H a (ts.map V.ref) ∧ Pairs H ts ps) ∧ ps.Nodup ∧ ps.length < 4900 ∧ (∀ p ∈ ps, p.1 < n ∧ p.2 < n) ∧ ∃ ρ : Nat → Nat, ∀ p ∈ ps, ρ p.1 < ρ p.2
def spLampsBeneath (K : PySem.W.Frag) : Sp := fun vs H Q _ => ∃ (a : Addr) (n : Nat) (ps : List (Nat × Nat)), vs = [.int n, .ref a] ∧ n ≤ 16 ∧ Wires K H a n ps ∧
  ∀ (H' : Hp) (p : Addr), Same H H' → Rows H' p (relRows n (relOf ps)) → Q (.ref p) H'
theorem ok_lamps_beneath (T : Txt K mg C) {f : Addr} {fd : FuncData} (F : Fun K "lamps_beneath" "lamps_beneath" s_lamps_beneath f fd) (c_is_wire : Cal P w K mg base "is_wire" 3 spIsWire) (c_with_wire : Cal P w K mg base "with_wire" 1 spWithWire) : FnOk P w K mg base CX0 4 f fd ["count", "wires"] (spLampsBeneath K) := by
  refine F.ok sc_lamps_beneath (fun vs H Q E h => ?_) (fun cdv A outer s H vs Q E hr h => ?_)
  · obtain ⟨a, n, ps, rfl, _⟩ := h; rfl
  · obtain ⟨a, n, ps, rfl, hn, ⟨⟨ts, ha, hps⟩, nd, few, lt, ρ, rank⟩, q⟩ := h
    refine ⟨_, (pss_cons (ps_setLc (i := 2) (own := [("_", 3)]) (g := gName 3) (tt := tYes) rfl sc_lamps_beneath.nd rfl rfl (sw_true rfl rfl rfl (by kernel_rfl)) (pi_range1 (by rfl) T.range (pa_cons (pv 0) pa_nil)) (blkOk_by (by kernel_rfl)) (fun _ _ _ _ _ => (pg_name (i := 3) sc_lamps_beneath.nd rfl (by first | exact Or.inl rfl | exact Or.inr rfl))) (fun _ _ _ _ _ => pts_nil) (fun _ _ _ _ _ => (pe_lst pa_nil)))
      (pss_cons (ps_set (i := 4) sc_lamps_beneath.nd rfl (by first | exact Or.inl rfl | exact Or.inr rfl) (pe_callTy0 cr_b0 (by rfl) T.set b_set))
      (pss_cons (ps_for PassesOwn.never rfl (piA_ K (by rfl) T.enumerate (pa_cons (pv 1) pa_nil)) (pg_tup (by rfl) (pgs_cons (pg_name (i := 5) sc_lamps_beneath.nd rfl (by first | exact Or.inl rfl | exact Or.inr rfl)) (pgs_cons (pg_name (i := 6) sc_lamps_beneath.nd rfl (by first | exact Or.inl rfl | exact Or.inr rfl)) pgs_nil)))
      (pss_cons (ps_if (pt_not (pt_val (pe_cal c_is_wire (hr.mono (by decide)) (pa_cons (pv 0) (pa_cons (pv 6) pa_nil)))))
      pss_never pss_nil)
      (pss_cons (ps_if (pt_cmpR (bIn_ P w hr.units) (pv 6) (pv 4) (by rfl))
      pss_never pss_nil)
      (pss_cons (ps_asg (pv 6) (pg_tup (by rfl) (pgs_cons (pg_name (i := 7) sc_lamps_beneath.nd rfl (by first | exact Or.inl rfl | exact Or.inr rfl)) (pgs_cons (pg_name (i := 8) sc_lamps_beneath.nd rfl (by first | exact Or.inl rfl | exact Or.inr rfl)) pgs_nil))))
      (pss_cons (ps_if (pt_cmpR (inS_ K) (pv 7) (pe_ix (ixL_ K) (pv 2) (pv 8) (fun _ _ => rfl)) (by rfl))
      pss_never pss_nil)
      (pss_cons (ps_expr (pe_bAdd hr.units (pv 4) (pa_cons (pv 6) pa_nil)))
      (pss_one (ps_set (i := 2) sc_lamps_beneath.nd rfl (by first | exact Or.inl rfl | exact Or.inr rfl) (pe_cal c_with_wire (hr.mono (by decide)) (pa_cons (pv 2) (pa_cons (pv 7) (pa_cons (pv 8) pa_nil))))))))))))
      (pss_one (ps_ret (pv 2)))))), ?_⟩
    -- beneath = [[] for _ in range(count)]
    refine ⟨_, rfl, _, rfl, by omega, by omega, fun D hD => ?_⟩
    rw [Int.toNat_natCast]
    refine lc_range (fun i H2 => ∃ as : List Addr, H2 D = some (.lst (as.map V.ref)) ∧ as.length = i ∧ Same H H2 ∧ ∀ (j : Nat) a, as[j]? = some a → a ≠ D ∧ H2 a = some (.lst []))
      ⟨[], upd_same, rfl, same_new hD, fun j a e => by simp at e⟩ ?_ ?_
    · rintro i H2 hi ⟨as, h1, h2, s2, h3⟩
      refine ⟨rfl, yesT ⟨by decide, fun p hp => ?_⟩⟩
      have nDp : D ≠ p := ne_of_none h1 hp
      refine ⟨_, by rw [upd_ne nDp]; exact h1, by rw [List.length_map, h2, sizeLine_eq]; omega, as ++ [p], by rw [upd_same, List.map_append]; rfl, by rw [List.length_append, h2]; rfl, same_upd (same_then s2 hp) hD, fun j c e => ?_⟩
      rcases Nat.lt_or_ge j as.length with l | g
      · rw [List.getElem?_append_left l] at e
        obtain ⟨n1, n2⟩ := h3 j c e
        exact ⟨n1, by rw [upd_ne n1, upd_ne (ne_of_none n2 hp)]; exact n2⟩
      · rw [List.getElem?_append_right g] at e
        have j0 : j - as.length = 0 := by
          rcases Nat.eq_zero_or_pos (j - as.length) with z | z
          · exact z
          · rw [List.getElem?_eq_none (by rw [List.length_singleton]; exact z)] at e; cases e
        rw [j0] at e
        cases e
        exact ⟨nDp.symm, by rw [upd_ne nDp.symm, upd_same]⟩
    rintro H1 ⟨as, h1, h2, s1, h3⟩
    have rows1 : Rows H1 D (relRows n fun _ _ => false) := ⟨as, h1, by rw [h2, relRows_len], fun i a r hi hr => by
      have il : i < n := by rw [← h2]; exact (List.getElem?_eq_some_iff.mp hi).1
      rw [relRows_at il] at hr
      cases hr
      have e0 : Bel n (fun _ _ => false) i = [] := by unfold Bel; simp
      rw [e0]
      exact (h3 i a hi).2⟩
    -- earlier = set()
    refine ⟨rfl, fun e he => ?_⟩
    have s2 : Same H (upd H1 e (BigHO P w e [])) := same_then s1 he
    have h0e : H e = Option.none := s1.free he
    refine ⟨_, rfl, a, ts.map V.ref, rfl, ?_⟩
    refine for_enumA ha s2 (fun i σ H2 => ∃ (b : Addr) (L : List (Addr × List Int)) (v5 v6 v7 v8 : Option V), σ = [some (.int n), some (.ref a), some (.ref b), Option.none, some (.ref e), v5, v6, v7, v8] ∧ Same H H2 ∧
        Rows H2 b (relRows n (relOf (ps.take i))) ∧ HasB K P w H2 e L ∧ L.length = i ∧ ∀ k, k ∈ L.map (·.2) → ∃ p ∈ ps.take i, k = [(p.1 : Int), (p.2 : Int)])
      ⟨D, [], _, _, _, _, rfl, s2, rows1.same (same_new he), ⟨upd_same, fun p hp => by cases hp⟩, rfl, fun k hk => by cases hk⟩ (fun i σ H2 _ ⟨_, _, _, _, _, _, _, s, _⟩ => s) ?_ ?_
    · rintro i x σ H2 H3 hi ⟨b, L, v5, v6, v7, v8, rfl, s3, rows, hasT, lenL, memL⟩ ⟨tp, x1, y, rfl, htp, rfl, e1, e2⟩
      cases e1
      rw [List.length_map] at hi
      have e3 : (ts.map V.ref)[i]? = some y := e2
      rw [List.getElem?_map] at e3
      obtain ⟨t, ht, rfl⟩ := Option.map_eq_some_iff.mp e3
      have hip : i < ps.length := by rw [← hps.1]; exact hi
      obtain ⟨p, hp⟩ : ∃ p, ps[i]? = some p := ⟨_, List.getElem?_eq_getElem hip⟩
      have pmem : p ∈ ps := List.mem_of_getElem? hp
      obtain ⟨plt1, plt2⟩ := lt p pmem
      have prank := rank p pmem
      have tup0 : H t = some (.tup [.int (p.1 : Int), .int (p.2 : Int)]) := hps.2 i t p ht hp
      have s4 : Same H2 (upd H2 tp (.tup [.int (i : Int), .ref t])) := same_new htp
      have rows4 := rows.same s4
      have hasT4 : HasB K P w (upd H2 tp (.tup [.int (i : Int), .ref t])) e L := ⟨s4 _ _ hasT.1, fun q hq => Same.tup s4 (hasT.2 q hq)⟩
      have s5 := s3.trans s4
      have htt : (upd H2 tp (.tup [.int (i : Int), .ref t])) tp = some (.tup [.int (i : Int), .ref t]) := upd_same
      generalize upd H2 tp (.tup [.int (i : Int), .ref t]) = H4 at s4 rows4 hasT4 s5 htt ⊢
      have tup4 := s5 _ _ tup0
      have new : [(p.1 : Int), (p.2 : Int)] ∉ L.map (·.2) := by
        intro z
        obtain ⟨p2, m2, e⟩ := memL _ z
        injection e with z1 z2
        injection z2 with z2 _
        have ep : p2 = p := by
          obtain ⟨a1, a2⟩ := p
          obtain ⟨b1, b2⟩ := p2
          simp only at z1 z2
          rw [Prod.mk.injEq]
          omega
        rw [ep] at m2
        obtain ⟨j, hj, ej⟩ := List.getElem_of_mem m2
        rw [List.length_take] at hj
        rw [List.getElem_take] at ej
        have ei : ps[i] = p := by
          have z := List.getElem?_eq_getElem hip
          rw [hp] at z
          exact (Option.some.inj z).symm
        exact absurd (ej.trans ei.symm) (List.pairwise_iff_getElem.mp nd j i (by omega) hip (by omega))
      refine ⟨tp, _, rfl, SqT.of htt, rfl, _, _, rfl, _, _, rfl, rfl, ?_⟩
      refine ⟨_, rfl, _, rfl, n, p.1, p.2, t, rfl, tup4, by omega, by omega, by omega, by omega, fun z => ?_, true, rfl, iteF ?_⟩
      · have : p.1 = p.2 := by omega
        rw [this] at prank
        exact Nat.lt_irrefl _ prank
      refine ⟨_, rfl, _, rfl, t, e, [(p.1 : Int), (p.2 : Int)], L, rfl, rfl, SqT.of tup4, hasT4, _, rfl, ifF (decide_eq_false new) ?_⟩
      refine ⟨_, rfl, t, _, rfl, SqT.of tup4, rfl, _, _, rfl, _, _, rfl, rfl, ?_⟩
      obtain ⟨xs, al, hb, _, hal, hL⟩ := rows4.at (relRows_at (R := relOf (ps.take i)) plt2)
      refine ⟨_, rfl, _, rfl, _, rfl, b, xs, _, _, rfl, rfl, SqL.of hb, atI_nat hal, al, _, rfl, .inl (SqL.of hL), rfl, flat_nL _, _, rfl, ?_⟩
      refine ifF ?_ ?_
      · show inV (V.int (p.1 : Int)) (nL (Bel n (relOf (ps.take i)) p.2)) = false
        rw [in_nL, decide_eq_false_iff_not]
        intro z
        have r1 := relOf_rank (ρ := ρ) (ps := ps.take i) (fun q hq => rank q (List.mem_of_mem_take hq)) _ _ (mem_Bel.mp z).2
        omega
      refine ⟨_, rfl, ⟨e, L, rfl, hasT4.1⟩, _, rfl, e, t, [(p.1 : Int), (p.2 : Int)], L, rfl, rfl, SqT.of tup4, hasT4, by omega, fun z => absurd z new, fun _ L2 pm => ?_⟩
      have rows5 : Rows (upd H4 e (BigHO P w e L2)) b (relRows n (relOf (ps.take i))) := rows4.ext hasT4.1
      refine ⟨_, rfl, _, rfl, _, rfl, b, n, p.1, p.2, relOf (ps.take i), rfl, hn, plt1, plt2, rows5, fun H6 c s6 rows6 => ?_⟩
      have s7 : Same H H6 := (same_upd s5 h0e).trans s6
      refine ⟨c, L2, _, _, _, _, rfl, s7, by rw [relOf_more hp]; exact rows6, ⟨s6 _ _ upd_same, fun r hr => ?_⟩, ?_, fun k hk => ?_⟩
      · rcases List.mem_cons.mp (pm.mem_iff.mp hr) with z | z
        · rw [z]; exact SqT.of (s7 _ _ tup0)
        · refine Same.tup s6 ?_
          have w0 := hasT4.2 r z
          rcases w0 with (w0 | ⟨o, w0⟩) | w0
          · refine .inl (.inl ?_)
            rw [upd_ne (ne_of w0 hasT4.1 (by intro z; cases z))]; exact w0
          · refine .inl (.inr ⟨o, ?_⟩)
            rw [upd_ne (ne_of w0 hasT4.1 (by intro z; cases z))]; exact w0
          · exact .inr w0
      · rw [pm.length_eq, List.length_cons, lenL]
      · have pm2 := (pm.map (·.2)).mem_iff.mp hk
        rw [List.map_cons] at pm2
        rcases List.mem_cons.mp pm2 with z | z
        · refine ⟨p, ?_, z⟩
          rw [List.take_add_one, hp]
          exact List.mem_append_right _ List.mem_cons_self
        · obtain ⟨p2, m2, e⟩ := memL k z
          refine ⟨p2, ?_, e⟩
          rw [List.take_add_one]
          exact List.mem_append_left _ m2
    · rintro σ H2 ⟨b, L, v5, v6, v7, v8, rfl, s3, rows, _⟩
      rw [List.length_map, hps.1, List.take_length] at rows
      exact ⟨_, rfl, q H2 b s3 rows⟩
end
end Hue

end
section
set_option maxRecDepth 100000
set_option maxHeartbeats 2000000
namespace Srt
open PySem PySem.W PySem.Calls PyProof.Rows
section
variable {prog : Program} {w : World} {A : Around} {E : Value → Shared → Prop} {s : Shared}
/-- sorted(x), x a list or a tuple of pairs of ints: in order -/
theorem hu_sorted_ord {l : Addr} {T : String} {o : Obj} {items : Array Value} {n : Nat} {Q : Value → Shared → Prop} {k : Value → Int × Int} (hT : T = "list" ∨ T = "tuple") (ho : s.heap.get? l = some o) (hc : o.cls = .type T) (hd : o.data = .seq items n) (hz : items.size ≤ sizeLine)
    (hp : ∀ v ∈ items.toList, IsPair s.heap v (k v).1 (k v).2)
    (h : ∀ (h1 h' : Heap) (d : Addr) (out : List Value), out.Perm items.toList → SrtO.Srtd (fun v u => SrtO.lexB (k v) (k u)) out → (∀ b o, s.heap.get? b = some o → h1.get? b = some o) → (∀ b o, h1.get? b = some o → h'.get? b = some o) → h1.objs.size ≤ d → (∃ n, h'.get? d = some (seqObj "list" out.toArray n)) → Q (.ref d) { s with heap := h' }) :
    wpAny (model prog w) A (call (.builtin "sorted") [.ref l]) Q E s := by
  have hz' : items.toList.length ≤ sizeLine := hz
  refine Calls.call_function_entry kind_sorted plain_sorted entry_sorted (args_sorted1 _) ?_
  unfold Builtin.«sorted»
  refine wpAny_bind (m := checkCount "sorted" 1 1 _) (wpAny_pure ?_)
  refine wpAny_bind (wpAny_collect_seq l hT ho hc hd (fun h1 k1 => ?_) hz)
  refine wpAny_bind (wpAny_newList ?_ hz')
  have hoL : (h1.push (seqObj "list" items.toList.toArray 0)).get? h1.objs.size = some (seqObj "list" items.toList.toArray 0) := Heap.get?_push_size _ rfl
  have keep : ∀ b o, h1.get? b = some o → b < h1.objs.size ∧ (h1.push (seqObj "list" items.toList.toArray 0)).get? b = some o := fun b o e => ⟨Heap.lt_size e, Heap.get?_push_of_some _ e⟩
  refine wpAny_bind (wpAny_holding (wpAny_call_entry slot_list_sort ⟨_, hoL, rfl⟩ entry_list_sort (SrtO.list_sort_ord (s := { s with heap := h1.push (seqObj "list" items.toList.toArray 0) }) (SrtO.swo_lex k) hoL hz' (fun h2 => ?_) fun out so pm => ⟨_, rfl, ?_⟩) (args_list_sort _)))
  · refine SrtO.pairs_sortableO (s := { s with heap := h1.push (seqObj "list" items.toList.toArray 0) }) (by omega) (fun v hm => ?_) fun o e => ?_
    · exact (hp v hm).keeps fun b o e _ => (keep b o (k1 b o e)).2
    · have e' : some o = some (seqObj "list" items.toList.toArray 0) := e.symm.trans hoL
      cases e'
      intro c
      exact absurd (Value.type.inj c) (by decide)
  · refine wpAny_pure ⟨_, rfl, h h1 _ h1.objs.size out pm.perm so k1 (fun b o e => ?_) (Nat.le_refl _) (sortedHeap_at hoL)⟩
    obtain ⟨lt, e2⟩ := keep b o e
    rw [sortedHeap_old (Nat.ne_of_lt lt) (by rw [size_push']; exact Nat.lt_succ_of_lt lt)]
    exact e2
end
end Srt

namespace L2
open PySem PySem.Spec PyProof.Rows
section
variable {X : Cx}
/-- sorted(x), x a list or a tuple of pairs of ints: in order -/
def rSortPS (K : PySem.W.Frag) : List V → Hp → VK → Prop := fun vs H Q => ∃ (a : Addr) (xs : List V) (k : V → Int × Int), vs = [V.ref a] ∧ (SqL K H a xs ∨ SqT K H a xs) ∧ (∀ x ∈ xs, ∃ t, x = V.ref t ∧ H t = some (.tup [.int (k x).1, .int (k x).2])) ∧
  ∀ ys p, ys.Perm xs → (ys.Pairwise fun x y => ¬ ((k y).1 < (k x).1 ∨ ((k y).1 = (k x).1 ∧ (k y).2 < (k x).2))) → H p = none → Q (.ref p) (upd H p (.lst ys))
theorem cr_sortPS : CallR X (.builtin "sorted") (rSortPS X.K) := by
  intro pins s σ H vs us Q I r h
  obtain ⟨a, xs, k, rfl, hs, hx, q⟩ := h
  obtain ⟨T, its, o, n, hT, rv, ho, hc, hd, hz⟩ : ∃ (T : String) (its : List Value) (o : Obj) (n : Nat), (T = "list" ∨ T = "tuple") ∧ Vals xs its ∧ s.heap.get? a = some o ∧ o.cls = .type T ∧ o.data = .seq its.toArray n ∧ xs.length ≤ sizeLine := by
    rcases hs with hs | hs
    · obtain ⟨its, rv, hl, hz⟩ := I.list hs
      obtain ⟨o, ho, hc, n, hd⟩ := hl.isList
      exact ⟨"list", its, o, n, .inl rfl, rv, ho, hc, hd, hz⟩
    · obtain ⟨its, rv, ⟨o, ho, hc, n, hd⟩, hz⟩ := I.tuple hs
      exact ⟨"tuple", its, o, n, .inr rfl, rv, ho, hc, hd, hz⟩
  obtain ⟨u, rfl, ru⟩ := vals1 r
  obtain rfl : u = Value.ref a := ru
  obtain ⟨e1, e2⟩ := bkV_refs rv fun x m => by
    obtain ⟨t, e, _⟩ := hx x m
    exact ⟨t, e⟩
  refine Srt.hu_sorted_ord (k := fun u => k (bkV u)) hT ho hc hd (by rw [List.size_toArray, ← rv.length]; exact hz) (fun v hv => ?_) fun h1 h' d out hp so k1 k2 hd' hn => ?_
  · obtain ⟨t, rfl⟩ := e2 v hv
    have hm : V.ref t ∈ xs := by rw [e1]; exact List.mem_map.mpr ⟨_, hv, rfl⟩
    obtain ⟨t', e, ht⟩ := hx _ hm
    cases e
    obtain ⟨_, its2, r2, o2, ho2, hc2, n2, hd2⟩ := I.hok _ _ ht
    obtain ⟨u1, u2, rfl, ri, rj⟩ := vals2 r2
    obtain ⟨t1, rfl⟩ := ri
    obtain ⟨t2, rfl⟩ := rj
    exact ⟨t, o2, t1, t2, n2, rfl, ho2, hc2, hd2⟩
  · have h3 : ∀ u ∈ out, ∃ a, u = Value.ref a := fun u hu => e2 u (hp.mem_iff.mp hu)
    obtain ⟨n, hn⟩ := hn
    have I1 : Inv X pins σ H { s with heap := h1 } := I.kept (t' := s.toks) k1
    refine ⟨.ref d, upd H d (.lst (out.map bkV)), I1.laid (t' := s.toks) k2 hd' ⟨?_, out, n, bkV_vals h3, hn⟩, rfl, q _ d ?_ ?_ (I1.hok.fresh hd')⟩
    · rw [List.length_map, hp.length_eq]
      show its.length ≤ sizeLine
      rw [← rv.length]; exact hz
    · rw [e1]
      exact hp.map bkV
    · rw [List.pairwise_map]
      exact so.imp fun z => SrtO.lexB_no.mp z
theorem sortPS_ (K : PySem.W.Frag) (hK : X.K = K := by rfl) : CallR X (.builtin "sorted") (rSortPS K) := by subst hK; exact cr_sortPS
/-! ### is, of two bools -/
theorem op_isB : OpR X (compareOp .Is) (fun x y H Q => ∃ b c : Bool, x = .bl b ∧ y = .bl c ∧ Q (.bl (decide (b = c))) H) := by
  intro pins s σ H x y v u Q I rx ry h
  obtain ⟨b, c, rfl, rfl, q⟩ := h
  cases rx
  cases ry
  show wpAny _ _ ((isSame (Value.bool b) (Value.bool c)) >>= fun z => pure (Value.bool z)) _ _ s
  exact wpAny_bind (wpAny_isSame_plain (by cases b <;> cases c <;> rfl) (wpAny_pure (fin_bl I q (by cases b <;> cases c <;> rfl))))
theorem op_notB : OpR X (compareOp .IsNot) (fun x y H Q => ∃ b c : Bool, x = .bl b ∧ y = .bl c ∧ Q (.bl (!decide (b = c))) H) := by
  intro pins s σ H x y v u Q I rx ry h
  obtain ⟨b, c, rfl, rfl, q⟩ := h
  cases rx
  cases ry
  show wpAny _ _ ((isSame (Value.bool b) (Value.bool c)) >>= fun z => pure (Value.bool (!z))) _ _ s
  exact wpAny_bind (wpAny_isSame_plain (by cases b <;> cases c <;> rfl) (wpAny_pure (fin_bl I q (by cases b <;> cases c <;> rfl))))
end
end L2

end
section
set_option maxRecDepth 100000
namespace Hue
open PySem PySem.Spec PyProof.Rows L2
section
variable {P : Program} {w : World} {K : PySem.W.Frag} {mg : Str → Option Value} {base : Heap} {C : Addr}
/-! ### the order list -/
abbrev s_is_next : Stmt := top 21
theorem sc_is_next : FnScope ["above", "order", "lamp", "upper"] ["above", "order", "lamp"] (defScope s_is_next) := ⟨rfl, rfl, rfl, by decide +kernel, rfl, by decide +kernel, by decide +kernel⟩
-- slots of is_next: 0 above, 1 order, 2 lamp, 3 upper
def spIsNext : Sp := fun vs H Q _ => ∃ (ab o : Addr) (n k : Nat) (R : Rel) (ord : List Nat), vs = [.ref ab, .ref o, .int k] ∧ n ≤ 16 ∧ k < n ∧ Rows H ab (relRows n (flip R)) ∧ H o = some (.lst (nL ord)) ∧
  ∀ H', Same H H' → Q (.bl (nxt n R ord k)) H'
theorem ok_is_next (T : Txt K mg C) {f : Addr} {fd : FuncData} (F : Fun K "is_next" "is_next" s_is_next f fd) : FnOk P w K mg base CX0 1 f fd ["above", "order", "lamp"] spIsNext := by
  refine F.ok sc_is_next (fun vs H Q E h => ?_) (fun cdv A outer s H vs Q E hr h => ?_)
  · obtain ⟨ab, o, n, k, R, ord, rfl, _⟩ := h; rfl
  · obtain ⟨ab, o, n, k, R, ord, rfl, hn, hk, rows, ho, q⟩ := h
    refine ⟨_, (pss_one (ps_ret (pe_and (pe_cmpR (ninS_ K) (pv 2) (pv 1) (by rfl)) (pe_one (pe_callB (all_ K rfl) (by rfl) T.all b_all (pa_cons (pe_lc (own := [("upper", 3)]) (g := gName 3) (tt := tYes) rfl sc_is_next.nd (pil_ K (pe_ix (ixL_ K) (pv 0) (pv 2) (fun _ _ => rfl))) (blkOk_by (by kernel_rfl)) (fun _ _ _ _ _ => (pg_name (i := 3) sc_is_next.nd rfl (by first | exact Or.inl rfl | exact Or.inr rfl))) (fun _ _ _ _ _ => pts_nil) (fun _ _ _ _ _ => (pe_cmpR (inS_ K) (pv 3) (pv 1) (by rfl)))) pa_nil)))))), ?_⟩
    refine ⟨_, rfl, _, rfl, o, _, rfl, .inl (SqL.of ho), rfl, flat_nL _, _, rfl, ?_⟩
    show if (!inV (V.int (k : Int)) (nL ord)) = true then _ else _
    rw [in_nL]
    refine ite2 (fun h1 => ?_) (fun h1 => ?_)
    · obtain ⟨xs, al, hb, _, hal, hL⟩ := rows.at (relRows_at (R := flip R) hk)
      refine ⟨_, rfl, _, rfl, ab, xs, _, _, rfl, rfl, SqL.of hb, atI_nat hal, al, rfl, ⟨_, SqL.of hL⟩, fun D hD => ?_⟩
      refine lc_list (xs := nL (Bel n (flip R) k)) (fun i H2 => H2 D = some (.lst ((((Bel n (flip R) k).take i).map fun j => decide (j ∈ ord)).map V.bl)) ∧ Same H H2)
        ⟨upd_same, same_new hD⟩ (fun i H2 _ ⟨_, s⟩ => SqL.of (s _ _ hL)) ?_ ?_
      · rintro i x H2 hx ⟨h2, s2⟩
        obtain ⟨j, hj, rfl⟩ : ∃ j, (Bel n (flip R) k)[i]? = some j ∧ x = V.int (j : Int) := by
          unfold nL nI at hx
          rw [List.map_map, List.getElem?_map] at hx
          obtain ⟨j, hj, e⟩ := Option.map_eq_some_iff.mp hx
          exact ⟨j, hj, e.symm⟩
        refine ⟨rfl, yesT ⟨_, rfl, _, rfl, o, _, rfl, .inl (SqL.of (s2 _ _ ho)), rfl, flat_nL _, _, h2, ?_, ?_, same_upd s2 hD⟩⟩
        · rw [List.length_map, List.length_map, List.length_take, sizeLine_eq]
          have := Bel_len n (flip R) k
          omega
        · rw [upd_same, List.take_add_one, hj, List.map_append, List.map_append]
          show some (HO.lst (_ ++ [V.bl (inV (V.int (j : Int)) (nL ord))])) = _
          rw [in_nL]
          rfl
      · rintro H2 ⟨h2, s2⟩
        rw [nL_len, List.take_length] at h2
        refine ⟨D, _, rfl, SqL.of h2, ?_⟩
        have e : nxt n R ord k = ((Bel n (flip R) k).map fun j => decide (j ∈ ord)).all id := by
          unfold nxt
          rw [h1, Bool.true_and, List.all_map]
          rfl
        rw [← e]
        exact q H2 s2
    · have e : nxt n R ord k = false := by
        unfold nxt
        rw [Bool.eq_false_iff.mpr h1, Bool.false_and]
      rw [← e]
      exact q H (Same.refl H)
abbrev s_order_list : Stmt := top 20
theorem sc_order_list : FnScope ["above", "order", "lamp"] ["above"] (defScope s_order_list) := ⟨rfl, rfl, rfl, by decide +kernel, rfl, by decide +kernel, by decide +kernel⟩
-- slots of order_list: 0 above, 1 order, 2 lamp
def spOrderList : Sp := fun vs H Q _ => ∃ (ab : Addr) (n : Nat) (R : Rel), vs = [.ref ab] ∧ n ≤ 16 ∧ Ranked R ∧ Rows H ab (relRows n (flip R)) ∧
  ∀ (H' : Hp) (p : Addr), Same H H' → H p = Option.none → H' p = some (.lst (nL (ordN n R n))) → Q (.ref p) H'
theorem ok_order_list (T : Txt K mg C) {f : Addr} {fd : FuncData} (F : Fun K "order_list" "order_list" s_order_list f fd) (c_is_next : Cal P w K mg base "is_next" 1 spIsNext) : FnOk P w K mg base CX0 2 f fd ["above"] spOrderList := by
  refine F.ok sc_order_list (fun vs H Q E h => ?_) (fun cdv A outer s H vs Q E hr h => ?_)
  · obtain ⟨ab, n, R, rfl, _⟩ := h; rfl
  · obtain ⟨ab, n, R, rfl, hn, hR, rows, q⟩ := h
    refine ⟨_, (pss_cons (ps_set (i := 1) sc_order_list.nd rfl (by first | exact Or.inl rfl | exact Or.inr rfl) (pe_lst pa_nil))
      (pss_cons (ps_while PassesOwn.never (pt_cmpR op_lt (pe_callB (lenS_ K) (by rfl) T.len b_len (pa_cons (pv 1) pa_nil)) (pe_callB (lenS_ K) (by rfl) T.len b_len (pa_cons (pv 0) pa_nil)) (nomark _))
      (pss_one (ps_expr (pe_bm PySem.F.plainAttrs_list PySem.F.slot_list_append PySem.F.type_list_append mt_append (pv 1) (pa_cons (pe_callB (min_ K rfl) (by rfl) T.min b_min (pa_cons (pe_lc (own := [("lamp", 2)]) (g := gName 2) rfl sc_order_list.nd (pi_range1 (by rfl) T.range (pa_cons (pe_callB (lenS_ K) (by rfl) T.len b_len (pa_cons (pv 0) pa_nil)) pa_nil)) (blkOk_by (by kernel_rfl)) (fun _ _ _ _ _ => (pg_name (i := 2) sc_order_list.nd rfl (by first | exact Or.inl rfl | exact Or.inr rfl))) (fun _ _ _ _ _ => (pts_one (pt_val (pe_cal c_is_next (hr.mono (by decide)) (pa_cons (pv 0) (pa_cons (pv 1) (pa_cons (pv 2) pa_nil))))))) (fun _ _ _ _ _ => (pv 2))) pa_nil)) pa_nil)))))
      (pss_one (ps_ret (pv 1))))), ?_⟩
    refine ⟨by decide, fun o ho => ?_⟩
    refine ⟨fun m σ H2 => ∃ k, m = n - k ∧ k ≤ n ∧ ∃ v, σ = [some (.ref ab), some (.ref o), v] ∧ Same H H2 ∧ H2 o = some (.lst (nL (ordN n R k))),
      ⟨n - 0, 0, rfl, Nat.zero_le _, _, rfl, same_new ho, upd_same⟩, ?_⟩
    rintro m σ H2 ⟨k, rfl, hk, v, rfl, s2, h2⟩
    have rows2 := rows.same s2
    obtain ⟨as, hab, las, _⟩ := id rows2
    rw [relRows_len] at las
    obtain ⟨len, ok⟩ := ordN_ok hR k hk
    refine ⟨_, rfl, o, _, rfl, .inl (SqL.of h2), _, rfl, ab, _, rfl, .inl (SqL.of hab), _, _, rfl, rfl, _, rfl, ?_⟩
    rw [nL_len, len, List.length_map, las]
    refine ite2 (fun hlt => ?_) (fun hge => ?_)
    · have klt : k < n := by have := of_decide_eq_true hlt; omega
      refine ⟨fun σ' H' => ∃ v, σ' = [some (.ref ab), some (.ref o), v] ∧ Same H H' ∧ H' o = some (.lst (nL (ordN n R (k + 1)))), fun σ' H' ⟨v, e1, e2, e3⟩ => ⟨n - (k + 1), by omega, k + 1, rfl, klt, v, e1, e2, e3⟩, ?_⟩
      obtain ⟨c, rest, ec⟩ := cands_ne (n := n) hR (ord := ordN n R k) (by omega)
      refine ⟨_, rfl, .inl ⟨rfl, _, SqL.of h2⟩, _, rfl, ab, _, rfl, .inl (SqL.of hab), _, rfl, ?_, ?_, fun D hD => ?_⟩
      · rw [List.length_map, las]; omega
      · rw [List.length_map, las]; omega
      rw [List.length_map, las, Int.toNat_natCast]
      refine lc_range (fun i H3 => H3 D = some (.lst (nL ((List.range i).filter (nxt n R (ordN n R k))))) ∧ Same H2 H3) ⟨upd_same, same_new hD⟩ ?_ ?_
      · rintro i H3 hi ⟨h3, s3⟩
        have e0 : (0 : Int) + (i : Int) = (i : Int) := by omega
        rw [e0]
        refine ⟨rfl, _, rfl, _, rfl, _, rfl, ab, o, n, i, R, ordN n R k, rfl, hn, hi, rows2.same s3, s3 _ _ h2, fun H4 s4 => ⟨_, rfl, ?_⟩⟩
        have h4 := s4 _ _ h3
        have grown : (List.range (i + 1)).filter (nxt n R (ordN n R k)) = (List.range i).filter (nxt n R (ordN n R k)) ++ (if nxt n R (ordN n R k) i = true then [i] else []) := by
          rw [List.range_succ, List.filter_append, List.filter_cons]
          rfl
        refine ite2 (fun hx => ?_) (fun hx => ?_)
        · refine ⟨_, rfl, _, h4, ?_, ?_, same_upd (s3.trans s4) hD⟩
          · rw [nL_len, sizeLine_eq]
            have := List.length_filter_le (nxt n R (ordN n R k)) (List.range i)
            rw [List.length_range] at this
            omega
          · rw [upd_same, grown, if_pos hx, nL_app]; rfl
        · refine ⟨?_, s3.trans s4⟩
          rw [h4, grown, if_neg hx, List.append_nil]
      · rintro H3 ⟨h3, s3⟩
        refine ⟨D, nI (cands n R (ordN n R k)), rfl, SqL.of h3, ?_, fun mm hm hle => ?_⟩
        · rw [nI_len, ec]; exact Nat.succ_pos _
        have em := cands_min ec hm hle
        rw [em]
        refine ⟨o, _, _, rfl, rfl, s3 _ _ h2, ?_, _, rfl, same_upd (s2.trans s3) ho, ?_⟩
        · rw [nL_len, len, sizeLine_eq]; omega
        · rw [upd_same, ordN_succ ec, nL_app]; rfl
    · have kn : k = n := by
        have z : ¬ ((k : Int) < (n : Int)) := fun z => hge (decide_eq_true z)
        omega
      rw [kn] at h2
      exact ⟨_, rfl, q H2 o s2 ho h2⟩
/-! ### the house -/
/-- the lamps directly beneath i, in the order of the wires qs -/
def dirL (qs : List (Nat × Nat)) (i : Nat) : List Nat := (qs.filter fun p => p.1 == i).map (·.2)
theorem mem_dirL {qs : List (Nat × Nat)} {i j : Nat} : j ∈ dirL qs i ↔ (i, j) ∈ qs := by
  unfold dirL
  rw [List.mem_map]
  constructor
  · rintro ⟨⟨a, b⟩, hm, rfl⟩
    obtain ⟨h1, h2⟩ := List.mem_filter.mp hm
    have e : a = i := by simpa using h2
    rw [← e]; exact h1
  · exact fun h => ⟨(i, j), List.mem_filter.mpr ⟨h, by simp⟩, rfl⟩
theorem dirL_few (qs : List (Nat × Nat)) (i : Nat) : (dirL qs i).length ≤ qs.length := by
  unfold dirL
  rw [List.length_map]
  exact List.length_filter_le ..
theorem dirL_more {qs : List (Nat × Nat)} {i j : Nat} {p : Nat × Nat} (h : qs[j]? = some p) : dirL (qs.take (j + 1)) i = dirL (qs.take j) i ++ (if p.1 = i then [p.2] else []) := by
  unfold dirL
  rw [List.take_add_one, h, List.filter_append, List.map_append]
  congr 1
  by_cases e : p.1 = i
  · simp [e]
  · simp [e]
/-- a list of the same tuples in another order -/
theorem pairs_perm {H : Hp} {ts : List Addr} {ps : List (Nat × Nat)} {ys : List V} (hp : Pairs H ts ps) (perm : ys.Perm (ts.map V.ref)) : ∃ (us : List Addr) (qs : List (Nat × Nat)), ys = us.map V.ref ∧ Pairs H us qs ∧ qs.Perm ps := by
  let pv : V → Nat × Nat := fun v => match v with
    | .ref t => match H t with
      | some (.tup [.int i, .int j]) => (i.toNat, j.toNat)
      | _ => (0, 0)
    | _ => (0, 0)
  let av : V → Addr := fun v => match v with
    | .ref t => t
    | _ => 0
  have pvt : ∀ (i : Nat) t p, ts[i]? = some t → ps[i]? = some p → pv (.ref t) = p := fun i t p a b => by
    show (match H t with
      | some (.tup [.int i, .int j]) => (i.toNat, j.toNat)
      | _ => (0, 0)) = p
    rw [hp.2 i t p a b]
    rfl
  have eps : (ts.map V.ref).map pv = ps := by
    refine List.ext_getElem? fun i => ?_
    rw [List.getElem?_map, List.getElem?_map]
    cases e : ts[i]? with
    | none =>
      rw [List.getElem?_eq_none_iff] at e
      rw [show ps[i]? = none from List.getElem?_eq_none_iff.mpr (by rw [← hp.1]; exact e)]
      rfl
    | some t =>
      have il : i < ps.length := by rw [← hp.1]; exact (List.getElem?_eq_some_iff.mp e).1
      rw [List.getElem?_eq_getElem il]
      exact congrArg some (pvt i t _ e (List.getElem?_eq_getElem il))
  have isr : ∀ y ∈ ys, ∃ (i : Nat) (t : Addr), y = V.ref t ∧ ts[i]? = some t := fun y hy => by
    obtain ⟨t, ht, rfl⟩ := List.mem_map.mp (perm.mem_iff.mp hy)
    obtain ⟨i, hi, e⟩ := List.getElem_of_mem ht
    exact ⟨i, t, rfl, by rw [List.getElem?_eq_getElem hi, e]⟩
  refine ⟨ys.map av, ys.map pv, ?_, ⟨by rw [List.length_map, List.length_map], fun i t p a b => ?_⟩, ?_⟩
  · rw [List.map_map]
    refine (List.map_id _).symm.trans (List.map_congr_left fun y hy => ?_)
    obtain ⟨_, t, rfl, _⟩ := isr y hy
    rfl
  · rw [List.getElem?_map] at a b
    obtain ⟨y, hy, rfl⟩ := Option.map_eq_some_iff.mp a
    rw [hy] at b
    cases b
    obtain ⟨j, t, rfl, hj⟩ := isr y (List.mem_of_getElem? hy)
    have jl : j < ps.length := by rw [← hp.1]; exact (List.getElem?_eq_some_iff.mp hj).1
    have e := pvt j t _ hj (List.getElem?_eq_getElem jl)
    rw [e]
    exact hp.2 j t _ hj (List.getElem?_eq_getElem jl)
  · have z := perm.map pv
    rw [eps] at z
    exact z
theorem Coll.rowsF {H1 H2 : Hp} {D : Addr} {n : Nat} {f : Nat → List Nat} (c : Coll H1 D (fun j => nL (f j)) n H2) : Rows H2 D ((List.range n).map f) := by
  obtain ⟨as, h1, h2, _, h3⟩ := c
  refine ⟨as, h1, by rw [h2, List.length_map, List.length_range], fun i a r ha hr => ?_⟩
  have hi : i < n := by rw [← h2]; exact (List.getElem?_eq_some_iff.mp ha).1
  rw [List.getElem?_map, List.getElem?_range hi] at hr
  cases hr
  exact (h3 i a ha).2
/-- pairs in order -/
def leP (p q : Nat × Nat) : Prop := ¬ (q.1 < p.1 ∨ (q.1 = p.1 ∧ q.2 < p.2))
def PermS (qs ps : List (Nat × Nat)) : Prop := qs.Perm ps ∧ qs.Pairwise leP
def kOf (H : Hp) : V → Int × Int := fun v => match v with
  | .ref t => match H t with
    | some (.tup [.int i, .int j]) => (i, j)
    | _ => (0, 0)
  | _ => (0, 0)
theorem kOf_ref {H : Hp} {t : Addr} {i j : Int} (h : H t = some (.tup [.int i, .int j])) : kOf H (.ref t) = (i, j) := by
  show (match H t with
    | some (.tup [.int i, .int j]) => (i, j)
    | _ => (0, 0)) = (i, j)
  rw [h]
/-- the names of the methods -/
def mNames : List Str := ["order", "beneath", "above", "direct", "depth", "tops", "bottoms", "is_beneath", "is_comparable", "closed", "reduced"]
theorem mN {m f : Str} (hm : m ∈ mNames) (hf : f ∉ mNames) : ¬ m = f := fun e => hf (e ▸ hm)
/-- the rest of what a house keeps -/
def HouseX (C : Addr) (H : Hp) (x : Addr) (n : Nat) (ps : List (Nat × Nat)) : Prop := ∃ (dx : Addr) (fs : List (Str × V)) (ab di l : Addr) (us : List Addr) (qs : List (Nat × Nat)), H x = some (.ins C dx fs) ∧ fs.lookup ("_above" : Str) = some (.ref ab) ∧ Rows H ab (relRows n (flip (relOf ps))) ∧
  fs.lookup ("_direct" : Str) = some (.ref di) ∧ Rows H di ((List.range n).map (dirL qs)) ∧ fs.lookup ("wires" : Str) = some (.ref l) ∧ H l = some (.tup (us.map V.ref)) ∧ Pairs H us qs ∧ PermS qs ps ∧ ∀ m ∈ mNames, fs.lookup m = Option.none
theorem HouseX.same {H H' : Hp} {x : Addr} {n : Nat} {ps : List (Nat × Nat)} (a : HouseX C H x n ps) (s : Same H H') : HouseX C H' x n ps := by
  obtain ⟨dx, fs, ab, di, l, us, qs, h1, h2, h3, h4, h5, h6, h7, h8, h9, h10⟩ := a
  exact ⟨dx, fs, ab, di, l, us, qs, s _ _ h1, h2, h3.same s, h4, h5.same s, h6, s _ _ h7, h8.same s, h9, h10⟩
abbrev s_House___init__ : Stmt := inClass (top 12) 2
theorem sc_House___init__ : FnScope ["self", "count", "hues", "wires", "lamps", "upper", "lamp", "lower"] ["self", "count", "hues", "wires"] (defScope s_House___init__) := ⟨rfl, rfl, rfl, by decide +kernel, rfl, by decide +kernel, by decide +kernel⟩
-- slots of House.__init__: 0 self, 1 count, 2 hues, 3 wires, 4 lamps, 5 upper, 6 lamp, 7 lower
def HouseAt (C : Addr) (H : Hp) (x : Addr) (n h : Nat) (R : Rel) : Prop := ∃ (dx : Addr) (fs : List (Str × V)) (be o : Addr), H x = some (.ins C dx fs) ∧ fs.lookup ("count" : Str) = some (.int n) ∧ fs.lookup ("hues" : Str) = some (.int h) ∧
  fs.lookup ("_beneath" : Str) = some (.ref be) ∧ Rows H be (relRows n R) ∧ fs.lookup ("_order" : Str) = some (.ref o) ∧ H o = some (.lst (nL (ordN n R n))) ∧ fs.lookup ("order" : Str) = Option.none ∧ fs.lookup ("beneath" : Str) = Option.none
def spInit (K : PySem.W.Frag) (C : Addr) : Sp := fun vs H Q _ => ∃ (x dx a : Addr) (n h : Nat) (ps : List (Nat × Nat)), vs = [.ref x, .int n, .int h, .ref a] ∧ H x = some (.ins C dx []) ∧ 1 ≤ n ∧ n ≤ 16 ∧ 2 ≤ h ∧ h ≤ 10 ∧ Wires K H a n ps ∧
  ∀ H', SB x H H' → HouseAt C H' x n h (relOf ps) → HouseX C H' x n ps → Q .non H'
theorem ok_init (T : Txt K mg C) {f : Addr} {fd : FuncData} (F : FunV K "__init__" "House.__init__" s_House___init__ f fd) (c_check_count : Cal P w K mg base "check_count" 3 spCheckCount) (c_check_hues : Cal P w K mg base "check_hues" 3 spCheckHues)
    (c_lamps_beneath : Cal P w K mg base "lamps_beneath" 4 (spLampsBeneath K)) (c_order_list : Cal P w K mg base "order_list" 2 spOrderList) : FnOk P w K mg base CX0 5 f fd ["self", "count", "hues", "wires"] (spInit K C) := by
  refine F.ok sc_House___init__ (fun vs H Q E h => ?_) (fun cdv A outer s H vs Q E hr h => ?_)
  · obtain ⟨x, dx, a, n, h, ps, rfl, _⟩ := h; rfl
  · obtain ⟨x, dx, a, n, h, ps, rfl, hx, n1, n16, h2, h10, W, q⟩ := h
    refine ⟨_, (pss_cons (ps_expr (pe_cal c_check_count (hr.mono (by decide)) (pa_cons (pv 1) pa_nil)))
      (pss_cons (ps_expr (pe_cal c_check_hues (hr.mono (by decide)) (pa_cons (pv 2) pa_nil)))
      (pss_cons (ps_fld (pv 0) (pv 1) rfl)
      (pss_cons (ps_fld (pv 0) (pv 2) rfl)
      (pss_cons (ps_fld (pv 0) (pe_cal c_lamps_beneath (hr.mono (by decide)) (pa_cons (pv 1) (pa_cons (pv 3) pa_nil))) rfl)
      (pss_cons (ps_fld (pv 0) (pe_callTy (tupOf_ K) (by rfl) T.tuple b_tuple (pa_cons (pe_callB (sortPS_ K) (by rfl) T.sorted b_sorted (pa_cons (pv 3) pa_nil)) pa_nil)) rfl)
      (pss_cons (ps_set (i := 4) sc_House___init__.nd rfl (by first | exact Or.inl rfl | exact Or.inr rfl) (pe_callTy hu_cr_range1 (by rfl) T.range b_range (pa_cons (pv 1) pa_nil)))
      (pss_cons (ps_fld (pv 0) (pe_lc (own := [("lamp", 6)]) (g := gName 6) (tt := tYes) rfl sc_House___init__.nd (hu_pi_rng (pv 4)) (blkOk_by (by kernel_rfl)) (fun _ _ _ _ _ => (pg_name (i := 6) sc_House___init__.nd rfl (by first | exact Or.inl rfl | exact Or.inr rfl))) (fun _ _ _ _ _ => pts_nil) (fun _ _ _ _ _ => (pe_lc (own := [("upper", 5)]) (g := gName 5) rfl sc_House___init__.nd (hu_pi_rng (pv 4)) (blkOk_by (by kernel_rfl)) (fun _ _ _ _ _ => (pg_name (i := 5) sc_House___init__.nd rfl (by first | exact Or.inl rfl | exact Or.inr rfl))) (fun _ _ _ _ _ => (pts_one (pt_cmpR (inS_ K) (pv 6) (pe_ix (ixL_ K) (fld_ K (pv 0)) (pv 5) (fun _ _ => rfl)) (by rfl)))) (fun _ _ _ _ _ => (pv 5))))) rfl)
      (pss_cons (ps_fld (pv 0) (pe_lc (own := [("lamp", 6)]) (g := gName 6) (tt := tYes) rfl sc_House___init__.nd (hu_pi_rng (pv 4)) (blkOk_by (by kernel_rfl)) (fun _ _ _ _ _ => (pg_name (i := 6) sc_House___init__.nd rfl (by first | exact Or.inl rfl | exact Or.inr rfl))) (fun _ _ _ _ _ => pts_nil) (fun _ _ _ _ _ => (pe_lc (own := [("upper", 5), ("lower", 7)]) (g := gTup K 2 (gCons (gName 5) (gCons (gName 7) gNil))) rfl sc_House___init__.nd (pit_ K (fld_ K (pv 0))) (blkOk_by (by kernel_rfl)) (fun _ _ _ _ _ => (pg_tup (by rfl) (pgs_cons (pg_name (i := 5) sc_House___init__.nd rfl (by first | exact Or.inl rfl | exact Or.inr rfl)) (pgs_cons (pg_name (i := 7) sc_House___init__.nd rfl (by first | exact Or.inl rfl | exact Or.inr rfl)) pgs_nil)))) (fun _ _ _ _ _ => (pts_one (pt_cmpR op_eq (pv 5) (pv 6) (nomark _)))) (fun _ _ _ _ _ => (pv 7))))) rfl)
      (pss_one (ps_fld (pv 0) (pe_cal c_order_list (hr.mono (by decide)) (pa_cons (fld_ K (pv 0)) pa_nil)) rfl))))))))))), ?_⟩
    refine ⟨_, rfl, n, rfl, by omega, by omega, _, rfl, h, rfl, by omega, by omega, ?_⟩
    -- self.count, self.hues
    refine ⟨_, rfl, _, rfl, x, C, dx, _, rfl, hx, T.cl, T.nCount, by decide, ?_⟩
    refine ⟨_, rfl, _, rfl, x, C, dx, _, rfl, upd_same, T.cl, T.nHues, Nat.lt_of_le_of_lt (put_few (Nat.le_refl 0)) (by decide), ?_⟩
    rw [upd_upd]
    have sb1 : SB x H (upd H x (.ins C dx (putF "hues" (.int h) (putF "count" (.int n) [])))) := (SB.refl x H).upd
    have hx1 : (upd H x (.ins C dx (putF "hues" (.int h) (putF "count" (.int n) [])))) x = some (.ins C dx (putF "hues" (.int h) (putF "count" (.int n) []))) := upd_same
    have lk1 : (putF "hues" (.int h) (putF "count" (.int n) []) : List (Str × V)).length ≤ 2 := put_few (put_few (Nat.le_refl 0))
    generalize upd H x (.ins C dx (putF "hues" (.int h) (putF "count" (.int n) []))) = H1 at sb1 hx1 ⊢
    obtain ⟨⟨ts, ha, hps⟩, nd, few, lt, ρ, rank⟩ := id W
    have W1 : Wires K H1 a n ps := ⟨⟨ts, ha.sb hx sb1, hps.1, fun i t p e1 e2 => sb1 _ _ (ne_of (hps.2 i t p e1 e2) hx (by intro z; cases z)) (hps.2 i t p e1 e2)⟩, nd, few, lt, ρ, rank⟩
    -- self._beneath
    refine ⟨_, rfl, _, rfl, a, n, ps, rfl, n16, W1, fun H2 be s2 rows2 => ?_⟩
    refine ⟨_, rfl, x, C, dx, _, rfl, s2 _ _ hx1, T.cl, T.nBen, by omega, ?_⟩
    have sb3 : SB x H (upd H2 x (.ins C dx (putF "_beneath" (.ref be) (putF "hues" (.int h) (putF "count" (.int n) []))))) := (sb1.trans (SB.of s2)).upd
    have rows3 : Rows (upd H2 x (.ins C dx (putF "_beneath" (.ref be) (putF "hues" (.int h) (putF "count" (.int n) []))))) be (relRows n (relOf ps)) := SB.rows ((SB.refl x H2).upd) (s2 _ _ hx1) rows2
    have hx3 : (upd H2 x (.ins C dx (putF "_beneath" (.ref be) (putF "hues" (.int h) (putF "count" (.int n) []))))) x = some (.ins C dx (putF "_beneath" (.ref be) (putF "hues" (.int h) (putF "count" (.int n) [])))) := upd_same
    have lk3 : (putF "_beneath" (.ref be) (putF "hues" (.int h) (putF "count" (.int n) [])) : List (Str × V)).length ≤ 3 := put_few lk1
    generalize upd H2 x (.ins C dx (putF "_beneath" (.ref be) (putF "hues" (.int h) (putF "count" (.int n) [])))) = H3 at sb3 rows3 hx3 ⊢
    -- self.wires
    have ha3 := ha.sb hx sb3
    refine ⟨_, rfl, a, ts.map V.ref, kOf H3, rfl, ha3, fun y hy => ?_, fun ys c perm so nc => ?_⟩
    · obtain ⟨t, ht, rfl⟩ := List.mem_map.mp hy
      obtain ⟨j, hj, e⟩ := List.getElem_of_mem ht
      have jl : j < ps.length := by rw [← hps.1]; exact hj
      have e2 := hps.2 j t ps[j] (by rw [List.getElem?_eq_getElem hj, e]) (List.getElem?_eq_getElem jl)
      have e3 := sb3 _ _ (ne_of e2 hx (by intro z; cases z)) e2
      exact ⟨t, rfl, by rw [kOf_ref e3]; exact e3⟩
    refine ⟨c, ys, rfl, .inl ⟨SqL.of upd_same, fun l nl => ?_⟩⟩
    have s4 : Same H3 (upd (upd H3 c (.lst ys)) l (.tup ys)) := (same_new nc).trans (same_new nl)
    have hl4 : (upd (upd H3 c (.lst ys)) l (.tup ys)) l = some (.tup ys) := upd_same
    generalize upd (upd H3 c (.lst ys)) l (.tup ys) = H4 at s4 hl4 ⊢
    refine ⟨_, rfl, x, C, dx, _, rfl, s4 _ _ hx3, T.cl, T.nWires, by omega, ?_⟩
    have nlx : l ≠ x := ne_of hl4 (s4 _ _ hx3) (by intro z; cases z)
    generalize hf5 : putF "wires" (.ref l) (putF "_beneath" (.ref be) (putF "hues" (.int h) (putF "count" (.int n) []))) = fs5
    have lk5 : fs5.length ≤ 4 := by rw [← hf5]; exact put_few lk3
    have ben5 : fs5.lookup ("_beneath" : Str) = some (.ref be) := by rw [← hf5, lk_ne _ _ (by decide +kernel), lk_same]
    have wir5 : fs5.lookup ("wires" : Str) = some (.ref l) := by rw [← hf5, lk_same]
    have cnt5 : fs5.lookup ("count" : Str) = some (.int n) := by rw [← hf5, lk_ne _ _ (by decide +kernel), lk_ne _ _ (by decide +kernel), lk_ne _ _ (by decide +kernel), lk_same]
    have hue5 : fs5.lookup ("hues" : Str) = some (.int h) := by rw [← hf5, lk_ne _ _ (by decide +kernel), lk_ne _ _ (by decide +kernel), lk_same]
    have ord5 : fs5.lookup ("order" : Str) = Option.none := by rw [← hf5, lk_ne _ _ (by decide +kernel), lk_ne _ _ (by decide +kernel), lk_ne _ _ (by decide +kernel), lk_ne _ _ (by decide +kernel)] <;> rfl
    have bnt5 : fs5.lookup ("beneath" : Str) = Option.none := by rw [← hf5, lk_ne _ _ (by decide +kernel), lk_ne _ _ (by decide +kernel), lk_ne _ _ (by decide +kernel), lk_ne _ _ (by decide +kernel)] <;> rfl
    have mth5 : ∀ m ∈ mNames, fs5.lookup m = Option.none := fun m hm => by rw [← hf5, lk_ne _ _ (mN hm (by decide +kernel)), lk_ne _ _ (mN hm (by decide +kernel)), lk_ne _ _ (mN hm (by decide +kernel)), lk_ne _ _ (mN hm (by decide +kernel))] <;> rfl
    have sb5 : SB x H (upd H4 x (.ins C dx fs5)) := (sb3.trans (SB.of s4)).upd
    have rows5 : Rows (upd H4 x (.ins C dx fs5)) be (relRows n (relOf ps)) := SB.rows ((SB.refl x H4).upd) (s4 _ _ hx3) (rows3.same s4)
    have hl5 : (upd H4 x (.ins C dx fs5)) l = some (.tup ys) := by rw [upd_ne nlx]; exact hl4
    have hx5 : (upd H4 x (.ins C dx fs5)) x = some (.ins C dx fs5) := upd_same
    generalize upd H4 x (.ins C dx fs5) = H5 at sb5 rows5 hl5 hx5 ⊢
    have hps5 : Pairs H5 ts ps := ⟨hps.1, fun i t p e1 e2 => sb5 _ _ (ne_of (hps.2 i t p e1 e2) hx (by intro z; cases z)) (hps.2 i t p e1 e2)⟩
    obtain ⟨us, qs, eys, hus5, pqs⟩ := pairs_perm hps5 perm
    have kq : ∀ (i : Nat) t r, us[i]? = some t → qs[i]? = some r → kOf H3 (.ref t) = ((r.1 : Int), (r.2 : Int)) := by
      intro i t r e1 e2
      have m : V.ref t ∈ ts.map V.ref := perm.mem_iff.mp (by rw [eys]; exact List.mem_map.mpr ⟨t, List.mem_of_getElem? e1, rfl⟩)
      obtain ⟨t', ht', et⟩ := List.mem_map.mp m
      cases et
      obtain ⟨j, hj, e⟩ := List.getElem_of_mem ht'
      have jl : j < ps.length := by rw [← hps.1]; exact hj
      have h0 := hps.2 j t ps[j] (by rw [List.getElem?_eq_getElem hj, e]) (List.getElem?_eq_getElem jl)
      have ntx := ne_of h0 hx (by intro z; cases z)
      have h5 := hus5.2 i t r e1 e2
      rw [sb5 _ _ ntx h0] at h5
      injection h5 with h5
      injection h5 with h5
      injection h5 with a1 a2
      injection a1 with a1
      injection a2 with a2 _
      injection a2 with a2
      rw [kOf_ref (sb3 _ _ ntx h0), a1, a2]
    have pqs : PermS qs ps := ⟨pqs, by
      rw [List.pairwise_iff_getElem]
      intro i j hi hj ij
      have li : i < us.length := by rw [hus5.1]; exact hi
      have lj : j < us.length := by rw [hus5.1]; exact hj
      rw [eys, List.pairwise_map, List.pairwise_iff_getElem] at so
      have z := so i j li lj ij
      rw [kq i _ _ (List.getElem?_eq_getElem li) (List.getElem?_eq_getElem hi), kq j _ _ (List.getElem?_eq_getElem lj) (List.getElem?_eq_getElem hj)] at z
      show ¬ (qs[j].1 < qs[i].1 ∨ (qs[j].1 = qs[i].1 ∧ qs[j].2 < qs[i].2))
      intro y
      refine z ?_
      show ((qs[j].1 : Int) < (qs[i].1 : Int) ∨ ((qs[j].1 : Int) = (qs[i].1 : Int) ∧ (qs[j].2 : Int) < (qs[i].2 : Int)))
      omega⟩
    have ys5 : ∀ y ∈ ys, ∃ (t : Addr) (i j : Nat), y = V.ref t ∧ H5 t = some (.tup [.int (i : Int), .int (j : Int)]) := by
      intro y hy
      obtain ⟨t, ht, rfl⟩ := List.mem_map.mp (perm.mem_iff.mp hy)
      obtain ⟨j, hj, e⟩ := List.getElem_of_mem ht
      have jl : j < ps.length := by rw [← hps.1]; exact hj
      have e2 := hps.2 j t ps[j] (by rw [List.getElem?_eq_getElem hj, e]) (List.getElem?_eq_getElem jl)
      exact ⟨t, _, _, rfl, sb5 _ _ (ne_of e2 hx (by intro z; cases z)) e2⟩
    have ysl : ys.length < 4900 := by rw [perm.length_eq, List.length_map, hps.1]; exact few
    -- lamps = range(count)
    refine ⟨_, rfl, _, rfl, fun r nr => ?_⟩
    have s6 : Same H5 (upd H5 r (.rng 0 (n : Int))) := same_new nr
    have hr6 : (upd H5 r (.rng 0 (n : Int))) r = some (.rng 0 (n : Int)) := upd_same
    generalize upd H5 r (.rng 0 (n : Int)) = H6 at s6 hr6 ⊢
    have nrx : r ≠ x := ne_of hr6 (s6 _ _ hx5) (by intro z; cases z)
    have rows6 := rows5.same s6
    -- self._above
    refine ⟨_, rfl, r, 0, n, rfl, hr6, ⟨by omega, by omega, by omega, by omega⟩, fun D hD => ?_⟩
    rw [show ((n : Int) - 0).toNat = n by omega]
    refine lc_range (fun i H7 => Coll H6 D (fun j => nL (Bel n (flip (relOf ps)) j)) i H7) (Coll.start hD) ?_ ?_
    · intro i H7 hi c7
      have e0 : (0 : Int) + (i : Int) = (i : Int) := by omega
      rw [e0]
      obtain ⟨_, hD7, _, s7, _⟩ := id c7
      refine ⟨rfl, yesT ⟨_, rfl, r, 0, n, rfl, s7 _ _ hr6, ⟨by omega, by omega, by omega, by omega⟩, fun D2 hD2 => ?_⟩⟩
      rw [show ((n : Int) - 0).toNat = n by omega]
      refine lc_range (fun j H8 => H8 D2 = some (.lst (nL ((List.range j).filter (flip (relOf ps) i)))) ∧ Same H7 H8) ⟨upd_same, same_new hD2⟩ ?_ ?_
      · rintro j H8 hj ⟨h8, s8⟩
        have e0 : (0 : Int) + (j : Int) = (j : Int) := by omega
        rw [e0]
        have s68 : Same H6 H8 := s7.trans s8
        obtain ⟨xs, al, hb, _, hal, hL⟩ := (rows6.same s68).at (relRows_at (R := relOf ps) hj)
        refine ⟨rfl, _, rfl, _, rfl, x, C, dx, _, _, rfl, s68 _ _ (s6 _ _ hx5), T.cl, T.nBen, ben5, _, rfl, be, xs, _, _, rfl, rfl, SqL.of hb, atI_nat hal, al, _, rfl, .inl (SqL.of hL), rfl, flat_nL _, _, rfl, ?_⟩
        have grown : (List.range (j + 1)).filter (flip (relOf ps) i) = (List.range j).filter (flip (relOf ps) i) ++ (if flip (relOf ps) i j = true then [j] else []) := by
          rw [List.range_succ, List.filter_append, List.filter_cons]
          rfl
        have same_test : inV (V.int (i : Int)) (nL (Bel n (relOf ps) j)) = flip (relOf ps) i j := by
          rw [in_nL, Bool.eq_iff_iff, decide_eq_true_eq, mem_Bel]
          exact ⟨fun z => z.2, fun z => ⟨hi, z⟩⟩
        show if inV (V.int (i : Int)) (nL (Bel n (relOf ps) j)) = true then _ else _
        rw [same_test]
        refine ite2 (fun hx' => ?_) (fun hx' => ?_)
        · refine ⟨_, rfl, _, h8, ?_, ?_, same_upd s8 hD2⟩
          · rw [nL_len, sizeLine_eq]
            have := List.length_filter_le (flip (relOf ps) i) (List.range j)
            rw [List.length_range] at this
            omega
          · rw [upd_same, grown, if_pos hx', nL_app]; rfl
        · refine ⟨?_, s8⟩
          rw [h8, grown, if_neg hx', List.append_nil]
      · rintro H8 ⟨h8, s8⟩
        exact c7.more hD s8 (fun z => by rw [z, hD7] at hD2; cases hD2) h8 (by omega)
    intro H7 c7
    have rowsA := c7.rows
    obtain ⟨_, hD7, _, s7, _⟩ := id c7
    refine ⟨_, rfl, x, C, dx, _, rfl, s7 _ _ (s6 _ _ hx5), T.cl, T.nAbove, by omega, ?_⟩
    generalize hf8 : putF "_above" (.ref D) fs5 = fs8
    have lk8 : fs8.length ≤ 5 := by rw [← hf8]; exact put_few lk5
    have ben8 : fs8.lookup ("_beneath" : Str) = some (.ref be) := by rw [← hf8, lk_ne _ _ (by decide +kernel)]; exact ben5
    have wir8 : fs8.lookup ("wires" : Str) = some (.ref l) := by rw [← hf8, lk_ne _ _ (by decide +kernel)]; exact wir5
    have cnt8 : fs8.lookup ("count" : Str) = some (.int n) := by rw [← hf8, lk_ne _ _ (by decide +kernel)]; exact cnt5
    have hue8 : fs8.lookup ("hues" : Str) = some (.int h) := by rw [← hf8, lk_ne _ _ (by decide +kernel)]; exact hue5
    have ord8 : fs8.lookup ("order" : Str) = Option.none := by rw [← hf8, lk_ne _ _ (by decide +kernel)]; exact ord5
    have bnt8 : fs8.lookup ("beneath" : Str) = Option.none := by rw [← hf8, lk_ne _ _ (by decide +kernel)]; exact bnt5
    have abv8 : fs8.lookup ("_above" : Str) = some (.ref D) := by rw [← hf8, lk_same]
    have mth8 : ∀ m ∈ mNames, fs8.lookup m = Option.none := fun m hm => by rw [← hf8, lk_ne _ _ (mN hm (by decide +kernel))]; exact mth5 m hm
    have s67 := s6.trans s7
    have sb8 : SB x H (upd H7 x (.ins C dx fs8)) := (sb5.trans (SB.of s67)).upd
    have rows8 : Rows (upd H7 x (.ins C dx fs8)) be (relRows n (relOf ps)) := SB.rows ((SB.refl x H7).upd) (s67 _ _ hx5) (rows6.same s7)
    have rowsA8 : Rows (upd H7 x (.ins C dx fs8)) D (relRows n (flip (relOf ps))) := SB.rows ((SB.refl x H7).upd) (s67 _ _ hx5) rowsA
    have hl8 : (upd H7 x (.ins C dx fs8)) l = some (.tup ys) := by rw [upd_ne nlx]; exact s67 _ _ hl5
    have hr8 : (upd H7 x (.ins C dx fs8)) r = some (.rng 0 (n : Int)) := by rw [upd_ne nrx]; exact s7 _ _ hr6
    have hx8 : (upd H7 x (.ins C dx fs8)) x = some (.ins C dx fs8) := upd_same
    have ys8 : ∀ y ∈ ys, ∃ (t : Addr) (i j : Nat), y = V.ref t ∧ (upd H7 x (.ins C dx fs8)) t = some (.tup [.int (i : Int), .int (j : Int)]) := by
      intro y hy
      obtain ⟨t, i, j, e1, e2⟩ := ys5 y hy
      exact ⟨t, i, j, e1, by rw [upd_ne (ne_of e2 hx5 (by intro z; cases z))]; exact s67 _ _ e2⟩
    have hus8 : Pairs (upd H7 x (.ins C dx fs8)) us qs := ⟨hus5.1, fun i t p e1 e2 => by rw [upd_ne (ne_of (hus5.2 i t p e1 e2) hx5 (by intro z; cases z))]; exact s67 _ _ (hus5.2 i t p e1 e2)⟩
    generalize upd H7 x (.ins C dx fs8) = H8 at sb8 rows8 rowsA8 hl8 hr8 hx8 ys8 hus8 ⊢
    -- self._direct
    refine ⟨_, rfl, r, 0, n, rfl, hr8, ⟨by omega, by omega, by omega, by omega⟩, fun D3 hD3 => ?_⟩
    rw [show ((n : Int) - 0).toNat = n by omega]
    have lq : qs.length < 4900 := by rw [pqs.1.length_eq]; exact few
    refine lc_range (fun i H9 => Coll H8 D3 (fun i => nL (dirL qs i)) i H9) (Coll.start hD3) ?_ ?_
    · intro i H9 hi c9
      have e0 : (0 : Int) + (i : Int) = (i : Int) := by omega
      rw [e0]
      obtain ⟨_, hD9, _, s9, _⟩ := id c9
      refine ⟨rfl, yesT ⟨_, rfl, x, C, dx, _, _, rfl, s9 _ _ hx8, T.cl, T.nWires, wir8, l, rfl, ⟨_, SqT.of (s9 _ _ hl8)⟩, fun D4 hD4 => ?_⟩⟩
      refine lc_it (walk_tup (xs := ys)) (fun j H10 => H10 D4 = some (.lst (nL (dirL (qs.take j) i))) ∧ Same H9 H10) ⟨upd_same, same_new hD4⟩ (fun j H10 _ ⟨_, s10⟩ => SqT.of (s10 _ _ (s9 _ _ hl8))) ?_ ?_
      · rintro j y H10 H11 hj ⟨h10, s10⟩ ⟨rfl, hy⟩
        rw [eys, List.getElem?_map] at hy
        obtain ⟨t, ht, rfl⟩ := Option.map_eq_some_iff.mp hy
        have jl : j < qs.length := by rw [← hus8.1]; exact (List.getElem?_eq_some_iff.mp ht).1
        obtain ⟨p, hp⟩ : ∃ p, qs[j]? = some p := ⟨_, List.getElem?_eq_getElem jl⟩
        have htp := hus8.2 j t p ht hp
        have fewj : (dirL (qs.take j) i).length < 4900 := Nat.lt_of_le_of_lt (dirL_few _ _) (by rw [List.length_take]; omega)
        refine ⟨t, _, rfl, SqT.of (s10 _ _ (s9 _ _ htp)), rfl, _, _, rfl, _, _, rfl, rfl, rfl, ?_⟩
        refine ⟨_, rfl, _, rfl, rfl, _, rfl, ?_⟩
        refine ite2 (fun he => ?_) (fun hne => ?_)
        · have e : p.1 = i := by
            have z := of_decide_eq_true he
            injection z with z
            omega
          refine ⟨_, rfl, _, h10, by rw [nL_len, sizeLine_eq]; omega, ?_, same_upd s10 hD4⟩
          rw [upd_same, dirL_more hp, if_pos e, nL_app]; rfl
        · have ne : ¬ p.1 = i := fun z => hne (decide_eq_true (by rw [z]))
          refine ⟨?_, s10⟩
          rw [h10, dirL_more hp, if_neg ne, List.append_nil]
      · rintro H10 ⟨h10, s10⟩
        have e : ys.length = qs.length := by rw [eys, List.length_map, hus8.1]
        rw [e, List.take_length] at h10
        exact c9.more hD3 s10 (fun z => by rw [z, hD9] at hD4; cases hD4) h10 (by omega)
    rintro H9 c9
    have rowsD := c9.rowsF
    have s9 := c9.same
    refine ⟨_, rfl, x, C, dx, _, rfl, s9 _ _ hx8, T.cl, T.nDirect, by omega, ?_⟩
    generalize hf10 : putF "_direct" (.ref D3) fs8 = fs10
    have lk10 : fs10.length ≤ 6 := by rw [← hf10]; exact put_few lk8
    have ben10 : fs10.lookup ("_beneath" : Str) = some (.ref be) := by rw [← hf10, lk_ne _ _ (by decide +kernel)]; exact ben8
    have cnt10 : fs10.lookup ("count" : Str) = some (.int n) := by rw [← hf10, lk_ne _ _ (by decide +kernel)]; exact cnt8
    have hue10 : fs10.lookup ("hues" : Str) = some (.int h) := by rw [← hf10, lk_ne _ _ (by decide +kernel)]; exact hue8
    have ord10 : fs10.lookup ("order" : Str) = Option.none := by rw [← hf10, lk_ne _ _ (by decide +kernel)]; exact ord8
    have bnt10 : fs10.lookup ("beneath" : Str) = Option.none := by rw [← hf10, lk_ne _ _ (by decide +kernel)]; exact bnt8
    have abv10 : fs10.lookup ("_above" : Str) = some (.ref D) := by rw [← hf10, lk_ne _ _ (by decide +kernel)]; exact abv8
    have dir10 : fs10.lookup ("_direct" : Str) = some (.ref D3) := by rw [← hf10, lk_same]
    have wir10 : fs10.lookup ("wires" : Str) = some (.ref l) := by rw [← hf10, lk_ne _ _ (by decide +kernel)]; exact wir8
    have mth10 : ∀ m ∈ mNames, fs10.lookup m = Option.none := fun m hm => by rw [← hf10, lk_ne _ _ (mN hm (by decide +kernel))]; exact mth8 m hm
    have rowsD10 : Rows (upd H9 x (.ins C dx fs10)) D3 ((List.range n).map (dirL qs)) := SB.rows ((SB.refl x H9).upd) (s9 _ _ hx8) rowsD
    have hl10 : (upd H9 x (.ins C dx fs10)) l = some (.tup ys) := by rw [upd_ne nlx]; exact s9 _ _ hl8
    have hus10 : Pairs (upd H9 x (.ins C dx fs10)) us qs := ⟨hus8.1, fun i t p e1 e2 => by rw [upd_ne (ne_of (hus8.2 i t p e1 e2) hx8 (by intro z; cases z))]; exact s9 _ _ (hus8.2 i t p e1 e2)⟩
    have sb10 : SB x H (upd H9 x (.ins C dx fs10)) := (sb8.trans (SB.of s9)).upd
    have rows10 : Rows (upd H9 x (.ins C dx fs10)) be (relRows n (relOf ps)) := SB.rows ((SB.refl x H9).upd) (s9 _ _ hx8) (rows8.same s9)
    have rowsA10 : Rows (upd H9 x (.ins C dx fs10)) D (relRows n (flip (relOf ps))) := SB.rows ((SB.refl x H9).upd) (s9 _ _ hx8) (rowsA8.same s9)
    have hx10 : (upd H9 x (.ins C dx fs10)) x = some (.ins C dx fs10) := upd_same
    generalize upd H9 x (.ins C dx fs10) = H10 at sb10 rows10 rowsA10 hx10 rowsD10 hl10 hus10 ⊢
    -- self._order
    refine ⟨_, rfl, x, C, dx, _, _, rfl, hx10, T.cl, T.nAbove, abv10, D, n, relOf ps, rfl, n16, relOf_ranked rank, rowsA10, fun H11 o s11 no ho => ?_⟩
    refine ⟨_, rfl, x, C, dx, _, rfl, s11 _ _ hx10, T.cl, T.nOrder, by omega, ?_⟩
    have nox : o ≠ x := ne_of ho (s11 _ _ hx10) (by intro z; cases z)
    refine q _ (sb10.trans (SB.of s11)).upd ⟨dx, _, be, o, upd_same, ?_, ?_, ?_, SB.rows ((SB.refl x H11).upd) (s11 _ _ hx10) (rows10.same s11), ?_, by rw [upd_ne nox]; exact ho, ?_, ?_⟩ ⟨dx, _, D, D3, l, us, qs, upd_same, ?_, SB.rows ((SB.refl x H11).upd) (s11 _ _ hx10) (rowsA10.same s11), ?_, SB.rows ((SB.refl x H11).upd) (s11 _ _ hx10) (rowsD10.same s11), ?_, by rw [upd_ne nlx, ← eys]; exact s11 _ _ hl10, ⟨hus10.1, fun i t p e1 e2 => by rw [upd_ne (ne_of (hus10.2 i t p e1 e2) hx10 (by intro z; cases z))]; exact s11 _ _ (hus10.2 i t p e1 e2)⟩, pqs, fun m hm => ?_⟩
    · rw [lk_ne _ _ (by decide +kernel)]; exact cnt10
    · rw [lk_ne _ _ (by decide +kernel)]; exact hue10
    · rw [lk_ne _ _ (by decide +kernel)]; exact ben10
    · rw [lk_same]
    · rw [lk_ne _ _ (by decide +kernel)]; exact ord10
    · rw [lk_ne _ _ (by decide +kernel)]; exact bnt10
    · rw [lk_ne _ _ (by decide +kernel)]; exact abv10
    · rw [lk_ne _ _ (by decide +kernel)]; exact dir10
    · rw [lk_ne _ _ (by decide +kernel)]; exact wir10
    · rw [lk_ne _ _ (mN hm (by decide +kernel))]; exact mth10 m hm
end
end Hue

end
section
set_option maxRecDepth 100000
set_option maxHeartbeats 4000000
namespace Hue
open PySem PySem.Spec PyProof.Rows L2
section
variable {P : Program} {w : World} {K : PySem.W.Frag} {mg : Str → Option Value} {base : Heap} {C CL : Addr}
theorem HouseAt.same {H H' : Hp} {x : Addr} {n h : Nat} {R : Rel} (a : HouseAt C H x n h R) (s : Same H H') : HouseAt C H' x n h R := by
  obtain ⟨dx, fs, be, o, h1, h2, h3, h4, h5, h6, h7, h8, h9⟩ := a
  exact ⟨dx, fs, be, o, s _ _ h1, h2, h3, h4, h5.same s, h6, s _ _ h7, h8, h9⟩
abbrev s_InvalidLamp___init__ : Stmt := inClass (top 4) 0
theorem sc_InvalidLamp___init__ : FnScope ["self", "lamp"] ["self", "lamp"] (defScope s_InvalidLamp___init__) := ⟨rfl, rfl, rfl, by decide +kernel, rfl, by decide +kernel, by decide +kernel⟩
-- slots of InvalidLamp.__init__: 0 self, 1 lamp
theorem ok_InvalidLamp {f : Addr} {fd : FuncData} (F : Fun K "__init__" "InvalidLamp.__init__" s_InvalidLamp___init__ f fd) : FnOk P w K mg base CX0 1 f fd ["self", "lamp"] (spKeep K "lamp") := by
  refine F.ok sc_InvalidLamp___init__ (fun vs H Q E h => ?_) (fun cdv A outer s H vs Q E hr h => ?_)
  · obtain ⟨a, D, v, rfl, _⟩ := h; rfl
  · obtain ⟨a, D, v, rfl, T, no, ha, q⟩ := h
    refine ⟨_, (pss_one (ps_ost (pv 0) (pv 1))), ?_⟩
    exact ⟨_, rfl, _, rfl, a, D, rfl, T, no, .inl ⟨ha, fun dx nd ne => q dx nd ne⟩⟩
abbrev s_House_order : Stmt := inClass (top 12) 10
theorem sc_House_order : FnScope ["self"] ["self"] (defScope s_House_order) := ⟨rfl, rfl, rfl, by decide +kernel, rfl, by decide +kernel, by decide +kernel⟩
-- slots of House.order: 0 self
def spOrder (C : Addr) : Sp := fun vs H Q _ => ∃ (x : Addr) (n h : Nat) (R : Rel), vs = [.ref x] ∧ HouseAt C H x n h R ∧ ∀ (H' : Hp) (p : Addr), Same H H' → H p = Option.none → H' p = some (.lst (nL (ordN n R n))) → Q (.ref p) H'
theorem ok_order (T : Txt K mg C) {f : Addr} {fd : FuncData} (F : Fun K "order" "House.order" s_House_order f fd) : FnOk P w K mg base CX0 1 f fd ["self"] (spOrder C) := by
  refine F.ok sc_House_order (fun vs H Q E h => ?_) (fun cdv A outer s H vs Q E hr h => ?_)
  · obtain ⟨x, n, h, R, rfl, _⟩ := h; rfl
  · obtain ⟨x, n, h, R, rfl, ⟨dx, fs, be, o, h1, h2, h3, h4, h5, h6, h7, h8, h9⟩, q⟩ := h
    refine ⟨_, (pss_one (ps_ret (pe_callTy (lstOf_ K) (by rfl) T.list b_list (pa_cons (fld_ K (pv 0)) pa_nil)))), ?_⟩
    exact ⟨_, rfl, x, C, dx, _, _, rfl, h1, T.cl, T.nOrder, h6, o, _, rfl, .inl (SqL.of h7), fun l nl => q _ l (same_new nl) nl upd_same⟩
abbrev s_is_lamp : Stmt := top 13
theorem sc_is_lamp : FnScope ["house", "value"] ["house", "value"] (defScope s_is_lamp) := ⟨rfl, rfl, rfl, by decide +kernel, rfl, by decide +kernel, by decide +kernel⟩
-- slots of is_lamp: 0 house, 1 value
def spIsLampV (C : Addr) : Sp := fun vs H Q _ => ∃ (x : Addr) (n h : Nat) (R : Rel) (v : V), vs = [.ref x, v] ∧ HouseAt C H x n h R ∧ Kd H v ∧ Q (.bl (inI v 0 ((n : Int) - 1))) H
theorem ok_is_lamp (T : Txt K mg C) {f : Addr} {fd : FuncData} (F : Fun K "is_lamp" "is_lamp" s_is_lamp f fd) (c_is_whole_in : Cal P w K mg base "is_whole_in" 2 spWholeInV) : FnOk P w K mg base CX0 3 f fd ["house", "value"] (spIsLampV C) := by
  refine F.ok sc_is_lamp (fun vs H Q E h => ?_) (fun cdv A outer s H vs Q E hr h => ?_)
  · obtain ⟨x, n, h, R, i, rfl, _⟩ := h; rfl
  · obtain ⟨x, n, h, R, v, rfl, ⟨dx, fs, be, o, h1, h2, h3, h4, h5, h6, h7, h8, h9⟩, k, q⟩ := h
    refine ⟨_, (pss_one (ps_ret (pe_cal c_is_whole_in (hr.mono (by decide)) (pa_cons (pv 1) (pa_cons pe_int (pa_cons (pe_op op_sub (fld_ K (pv 0)) pe_int) pa_nil)))))), ?_⟩
    exact ⟨_, rfl, _, rfl, x, C, dx, _, _, rfl, h1, T.cl, T.nCount, h2, _, _, rfl, rfl, v, 0, (n : Int) - 1, rfl, k, q⟩
abbrev s_check_lamp : Stmt := top 14
theorem sc_check_lamp : FnScope ["house", "lamp"] ["house", "lamp"] (defScope s_check_lamp) := ⟨rfl, rfl, rfl, by decide +kernel, rfl, by decide +kernel, by decide +kernel⟩
-- slots of check_lamp: 0 house, 1 lamp
/-- the wish where v is no lamp -/
def Odd1 (CL : Addr) (f : Str) (v : V) (H : Hp) (E : XK) : Prop := ∀ (d : Addr) (H' : Hp), H d = Option.none → Same H H' → H' d = some (.xd [(f, v)]) → E (.ref CL) (some d) H'
theorem Odd1.after {CL : Addr} {f : Str} {v : V} {H H1 : Hp} {E : XK} (o : Odd1 CL f v H E) (s : Same H H1) : Odd1 CL f v H1 E := fun d H' nd s' hd => o d H' (s.free nd) (s.trans s') hd
def spCheckLampX (C CL : Addr) : Sp := fun vs H Q E => ∃ (x : Addr) (n h : Nat) (R : Rel) (v : V), vs = [.ref x, v] ∧ HouseAt C H x n h R ∧ Kd H v ∧ (inI v 0 ((n : Int) - 1) = true → Q .non H) ∧ (inI v 0 ((n : Int) - 1) = false → Odd1 CL "lamp" v H E)
theorem ok_check_lamp (T : Txt K mg C) (M_lamp : XMk P w K mg base CL "InvalidLamp" "lamp") {f : Addr} {fd : FuncData} (F : Fun K "check_lamp" "check_lamp" s_check_lamp f fd) (c_is_lamp : Cal P w K mg base "is_lamp" 3 (spIsLampV C)) : FnOk P w K mg base (L2.CX P w) 4 f fd ["house", "lamp"] (spCheckLampX C CL) := by
  refine F.okX sc_check_lamp (fun vs H Q E h => ?_) (fun cdv A outer s H vs Q E hr h => ?_)
  · obtain ⟨x, n, h, R, v, rfl, _⟩ := h; rfl
  · obtain ⟨x, n, h, R, v, rfl, ha, k, q1, q2⟩ := h
    refine ⟨_, (pss_one (ps_if (pt_not (pt_val (pe_cal c_is_lamp (hr.mono (by decide)) (pa_cons (pv 0) (pa_cons (pv 1) pa_nil)))))
      (pss_one (ps_raiseM M_lamp rfl (takes_of rfl rfl rfl rfl) (hr.mono (by decide)) (pa_cons (pv 1) pa_nil))) pss_nil)), ?_⟩
    refine ⟨_, rfl, _, rfl, x, n, h, R, v, rfl, ha, k, _, rfl, ?_⟩
    cases e : inI v 0 ((n : Int) - 1) with
    | true => exact iteF (q1 e)
    | false => exact iteT ⟨_, rfl, by show 1 ≤ 1000; decide, fun a na => keep_raised M_lamp.cls.oex M_lamp.no (q2 e) a na⟩
theorem check_int (vs : List V) (H : Hp) (Q : VK) (E : XK) (h : ∃ (x : Addr) (n h : Nat) (R : Rel) (i : Int), vs = [.ref x, .int i] ∧ HouseAt C H x n h R ∧ 0 ≤ i ∧ i < (n : Int) ∧ Q .non H) : spCheckLampX C CL vs H Q fun _ _ _ => False := by
  obtain ⟨x, n, h, R, i, e, ha, i0, i1, q⟩ := h
  have z : inI (.int i) 0 ((n : Int) - 1) = true := by
    show (decide (0 ≤ i) && decide (i ≤ (n : Int) - 1)) = true
    rw [decide_eq_true i0, decide_eq_true (by omega : i ≤ (n : Int) - 1)]
    rfl
  exact ⟨x, n, h, R, .int i, e, ha, .int i, fun _ => q, fun y => by rw [z] at y; cases y⟩
/-! ### tops and bottoms -/
theorem nL_it2 {l : List Nat} {i : Nat} {y : V} (h : (nL l)[i]? = some y) : ∃ k, l[i]? = some k ∧ y = V.int (k : Int) := by
  unfold nL nI at h
  rw [List.map_map, List.getElem?_map] at h
  obtain ⟨k, hk, e⟩ := Option.map_eq_some_iff.mp h
  exact ⟨k, hk, e.symm⟩
theorem filt_more' (f : Nat → Bool) (i : Nat) : (List.range (i + 1)).filter f = (List.range i).filter f ++ (if f i = true then [i] else []) := by
  rw [List.range_succ, List.filter_append, List.filter_cons]
  rfl
theorem filt_few' (f : Nat → Bool) (i : Nat) : ((List.range i).filter f).length ≤ i := by
  have := List.length_filter_le f (List.range i)
  rw [List.length_range] at this
  exact this
theorem isEmpty_nL (l : List Nat) : (!(nL l).isEmpty) = !decide (l = []) := by
  cases l <;> simp [nL, nI]
/-! ### the depth -/
def depStep (ps : List (Nat × Nat)) (d : Nat → Nat) (u : Nat) : Nat → Nat := fun j => if (u, j) ∈ ps then max (d j) (d u + 1) else d j
def depO (ps : List (Nat × Nat)) (ord : List Nat) : Nat → Nat := ord.foldl (depStep ps) fun _ => 0
theorem depStep_congr {ps qs : List (Nat × Nat)} (h : ∀ p, p ∈ ps ↔ p ∈ qs) : depStep ps = depStep qs := by
  funext d u j
  unfold depStep
  simp only [h]
theorem depO_congr {ps qs : List (Nat × Nat)} (h : ∀ p, p ∈ ps ↔ p ∈ qs) (ord : List Nat) : depO ps ord = depO qs ord := by
  unfold depO
  rw [depStep_congr h]
theorem depO_more {ps : List (Nat × Nat)} {ord : List Nat} {i u : Nat} (h : ord[i]? = some u) : depO ps (ord.take (i + 1)) = depStep ps (depO ps (ord.take i)) u := by
  unfold depO
  rw [List.take_add_one, h, List.foldl_append]
  rfl
/-- n numbers -/
def nF (n : Nat) (f : Nat → Nat) : List V := nL ((List.range n).map f)
theorem nF_len (n : Nat) (f : Nat → Nat) : (nF n f).length = n := by unfold nF; rw [nL_len, List.length_map, List.length_range]
theorem nF_get {n : Nat} {f : Nat → Nat} {j : Nat} (h : j < n) : (nF n f)[j]? = some (V.int (f j : Nat)) := nL_get (by rw [List.getElem?_map, List.getElem?_range h]; rfl)
theorem nF_set {n : Nat} {f : Nat → Nat} {k m : Nat} : (nF n f).set k (V.int (m : Nat)) = nF n fun j => if j = k then m else f j := by
  refine List.ext_getElem? fun i => ?_
  rw [List.getElem?_set, nF_len]
  by_cases hi : i < n
  · rw [nF_get (f := fun j => if j = k then m else f j) hi]
    by_cases e : k = i
    · rw [if_pos e, if_pos (by omega), if_pos e.symm]
    · rw [if_neg e, nF_get hi, if_neg (fun z => e z.symm)]
  · rw [List.getElem?_eq_none (l := nF n fun j => if j = k then m else f j) (by rw [nF_len]; omega), List.getElem?_eq_none (l := nF n f) (by rw [nF_len]; omega)]
    by_cases e : k = i
    · rw [if_pos e, if_neg (by omega)]
    · rw [if_neg e]
theorem nF_congr {n : Nat} {f g : Nat → Nat} (h : ∀ j, j < n → f j = g j) : nF n f = nF n g := by
  unfold nF
  rw [List.map_congr_left fun j hj => h j (List.mem_range.mp hj)]
theorem rep0 (n : Nat) : (List.replicate ((n : Int)).toNat [V.int 0]).flatten = nF n fun _ => 0 := by
  rw [Int.toNat_natCast]
  refine List.ext_getElem? fun i => ?_
  have e : (List.replicate n [V.int 0]).flatten = List.replicate n (V.int 0) := by
    induction n with
    | zero => rfl
    | succ n ih => rw [List.replicate_succ, List.flatten_cons, ih, List.replicate_succ]; rfl
  rw [e, List.getElem?_replicate]
  by_cases hi : i < n
  · rw [if_pos hi, nF_get hi]; rfl
  · rw [if_neg hi, List.getElem?_eq_none (by rw [nF_len]; omega)]
theorem max_nat (a b : Nat) : (V.int (if ((b : Nat) : Int) + 1 > ((a : Nat) : Int) then ((b : Nat) : Int) + 1 else ((a : Nat) : Int))) = V.int ((max a (b + 1) : Nat) : Int) := by
  congr 1
  by_cases h : ((b : Nat) : Int) + 1 > ((a : Nat) : Int)
  · rw [if_pos h]; omega
  · rw [if_neg h]; omega
end
end Hue

end
section
set_option maxRecDepth 100000
set_option maxHeartbeats 4000000
namespace Hue
open PySem PySem.Spec PyProof.Rows L2
section
variable {P : Program} {w : World} {K : PySem.W.Frag} {mg : Str → Option Value} {base : Heap} {C CL CS CN : Addr}
/-! ### plain data that may stand for a state or a number -/
inductive All2 (R : V → PyData → Prop) : List V → List PyData → Prop
  | nil : All2 R [] []
  | cons {x : V} {d : PyData} {xs : List V} {ds : List PyData} : R x d → All2 R xs ds → All2 R (x :: xs) (d :: ds)
namespace All2
variable {R R' : V → PyData → Prop}
theorem len : ∀ {xs : List V} {ds : List PyData}, All2 R xs ds → xs.length = ds.length
  | _, _, .nil => rfl
  | _, _, .cons _ r => by rw [List.length_cons, List.length_cons, len r]
theorem get : ∀ {xs : List V} {ds : List PyData} {i : Nat} {x : V}, All2 R xs ds → xs[i]? = some x → ∃ d, ds[i]? = some d ∧ R x d
  | _, _, i, x, .nil, h => by simp at h
  | _, _, 0, x, .cons r _, h => by cases h; exact ⟨_, rfl, r⟩
  | _, _, i + 1, x, .cons (xs := xs) (ds := ds) _ r, h => get (xs := xs) (ds := ds) (i := i) (x := x) r h
theorem imp (f : ∀ x d, R x d → R' x d) : ∀ {xs : List V} {ds : List PyData}, All2 R xs ds → All2 R' xs ds
  | _, _, .nil => .nil
  | _, _, .cons a r => .cons (f _ _ a) (imp f r)
theorem app : ∀ {xs ys : List V} {ds es : List PyData}, All2 R xs ds → All2 R ys es → All2 R (xs ++ ys) (ds ++ es)
  | _, _, _, _, .nil, b => b
  | _, _, _, _, .cons a r, b => .cons a (app r b)
end All2
inductive Lf : V → PyData → Prop
  | int (i : Int) (h : i.natAbs < 10 ^ 38) : Lf (.int i) (.int i)
  | bl (b : Bool) : Lf (.bl b) (.bool b)
  | non : Lf .non .none
  | str (x : Str) (h : PyData.leavesShort 40 (.str x) = true) (hs : x.cps.size ≤ 100) : Lf (.str x) (.str x)
inductive Lf1 (H : Hp) : V → PyData → Prop
  | lf {v : V} {d : PyData} : Lf v d → Lf1 H v d
  | tup {t : Addr} {xs : List V} {ds : List PyData} : H t = some (.tup xs) → All2 Lf xs ds → xs.length ≤ 40 → Lf1 H (.ref t) (.tuple ds)
  | lst {t : Addr} {xs : List V} {ds : List PyData} : H t = some (.lst xs) → All2 Lf xs ds → xs.length ≤ 40 → Lf1 H (.ref t) (.list ds)
inductive Lf2 (H : Hp) : V → PyData → Prop
  | lf {v : V} {d : PyData} : Lf v d → Lf2 H v d
  | tup {t : Addr} {xs : List V} {ds : List PyData} : H t = some (.tup xs) → All2 (Lf1 H) xs ds → xs.length ≤ 40 → Lf2 H (.ref t) (.tuple ds)
  | lst {t : Addr} {xs : List V} {ds : List PyData} : H t = some (.lst xs) → All2 Lf xs ds → xs.length ≤ 40 → Lf2 H (.ref t) (.list ds)
theorem Lf1.same {H H' : Hp} {v : V} {d : PyData} (o : Lf1 H v d) (s : Same H H') : Lf1 H' v d := by
  cases o with
  | lf l => exact .lf l
  | tup h a b => exact .tup (s _ _ h) a b
  | lst h a b => exact .lst (s _ _ h) a b
theorem Lf2.same {H H' : Hp} {v : V} {d : PyData} (o : Lf2 H v d) (s : Same H H') : Lf2 H' v d := by
  cases o with
  | lf l => exact .lf l
  | tup h a b => exact .tup (s _ _ h) (a.imp fun _ _ z => z.same s) b
  | lst h a b => exact .lst (s _ _ h) a b
theorem Lf.kd {H : Hp} {v : V} {d : PyData} (o : Lf v d) : Kd H v := by
  cases o with
  | int i h => exact .int i
  | bl b => exact .bl b
  | non => exact .non
  | str x _ _ => exact .str x
theorem Lf1.kd {H : Hp} {v : V} {d : PyData} (o : Lf1 H v d) : Kd H v := by
  cases o with
  | lf l => exact l.kd
  | tup h _ _ => exact .tup h
  | lst h _ _ => exact .lst h
theorem Lf2.kd {H : Hp} {v : V} {d : PyData} (o : Lf2 H v d) : Kd H v := by
  cases o with
  | lf l => exact l.kd
  | tup h _ _ => exact .tup h
  | lst h _ _ => exact .lst h
/-- what repr asks of the data -/
structure DOk (w b : Nat) (d : PyData) : Prop where
  sh : PyData.leavesShort 40 d = true
  sw : d.showable = true
  no : d.hasDict = false
  dp : d.depth ≤ b
  wt : d.weight ≤ w
theorem Lf.ok {v : V} {d : PyData} (o : Lf v d) : DOk 200 2 d := by
  cases o with
  | int i h =>
    have l2 : i.natAbs.log2 < 127 := by
      rcases Nat.eq_zero_or_pos i.natAbs with z | z
      · rw [z]; decide
      · exact (Nat.log2_lt (by omega)).mpr (Nat.lt_of_lt_of_le h (by decide))
    refine ⟨?_, decide_eq_true (by omega), rfl, by simp [PyData.depth], ?_⟩
    · have l := PySem.int_text_length_le10 (a := i) (k := 38) (by decide) h
      show decide ((PyData.shown (.int i)).length ≤ 40) = true
      refine decide_eq_true ?_
      have e : (PyData.shown (.int i)).length = (toString i).length := by
        show (Str.ofString (toString i)).length = _
        exact PySem.ofString_length _
      omega
    · show (if i == 0 then 0 else i.natAbs.log2 + 1) ≤ 200
      split <;> omega
  | bl b => exact ⟨rfl, rfl, rfl, by simp [PyData.depth], by simp [PyData.weight]⟩
  | non => exact ⟨rfl, rfl, rfl, by simp [PyData.depth], by simp [PyData.weight]⟩
  | str x h hs => exact ⟨h, rfl, rfl, by simp [PyData.depth], by show x.cps.size ≤ 200; omega⟩
theorem all_ok {R : V → PyData → Prop} {w b : Nat} (f : ∀ v d, R v d → DOk w b d) : ∀ {xs : List V} {ds : List PyData}, All2 R xs ds → PyData.leavesShortAll 40 ds = true ∧ PyData.showableAll ds = true ∧ PyData.hasDictAll ds = false ∧ PyData.depthAll ds ≤ b ∧ PyData.weightAll ds ≤ xs.length * (w + 1)
  | _, _, .nil => ⟨rfl, rfl, rfl, by simp [PyData.depthAll], by simp [PyData.weightAll]⟩
  | _, _, .cons a r => by
    obtain ⟨h1, h2, h3, h4, h5⟩ := all_ok f r
    obtain ⟨g1, g2, g3, g4, g5⟩ := f _ _ a
    refine ⟨by simp only [PyData.leavesShortAll, g1, h1]; rfl, by simp only [PyData.showableAll, g2, h2]; rfl, by simp only [PyData.hasDictAll, g3, h3]; rfl, by simp only [PyData.depthAll]; omega, ?_⟩
    simp only [PyData.weightAll, List.length_cons, Nat.succ_mul]
    omega
theorem seq_ok {R : V → PyData → Prop} {w b : Nat} (f : ∀ v d, R v d → DOk w b d) {xs : List V} {ds : List PyData} (a : All2 R xs ds) (l : xs.length ≤ 40) : DOk (40 * (w + 1)) (b + 1) (.tuple ds) ∧ DOk (40 * (w + 1)) (b + 1) (.list ds) := by
  obtain ⟨h1, h2, h3, h4, h5⟩ := all_ok f a
  have h6 : xs.length * (w + 1) ≤ 40 * (w + 1) := Nat.mul_le_mul_right _ l
  constructor
  · refine ⟨by simp only [PyData.leavesShort]; exact h1, by simp only [PyData.showable]; exact h2, by simp only [PyData.hasDict]; exact h3, ?_, ?_⟩
    · simp only [PyData.depth]; omega
    · simp only [PyData.weight]; omega
  · refine ⟨by simp only [PyData.leavesShort]; exact h1, by simp only [PyData.showable]; exact h2, by simp only [PyData.hasDict]; exact h3, ?_, ?_⟩
    · simp only [PyData.depth]; omega
    · simp only [PyData.weight]; omega
theorem DOk.mono {w w' b b' : Nat} {d : PyData} (o : DOk w b d) (h : w ≤ w') (g : b ≤ b') : DOk w' b' d := ⟨o.sh, o.sw, o.no, Nat.le_trans o.dp g, Nat.le_trans o.wt h⟩
theorem Lf1.ok {H : Hp} {v : V} {d : PyData} (o : Lf1 H v d) : DOk 8040 3 d := by
  cases o with
  | lf l => exact l.ok.mono (by decide) (by decide)
  | tup _ a l => exact (seq_ok (fun _ _ z => z.ok) a l).1
  | lst _ a l => exact (seq_ok (fun _ _ z => z.ok) a l).2
theorem Lf2.ok {H : Hp} {v : V} {d : PyData} (o : Lf2 H v d) : DOk 321640 4 d := by
  cases o with
  | lf l => exact l.ok.mono (by decide) (by decide)
  | tup _ a l => exact (seq_ok (fun _ _ z => z.ok) a l).1
  | lst _ a l => exact (seq_ok (fun _ _ z => z.ok) a l).2.mono (by decide) (by decide)
theorem Lf.dp {H : Hp} {v : V} {d : PyData} (o : Lf v d) : Dp K H v d := by
  cases o with
  | int i h => exact .int i
  | bl b => exact .bl b
  | non => exact .non
  | str x _ _ => exact .str x
theorem all_dp {R : V → PyData → Prop} {H : Hp} (f : ∀ v d, R v d → Dp K H v d) : ∀ {xs : List V} {ds : List PyData}, All2 R xs ds → DpAll K H xs ds
  | _, _, .nil => .nil
  | _, _, .cons a r => .cons (f _ _ a) (all_dp f r)
theorem Lf1.dp {H : Hp} {v : V} {d : PyData} (o : Lf1 H v d) : Dp K H v d := by
  cases o with
  | lf l => exact l.dp
  | tup h a _ => exact .tup (SqT.of h) (all_dp (fun _ _ z => z.dp) a)
  | lst h a _ => exact .lst (SqL.of h) (all_dp (fun _ _ z => z.dp) a)
theorem Lf2.dp {H : Hp} {v : V} {d : PyData} (o : Lf2 H v d) : Dp K H v d := by
  cases o with
  | lf l => exact l.dp
  | tup h a _ => exact .tup (SqT.of h) (all_dp (fun _ _ z => z.dp) a)
  | lst h a _ => exact .lst (SqL.of h) (all_dp (fun _ _ z => z.dp) a)
/-- its repr -/
theorem Lf2.repr {H : Hp} {v : V} {d : PyData} (o : Lf2 H v d) {Q : VK} (q : Q (.str d.shown) H) : rRepr K [v] H Q := by
  have ok := o.ok
  have l := PyData.shown_le 40 (by decide) d ok.sh
  have wt := ok.wt
  have m : (40 + 2) * d.weight ≤ (40 + 2) * 321640 := Nat.mul_le_mul_left _ wt
  exact ⟨v, d, rfl, o.dp, ok.sw, ok.no, by have := ok.dp; omega, by rw [sizeLine_eq]; omega, q⟩
/-! ### which of them is a state -/
def inD (h : Nat) : PyData → Bool
  | .int i => decide (0 ≤ i) && decide (i ≤ (h : Int) - 1)
  | _ => false
def stB (n h : Nat) : PyData → Bool
  | .tuple ds => decide (ds.length = n) && ds.all (inD h)
  | _ => false
theorem Lf.in_ {v : V} {d : PyData} (o : Lf v d) (h : Nat) : inI v 0 ((h : Int) - 1) = inD h d := by cases o <;> rfl
theorem Lf1.in_ {H : Hp} {v : V} {d : PyData} (o : Lf1 H v d) (h : Nat) : inI v 0 ((h : Int) - 1) = inD h d := by
  cases o with
  | lf l => exact l.in_ h
  | tup _ _ _ => rfl
  | lst _ _ _ => rfl
theorem all_int {R : V → PyData → Prop} (f : ∀ v i, R v (.int i) → v = .int i) {h : Nat} : ∀ {xs : List V} {ds : List PyData}, All2 R xs ds → ds.all (inD h) = true → ∃ S : List Int, xs = stV S ∧ ds = S.map .int ∧ ∀ z ∈ S, 0 ≤ z ∧ z < (h : Int)
  | _, _, .nil, _ => ⟨[], rfl, rfl, fun z hz => by cases hz⟩
  | _, _, .cons (d := d) a r, hd => by
    rw [List.all_cons, Bool.and_eq_true] at hd
    obtain ⟨S, e1, e2, e3⟩ := all_int f r hd.2
    cases d with
    | int i =>
      have z : (decide (0 ≤ i) && decide (i ≤ (h : Int) - 1)) = true := hd.1
      rw [Bool.and_eq_true, decide_eq_true_eq, decide_eq_true_eq] at z
      refine ⟨i :: S, by rw [f _ _ a, e1]; rfl, by rw [e2]; rfl, fun y hy => ?_⟩
      rcases List.mem_cons.mp hy with e | hy
      · rw [e]; omega
      · exact e3 y hy
    | _ => exact absurd hd.1 (by intro z; cases z)
theorem Lf1.int_ {H : Hp} {v : V} {i : Int} (o : Lf1 H v (.int i)) : v = .int i := by
  cases o with
  | lf l => cases l; rfl
theorem Lf2.st {H : Hp} {v : V} {d : PyData} {n h : Nat} (o : Lf2 H v d) (hb : stB n h d = true) : ∃ (t : Addr) (S : List Int), v = .ref t ∧ H t = some (.tup (stV S)) ∧ StOk n h S ∧ d = stD S := by
  cases o with
  | lf l => cases l <;> cases hb
  | @tup t xs ds ht a l =>
    have z : (decide (ds.length = n) && ds.all (inD h)) = true := hb
    rw [Bool.and_eq_true, decide_eq_true_eq] at z
    obtain ⟨S, e1, e2, e3⟩ := all_int (fun v i z => Lf1.int_ z) a z.2
    refine ⟨t, S, rfl, by rw [ht, e1], ⟨?_, e3⟩, by rw [e2]; rfl⟩
    rw [← z.1, e2, List.length_map]
  | lst _ _ _ => cases hb
theorem ints_all (R : V → PyData → Prop) (f : ∀ i : Int, i.natAbs < 10 ^ 38 → R (.int i) (.int i)) : ∀ S : List Int, (∀ z ∈ S, z.natAbs < 10 ^ 38) → All2 R (stV S) (S.map .int)
  | [], _ => .nil
  | i :: S, h => .cons (f i (h i List.mem_cons_self)) (ints_all R f S fun z hz => h z (List.mem_cons_of_mem _ hz))
theorem st_lf2 {H : Hp} {t : Addr} {S : List Int} (ht : H t = some (.tup (stV S))) (l : S.length ≤ 40) (b : ∀ z ∈ S, z.natAbs < 10 ^ 38) : Lf2 H (.ref t) (stD S) := .tup ht (ints_all _ (fun i h => .lf (.int i h)) S b) (by rw [List.length_map]; exact l)
theorem st_lf1 {H : Hp} {t : Addr} {S : List Int} (ht : H t = some (.tup (stV S))) (l : S.length ≤ 40) (b : ∀ z ∈ S, z.natAbs < 10 ^ 38) : Lf1 H (.ref t) (stD S) := .tup ht (ints_all _ (fun i h => .int i h) S b) (by rw [List.length_map]; exact l)
theorem StOk.small {n h : Nat} {S : List Int} (o : StOk n h S) (h10 : h ≤ 10) : ∀ z ∈ S, z.natAbs < 10 ^ 38 := fun z hz => by
  have := o.2 z hz
  have e : (10 : Nat) ^ 38 = 100000000000000000000000000000000000000 := by decide
  omega
theorem st_stB {n h : Nat} {S : List Int} (o : StOk n h S) : stB n h (stD S) = true := by
  show (decide ((S.map PyData.int).length = n) && (S.map PyData.int).all (inD h)) = true
  rw [List.length_map, decide_eq_true o.1, Bool.true_and, List.all_eq_true]
  intro d hd
  obtain ⟨z, hz, rfl⟩ := List.mem_map.mp hd
  have := o.2 z hz
  show (decide (0 ≤ z) && decide (z ≤ (h : Int) - 1)) = true
  rw [decide_eq_true this.1, decide_eq_true (by omega)]
  rfl
abbrev s_is_state : Stmt := top 28
theorem sc_is_state : FnScope ["house", "value", "hue"] ["house", "value"] (defScope s_is_state) := ⟨rfl, rfl, rfl, by decide +kernel, rfl, by decide +kernel, by decide +kernel⟩
-- slots of is_state: 0 house, 1 value, 2 hue
def spIsStateV (C : Addr) : Sp := fun vs H Q _ => ∃ (x : Addr) (n h : Nat) (R : Rel) (v : V) (d : PyData), vs = [.ref x, v] ∧ HouseAt C H x n h R ∧ n ≤ 16 ∧ Lf2 H v d ∧ ∀ H', Same H H' → Q (.bl (stB n h d)) H'
theorem ok_is_state (T : Txt K mg C) {f : Addr} {fd : FuncData} (F : Fun K "is_state" "is_state" s_is_state f fd) (c_is_whole_in : Cal P w K mg base "is_whole_in" 2 spWholeInV) : FnOk P w K mg base CX0 3 f fd ["house", "value"] (spIsStateV C) := by
  refine F.ok sc_is_state (fun vs H Q E h => ?_) (fun cdv A outer s H vs Q E hr h => ?_)
  · obtain ⟨x, n, h, R, v, d, rfl, _⟩ := h; rfl
  · obtain ⟨x, n, h, R, v, d, rfl, ⟨dx, fs, be, o, h1, h2, h3, h4, h5, h6, h7, h8, h9⟩, n16, od, q⟩ := h
    refine ⟨_, (pss_cons (ps_if (PW.pt (pw_or (pt_not (pt_val (pe_callB (isi_ K) (by rfl) T.isinstance b_isinstance (pa_cons (pv 1) (pa_cons (pe_bltn (v := .ty "tuple") (by rfl) T.tuple b_tuple rfl) pa_nil))))) (pw_or1 (pt_cmpR op_ne (pe_callB (lenS_ K) (by rfl) T.len b_len (pa_cons (pv 1) pa_nil)) (fld_ K (pv 0)) (nomark _)))))
      (pss_one (ps_ret pe_bl)) pss_nil)
      (pss_one (ps_ret (pe_callB (all_ K rfl) (by rfl) T.all b_all (pa_cons (pe_lc (own := [("hue", 2)]) (g := gName 2) (tt := tYes) rfl sc_is_state.nd (pit_ K (pv 1)) (blkOk_by (by kernel_rfl)) (fun _ _ _ _ _ => (pg_name (i := 2) sc_is_state.nd rfl (by first | exact Or.inl rfl | exact Or.inr rfl))) (fun _ _ _ _ _ => pts_nil) (fun _ _ _ _ _ => (pe_cal c_is_whole_in (hr.mono (by decide)) (pa_cons (pv 2) (pa_cons pe_int (pa_cons (pe_op op_sub (fld_ K (pv 0)) pe_int) pa_nil)))))) pa_nil))))), ?_⟩
    cases od with
    | lf l =>
      cases l with
      | int i _ => exact ⟨_, rfl, _, _, _, _, false, rfl, .ty _, .base (.int i), kit_ty (by decide +kernel), false, rfl, iteT (q H (Same.refl H))⟩
      | bl b => exact ⟨_, rfl, _, _, _, _, false, rfl, .ty _, .base (.bl b), kit_ty (by decide +kernel), false, rfl, iteT (q H (Same.refl H))⟩
      | non => exact ⟨_, rfl, _, _, _, _, false, rfl, .ty _, .base .non, kit_ty (by decide +kernel), false, rfl, iteT (q H (Same.refl H))⟩
      | str z _ _ => exact ⟨_, rfl, _, _, _, _, false, rfl, .ty _, .base (.str z), kit_ty (by decide +kernel), false, rfl, iteT (q H (Same.refl H))⟩
    | lst ht _ _ => exact ⟨_, rfl, _, _, _, _, false, rfl, .ty _, .base (.lst ht), kit_ty (by decide +kernel), false, rfl, iteT (q H (Same.refl H))⟩
    | @tup t xs ds ht a l =>
      have al := a.len
      refine ⟨_, rfl, _, _, _, _, true, rfl, .ty _, .base (.tup ht), kit_ty (by decide +kernel), true, rfl, iteF ?_⟩
      refine ⟨_, rfl, t, _, rfl, .inr (SqT.of ht), _, rfl, x, C, dx, _, _, rfl, h1, T.cl, T.nCount, h2, rfl, _, rfl, ?_⟩
      have gi : decide (V.int (xs.length : Int) = V.int (n : Int)) = decide (ds.length = n) := decide_eq_decide.mpr ⟨fun z => by injection z with z; omega, fun z => by rw [al, z]⟩
      rw [gi]
      refine ite2 (fun hne => ?_) (fun heq => ?_)
      · have z : stB n h (.tuple ds) = false := by
          show (decide (ds.length = n) && ds.all (inD h)) = false
          rw [show decide (ds.length = n) = false by simpa using hne, Bool.false_and]
        rw [z] at q
        exact q H (Same.refl H)
      · have z : stB n h (.tuple ds) = ds.all (inD h) := by
          show (decide (ds.length = n) && ds.all (inD h)) = _
          rw [show decide (ds.length = n) = true by simpa using heq, Bool.true_and]
        rw [z] at q
        refine ⟨_, rfl, t, rfl, ⟨_, SqT.of ht⟩, fun D hD => ?_⟩
        refine lc_tup (xs := xs) (fun i H3 => H3 D = some (.lst (((ds.take i).map (inD h)).map V.bl)) ∧ Same H H3) ⟨upd_same, same_new hD⟩ (fun i H3 _ ⟨_, s⟩ => SqT.of (s _ _ ht)) ?_ ?_
        · rintro i y H3 hy ⟨h3', s3⟩
          obtain ⟨e, he, ye⟩ := a.get hy
          have il := (List.getElem?_eq_some_iff.mp hy).1
          refine ⟨rfl, yesT ⟨_, rfl, _, rfl, x, C, dx, _, _, rfl, s3 _ _ h1, T.cl, T.nHues, h3, _, _, rfl, rfl, y, 0, (h : Int) - 1, rfl, (ye.same s3).kd, _, h3', ?_, ?_, same_upd s3 hD⟩⟩
          · rw [List.length_map, List.length_map, List.length_take, sizeLine_eq]; omega
          · rw [upd_same, List.take_add_one, he, List.map_append, List.map_append, ye.in_ h]
            rfl
        · rintro H3 ⟨h3', s3⟩
          rw [al, List.take_length] at h3'
          refine ⟨D, _, rfl, SqL.of h3', ?_⟩
          have e : (ds.map (inD h)).all id = ds.all (inD h) := by rw [List.all_map]; rfl
          rw [e]
          exact q H3 s3
abbrev s_check_state : Stmt := top 29
theorem sc_check_state : FnScope ["house", "state"] ["house", "state"] (defScope s_check_state) := ⟨rfl, rfl, rfl, by decide +kernel, rfl, by decide +kernel, by decide +kernel⟩
-- slots of check_state: 0 house, 1 state
def spCheckStateX (C CS : Addr) : Sp := fun vs H Q E => ∃ (x : Addr) (n h : Nat) (R : Rel) (v : V) (d : PyData), vs = [.ref x, v] ∧ HouseAt C H x n h R ∧ n ≤ 16 ∧ Lf2 H v d ∧ (∀ (t : Addr) (S : List Int) (H' : Hp), v = .ref t → H t = some (.tup (stV S)) → StOk n h S → Same H H' → Q .non H') ∧ (stB n h d = false → Odd1 CS "state" v H E)
theorem ok_check_state (T : Txt K mg C) (M_state : XMk P w K mg base CS "InvalidState" "state") {f : Addr} {fd : FuncData} (F : Fun K "check_state" "check_state" s_check_state f fd) (c_is_state : Cal P w K mg base "is_state" 3 (spIsStateV C)) : FnOk P w K mg base (L2.CX P w) 4 f fd ["house", "state"] (spCheckStateX C CS) := by
  refine F.okX sc_check_state (fun vs H Q E h => ?_) (fun cdv A outer s H vs Q E hr h => ?_)
  · obtain ⟨x, n, h, R, v, d, rfl, _⟩ := h; rfl
  · obtain ⟨x, n, h, R, v, d, rfl, ha, n16, od, q1, q2⟩ := h
    refine ⟨_, (pss_one (ps_if (pt_not (pt_val (pe_cal c_is_state (hr.mono (by decide)) (pa_cons (pv 0) (pa_cons (pv 1) pa_nil)))))
      (pss_one (ps_raiseM M_state rfl (takes_of rfl rfl rfl rfl) (hr.mono (by decide)) (pa_cons (pv 1) pa_nil))) pss_nil)), ?_⟩
    refine ⟨_, rfl, _, rfl, x, n, h, R, v, d, rfl, ha, n16, od, fun H1 s1 => ?_⟩
    cases e : stB n h d with
    | true =>
      obtain ⟨t, S, ev, ht, ok, _⟩ := od.st e
      exact ⟨true, rfl, iteF (q1 t S H1 ev ht ok s1)⟩
    | false => exact ⟨false, rfl, iteT ⟨_, rfl, by show 1 ≤ 1000; decide, fun a na => keep_raised M_state.cls.oex M_state.no ((q2 e).after s1) a na⟩⟩
abbrev s_InvalidState___init__ : Stmt := inClass (top 5) 0
theorem sc_InvalidState___init__ : FnScope ["self", "state"] ["self", "state"] (defScope s_InvalidState___init__) := ⟨rfl, rfl, rfl, by decide +kernel, rfl, by decide +kernel, by decide +kernel⟩
-- slots of InvalidState.__init__: 0 self, 1 state
theorem ok_InvalidState {f : Addr} {fd : FuncData} (F : Fun K "__init__" "InvalidState.__init__" s_InvalidState___init__ f fd) : FnOk P w K mg base CX0 1 f fd ["self", "state"] (spKeep K "state") := by
  refine F.ok sc_InvalidState___init__ (fun vs H Q E h => ?_) (fun cdv A outer s H vs Q E hr h => ?_)
  · obtain ⟨a, D, v, rfl, _⟩ := h; rfl
  · obtain ⟨a, D, v, rfl, T, no, ha, q⟩ := h
    refine ⟨_, (pss_one (ps_ost (pv 0) (pv 1))), ?_⟩
    exact ⟨_, rfl, _, rfl, a, D, rfl, T, no, .inl ⟨ha, fun dx nd ne => q dx nd ne⟩⟩
end
end Hue

end
section
set_option maxRecDepth 100000
set_option maxHeartbeats 4000000
namespace Hue
open PySem PySem.Spec PyProof.Rows L2
section
variable {P : Program} {w : World} {K : PySem.W.Frag} {mg : Str → Option Value} {base : Heap} {C CL : Addr}
theorem inI_nat {v : V} {n : Nat} (hin : inI v 0 ((n : Int) - 1) = true) : ∃ k : Nat, k < n ∧ v = .int (k : Nat) := by
  cases v with
  | int i =>
    have z : (decide (0 ≤ i) && decide (i ≤ (n : Int) - 1)) = true := hin
    rw [Bool.and_eq_true, decide_eq_true_eq, decide_eq_true_eq] at z
    exact ⟨i.toNat, by omega, by congr 1; omega⟩
  | _ => cases hin
theorem nat_inI {k n : Nat} (h : k < n) : inI (.int (k : Nat)) 0 ((n : Int) - 1) = true := by
  show (decide (0 ≤ (k : Int)) && decide ((k : Int) ≤ (n : Int) - 1)) = true
  rw [decide_eq_true (by omega), decide_eq_true (by omega)]
  rfl
theorem in_Bel {n : Nat} {R : Rel} {i j : Nat} (h : i < n) : decide (i ∈ Bel n R j) = R j i := by
  rw [Bool.eq_iff_iff, decide_eq_true_eq, mem_Bel]
  exact ⟨fun z => z.2, fun z => ⟨h, z⟩⟩
/-! ### methods that check a lamp and hand out a list -/
abbrev s_House_beneath : Stmt := inClass (top 12) 5
theorem sc_House_beneath : FnScope ["self", "lamp"] ["self", "lamp"] (defScope s_House_beneath) := ⟨rfl, rfl, rfl, by decide +kernel, rfl, by decide +kernel, by decide +kernel⟩
-- slots of House.beneath: 0 self, 1 lamp
def spBeneathX (C CL : Addr) : Sp := fun vs H Q E => ∃ (x : Addr) (n h : Nat) (R : Rel) (v : V), vs = [.ref x, v] ∧ HouseAt C H x n h R ∧ Kd H v ∧
  (∀ k : Nat, k < n → v = .int (k : Nat) → ∀ (H' : Hp) (p : Addr), Same H H' → H p = Option.none → H' p = some (.lst (nL (Bel n R k))) → Q (.ref p) H') ∧ (inI v 0 ((n : Int) - 1) = false → Odd1 CL "lamp" v H E)
theorem ok_beneath (T : Txt K mg C) {f : Addr} {fd : FuncData} (F : Fun K "beneath" "House.beneath" s_House_beneath f fd) (c_check_lamp : CalX P w K mg base "check_lamp" 4 (spCheckLampX C CL)) : FnOk P w K mg base (L2.CX P w) 5 f fd ["self", "lamp"] (spBeneathX C CL) := by
  refine F.okX sc_House_beneath (fun vs H Q E h => ?_) (fun cdv A outer s H vs Q E hr h => ?_)
  · obtain ⟨x, n, h, R, v, rfl, _⟩ := h; rfl
  · obtain ⟨x, n, h, R, v, rfl, ha, kd, q1, q2⟩ := h
    obtain ⟨dx, fs, be, o, h1, h2, h3, h4, h5, h6, h7, h8, h9⟩ := id ha
    refine ⟨_, (pss_cons (ps_expr (pe_calX c_check_lamp (takes_of rfl rfl rfl rfl) (hr.mono (by decide)) (pa_cons (pv 0) (pa_cons (pv 1) pa_nil))))
      (pss_one (ps_ret (pe_callTy (lstOf_ K) (by rfl) T.list b_list (pa_cons (pe_ix (ixL_ K) (fld_ K (pv 0)) (pv 1) (fun _ _ => rfl)) pa_nil))))), ?_⟩
    refine ⟨_, rfl, _, rfl, x, n, h, R, v, rfl, ha, kd, fun hin => ?_, q2⟩
    obtain ⟨k, hk, rfl⟩ := inI_nat hin
    obtain ⟨xs, al, hb, _, hal, hL⟩ := h5.at (relRows_at (R := R) hk)
    exact ⟨_, rfl, x, C, dx, _, _, rfl, h1, T.cl, T.nBen, h4, _, rfl, be, xs, _, _, rfl, rfl, SqL.of hb, atI_nat hal, al, _, rfl, .inl (SqL.of hL), fun p np => q1 k hk rfl _ p (same_new np) np upd_same⟩
abbrev s_House_above : Stmt := inClass (top 12) 6
theorem sc_House_above : FnScope ["self", "lamp"] ["self", "lamp"] (defScope s_House_above) := ⟨rfl, rfl, rfl, by decide +kernel, rfl, by decide +kernel, by decide +kernel⟩
-- slots of House.above: 0 self, 1 lamp
def spAboveX (C CL : Addr) : Sp := fun vs H Q E => ∃ (x : Addr) (n h : Nat) (ps : List (Nat × Nat)) (v : V), vs = [.ref x, v] ∧ HouseAt C H x n h (relOf ps) ∧ HouseX C H x n ps ∧ Kd H v ∧
  (∀ k : Nat, k < n → v = .int (k : Nat) → ∀ (H' : Hp) (p : Addr), Same H H' → H p = Option.none → H' p = some (.lst (nL (Bel n (flip (relOf ps)) k))) → Q (.ref p) H') ∧ (inI v 0 ((n : Int) - 1) = false → Odd1 CL "lamp" v H E)
theorem ok_above (T : Txt K mg C) {f : Addr} {fd : FuncData} (F : Fun K "above" "House.above" s_House_above f fd) (c_check_lamp : CalX P w K mg base "check_lamp" 4 (spCheckLampX C CL)) : FnOk P w K mg base (L2.CX P w) 5 f fd ["self", "lamp"] (spAboveX C CL) := by
  refine F.okX sc_House_above (fun vs H Q E h => ?_) (fun cdv A outer s H vs Q E hr h => ?_)
  · obtain ⟨x, n, h, ps, v, rfl, _⟩ := h; rfl
  · obtain ⟨x, n, h, ps, v, rfl, ha, hX, kd, q1, q2⟩ := h
    obtain ⟨dx, fs, ab, di, l, us, qs, g1, g2, g3, g4, g5, g6, g7, g8, g9, g10⟩ := id hX
    refine ⟨_, (pss_cons (ps_expr (pe_calX c_check_lamp (takes_of rfl rfl rfl rfl) (hr.mono (by decide)) (pa_cons (pv 0) (pa_cons (pv 1) pa_nil))))
      (pss_one (ps_ret (pe_callTy (lstOf_ K) (by rfl) T.list b_list (pa_cons (pe_ix (ixL_ K) (fld_ K (pv 0)) (pv 1) (fun _ _ => rfl)) pa_nil))))), ?_⟩
    refine ⟨_, rfl, _, rfl, x, n, h, relOf ps, v, rfl, ha, kd, fun hin => ?_, q2⟩
    obtain ⟨k, hk, rfl⟩ := inI_nat hin
    obtain ⟨xs, al, hb, _, hal, hL⟩ := g3.at (relRows_at (R := flip (relOf ps)) hk)
    exact ⟨_, rfl, x, C, dx, _, _, rfl, g1, T.cl, T.nAbove, g2, _, rfl, ab, xs, _, _, rfl, rfl, SqL.of hb, atI_nat hal, al, _, rfl, .inl (SqL.of hL), fun p np => q1 k hk rfl _ p (same_new np) np upd_same⟩
/-! ### two lamps -/
/-- two values of which the first that is no lamp is told -/
def Two (CL : Addr) (n : Nat) (a b : V) (H : Hp) (E : XK) : Prop := (inI a 0 ((n : Int) - 1) = false → Odd1 CL "lamp" a H E) ∧ (inI a 0 ((n : Int) - 1) = true → inI b 0 ((n : Int) - 1) = false → Odd1 CL "lamp" b H E)
end
end Hue

end
section
set_option maxRecDepth 100000
set_option maxHeartbeats 4000000
namespace Hue
open PySem PySem.Spec PyProof.Rows L2
section
variable {P : Program} {w : World} {K : PySem.W.Frag} {mg : Str → Option Value} {base : Heap} {C CL CS : Addr}
/-! ### the calm readings of beneath and above -/
def spBeneath (C : Addr) : Sp := fun vs H Q _ => ∃ (x : Addr) (n h k : Nat) (R : Rel), vs = [.ref x, .int k] ∧ HouseAt C H x n h R ∧ k < n ∧ ∀ (H' : Hp) (p : Addr), Same H H' → H p = Option.none → H' p = some (.lst (nL (Bel n R k))) → Q (.ref p) H'
def spAbove (C : Addr) : Sp := fun vs H Q _ => ∃ (x : Addr) (n h k : Nat) (ps : List (Nat × Nat)), vs = [.ref x, .int k] ∧ HouseAt C H x n h (relOf ps) ∧ HouseX C H x n ps ∧ k < n ∧ ∀ (H' : Hp) (p : Addr), Same H H' → H p = Option.none → H' p = some (.lst (nL (Bel n (flip (relOf ps)) k))) → Q (.ref p) H'
theorem nat_in {k n : Nat} (h : k < n) : inI (.int (k : Nat)) 0 ((n : Int) - 1) = true := by
  show (decide (0 ≤ (k : Int)) && decide ((k : Int) ≤ (n : Int) - 1)) = true
  rw [decide_eq_true (by omega), decide_eq_true (by omega)]
  rfl
theorem beneath_n (vs : List V) (H : Hp) (Q : VK) (E : XK) (g : spBeneath C vs H Q E) : spBeneathX C CL vs H Q fun _ _ _ => False := by
  obtain ⟨x, n, h, k, R, e, ha, kn, q⟩ := g
  exact ⟨x, n, h, R, _, e, ha, .int _, fun j hj ej => by injection ej with ej; rw [← Int.ofNat.inj ej]; exact q, fun z => by rw [nat_in kn] at z; cases z⟩
theorem above_n (vs : List V) (H : Hp) (Q : VK) (E : XK) (g : spAbove C vs H Q E) : spAboveX C CL vs H Q fun _ _ _ => False := by
  obtain ⟨x, n, h, k, ps, e, ha, hx, kn, q⟩ := g
  exact ⟨x, n, h, ps, _, e, ha, hx, .int _, fun j hj ej => by injection ej with ej; rw [← Int.ofNat.inj ej]; exact q, fun z => by rw [nat_in kn] at z; cases z⟩
/-! ### two values that should be states -/
def St2 (CS : Addr) (n h : Nat) (v u : V) (d e : PyData) (H : Hp) (E : XK) (sg : Addr → Addr → List Int → List Int → Prop) : Prop :=
  (∀ (t r : Addr) (S D : List Int), v = .ref t → u = .ref r → H t = some (.tup (stV S)) → H r = some (.tup (stV D)) → StOk n h S → StOk n h D → sg t r S D) ∧
  (stB n h d = false → Odd1 CS "state" v H E) ∧ (stB n h d = true → stB n h e = false → Odd1 CS "state" u H E)
theorem all_back {H : Hp} : ∀ {S : List Int} {ds : List PyData}, All2 (Lf1 H) (stV S) ds → ds = S.map .int
  | [], ds, a => by cases a; rfl
  | i :: S, ds, a => by
    cases a with
    | cons o r =>
      rw [all_back r]
      cases o with
      | lf l => cases l; rfl
theorem lf2_st {H : Hp} {t : Addr} {d : PyData} {n h : Nat} {S : List Int} (o : Lf2 H (.ref t) d) (ht : H t = some (.tup (stV S))) (ok : StOk n h S) : stB n h d = true := by
  cases o with
  | lf l => cases l
  | tup ht' a l =>
    rw [ht] at ht'
    injection ht' with ht'
    injection ht' with ht'
    subst ht'
    rw [all_back a]
    exact st_stB ok
  | lst ht' a l =>
    rw [ht] at ht'
    injection ht' with ht'
    cases ht'
theorem Lf2.back {H H1 : Hp} {r : Addr} {e : PyData} {o : HO} (a : Lf2 H (.ref r) e) (s : Same H H1) (h : H1 r = some o) : H r = some o := by
  cases a with
  | lf l => cases l
  | tup ht _ _ => rw [s _ _ ht] at h; rw [ht]; exact h
  | lst ht _ _ => rw [s _ _ ht] at h; rw [ht]; exact h
theorem filt_one {α : Type} (f : α → Bool) (l : List α) (i : Nat) {z : α} (h : l[i]? = some z) : (l.take (i + 1)).filter f = (l.take i).filter f ++ (if f z = true then [z] else []) := by
  rw [List.take_add_one, h, List.filter_append]
  congr 1
  show [z].filter f = _
  rw [List.filter_cons]
  rfl
theorem find_at {L : List Nat} {f : Nat → Bool} {i k : Nat} (h : L[i]? = some k) (no : ∀ j ∈ L.take i, ¬ f j = true) (yes : f k = true) : L.find? f = some k := by
  rw [List.find?_eq_some_iff_getElem]
  obtain ⟨hi, e⟩ := List.getElem?_eq_some_iff.mp h
  refine ⟨yes, i, hi, e, fun j hj => ?_⟩
  have m : L[j] ∈ L.take i := by
    rw [List.mem_take_iff_getElem]
    exact ⟨j, by omega, rfl⟩
  cases z : f L[j] with
  | false => rfl
  | true => exact absurd z (no _ m)
theorem find_no {L : List Nat} {f : Nat → Bool} (no : ∀ j ∈ L, ¬ f j = true) : L.find? f = none := List.find?_eq_none.mpr no
/-! ### the topmost differences -/
def difB (S D : List Int) (k : Nat) : Bool := !decide (at_ S k = at_ D k)
def difL (n : Nat) (S D : List Int) : List Nat := (List.range n).filter (difB S D)
def topD (n : Nat) (R : Rel) (S D : List Int) : List Nat := (difL n S D).filter fun k => !((Bel n (flip R) k).any fun u => decide (u ∈ difL n S D))
def spTopmostX (C CS : Addr) : Sp := fun vs H Q E => ∃ (x : Addr) (n h : Nat) (ps : List (Nat × Nat)) (v u : V) (d e : PyData), vs = [.ref x, v, u] ∧ HouseAt C H x n h (relOf ps) ∧ HouseX C H x n ps ∧ n ≤ 16 ∧ Lf2 H v d ∧ Lf2 H u e ∧
  St2 CS n h v u d e H E fun _ _ S D => ∀ (p : Addr) (H' : Hp), Same H H' → H p = none → H' p = some (.lst (nL (topD n (relOf ps) S D))) → Q (.ref p) H'
/-! ### the obstacle -/
def obsO (L : List Nat) (S D : List Int) : Option Nat := L.find? fun k => decide (at_ S k < at_ D k)
def oNat : Option Nat → V
  | none => .non
  | some k => .int (k : Int)
def spObstacleX (C CS : Addr) : Sp := fun vs H Q E => ∃ (x : Addr) (n h : Nat) (ps : List (Nat × Nat)) (v u : V) (d e : PyData), vs = [.ref x, v, u] ∧ HouseAt C H x n h (relOf ps) ∧ HouseX C H x n ps ∧ n ≤ 16 ∧ Lf2 H v d ∧ Lf2 H u e ∧
  St2 CS n h v u d e H E fun _ _ S D => ∀ (H' : Hp), Same H H' → Q (oNat (obsO (topD n (relOf ps) S D) S D)) H'
end
end Hue

end
section
set_option maxRecDepth 100000
set_option maxHeartbeats 4000000
namespace Hue
open PySem PySem.Spec PyProof.Rows L2
section
variable {P : Program} {w : World} {K : PySem.W.Frag} {mg : Str → Option Value} {base : Heap} {C CL CS : Addr}
/-! ### counts that a rule along the relation fixes -/
theorem solve {R : Rel} (hR : Ranked R) (F : (Nat → Int) → Nat → Int) (loc : ∀ c c' v, (∀ u, R u v = true → c u = c' u) → F c v = F c' v) : ∃ c : Nat → Int, ∀ v, c v = F c v := by
  obtain ⟨ρ, hρ⟩ := hR
  obtain ⟨it, i0, i1⟩ : ∃ it : Nat → Nat → Int, it 0 = (fun _ => 0) ∧ ∀ k, it (k + 1) = F (it k) := ⟨fun k => Nat.rec (fun _ => 0) (fun _ c => F c) k, rfl, fun _ => rfl⟩
  have key : ∀ m v, ρ v ≤ m → ∀ a b, ρ v ≤ a → ρ v ≤ b → it (a + 1) v = it (b + 1) v := by
    intro m
    induction m with
    | zero =>
      intro v hv a b _ _
      rw [i1, i1]
      exact loc _ _ v fun u hu => by have := hρ u v hu; omega
    | succ m ih =>
      intro v hv a b ha hb
      rw [i1, i1]
      refine loc _ _ v fun u hu => ?_
      have lt := hρ u v hu
      obtain ⟨a, rfl⟩ : ∃ a', a = a' + 1 := ⟨a - 1, by omega⟩
      obtain ⟨b, rfl⟩ : ∃ b', b = b' + 1 := ⟨b - 1, by omega⟩
      exact ih u (by omega) a b (by omega) (by omega)
  refine ⟨fun v => it (ρ v + 1) v, fun v => ?_⟩
  show it (ρ v + 1) v = F (fun v => it (ρ v + 1) v) v
  rw [i1]
  refine loc _ _ v fun u hu => ?_
  have lt := hρ u v hu
  obtain ⟨b, hb⟩ : ∃ b', ρ v = b' + 1 := ⟨ρ v - 1, by omega⟩
  rw [hb]
  exact key (ρ u) u (Nat.le_refl _) b (ρ u) (by omega) (Nat.le_refl _)
/-- the counts of those of M above v -/
def ldS (M : List Nat) (R : Rel) (c : Nat → Int) (v : Nat) : Int := ((M.filter fun u => R u v).map c).sum
def bur (n : Nat) (R : Rel) (c : Nat → Int) (v : Nat) : Int := ldS (List.range n) R c v
theorem sum_perm : ∀ {a b : List Int}, a.Perm b → a.sum = b.sum := fun h => by
  induction h with
  | nil => rfl
  | cons x _ ih => rw [List.sum_cons, List.sum_cons, ih]
  | swap x y l => rw [List.sum_cons, List.sum_cons, List.sum_cons, List.sum_cons]; omega
  | trans _ _ h1 h2 => rw [h1, h2]
theorem ldS_perm {M M' : List Nat} (h : M.Perm M') (R : Rel) (c : Nat → Int) (v : Nat) : ldS M R c v = ldS M' R c v := sum_perm ((h.filter _).map c)
theorem ldS_all {n : Nat} {R : Rel} {M : List Nat} {v : Nat} (c : Nat → Int) (nd : M.Nodup) (lt : ∀ u ∈ M, u < n) (all : ∀ u, u < n → R u v = true → u ∈ M) : ldS M R c v = bur n R c v := by
  refine sum_perm (List.Perm.map c ?_)
  refine (List.perm_ext_iff_of_nodup (nd.filter _) (List.nodup_range.filter _)).mpr fun u => ?_
  rw [List.mem_filter, List.mem_filter, List.mem_range]
  exact ⟨fun ⟨a, b⟩ => ⟨lt u a, b⟩, fun ⟨a, b⟩ => ⟨all u a b, b⟩⟩
theorem ldS_congr {M : List Nat} {R : Rel} {c c' : Nat → Int} {v : Nat} (h : ∀ u ∈ M, R u v = true → c u = c' u) : ldS M R c v = ldS M R c' v := by
  unfold ldS
  rw [List.map_congr_left fun u hu => ?_]
  obtain ⟨a, b⟩ := List.mem_filter.mp hu
  exact h u a b
theorem bur_congr {n : Nat} {R : Rel} {c c' : Nat → Int} {v : Nat} (h : ∀ u, u < n → R u v = true → c u = c' u) : bur n R c v = bur n R c' v := ldS_congr fun u hu r => h u (List.mem_range.mp hu) r
theorem ldS_app (M : List Nat) (k : Nat) (R : Rel) (c : Nat → Int) (v : Nat) : ldS (M ++ [k]) R c v = ldS M R c v + (if R k v = true then c k else 0) := by
  unfold ldS
  rw [List.filter_append, List.map_append, List.sum_append]
  congr 1
  by_cases r : R k v = true
  · rw [if_pos r, List.filter_cons, if_pos r]; simp
  · rw [if_neg r, List.filter_cons, if_neg r]; rfl
/-- a list of counts -/
def cL (n : Nat) (c : Nat → Int) : List V := (List.range n).map fun v => V.int (c v)
theorem cL_len (n : Nat) (c : Nat → Int) : (cL n c).length = n := by unfold cL; rw [List.length_map, List.length_range]
theorem cL_get {n v : Nat} (h : v < n) (c : Nat → Int) : (cL n c)[v]? = some (V.int (c v)) := by unfold cL; rw [List.getElem?_map, List.getElem?_range h]; rfl
theorem cL_congr {n : Nat} {c c' : Nat → Int} (h : ∀ v, v < n → c v = c' v) : cL n c = cL n c' := by
  unfold cL
  refine List.map_congr_left fun v hv => ?_
  rw [h v (List.mem_range.mp hv)]
theorem cL_set {n k : Nat} (h : k < n) (c : Nat → Int) (z : Int) : (cL n c).set k (V.int z) = cL n fun v => if v = k then z else c v := by
  refine List.ext_getElem? fun i => ?_
  rw [List.getElem?_set, cL_len]
  by_cases e : k = i
  · subst e
    rw [if_pos rfl, if_pos h, cL_get h]
    show _ = some (V.int (if k = k then z else c k))
    rw [if_pos rfl]
  · rw [if_neg e]
    by_cases l : i < n
    · rw [cL_get l, cL_get l]
      show _ = some (V.int (if i = k then z else c i))
      rw [if_neg (fun q => e q.symm)]
    · rw [List.getElem?_eq_none (by rw [cL_len]; omega), List.getElem?_eq_none (by rw [cL_len]; omega)]
theorem rep_zero (n : Nat) : (List.replicate ((n : Int)).toNat [V.int 0]).flatten = cL n fun _ => 0 := by
  unfold cL
  rw [Int.toNat_natCast, List.map_const', List.length_range]
  induction n with
  | zero => rfl
  | succ n ih => rw [List.replicate_succ, List.flatten_cons, ih, List.replicate_succ]; rfl
theorem repZ {H : Hp} {zz : Addr} {n : Nat} (h : H zz = some (.lst [.int 0])) (n16 : n ≤ 1000) {Q : VK} (q : ∀ p, H p = none → Q (.ref p) (L2.upd H p (.lst (cL n fun _ => 0)))) : rRep (.ref zz) (.int n) H Q :=
  ⟨zz, _, _, rfl, rfl, h, by omega, by omega, by rw [Int.toNat_natCast, sizeLine_eq]; show 1 * n ≤ _; omega, fun p np => by rw [rep_zero]; exact q p np⟩
/-! ### the greatest counts -/
def spGreatestU : Sp := fun vs H Q _ => ∃ (o tb fa a b : Addr) (n : Nat) (R : Rel) (L : List Nat) (f : Nat → Int) (S D : List Int) (c : Nat → Int), vs = [.ref o, .ref tb, .ref fa, .ref a, .ref b] ∧ n ≤ 16 ∧ H o = some (.lst (nL L)) ∧ L.length = n ∧ OrdOk n R L ∧ (∀ v, v < n → v ∈ L) ∧ Rows H tb (relRows n R) ∧ H fa = some (.lst (cL n f)) ∧ (∀ v, v < n → 0 ≤ f v ∧ f v < 1000) ∧
  H a = some (.tup (stV S)) ∧ H b = some (.tup (stV D)) ∧ S.length = n ∧ D.length = n ∧ (∀ v, v < n → c v = at_ S v - at_ D v + f v * bur n R c v) ∧
  ∀ (H' : Hp) (p : Addr), Same H H' → H p = Option.none → H' p = some (.lst (cL n c)) → Q (.ref p) H'
end
end Hue

end
section
set_option maxRecDepth 100000
set_option maxHeartbeats 4000000
namespace Hue
open PySem PySem.Spec PyProof.Rows L2
section
variable {P : Program} {w : World} {K : PySem.W.Frag} {mg : Str → Option Value} {base : Heap} {C CL CS CR : Addr}
structure HsOk (C : Addr) (H : Hp) (x : Addr) (n h : Nat) (ps : List (Nat × Nat)) : Prop where
  at_ : HouseAt C H x n h (relOf ps)
  x_ : HouseX C H x n ps
theorem HsOk.same {H H' : Hp} {x : Addr} {n h : Nat} {ps : List (Nat × Nat)} (a : HsOk C H x n h ps) (s : Same H H') : HsOk C H' x n h ps := ⟨a.at_.same s, a.x_.same s⟩
theorem HsOk.ins {H : Hp} {x : Addr} {n h : Nat} {ps : List (Nat × Nat)} (a : HsOk C H x n h ps) : ∃ dx fs, H x = some (.ins C dx fs) ∧ fs.lookup ("count" : Str) = some (.int n) ∧ fs.lookup ("hues" : Str) = some (.int h) ∧ ∀ m ∈ mNames, fs.lookup m = Option.none := by
  obtain ⟨dx, fs, ab, di, l, us, qs, g1, g2, g3, g4, g5, g6, g7, g8, g9, g10⟩ := a.x_
  obtain ⟨dx', fs', be, o, h1, h2, h3, _⟩ := a.at_
  rw [g1] at h1
  injection h1 with h1
  injection h1 with _ e1 e2
  subst e2
  exact ⟨dx, fs, g1, h2, h3, g10⟩
/-! ### the calm readings, where both are states -/
theorem stV_inj {S T : List Int} (e : stV S = stV T) : S = T := by
  induction S generalizing T with
  | nil => cases T with
    | nil => rfl
    | cons t T => cases e
  | cons z S ih => cases T with
    | nil => cases e
    | cons t T =>
      unfold stV at e
      rw [List.map_cons, List.map_cons] at e
      injection e with e1 e2
      injection e1 with e1
      rw [e1, ih e2]
theorem st2_calm {n h : Nat} {t r : Addr} {S D : List Int} {H : Hp} {E : XK} {sg : Addr → Addr → List Int → List Int → Prop} (ht : H t = some (.tup (stV S))) (hr : H r = some (.tup (stV D))) (okS : StOk n h S) (okD : StOk n h D) (g : sg t r S D) : St2 CS n h (.ref t) (.ref r) (stD S) (stD D) H E sg :=
  ⟨fun t' r' S' D' e1 e2 ht' hr' _ _ => by
    injection e1 with e1
    injection e2 with e2
    subst e1
    subst e2
    rw [ht] at ht'
    injection ht' with ht'
    injection ht' with ht'
    rw [hr] at hr'
    injection hr' with hr'
    injection hr' with hr'
    rw [← stV_inj ht', ← stV_inj hr']
    exact g, fun z => (by rw [st_stB okS] at z; cases z), fun _ z => (by rw [st_stB okD] at z; cases z)⟩
/-- a house and two of its states -/
structure Two2 (C : Addr) (H : Hp) (x t r : Addr) (n h : Nat) (ps : List (Nat × Nat)) (S D : List Int) : Prop where
  hs : HsOk C H x n h ps
  n16 : n ≤ 16
  h10 : h ≤ 10
  hR : Ranked (relOf ps)
  ht : H t = some (.tup (stV S))
  hr : H r = some (.tup (stV D))
  okS : StOk n h S
  okD : StOk n h D
namespace Two2
variable {H H' : Hp} {x t r : Addr} {n h : Nat} {ps : List (Nat × Nat)} {S D : List Int}
theorem same (a : Two2 C H x t r n h ps S D) (s : Same H H') : Two2 C H' x t r n h ps S D := ⟨a.hs.same s, a.n16, a.h10, a.hR, s _ _ a.ht, s _ _ a.hr, a.okS, a.okD⟩
theorem l1 (a : Two2 C H x t r n h ps S D) : Lf2 H (.ref t) (stD S) := st_lf2 a.ht (by rw [a.okS.1]; have := a.n16; omega) (a.okS.small a.h10)
theorem l2 (a : Two2 C H x t r n h ps S D) : Lf2 H (.ref r) (stD D) := st_lf2 a.hr (by rw [a.okD.1]; have := a.n16; omega) (a.okD.small a.h10)
end Two2
def spTopmostS (C : Addr) : Sp := fun vs H Q _ => ∃ (x t r : Addr) (n h : Nat) (ps : List (Nat × Nat)) (S D : List Int), vs = [.ref x, .ref t, .ref r] ∧ Two2 C H x t r n h ps S D ∧ ∀ (p : Addr) (H' : Hp), Same H H' → H p = none → H' p = some (.lst (nL (topD n (relOf ps) S D))) → Q (.ref p) H'
theorem topmost_st (vs : List V) (H : Hp) (Q : VK) (E : XK) (g : spTopmostS C vs H Q E) : spTopmostX C CS vs H Q fun _ _ _ => False := by
  obtain ⟨x, t, r, n, h, ps, S, D, e, W, q⟩ := g
  exact ⟨x, n, h, ps, _, _, _, _, e, W.hs.at_, W.hs.x_, W.n16, W.l1, W.l2, st2_calm W.ht W.hr W.okS W.okD q⟩
def spObstacleS (C : Addr) : Sp := fun vs H Q _ => ∃ (x t r : Addr) (n h : Nat) (ps : List (Nat × Nat)) (S D : List Int), vs = [.ref x, .ref t, .ref r] ∧ Two2 C H x t r n h ps S D ∧ ∀ (H' : Hp), Same H H' → Q (oNat (obsO (topD n (relOf ps) S D) S D)) H'
theorem obstacle_st (vs : List V) (H : Hp) (Q : VK) (E : XK) (g : spObstacleS C vs H Q E) : spObstacleX C CS vs H Q fun _ _ _ => False := by
  obtain ⟨x, t, r, n, h, ps, S, D, e, W, q⟩ := g
  exact ⟨x, n, h, ps, _, _, _, _, e, W.hs.at_, W.hs.x_, W.n16, W.l1, W.l2, st2_calm W.ht W.hr W.okS W.okD q⟩
/-! ### refused, because the target can't be reached -/
/-- the obstacle of two states -/
def obsT (n : Nat) (R : Rel) (S D : List Int) : Option Nat := obsO (topD n R S D) S D
def spCheckReach (C CR : Addr) : Sp := fun vs H Q E => ∃ (x t r : Addr) (n h : Nat) (ps : List (Nat × Nat)) (S D : List Int), vs = [.ref x, .ref t, .ref r] ∧ Two2 C H x t r n h ps S D ∧ (obsT n (relOf ps) S D = none → ∀ H' : Hp, Same H H' → Q .non H') ∧ (∀ k, obsT n (relOf ps) S D = some k → Odd1 CR "lamp" (.int (k : Nat)) H E)
/-! ### the least counts -/
/-- counts that go by a remainder, but where they are fixed -/
def leastF (n h : Nat) (R : Rel) (S D : List Int) (fx : Nat → Option Int) (c : Nat → Int) (v : Nat) : Int := match fx v with
  | some z => z
  | none => (at_ S v - at_ D v - bur n R c v) % (h : Int)
theorem least_ex {n h : Nat} {R : Rel} (hR : Ranked R) (S D : List Int) (fx : Nat → Option Int) : ∃ c : Nat → Int, ∀ v, c v = leastF n h R S D fx c v := solve hR (leastF n h R S D fx) fun c c' v e => by
  unfold leastF
  cases fx v with
  | some z => rfl
  | none =>
    show (at_ S v - at_ D v - bur n R c v) % (h : Int) = (at_ S v - at_ D v - bur n R c' v) % (h : Int)
    rw [bur_congr fun u _ r => e u r]
def mostF (n h : Nat) (R : Rel) (S D : List Int) (c : Nat → Int) (v : Nat) : Int := at_ S v - at_ D v + ((h : Int) - 1) * bur n R c v
theorem most_ex {n h : Nat} {R : Rel} (hR : Ranked R) (S D : List Int) : ∃ c : Nat → Int, ∀ v, c v = mostF n h R S D c v := solve hR (mostF n h R S D) fun c c' v e => by
  unfold mostF
  rw [bur_congr fun u _ r => e u r]
def spLeast (C : Addr) : Sp := fun vs H Q _ => ∃ (x t r fa : Addr) (n h : Nat) (ps : List (Nat × Nat)) (S D : List Int) (kvs : List (Key × V)) (fx : Nat → Option Int) (c : Nat → Int), vs = [.ref x, .ref t, .ref r, .ref fa] ∧ Two2 C H x t r n h ps S D ∧ 1 ≤ h ∧ H fa = some (.dK kvs) ∧ (∀ v : Nat, v < n → valV kvs (Sum.inl (v : Int)) = (fx v).map V.int) ∧ (∀ v, v < n → c v = leastF n h (relOf ps) S D fx c v) ∧
  ∀ (H' : Hp) (p : Addr), Same H H' → H p = Option.none → H' p = some (.lst (cL n c)) → Q (.ref p) H'
/-! ### the greatest counts, of a house -/
def spBenEach (C : Addr) : Sp := fun vs H Q _ => ∃ (x : Addr) (n h : Nat) (ps : List (Nat × Nat)), vs = [.ref x] ∧ HsOk C H x n h ps ∧ n ≤ 16 ∧ ∀ (H' : Hp) (p : Addr), Same H H' → H p = Option.none → Rows H' p (relRows n (relOf ps)) → Q (.ref p) H'
def spFree (C : Addr) : Sp := fun vs H Q _ => ∃ (x : Addr) (n h : Nat) (ps : List (Nat × Nat)), vs = [.ref x] ∧ HsOk C H x n h ps ∧ n ≤ 16 ∧ ∀ (H' : Hp) (p : Addr), Same H H' → H p = Option.none → H' p = some (.lst (cL n fun _ => (h : Int) - 1)) → Q (.ref p) H'
theorem rep_any (n : Nat) (z : Int) : (List.replicate ((n : Int)).toNat [V.int z]).flatten = cL n fun _ => z := by
  unfold cL
  rw [Int.toNat_natCast, List.map_const', List.length_range]
  induction n with
  | zero => rfl
  | succ n ih => rw [List.replicate_succ, List.flatten_cons, ih, List.replicate_succ]; rfl
def spMost (C : Addr) : Sp := fun vs H Q _ => ∃ (x t r : Addr) (n h : Nat) (ps : List (Nat × Nat)) (S D : List Int) (c : Nat → Int), vs = [.ref x, .ref t, .ref r] ∧ Two2 C H x t r n h ps S D ∧ 1 ≤ h ∧ (∀ v, v < n → c v = mostF n h (relOf ps) S D c v) ∧
  ∀ (H' : Hp) (p : Addr), Same H H' → H p = Option.none → H' p = some (.lst (cL n c)) → Q (.ref p) H'
end
end Hue

end
section
set_option maxRecDepth 100000
set_option maxHeartbeats 4000000
namespace Hue
open PySem PySem.Spec PyProof.Rows L2
section
variable {P : Program} {w : World} {K : PySem.W.Frag} {mg : Str → Option Value} {base : Heap} {C CL CS CR : Addr}
/-! ### tallies -/
structure TxtT (K : PySem.W.Frag) (mg : Str → Option Value) (CT : Addr) : Prop where
  cl : Cls K CT
  mgT : mg "Tally" = some (.ref CT)
  nCounts : PySem.W.findIn K (.ref CT) "counts" = some none
  ca : PySem.W.findIn K (.ref CT) "__class__" = some (some (.builtin "object.__class__"))
  gs : PySem.W.specialIn K (.builtin "object.__class__") "__get__" = some (some (.builtin "getset_descriptor.__get__"))
  tk : PySem.W.takesIn K (.builtin "object.__class__") = some true
  mo : PySem.W.mroIn K CT (.type "object") = some true
/-- a tally of counts -/
def TlOk (CT : Addr) (H : Hp) (x : Addr) (xs : List V) : Prop := ∃ (dx : Addr) (fs : List (Str × V)) (t : Addr), H x = some (.ins CT dx fs) ∧ fs.lookup ("counts" : Str) = some (.ref t) ∧ H t = some (.tup xs)
theorem TlOk.same {CT : Addr} {H H' : Hp} {x : Addr} {xs : List V} (a : TlOk CT H x xs) (s : Same H H') : TlOk CT H' x xs := let ⟨dx, fs, t, h1, h2, h3⟩ := a; ⟨dx, fs, t, s _ _ h1, h2, s _ _ h3⟩
abbrev s_are_counts : Stmt := top 32
theorem sc_are_counts : FnScope ["value", "count"] ["value"] (defScope s_are_counts) := ⟨rfl, rfl, rfl, by decide +kernel, rfl, by decide +kernel, by decide +kernel⟩
-- slots of are_counts: 0 value, 1 count
def spAreCounts : Sp := fun vs H Q _ => ∃ (a : Addr) (ns : List Int), vs = [.ref a] ∧ H a = some (.lst (ns.map V.int)) ∧ ns ≠ [] ∧ ns.length ≤ 1000 ∧ (∀ z ∈ ns, 0 ≤ z) ∧ ∀ H', Same H H' → Q (.bl true) H'
theorem ok_are_counts (T : Txt K mg C) {f : Addr} {fd : FuncData} (F : Fun K "are_counts" "are_counts" s_are_counts f fd) (c_is_whole : Cal P w K mg base "is_whole" 1 spWholeV) : FnOk P w K mg base CX0 2 f fd ["value"] spAreCounts := by
  refine F.ok sc_are_counts (fun vs H Q E h => ?_) (fun cdv A outer s H vs Q E hr h => ?_)
  · obtain ⟨a, ns, rfl, _⟩ := h; rfl
  · obtain ⟨a, ns, rfl, ha, ne, few, pos, q⟩ := h
    refine ⟨_, (pss_cons (ps_if (PW.pt (pw_or (pt_not (pt_val (pe_callB (isiT_ K) (by rfl) T.isinstance b_isinstance (pa_cons (pv 0) (pa_cons (pe_tup (pa_cons (pe_bltn (v := .ty "list") (by rfl) T.list b_list rfl) (pa_cons (pe_bltn (v := .ty "tuple") (by rfl) T.tuple b_tuple rfl) pa_nil))) pa_nil))))) (pw_or1 (pt_not (truth_ K (pv 0))))))
      (pss_one (ps_ret pe_bl)) pss_nil)
      (pss_one (ps_ret (pe_callB (all_ K rfl) (by rfl) T.all b_all (pa_cons (pe_lc (own := [("count", 1)]) (g := gName 1) (tt := tYes) rfl sc_are_counts.nd (pil_ K (pv 0)) (blkOk_by (by kernel_rfl)) (fun _ _ _ _ _ => (pg_name (i := 1) sc_are_counts.nd rfl (by first | exact Or.inl rfl | exact Or.inr rfl))) (fun _ _ _ _ _ => pts_nil) (fun _ _ _ _ _ => (pe_and (pe_cal c_is_whole (hr.mono (by decide)) (pa_cons (pv 1) pa_nil)) (pe_one (pe_cmpR op_ge (pv 1) pe_int (nomark _)))))) pa_nil))))), ?_⟩
    refine ⟨_, rfl, by show 2 ≤ sizeLine; decide, fun tp np => ?_⟩
    have s0 : Same H (L2.upd H tp (.tup [.ty "list", .ty "tuple"])) := same_new np
    refine ⟨_, tp, _, _, _, true, rfl, upd_same, .cons (.ty _) (.cons (.ty _) .nil), .base (.lst (s0 _ _ ha)), kitAny_cons (b := true) (kit_ty (by decide +kernel)) (fun z => by cases z) (fun _ => rfl), true, rfl, iteF ?_⟩
    generalize L2.upd H tp (.tup [.ty "list", .ty "tuple"]) = H1 at s0 ⊢
    refine ⟨_, rfl, true, .inl ⟨_, SqL.of (s0 _ _ ha), by cases ns with | nil => exact absurd rfl ne | cons => rfl⟩, iteF ?_⟩
    refine ⟨_, rfl, a, rfl, ⟨_, SqL.of (s0 _ _ ha)⟩, fun D hD => ?_⟩
    refine lc_list (xs := ns.map V.int) (fun i G => G D = some (.lst ((List.replicate i true).map V.bl)) ∧ Same H1 G) ⟨upd_same, same_new hD⟩ (fun i G _ ⟨_, s⟩ => SqL.of (s _ _ (s0 _ _ ha))) ?_ ?_
    · rintro i y G hy ⟨h4, s4⟩
      rw [List.getElem?_map] at hy
      obtain ⟨z, hz, rfl⟩ := Option.map_eq_some_iff.mp hy
      have il : i < ns.length := (List.getElem?_eq_some_iff.mp hz).1
      refine ⟨rfl, yesT ⟨_, rfl, _, rfl, .int _, true, rfl, iteT ⟨_, rfl, _, _, rfl, rfl, ?_⟩⟩⟩
      refine ⟨_, h4, by rw [List.length_map, List.length_replicate, sizeLine_eq]; omega, ?_, same_upd s4 hD⟩
      rw [upd_same, List.replicate_succ', List.map_append]
      show some (HO.lst (_ ++ [V.bl (decide (0 ≤ z))])) = _
      rw [decide_eq_true (pos z (List.mem_of_getElem? hz))]
      rfl
    rintro G ⟨h4, s4⟩
    refine ⟨D, _, rfl, SqL.of h4, ?_⟩
    have e : (List.replicate (ns.map V.int).length true).all id = true := by rw [List.all_eq_true]; intro b hb; rw [(List.mem_replicate.mp hb).2]; rfl
    rw [e]
    exact q G (s0.trans s4)
abbrev s_Tally___init__ : Stmt := inClass (top 31) 0
theorem sc_Tally___init__ : FnScope ["self", "counts"] ["self", "counts"] (defScope s_Tally___init__) := ⟨rfl, rfl, rfl, by decide +kernel, rfl, by decide +kernel, by decide +kernel⟩
-- slots of Tally.__init__: 0 self, 1 counts
def spTInit (CT : Addr) : Sp := fun vs H Q _ => ∃ (x dx a : Addr) (ns : List Int), vs = [.ref x, .ref a] ∧ H x = some (.ins CT dx []) ∧ H a = some (.lst (ns.map V.int)) ∧ ns ≠ [] ∧ ns.length ≤ 1000 ∧ (∀ z ∈ ns, 0 ≤ z) ∧ ∀ H', SB x H H' → TlOk CT H' x (ns.map V.int) → Q .non H'
theorem ok_tinit {CT : Addr} (T : Txt K mg C) (TT : TxtT K mg CT) {f : Addr} {fd : FuncData} (F : Fun K "__init__" "Tally.__init__" s_Tally___init__ f fd) (c_are_counts : Cal P w K mg base "are_counts" 2 spAreCounts) : FnOk P w K mg base CX0 3 f fd ["self", "counts"] (spTInit CT) := by
  refine F.ok sc_Tally___init__ (fun vs H Q E h => ?_) (fun cdv A outer s H vs Q E hr h => ?_)
  · obtain ⟨x, dx, a, ns, rfl, _⟩ := h; rfl
  · obtain ⟨x, dx, a, ns, rfl, hx, ha, ne, few, pos, q⟩ := h
    refine ⟨_, (pss_cons (ps_if (pt_not (pt_val (pe_cal c_are_counts (hr.mono (by decide)) (pa_cons (pv 1) pa_nil))))
      pss_never pss_nil)
      (pss_one (ps_fld (pv 0) (pe_callTy (tupOf_ K) (by rfl) T.tuple b_tuple (pa_cons (pv 1) pa_nil)) rfl))), ?_⟩
    refine ⟨_, rfl, a, ns, rfl, ha, ne, few, pos, fun H1 s1 => ⟨true, rfl, iteF ?_⟩⟩
    refine ⟨_, rfl, a, _, rfl, .inl ⟨SqL.of (s1 _ _ ha), fun t nt => ?_⟩⟩
    have s2 := s1.trans (same_new (o := .tup (ns.map V.int)) nt)
    have ht : (L2.upd H1 t (.tup (ns.map V.int))) t = some (.tup (ns.map V.int)) := upd_same
    generalize L2.upd H1 t (.tup (ns.map V.int)) = H2 at s2 ht ⊢
    have hx2 := s2 _ _ hx
    refine ⟨_, rfl, x, CT, dx, _, rfl, hx2, TT.cl, TT.nCounts, by decide, ?_⟩
    exact q _ ((SB.of s2).upd) ⟨dx, _, t, upd_same, lk_same _ _ _, by rw [upd_ne (ne_of ht hx2 (by intro z; cases z))]; exact ht⟩
/-! ### a tally with a count -/
def fixL (R : Rel) (lot : Nat → Int) (k : Nat) (z : Int) (v : Nat) : Option Int := if v = k then some z else if R v k = true then some (lot v) else none
def goodN (h : Nat) (few lot z : Int) : Prop := few ≤ z ∧ z ≤ lot ∧ (z - few) % (h : Int) = 0
def spTallyWith (C CT CS CL CR CN : Addr) : Sp := fun vs H Q E => ∃ (x : Addr) (n h : Nat) (ps : List (Nat × Nat)) (v u y : V) (z : Int) (d e : PyData), vs = [.ref x, v, u, y, .int z] ∧ HsOk C H x n h ps ∧ n ≤ 16 ∧ 1 ≤ h ∧ h ≤ 10 ∧ Ranked (relOf ps) ∧ Lf2 H v d ∧ Lf2 H u e ∧ Kd H y ∧
  (stB n h d = false → Odd1 CS "state" v H E) ∧ (stB n h d = true → stB n h e = false → Odd1 CS "state" u H E) ∧
  (stB n h d = true → stB n h e = true → inI y 0 ((n : Int) - 1) = false → Odd1 CL "lamp" y H E) ∧
  (∀ (t r : Addr) (S D : List Int) (k : Nat), v = .ref t → u = .ref r → H t = some (.tup (stV S)) → H r = some (.tup (stV D)) → StOk n h S → StOk n h D → y = .int k → k < n →
    (∀ j : Nat, obsT n (relOf ps) S D = some j → Odd1 CR "lamp" (.int j) H E) ∧
    (obsT n (relOf ps) S D = none → ∃ few lot : Nat → Int, (∀ v, v < n → few v = leastF n h (relOf ps) S D (fun _ => none) few v) ∧ (∀ v, v < n → lot v = mostF n h (relOf ps) S D lot v) ∧ (¬ goodN h (few k) (lot k) z → Odd1 CN "number" (.int z) H E) ∧
      (goodN h (few k) (lot k) z → ∃ c : Nat → Int, (∀ v, v < n → c v = leastF n h (relOf ps) S D (fixL (relOf ps) lot k z) c v) ∧ (∀ v, v < n → 0 ≤ c v) ∧ ∀ (H' : Hp) (p : Addr), Same H H' → H p = none → TlOk CT H' p (cL n c) → Q (.ref p) H')))
end
end Hue

end
section
set_option maxRecDepth 100000
set_option maxHeartbeats 4000000
namespace Hue
open PySem PySem.Spec PyProof.Rows L2
section
variable {P : Program} {w : World} {K : PySem.W.Frag} {mg : Str → Option Value} {base : Heap} {C : Addr}
/-! ### the box of draws, and the heap without it -/
def isBx (H : Hp) (b c : Addr) : Prop := c = b ∨ ∃ s t : V, H b = some (.lst [.ref c, s, t])
open Classical in
/-- the heap, the box at b hidden with its list -/
noncomputable def hid (H : Hp) (b : Addr) : Hp := fun c => if isBx H b c then none else H c
structure Bx (H : Hp) (b : Addr) : Prop where
  ex : ∃ (g : Addr) (gs : List Int) (i1 i2 : Int), H b = some (.lst [.ref g, .int i1, .int i2]) ∧ H g = some (.lst (gs.map V.int))
theorem hid_some {H : Hp} {b c : Addr} {o : HO} (h : hid H b c = some o) : H c = some o ∧ ¬ isBx H b c := by
  unfold hid at h
  by_cases z : isBx H b c
  · rw [if_pos z] at h; cases h
  · rw [if_neg z] at h; exact ⟨h, z⟩
theorem hid_of {H : Hp} {b c : Addr} {o : HO} (h : H c = some o) (n : ¬ isBx H b c) : hid H b c = some o := by unfold hid; rw [if_neg n]; exact h
theorem hid_same {H : Hp} {b : Addr} : Same (hid H b) H := fun c o e => (hid_some e).1
theorem hid_none {H : Hp} {b c : Addr} (h : H c = none) : hid H b c = none := by
  unfold hid
  by_cases z : isBx H b c
  · rw [if_pos z]
  · rw [if_neg z]; exact h
theorem hid_ne {H : Hp} {b c : Addr} {o : HO} (h : hid H b c = some o) : c ≠ b := fun z => (hid_some h).2 (.inl z)
theorem Bx.same {H H' : Hp} {b : Addr} (h : Bx H b) (s : Same H H') : Bx H' b := let ⟨g, gs, i1, i2, e1, e2⟩ := h.ex; ⟨g, gs, i1, i2, s _ _ e1, s _ _ e2⟩
theorem isBx_same {H H' : Hp} {b c : Addr} (h : Bx H b) (e : H' b = H b) : isBx H' b c ↔ isBx H b c := by
  unfold isBx; rw [e]
theorem hid_step {H H' : Hp} {b g g' : Addr} {i1 i2 j1 j2 : V} (hb : H b = some (.lst [.ref g, i1, i2])) (hb' : H' b = some (.lst [.ref g', j1, j2])) (k : ∀ c o, c ≠ b → c ≠ g → H c = some o → H' c = some o) (fr : g' = g ∨ H g' = none) : Same (hid H b) (hid H' b) := fun c o e => by
  obtain ⟨e1, e2⟩ := hid_some e
  have n1 : c ≠ b := fun z => e2 (.inl z)
  have n2 : c ≠ g := fun z => e2 (.inr ⟨i1, i2, by rw [z]; exact hb⟩)
  refine hid_of (k c o n1 n2 e1) fun z => ?_
  rcases z with z | ⟨s, t, z⟩
  · exact n1 z
  · rw [hb'] at z
    injection z with z
    injection z with z
    injection z with z _
    injection z with z
    rcases fr with f | f
    · exact n2 (z ▸ f)
    · rw [z, e1] at f; cases f
theorem Same.hid {H H' : Hp} {b : Addr} (h : Bx H b) (s : Same H H') : Same (hid H b) (hid H' b) := by
  obtain ⟨g, gs, i1, i2, e1, e2⟩ := h.ex
  exact hid_step e1 (s _ _ e1) (fun c o _ _ e => s c o e) (.inl rfl)
theorem hid_upd {H : Hp} {b c : Addr} {o : HO} (n : c ≠ b) (n2 : ¬ isBx H b c) : hid (upd H c o) b = upd (hid H b) c o := by
  funext d
  have e : isBx (upd H c o) b d ↔ isBx H b d := by unfold isBx; rw [upd_ne n.symm]
  by_cases z : d = c
  · rw [z, upd_same]
    exact hid_of upd_same fun y => n2 ((by rw [z] at e; exact e.mp y))
  · rw [upd_ne z]
    unfold Hue.hid
    by_cases y : isBx H b d
    · rw [if_pos y, if_pos (e.mpr y)]
    · rw [if_neg y, if_neg (fun q => y (e.mp q)), upd_ne z]
theorem Bx.no {H : Hp} {b c : Addr} (h : Bx H b) (n : H c = none) : c ≠ b ∧ ¬ isBx H b c := by
  obtain ⟨g, gs, i1, i2, e1, e2⟩ := h.ex
  have n1 : c ≠ b := (ne_of_none e1 n).symm
  refine ⟨n1, fun z => ?_⟩
  rcases z with z | ⟨s, t, z⟩
  · exact n1 z
  · rw [e1] at z
    injection z with z
    injection z with z
    injection z with z _
    injection z with z
    rw [← z, e2] at n
    cases n
theorem hid_new {H : Hp} {b c : Addr} {o : HO} (h : Bx H b) (n : H c = none) : hid (upd H c o) b = upd (hid H b) c o := hid_upd (h.no n).1 (h.no n).2
theorem hid_put {H : Hp} {b c : Addr} {o u : HO} (e : hid H b c = some u) : hid (upd H c o) b = upd (hid H b) c o := hid_upd (hid_ne e) (hid_some e).2
theorem Bx.new {H : Hp} {b c : Addr} {o : HO} (h : Bx H b) (n : H c = none) : Bx (upd H c o) b := h.same (same_new n)
theorem Bx.put {H : Hp} {b c : Addr} {o u : HO} (h : Bx H b) (e : hid H b c = some u) : Bx (upd H c o) b := by
  obtain ⟨g, gs, i1, i2, e1, e2⟩ := h.ex
  have ng : c ≠ g := fun z => (hid_some e).2 (.inr ⟨_, _, by rw [z]; exact e1⟩)
  exact ⟨g, gs, i1, i2, by rw [upd_ne (hid_ne e).symm]; exact e1, by rw [upd_ne ng.symm]; exact e2⟩
theorem mod_nat {i : Int} {m : Nat} (hm : 1 ≤ m) : ∃ d : Nat, d < m ∧ i % (m : Int) = (d : Int) := by
  have h1 := Int.emod_nonneg i (by omega : (m : Int) ≠ 0)
  have h2 := Int.emod_lt_of_pos i (by omega : (0 : Int) < m)
  exact ⟨(i % (m : Int)).toNat, by omega, by omega⟩
theorem rem_small (x : Int) {m : Int} (m0 : 0 < m) (m1 : m ≤ 2305843009213693951) : -(2 ^ 64) < x % m ∧ x % m < 2 ^ 64 := by
  have h1 := Int.emod_nonneg x (by omega : m ≠ 0)
  have h2 := Int.emod_lt_of_pos x m0
  omega
theorem Same.sqL {K : PySem.W.Frag} {H H' : Hp} {a : Addr} {xs : List V} (e : Same H H') (h : SqL K H a xs) : SqL K H' a xs := by
  rcases h with (h | ⟨o, h⟩) | h
  · exact .inl (.inl (e _ _ h))
  · exact .inl (.inr ⟨o, e _ _ h⟩)
  · exact .inr h
theorem cut_front {α : Type} {xs : List V} {l : List α} {g : α → V} (e : xs = l.map g) (k : Nat) : cutV xs none (some (k : Int)) = (l.take k).map g := by
  unfold cutV
  rw [HT.sIx_none, HT.sIx_nat, e, List.length_map, List.drop_zero, Nat.sub_zero, ← List.map_take]
  congr 1
  rcases Nat.lt_or_ge k l.length with h | h
  · rw [Nat.min_eq_left (by omega)]
  · rw [Nat.min_eq_right h, List.take_length, List.take_of_length_le h]
theorem cut_rest {α : Type} {xs : List V} {l : List α} {g : α → V} (e : xs = l.map g) : cutV xs (some 1) none = (l.drop 1).map g := by
  unfold cutV
  rw [HT.sIx_none, show (some (1 : Int)) = some ((1 : Nat) : Int) from rfl, HT.sIx_nat, e, List.length_map, ← List.map_drop, List.take_of_length_le]
  · congr 1
    cases l with
    | nil => rfl
    | cons x l => rw [List.length_cons, Nat.min_eq_left (by omega)]
  · rw [List.length_map, List.length_drop]
    omega
abbrev s__law_box : Stmt := top 38
theorem sc__law_box : FnScope ["script", "great", "seed", "cell"] ["script"] (defScope s__law_box) := ⟨rfl, rfl, rfl, by decide +kernel, rfl, by decide +kernel, by decide +kernel⟩
-- slots of _law_box: 0 script, 1 great, 2 seed, 3 cell
def spBox (K : PySem.W.Frag) : Sp := fun vs H Q _ => ∃ (a : Addr) (ns : List Int), vs = [.ref a] ∧ SqL K H a (ns.map V.int) ∧ ∀ (H' : Hp) (b : Addr), Bx H' b → Same H (hid H' b) → Q (.ref b) H'
theorem ok__law_box (T : Txt K mg C) {f : Addr} {fd : FuncData} (F : Fun K "_law_box" "_law_box" s__law_box f fd) : FnOk P w K mg base CX0 1 f fd ["script"] (spBox K) := by
  refine F.ok sc__law_box (fun vs H Q E h => ?_) (fun cdv A outer s H vs Q E hr h => ?_)
  · obtain ⟨a, ns, rfl, _⟩ := h; rfl
  · obtain ⟨a, ns, rfl, ha, q⟩ := h
    refine ⟨_, (pss_cons (ps_set (i := 1) sc__law_box.nd rfl (by first | exact Or.inl rfl | exact Or.inr rfl) (pe_lst pa_nil))
      (pss_cons (ps_set (i := 2) sc__law_box.nd rfl (by first | exact Or.inl rfl | exact Or.inr rfl) pe_int)
      (pss_cons (ps_for PassesOwn.never rfl (pil_ K (pe_slice (slL_ K) (pv 0) po_none (po_some pe_int))) (pg_name (i := 3) sc__law_box.nd rfl (by first | exact Or.inl rfl | exact Or.inr rfl))
      (pss_cons (ps_set (i := 2) sc__law_box.nd rfl (by first | exact Or.inl rfl | exact Or.inr rfl) (pe_op op_mod (pe_callTy call_int1 (by rfl) T.int b_int (pa_cons (pe_op op_add (pe_op op_mul (pv 2) pe_int) (pv 3)) pa_nil)) pe_int))
      (pss_one (ps_if (pt_cmpR op_ge (pv 3) (pe_op op_pow pe_int pe_int) (nomark _))
      (pss_one (ps_expr (pe_bm PySem.F.plainAttrs_list PySem.F.slot_list_append PySem.F.type_list_append mt_append (pv 1) (pa_cons (pe_callTy call_int1 (by rfl) T.int b_int (pa_cons (pv 3) pa_nil)) pa_nil)))) pss_nil))))
      (pss_one (ps_ret (pe_lst (pa_cons (pv 1) (pa_cons (pv 2) (pa_cons pe_int pa_nil))))))))), ?_⟩
    refine ⟨by decide, fun gz ngz => ?_⟩
    have s1 : Same H (L2.upd H gz (.lst [])) := same_new ngz
    have hg1 : (L2.upd H gz (.lst [])) gz = some (.lst (([] : List Int).map V.int)) := upd_same
    generalize L2.upd H gz (.lst []) = H1 at s1 hg1 ⊢
    refine ⟨_, rfl, _, rfl, a, _, rfl, Same.sqL s1 ha, fun cz ncz => ?_⟩
    rw [show (some (63 : Int)) = some ((63 : Nat) : Int) from rfl, cut_front rfl 63]
    have s2 : Same H1 (L2.upd H1 cz (.lst ((ns.take 63).map V.int))) := same_new ncz
    have hc2 : (L2.upd H1 cz (.lst ((ns.take 63).map V.int))) cz = some (.lst ((ns.take 63).map V.int)) := upd_same
    have ngc : gz ≠ cz := ne_of_none hg1 ncz
    have hg2 := s2 _ _ hg1
    generalize L2.upd H1 cz (.lst ((ns.take 63).map V.int)) = H2 at s2 hc2 hg2 ⊢
    have s12 := s1.trans s2
    refine ⟨cz, rfl, ⟨_, SqL.of hc2⟩, ?_⟩
    refine for_list (K := K) (a := cz) (xs := (ns.take 63).map V.int) (fun i σ G => ∃ (v3 : Option V) (c : Int) (gs : List Int), σ = [some (.ref a), some (.ref gz), some (.int c), v3] ∧ G gz = some (.lst (gs.map V.int)) ∧ gs.length ≤ i ∧ SB gz H2 G) ⟨_, _, [], rfl, hg2, Nat.le_refl _, SB.refl _ _⟩ (fun i σ G _ ⟨_, _, _, _, _, _, s⟩ => SqL.of (s _ _ ngc.symm hc2)) ?_ ?_
    · rintro i x σ G hx ⟨v3, c, gs, rfl, hg, lg, sb⟩
      rw [List.getElem?_map] at hx
      obtain ⟨z, hz, rfl⟩ := Option.map_eq_some_iff.mp hx
      have il : i < 63 := by have := (List.getElem?_eq_some_iff.mp hz).1; rw [List.length_take] at this; omega
      refine ⟨_, rfl, _, _, rfl, rfl, .inr ⟨by decide, by decide⟩, _, rfl, _, _, rfl, rfl, .inl ⟨_, rfl, _, _, rfl, rfl, (by show (0 : Int) < 2305843009213693951; decide), ?_⟩⟩
      refine ⟨_, rfl, _, _, rfl, rfl, ⟨by decide, by decide, by decide⟩, _, _, rfl, rfl, _, rfl, ?_⟩
      refine ite2 (fun _ => ?_) (fun _ => ⟨_, _, gs, rfl, hg, by omega, sb⟩)
      exact ⟨_, rfl, .inl ⟨rfl, _, SqL.of hg⟩, _, rfl, .inl ⟨_, rfl, gz, _, _, rfl, rfl, hg, by rw [List.length_map, sizeLine_eq]; omega, _, _, gs ++ [z], rfl, by rw [upd_same, List.map_append]; rfl, by rw [List.length_append]; exact Nat.succ_le_succ lg, sb.upd⟩⟩
    rintro σ G ⟨v3, c, gs, rfl, hg, lg, sb⟩
    refine ⟨_, rfl, _, rfl, by show 3 ≤ sizeLine; decide, fun b nb => ?_⟩
    have s4 : Same G (L2.upd G b (.lst [.ref gz, .int c, .int 0])) := same_new nb
    have hb : (L2.upd G b (.lst [.ref gz, .int c, .int 0])) b = some (.lst [.ref gz, .int c, .int 0]) := upd_same
    refine q _ b ⟨gz, gs, c, 0, hb, s4 _ _ hg⟩ fun d o e => ?_
    have n0 : d ≠ gz := ne_of_none e ngz
    have e4 := s4 _ _ (sb d o n0 (s12 _ _ e))
    have nbd : d ≠ b := fun z => by
      have := sb d o n0 (s12 _ _ e)
      rw [z, nb] at this; cases this
    refine hid_of e4 fun z => ?_
    rcases z with z | ⟨s, u, z⟩
    · exact nbd z
    · rw [hb] at z
      injection z with z
      injection z with z
      injection z with z _
      injection z with z
      exact n0 z.symm
abbrev s__law_take : Stmt := top 39
theorem sc__law_take : FnScope ["box", "size", "left", "one", "two", "three"] ["box", "size"] (defScope s__law_take) := ⟨rfl, rfl, rfl, by decide +kernel, rfl, by decide +kernel, by decide +kernel⟩
-- slots of _law_take: 0 box, 1 size, 2 left, 3 one, 4 two, 5 three
def spTake : Sp := fun vs H Q _ => ∃ (b : Addr) (m : Nat), vs = [.ref b, .int m] ∧ 1 ≤ m ∧ m < 1073741824 ∧ Bx H b ∧ ∀ (d : Nat) (H' : Hp), d < m → Bx H' b → Same (hid H b) (hid H' b) → Q (.int d) H'
theorem ok__law_take (T : Txt K mg C) {f : Addr} {fd : FuncData} (F : Fun K "_law_take" "_law_take" s__law_take f fd) : FnOk P w K mg base CX0 1 f fd ["box", "size"] spTake := by
  refine F.ok sc__law_take (fun vs H Q E h => ?_) (fun cdv A outer s H vs Q E hr h => ?_)
  · obtain ⟨b, m, rfl, _⟩ := h; rfl
  · obtain ⟨b, m, rfl, m1, m2, hbx, q⟩ := h
    refine ⟨_, (C8.pss_cut (ps_if (PW.pt (pw_and (truth_ K (pe_ix (ixL_ K) (pv 0) pe_int (fun _ _ => rfl))) (pw_and1 (pt_cmpR op_eq (pe_ix (ixL_ K) (pe_ix (ixL_ K) (pv 0) pe_int (fun _ _ => rfl)) pe_int (fun _ _ => rfl)) pe_int (nomark _)))))
      (pss_one (ps_asg (pe_slice (slL_ K) (pe_ix (ixL_ K) (pv 0) pe_int (fun _ _ => rfl)) (po_some pe_int) po_none) (pg_sub (pv 0) pe_int set_list))) pss_nil)
      (pss_cons (ps_if (truth_ K (pe_ix (ixL_ K) (pv 0) pe_int (fun _ _ => rfl)))
      (pss_cons (ps_set (i := 2) sc__law_take.nd rfl (by first | exact Or.inl rfl | exact Or.inr rfl) (pe_ix (ixL_ K) (pe_ix (ixL_ K) (pv 0) pe_int (fun _ _ => rfl)) pe_int (fun _ _ => rfl)))
      (pss_cons (ps_asg (pe_op op_fdiv (pv 2) (pv 1)) (pg_sub (pe_ix (ixL_ K) (pv 0) pe_int (fun _ _ => rfl)) pe_int set_list))
      (pss_one (ps_ret (pe_op op_mod (pe_callTy call_int1 (by rfl) T.int b_int (pa_cons (pv 2) pa_nil)) (pv 1)))))) pss_nil)
      (pss_cons (ps_asg (pe_op op_add (pe_ix (ixL_ K) (pv 0) pe_int (fun _ _ => rfl)) pe_int) (pg_sub (pv 0) pe_int set_list))
      (pss_cons (ps_set (i := 3) sc__law_take.nd rfl (by first | exact Or.inl rfl | exact Or.inr rfl) (pe_op op_mod (pe_callTy call_int1 (by rfl) T.int b_int (pa_cons (pe_op op_add (pe_op op_mul (pe_ix (ixL_ K) (pv 0) pe_int (fun _ _ => rfl)) pe_int) (pe_op op_mul (pe_ix (ixL_ K) (pv 0) pe_int (fun _ _ => rfl)) pe_int)) pa_nil)) pe_int))
      (pss_cons (ps_set (i := 4) sc__law_take.nd rfl (by first | exact Or.inl rfl | exact Or.inr rfl) (pe_op op_mod (pe_callTy call_int1 (by rfl) T.int b_int (pa_cons (pe_op op_add (pe_op op_mul (pv 3) (pv 3)) (pe_op op_mul (pe_ix (ixL_ K) (pv 0) pe_int (fun _ _ => rfl)) pe_int)) pa_nil)) pe_int))
      (pss_cons (ps_set (i := 5) sc__law_take.nd rfl (by first | exact Or.inl rfl | exact Or.inr rfl) (pe_op op_mod (pe_callTy call_int1 (by rfl) T.int b_int (pa_cons (pe_op op_add (pe_op op_mul (pv 4) (pv 4)) (pv 3)) pa_nil)) pe_int))
      (pss_one (ps_ret (pe_op op_mod (pe_op op_fdiv (pv 5) pe_int) (pv 1)))))))))), ?_⟩
    have a0 : ∀ {g : Addr} {i j : Int}, atI [V.ref g, V.int i, V.int j] 0 = some (V.ref g) := atI_nat (j := 0) rfl
    have a1 : ∀ {g : Addr} {i j : Int}, atI [V.ref g, V.int i, V.int j] 1 = some (V.int i) := atI_nat (j := 1) rfl
    have a2 : ∀ {g : Addr} {i j : Int}, atI [V.ref g, V.int i, V.int j] 2 = some (V.int j) := atI_nat (j := 2) rfl
    obtain ⟨g, gs, i1, i2, hb, hg⟩ := id hbx.ex
    refine ⟨fun σ H2 => σ = [some (.ref b), some (.int m), none, none, none, none] ∧ Bx H2 b ∧ Same (hid H b) (hid H2 b), ?_, ?_⟩
    · refine ⟨_, rfl, b, _, _, _, rfl, rfl, SqL.of hb, a0, _, .inl ⟨_, SqL.of hg, rfl⟩, ?_⟩
      cases gs with
      | nil => exact iteF ⟨rfl, hbx, Same.refl _⟩
      | cons z gs =>
        refine iteT ⟨_, rfl, b, _, _, _, rfl, rfl, SqL.of hb, a0, g, _, _, _, rfl, rfl, SqL.of hg, atI_nat (j := 0) rfl, rfl, _, rfl, ite2 (fun _ => ?_) fun _ => ⟨rfl, hbx, Same.refl _⟩⟩
        refine ⟨_, rfl, b, _, _, _, rfl, rfl, SqL.of hb, a0, _, rfl, g, _, rfl, SqL.of hg, fun cz ncz => ?_⟩
        rw [cut_rest rfl]
        have sc : Same H (L2.upd H cz (.lst (((z :: gs).drop 1).map V.int))) := same_new ncz
        have hcz : (L2.upd H cz (.lst (((z :: gs).drop 1).map V.int))) cz = some (.lst (((z :: gs).drop 1).map V.int)) := upd_same
        generalize L2.upd H cz (.lst (((z :: gs).drop 1).map V.int)) = H1 at sc hcz ⊢
        have nbc : cz ≠ b := (ne_of_none hb ncz).symm
        refine ⟨_, rfl, set_at (sc _ _ hb) (ixN_nat (k := 0) (by show 0 < 3; decide)) fun H2 s2 h2 => ?_⟩
        have h2 : H2 b = some (.lst [.ref cz, .int i1, .int i2]) := h2
        exact ⟨rfl, ⟨cz, _, i1, i2, h2, s2 _ _ nbc hcz⟩, hid_step hb h2 (fun c o n1 n2 e => s2 _ _ n1 (sc _ _ e)) (.inr ncz)⟩
    clear hb hg
    rintro σ H2 ⟨rfl, hb2, sm⟩
    obtain ⟨g, gs, i1, i2, hb, hg⟩ := id hb2.ex
    have ngb : g ≠ b := fun z => by
      rw [z, hb] at hg
      injection hg with hg
      injection hg with hg
      cases gs with
      | nil => cases hg
      | cons y gs => injection hg with hg; cases hg
    refine ⟨_, rfl, b, _, _, _, rfl, rfl, SqL.of hb, a0, _, .inl ⟨_, SqL.of hg, rfl⟩, ?_⟩
    cases gs with
    | cons z gs =>
      refine iteT ⟨_, rfl, b, _, _, _, rfl, rfl, SqL.of hb, a0, g, _, _, _, rfl, rfl, SqL.of hg, atI_nat (j := 0) rfl, ?_⟩
      refine ⟨_, rfl, _, rfl, _, _, rfl, rfl, ⟨(by show (0 : Int) < (m : Int); omega), (by show (m : Int) < 1073741824; omega)⟩, _, rfl, b, _, _, _, rfl, rfl, SqL.of hb, a0, set_at hg (ixN_nat (k := 0) (by rw [List.length_map, List.length_cons]; omega)) fun H3 s3 h3 => ?_⟩
      refine ⟨_, rfl, .inl ⟨_, rfl, _, rfl, _, _, rfl, rfl, (by show (0 : Int) < (m : Int); omega), ?_⟩⟩
      obtain ⟨d, hd, ed⟩ := mod_nat (i := z) m1
      show Q (V.int (z % (m : Int))) H3
      rw [ed]
      have hb3 := s3 _ _ ngb.symm hb
      exact q d H3 hd ⟨g, z / (m : Int) :: gs, i1, i2, hb3, h3⟩ (sm.trans (hid_step hb hb3 (fun c o _ n2 e => s3 _ _ n2 e) (.inl rfl)))
    | nil =>
      refine iteF ?_
      refine ⟨_, rfl, b, _, _, _, rfl, rfl, SqL.of hb, a2, _, _, rfl, rfl, _, rfl, set_at hb (ixN_nat (k := 2) (by show 2 < 3; decide)) fun H3 s3 h3 => ?_⟩
      have h3 : H3 b = some (.lst [.ref g, .int i1, .int (i2 + 1)]) := h3
      refine ⟨_, rfl, b, _, _, _, rfl, rfl, SqL.of h3, a1, _, _, rfl, rfl, .inr ⟨by decide, by decide⟩, _, rfl, b, _, _, _, rfl, rfl, SqL.of h3, a2, _, _, rfl, rfl, .inr ⟨by decide, by decide⟩, _, _, rfl, rfl, .inl ⟨_, rfl, _, _, rfl, rfl, (by show (0 : Int) < 2147483647; decide), ?_⟩⟩
      refine ⟨_, rfl, _, rfl, _, _, rfl, rfl, .inr (rem_small _ (by decide) (by decide)), _, rfl, b, _, _, _, rfl, rfl, SqL.of h3, a2, _, _, rfl, rfl, .inr ⟨by decide, by decide⟩, _, _, rfl, rfl, .inl ⟨_, rfl, _, _, rfl, rfl, (by show (0 : Int) < 2147483629; decide), ?_⟩⟩
      refine ⟨_, rfl, _, rfl, _, _, rfl, rfl, .inr (rem_small _ (by decide) (by decide)), _, rfl, _, _, rfl, rfl, .inl ⟨_, rfl, _, _, rfl, rfl, (by show (0 : Int) < 2147483587; decide), ?_⟩⟩
      refine ⟨_, rfl, _, _, rfl, rfl, ⟨by decide, by decide⟩, _, rfl, _, _, rfl, rfl, (by show (0 : Int) < (m : Int); omega), ?_⟩
      generalize _ / (16 : Int) = r
      obtain ⟨d, hd, ed⟩ := mod_nat (i := r) m1
      show Q (V.int (r % (m : Int))) H3
      rw [ed]
      exact q d H3 hd ⟨g, [], i1, i2 + 1, h3, s3 _ _ ngb hg⟩ (sm.trans (hid_step hb h3 (fun c o n1 _ e => s3 _ _ n1 e) (.inl rfl)))
abbrev s__law_great : Stmt := top 40
theorem sc__law_great : FnScope ["box", "value", "k"] ["box"] (defScope s__law_great) := ⟨rfl, rfl, rfl, by decide +kernel, rfl, by decide +kernel, by decide +kernel⟩
-- slots of _law_great: 0 box, 1 value, 2 k
def spGreat : Sp := fun vs H Q _ => ∃ (b : Addr), vs = [.ref b] ∧ Bx H b ∧ ∀ (d : Nat) (H' : Hp), d < 10 ^ 30 → Bx H' b → Same (hid H b) (hid H' b) → Q (.int d) H'
theorem ok__law_great (T : Txt K mg C) {f : Addr} {fd : FuncData} (F : Fun K "_law_great" "_law_great" s__law_great f fd) (c__law_take : Cal P w K mg base "_law_take" 1 spTake) : FnOk P w K mg base CX0 2 f fd ["box"] spGreat := by
  refine F.ok sc__law_great (fun vs H Q E h => ?_) (fun cdv A outer s H vs Q E hr h => ?_)
  · obtain ⟨b, rfl, _⟩ := h; rfl
  · obtain ⟨b, rfl, hbx, q⟩ := h
    refine ⟨_, (pss_cons (ps_set (i := 1) sc__law_great.nd rfl (by first | exact Or.inl rfl | exact Or.inr rfl) pe_int)
      (pss_cons (ps_for PassesOwn.never rfl (pi_range1 (by rfl) T.range (pa_cons pe_int pa_nil)) (pg_name (i := 2) sc__law_great.nd rfl (by first | exact Or.inl rfl | exact Or.inr rfl))
      (pss_one (ps_set (i := 1) sc__law_great.nd rfl (by first | exact Or.inl rfl | exact Or.inr rfl) (pe_op op_add (pe_op op_mul (pv 1) pe_int) (pe_cal c__law_take (hr.mono (by decide)) (pa_cons (pv 0) (pa_cons pe_int pa_nil)))))))
      (pss_one (ps_ret (pv 1))))), ?_⟩
    refine ⟨5, rfl, by decide, by decide, ?_⟩
    refine for_range (n := 5) (fun i σ G => ∃ (v : Nat) (k : Option V), σ = [some (.ref b), some (.int v), k] ∧ v < 1000000 ^ i ∧ Bx G b ∧ Same (hid H b) (hid G b)) ⟨0, _, rfl, by decide, hbx, Same.refl _⟩ ?_ ?_
    · rintro i σ G hi ⟨v, k, rfl, vl, bx, sm⟩
      refine ⟨_, rfl, _, _, rfl, rfl, .inr ⟨by decide, by decide⟩, _, rfl, b, 1000000, rfl, by decide, by decide, bx, fun d G2 hd b2 s2 => ?_⟩
      refine ⟨_, _, rfl, rfl, v * 1000000 + d, _, rfl, ?_, b2, sm.trans s2⟩
      rw [Nat.pow_succ]
      omega
    · rintro σ G ⟨v, k, rfl, vl, bx, sm⟩
      exact ⟨_, rfl, q v G (Nat.lt_of_lt_of_le vl (by decide)) bx sm⟩
abbrev s__law_sizes : Stmt := top 41
theorem sc__law_sizes : FnScope ["box"] ["box"] (defScope s__law_sizes) := ⟨rfl, rfl, rfl, by decide +kernel, rfl, by decide +kernel, by decide +kernel⟩
-- slots of _law_sizes: 0 box
def spSizes : Sp := fun vs H Q _ => ∃ (b : Addr), vs = [.ref b] ∧ Bx H b ∧ ∀ (n h : Nat) (t : Addr) (H' : Hp), 1 ≤ n → n ≤ 16 → 2 ≤ h → h ≤ 10 → Bx H' b → Same (hid H b) (hid H' b) → hid H' b t = some (.tup [.int n, .int h]) → Q (.ref t) H'
theorem ok__law_sizes (T : Txt K mg C) {f : Addr} {fd : FuncData} (F : Fun K "_law_sizes" "_law_sizes" s__law_sizes f fd) (c__law_take : Cal P w K mg base "_law_take" 1 spTake) : FnOk P w K mg base CX0 2 f fd ["box"] spSizes := by
  refine F.ok sc__law_sizes (fun vs H Q E h => ?_) (fun cdv A outer s H vs Q E hr h => ?_)
  · obtain ⟨b, rfl, _⟩ := h; rfl
  · obtain ⟨b, rfl, hbx, q⟩ := h
    refine ⟨_, (pss_cons (ps_if (pt_cmpR op_eq (pe_cal c__law_take (hr.mono (by decide)) (pa_cons (pv 0) (pa_cons pe_int pa_nil))) pe_int (nomark _))
      (pss_one (ps_ret (pe_tup (pa_cons (pe_op op_add pe_int (pe_cal c__law_take (hr.mono (by decide)) (pa_cons (pv 0) (pa_cons pe_int pa_nil)))) (pa_cons (pe_op op_add pe_int (pe_cal c__law_take (hr.mono (by decide)) (pa_cons (pv 0) (pa_cons pe_int pa_nil)))) pa_nil))))) pss_nil)
      (pss_one (ps_ret (pe_tup (pa_cons (pe_op op_add pe_int (pe_op op_fdiv (pe_op op_add pe_int (pe_cal c__law_take (hr.mono (by decide)) (pa_cons (pv 0) (pa_cons pe_int pa_nil)))) pe_int)) (pa_cons (pe_op op_add pe_int (pe_cal c__law_take (hr.mono (by decide)) (pa_cons (pv 0) (pa_cons pe_int pa_nil)))) pa_nil)))))), ?_⟩
    refine ⟨_, rfl, b, 8, rfl, by decide, by decide, hbx, fun d0 H1 _ b1 s1 => ⟨rfl, _, rfl, ?_⟩⟩
    have fin : ∀ {n h : Nat} {t : Addr} {G : Hp}, 1 ≤ n → n ≤ 16 → 2 ≤ h → h ≤ 10 → Bx G b → Same (hid H b) (hid G b) → G t = none → Q (.ref t) (L2.upd G t (.tup [.int (n : Nat), .int (h : Nat)])) := fun h1 h2 h3 h4 bx sm nt =>
      q _ _ _ _ h1 h2 h3 h4 (bx.new nt) (by rw [hid_new bx nt]; exact sm.trans (same_new (hid_none nt))) (by rw [hid_new bx nt]; exact upd_same)
    refine ite2 (fun _ => ?_) (fun _ => ?_)
    · refine ⟨_, rfl, b, 16, rfl, by decide, by decide, b1, fun d H2 hd b2 s2 => ⟨_, _, rfl, rfl, _, rfl, b, 9, rfl, by decide, by decide, b2, fun e H3 he b3 s3 => ⟨_, _, rfl, rfl, by show 2 ≤ sizeLine; decide, fun t nt => ?_⟩⟩⟩
      have z := fin (n := 1 + d) (h := 2 + e) (by omega) (by omega) (by omega) (by omega) b3 ((s1.trans s2).trans s3) nt
      have e1 : ((1 + d : Nat) : Int) = 1 + (d : Int) := by omega
      have e2 : ((2 + e : Nat) : Int) = 2 + (e : Int) := by omega
      rw [e1, e2] at z
      exact z
    · refine ⟨_, rfl, b, 11, rfl, by decide, by decide, b1, fun d H2 hd b2 s2 => ⟨_, _, rfl, rfl, _, _, rfl, rfl, ⟨by decide, by decide⟩, _, _, rfl, rfl, _, rfl, b, 3, rfl, by decide, by decide, b2, fun e H3 he b3 s3 => ⟨_, _, rfl, rfl, by show 2 ≤ sizeLine; decide, fun t nt => ?_⟩⟩⟩
      have z := fin (n := 1 + (1 + d) / 2) (h := 2 + e) (by omega) (by omega) (by omega) (by omega) b3 ((s1.trans s2).trans s3) nt
      have e1 : ((1 + (1 + d) / 2 : Nat) : Int) = 1 + (1 + (d : Int)) / 2 := by omega
      have e2 : ((2 + e : Nat) : Int) = 2 + (e : Int) := by omega
      rw [e1, e2] at z
      exact z
end
end Hue

end
section
set_option maxRecDepth 100000
set_option maxHeartbeats 4000000
namespace Hue
open PySem PySem.Spec PyProof.Rows L2
section
variable {P : Program} {w : World} {K : PySem.W.Frag} {mg : Str → Option Value} {base : Heap} {C : Addr}
theorem cons_erase {α : Type} : ∀ {l : List α} {j : Nat} {y : α}, l[j]? = some y → (y :: l.eraseIdx j).Perm l
  | [], j, y, h => by simp at h
  | a :: l, 0, y, h => by
    have e : a = y := by simpa using h
    rw [e]; exact List.Perm.refl _
  | a :: l, j + 1, y, h => by
    have ih := cons_erase (l := l) (j := j) (y := y) (by simpa using h)
    show (y :: a :: l.eraseIdx j).Perm (a :: l)
    exact (List.Perm.swap a y _).trans (ih.cons a)
/-! ### the line of the lamps -/
abbrev s__law_line : Stmt := top 42
theorem sc__law_line : FnScope ["box", "many", "left", "line", "k"] ["box", "many"] (defScope s__law_line) := ⟨rfl, rfl, rfl, by decide +kernel, rfl, by decide +kernel, by decide +kernel⟩
-- slots of _law_line: 0 box, 1 many, 2 left, 3 line, 4 k
def LineOk (n : Nat) (line : List Nat) : Prop := line.length = n ∧ line.Nodup ∧ ∀ k ∈ line, k < n
def spLine : Sp := fun vs H Q _ => ∃ (b : Addr) (n : Nat), vs = [.ref b, .int n] ∧ n ≤ 16 ∧ Bx H b ∧ ∀ (line : List Nat) (t : Addr) (H' : Hp), LineOk n line → Bx H' b → Same (hid H b) (hid H' b) → hid H b t = none → hid H' b t = some (.lst (nL line)) → Q (.ref t) H'
theorem ok__law_line (T : Txt K mg C) {f : Addr} {fd : FuncData} (F : Fun K "_law_line" "_law_line" s__law_line f fd) (c__law_take : Cal P w K mg base "_law_take" 1 spTake) : FnOk P w K mg base CX0 2 f fd ["box", "many"] spLine := by
  refine F.ok sc__law_line (fun vs H Q E h => ?_) (fun cdv A outer s H vs Q E hr h => ?_)
  · obtain ⟨b, n, rfl, _⟩ := h; rfl
  · obtain ⟨b, n, rfl, n16, bx, q⟩ := h
    refine ⟨_, (pss_cons (ps_set (i := 2) sc__law_line.nd rfl (by first | exact Or.inl rfl | exact Or.inr rfl) (pe_listRg rfl (by rfl) T.list (prg_1 (by rfl) T.range (pv 1))))
      (pss_cons (ps_set (i := 3) sc__law_line.nd rfl (by first | exact Or.inl rfl | exact Or.inr rfl) (pe_lst pa_nil))
      (pss_cons (ps_for PassesOwn.never rfl (pi_range1 (by rfl) T.range (pa_cons (pv 1) pa_nil)) (pg_name (i := 4) sc__law_line.nd rfl (by first | exact Or.inl rfl | exact Or.inr rfl))
      (pss_one (ps_expr (pe_bm PySem.F.plainAttrs_list PySem.F.slot_list_append PySem.F.type_list_append mt_append (pv 3) (pa_cons (pe_bm PySem.F.plainAttrs_list PySem.F.slot_list_pop PySem.F.type_list_pop mt_popAt (pv 2) (pa_cons (pe_cal c__law_take (hr.mono (by decide)) (pa_cons (pv 0) (pa_cons (pe_callB (lenS_ K) (by rfl) T.len b_len (pa_cons (pv 2) pa_nil)) pa_nil))) pa_nil)) pa_nil)))))
      (pss_one (ps_ret (pv 3)))))), ?_⟩
    refine ⟨_, rfl, _, rfl, rgOk n (by omega), fun r nr => ?_⟩
    rw [rgV_nL]
    refine ⟨by decide, fun ln nln => ?_⟩
    have b1 := bx.new nr (o := .lst (nL (List.range n)))
    have e1 := hid_new bx nr (o := .lst (nL (List.range n)))
    have e2 := hid_new b1 nln (o := .lst [])
    have b2 := b1.new nln (o := .lst [])
    have hrl : r ≠ ln := fun z => by rw [z, upd_same] at nln; cases nln
    have fr : hid H b r = none := hid_none nr
    have fl1 : hid (L2.upd H r (.lst (nL (List.range n)))) b ln = none := hid_none nln
    have fl : hid H b ln = none := by rw [e1, upd_ne hrl.symm] at fl1; exact fl1
    have s2 : Same (hid H b) (hid (L2.upd (L2.upd H r (.lst (nL (List.range n)))) ln (.lst [])) b) := by rw [e2, e1]; exact (same_new fr).trans (same_new (by rw [upd_ne hrl.symm]; exact fl))
    have hr2 : hid (L2.upd (L2.upd H r (.lst (nL (List.range n)))) ln (.lst [])) b r = some (.lst (nL (List.range n))) := by rw [e2, upd_ne hrl, e1, upd_same]
    have hl2 : hid (L2.upd (L2.upd H r (.lst (nL (List.range n)))) ln (.lst [])) b ln = some (.lst (nL [])) := by rw [e2, upd_same]; rfl
    generalize L2.upd (L2.upd H r (.lst (nL (List.range n)))) ln (.lst []) = H2 at b2 s2 hr2 hl2 ⊢
    clear e1 e2 b1 fl1 nln nr
    refine ⟨_, rfl, _, rfl, by omega, by omega, ?_⟩
    rw [Int.toNat_natCast]
    refine for_range (fun i σ H3 => ∃ (v : Option V) (rs line : List Nat), σ = [some (.ref b), some (.int n), some (.ref r), some (.ref ln), v] ∧ Bx H3 b ∧ Same (hid H b) (hid H3 b) ∧ hid H3 b r = some (.lst (nL rs)) ∧ hid H3 b ln = some (.lst (nL line)) ∧ line.length = i ∧ rs.length = n - i ∧ (rs ++ line).Perm (List.range n))
      ⟨_, List.range n, [], rfl, b2, s2, hr2, hl2, rfl, by rw [List.length_range]; omega, by rw [List.append_nil]⟩ ?_ ?_
    · rintro i σ H3 hi ⟨v, rs, line, rfl, b3, s3, hr3, hl3, ll, lr, perm⟩
      have r3 := (hid_some hr3).1
      refine ⟨_, rfl, .inl ⟨rfl, _, SqL.of (hid_some hl3).1⟩, _, rfl, .inl ⟨rfl, _, SqL.of r3⟩, _, rfl, _, rfl, r, _, rfl, .inl (SqL.of r3), b, rs.length, by rw [nL_len], by omega, by omega, b3, fun d H4 hd b4 s4 => ?_⟩
      have hr4 := s4 _ _ hr3
      have hl4 := s4 _ _ hl3
      obtain ⟨y, hy⟩ : ∃ y, rs[d]? = some y := ⟨_, List.getElem?_eq_getElem hd⟩
      obtain ⟨j, e1, e2, _, c1, c2⟩ := atI_get (atI_nat (nL_get hy))
      have ej : ∃ z, rs[j]? = some z ∧ (z : Int) = (y : Int) := by
        unfold nL nI at e2
        rw [List.map_map, List.getElem?_map] at e2
        obtain ⟨z, hz, e⟩ := Option.map_eq_some_iff.mp e2
        exact ⟨z, hz, by injection e⟩
      obtain ⟨z, hz, ez⟩ := ej
      have ezy : z = y := by omega
      rw [ezy] at hz
      rw [nL_len] at c1 c2
      refine ⟨r, _, _, j, _, rfl, rfl, (hid_some hr4).1, by omega, by omega, e1, e2, ?_⟩
      rw [nL_erase]
      have b5 : Bx (L2.upd H4 r (.lst (nL (rs.eraseIdx j)))) b := b4.put hr4
      have e5 := hid_put hr4 (o := .lst (nL (rs.eraseIdx j)))
      have hl5 : hid (L2.upd H4 r (.lst (nL (rs.eraseIdx j)))) b ln = some (.lst (nL line)) := by rw [e5, upd_ne hrl.symm]; exact hl4
      have hr5 : hid (L2.upd H4 r (.lst (nL (rs.eraseIdx j)))) b r = some (.lst (nL (rs.eraseIdx j))) := by rw [e5, upd_same]
      have s5 : Same (hid H b) (hid (L2.upd H4 r (.lst (nL (rs.eraseIdx j)))) b) := by rw [e5]; exact same_upd (s3.trans s4) fr
      generalize L2.upd H4 r (.lst (nL (rs.eraseIdx j))) = H5 at hl5 s5 hr5 b5 ⊢
      refine ⟨ln, _, _, rfl, rfl, (hid_some hl5).1, by rw [nL_len, sizeLine_eq]; omega, ?_⟩
      have e6 := hid_put hl5 (o := .lst (nL line ++ [V.int (y : Int)]))
      refine ⟨_, rs.eraseIdx j, line ++ [y], rfl, b5.put hl5, by rw [e6]; exact same_upd s5 fl, by rw [e6, upd_ne hrl]; exact hr5, by rw [e6, upd_same, nL_app]; rfl, by rw [List.length_append, ll]; rfl, ?_, ?_⟩
      · have jl := (List.getElem?_eq_some_iff.mp hz).1
        rw [List.length_eraseIdx_of_lt jl, lr]; omega
      · refine List.Perm.trans ?_ perm
        have pe : (y :: rs.eraseIdx j).Perm rs := cons_erase hz
        refine List.Perm.trans ?_ (pe.append_right line)
        rw [← List.append_assoc]
        exact List.perm_append_singleton y _
    · rintro σ H3 ⟨v, rs, line, rfl, b3, s3, hr3, hl3, ll, lr, perm⟩
      have e : rs = [] := List.eq_nil_of_length_eq_zero (by omega)
      rw [e, List.nil_append] at perm
      exact ⟨_, rfl, q line ln H3 ⟨ll, perm.nodup_iff.mpr List.nodup_range, fun k hk => List.mem_range.mp (perm.mem_iff.mp hk)⟩ b3 s3 fl hl3⟩
/-! ### the wires -/
def DownI (line : List Nat) (lo hi : Nat) (ps : List (Nat × Nat)) : Prop := ∀ p ∈ ps, ∃ h l, h < l ∧ (l < lo ∨ (l = lo ∧ h < hi)) ∧ line[h]? = some p.1 ∧ line[l]? = some p.2
def Down (line : List Nat) (ps : List (Nat × Nat)) : Prop := ∀ p ∈ ps, ∃ h l : Nat, h < l ∧ line[h]? = some p.1 ∧ line[l]? = some p.2
def Tri : Nat → Nat
  | 0 => 0
  | k + 1 => Tri k + k
theorem tri16 : ∀ n, n ≤ 16 → Tri n < 121 := by decide
theorem nodup_at {l : List Nat} (nd : l.Nodup) {i j k : Nat} (h1 : l[i]? = some k) (h2 : l[j]? = some k) : i = j := by
  obtain ⟨a1, a2⟩ := List.getElem?_eq_some_iff.mp h1
  obtain ⟨b1, b2⟩ := List.getElem?_eq_some_iff.mp h2
  rcases Nat.lt_trichotomy i j with h | h | h
  · exact absurd (a2.trans b2.symm) (List.pairwise_iff_getElem.mp nd i j a1 b1 h)
  · exact h
  · exact absurd (b2.trans a2.symm) (List.pairwise_iff_getElem.mp nd j i b1 a1 h)
theorem Pairs.rev {H : Hp} {ts : List Addr} {ps : List (Nat × Nat)} (h : Pairs H ts ps) : Pairs H ts.reverse ps.reverse := by
  refine ⟨by rw [List.length_reverse, List.length_reverse, h.1], fun i t p ht hp => ?_⟩
  have l1 := (List.getElem?_eq_some_iff.mp ht).1
  rw [List.length_reverse] at l1
  rw [List.getElem?_reverse l1] at ht
  rw [List.getElem?_reverse (by rw [← h.1]; exact l1), ← h.1] at hp
  exact h.2 _ t p ht hp
/-- the wires drawn so far -/
structure WI (H0 G : Hp) (b wz : Addr) (line : List Nat) (lo hi : Nat) : Prop where
  bx : Bx G b
  sm : Same H0 (hid G b)
  ex : ∃ (ts : List Addr) (ps : List (Nat × Nat)), hid G b wz = some (.lst (ts.map V.ref)) ∧ Pairs (hid G b) ts ps ∧ DownI line lo hi ps ∧ ps.Nodup ∧ ps.length ≤ Tri lo + hi
namespace WI
variable {H0 G G' : Hp} {b wz : Addr} {line : List Nat} {lo hi : Nat}
theorem draw (W : WI H0 G b wz line lo hi) (bx : Bx G' b) (s : Same (hid G b) (hid G' b)) : WI H0 G' b wz line lo hi := by
  obtain ⟨ts, ps, h1, h2, h3⟩ := W.ex
  exact ⟨bx, W.sm.trans s, ts, ps, s _ _ h1, h2.same s, h3⟩
theorem upto (W : WI H0 G b wz line lo hi) {hj : Nat} (le : hi ≤ hj) : WI H0 G b wz line lo hj := by
  obtain ⟨ts, ps, h1, h2, h3, h4, h5⟩ := W.ex
  refine ⟨W.bx, W.sm, ts, ps, h1, h2, fun p hp => ?_, h4, by omega⟩
  obtain ⟨x, y, e1, e2, e3⟩ := h3 p hp
  exact ⟨x, y, e1, by omega, e3⟩
theorem row (W : WI H0 G b wz line lo hi) (le : hi ≤ lo) : WI H0 G b wz line (lo + 1) 0 := by
  obtain ⟨ts, ps, h1, h2, h3, h4, h5⟩ := W.ex
  refine ⟨W.bx, W.sm, ts, ps, h1, h2, fun p hp => ?_, h4, ?_⟩
  · obtain ⟨x, y, e1, e2, e3⟩ := h3 p hp
    exact ⟨x, y, e1, by omega, e3⟩
  · show ps.length ≤ Tri lo + lo + 0
    omega
/-- one more -/
theorem put (W : WI H0 G b wz line lo hi) (lnd : line.Nodup) (hw0 : H0 wz = none) {i1 k1 k2 : Nat} (le : hi ≤ i1) (lt : i1 < lo) (hk1 : line[i1]? = some k1) (hk2 : line[lo]? = some k2) {t : Addr} (nt : G t = none) {ts : List Addr} {ps : List (Nat × Nat)}
    (hw : hid G b wz = some (.lst (ts.map V.ref))) (hps : Pairs (hid G b) ts ps) (dn : DownI line lo hi ps) (nd : ps.Nodup) (len : ps.length ≤ Tri lo + hi) :
    WI H0 (L2.upd (L2.upd G t (.tup [.int (k1 : Int), .int (k2 : Int)])) wz (.lst (ts.map V.ref ++ [V.ref t]))) b wz line lo (i1 + 1) := by
  have b1 := W.bx.new nt (o := .tup [.int (k1 : Int), .int (k2 : Int)])
  have e1 := hid_new W.bx nt (o := .tup [.int (k1 : Int), .int (k2 : Int)])
  have ft : hid G b t = none := hid_none nt
  have nwt : wz ≠ t := ne_of_none hw ft
  have hw1 : hid (L2.upd G t (.tup [.int (k1 : Int), .int (k2 : Int)])) b wz = some (.lst (ts.map V.ref)) := by rw [e1, upd_ne nwt]; exact hw
  have e2 := hid_put hw1 (o := .lst (ts.map V.ref ++ [V.ref t]))
  refine ⟨b1.put hw1, ?_, ts ++ [t], ps ++ [(k1, k2)], by rw [e2, upd_same, List.map_append]; rfl, ?_, fun r hr => ?_, ?_, by rw [List.length_append, List.length_singleton]; omega⟩
  · rw [e2, e1]
    exact same_upd (W.sm.trans (same_new ft)) hw0
  · rw [e2, e1]
    refine ⟨by rw [List.length_append, List.length_append, hps.1]; rfl, fun i c r hc hr => ?_⟩
    rcases Nat.lt_or_ge i ts.length with lt | ge
    · rw [List.getElem?_append_left lt] at hc
      rw [List.getElem?_append_left (by rw [← hps.1]; exact lt)] at hr
      have z := hps.2 i c r hc hr
      rw [upd_ne (ne_of z hw (by intro z; cases z)), upd_ne (ne_of_none z ft)]
      exact z
    · rw [List.getElem?_append_right ge] at hc
      rw [List.getElem?_append_right (by rw [← hps.1]; exact ge)] at hr
      have j0 : i - ts.length = 0 := by
        rcases Nat.eq_zero_or_pos (i - ts.length) with z | z
        · exact z
        · rw [List.getElem?_eq_none (by rw [List.length_singleton]; exact z)] at hc; cases hc
      rw [j0] at hc
      rw [← hps.1, j0] at hr
      cases hc
      cases hr
      rw [upd_ne nwt.symm, upd_same]
  · rcases List.mem_append.mp hr with hr | hr
    · obtain ⟨x, y, h1, h2, h3⟩ := dn r hr
      exact ⟨x, y, h1, by omega, h3⟩
    · rw [List.mem_singleton.mp hr]
      exact ⟨i1, lo, lt, .inr ⟨rfl, Nat.lt_succ_self _⟩, hk1, hk2⟩
  · rw [List.nodup_append]
    refine ⟨nd, by simp, fun r hr r2 hr2 e => ?_⟩
    rw [List.mem_singleton.mp hr2] at e
    obtain ⟨x, y, h1, h2, h3, h4⟩ := dn r hr
    rw [e] at h3 h4
    have e1 := nodup_at lnd h3 hk1
    have e2 := nodup_at lnd h4 hk2
    omega
end WI
abbrev s__law_wires : Stmt := top 43
theorem sc__law_wires : FnScope ["box", "line", "style", "wires", "k", "place", "j"] ["box", "line"] (defScope s__law_wires) := ⟨rfl, rfl, rfl, by decide +kernel, rfl, by decide +kernel, by decide +kernel⟩
-- slots of _law_wires: 0 box, 1 line, 2 style, 3 wires, 4 k, 5 place, 6 j
def spWires : Sp := fun vs H Q _ => ∃ (b a : Addr) (n : Nat) (line : List Nat), vs = [.ref b, .ref a] ∧ 1 ≤ n ∧ n ≤ 16 ∧ LineOk n line ∧ Bx H b ∧ hid H b a = some (.lst (nL line)) ∧
  ∀ (ts : List Addr) (ps : List (Nat × Nat)) (t : Addr) (H' : Hp), Down line ps → ps.Nodup → ps.length < 121 → Bx H' b → Same (hid H b) (hid H' b) → hid H' b t = some (.lst (ts.map V.ref)) → Pairs (hid H' b) ts ps → Q (.ref t) H'
theorem ok__law_wires (T : Txt K mg C) {f : Addr} {fd : FuncData} (F : Fun K "_law_wires" "_law_wires" s__law_wires f fd) (c__law_take : Cal P w K mg base "_law_take" 1 spTake) : FnOk P w K mg base CX0 2 f fd ["box", "line"] spWires := by
  refine F.ok sc__law_wires (fun vs H Q E h => ?_) (fun cdv A outer s H vs Q E hr h => ?_)
  · obtain ⟨b, a, n, line, rfl, _⟩ := h; rfl
  · obtain ⟨b, a, n, line, rfl, n1, n16, ⟨ll, lnd, llt⟩, bx, ha, q⟩ := h
    refine ⟨_, (pss_cons (ps_set (i := 2) sc__law_wires.nd rfl (by first | exact Or.inl rfl | exact Or.inr rfl) (pe_cal c__law_take (hr.mono (by decide)) (pa_cons (pv 0) (pa_cons pe_int pa_nil))))
      (pss_cons (ps_set (i := 3) sc__law_wires.nd rfl (by first | exact Or.inl rfl | exact Or.inr rfl) (pe_lst pa_nil))
      (pss_cons (ps_for PassesOwn.never rfl (pi_range2 (by rfl) T.range (pa_cons pe_int (pa_cons (pe_callB (lenS_ K) (by rfl) T.len b_len (pa_cons (pv 1) pa_nil)) pa_nil))) (pg_name (i := 4) sc__law_wires.nd rfl (by first | exact Or.inl rfl | exact Or.inr rfl))
      (pss_one (ps_if (pt_cmpR op_eq (pv 2) pe_int (nomark _))
      (pss_one (ps_expr (pe_bm PySem.F.plainAttrs_list PySem.F.slot_list_append PySem.F.type_list_append mt_append (pv 3) (pa_cons (pe_tup (pa_cons (pe_ix (ixL_ K) (pv 1) (pe_op op_sub (pv 4) pe_int) (fun _ _ => rfl)) (pa_cons (pe_ix (ixL_ K) (pv 1) (pv 4) (fun _ _ => rfl)) pa_nil))) pa_nil)))) (pss_one (ps_if (pt_cmpR op_eq (pv 2) pe_int (nomark _))
      (pss_cons (ps_set (i := 5) sc__law_wires.nd rfl (by first | exact Or.inl rfl | exact Or.inr rfl) (pe_cal c__law_take (hr.mono (by decide)) (pa_cons (pv 0) (pa_cons (pe_op op_add (pv 4) pe_int) pa_nil))))
      (pss_one (ps_if (pt_cmpR op_lt (pv 5) (pv 4) (nomark _))
      (pss_one (ps_expr (pe_bm PySem.F.plainAttrs_list PySem.F.slot_list_append PySem.F.type_list_append mt_append (pv 3) (pa_cons (pe_tup (pa_cons (pe_ix (ixL_ K) (pv 1) (pv 5) (fun _ _ => rfl)) (pa_cons (pe_ix (ixL_ K) (pv 1) (pv 4) (fun _ _ => rfl)) pa_nil))) pa_nil)))) pss_nil))) (pss_one (ps_for PassesOwn.never rfl (pi_range1 (by rfl) T.range (pa_cons (pv 4) pa_nil)) (pg_name (i := 6) sc__law_wires.nd rfl (by first | exact Or.inl rfl | exact Or.inr rfl))
      (pss_one (ps_if (pt_cmpR op_lt (pe_cal c__law_take (hr.mono (by decide)) (pa_cons (pv 0) (pa_cons pe_int pa_nil))) (pv 2) (nomark _))
      (pss_one (ps_expr (pe_bm PySem.F.plainAttrs_list PySem.F.slot_list_append PySem.F.type_list_append mt_append (pv 3) (pa_cons (pe_tup (pa_cons (pe_ix (ixL_ K) (pv 1) (pv 6) (fun _ _ => rfl)) (pa_cons (pe_ix (ixL_ K) (pv 1) (pv 4) (fun _ _ => rfl)) pa_nil))) pa_nil)))) pss_nil)))))))))
      (pss_cons (ps_if (pt_cmpR op_eq (pe_cal c__law_take (hr.mono (by decide)) (pa_cons (pv 0) (pa_cons pe_int pa_nil))) pe_int (nomark _))
      (pss_one (ps_ret (revL_ K (pv 3)))) pss_nil)
      (pss_one (ps_ret (pv 3))))))), ?_⟩
    refine ⟨_, rfl, b, 7, rfl, by decide, by decide, bx, fun sh H1 hsh b1 s1 => ?_⟩
    refine ⟨by decide, fun wz nw => ?_⟩
    have b2 := b1.new nw (o := .lst [])
    have e2 := hid_new b1 nw (o := .lst [])
    have fw1 : hid H1 b wz = none := hid_none nw
    have fw : hid H b wz = none := s1.free fw1
    have inv2 : WI (hid H b) (L2.upd H1 wz (.lst [])) b wz line 1 0 := ⟨b2, by rw [e2]; exact s1.trans (same_new fw1), [], [], by rw [e2]; exact upd_same, ⟨rfl, fun i t q h => by simp at h⟩, fun q hq => absurd hq List.not_mem_nil, List.nodup_nil, Nat.zero_le _⟩
    generalize L2.upd H1 wz (.lst []) = H2 at inv2 ⊢
    have ln : (nL line).length = n := by rw [nL_len, ll]
    have ha2 := (hid_some (inv2.sm _ _ ha)).1
    refine ⟨_, rfl, a, _, rfl, .inl (SqL.of ha2), _, _, rfl, ⟨by decide, by decide, by omega, by omega⟩, ?_⟩
    rw [ln, show ((n : Int) - 1).toNat = n - 1 by omega]
    refine for_range (lo := 1) (n := n - 1) (fun i σ G => ∃ v4 v5 v6 : Option V, σ = [some (.ref b), some (.ref a), some (.int sh), some (.ref wz), v4, v5, v6] ∧ WI (hid H b) G b wz line (1 + i) 0) ⟨_, _, _, rfl, inv2⟩ ?_ ?_
    · rintro i σ G hi ⟨v4, v5, v6, rfl, W⟩
      have e0 : (1 : Int) + (i : Int) = ((i + 1 : Nat) : Int) := by omega
      rw [e0]
      rw [Nat.add_comm 1 i] at W
      have next : ∀ {G : Hp} {hi : Nat} {v4 v5 v6 : Option V}, hi ≤ i + 1 → WI (hid H b) G b wz line (i + 1) hi → ∃ w4 w5 w6 : Option V, ([some (.ref b), some (.ref a), some (.int sh), some (.ref wz), v4, v5, v6] : L2.St) = [some (.ref b), some (.ref a), some (.int sh), some (.ref wz), w4, w5, w6] ∧ WI (hid H b) G b wz line (1 + (i + 1)) 0 := fun le W => ⟨_, _, _, rfl, by rw [Nat.add_comm 1 (i + 1)]; exact W.row le⟩
      obtain ⟨k2, hk2⟩ : ∃ k, line[i + 1]? = some k := ⟨_, List.getElem?_eq_getElem (by omega)⟩
      have at_ : ∀ {G : Hp} {lo hi : Nat}, WI (hid H b) G b wz line lo hi → G a = some (.lst (nL line)) := fun W => (hid_some (W.sm _ _ ha)).1
      have few : ∀ {ts : List Addr} {ps : List (Nat × Nat)} {hi : Nat}, ts.length = ps.length → ps.length ≤ Tri (i + 1) + hi → hi ≤ i + 1 → (ts.map V.ref).length < sizeLine := fun e l le => by
        have := tri16 (i + 1) (by omega)
        rw [List.length_map, e, sizeLine_eq]; omega
      refine ⟨_, rfl, rfl, _, rfl, ite2 (fun _ => ?_) fun _ => ?_⟩
      · obtain ⟨k1, hk1⟩ : ∃ k, line[i]? = some k := ⟨_, List.getElem?_eq_getElem (by omega)⟩
        obtain ⟨ts, ps, hw, hps, dn, nd, len⟩ := W.ex
        refine ⟨_, rfl, .inl ⟨rfl, _, SqL.of (hid_some hw).1⟩, _, rfl, _, rfl, _, _, rfl, rfl, a, _, _, V.int (k1 : Nat), rfl, rfl, SqL.of (at_ W), (by rw [show (((i + 1 : Nat) : Int) - 1) = (i : Int) by omega]; exact atI_nat (nL_get hk1)), _, rfl, _, rfl, a, _, _, _, rfl, rfl, SqL.of (at_ W), atI_nat (nL_get hk2), by show 2 ≤ sizeLine; decide, fun t nt => ?_⟩
        exact ⟨wz, _, _, rfl, rfl, same_new nt _ _ (hid_some hw).1, few hps.1 len (Nat.zero_le _), next (Nat.le_refl _) (W.put lnd fw (Nat.zero_le i) (Nat.lt_succ_self i) hk1 hk2 nt hw hps dn nd len)⟩
      refine ⟨_, rfl, rfl, _, rfl, ite2 (fun _ => ?_) fun _ => ?_⟩
      · refine ⟨_, rfl, _, rfl, _, _, rfl, rfl, b, i + 2, rfl, by omega, by omega, W.bx, fun d G2 hd b2 s2 => ?_⟩
        have W2 := W.draw b2 s2
        refine ⟨_, rfl, _, rfl, _, _, rfl, rfl, _, rfl, ite2 (fun hlt => ?_) fun _ => next (Nat.zero_le _) W2⟩
        have dl : d < i + 1 := by have := of_decide_eq_true hlt; omega
        obtain ⟨k1, hk1⟩ : ∃ k, line[d]? = some k := ⟨_, List.getElem?_eq_getElem (by omega)⟩
        obtain ⟨ts, ps, hw, hps, dn, nd, len⟩ := W2.ex
        refine ⟨_, rfl, .inl ⟨rfl, _, SqL.of (hid_some hw).1⟩, _, rfl, _, rfl, a, _, _, _, rfl, rfl, SqL.of (at_ W2), atI_nat (nL_get hk1), _, rfl, _, rfl, a, _, _, _, rfl, rfl, SqL.of (at_ W2), atI_nat (nL_get hk2), by show 2 ≤ sizeLine; decide, fun t nt => ?_⟩
        exact ⟨wz, _, _, rfl, rfl, same_new nt _ _ (hid_some hw).1, few hps.1 len (Nat.zero_le _), next (by omega) (W2.put lnd fw (Nat.zero_le d) dl hk1 hk2 nt hw hps dn nd len)⟩
      · refine ⟨_, rfl, _, rfl, by omega, by omega, ?_⟩
        rw [Int.toNat_natCast]
        refine for_range (fun j σ G => ∃ v6 : Option V, σ = [some (.ref b), some (.ref a), some (.int sh), some (.ref wz), some (.int ((i + 1 : Nat) : Int)), v5, v6] ∧ WI (hid H b) G b wz line (i + 1) j) ⟨_, rfl, W⟩ ?_ ?_
        · rintro j σ G hj ⟨v6, rfl, W⟩
          have e0 : (0 : Int) + (j : Int) = (j : Int) := by omega
          rw [e0]
          refine ⟨_, rfl, b, 4, rfl, by decide, by decide, W.bx, fun d G2 hd b2 s2 => ?_⟩
          have W2 := W.draw b2 s2
          refine ⟨_, rfl, _, _, rfl, rfl, _, rfl, ite2 (fun _ => ?_) fun _ => ⟨_, rfl, W2.upto (Nat.le_succ j)⟩⟩
          obtain ⟨k1, hk1⟩ : ∃ k, line[j]? = some k := ⟨_, List.getElem?_eq_getElem (by omega)⟩
          obtain ⟨ts, ps, hw, hps, dn, nd, len⟩ := W2.ex
          refine ⟨_, rfl, .inl ⟨rfl, _, SqL.of (hid_some hw).1⟩, _, rfl, _, rfl, a, _, _, _, rfl, rfl, SqL.of (at_ W2), atI_nat (nL_get hk1), _, rfl, _, rfl, a, _, _, _, rfl, rfl, SqL.of (at_ W2), atI_nat (nL_get hk2), by show 2 ≤ sizeLine; decide, fun t nt => ?_⟩
          exact ⟨wz, _, _, rfl, rfl, same_new nt _ _ (hid_some hw).1, few hps.1 len (by omega), _, rfl, W2.put lnd fw (Nat.le_refl j) hj hk1 hk2 nt hw hps dn nd len⟩
        · rintro σ G ⟨v6, rfl, W⟩
          exact next (Nat.le_refl _) W
    · rintro σ G ⟨v4, v5, v6, rfl, W⟩
      have en : 1 + (n - 1) = n := by omega
      rw [en] at W
      refine ⟨_, rfl, b, 2, rfl, by decide, by decide, W.bx, fun d G2 hd b2 s2 => ⟨rfl, _, rfl, ?_⟩⟩
      have W2 := W.draw b2 s2
      obtain ⟨ts, ps, hw, hps, dn, nd, len⟩ := W2.ex
      have tri := tri16 n n16
      have dn2 : Down line ps := fun r hr => by
        obtain ⟨x, y, h1, _, h2⟩ := dn r hr
        exact ⟨x, y, h1, h2⟩
      refine ite2 (fun _ => ?_) (fun _ => ⟨_, rfl, q ts ps wz G2 dn2 nd (by omega) b2 W2.sm hw hps⟩)
      refine ⟨_, rfl, wz, _, rfl, SqL.of (hid_some hw).1, fun t nt => ?_⟩
      have e3 := hid_new b2 nt (o := .lst (ts.map V.ref).reverse)
      have s3 : Same (hid G2 b) (hid (L2.upd G2 t (.lst (ts.map V.ref).reverse)) b) := by rw [e3]; exact same_new (hid_none nt)
      exact q ts.reverse ps.reverse t _ (fun r hr => dn2 r (List.mem_reverse.mp hr)) ((List.reverse_perm ps).nodup_iff.mpr nd) (by rw [List.length_reverse]; omega) (b2.new nt) (W2.sm.trans s3) (by rw [e3, upd_same, List.map_reverse]) ((hps.rev).same s3)
end
end Hue

end
section
set_option maxRecDepth 100000
set_option maxHeartbeats 4000000
namespace L2
open PySem PySem.Spec PyProof.Rows
theorem hu_inD {X : Cx} (K : PySem.W.Frag) (hu : X.A.units + 65 < cLine) (hK : X.K = K := by rfl) : OpR X (compareOp .In) (rInD K) := by subst hK; exact op_inD hu
theorem Room.units65 {k : Nat} {A : Around} (r : Room k A) : A.units + 65 < cLine := by have := r.un; omega
end L2
namespace Hue
open PySem PySem.Spec PyProof.Rows L2
section
variable {P : Program} {w : World} {K : PySem.W.Frag} {mg : Str → Option Value} {base : Heap} {C : Addr}
theorem any_eqv {SS : List (List Int)} {D : List Int} : ((SS.map stD).any fun z => PyData.eqv z (stD D)) = decide (D ∈ SS) := by
  induction SS with
  | nil => rfl
  | cons S SS ih =>
    rw [List.map_cons, List.any_cons, ih, st_eqv]
    by_cases e : S = D
    · subst e; simp
    · have e2 : ¬ D = S := fun z => e z.symm
      simp [e, e2]
theorem sts_lay : ∀ SS : List (List Int), PyData.canLayAll0 (SS.map stD) = true
  | [] => by simp [PyData.canLayAll0]
  | S :: SS => by
    have z : PyData.canLay0 (stD S) = true := SeqAt.canLay_of_shaped (st_shaped S)
    simp [PyData.canLayAll0, z, sts_lay SS]
theorem stD_deep (S : List Int) : PyData.depth (stD S) ≤ 2 := by
  have := ints_deep S
  show PyData.depthAll (S.map .int) + 1 ≤ 2
  omega
theorem sts_deep : ∀ SS : List (List Int), PyData.depthAll (SS.map stD) ≤ 2
  | [] => by simp [PyData.depthAll]
  | S :: SS => by
    have := sts_deep SS
    have := stD_deep S
    simp only [List.map_cons, PyData.depthAll]
    omega
theorem sts_shaped (SS : List (List Int)) : SeqAt.shaped (.list (SS.map stD)) = true := by
  have h1 := sts_deep SS
  have h2 : PyData.depth (.list (SS.map stD)) ≤ 64 := by
    simp only [PyData.depth]
    omega
  show (PyData.canLay0 (.list (SS.map stD)) && decide (PyData.depth (.list (SS.map stD)) ≤ 64)) = true
  rw [decide_eq_true h2, Bool.and_true]
  simp only [PyData.canLay0]
  exact sts_lay SS
def pairI (p : Nat × Nat) : List Int := [(p.1 : Int), (p.2 : Int)]
theorem pairI_inj {p q : Nat × Nat} (h : pairI p = pairI q) : p = q := by
  obtain ⟨a, b⟩ := p
  obtain ⟨c, d⟩ := q
  injection h with h1 h2
  injection h2 with h2 _
  have h1 : (a : Int) = (c : Int) := h1
  have h2 : (b : Int) = (d : Int) := h2
  rw [Prod.mk.injEq]
  omega
theorem mem_pairI {p : Nat × Nat} {ps : List (Nat × Nat)} : pairI p ∈ ps.map pairI ↔ p ∈ ps := by
  rw [List.mem_map]
  exact ⟨fun ⟨q, hq, e⟩ => by rw [← pairI_inj e]; exact hq, fun h => ⟨p, h, rfl⟩⟩
/-! ### tables of bools -/
def bF (n : Nat) (g : Nat → Bool) : List V := (List.range n).map fun j => V.bl (g j)
theorem bF_len (n : Nat) (g : Nat → Bool) : (bF n g).length = n := by unfold bF; rw [List.length_map, List.length_range]
theorem bF_get {n : Nat} {g : Nat → Bool} {j : Nat} (h : j < n) : (bF n g)[j]? = some (V.bl (g j)) := by unfold bF; rw [List.getElem?_map, List.getElem?_range h]; rfl
theorem bF_congr {n : Nat} {f g : Nat → Bool} (h : ∀ j, j < n → f j = g j) : bF n f = bF n g := by
  unfold bF
  rw [List.map_congr_left fun j hj => by rw [h j (List.mem_range.mp hj)]]
/-- the table at D, its rows at as -/
def TbA (H : Hp) (D : Addr) (as : List Addr) (n : Nat) (U : Nat → Nat → Bool) : Prop := H D = some (.lst (as.map V.ref)) ∧ ∀ i a, as[i]? = some a → H a = some (.lst (bF n (U i)))
theorem TbA.same {H H' : Hp} {D : Addr} {as : List Addr} {n : Nat} {U : Nat → Nat → Bool} (t : TbA H D as n U) (s : Same H H') : TbA H' D as n U := ⟨s _ _ t.1, fun i a h => s _ _ (t.2 i a h)⟩
theorem TbA.congr {H : Hp} {D : Addr} {as : List Addr} {n : Nat} {U W : Nat → Nat → Bool} (t : TbA H D as n U) (l : as.length = n) (h : ∀ i j, i < n → j < n → U i j = W i j) : TbA H D as n W :=
  ⟨t.1, fun i a e => by rw [t.2 i a e, bF_congr fun j hj => h i j (by rw [← l]; exact (List.getElem?_eq_some_iff.mp e).1) hj]⟩
/-! ### what lies under what, by all middle lamps in turn -/
def stepW (U : Nat → Nat → Bool) (m : Nat) : Nat → Nat → Bool := fun i j => U i j || (U i m && U m j)
def closW (ps : List (Nat × Nat)) : Nat → Nat → Nat → Bool
  | 0 => fun i j => decide ((i, j) ∈ ps)
  | m + 1 => stepW (closW ps m) m
theorem stepW_iff {U : Nat → Nat → Bool} {m i j : Nat} : stepW U m i j = true ↔ U i j = true ∨ (U i m = true ∧ U m j = true) := by
  unfold stepW
  rw [Bool.or_eq_true, Bool.and_eq_true]
theorem closW_sub {ps : List (Nat × Nat)} : ∀ (m i j : Nat), closW ps m i j = true → relOf ps i j = true
  | 0, i, j, h => fold_wire ps _ (i, j) (of_decide_eq_true h)
  | m + 1, i, j, h => by
    rcases stepW_iff.mp h with h | ⟨h1, h2⟩
    · exact closW_sub m i j h
    · exact relOf_trans ps i m j (closW_sub m i m h1) (closW_sub m m j h2)
theorem closW_wire {ps : List (Nat × Nat)} {p : Nat × Nat} (h : p ∈ ps) : ∀ m, closW ps m p.1 p.2 = true
  | 0 => decide_eq_true h
  | m + 1 => stepW_iff.mpr (.inl (closW_wire h m))
theorem closW_tr {ps : List (Nat × Nat)} : ∀ (m i k j : Nat), k < m → closW ps m i k = true → closW ps m k j = true → closW ps m i j = true
  | m + 1, i, k, j, hk, h1, h2 => by
    rcases Nat.lt_or_ge k m with lt | ge
    · rcases stepW_iff.mp h1 with a | ⟨a, b⟩ <;> rcases stepW_iff.mp h2 with c | ⟨c, d⟩
      · exact stepW_iff.mpr (.inl (closW_tr m i k j lt a c))
      · exact stepW_iff.mpr (.inr ⟨closW_tr m i k m lt a c, d⟩)
      · exact stepW_iff.mpr (.inr ⟨a, closW_tr m m k j lt b c⟩)
      · exact stepW_iff.mpr (.inr ⟨a, d⟩)
    · obtain rfl : k = m := by omega
      have a : closW ps k i k = true := (stepW_iff.mp h1).elim id fun z => z.1
      have c : closW ps k k j = true := (stepW_iff.mp h2).elim id fun z => z.2
      exact stepW_iff.mpr (.inr ⟨a, c⟩)
theorem fold_sub {R : Rel} (tr : Trans R) : ∀ (ps : List (Nat × Nat)) (S : Rel), (∀ i j, S i j = true → R i j = true) → (∀ p ∈ ps, R p.1 p.2 = true) → ∀ i j, ps.foldl (fun R p => addW R p.1 p.2) S i j = true → R i j = true
  | [], S, h, _, i, j, z => h i j z
  | p :: ps, S, h, g, i, j, z => by
    refine fold_sub tr ps (addW S p.1 p.2) (fun i j y => ?_) (fun q hq => g q (List.mem_cons_of_mem _ hq)) i j z
    have r := g p List.mem_cons_self
    rcases addW_iff.mp y with y | ⟨y1, y2⟩
    · exact h i j y
    · have r1 : R i p.2 = true := by
        rcases y1 with e | e
        · rw [e]; exact r
        · exact tr _ _ _ (h _ _ e) r
      rcases y2 with e | e
      · rw [e]; exact r1
      · exact tr _ _ _ r1 (h _ _ e)
theorem closW_all {n : Nat} {ps : List (Nat × Nat)} (lt : ∀ p ∈ ps, p.1 < n ∧ p.2 < n) : closW ps n = relOf ps := by
  funext i j
  rw [Bool.eq_iff_iff]
  refine ⟨closW_sub n i j, fun h => fold_sub (R := closW ps n) (fun i k j h1 h2 => ?_) ps (fun _ _ => false) (fun i j z => by cases z) (fun p hp => closW_wire hp n) i j h⟩
  obtain ⟨u, hu, _⟩ := rel_last.mp (closW_sub n i k h1)
  exact closW_tr n i k j (lt _ hu).2 h1 h2
/-- in the middle of a turn -/
def midW (U : Nat → Nat → Bool) (m v : Nat) : Nat → Nat → Bool := fun i j => if i < v then stepW U m i j else U i j
theorem midW_row {U : Nat → Nat → Bool} {m v k : Nat} (h : U m m = false) : midW U m v m k = U m k := by
  unfold midW stepW
  rw [h, Bool.false_and, Bool.or_false, ite_self]

theorem pairs_dp {H : Hp} : ∀ {ts : List Addr} {ps : List (Nat × Nat)}, Pairs H ts ps → DpAll K H (ts.map V.ref) ((ps.map pairI).map stD)
  | [], [], _ => .nil
  | [], _ :: _, h => by have := h.1; simp at this
  | _ :: _, [], h => by have := h.1; simp at this
  | t :: ts, p :: ps, h => .cons (st_dp (S := pairI p) (h.2 0 t p rfl rfl)) (pairs_dp ⟨by have := h.1; simpa using this, fun i c r e f => h.2 (i + 1) c r e f⟩)
abbrev s__law_low : Stmt := top 44
theorem sc__law_low : FnScope ["many", "wires", "low", "w", "v", "u"] ["many", "wires"] (defScope s__law_low) := ⟨rfl, rfl, rfl, by decide +kernel, rfl, by decide +kernel, by decide +kernel⟩
-- slots of _law_low: 0 many, 1 wires, 2 low, 3 w, 4 v, 5 u
def Tb (H : Hp) (D : Addr) (n : Nat) (U : Nat → Nat → Bool) : Prop := ∃ as : List Addr, as.length = n ∧ TbA H D as n U
theorem Tb.same {H H' : Hp} {D : Addr} {n : Nat} {U : Nat → Nat → Bool} (t : Tb H D n U) (s : Same H H') : Tb H' D n U := let ⟨as, l, t⟩ := t; ⟨as, l, t.same s⟩
def spLow : Sp := fun vs H Q _ => ∃ (a : Addr) (n : Nat) (ts : List Addr) (ps : List (Nat × Nat)), vs = [.int n, .ref a] ∧ n ≤ 16 ∧ H a = some (.lst (ts.map V.ref)) ∧ Pairs H ts ps ∧ (∀ p ∈ ps, p.1 < n ∧ p.2 < n) ∧ Ranked (relOf ps) ∧
  ∀ (t : Addr) (H' : Hp), Same H H' → H t = none → Tb H' t n (relOf ps) → Q (.ref t) H'
theorem ok__law_low (T : Txt K mg C) {f : Addr} {fd : FuncData} (F : Fun K "_law_low" "_law_low" s__law_low f fd) : FnOk P w K mg base CX0 1 f fd ["many", "wires"] spLow := by
  refine F.ok sc__law_low (fun vs H Q E h => ?_) (fun cdv A outer s H vs Q E hr h => ?_)
  · obtain ⟨a, n, ts, ps, rfl, _⟩ := h; rfl
  · obtain ⟨a, n, ts, ps, rfl, n16, ha, hps, lt, hR, q⟩ := h
    have irr : ∀ u, relOf ps u u = false := by
      obtain ⟨ρ, hρ⟩ := hR
      intro u
      cases z : relOf ps u u with
      | false => rfl
      | true => exact absurd (hρ u u z) (Nat.lt_irrefl _)
    refine ⟨_, (pss_cons (ps_set (i := 2) sc__law_low.nd rfl (by first | exact Or.inl rfl | exact Or.inr rfl) (pe_lc (own := [("v", 4)]) (g := gName 4) (tt := tYes) rfl sc__law_low.nd (pi_range1 (by rfl) T.range (pa_cons (pv 0) pa_nil)) (blkOk_by (by kernel_rfl)) (fun _ _ _ _ _ => (pg_name (i := 4) sc__law_low.nd rfl (by first | exact Or.inl rfl | exact Or.inr rfl))) (fun _ _ _ _ _ => pts_nil) (fun _ _ _ _ _ => (pe_lc (own := [("w", 3)]) (g := gName 3) (tt := tYes) rfl sc__law_low.nd (pi_range1 (by rfl) T.range (pa_cons (pv 0) pa_nil)) (blkOk_by (by kernel_rfl)) (fun _ _ _ _ _ => (pg_name (i := 3) sc__law_low.nd rfl (by first | exact Or.inl rfl | exact Or.inr rfl))) (fun _ _ _ _ _ => pts_nil) (fun _ _ _ _ _ => (pe_cmpR (hu_inD K hr.units65) (pe_tup (pa_cons (pv 4) (pa_cons (pv 3) pa_nil))) (pv 1) (by rfl)))))))
      (pss_cons (ps_for PassesOwn.never rfl (pi_range1 (by rfl) T.range (pa_cons (pv 0) pa_nil)) (pg_name (i := 5) sc__law_low.nd rfl (by first | exact Or.inl rfl | exact Or.inr rfl))
      (pss_one (ps_for PassesOwn.never rfl (pi_range1 (by rfl) T.range (pa_cons (pv 0) pa_nil)) (pg_name (i := 4) sc__law_low.nd rfl (by first | exact Or.inl rfl | exact Or.inr rfl))
      (pss_one (ps_if (pt_val (pe_ix (ixL_ K) (pe_ix (ixL_ K) (pv 2) (pv 4) (fun _ _ => rfl)) (pv 5) (fun _ _ => rfl)))
      (pss_one (ps_asg (pe_lc (own := [("w", 3)]) (g := gName 3) (tt := tYes) rfl sc__law_low.nd (pi_range1 (by rfl) T.range (pa_cons (pv 0) pa_nil)) (blkOk_by (by kernel_rfl)) (fun _ _ _ _ _ => (pg_name (i := 3) sc__law_low.nd rfl (by first | exact Or.inl rfl | exact Or.inr rfl))) (fun _ _ _ _ _ => pts_nil) (fun _ _ _ _ _ => (pe_or (pe_ix (ixL_ K) (pe_ix (ixL_ K) (pv 2) (pv 4) (fun _ _ => rfl)) (pv 3) (fun _ _ => rfl)) (pe_one (pe_ix (ixL_ K) (pe_ix (ixL_ K) (pv 2) (pv 5) (fun _ _ => rfl)) (pv 3) (fun _ _ => rfl)))))) (pg_sub (pv 2) (pv 4) set_list))) pss_nil)))))
      (pss_one (ps_ret (pv 2))))), ?_⟩
    refine ⟨_, rfl, _, rfl, by omega, by omega, fun D hD => ?_⟩
    rw [Int.toNat_natCast]
    refine lc_range (fun i G => Coll H D (fun v => bF n fun w => decide ((v, w) ∈ ps)) i G) (Coll.start hD) ?_ ?_
    · rintro i G hi c
      have e0 : (0 : Int) + (i : Int) = (i : Int) := by omega
      rw [e0]
      have sG := c.same
      have gD : G D ≠ none := by obtain ⟨as, h1, _⟩ := c; rw [h1]; exact fun z => by cases z
      refine ⟨rfl, yesT ⟨_, rfl, _, rfl, by omega, by omega, fun D2 hD2 => ?_⟩⟩
      rw [Int.toNat_natCast]
      refine lc_range (fun j G2 => G2 D2 = some (.lst ((List.range j).map fun w => V.bl (decide ((i, w) ∈ ps)))) ∧ Same G G2) ⟨upd_same, same_new hD2⟩ ?_ ?_
      · rintro j G2 hj ⟨h2, s2⟩
        have e0 : (0 : Int) + (j : Int) = (j : Int) := by omega
        rw [e0]
        refine ⟨rfl, yesT ⟨_, rfl, _, rfl, by show 2 ≤ sizeLine; decide, fun t nt => ?_⟩⟩
        have t1 : Same G2 (L2.upd G2 t (.tup [.int (i : Int), .int (j : Int)])) := same_new nt
        have ht : (L2.upd G2 t (.tup [.int (i : Int), .int (j : Int)])) t = some (.tup (stV (pairI (i, j)))) := upd_same
        generalize L2.upd G2 t (.tup [.int (i : Int), .int (j : Int)]) = G3 at t1 ht ⊢
        have s3 := sG.trans (s2.trans t1)
        refine ⟨_, rfl, _, _, st_dp (S := pairI (i, j)) ht, .lst (SqL.of (s3 _ _ ha)) (pairs_dp (hps.same s3)), st_shaped _, sts_shaped _, ?_⟩
        rw [any_eqv]
        have em : decide (pairI (i, j) ∈ ps.map pairI) = decide ((i, j) ∈ ps) := decide_eq_decide.mpr mem_pairI
        rw [em]
        refine ⟨_, t1 _ _ h2, by rw [List.length_map, List.length_range, sizeLine_eq]; omega, ?_, same_upd (s2.trans t1) hD2⟩
        rw [upd_same, List.range_succ, List.map_append]
        rfl
      · rintro G2 ⟨h2, s2⟩
        exact c.more hD s2 (fun z => gD (by rw [← z]; exact hD2)) h2 (by omega)
    · rintro G c
      have sG := c.same
      obtain ⟨as, h1, l1, _, h3⟩ := c
      refine ⟨_, rfl, _, rfl, by omega, by omega, ?_⟩
      rw [Int.toNat_natCast]
      have D0 : H D = none := hD
      -- a row is not the table
      have rowD : ∀ {G : Hp} {as : List Addr} {g : Nat → Bool} {c : Addr}, 1 ≤ n → as.length = n → G D = some (.lst (as.map V.ref)) → G c = some (.lst (bF n g)) → c ≠ D := fun {G as g c} n1 la e1 e2 z => by
        rw [z, e1] at e2
        injection e2 with e2
        injection e2 with e2
        have z1 : (as.map V.ref)[0]? = (bF n g)[0]? := by rw [e2]
        rw [bF_get (by omega), List.getElem?_map, List.getElem?_eq_getElem (by omega)] at z1
        injection z1 with z1
        cases z1
      have at_ : ∀ {as : List Addr} {i : Nat}, as.length = n → i < n → ∃ c, as[i]? = some c ∧ (as.map V.ref)[i]? = some (V.ref c) := fun {as i} la hi => by
        have l : i < as.length := by rw [la]; exact hi
        exact ⟨as[i], List.getElem?_eq_getElem l, by rw [List.getElem?_map, List.getElem?_eq_getElem l]; rfl⟩
      refine for_range (fun m σ G => ∃ (v4 v5 : Option V) (as : List Addr), σ = [some (.int n), some (.ref a), some (.ref D), none, v4, v5] ∧ Same H G ∧ as.length = n ∧ TbA G D as n (closW ps m)) ⟨_, _, as, rfl, sG, l1, h1, fun i c hc => (h3 i c hc).2⟩ ?_ ?_
      · rintro m σ G4 hm ⟨v4, v5, as, rfl, s4, la, t4⟩
        have e0 : (0 : Int) + (m : Int) = (m : Int) := by omega
        rw [e0]
        have mm : closW ps m m m = false := by
          cases z : closW ps m m m with
          | false => rfl
          | true => have := closW_sub m m m z; rw [irr] at this; cases this
        generalize hU : closW ps m = U at t4 mm
        refine ⟨_, rfl, _, rfl, by omega, by omega, ?_⟩
        rw [Int.toNat_natCast]
        refine for_range (fun v σ G => ∃ (v4 : Option V) (as : List Addr), σ = [some (.int n), some (.ref a), some (.ref D), none, v4, some (.int (m : Nat))] ∧ Same H G ∧ as.length = n ∧ TbA G D as n (midW U m v)) ⟨_, as, rfl, s4, la, t4.congr la fun i j _ _ => by unfold midW; rw [if_neg (Nat.not_lt_zero i)]⟩ ?_ ?_
        · clear t4 la s4 as
          rintro v σ G5 hv ⟨v4, as, rfl, s5, la, t5⟩
          have e0 : (0 : Int) + (v : Int) = (v : Int) := by omega
          rw [e0]
          obtain ⟨rv, hv1, hv2⟩ := at_ la hv
          obtain ⟨rm, hm1, hm2⟩ := at_ la hm
          have rowv := t5.2 _ _ hv1
          have rowm := t5.2 _ _ hm1
          have ev : ∀ k, midW U m v v k = U v k := fun k => by unfold midW; rw [if_neg (Nat.lt_irrefl v)]
          have gv : ∀ {k : Nat}, k < n → (bF n (midW U m v v))[k]? = some (V.bl (U v k)) := fun hk => by rw [bF_get hk, ev]
          have gm : ∀ {k : Nat}, k < n → (bF n (midW U m v m))[k]? = some (V.bl (U m k)) := fun hk => by rw [bF_get hk, midW_row mm]
          refine ⟨_, rfl, _, rfl, D, _, _, _, rfl, rfl, SqL.of t5.1, atI_nat hv2, _, rfl, rv, _, _, _, rfl, rfl, SqL.of rowv, atI_nat (gv hm), _, rfl, ?_⟩
          refine ite2 (fun hx => ?_) (fun hx => ?_)
          · refine ⟨_, rfl, _, rfl, by omega, by omega, fun D2 hD2 => ?_⟩
            rw [Int.toNat_natCast]
            refine lc_range (fun j G2 => G2 D2 = some (.lst ((List.range j).map fun w => V.bl (U v w || U m w))) ∧ Same G5 G2) ⟨upd_same, same_new hD2⟩ ?_ ?_
            · rintro j G2 hj ⟨h2, s2⟩
              have e0 : (0 : Int) + (j : Int) = (j : Int) := by omega
              rw [e0]
              refine ⟨rfl, yesT ⟨_, rfl, _, rfl, D, _, _, _, rfl, rfl, SqL.of (s2 _ _ t5.1), atI_nat hv2, _, rfl, rv, _, _, _, rfl, rfl, SqL.of (s2 _ _ rowv), atI_nat (gv hj), ?_⟩⟩
              have fin : ∀ y : Bool, y = (U v j || U m j) → ∃ acc, G2 D2 = some (HO.lst acc) ∧ acc.length < sizeLine ∧ (L2.upd G2 D2 (.lst (acc ++ [V.bl y]))) D2 = some (.lst ((List.range (j + 1)).map fun w => V.bl (U v w || U m w))) ∧ Same G5 (L2.upd G2 D2 (.lst (acc ++ [V.bl y]))) := fun y ey => by
                refine ⟨_, h2, by rw [List.length_map, List.length_range, sizeLine_eq]; omega, ?_, same_upd s2 hD2⟩
                rw [upd_same, List.range_succ, List.map_append, ey]
                rfl
              refine ⟨_, rfl, ?_⟩
              cases e : U v j with
              | true => exact iteT (fin true (by rw [e]; rfl))
              | false => exact iteF ⟨_, rfl, _, rfl, D, _, _, _, rfl, rfl, SqL.of (s2 _ _ t5.1), atI_nat hm2, _, rfl, rm, _, _, _, rfl, rfl, SqL.of (s2 _ _ rowm), atI_nat (gm hj), fin _ (by rw [e, Bool.false_or])⟩
            rintro G2 ⟨h2, s2⟩
            refine ⟨_, rfl, _, rfl, set_at (s2 _ _ t5.1) (ixN_nat (by rw [List.length_map, la]; exact hv)) fun G3 u3 g3 => ?_⟩
            have nD2 : D2 ≠ D := fun z => by rw [z, t5.1] at hD2; cases hD2
            refine ⟨_, as.set v D2, rfl, u3.to_same (s5.trans s2) D0, by rw [List.length_set, la], by rw [g3, List.map_set], fun i c hc => ?_⟩
            rw [List.getElem?_set] at hc
            by_cases e : v = i
            · subst e
              rw [if_pos rfl, if_pos (by rw [la]; exact hv)] at hc
              injection hc with hc
              rw [← hc, u3 _ _ nD2 h2]
              refine congrArg (fun z => some (HO.lst z)) ?_
              show bF n (fun w => U v w || U m w) = _
              refine bF_congr fun j _ => ?_
              unfold midW stepW
              rw [if_pos (Nat.lt_succ_self v), hx, Bool.true_and]
            · rw [if_neg e] at hc
              have hc5 := t5.2 i c hc
              rw [u3 _ _ (rowD (by omega) la t5.1 hc5) (s2 _ _ hc5)]
              refine congrArg (fun z => some (HO.lst z)) (bF_congr fun j _ => ?_)
              unfold midW
              by_cases e2 : i < v
              · rw [if_pos e2, if_pos (by omega)]
              · rw [if_neg e2, if_neg (by omega)]
          · have hx : U v m = false := Bool.eq_false_iff.mpr hx
            refine ⟨_, as, rfl, s5, la, t5.congr la fun i j _ _ => ?_⟩
            unfold midW
            by_cases e : i = v
            · rw [e, if_neg (Nat.lt_irrefl v), if_pos (Nat.lt_succ_self v)]
              unfold stepW
              rw [hx, Bool.false_and, Bool.or_false]
            · by_cases e2 : i < v
              · rw [if_pos e2, if_pos (by omega)]
              · rw [if_neg e2, if_neg (by omega)]
        · rintro σ G5 ⟨v4, as, rfl, s5, la, t5⟩
          refine ⟨_, _, as, rfl, s5, la, t5.congr la fun i j hi _ => ?_⟩
          unfold midW
          rw [if_pos hi]
          show stepW U m i j = stepW (closW ps m) m i j
          rw [hU]
      · rintro σ G4 ⟨v4, v5, as, rfl, s4, la, t4⟩
        rw [closW_all lt] at t4
        exact ⟨_, rfl, q D G4 s4 hD ⟨as, la, t4⟩⟩
end
end Hue

end
section
set_option maxRecDepth 100000
set_option maxHeartbeats 4000000
namespace Hue
open PySem PySem.Spec PyProof.Rows L2
section
variable {P : Program} {w : World} {K : PySem.W.Frag} {mg : Str → Option Value} {base : Heap} {C : Addr}
theorem hid_add {G : Hp} {b t : Addr} {o : HO} (bx : Bx G b) (nt : G t = none) : Same (hid G b) (hid (L2.upd G t o) b) ∧ hid (L2.upd G t o) b t = some o ∧ Bx (L2.upd G t o) b := by
  rw [hid_new bx nt]
  exact ⟨same_new (hid_none nt), upd_same, bx.new nt⟩
theorem hid_sm {G G' : Hp} {b : Addr} (bx : Bx G b) (s : Same G G') : Same (hid G b) (hid G' b) ∧ Bx G' b := ⟨Same.hid bx s, bx.same s⟩
/-- what is new beside a heap and known there is no part of the box -/
theorem hid_at {G G' : Hp} {b t : Addr} {o : HO} (bx : Bx G b) (s : Same G G') (nt : G t = none) (h : G' t = some o) : hid G' b t = some o := by
  obtain ⟨g, gs, i1, i2, e1, e2⟩ := bx.ex
  refine hid_of h fun z => ?_
  rcases z with z | ⟨x, y, z⟩
  · rw [z, e1] at nt; cases nt
  · rw [s _ _ e1] at z
    injection z with z
    injection z with z
    injection z with z _
    injection z with z
    rw [← z, e2] at nt
    cases nt
theorem catA_of {H : Hp} {a b : Addr} {xs ys : List V} (ha : H a = some (.tup xs)) (hb : H b = some (.tup ys)) (l : xs.length + ys.length ≤ 1000) {Q : VK} (q : ∀ (p : Addr) (H' : Hp), Same H H' → H' p = some (.tup (xs ++ ys)) → Q (.ref p) H') : rCatA K (.ref a) (.ref b) H Q := by
  refine ⟨a, b, xs, ys, rfl, rfl, SqT.of ha, SqT.of hb, by rw [sizeLine_eq]; omega, fun e => ?_, fun _ e => ?_, fun _ _ p np => ?_⟩
  · exact q b H (Same.refl H) (by rw [e, List.nil_append]; exact hb)
  · exact q a H (Same.refl H) (by rw [e, List.append_nil]; exact ha)
  · exact q p _ (same_new np) upd_same
theorem cut_take (S : List Int) (k : Nat) : cutV (stV S) none (some (k : Int)) = stV (S.take k) := by
  unfold cutV
  rw [HT.sIx_none, HT.sIx_nat, List.length_map, List.drop_zero, Nat.sub_zero]
  unfold stV
  rw [← List.map_take]
  congr 1
  rcases Nat.lt_or_ge k S.length with h | h
  · rw [Nat.min_eq_left (by omega)]
  · rw [Nat.min_eq_right h, List.take_length, List.take_of_length_le h]
theorem cut_drop (S : List Int) (k : Nat) (h : k ≤ S.length) : cutV (stV S) (some (k : Int)) none = stV (S.drop k) := by
  unfold cutV
  rw [HT.sIx_none, HT.sIx_nat, List.length_map, Nat.min_eq_left h]
  unfold stV
  rw [← List.map_drop, List.take_of_length_le (by rw [List.length_map, List.length_drop]; exact Nat.le_refl _)]
theorem way_no {d k : Nat} (h : ¬ decide (V.int (d : Int) = V.int (k : Int)) = true) : d ≠ k := fun z => h (decide_eq_true (by rw [z]))
/-! ### states -/
theorem st_more {i h : Nat} {S : List Int} {d : Int} (o : StOk i h S) (h0 : 0 ≤ d) (h1 : d < (h : Int)) : StOk (i + 1) h (S ++ [d]) := by
  refine ⟨by rw [List.length_append, o.1]; rfl, fun z hz => ?_⟩
  rcases List.mem_append.mp hz with hz | hz
  · exact o.2 z hz
  · rw [List.mem_singleton.mp hz]; exact ⟨h0, h1⟩
abbrev s__law_hues : Stmt := top 45
theorem sc__law_hues : FnScope ["box", "many", "base", "k"] ["box", "many", "base"] (defScope s__law_hues) := ⟨rfl, rfl, rfl, by decide +kernel, rfl, by decide +kernel, by decide +kernel⟩
-- slots of _law_hues: 0 box, 1 many, 2 base, 3 k
def spHues : Sp := fun vs H Q _ => ∃ (b : Addr) (n h : Nat), vs = [.ref b, .int n, .int h] ∧ n ≤ 16 ∧ 1 ≤ h ∧ h ≤ 10 ∧ Bx H b ∧ ∀ (S : List Int) (t : Addr) (H' : Hp), StOk n h S → Bx H' b → Same (hid H b) (hid H' b) → hid H' b t = some (.tup (stV S)) → Q (.ref t) H'
theorem ok__law_hues (T : Txt K mg C) {f : Addr} {fd : FuncData} (F : Fun K "_law_hues" "_law_hues" s__law_hues f fd) (c__law_take : Cal P w K mg base "_law_take" 1 spTake) : FnOk P w K mg base CX0 2 f fd ["box", "many", "base"] spHues := by
  refine F.ok sc__law_hues (fun vs H Q E h => ?_) (fun cdv A outer s H vs Q E hr h => ?_)
  · obtain ⟨b, n, h, rfl, _⟩ := h; rfl
  · obtain ⟨b, n, h, rfl, n16, h1, h10, bx, q⟩ := h
    refine ⟨_, (pss_one (ps_ret (pe_callTy (tupOf_ K) (by rfl) T.tuple b_tuple (pa_cons (pe_lc (own := [("k", 3)]) (g := gName 3) (tt := tYes) rfl sc__law_hues.nd (pi_range1 (by rfl) T.range (pa_cons (pv 1) pa_nil)) (blkOk_by (by kernel_rfl)) (fun _ _ _ _ _ => (pg_name (i := 3) sc__law_hues.nd rfl (by first | exact Or.inl rfl | exact Or.inr rfl))) (fun _ _ _ _ _ => pts_nil) (fun _ _ _ _ _ => (pe_callB (call_max2 rfl) (by rfl) T.max b_max (pa_cons (pe_cal c__law_take (hr.mono (by decide)) (pa_cons (pv 0) (pa_cons (pv 2) pa_nil))) (pa_cons (pe_cal c__law_take (hr.mono (by decide)) (pa_cons (pv 0) (pa_cons (pv 2) pa_nil))) pa_nil))))) pa_nil)))), ?_⟩
    refine ⟨_, rfl, _, rfl, by omega, by omega, fun D hD => ?_⟩
    rw [Int.toNat_natCast]
    obtain ⟨sD, hD2, bD⟩ := hid_add (o := .lst []) bx hD
    have fD : hid H b D = none := hid_none hD
    refine lc_range (fun i G => ∃ S, hid G b D = some (.lst (stV S)) ∧ StOk i h S ∧ Bx G b ∧ Same (hid H b) (hid G b)) ⟨[], hD2, ⟨rfl, fun z hz => absurd hz List.not_mem_nil⟩, bD, sD⟩ ?_ ?_
    · rintro i G hi ⟨S, gD, ok, bG, sG⟩
      refine ⟨rfl, yesT ⟨_, rfl, _, rfl, b, h, rfl, h1, by omega, bG, fun d1 G1 hd1 b1 s1 => ⟨_, rfl, _, rfl, b, h, rfl, h1, by omega, b1, fun d2 G2 hd2 b2 s2 => ?_⟩⟩⟩
      have g2 := s2 _ _ (s1 _ _ gD)
      obtain ⟨m, em, ml⟩ : ∃ m : Nat, (if (d2 : Int) > (d1 : Int) then (d2 : Int) else (d1 : Int)) = (m : Int) ∧ m < h := by
        by_cases z : (d2 : Int) > (d1 : Int)
        · exact ⟨d2, if_pos z, hd2⟩
        · exact ⟨d1, if_neg z, hd1⟩
      dsimp only [tNil]
      refine ⟨_, _, rfl, _, (hid_some g2).1, by rw [List.length_map, ok.1, sizeLine_eq]; omega, S ++ [(m : Int)], ?_, st_more ok (by omega) (by omega), b2.put g2, ?_⟩
      · rw [em, hid_put g2, upd_same]
        unfold stV
        rw [List.map_append]
        rfl
      · rw [hid_put g2]
        exact same_upd (sG.trans (s1.trans s2)) fD
    rintro G ⟨S, gD, ok, bG, sG⟩
    dsimp only [tNil]
    refine ⟨D, _, rfl, .inl ⟨SqL.of (hid_some gD).1, fun t nt => ?_⟩⟩
    obtain ⟨s3, h3, b3⟩ := hid_add (o := .tup (stV S)) bG nt
    exact q S t _ ok b3 (sG.trans s3) h3
/-- of the first k of the line: one above which nothing differs is not raised -/
def FollowsTo (n : Nat) (R : Rel) (line : List Nat) (S D : List Int) (k : Nat) : Prop := OrdOk n R line → ∀ (j w : Nat), j < k → line[j]? = some w → (∀ u, u < n → R u w = true → at_ S u = at_ D u) → at_ D w ≤ at_ S w
def Follows (n : Nat) (R : Rel) (line : List Nat) (S D : List Int) : Prop := FollowsTo n R line S D line.length
theorem at_set_eq {D : List Int} {v : Nat} (h : v < D.length) (z : Int) : at_ (D.set v z) v = z := by
  unfold at_
  rw [List.getD_eq_getElem?_getD, List.getElem?_set_self h]; rfl
theorem at_set_ne {D : List Int} {v u : Nat} (h : v ≠ u) (z : Int) : at_ (D.set v z) u = at_ D u := by
  unfold at_
  rw [List.getD_eq_getElem?_getD, List.getD_eq_getElem?_getD, List.getElem?_set_ne h]
theorem FollowsTo.put {n k v : Nat} {R : Rel} {line : List Nat} {S D : List Int} {z : Int} (f : FollowsTo n R line S D k) (hv : line[k]? = some v) (nd : line.Nodup) (vD : v < D.length) (hR : ∀ u, R u u = false)
    (new : z ≤ at_ S v ∨ ∃ u, u < n ∧ R u v = true ∧ at_ S u ≠ at_ D u) : FollowsTo n R line S (D.set v z) (k + 1) := fun ok j w hj hw pre => by
  have ne : ∀ {i x : Nat}, i < k → line[i]? = some x → v ≠ x := fun {i x} hi hx e => by
    have := nodup_at nd hv (by rw [e]; exact hx)
    omega
  by_cases e : j = k
  · subst e
    rw [hv] at hw
    injection hw with hw
    subst hw
    rw [at_set_eq vD]
    rcases new with h | ⟨u, un, r, d⟩
    · exact h
    · exfalso
      have q := pre u un r
      have vu : v ≠ u := fun e => by rw [e, hR] at r; cases r
      rw [at_set_ne vu] at q
      exact d q
  · have hj : j < k := by omega
    rw [at_set_ne (ne hj hw)]
    refine f ok j w hj hw fun u un r => ?_
    have up := ok.up j w hw u un r
    obtain ⟨i, hi⟩ := List.getElem?_of_mem up
    rw [List.getElem?_take] at hi
    split at hi
    · rename_i il
      rw [pre u un r, at_set_ne (ne (by omega) hi)]
    · cases hi
def spFollower : Sp := fun vs H Q _ => ∃ (b lw ln t : Addr) (n h : Nat) (R : Rel) (line : List Nat) (S : List Int), vs = [.ref b, .int h, .ref lw, .ref ln, .ref t] ∧ n ≤ 16 ∧ 1 ≤ h ∧ h ≤ 10 ∧ Bx H b ∧ LineOk n line ∧ (∀ u, R u u = false) ∧ Tb (hid H b) lw n R ∧ hid H b ln = some (.lst (nL line)) ∧ hid H b t = some (.tup (stV S)) ∧ StOk n h S ∧
  ∀ (D : List Int) (r : Addr) (H' : Hp), StOk n h D → Bx H' b → Same (hid H b) (hid H' b) → hid H' b r = some (.tup (stV D)) → Follows n R line S D → Q (.ref r) H'
def spPair : Sp := fun vs H Q _ => ∃ (b lw ln : Addr) (n h : Nat) (R : Rel) (line : List Nat), vs = [.ref b, .int h, .ref lw, .ref ln] ∧ 1 ≤ n ∧ n ≤ 16 ∧ 1 ≤ h ∧ h ≤ 10 ∧ Bx H b ∧ LineOk n line ∧ (∀ u, R u u = false) ∧ Tb (hid H b) lw n R ∧ hid H b ln = some (.lst (nL line)) ∧
  ∀ (S D : List Int) (p t r : Addr) (H' : Hp), StOk n h S → StOk n h D → Bx H' b → Same (hid H b) (hid H' b) → hid H' b p = some (.tup [.ref t, .ref r]) → hid H' b t = some (.tup (stV S)) → hid H' b r = some (.tup (stV D)) → Q (.ref p) H'
end
end Hue

end
section
set_option maxRecDepth 100000
set_option maxHeartbeats 2000000
/-! zip of a tuple and a list: two iterators of any kind, side by side -/
namespace Hue
open PySem PySem.Spec PyProof.Rows L2 RZ
/-- the iterator at `it` gives the items xs of what stands at l, one by one; S k: k of them are given -/
structure Src (it l : Addr) (xs : Array Value) (S : Nat → Heap → Prop) : Prop where
  keep : ∀ {k : Nat} {h h' : Heap}, S k h → (∀ o, h.get? it = some o → h'.get? it = some o) → (∀ o, h.get? l = some o → h'.get? l = some o) → S k h'
  lt : ∀ {k : Nat} {h : Heap}, S k h → it < h.objs.size
  item : ∀ {prog : Program} {w : World} {A : Around} {E : Value → Shared → Prop} {s : Shared} {k : Nat} {x : Value} {Q : Value → Shared → Prop}, S k s.heap → xs[k]? = some x →
    (∀ h', S (k + 1) h' → Heap.SameBut it s.heap h' → Q x { s with heap := h' }) → wpAny (model prog w) A (Builtin.SmallTypes.nextOf (.ref it)) Q E s
  fin : ∀ {prog : Program} {w : World} {A : Around} {E : Value → Shared → Prop} {s : Shared} {k : Nat} {Q : Value → Shared → Prop}, A.handled = none → S k s.heap → xs[k]? = none →
    (∀ h' e, Heap.ExtBut it s.heap h' → (∃ o, h'.get? e = some o ∧ o.cls = .type "StopIteration") → E (.ref e) { s with heap := h' }) → wpAny (model prog w) A (Builtin.SmallTypes.nextOf (.ref it)) Q E s
theorem src_tup {it l : Addr} {xs : Array Value} (n : l ≠ it) : Src it l xs (fun k h => h.IsTupleIter it l k ∧ h.IsTuple l xs) where
  keep := fun ⟨a, b⟩ k1 k2 => ⟨a.at k1, let ⟨o, h1, h2⟩ := b; ⟨o, k2 _ h1, h2⟩⟩
  lt := fun ⟨⟨_, e, _⟩, _⟩ => Heap.lt_size e
  item := fun ⟨a, b⟩ hx q => nextOf_tuple_item a b hx fun h' a' s' => q h' ⟨a', b.extBut s'.extBut n⟩ s'
  fin := fun hh ⟨a, b⟩ hx q => nextOf_tuple_end hh a b hx q
theorem src_lst {it l : Addr} {xs : Array Value} (n : l ≠ it) : Src it l xs (fun k h => h.IsListIter it l k ∧ h.IsList l xs) where
  keep := fun ⟨a, b⟩ k1 k2 => ⟨a.at k1, let ⟨o, h1, h2⟩ := b; ⟨o, k2 _ h1, h2⟩⟩
  lt := fun ⟨⟨_, e, _⟩, _⟩ => Heap.lt_size e
  item := fun ⟨a, b⟩ hx q => wpAny_nextOf_list_item a b hx fun h' a' s' => q h' ⟨a', b.extBut s'.extBut n⟩ s'
  fin := fun hh ⟨a, b⟩ hx q => wpAny_nextOf_list_end hh a b hx q
section
variable {prog : Program} {w : World} {A : Around} {E : Value → Shared → Prop} {s : Shared}
theorem same_ext {a : Addr} {h h' : Heap} (s : Heap.SameBut a h h') {b : Addr} (n : b ≠ a) : ∀ o, h.get? b = some o → h'.get? b = some o := fun o e => s.extBut _ _ n e
theorem zipS_item {z TI TO i1 i2 l1 l2 : Addr} {k1 k2 : Nat} {xs ys : Array Value} {S1 S2 : Nat → Heap → Prop} {x y a b : Value} {Q : Value → Shared → Prop} (D : ZipApart z TI TO i1 i2 l1 l2) (A1 : Src i1 l1 xs S1) (A2 : Src i2 l2 ys S2)
    (hz : IsZip s.heap z TI TO .none) (hTI : IsPair s.heap TI (.ref i1) (.ref i2)) (hTO : IsPair s.heap TO a b) (h1 : S1 k1 s.heap) (h2 : S2 k2 s.heap) (hx : xs[k1]? = some x) (hy : ys[k2]? = some y)
    (hQ : ∀ h', IsZip h' z TI TO (rawInt s.heap.objs.size) → IsPair h' TO x y → S1 (k1 + 1) h' → S2 (k2 + 1) h' → IsPair h' s.heap.objs.size x y → h'.objs.size = s.heap.objs.size + 1 →
      (∀ c o, c ≠ z → c ≠ TO → c ≠ i1 → c ≠ i2 → s.heap.get? c = some o → h'.get? c = some o) → Q (.ref s.heap.objs.size) { s with heap := h' }) :
    wpAny (model prog w) A (Builtin.«zip.__next__» ⟨[.ref z], []⟩) (fun fin s' => ∃ v, fin = .done (.ret v) ∧ Q v s') E s := by
  show wpAny _ _ (field (.ref z) 2 >>= _) _ _ _
  refine wpAny_bind (wpAny_field hz rfl (x := .bool false) rfl ?_)
  show wpAny _ _ (field (.ref z) 3 >>= _) _ _ _
  refine wpAny_bind (wpAny_field hz rfl (x := .ref TI) rfl (wpAny_bind (wpAny_seqItems hTI rfl ?_)))
  show wpAny _ _ (Builtin.SmallTypes.ownedTupleIsFree (.ref z) >>= _) _ _ _
  unfold Builtin.SmallTypes.ownedTupleIsFree
  refine wpAny_bind (wpAny_bind (wpAny_field hz rfl (x := .none) rfl (wpAny_pure ?_)))
  simp only [if_true]
  refine wpAny_bind (wpAny_rule (wpAny_bind (wpAny_field hz rfl (x := .ref TO) rfl (wpAny_bind (wpAny_setField_rec hz (by simp) fun g1 z1 e1 => ?_)))))
  simp only [List.zipIdx_cons, List.zipIdx_nil, List.forIn_cons, List.forIn_nil]
  refine wpAny_bind (wpAny_bind (wpAny_bind (wpAny_onRaise ?_)))
  show wpAny _ _ (Builtin.SmallTypes.nextOf (.ref i1) >>= _) _ _ _
  have p1 := A1.keep h1 (same_ext e1 D.i1z) (same_ext e1 D.l1z)
  have p2 := A2.keep h2 (same_ext e1 D.i2z) (same_ext e1 D.l2z)
  refine wpAny_bind (A1.item p1 hx fun g2 q1 e2 => wpAny_pure ?_)
  have q2 := A2.keep p2 (same_ext e2 D.i12.symm) (same_ext e2 D.l2i1)
  have t2 : IsPair g2 TO a b := same_ext e2 D.TOi1 _ (same_ext e1 D.TOz _ hTO)
  refine wpAny_bind (wpAny_seqItems t2 rfl (wpAny_bind (wpAny_updateSeq_pair t2 fun g3 t3 e3 => wpAny_bind (wpAny_letGo (wpAny_pure (wpAny_bind (wpAny_bind (wpAny_onRaise ?_))))))))
  replace t3 : IsPair g3 TO x b := t3
  show wpAny _ _ (Builtin.SmallTypes.nextOf (.ref i2) >>= _) _ _ _
  have r1 := A1.keep q1 (same_ext e3 D.TOi1.symm) (same_ext e3 D.l1TO)
  have r2 := A2.keep q2 (same_ext e3 D.TOi2.symm) (same_ext e3 D.l2TO)
  refine wpAny_bind (A2.item r2 hy fun g4 u2 e4 => wpAny_pure ?_)
  have u1 := A1.keep r1 (same_ext e4 D.i12) (same_ext e4 D.l1i2)
  have t4 : IsPair g4 TO x b := same_ext e4 D.TOi2 _ t3
  refine wpAny_bind (wpAny_seqItems t4 rfl (wpAny_bind (wpAny_updateSeq_pair t4 fun g5 t5 e5 => wpAny_bind (wpAny_letGo (wpAny_pure (wpAny_pure ?_))))))
  replace t5 : IsPair g5 TO x y := t5
  refine wpAny_bind (wpAny_seqItems t5 rfl (wpAny_bind (wpAny_newTuple ?_)))
  have sz : g5.objs.size = s.heap.objs.size := by rw [e5.1, e4.1, e3.1, e2.1, e1.1]
  have z5 : IsZip g5 z TI TO .ellipsis := same_ext e5 D.TOz.symm _ (same_ext e4 D.i2z.symm _ (same_ext e3 D.TOz.symm _ (same_ext e2 D.i1z.symm _ z1)))
  have k5 : ∀ c o, c ≠ z → c ≠ TO → c ≠ i1 → c ≠ i2 → s.heap.get? c = some o → g5.get? c = some o := fun c o c1 c2 c3 c4 e => same_ext e5 c2 _ (same_ext e4 c4 _ (same_ext e3 c2 _ (same_ext e2 c3 _ (same_ext e1 c1 _ e))))
  have v1 := A1.keep u1 (same_ext e5 D.TOi1.symm) (same_ext e5 D.l1TO)
  have v2 := A2.keep u2 (same_ext e5 D.TOi2.symm) (same_ext e5 D.l2TO)
  have zl : z < g5.objs.size := Heap.lt_size z5
  show wpAny _ _ (Builtin.SmallTypes.ownedTupleHandOut (.ref z) (.ref g5.objs.size) >>= _) _ _ _
  unfold Builtin.SmallTypes.ownedTupleHandOut
  have z6 : IsZip (g5.push { cls := .type "tuple", data := .seq #[x, y] }) z TI TO .ellipsis := Heap.get?_push_of_some _ z5
  refine wpAny_bind (wpAny_bind (wpAny_setField_rec z6 (by simp) fun g7 z7 e7 => ?_))
  replace z7 : IsZip g7 z TI TO (rawInt g5.objs.size) := z7
  refine wpAny_setField_rec z7 (by simp) fun g8 z8 e8 => ?_
  replace z8 : IsZip g8 z TI TO (rawInt g5.objs.size) := z8
  have up : ∀ c o, c ≠ z → g5.get? c = some o → g8.get? c = some o := fun c o c1 e => same_ext e8 c1 _ (same_ext e7 c1 _ (Heap.get?_push_of_some _ e))
  have T8 : IsPair g8 g5.objs.size x y := same_ext e8 (Nat.ne_of_gt zl) _ (same_ext e7 (Nat.ne_of_gt zl) _ (Heap.get?_push_size _ rfl))
  have s8 : g8.objs.size = g5.objs.size + 1 := by rw [e8.1, e7.1, Heap.size_push]
  rw [sz] at z8 T8 s8
  refine wpAny_pure ⟨_, rfl, ?_⟩
  show Q (.ref g5.objs.size) _
  rw [sz]
  exact hQ g8 z8 (up _ _ D.TOz t5) (A1.keep v1 (fun o e => up _ o D.i1z e) fun o e => up _ o D.l1z e) (A2.keep v2 (fun o e => up _ o D.i2z e) fun o e => up _ o D.l2z e) T8 s8 fun c o c1 c2 c3 c4 e => up c o c1 (k5 c o c1 c2 c3 c4 e)
theorem zipS_end {z TI TO i1 i2 l1 l2 : Addr} {k1 : Nat} {xs : Array Value} {S1 : Nat → Heap → Prop} {a b : Value} {Q : Fin → Shared → Prop} (hh : A.handled = none) (D : ZipApart z TI TO i1 i2 l1 l2) (A1 : Src i1 l1 xs S1)
    (hz : IsZip s.heap z TI TO .none) (hTI : IsPair s.heap TI (.ref i1) (.ref i2)) (hTO : IsPair s.heap TO a b) (h1 : S1 k1 s.heap) (hx : xs[k1]? = none)
    (hE : ∀ h' e, (∀ c o, c ≠ z → c ≠ TO → c ≠ i1 → c ≠ i2 → s.heap.get? c = some o → h'.get? c = some o) → (∃ o, h'.get? e = some o ∧ o.cls = .type "StopIteration") → E (.ref e) { s with heap := h' }) :
    wpAny (model prog w) A (Builtin.«zip.__next__» ⟨[.ref z], []⟩) Q E s := by
  show wpAny _ _ (field (.ref z) 2 >>= _) _ _ _
  refine wpAny_bind (wpAny_field hz rfl (x := .bool false) rfl ?_)
  show wpAny _ _ (field (.ref z) 3 >>= _) _ _ _
  refine wpAny_bind (wpAny_field hz rfl (x := .ref TI) rfl (wpAny_bind (wpAny_seqItems hTI rfl ?_)))
  show wpAny _ _ (Builtin.SmallTypes.ownedTupleIsFree (.ref z) >>= _) _ _ _
  unfold Builtin.SmallTypes.ownedTupleIsFree
  refine wpAny_bind (wpAny_bind (wpAny_field hz rfl (x := .none) rfl (wpAny_pure ?_)))
  simp only [if_true]
  refine wpAny_bind (wpAny_rule (wpAny_bind (wpAny_field hz rfl (x := .ref TO) rfl (wpAny_bind (wpAny_setField_rec hz (by simp) fun g1 z1 e1 => ?_)))))
  simp only [List.zipIdx_cons, List.zipIdx_nil, List.forIn_cons, List.forIn_nil]
  refine wpAny_bind (wpAny_bind (wpAny_bind (wpAny_onRaise ?_)))
  show wpAny _ _ (Builtin.SmallTypes.nextOf (.ref i1) >>= _) _ _ _
  refine wpAny_bind (A1.fin hh (A1.keep h1 (same_ext e1 D.i1z) (same_ext e1 D.l1z)) hx fun g2 e e2 he => ?_)
  obtain ⟨oe, hoe, hce⟩ := he
  have z2 : IsZip g2 z TI TO .ellipsis := e2 _ _ D.i1z.symm z1
  have ez : e ≠ z := fun q => by subst q; rw [z2] at hoe; cases hoe; simp at hce
  exact wpAny_setField_rec z2 (by simp) fun g3 _ e3 => hE g3 e (fun c o c1 _ c3 _ q => same_ext e3 c1 _ (e2 _ _ c3 (same_ext e1 c1 _ q))) ⟨oe, same_ext e3 ez _ hoe, hce⟩
end
section
variable {prog : Program} {w : World} {A : Around} {E : Value → Shared → Prop} {s : Shared}
/-- zip(tuple, list) as it stands in the heap, i pairs given -/
def MixAt (z TI TO i1 i2 a b : Addr) (i : Nat) (h : Heap) : Prop := IsZip h z TI TO .none ∧ IsPair h TI (.ref i1) (.ref i2) ∧ (∃ x y, IsPair h TO x y) ∧ h.IsTupleIter i1 a i ∧ h.IsListIter i2 b i
theorem mix_item {z TI TO i1 i2 l1 l2 : Addr} {i : Nat} {xs ys : Array Value} {x y : Value} {Q : Option Value → Shared → Prop} (D : ZipApart z TI TO i1 i2 l1 l2) (m : MixAt z TI TO i1 i2 l1 l2 i s.heap) (hl1 : s.heap.IsTuple l1 xs) (hl2 : s.heap.IsList l2 ys) (hx : xs[i]? = some x) (hy : ys[i]? = some y)
    (hQ : ∀ h', IsZip h' z TI TO (rawInt s.heap.objs.size) → IsPair h' TO x y → h'.IsTupleIter i1 l1 (i + 1) → h'.IsListIter i2 l2 (i + 1) → IsPair h' s.heap.objs.size x y → h'.objs.size = s.heap.objs.size + 1 →
      (∀ c o, c ≠ z → c ≠ TO → c ≠ i1 → c ≠ i2 → s.heap.get? c = some o → h'.get? c = some o) → Q (some (.ref s.heap.objs.size)) { s with heap := h' }) :
    wpAny (model prog w) A (pyNext (.ref z)) Q E s := by
  obtain ⟨hz, hTI, ⟨a, b, hTO⟩, h1, h2⟩ := m
  have hT : s.TypeIs (.ref z) "zip" := ⟨_, hz, rfl⟩
  unfold pyNext
  exact wpAny_bind (wpAny_attempt (wpAny_callSpecial?_slot (name := Str.ofString "__next__") hT F.slot_zip_next (wpAny_call_entry F.slot_zip_next hT F.entry_zip_next
    (zipS_item D (src_tup D.l1i1) (src_lst D.l2i2) hz hTI hTO ⟨h1, hl1⟩ ⟨h2, hl2⟩ hx hy fun h' a1 a2 a3 a4 a5 a6 a7 => wpAny_pure (hQ h' a1 a2 a3.1 a4.1 a5 a6 a7)) (F.args_zip_next_1 _))))
theorem mix_end {z TI TO i1 i2 l1 l2 : Addr} {i : Nat} {xs : Array Value} {Q : Option Value → Shared → Prop} (hh : A.handled = none) (D : ZipApart z TI TO i1 i2 l1 l2) (m : MixAt z TI TO i1 i2 l1 l2 i s.heap) (hl1 : s.heap.IsTuple l1 xs) (hx : xs[i]? = none)
    (hQ : ∀ h', (∀ c o, c ≠ z → c ≠ TO → c ≠ i1 → c ≠ i2 → s.heap.get? c = some o → h'.get? c = some o) → Q none { s with heap := h' }) : wpAny (model prog w) A (pyNext (.ref z)) Q E s := by
  obtain ⟨hz, hTI, ⟨a, b, hTO⟩, h1, h2⟩ := m
  have hT : s.TypeIs (.ref z) "zip" := ⟨_, hz, rfl⟩
  unfold pyNext
  refine wpAny_bind (wpAny_attempt (wpAny_callSpecial?_slot (name := Str.ofString "__next__") hT F.slot_zip_next (wpAny_call_entry F.slot_zip_next hT F.entry_zip_next
    (zipS_end hh D (src_tup D.l1i1) hz hTI hTO ⟨h1, hl1⟩ hx fun h' e hk he => ?_) (F.args_zip_next_1 _))))
  obtain ⟨o, ho, hc⟩ := he
  exact wpAny_bind (wpAny_isInstance (T := "StopIteration") (b := true) ⟨o, ho, hc⟩ isSubtype_stop (wpAny_pure (hQ _ hk)))
/-- the heap when zip(tuple, list) is made: two iterators, the pair of them, the pair that is handed on, the zip -/
abbrev mixH1 (h : Heap) (l1 l2 : Addr) : Heap := h.push { cls := .type "tuple_iterator", data := .fields #[.ref l1, .int 0 0] }
abbrev mixH2 (h : Heap) (l1 l2 : Addr) : Heap := (mixH1 h l1 l2).push { cls := .type "list_iterator", data := .fields #[.ref l2, .int 0 0] }
abbrev mixH3 (h : Heap) (l1 l2 : Addr) : Heap := (mixH2 h l1 l2).push { cls := .type "tuple", data := .seq #[.ref h.objs.size, .ref (mixH1 h l1 l2).objs.size] }
abbrev mixH4 (h : Heap) (l1 l2 : Addr) : Heap := (mixH3 h l1 l2).push { cls := .type "tuple", data := .seq #[.none, .none] }
abbrev mixH5 (h : Heap) (l1 l2 : Addr) : Heap := (mixH4 h l1 l2).push { cls := .type "zip", data := .fields #[.none, .bool false, .bool false, .ref (mixH2 h l1 l2).objs.size, .ref (mixH3 h l1 l2).objs.size] }
theorem meets_mix (l1 l2 : Addr) (xs ys : Array Value) :
    Meets (Builtin.«zip.__new__» ⟨[.type "zip", .ref l1, .ref l2], []⟩) (fun _ R s => s.heap.IsTuple l1 xs ∧ s.heap.IsList l2 ys ∧ R (.ok (.ret (.ref (mixH4 s.heap l1 l2).objs.size))) { s with heap := mixH5 s.heap l1 l2 }) :=
  .of_wp fun prog w A R s h => by
    obtain ⟨hp, g, d, tk, os⟩ := s
    obtain ⟨hl1, hl2, h⟩ := h
    have hsub := sub_zip
    have hL1 : Heap.IsTuple (Shared.heap ⟨hp, g, d, tk, os⟩) l1 xs := hl1
    have hL2 : Heap.IsList (Shared.heap ⟨hp.push { cls := .type "tuple_iterator", data := .fields #[.ref l1, .int 0 0] }, g, d, tk, os⟩) l2 ys := Heap.IsList.push hl2 _
    wp_walk using wpAny_pyIter_tuple hL1, wpAny_pyIter_list hL2
    exact ⟨_, rfl, h⟩
theorem call_mix {l1 l2 : Addr} {xs ys : Array Value} {Q : Value → Shared → Prop} (hl1 : s.heap.IsTuple l1 xs) (hl2 : s.heap.IsList l2 ys)
    (h : ∀ h', MixAt (s.heap.objs.size + 4) (s.heap.objs.size + 2) (s.heap.objs.size + 3) s.heap.objs.size (s.heap.objs.size + 1) l1 l2 0 h' → (∀ c o, s.heap.get? c = some o → h'.get? c = some o) → Q (.ref (s.heap.objs.size + 4)) { s with heap := h' }) :
    wpAny (model prog w) A (call (.type "zip") [.ref l1, .ref l2]) Q E s := by
  refine callType_new F.called_zip (by decide) (F.typeCall_zip_2 _ _) (F.newCall_zip_2 _ _) (fun obj => F.args_object_init_3 obj _ _) F.entry_zip_new (meets_mix l1 l2 xs ys) ⟨hl1, hl2, ?_⟩
  have z1 : (mixH1 s.heap l1 l2).objs.size = s.heap.objs.size + 1 := Heap.size_push ..
  have z2 : (mixH2 s.heap l1 l2).objs.size = s.heap.objs.size + 2 := (Heap.size_push ..).trans (by rw [z1])
  have z3 : (mixH3 s.heap l1 l2).objs.size = s.heap.objs.size + 3 := (Heap.size_push ..).trans (by rw [z2])
  have z4 : (mixH4 s.heap l1 l2).objs.size = s.heap.objs.size + 4 := (Heap.size_push ..).trans (by rw [z3])
  have up : ∀ {k : Nat} {o : Obj} {c : Addr}, (mixH4 s.heap l1 l2).get? c = some o → (mixH5 s.heap l1 l2).get? c = some o := fun e => Heap.get?_push_of_some _ e
  have u3 : ∀ {o : Obj} {c : Addr}, (mixH3 s.heap l1 l2).get? c = some o → (mixH5 s.heap l1 l2).get? c = some o := fun e => up (k := 0) (Heap.get?_push_of_some _ e)
  have u2 : ∀ {o : Obj} {c : Addr}, (mixH2 s.heap l1 l2).get? c = some o → (mixH5 s.heap l1 l2).get? c = some o := fun e => u3 (Heap.get?_push_of_some _ e)
  have u1 : ∀ {o : Obj} {c : Addr}, (mixH1 s.heap l1 l2).get? c = some o → (mixH5 s.heap l1 l2).get? c = some o := fun e => u2 (Heap.get?_push_of_some _ e)
  have g5 : (mixH5 s.heap l1 l2).get? (mixH4 s.heap l1 l2).objs.size = some _ := Heap.get?_push_size _ rfl
  have g4 : (mixH5 s.heap l1 l2).get? (mixH3 s.heap l1 l2).objs.size = some _ := up (k := 0) (Heap.get?_push_size _ rfl)
  have g3 : (mixH5 s.heap l1 l2).get? (mixH2 s.heap l1 l2).objs.size = some _ := u3 (Heap.get?_push_size _ rfl)
  have g2 : (mixH5 s.heap l1 l2).get? (mixH1 s.heap l1 l2).objs.size = some _ := u2 (Heap.get?_push_size _ rfl)
  have g1 : (mixH5 s.heap l1 l2).get? s.heap.objs.size = some _ := u1 (Heap.get?_push_size _ rfl)
  show _ ∧ _
  rw [z2, z3, z4] at g5
  rw [z1, z2] at g3
  rw [z3] at g4
  rw [z1] at g2
  rw [z4]
  exact ⟨⟨_, g5, rfl⟩, h _ ⟨g5, g3, ⟨_, _, g4⟩, ⟨_, g1, rfl, rfl⟩, ⟨_, g2, rfl, rfl⟩⟩ fun c o x => u1 (Heap.get?_push_of_some _ x)⟩
end
/-- the tuple at a and the list at b as they stand at each turn, the items in new pairs -/
def ItM (K : PySem.W.Frag) (a b : Addr) : It :=
  ⟨fun i H => ∃ (xs ys : List V) (x y : V), SqT K H a xs ∧ SqL K H b ys ∧ xs[i]? = some x ∧ ys[i]? = some y,
    fun i H v H' => ∃ T x y, v = .ref T ∧ H T = none ∧ H' = L2.upd H T (.tup [x, y]) ∧ (∀ xs, SqT K H a xs → xs[i]? = some x) ∧ ∀ ys, SqL K H b ys → ys[i]? = some y,
    fun i H => ∃ xs : List V, SqT K H a xs ∧ xs.length ≤ i⟩
theorem turn_mix {P : Program} {w : World} {K : PySem.W.Frag} {elts : List Expr} {kk : Nat} {tpos : Pos} {a b z TI TO i1 i2 : Addr} (D : ZipApart z TI TO i1 i2 a b) :
    Turn P w K (.Tuple elts kk tpos) (ItM K a b) [z, TI, TO, i1, i2] z (MixAt z TI TO i1 i2 a b) where
  mem := by simp
  obj := fun i h st c hc => by
    obtain ⟨hz, hTI, ⟨x, y, hTO⟩, ⟨o1, e1, _, d1⟩, ⟨o2, e2, _, d2⟩⟩ := st
    rcases (show c = z ∨ c = TI ∨ c = TO ∨ c = i1 ∨ c = i2 by simpa using hc) with rfl | rfl | rfl | rfl | rfl
    · exact ⟨_, hz, fun v q => nomatch q⟩
    · exact ⟨_, hTI, fun v q => nomatch q⟩
    · exact ⟨_, hTO, fun v q => nomatch q⟩
    · exact ⟨o1, e1, fun v q => by rw [d1] at q; cases q⟩
    · exact ⟨o2, e2, fun v q => by rw [d2] at q; cases q⟩
  keep := fun i h h' ⟨hz, hTI, ⟨x, y, hTO⟩, h1, h2⟩ k => ⟨k z (by simp) _ hz, k TI (by simp) _ hTI, ⟨x, y, k TO (by simp) _ hTO⟩, h1.at fun o q => k i1 (by simp) o q, h2.at fun o q => k i2 (by simp) o q⟩
  item := by
    intro X hP hw hK hc i pins s σ H E I hf st hg
    subst hP hw hK
    have st0 := st
    obtain ⟨hz, hTI, ⟨x0, y0, hTO⟩, h1, h2⟩ := st
    obtain ⟨xs, ys, x, y, hqx, hqy, hx, hy⟩ := hg
    obtain ⟨its, rv, p, _⟩ := I.tuple hqx
    obtain ⟨its2, rv2, p2, _⟩ := I.list hqy
    obtain ⟨u, hu, ru⟩ := rv.get hx
    obtain ⟨u2, hu2, ru2⟩ := rv2.get hy
    have hzl : z < s.heap.objs.size := Heap.lt_size hz
    refine mix_item D st0 p p2.isList (x := u) (y := u2) (by simpa using hu) (by simpa using hu2) fun h' z' TO' h1' h2' hT hsz hk => ?_
    refine ⟨_, rfl, wpAny_letOwnedTupleGo_zip (s := { s with heap := h' }) z' fun h'' z'' sb => ?_⟩
    have away : ∀ {c : Addr} {o : Obj}, c ∉ [z, TI, TO, i1, i2] → s.heap.get? c = some o → h''.get? c = some o := fun {c o} n q => by
      simp only [List.mem_cons, List.not_mem_nil, or_false, not_or] at n
      exact (sb.2 c n.1).trans (hk c o n.1 n.2.2.1 n.2.2.2.1 n.2.2.2.2 q)
    have hT2 : h''.get? s.heap.objs.size = some { cls := .type "tuple", data := .seq #[u, u2] } := (sb.2 _ (Nat.ne_of_gt hzl)).trans hT
    have new : ObjOk X.prog X.w (L2.upd H s.heap.objs.size (.tup [x, y])) h'' s.heap.objs.size (.tup [x, y]) := ⟨by show 2 ≤ sizeLine; decide, [u, u2], .cons ru (.cons ru2 .nil), ⟨_, hT2, rfl, _, rfl⟩⟩
    have I1 : Inv X pins σ (L2.upd H s.heap.objs.size (.tup [x, y])) { s with heap := h'' } := I.turnedNew (t' := s.toks) (ch := [z, TI, TO, i1, i2]) (fun c o hb q => away hb q) hf (Nat.le_refl _) new
    refine ⟨.ref s.heap.objs.size, _, I1, rfl, ⟨_, x, y, rfl, I.hok.fresh (Nat.le_refl _), rfl, fun l hl => by rw [I.tuple_inj hl hqx]; exact hx, fun l hl => by rw [I.list_inj hl hqy]; exact hy⟩, ⟨z'', ?_, ⟨u, u2, ?_⟩, ?_, ?_⟩, fun c hcm => ?_⟩
    · exact (sb.2 _ D.TIz).trans (hk _ _ D.TIz D.TITO D.TIi1 D.TIi2 hTI)
    · exact (sb.2 _ D.TOz).trans TO'
    · exact h1'.at fun o q => (sb.2 _ D.i1z).trans q
    · exact h2'.at fun o q => (sb.2 _ D.i2z).trans q
    · have hlt : c < s.heap.objs.size := by
        rcases (show c = z ∨ c = TI ∨ c = TO ∨ c = i1 ∨ c = i2 by simpa using hcm) with rfl | rfl | rfl | rfl | rfl
        · exact hzl
        · exact Heap.lt_size hTI
        · exact Heap.lt_size hTO
        · obtain ⟨_, e1, _⟩ := h1; exact Heap.lt_size e1
        · obtain ⟨_, e2, _⟩ := h2; exact Heap.lt_size e2
      rw [upd_ne (Nat.ne_of_lt hlt)]
      exact (hf c hcm).1
  done := by
    intro X hP hw hK hc i pins s σ H E I hf st hg
    subst hP hw hK
    obtain ⟨xs, hqx, hend⟩ := hg
    obtain ⟨its, rv, p, _⟩ := I.tuple hqx
    have l1 := rv.length
    refine mix_end (I.ok.hd hc) D st p (by simp; omega) fun h' hk => ⟨rfl, I.turnedL (t' := s.toks) (ch := [z, TI, TO, i1, i2]) (fun c o n q => ?_) hf⟩
    simp only [List.mem_cons, List.not_mem_nil, or_false, not_or] at n
    exact hk c o n.1 n.2.2.1 n.2.2.2.1 n.2.2.2.2 q
  self := fun A i s Q E st h => wpAny_pyIter_zip st.1 h
def iZipM (K : PySem.W.Frag) (ta : TA) : TI := fun σ H R => ta σ H fun vs H1 => ∃ a b xs ys, vs = [.ref a, .ref b] ∧ SqT K H1 a xs ∧ SqL K H1 b ys ∧ R (ItM K a b) H1
theorem pi_zipM {X : Cx} {e e2 : Expr} {ta : TA} {p pos tpos : Pos} {elts : List Expr} {kk : Nat} (K : PySem.W.Frag) (hg : Gl X "zip") (hm : X.mg "zip" = none) (ha : PA X [e, e2] ta) (hK : X.K = K := by rfl)
    (hs : starEach [e, e2] X.env = (false, eval e X.env) :: starEach [e2] X.env := by rfl) (hpl : (backTo pos (starEach [e2] X.env)).any (·.1) = false := by rfl) :
    PI X (.Tuple elts kk tpos) (.Call (.Name "zip" p) [e, e2] [] pos) (iZipM K ta) := by
  subst hK
  refine ⟨fun pins s σ H R I h => ?_⟩
  refine Call_ (ld_blt I hg hm PyProof.Rows.boot_zip (PyProof.Rows.callWith_type1 (thn (ha.run pos pins s σ H _ I h) fun us s1 ⟨vs, H1, I1, r1, q1⟩ => ?_) hs hpl))
  obtain ⟨a, b, xs, ys, rfl, hqx, hqy, q⟩ := q1
  cases r1 with
  | cons r rr =>
    cases rr with
    | cons r' rr =>
      cases rr
      cases r
      cases r'
      obtain ⟨its, rv, p1, _⟩ := I1.tuple hqx
      obtain ⟨its2, rv2, p2, _⟩ := I1.list hqy
      obtain ⟨o1, ho1, _⟩ := id p1
      refine call_mix (show s1.heap.IsTuple a its.toArray from p1) p2.isList fun h' m hk => wpAny_pyIter_zip m.1 ?_
      refine ⟨s1.heap.objs.size + 4, [s1.heap.objs.size + 4, s1.heap.objs.size + 2, s1.heap.objs.size + 3, s1.heap.objs.size, s1.heap.objs.size + 1], _, _, H1, rfl, I1.kept (t' := s1.toks) hk, turn_mix (PySem.W.ktu_apart s1.heap.objs.size a b (Heap.lt_size ho1) p2.lt), m, fun c hcm => ?_, q⟩
      have hle : s1.heap.objs.size ≤ c := by
        have le : ∀ k : Nat, s1.heap.objs.size ≤ s1.heap.objs.size + k := fun k => Nat.le_add_right _ _
        rcases (show c = s1.heap.objs.size + 4 ∨ c = s1.heap.objs.size + 2 ∨ c = s1.heap.objs.size + 3 ∨ c = s1.heap.objs.size ∨ c = s1.heap.objs.size + 1 by simpa using hcm) with e | e | e | e | e
        · rw [e]; exact le 4
        · rw [e]; exact le 2
        · rw [e]; exact le 3
        · rw [e]; exact Nat.le_refl _
        · rw [e]; exact le 1
      exact I1.fpOk hle (I1.hok.fresh hle)
theorem walk_mix {K : PySem.W.Frag} {a b : Addr} {xs ys : List V} (hl : xs.length = ys.length) : Walk (ItM K a b) xs.length (fun H => SqT K H a xs ∧ SqL K H b ys) (YPair (xs[·]?) (ys[·]?)) :=
  ⟨fun i _ hi q => ⟨xs, ys, xs[i], ys[i]'(by omega), q.1, q.2, by simp [hi], by rw [List.getElem?_eq_getElem]⟩, fun _ q => ⟨xs, q.1, Nat.le_refl _⟩, fun _ _ _ _ _ q ⟨T, x, y, h1, h2, h3, f1, f2⟩ => ⟨T, x, y, h1, h2, h3, f1 xs q.1, f2 ys q.2⟩⟩
end Hue
namespace Hue
open PySem PySem.Spec PyProof.Rows L2
/-! sum of a tuple -/
def rSumT (K : PySem.W.Frag) : List V → Hp → VK → Prop := fun vs H Q => ∃ (a : Addr) (ns : List Int), vs = [V.ref a] ∧ SqT K H a (ns.map V.int) ∧ Q (.int ns.sum) H
theorem sumT_ {X : Cx} (K : PySem.W.Frag) (hc : X.calm = true) (hK : X.K = K := by rfl) : CallR X (.builtin "sum") (rSumT K) := by
  subst hK
  intro pins s σ H vs us Q I r h
  obtain ⟨a, ns, rfl, hs, q⟩ := h
  obtain ⟨its, rv, p, _⟩ := I.tuple hs
  rw [Vals.ref1 r]
  obtain ⟨xs, e⟩ := rv.ints.allInts.items
  have hn : numsOf (intItems xs).toList = ns := by rw [← e]; exact rv.ints.numsOf
  rw [nums_intItems] at hn
  have p' : s.heap.IsTuple a its.toArray := p
  rw [e] at p'
  refine PySem.W.ktm_sumG (I.ok.hd hc) p' fun h' tk t' hk => ?_
  rw [preSum_eq, List.take_of_length_le (by simp), hn]
  exact ⟨.int _, H, I.kept hk, ⟨_, rfl⟩, q⟩
end Hue

end
section
set_option maxRecDepth 100000
set_option maxHeartbeats 4000000
namespace Hue
open PySem PySem.Spec PyProof.Rows L2
section
variable {P : Program} {w : World} {K : PySem.W.Frag} {mg : Str → Option Value} {base : Heap} {C CL CS CT CR : Addr}
/-! ### weights -/
/-- the counts of those beneath v -/
def belS (n : Nat) (R : Rel) (c : Nat → Int) (v : Nat) : Int := ((Bel n R v).map c).sum
theorem belS_congr {n : Nat} {R : Rel} {c c' : Nat → Int} {v : Nat} (h : ∀ u, u < n → R v u = true → c u = c' u) : belS n R c v = belS n R c' v := by
  unfold belS
  rw [List.map_congr_left fun u hu => ?_]
  have := mem_Bel.mp hu
  exact h u this.1 this.2
theorem below_max (ρ : Nat → Nat) : ∀ n, ∃ M, ∀ u, u < n → ρ u ≤ M
  | 0 => ⟨0, fun u h => absurd h (Nat.not_lt_zero u)⟩
  | n + 1 => by
    obtain ⟨M, hM⟩ := below_max ρ n
    refine ⟨M + ρ n, fun u hu => ?_⟩
    by_cases e : u = n
    · rw [e]; exact Nat.le_add_left _ _
    · have := hM u (by omega); omega
theorem wt_ex {R : Rel} (hR : Ranked R) (n : Nat) (e : Int) : ∃ c : Nat → Int, ∀ v, c v = 1 + e * belS n R c v := by
  obtain ⟨ρ, hρ⟩ := hR
  obtain ⟨M, hM⟩ := below_max ρ n
  refine solve (R := fun u v => decide (u < n) && R v u) ⟨fun v => M - ρ v, fun u v h => ?_⟩ (fun c v => 1 + e * belS n R c v) fun c c' v h => ?_
  · rw [Bool.and_eq_true, decide_eq_true_eq] at h
    have := hρ v u h.2
    have := hM u h.1
    show M - ρ u < M - ρ v
    omega
  · show 1 + e * _ = 1 + e * _
    rw [belS_congr fun u un r => h u (by rw [decide_eq_true un]; exact r)]
theorem repC {H : Hp} {zz : Addr} {n : Nat} {z : Int} (h : H zz = some (.lst [.int z])) (n16 : n ≤ 1000) {Q : VK} (q : ∀ p, H p = none → Q (.ref p) (L2.upd H p (.lst (cL n fun _ => z)))) : rRep (.ref zz) (.int n) H Q :=
  ⟨zz, _, _, rfl, rfl, h, by omega, by omega, by rw [Int.toNat_natCast, sizeLine_eq]; show 1 * n ≤ _; omega, fun p np => by rw [rep_any]; exact q p np⟩
def spWeightsU : Sp := fun vs H Q _ => ∃ (o tb fa : Addr) (n : Nat) (R : Rel) (L : List Nat) (e : Int) (c : Nat → Int), vs = [.ref o, .ref tb, .ref fa] ∧ n ≤ 16 ∧ H o = some (.lst (nL L)) ∧ L.length = n ∧ OrdOk n R L ∧ (∀ v, v < n → v ∈ L) ∧ Rows H tb (relRows n R) ∧ H fa = some (.lst (cL n fun _ => e)) ∧ (0 ≤ e ∧ e < 1000) ∧
  (∀ v, v < n → c v = 1 + e * belS n R c v) ∧ ∀ (H' : Hp) (p : Addr), Same H H' → H p = Option.none → H' p = some (.lst (cL n c)) → Q (.ref p) H'
theorem rows_same {H G : Hp} {tb : Addr} {n k : Nat} {R : Rel} (htb : Rows H tb (relRows n R)) (kn : k < n) : ∃ (ys : List V) (ra : Addr), H tb = some (.lst ys) ∧ ys[k]? = some (.ref ra) ∧ H ra = some (.lst (nL (Bel n R k))) := by
  obtain ⟨as, h1, h2, h3⟩ := id htb
  obtain ⟨ys, ra, a, b, c, d⟩ := Rows.at htb (relRows_at kn)
  exact ⟨ys, ra, a, c, d⟩
/-- the weights that the lamps carry, taken together -/
def worS (n : Nat) (S : List Int) (c : Nat → Int) : Int := ((List.range n).map fun v => at_ S v * c v).sum
def spWorthU : Sp := fun vs H Q _ => ∃ (p t : Addr) (n : Nat) (S : List Int) (c : Nat → Int), vs = [.ref p, .ref t] ∧ n ≤ 16 ∧ H p = some (.lst (cL n c)) ∧ H t = some (.tup (stV S)) ∧ S.length = n ∧ (∀ z ∈ S, 0 ≤ z ∧ z < 1000) ∧ ∀ H', Same H H' → Q (.int (worS n S c)) H'
theorem at_mem {n : Nat} {S : List Int} (l : S.length = n) {v : Nat} (vn : v < n) : at_ S v ∈ S := by
  have z := stV_get (S := S) (k := v) (by rw [l]; exact vn)
  unfold stV at z
  rw [List.getElem?_map] at z
  obtain ⟨y, hy, e⟩ := Option.map_eq_some_iff.mp z
  injection e with e
  rw [← e]
  exact List.mem_of_getElem? hy
/-- what every lamp of a house weighs -/
def Wts (n h : Nat) (R : Rel) (c : Nat → Int) : Prop := ∀ v, v < n → c v = 1 + ((h : Int) - 1) * belS n R c v
def spWeights (C : Addr) : Sp := fun vs H Q _ => ∃ (x : Addr) (n h : Nat) (ps : List (Nat × Nat)) (c : Nat → Int), vs = [.ref x] ∧ HsOk C H x n h ps ∧ n ≤ 16 ∧ 1 ≤ h ∧ h ≤ 10 ∧ Ranked (relOf ps) ∧ Wts n h (relOf ps) c ∧ ∀ (H' : Hp) (p : Addr), Same H H' → H p = Option.none → H' p = some (.lst (cL n c)) → Q (.ref p) H'
def spWorth (C CS : Addr) : Sp := fun vs H Q E => ∃ (x : Addr) (n h : Nat) (ps : List (Nat × Nat)) (c : Nat → Int) (v : V) (d : PyData), vs = [.ref x, v] ∧ HsOk C H x n h ps ∧ n ≤ 16 ∧ 1 ≤ h ∧ h ≤ 10 ∧ Ranked (relOf ps) ∧ Wts n h (relOf ps) c ∧ Lf2 H v d ∧ (stB n h d = false → Odd1 CS "state" v H E) ∧
  ∀ (t : Addr) (S : List Int), v = .ref t → H t = some (.tup (stV S)) → StOk n h S → ∀ H', Same H H' → Q (.int (worS n S c)) H'
def spWorthS (C : Addr) : Sp := fun vs H Q _ => ∃ (x t : Addr) (n h : Nat) (ps : List (Nat × Nat)) (c : Nat → Int) (S : List Int), vs = [.ref x, .ref t] ∧ HsOk C H x n h ps ∧ n ≤ 16 ∧ 1 ≤ h ∧ h ≤ 10 ∧ Ranked (relOf ps) ∧ Wts n h (relOf ps) c ∧ H t = some (.tup (stV S)) ∧ StOk n h S ∧ ∀ H', Same H H' → Q (.int (worS n S c)) H'
theorem worth_st (vs : List V) (H : Hp) (Q : VK) (E : XK) (g : spWorthS C vs H Q E) : spWorth C CS vs H Q fun _ _ _ => False := by
  obtain ⟨x, t, n, h, ps, c, S, e, hs, n16, h1, h10, hR, hc, ht, ok, q⟩ := g
  have l := st_lf2 ht (by rw [ok.1]; omega) (ok.small h10)
  refine ⟨x, n, h, ps, c, _, _, e, hs, n16, h1, h10, hR, hc, l, fun b => ?_, fun t' S' et ht' ok' => ?_⟩
  · rw [lf2_st l ht ok] at b; cases b
  · injection et with et
    subst et
    rw [ht] at ht'
    injection ht' with ht'
    injection ht' with ht'
    have : S = S' := (List.map_inj_right fun a b z => by injection z).mp ht'
    rw [← this]
    exact q
/-! ### the tally of the greatest counts -/
def spCheckReachS (C : Addr) : Sp := fun vs H Q _ => ∃ (x t r : Addr) (n h : Nat) (ps : List (Nat × Nat)) (S D : List Int), vs = [.ref x, .ref t, .ref r] ∧ Two2 C H x t r n h ps S D ∧ obsT n (relOf ps) S D = none ∧ ∀ H' : Hp, Same H H' → Q .non H'
theorem check_reach_st (vs : List V) (H : Hp) (Q : VK) (E : XK) (g : spCheckReachS C vs H Q E) : spCheckReach C CR vs H Q fun _ _ _ => False := by
  obtain ⟨x, t, r, n, h, ps, S, D, e, W, no, q⟩ := g
  exact ⟨x, t, r, n, h, ps, S, D, e, W, fun _ => q, fun k hk => by rw [no] at hk; cases hk⟩
def spGreatT (C CT : Addr) : Sp := fun vs H Q _ => ∃ (x t r : Addr) (n h : Nat) (ps : List (Nat × Nat)) (S D : List Int) (c : Nat → Int), vs = [.ref x, .ref t, .ref r] ∧ Two2 C H x t r n h ps S D ∧ 1 ≤ h ∧ 1 ≤ n ∧ obsT n (relOf ps) S D = none ∧ (∀ v, v < n → c v = mostF n h (relOf ps) S D c v) ∧ (∀ v, v < n → 0 ≤ c v) ∧
  ∀ (H' : Hp) (p : Addr), Same H H' → H p = none → TlOk CT H' p (cL n c) → Q (.ref p) H'
abbrev s_Tally_total : Stmt := inClass (top 31) 4
theorem sc_Tally_total : FnScope ["self"] ["self"] (defScope s_Tally_total) := ⟨rfl, rfl, rfl, by decide +kernel, rfl, by decide +kernel, by decide +kernel⟩
-- slots of Tally.total: 0 self
def spTotal (CT : Addr) : Sp := fun vs H Q _ => ∃ (x : Addr) (ns : List Int), vs = [.ref x] ∧ TlOk CT H x (ns.map V.int) ∧ Q (.int ns.sum) H
theorem ok_total (T : Txt K mg C) (TT : TxtT K mg CT) {f : Addr} {fd : FuncData} (F : Fun K "total" "Tally.total" s_Tally_total f fd) : FnOk P w K mg base CX0 1 f fd ["self"] (spTotal CT) := by
  refine F.ok sc_Tally_total (fun vs H Q E h => ?_) (fun cdv A outer s H vs Q E hr h => ?_)
  · obtain ⟨x, ns, rfl, _⟩ := h; rfl
  · obtain ⟨x, ns, rfl, ⟨dx, fs, t, h1, h2, h3⟩, q⟩ := h
    refine ⟨_, (pss_one (ps_ret (pe_callB (sumT_ K rfl) (by rfl) T.sum b_sum (pa_cons (fld_ K (pv 0)) pa_nil)))), ?_⟩
    exact ⟨_, rfl, x, CT, dx, _, _, rfl, h1, TT.cl, TT.nCounts, h2, t, ns, rfl, SqT.of h3, q⟩
end
end Hue

end
section
set_option maxRecDepth 100000
set_option maxHeartbeats 4000000
namespace Hue
open PySem PySem.Spec PyProof.Rows L2
section
variable {P : Program} {w : World} {K : PySem.W.Frag} {mg : Str → Option Value} {base : Heap} {C CT : Addr}
/-! ### the table, the line and two states -/
structure LW (H : Hp) (lw ln t r : Addr) (n h : Nat) (R : Rel) (line : List Nat) (S D : List Int) : Prop where
  tb : Tb H lw n R
  hl : H ln = some (.lst (nL line))
  ok : OrdOk n R line
  all : ∀ v, v < n → v ∈ line
  len : line.length = n
  ht : H t = some (.tup (stV S))
  hr : H r = some (.tup (stV D))
  okS : StOk n h S
  okD : StOk n h D
  n16 : n ≤ 16
  h1 : 1 ≤ h
  h10 : h ≤ 10
namespace LW
variable {H H' : Hp} {lw ln t r : Addr} {n h : Nat} {R : Rel} {line : List Nat} {S D : List Int}
theorem same (W : LW H lw ln t r n h R line S D) (s : Same H H') : LW H' lw ln t r n h R line S D := ⟨W.tb.same s, s _ _ W.hl, W.ok, W.all, W.len, s _ _ W.ht, s _ _ W.hr, W.okS, W.okD, W.n16, W.h1, W.h10⟩
theorem kS (W : LW H lw ln t r n h R line S D) {k : Nat} (hk : k < n) : (stV S)[k]? = some (V.int (at_ S k)) := stV_get (by rw [W.okS.1]; exact hk)
theorem kD (W : LW H lw ln t r n h R line S D) {k : Nat} (hk : k < n) : (stV D)[k]? = some (V.int (at_ D k)) := stV_get (by rw [W.okD.1]; exact hk)
/-- a cell of the table -/
theorem cell (W : LW H lw ln t r n h R line S D) {u v : Nat} (hu : u < n) (hv : v < n) : ∃ (xs ys : List V) (a : Addr), H lw = some (.lst xs) ∧ xs.length = n ∧ atI xs (u : Int) = some (V.ref a) ∧ H a = some (.lst ys) ∧ atI ys (v : Int) = some (V.bl (R u v)) := by
  obtain ⟨as, la, tb⟩ := W.tb
  have ul : u < as.length := by rw [la]; exact hu
  exact ⟨as.map V.ref, bF n (R u), as[u], tb.1, by rw [List.length_map, la], atI_nat (by rw [List.getElem?_map, List.getElem?_eq_getElem ul]; rfl), tb.2 u _ (List.getElem?_eq_getElem ul), atI_nat (bF_get hv)⟩
theorem lenS (W : LW H lw ln t r n h R line S D) : ∃ xs : List V, H lw = some (.lst xs) ∧ xs.length = n := by
  obtain ⟨as, la, tb⟩ := W.tb
  exact ⟨as.map V.ref, tb.1, by rw [List.length_map, la]⟩
end LW
theorem ord_line {n : Nat} {line : List Nat} {ps : List (Nat × Nat)} (lok : LineOk n line) (dn : Down line ps) : OrdOk n (relOf ps) line ∧ (∀ v, v < n → v ∈ line) ∧ Ranked (relOf ps) := by
  obtain ⟨l, nd, lt⟩ := lok
  have all : ∀ v, v < n → v ∈ line := fun v vn => by
    rcases Classical.em (v ∈ line) with h | h
    · exact h
    · exfalso
      have := nat_nodup_len (v :: line) (List.range n) (List.nodup_cons.mpr ⟨h, nd⟩) fun x hx => by
        rcases List.mem_cons.mp hx with z | z
        · rw [z]; exact List.mem_range.mpr vn
        · exact List.mem_range.mpr (lt x z)
      rw [List.length_cons, l, List.length_range] at this
      omega
  have rk : ∃ ρ : Nat → Nat, ∀ (i k : Nat), line[i]? = some k → ρ k = i := by
    classical
    refine ⟨fun k => if h : ∃ i : Nat, line[i]? = some k then Classical.choose h else 0, fun i k hi => ?_⟩
    have h : ∃ i : Nat, line[i]? = some k := ⟨i, hi⟩
    show (if h : ∃ i : Nat, line[i]? = some k then Classical.choose h else 0) = i
    rw [dif_pos h]
    exact nodup_at nd (Classical.choose_spec h) hi
  obtain ⟨ρ, hρ⟩ := rk
  have up : ∀ i j, relOf ps i j = true → ρ i < ρ j := relOf_rank fun p hp => by
    obtain ⟨x, y, h1, h2, h3⟩ := dn p hp
    rw [hρ x _ h2, hρ y _ h3]; exact h1
  refine ⟨⟨nd, lt, fun q i hq j hj r => ?_⟩, all, ⟨ρ, up⟩⟩
  obtain ⟨p, hp, e⟩ := List.getElem_of_mem (all j hj)
  have hpj : line[p]? = some j := by rw [List.getElem?_eq_getElem hp, e]
  have z := up j i r
  rw [hρ p j hpj, hρ q i hq] at z
  exact List.mem_iff_getElem?.mpr ⟨p, by rw [List.getElem?_take, if_pos z]; exact hpj⟩
/-! ### the obstacle -/
def spObsL : Sp := fun vs H Q _ => ∃ (lw ln t r : Addr) (n h : Nat) (R : Rel) (line : List Nat) (S D : List Int), vs = [.ref lw, .ref t, .ref r] ∧ LW H lw ln t r n h R line S D ∧ ∀ H', Same H H' → Q (oNat (obsT n R S D)) H'
def obsF (n : Nat) (R : Rel) (S D : List Int) (k : Nat) : Bool := difB S D k && (!((Bel n (flip R) k).any fun u => decide (u ∈ difL n S D)) && decide (at_ S k < at_ D k))
theorem obsT_eq (n : Nat) (R : Rel) (S D : List Int) : obsT n R S D = (List.range n).find? (obsF n R S D) := by
  unfold obsT obsO topD difL
  rw [List.find?_filter, List.find?_filter]
  congr 1
  funext k
  unfold obsF difL
  rw [Bool.eq_iff_iff]
  simp only [Bool.and_eq_true, decide_eq_true_eq]
theorem obsF_iff {n : Nat} {R : Rel} {S D : List Int} {k : Nat} : obsF n R S D k = true ↔ at_ S k < at_ D k ∧ ∀ u, u < n → R u k = true → at_ S u = at_ D u := by
  unfold obsF difB
  rw [Bool.and_eq_true, Bool.and_eq_true, Bool.not_eq_true', Bool.not_eq_true', decide_eq_false_iff_not, decide_eq_true_eq, List.any_eq_false]
  constructor
  · rintro ⟨_, h1, h2⟩
    refine ⟨h2, fun u un r => ?_⟩
    have z := h1 u (mem_Bel.mpr ⟨un, r⟩)
    rw [decide_eq_true_eq] at z
    by_cases e : at_ S u = at_ D u
    · exact e
    · exfalso
      refine z (List.mem_filter.mpr ⟨List.mem_range.mpr un, ?_⟩)
      unfold difB
      rw [decide_eq_false e]; rfl
  · rintro ⟨h1, h2⟩
    refine ⟨by omega, fun u hu => ?_, h1⟩
    obtain ⟨un, r⟩ := mem_Bel.mp hu
    rw [decide_eq_true_eq]
    intro z
    obtain ⟨_, z⟩ := List.mem_filter.mp z
    unfold difB at z
    rw [h2 u un r, decide_eq_true rfl] at z
    cases z
def spLeastL : Sp := fun vs H Q _ => ∃ (lw ln t r : Addr) (n h : Nat) (R : Rel) (line : List Nat) (S D : List Int) (c : Nat → Int), vs = [.int h, .ref lw, .ref ln, .ref t, .ref r] ∧ LW H lw ln t r n h R line S D ∧ (∀ v, v < n → c v = leastF n h R S D (fun _ => none) c v) ∧ ∀ (H' : Hp) (p : Addr), Same H H' → H p = none → H' p = some (.lst (cL n c)) → Q (.ref p) H'
abbrev s__law_most : Stmt := top 55
theorem sc__law_most : FnScope ["base", "low", "line", "first", "last", "found", "v", "burden", "u"] ["base", "low", "line", "first", "last"] (defScope s__law_most) := ⟨rfl, rfl, rfl, by decide +kernel, rfl, by decide +kernel, by decide +kernel⟩
-- slots of _law_most: 0 base, 1 low, 2 line, 3 first, 4 last, 5 found, 6 v, 7 burden, 8 u
def spMostL : Sp := fun vs H Q _ => ∃ (lw ln t r : Addr) (n h : Nat) (R : Rel) (line : List Nat) (S D : List Int) (c : Nat → Int), vs = [.int h, .ref lw, .ref ln, .ref t, .ref r] ∧ LW H lw ln t r n h R line S D ∧ (∀ v, v < n → c v = mostF n h R S D c v) ∧ ∀ (H' : Hp) (p : Addr), Same H H' → H p = none → H' p = some (.lst (cL n c)) → Q (.ref p) H'
theorem ok__law_most (T : Txt K mg C) {f : Addr} {fd : FuncData} (F : Fun K "_law_most" "_law_most" s__law_most f fd) : FnOk P w K mg base CX0 1 f fd ["base", "low", "line", "first", "last"] spMostL := by
  refine F.ok sc__law_most (fun vs H Q E h => ?_) (fun cdv A outer s H vs Q E hr h => ?_)
  · obtain ⟨lw, ln, t, r, n, h, R, line, S, D, c, rfl, _⟩ := h; rfl
  · obtain ⟨lw, ln, t, r, n, h, R, line, S, D, c, rfl, W, hc, q⟩ := h
    refine ⟨_, (pss_cons (ps_set (i := 5) sc__law_most.nd rfl (by first | exact Or.inl rfl | exact Or.inr rfl) (pe_op op_rep (pe_lst (pa_cons pe_int pa_nil)) (pe_callB (lenS_ K) (by rfl) T.len b_len (pa_cons (pv 1) pa_nil))))
      (pss_cons (ps_for PassesOwn.never rfl (pil_ K (pv 2)) (pg_name (i := 6) sc__law_most.nd rfl (by first | exact Or.inl rfl | exact Or.inr rfl))
      (pss_cons (ps_set (i := 7) sc__law_most.nd rfl (by first | exact Or.inl rfl | exact Or.inr rfl) (pe_callB (sum_ K rfl) (by rfl) T.sum b_sum (pa_cons (pe_lc (own := [("u", 8)]) (g := gName 8) rfl sc__law_most.nd (pil_ K (pv 2)) (blkOk_by (by kernel_rfl)) (fun _ _ _ _ _ => (pg_name (i := 8) sc__law_most.nd rfl (by first | exact Or.inl rfl | exact Or.inr rfl))) (fun _ _ _ _ _ => (pts_one (pt_val (pe_ix (ixL_ K) (pe_ix (ixL_ K) (pv 1) (pv 8) (fun _ _ => rfl)) (pv 6) (fun _ _ => rfl))))) (fun _ _ _ _ _ => (pe_ix (ixL_ K) (pv 5) (pv 8) (fun _ _ => rfl)))) pa_nil)))
      (pss_one (ps_asg (pe_op op_add (pe_op op_sub (pe_ix (ixT_ K) (pv 3) (pv 6) (fun _ _ => rfl)) (pe_ix (ixT_ K) (pv 4) (pv 6) (fun _ _ => rfl))) (pe_op op_mul (pe_op op_sub (pv 0) pe_int) (pv 7))) (pg_sub (pv 5) (pv 6) set_list)))))
      (pss_one (ps_ret (pv 5))))), ?_⟩
    have n16 := W.n16
    have h10 := W.h10
    have h1 := W.h1
    obtain ⟨xs, hxs, lx⟩ := W.lenS
    refine ⟨by decide, fun z1 nz1 => ⟨_, rfl, lw, _, rfl, .inl (SqL.of (same_new nz1 _ _ hxs)), ?_⟩⟩
    rw [lx]
    refine repZ (n := n) upd_same (by omega) fun pc npc => ?_
    have s1 : Same H (L2.upd (L2.upd H z1 (.lst [.int 0])) pc (.lst (cL n fun _ => 0))) := (same_new nz1).trans (same_new npc)
    have hc1 : (L2.upd (L2.upd H z1 (.lst [.int 0])) pc (.lst (cL n fun _ => 0))) pc = some (.lst (cL n fun _ => 0)) := upd_same
    have fc : H pc = none := (same_new nz1).free npc
    generalize L2.upd (L2.upd H z1 (.lst [.int 0])) pc (.lst (cL n fun _ => 0)) = H1 at s1 hc1 ⊢
    refine ⟨_, rfl, ln, rfl, ⟨_, SqL.of (s1 _ _ W.hl)⟩, ?_⟩
    refine for_list (K := K) (a := ln) (xs := nL line) (fun i σ G => ∃ vv vb : Option V, σ = [some (.int (h : Nat)), some (.ref lw), some (.ref ln), some (.ref t), some (.ref r), some (.ref pc), vv, vb, none] ∧ Same H G ∧ G pc = some (.lst (cL n fun v => if v ∈ line.take i then c v else 0)))
      ⟨_, _, rfl, s1, by rw [hc1]; exact congrArg (fun z => some (HO.lst z)) (cL_congr fun v _ => by rw [List.take_zero, if_neg List.not_mem_nil])⟩ (fun i σ G _ ⟨_, _, _, s, _⟩ => SqL.of (s _ _ W.hl)) ?_ ?_
    · rintro i y σ G hy ⟨vv, vb, rfl, sG, gc⟩
      obtain ⟨k, hk, rfl⟩ := nL_it2 hy
      have kn : k < n := W.ok.lt k (List.mem_of_getElem? hk)
      have WG := W.same sG
      refine ⟨_, rfl, ln, rfl, ⟨_, SqL.of WG.hl⟩, fun D' hD' => ?_⟩
      refine lc_list (xs := nL line) (fun j G2 => G2 D' = some (.lst ((((line.take j).filter fun u => R u k).map c).map V.int)) ∧ Same G G2) ⟨upd_same, same_new hD'⟩ (fun j G2 _ ⟨_, s⟩ => SqL.of (s _ _ WG.hl)) ?_ ?_
      · rintro j y G2 hy ⟨h2, s2⟩
        obtain ⟨u, hu, rfl⟩ := nL_it2 hy
        have un : u < n := W.ok.lt u (List.mem_of_getElem? hu)
        have W2 := WG.same s2
        obtain ⟨as, row, ra, c1, c2, c3, c4, c5⟩ := W2.cell un kn
        have jl : j < 17 := by have := (List.getElem?_eq_some_iff.mp hu).1; rw [W.len] at this; omega
        refine ⟨rfl, _, rfl, _, rfl, lw, _, _, _, rfl, rfl, SqL.of c1, c3, _, rfl, ra, _, _, _, rfl, rfl, SqL.of c4, c5, _, rfl, ?_⟩
        rw [List.take_add_one, hu, List.filter_append]
        refine ite2 (fun hR => ?_) fun hR => ?_
        · have ut : u ∈ line.take i := W.ok.up i k hk u un hR
          refine ⟨_, rfl, _, rfl, pc, _, _, _, rfl, rfl, SqL.of (s2 _ _ gc), atI_nat (cL_get un _), _, h2, ?_, ?_, same_upd s2 hD'⟩
          · rw [List.length_map, List.length_map, sizeLine_eq]
            have := List.length_filter_le (fun u => R u k) (line.take j)
            rw [List.length_take] at this
            omega
          · rw [upd_same, if_pos ut]
            show _ = some (HO.lst (((_ ++ List.filter (fun u => R u k) [u]).map c).map V.int))
            rw [List.filter_cons, if_pos hR, List.map_append, List.map_append]
            rfl
        · show G2 D' = some (HO.lst (((_ ++ List.filter (fun u => R u k) [u]).map c).map V.int)) ∧ _
          rw [List.filter_cons, if_neg hR, List.filter_nil, List.append_nil]
          exact ⟨h2, s2⟩
      rintro G2 ⟨h2, s2⟩
      rw [nL_len, List.take_length] at h2
      have W2 := WG.same s2
      have s02 := sG.trans s2
      have gc2 := s2 _ _ gc
      refine ⟨D', _, rfl, SqL.of h2, ?_⟩
      have eb : ((line.filter fun u => R u k).map c).sum = bur n R c k := ldS_all c W.ok.nd W.ok.lt fun u un _ => W.all u un
      rw [eb]
      have put : ∀ {G5 : Hp}, SB pc G2 G5 → G5 pc = some (.lst ((cL n fun v => if v ∈ line.take i then c v else 0).set k (V.int (c k)))) → ∃ vv vb : Option V, ([some (.int (h : Nat)), some (.ref lw), some (.ref ln), some (.ref t), some (.ref r), some (.ref pc), some (.int (k : Nat)), some (.int (bur n R c k)), none] : L2.St) = [some (.int (h : Nat)), some (.ref lw), some (.ref ln), some (.ref t), some (.ref r), some (.ref pc), vv, vb, none] ∧ Same H G5 ∧ G5 pc = some (.lst (cL n fun v => if v ∈ line.take (i + 1) then c v else 0)) := fun {G5} u5 g5 => by
        refine ⟨_, _, rfl, SB.to_same u5 s02 fc, ?_⟩
        have tk : line.take (i + 1) = line.take i ++ [k] := by rw [List.take_add_one, hk]; rfl
        rw [g5, cL_set kn, tk]
        refine congrArg (fun z => some (HO.lst z)) (cL_congr fun v _ => ?_)
        by_cases e : v = k
        · subst e; rw [if_pos rfl, if_pos (by simp)]
        · rw [if_neg e]
          by_cases e2 : v ∈ line.take i
          · rw [if_pos e2, if_pos (List.mem_append_left _ e2)]
          · rw [if_neg e2, if_neg fun z => ?_]
            rcases List.mem_append.mp z with z | z
            · exact e2 z
            · exact e (by simpa using z)
      have ck := hc k kn
      refine ⟨_, rfl, _, rfl, t, _, _, _, rfl, rfl, SqT.of W2.ht, atI_nat (W.kS kn), _, rfl, _, rfl, r, _, _, _, rfl, rfl, SqT.of W2.hr, atI_nat (W.kD kn), _, _, rfl, rfl, _, rfl, _, _, rfl, rfl, _, rfl, _, _, rfl, rfl, .inl ⟨by omega, by omega⟩, _, _, rfl, rfl, ?_⟩
      show (gSub (tVar 5) (tVar 6) rSetL) (V.int (at_ S k - at_ D k + ((h : Int) - 1) * bur n R c k)) _ _ _
      rw [show at_ S k - at_ D k + ((h : Int) - 1) * bur n R c k = c k by rw [ck]; rfl]
      exact ⟨_, rfl, _, rfl, set_at gc2 (ixN_nat (by rw [cL_len]; exact kn)) fun G5 u5 g5 => put u5 g5⟩
    · rintro σ G ⟨vv, vb, rfl, sG, gc⟩
      refine ⟨_, rfl, q G pc sG fc ?_⟩
      rw [gc, nL_len, List.take_length]
      exact congrArg (fun z => some (HO.lst z)) (cL_congr fun v vn => by rw [if_pos (W.all v vn)])
def spWithL : Sp := fun vs H Q _ => ∃ (lw ln t r : Addr) (n h : Nat) (R : Rel) (line : List Nat) (S D : List Int) (o : Addr) (lot : Nat → Int) (lamp : Nat) (z : Int) (c : Nat → Int), vs = [.int h, .ref lw, .ref ln, .ref t, .ref r, .ref o, .int lamp, .int z] ∧ LW H lw ln t r n h R line S D ∧ H o = some (.lst (cL n lot)) ∧ lamp < n ∧ R lamp lamp = false ∧ (∀ v, v < n → c v = leastF n h R S D (fixL R lot lamp z) c v) ∧ ∀ (H' : Hp) (p : Addr), Same H H' → H p = none → H' p = some (.lst (cL n c)) → Q (.ref p) H'
/-! ### counts that fit -/
abbrev s__law_due_fits : Stmt := top 52
theorem sc__law_due_fits : FnScope ["base", "low", "first", "last", "lot", "v", "burden", "u"] ["base", "low", "first", "last", "lot"] (defScope s__law_due_fits) := ⟨rfl, rfl, rfl, by decide +kernel, rfl, by decide +kernel, by decide +kernel⟩
-- slots of _law_due_fits: 0 base, 1 low, 2 first, 3 last, 4 lot, 5 v, 6 burden, 7 u
def spDueFits : Sp := fun vs H Q _ => ∃ (lw ln t r o : Addr) (n h : Nat) (R : Rel) (line : List Nat) (S D : List Int) (c : Nat → Int), vs = [.int h, .ref lw, .ref t, .ref r, .ref o] ∧ LW H lw ln t r n h R line S D ∧ H o = some (.lst (cL n c)) ∧ (∀ v, v < n → (c v - at_ S v + at_ D v + bur n R c v) % (h : Int) = 0) ∧ (∀ v, v < n → c v ≤ at_ S v + ((h : Int) - 1) * bur n R c v) ∧ ∀ H', Same H H' → Q (.bl true) H'
theorem ok__law_due_fits (T : Txt K mg C) {f : Addr} {fd : FuncData} (F : Fun K "_law_due_fits" "_law_due_fits" s__law_due_fits f fd) : FnOk P w K mg base CX0 1 f fd ["base", "low", "first", "last", "lot"] spDueFits := by
  refine F.ok sc__law_due_fits (fun vs H Q E h => ?_) (fun cdv A outer s H vs Q E hr h => ?_)
  · obtain ⟨lw, ln, t, r, o, n, h, R, line, S, D, c, rfl, _⟩ := h; rfl
  · obtain ⟨lw, ln, t, r, o, n, h, R, line, S, D, c, rfl, W, ho, hm, hb, q⟩ := h
    refine ⟨_, (pss_cons (ps_for PassesOwn.never rfl (pi_range1 (by rfl) T.range (pa_cons (pe_callB (lenS_ K) (by rfl) T.len b_len (pa_cons (pv 1) pa_nil)) pa_nil)) (pg_name (i := 5) sc__law_due_fits.nd rfl (by first | exact Or.inl rfl | exact Or.inr rfl))
      (pss_cons (ps_set (i := 6) sc__law_due_fits.nd rfl (by first | exact Or.inl rfl | exact Or.inr rfl) (pe_callB (sum_ K rfl) (by rfl) T.sum b_sum (pa_cons (pe_lc (own := [("u", 7)]) (g := gName 7) rfl sc__law_due_fits.nd (pi_range1 (by rfl) T.range (pa_cons (pe_callB (lenS_ K) (by rfl) T.len b_len (pa_cons (pv 1) pa_nil)) pa_nil)) (blkOk_by (by kernel_rfl)) (fun _ _ _ _ _ => (pg_name (i := 7) sc__law_due_fits.nd rfl (by first | exact Or.inl rfl | exact Or.inr rfl))) (fun _ _ _ _ _ => (pts_one (pt_val (pe_ix (ixL_ K) (pe_ix (ixL_ K) (pv 1) (pv 7) (fun _ _ => rfl)) (pv 5) (fun _ _ => rfl))))) (fun _ _ _ _ _ => (pe_ix (ixL_ K) (pv 4) (pv 7) (fun _ _ => rfl)))) pa_nil)))
      (pss_cons (ps_if (pt_cmpR op_ne (pe_op op_mod (pe_callTy call_int1 (by rfl) T.int b_int (pa_cons (pe_op op_add (pe_op op_add (pe_op op_sub (pe_ix (ixL_ K) (pv 4) (pv 5) (fun _ _ => rfl)) (pe_ix (ixT_ K) (pv 2) (pv 5) (fun _ _ => rfl))) (pe_ix (ixT_ K) (pv 3) (pv 5) (fun _ _ => rfl))) (pv 6)) pa_nil)) (pv 0)) pe_int (nomark _))
      (pss_one (ps_ret pe_bl)) pss_nil)
      (pss_one (ps_if (pt_cmpR op_gt (pe_ix (ixL_ K) (pv 4) (pv 5) (fun _ _ => rfl)) (pe_op op_add (pe_ix (ixT_ K) (pv 2) (pv 5) (fun _ _ => rfl)) (pe_op op_mul (pe_op op_sub (pv 0) pe_int) (pv 6))) (nomark _))
      (pss_one (ps_ret pe_bl)) pss_nil)))))
      (pss_one (ps_ret pe_bl))), ?_⟩
    have n16 := W.n16
    have h10 := W.h10
    have h1 := W.h1
    obtain ⟨xs, hxs, lx⟩ := W.lenS
    refine ⟨_, rfl, lw, _, rfl, .inl (SqL.of hxs), _, rfl, by omega, by omega, ?_⟩
    rw [lx, Int.toNat_natCast]
    refine for_range (fun i σ G => ∃ v5 v6 : Option V, σ = [some (.int (h : Nat)), some (.ref lw), some (.ref t), some (.ref r), some (.ref o), v5, v6, none] ∧ Same H G) ⟨_, _, rfl, Same.refl _⟩ ?_ ?_
    · rintro v σ G hv ⟨v5, v6, rfl, sG⟩
      have e0 : (0 : Int) + (v : Int) = (v : Int) := by omega
      rw [e0]
      have WG := W.same sG
      obtain ⟨ys, hys, ly⟩ := WG.lenS
      refine ⟨_, rfl, lw, _, rfl, .inl (SqL.of hys), _, rfl, by omega, by omega, fun D' hD' => ?_⟩
      rw [ly, Int.toNat_natCast]
      refine lc_range (fun j G2 => G2 D' = some (.lst ((((List.range j).filter fun u => R u v).map c).map V.int)) ∧ Same G G2) ⟨upd_same, same_new hD'⟩ ?_ ?_
      · rintro u G2 hu ⟨h2, s2⟩
        have e0 : (0 : Int) + (u : Int) = (u : Int) := by omega
        rw [e0]
        have W2 := WG.same s2
        obtain ⟨as, row, ra, c1, c2, c3, c4, c5⟩ := W2.cell hu hv
        refine ⟨rfl, _, rfl, _, rfl, lw, _, _, _, rfl, rfl, SqL.of c1, c3, _, rfl, ra, _, _, _, rfl, rfl, SqL.of c4, c5, _, rfl, ?_⟩
        rw [List.range_succ, List.filter_append]
        refine ite2 (fun hR => ?_) fun hR => ?_
        · refine ⟨_, rfl, _, rfl, o, _, _, _, rfl, rfl, SqL.of ((sG.trans s2) _ _ ho), atI_nat (cL_get hu _), _, h2, ?_, ?_, same_upd s2 hD'⟩
          · rw [List.length_map, List.length_map, sizeLine_eq]
            have := List.length_filter_le (fun u => R u v) (List.range u)
            rw [List.length_range] at this
            omega
          · rw [upd_same, List.filter_cons, if_pos hR, List.map_append, List.map_append]
            rfl
        · rw [List.filter_cons, if_neg hR, List.filter_nil, List.append_nil]
          exact ⟨h2, s2⟩
      rintro G2 ⟨h2, s2⟩
      have W2 := WG.same s2
      have s02 := sG.trans s2
      refine ⟨D', _, rfl, SqL.of h2, ?_⟩
      have eb : (((List.range n).filter fun u => R u v).map c).sum = bur n R c v := rfl
      rw [eb]
      refine ⟨_, rfl, _, rfl, o, _, _, _, rfl, rfl, SqL.of (s02 _ _ ho), atI_nat (cL_get hv c), _, rfl, _, rfl, t, _, _, _, rfl, rfl, SqT.of W2.ht, atI_nat (W.kS hv), _, _, rfl, rfl, _, rfl, _, rfl, r, _, _, _, rfl, rfl, SqT.of W2.hr, atI_nat (W.kD hv), _, _, rfl, rfl, _, rfl, _, _, rfl, rfl, .inl ⟨_, rfl, _, rfl, _, _, rfl, rfl, (by show (0 : Int) < (h : Int); omega), rfl, _, rfl, ?_⟩⟩
      have m0 : (!decide (V.int ((c v - at_ S v + at_ D v + bur n R c v) % (h : Int)) = V.int 0)) = false := by rw [hm v hv]; rfl
      rw [show (fun i j : Int => V.int (i % j)) (c v - at_ S v + at_ D v + bur n R c v) (h : Int) = V.int ((c v - at_ S v + at_ D v + bur n R c v) % (h : Int)) from rfl, m0]
      refine iteF ⟨_, rfl, _, rfl, o, _, _, _, rfl, rfl, SqL.of (s02 _ _ ho), atI_nat (cL_get hv c), _, rfl, _, rfl, t, _, _, _, rfl, rfl, SqT.of W2.ht, atI_nat (W.kS hv), _, rfl, _, _, rfl, rfl, _, rfl, _, _, rfl, rfl, .inl ⟨by omega, by omega⟩, _, _, rfl, rfl, _, _, rfl, rfl, _, rfl, ?_⟩
      have b0 : ¬ decide (at_ S v + ((h : Int) - 1) * bur n R c v < c v) = true := by
        rw [decide_eq_true_eq]
        have := hb v hv
        omega
      exact ite2 (fun y => absurd y b0) fun _ => ⟨_, _, rfl, s02⟩
    · rintro σ G ⟨v5, v6, rfl, sG⟩
      exact q G sG
/-! ### tallies told -/
abbrev s__law_integer : Stmt := top 47
theorem sc__law_integer : FnScope ["value"] ["value"] (defScope s__law_integer) := ⟨rfl, rfl, rfl, by decide +kernel, rfl, by decide +kernel, by decide +kernel⟩
-- slots of _law_integer: 0 value
def spInteger : Sp := fun vs H Q _ => ∃ i : Int, vs = [.int i] ∧ Q (.bl true) H
theorem ok__law_integer (T : Txt K mg C) {f : Addr} {fd : FuncData} (F : Fun K "_law_integer" "_law_integer" s__law_integer f fd) : FnOk P w K mg base CX0 1 f fd ["value"] spInteger := by
  refine F.ok sc__law_integer (fun vs H Q E h => ?_) (fun cdv A outer s H vs Q E hr h => ?_)
  · obtain ⟨i, rfl, _⟩ := h; rfl
  · obtain ⟨i, rfl, q⟩ := h
    refine ⟨_, (pss_one (ps_ret (pe_and (pe_callB (isi_ K) (by rfl) T.isinstance b_isinstance (pa_cons (pv 0) (pa_cons (pe_bltn (v := .ty "int") (by rfl) T.int b_int rfl) pa_nil))) (pe_one (pe_not (pe_callB (isi_ K) (by rfl) T.isinstance b_isinstance (pa_cons (pv 0) (pa_cons (pe_bltn (v := .ty "bool") (by rfl) T.bool b_bool rfl) pa_nil)))))))), ?_⟩
    exact ⟨_, rfl, _, _, _, _, true, rfl, .ty _, .base (.int i), kit_ty (by decide +kernel), true, rfl, iteT ⟨_, rfl, _, _, _, _, false, rfl, .ty _, .base (.int i), kit_ty (by decide +kernel), false, rfl, q⟩⟩
abbrev s__law_row : Stmt := top 48
theorem sc__law_row : FnScope ["value", "due", "k"] ["value", "due"] (defScope s__law_row) := ⟨rfl, rfl, rfl, by decide +kernel, rfl, by decide +kernel, by decide +kernel⟩
-- slots of _law_row: 0 value, 1 due, 2 k
def spRow : Sp := fun vs H Q _ => ∃ (a d : Addr) (n : Nat) (c : Nat → Int), vs = [.ref a, .ref d] ∧ n ≤ 100000 ∧ H a = some (.lst (cL n c)) ∧ H d = some (.lst (cL n c)) ∧ ∀ H', Same H H' → Q (.bl true) H'
theorem ok__law_row (T : Txt K mg C) {f : Addr} {fd : FuncData} (F : Fun K "_law_row" "_law_row" s__law_row f fd) (c__law_integer : Cal P w K mg base "_law_integer" 1 spInteger) : FnOk P w K mg base CX0 2 f fd ["value", "due"] spRow := by
  refine F.ok sc__law_row (fun vs H Q E h => ?_) (fun cdv A outer s H vs Q E hr h => ?_)
  · obtain ⟨a, d, n, c, rfl, _⟩ := h; rfl
  · obtain ⟨a, d, n, c, rfl, n16, ha, hd, q⟩ := h
    refine ⟨_, (pss_cons (ps_if (PW.pt (pw_or (pt_not (pt_val (pe_callB (isi_ K) (by rfl) T.isinstance b_isinstance (pa_cons (pv 0) (pa_cons (pe_bltn (v := .ty "list") (by rfl) T.list b_list rfl) pa_nil))))) (pw_or1 (pt_cmpR op_ne (pe_callB (lenS_ K) (by rfl) T.len b_len (pa_cons (pv 0) pa_nil)) (pe_callB (lenS_ K) (by rfl) T.len b_len (pa_cons (pv 1) pa_nil)) (nomark _)))))
      (pss_one (ps_ret pe_bl)) pss_nil)
      (pss_one (ps_ret (pe_callB (all_ K rfl) (by rfl) T.all b_all (pa_cons (pe_lc (own := [("k", 2)]) (g := gName 2) (tt := tYes) rfl sc__law_row.nd (pi_range1 (by rfl) T.range (pa_cons (pe_callB (lenS_ K) (by rfl) T.len b_len (pa_cons (pv 1) pa_nil)) pa_nil)) (blkOk_by (by kernel_rfl)) (fun _ _ _ _ _ => (pg_name (i := 2) sc__law_row.nd rfl (by first | exact Or.inl rfl | exact Or.inr rfl))) (fun _ _ _ _ _ => pts_nil) (fun _ _ _ _ _ => (pe_and (pe_cal c__law_integer (hr.mono (by decide)) (pa_cons (pe_ix (ixL_ K) (pv 0) (pv 2) (fun _ _ => rfl)) pa_nil)) (pe_one (pe_cmpR op_eq (pe_ix (ixL_ K) (pv 0) (pv 2) (fun _ _ => rfl)) (pe_ix (ixL_ K) (pv 1) (pv 2) (fun _ _ => rfl)) (nomark _)))))) pa_nil))))), ?_⟩
    refine ⟨_, rfl, _, _, _, _, true, rfl, .ty _, .base (.lst ha), kit_ty (by decide +kernel), true, rfl, iteF ?_⟩
    refine ⟨_, rfl, a, _, rfl, .inl (SqL.of ha), _, rfl, d, _, rfl, .inl (SqL.of hd), rfl, _, rfl, ?_⟩
    refine ite2 (fun hn => ?_) fun _ => ?_
    · rw [decide_eq_true rfl] at hn; cases hn
    refine ⟨_, rfl, d, _, rfl, .inl (SqL.of hd), _, rfl, by rw [cL_len]; omega, by rw [cL_len]; omega, fun D hD => ?_⟩
    rw [cL_len, Int.toNat_natCast]
    refine lc_range (fun i G => G D = some (.lst ((List.replicate i true).map V.bl)) ∧ Same H G) ⟨upd_same, same_new hD⟩ ?_ ?_
    · rintro i G hi ⟨h4, s4⟩
      have e0 : (0 : Int) + (i : Int) = (i : Int) := by omega
      rw [e0]
      refine ⟨rfl, yesT ⟨_, rfl, _, rfl, a, _, _, _, rfl, rfl, SqL.of (s4 _ _ ha), atI_nat (cL_get hi c), c i, rfl, true, rfl, iteT ⟨_, rfl, _, rfl, a, _, _, _, rfl, rfl, SqL.of (s4 _ _ ha), atI_nat (cL_get hi c), _, rfl, _, rfl, d, _, _, _, rfl, rfl, SqL.of (s4 _ _ hd), atI_nat (cL_get hi c), rfl, ?_⟩⟩⟩
      refine ⟨_, h4, by rw [List.length_map, List.length_replicate, sizeLine_eq]; omega, ?_, same_upd s4 hD⟩
      rw [upd_same, decide_eq_true rfl, List.replicate_succ', List.map_append]
      rfl
    rintro G ⟨h4, s4⟩
    refine ⟨D, _, rfl, SqL.of h4, ?_⟩
    have e : (List.replicate n true).all id = true := by rw [List.all_eq_true]; intro b hb; rw [(List.mem_replicate.mp hb).2]; rfl
    rw [e]
    exact q G s4
abbrev s__law_counts : Stmt := top 49
theorem sc__law_counts : FnScope ["value", "due"] ["value", "due"] (defScope s__law_counts) := ⟨rfl, rfl, rfl, by decide +kernel, rfl, by decide +kernel, by decide +kernel⟩
-- slots of _law_counts: 0 value, 1 due
def spCountsL (CT : Addr) : Sp := fun vs H Q _ => ∃ (x d : Addr) (n : Nat) (c : Nat → Int), vs = [.ref x, .ref d] ∧ n ≤ 1000 ∧ TlOk CT H x (cL n c) ∧ H d = some (.lst (cL n c)) ∧ ∀ H', Same H H' → Q (.bl true) H'
theorem ok__law_counts (T : Txt K mg C) (TT : TxtT K mg CT) (kT : PySem.W.kitOne K (.ref CT) (.ref CT) = some true) {f : Addr} {fd : FuncData} (F : Fun K "_law_counts" "_law_counts" s__law_counts f fd) (c__law_row : Cal P w K mg base "_law_row" 2 spRow) : FnOk P w K mg base CX0 3 f fd ["value", "due"] (spCountsL CT) := by
  refine F.ok sc__law_counts (fun vs H Q E h => ?_) (fun cdv A outer s H vs Q E hr h => ?_)
  · obtain ⟨x, d, n, c, rfl, _⟩ := h; rfl
  · obtain ⟨x, d, n, c, rfl, n16, ⟨dx, fs, t, h1, h2, h3⟩, hd, q⟩ := h
    refine ⟨_, (pss_cons (ps_if (PW.pt (pw_or (pt_not (pt_val (pe_callB (isi_ K) (by rfl) T.isinstance b_isinstance (pa_cons (pv 0) (pa_cons (pe_glob (v := .ref CT) (by rfl) TT.mgT rfl) pa_nil))))) (pw_or1 (pt_not (pt_val (pe_callB (isi_ K) (by rfl) T.isinstance b_isinstance (pa_cons (fld_ K (pv 0)) (pa_cons (pe_bltn (v := .ty "tuple") (by rfl) T.tuple b_tuple rfl) pa_nil))))))))
      (pss_one (ps_ret pe_bl)) pss_nil)
      (pss_one (ps_ret (pe_cal c__law_row (hr.mono (by decide)) (pa_cons (pe_callTy (lstOf_ K) (by rfl) T.list b_list (pa_cons (fld_ K (pv 0)) pa_nil)) (pa_cons (pv 1) pa_nil)))))), ?_⟩
    refine ⟨_, rfl, _, _, _, _, true, rfl, .own _, .base (.ins h1 TT.cl TT.ca TT.gs TT.tk TT.mo), kT, true, rfl, iteF ?_⟩
    refine ⟨_, rfl, x, CT, dx, _, _, rfl, h1, TT.cl, TT.nCounts, h2, _, _, _, _, true, rfl, .ty _, .base (.tup h3), kit_ty (by decide +kernel), true, rfl, iteF ?_⟩
    refine ⟨_, rfl, x, CT, dx, _, _, rfl, h1, TT.cl, TT.nCounts, h2, t, _, rfl, .inr (SqT.of h3), fun l nl => ?_⟩
    exact ⟨_, rfl, l, d, n, c, rfl, by omega, upd_same, same_new nl _ _ hd, fun H' s => q H' ((same_new nl).trans s)⟩
end
end Hue

end
section
set_option maxRecDepth 100000
set_option maxHeartbeats 4000000
namespace Hue
open PySem PySem.Spec PyProof.Rows L2
/-! ### counts of a run -/
/-- the counts fit by their remainders -/
def Cong (n h : Nat) (R : Rel) (S D : List Int) (c : Nat → Int) : Prop := ∀ v, v < n → (c v - at_ S v + at_ D v + bur n R c v) % (h : Int) = 0
theorem ldS_nonneg {R : Rel} {c : Nat → Int} {v : Nat} : ∀ {M : List Nat}, (∀ u ∈ M, R u v = true → 0 ≤ c u) → 0 ≤ ldS M R c v := fun {M} h => by
  unfold ldS
  induction M with
  | nil => exact Int.le_refl 0
  | cons u M ih =>
    have z := ih fun w hw => h w (List.mem_cons_of_mem _ hw)
    by_cases r : R u v = true
    · rw [List.filter_cons, if_pos r, List.map_cons, List.sum_cons]
      have := h u List.mem_cons_self r
      omega
    · rw [List.filter_cons, if_neg r]
      exact z
theorem ldS_ge {R : Rel} {c : Nat → Int} {v w : Nat} : ∀ {M : List Nat}, (∀ u ∈ M, R u v = true → 0 ≤ c u) → w ∈ M → R w v = true → c w ≤ ldS M R c v
  | [], _, hw, _ => absurd hw List.not_mem_nil
  | u :: M, h, hw, r => by
    have z0 : 0 ≤ ldS M R c v := ldS_nonneg fun x hx => h x (List.mem_cons_of_mem _ hx)
    unfold ldS at z0 ⊢
    rcases List.mem_cons.mp hw with e | hw
    · rw [← e, List.filter_cons, if_pos r, List.map_cons, List.sum_cons]
      omega
    · have z := ldS_ge (fun x hx => h x (List.mem_cons_of_mem _ hx)) hw r
      unfold ldS at z
      by_cases ru : R u v = true
      · rw [List.filter_cons, if_pos ru, List.map_cons, List.sum_cons]
        have := h u List.mem_cons_self ru
        omega
      · rw [List.filter_cons, if_neg ru]; exact z
theorem ldS_pos {R : Rel} {c : Nat → Int} {v : Nat} : ∀ {M : List Nat}, 0 < ldS M R c v → ∃ u ∈ M, R u v = true ∧ 0 < c u
  | [], h => absurd h (by unfold ldS; exact Int.lt_irrefl 0)
  | u :: M, h => by
    by_cases r : R u v = true
    · by_cases p : 0 < c u
      · exact ⟨u, List.mem_cons_self, r, p⟩
      · have z : 0 < ldS M R c v := by
          unfold ldS at h ⊢
          rw [List.filter_cons, if_pos r, List.map_cons, List.sum_cons] at h
          omega
        obtain ⟨w, hw, q⟩ := ldS_pos z
        exact ⟨w, List.mem_cons_of_mem _ hw, q⟩
    · have z : 0 < ldS M R c v := by
        unfold ldS at h ⊢
        rw [List.filter_cons, if_neg r] at h
        exact h
      obtain ⟨w, hw, q⟩ := ldS_pos z
      exact ⟨w, List.mem_cons_of_mem _ hw, q⟩
theorem ldS_sub {h : Int} {R : Rel} {c c' : Nat → Int} {v : Nat} : ∀ {M : List Nat}, (∀ u ∈ M, R u v = true → (c u - c' u) % h = 0) → (ldS M R c v - ldS M R c' v) % h = 0
  | [], _ => by unfold ldS; simp
  | u :: M, g => by
    have z := ldS_sub (M := M) fun x hx => g x (List.mem_cons_of_mem _ hx)
    unfold ldS at z ⊢
    by_cases r : R u v = true
    · rw [List.filter_cons, if_pos r, List.map_cons, List.map_cons, List.sum_cons, List.sum_cons]
      have e := g u List.mem_cons_self r
      have d1 := Int.dvd_of_emod_eq_zero z
      have d2 := Int.dvd_of_emod_eq_zero e
      refine Int.emod_eq_zero_of_dvd ?_
      have d3 := Int.dvd_add d2 d1
      rw [show c u - c' u + ((List.map c (List.filter (fun u => R u v) M)).sum - (List.map c' (List.filter (fun u => R u v) M)).sum) = c u + (List.map c (List.filter (fun u => R u v) M)).sum - (c' u + (List.map c' (List.filter (fun u => R u v) M)).sum) by omega] at d3
      exact d3
    · rw [List.filter_cons, if_neg r]
      exact z
/-- any two such counts differ by a multiple -/
theorem cong_eq {n h : Nat} {R : Rel} {S D : List Int} {c c' : Nat → Int} (hR : Ranked R) (a : Cong n h R S D c) (b : Cong n h R S D c') : ∀ v, v < n → (c v - c' v) % (h : Int) = 0 := by
  obtain ⟨ρ, hρ⟩ := hR
  have key : ∀ m v, ρ v ≤ m → v < n → (c v - c' v) % (h : Int) = 0 := by
    intro m
    induction m with
    | zero =>
      intro v hv vn
      have z : (bur n R c v - bur n R c' v) % (h : Int) = 0 := ldS_sub fun u _ r => by have := hρ u v r; omega
      have d1 := Int.dvd_of_emod_eq_zero (a v vn)
      have d2 := Int.dvd_of_emod_eq_zero (b v vn)
      have d3 := Int.dvd_of_emod_eq_zero z
      have d4 := Int.dvd_sub (Int.dvd_sub d1 d2) d3
      refine Int.emod_eq_zero_of_dvd ?_
      rw [show c v - at_ S v + at_ D v + bur n R c v - (c' v - at_ S v + at_ D v + bur n R c' v) - (bur n R c v - bur n R c' v) = c v - c' v by omega] at d4
      exact d4
    | succ m ih =>
      intro v hv vn
      have z : (bur n R c v - bur n R c' v) % (h : Int) = 0 := ldS_sub fun u hu r => ih u (by have := hρ u v r; omega) (List.mem_range.mp hu)
      have d1 := Int.dvd_of_emod_eq_zero (a v vn)
      have d2 := Int.dvd_of_emod_eq_zero (b v vn)
      have d3 := Int.dvd_of_emod_eq_zero z
      have d4 := Int.dvd_sub (Int.dvd_sub d1 d2) d3
      refine Int.emod_eq_zero_of_dvd ?_
      rw [show c v - at_ S v + at_ D v + bur n R c v - (c' v - at_ S v + at_ D v + bur n R c' v) - (bur n R c v - bur n R c' v) = c v - c' v by omega] at d4
      exact d4
  exact fun v vn => key (ρ v) v (Nat.le_refl _) vn
/-- where a lamp differs, something above a lamp beneath it counts -/
theorem load_pos {n h : Nat} {R : Rel} {S D : List Int} {c : Nat → Int} (okS : StOk n h S) (okD : StOk n h D) (tr : Trans R) (a : Cong n h R S D c) {v : Nat} (pos : ∀ u, u < n → R u v = true → 0 ≤ c u) {u : Nat} (un : u < n) (r : R u v = true) (ne : at_ S u ≠ at_ D u) : 1 ≤ bur n R c v := by
  have p0 : ∀ x ∈ List.range n, R x v = true → 0 ≤ c x := fun x hx => pos x (List.mem_range.mp hx)
  by_cases cu : 0 < c u
  · have := ldS_ge p0 (List.mem_range.mpr un) r
    unfold bur
    omega
  · have c0 : c u = 0 := by have := pos u un r; omega
    by_cases bu : 0 < bur n R c u
    · obtain ⟨w, hw, rw_, pw⟩ := ldS_pos bu
      have := ldS_ge p0 hw (tr w u v rw_ r)
      unfold bur
      omega
    · exfalso
      have b0 : 0 ≤ bur n R c u := ldS_nonneg fun x hx rx => pos x (List.mem_range.mp hx) (tr x u v rx r)
      have z := a u un
      rw [c0, show bur n R c u = 0 by omega] at z
      have s1 := okS.at un
      have d1 := okD.at un
      have dv := Int.dvd_of_emod_eq_zero z
      obtain ⟨q, hq⟩ := dv
      rw [show (0 : Int) - at_ S u + at_ D u + 0 = at_ D u - at_ S u by omega] at hq
      have : q = 0 := by
        rcases Int.lt_trichotomy q 0 with y | y | y
        · have : (h : Int) * q ≤ (h : Int) * (-1) := Int.mul_le_mul_of_nonneg_left (by omega) (by omega)
          omega
        · exact y
        · have : (h : Int) * 1 ≤ (h : Int) * q := Int.mul_le_mul_of_nonneg_left (by omega) (by omega)
          omega
      rw [this, Int.mul_zero] at hq
      omega
/-- no obstacle -/
def NoObs (n : Nat) (R : Rel) (S D : List Int) : Prop := ∀ v, v < n → at_ S v < at_ D v → ∃ u, u < n ∧ R u v = true ∧ at_ S u ≠ at_ D u
theorem no_obs {n : Nat} {R : Rel} {S D : List Int} (h : obsT n R S D = none) : NoObs n R S D := fun v vn lt => by
  rw [obsT_eq] at h
  have z := List.find?_eq_none.mp h v (List.mem_range.mpr vn)
  rw [obsF_iff] at z
  apply Classical.byContradiction
  intro no
  refine z ⟨lt, fun u un r => ?_⟩
  apply Classical.byContradiction
  intro ne
  exact no ⟨u, un, r, ne⟩
section
variable {n h : Nat} {R : Rel} {S D : List Int} {few lot c : Nat → Int}
theorem few_cong (hf : ∀ v, v < n → few v = leastF n h R S D (fun _ => none) few v) : Cong n h R S D few := fun v vn => by
  have e : few v = (at_ S v - at_ D v - bur n R few v) % (h : Int) := hf v vn
  have z := Int.emod_emod_of_dvd (at_ S v - at_ D v - bur n R few v) (Int.dvd_refl (h : Int))
  rw [← e] at z
  have z2 := Int.emod_emod_of_dvd (at_ S v - at_ D v - bur n R few v) (Int.dvd_refl (h : Int))
  have d := Int.emod_sub_cancel_right (n := (h : Int)) (m := few v) (k := at_ S v - at_ D v - bur n R few v) (at_ S v - at_ D v - bur n R few v)
  have y := d.mpr (by rw [e, Int.emod_emod_of_dvd _ (Int.dvd_refl (h : Int))])
  rw [Int.sub_self, Int.zero_emod] at y
  rw [show few v - at_ S v + at_ D v + bur n R few v = few v - (at_ S v - at_ D v - bur n R few v) by omega]
  exact y
theorem few_range (h1 : 1 ≤ h) (hf : ∀ v, v < n → few v = leastF n h R S D (fun _ => none) few v) : ∀ v, v < n → 0 ≤ few v ∧ few v < (h : Int) := fun v vn => by
  have e : few v = (at_ S v - at_ D v - bur n R few v) % (h : Int) := hf v vn
  rw [e]
  exact ⟨Int.emod_nonneg _ (by omega), Int.emod_lt_of_pos _ (by omega)⟩
theorem most_cong (hl : ∀ v, v < n → lot v = mostF n h R S D lot v) : Cong n h R S D lot := fun v vn => by
  have e : lot v = at_ S v - at_ D v + ((h : Int) - 1) * bur n R lot v := hl v vn
  rw [Int.sub_mul, Int.one_mul] at e
  refine Int.emod_eq_zero_of_dvd ⟨bur n R lot v, ?_⟩
  omega
theorem mul_ge {a b : Int} (ha : 0 ≤ a) (hb : 1 ≤ b) : a ≤ a * b := by
  have := Int.mul_le_mul_of_nonneg_left hb ha
  rw [Int.mul_one] at this
  exact this
theorem most_nonneg (h1 : 1 ≤ h) (hR : Ranked R) (tr : Trans R) (okS : StOk n h S) (okD : StOk n h D) (no : NoObs n R S D) (hl : ∀ v, v < n → lot v = mostF n h R S D lot v) : ∀ v, v < n → 0 ≤ lot v := by
  obtain ⟨ρ, hρ⟩ := hR
  have key : ∀ m v, ρ v < m → v < n → 0 ≤ lot v := by
    intro m
    induction m with
    | zero => intro v hv; omega
    | succ m ih =>
      intro v hv vn
      have pos : ∀ u, u < n → R u v = true → 0 ≤ lot u := fun u un r => ih u (by have := hρ u v r; omega) un
      have e : lot v = at_ S v - at_ D v + ((h : Int) - 1) * bur n R lot v := hl v vn
      have s1 := okS.at vn
      have d1 := okD.at vn
      have b0 : 0 ≤ bur n R lot v := ldS_nonneg fun x hx r => pos x (List.mem_range.mp hx) r
      by_cases lt : at_ S v < at_ D v
      · obtain ⟨u, un, r, ne⟩ := no v vn lt
        have b1 := load_pos okS okD tr (most_cong hl) pos un r ne
        have := mul_ge (a := (h : Int) - 1) (by omega) b1
        omega
      · have := Int.mul_nonneg (show (0 : Int) ≤ (h : Int) - 1 by omega) b0
        omega
  exact fun v vn => key (ρ v + 1) v (Nat.lt_succ_self _) vn
theorem few_le (h1 : 1 ≤ h) (hR : Ranked R) (tr : Trans R) (okS : StOk n h S) (okD : StOk n h D) (no : NoObs n R S D) (hf : ∀ v, v < n → few v = leastF n h R S D (fun _ => none) few v) (hl : ∀ v, v < n → lot v = mostF n h R S D lot v) : ∀ v, v < n → few v ≤ lot v ∧ (lot v - few v) % (h : Int) = 0 := fun v vn => by
  have z := cong_eq hR (most_cong hl) (few_cong hf) v vn
  have l0 := most_nonneg h1 hR tr okS okD no hl v vn
  obtain ⟨f0, f1⟩ := few_range h1 hf v vn
  refine ⟨?_, z⟩
  obtain ⟨q, hq⟩ := Int.dvd_of_emod_eq_zero z
  rcases Int.lt_or_le q 0 with y | y
  · have := Int.mul_le_mul_of_nonneg_left (show q ≤ -1 by omega) (show (0 : Int) ≤ (h : Int) by omega)
    omega
  · have := Int.mul_nonneg (show (0 : Int) ≤ (h : Int) by omega) y
    omega
/-- a bound of all counts -/
theorem most_bound {line : List Nat} (h10 : h ≤ 10) (h1 : 1 ≤ h) (okS : StOk n h S) (okD : StOk n h D) (ok : OrdOk n R line) (all : ∀ v, v < n → v ∈ line) (n16 : line.length ≤ 16) (pos : ∀ v, v < n → 0 ≤ lot v) (hl : ∀ v, v < n → lot v = mostF n h R S D lot v) : ∀ v, v < n → lot v < 10 ^ 16 := by
  have sumle : ∀ (M : List Nat) (v : Nat), (∀ u ∈ M, 0 ≤ lot u) → ldS M R lot v ≤ (M.map lot).sum := by
    intro M v
    induction M with
    | nil => intro _; exact Int.le_refl 0
    | cons u M ih =>
      intro h
      have z := ih fun w hw => h w (List.mem_cons_of_mem _ hw)
      have u0 := h u List.mem_cons_self
      rw [List.map_cons, List.sum_cons]
      unfold ldS at z ⊢
      by_cases r : R u v = true
      · rw [List.filter_cons, if_pos r, List.map_cons, List.sum_cons]; omega
      · rw [List.filter_cons, if_neg r]; omega
  have step : ∀ i : Nat, i ≤ line.length → ((line.take i).map lot).sum + 1 ≤ 10 ^ i := by
    intro i
    induction i with
    | zero => intro _; rw [List.take_zero]; show (0 : Int) + 1 ≤ 1; decide
    | succ i ih =>
      intro hi
      have z := ih (by omega)
      obtain ⟨k, hk⟩ : ∃ k, line[i]? = some k := ⟨_, List.getElem?_eq_getElem (by omega)⟩
      have kn := ok.lt k (List.mem_of_getElem? hk)
      rw [List.take_add_one, hk, List.map_append, List.sum_append]
      show _ + ([lot k].sum) + 1 ≤ _
      rw [List.sum_cons, List.sum_nil]
      have e : lot k = at_ S k - at_ D k + ((h : Int) - 1) * bur n R lot k := hl k kn
      have eb : ldS (line.take i) R lot k = bur n R lot k := ldS_all lot (ok.nd.sublist (List.take_sublist _ _)) (fun u hu => ok.lt u (List.mem_of_mem_take hu)) (ok.up i k hk)
      have b1 := sumle (line.take i) k fun u hu => pos u (ok.lt u (List.mem_of_mem_take hu))
      rw [eb] at b1
      have b0 : 0 ≤ bur n R lot k := ldS_nonneg fun u hu _ => pos u (List.mem_range.mp hu)
      have s1 := okS.at kn
      have d1 := okD.at kn
      have m1 := Int.mul_le_mul_of_nonneg_right (show (h : Int) - 1 ≤ 9 by omega) b0
      rw [Int.pow_succ]
      omega
  intro v vn
  obtain ⟨i, hi, e⟩ := List.getElem_of_mem (all v vn)
  have z := step (i + 1) hi
  have hk : line[i]? = some v := by rw [List.getElem?_eq_getElem hi, e]
  rw [List.take_add_one, hk, List.map_append, List.sum_append] at z
  have z : ((line.take i).map lot).sum + [lot v].sum + 1 ≤ 10 ^ (i + 1) := z
  rw [List.sum_cons, List.sum_nil] at z
  have p0 : 0 ≤ ((line.take i).map lot).sum := by
    have : ∀ M : List Nat, (∀ u ∈ M, 0 ≤ lot u) → 0 ≤ (M.map lot).sum := by
      intro M
      induction M with
      | nil => intro _; exact Int.le_refl 0
      | cons u M ih =>
        intro h
        rw [List.map_cons, List.sum_cons]
        have := h u List.mem_cons_self
        have := ih fun w hw => h w (List.mem_cons_of_mem _ hw)
        omega
    exact this _ fun u hu => pos u (ok.lt u (List.mem_of_mem_take hu))
  have pw : (10 : Int) ^ (i + 1) ≤ 10 ^ 16 := by
    have : (10 : Nat) ^ (i + 1) ≤ 10 ^ 16 := Nat.pow_le_pow_right (by decide) (by omega)
    exact_mod_cast this
  omega
/-- the counts that one count fixes -/
theorem fix_all {k : Nat} {z : Int} (h1 : 1 ≤ h) (hR : Ranked R) (tr : Trans R) (okS : StOk n h S) (okD : StOk n h D) (no : NoObs n R S D) (hf : ∀ v, v < n → few v = leastF n h R S D (fun _ => none) few v) (hl : ∀ v, v < n → lot v = mostF n h R S D lot v) (kn : k < n) (g : goodN h (few k) (lot k) z)
    (hc : ∀ v, v < n → c v = leastF n h R S D (fixL R lot k z) c v) : (∀ v, v < n → 0 ≤ c v) ∧ Cong n h R S D c ∧ ∀ v, v < n → c v ≤ at_ S v + ((h : Int) - 1) * bur n R c v := by
  have irr : R k k = false := by
    obtain ⟨ρ, hρ⟩ := hR
    cases e : R k k with
    | false => rfl
    | true => exact absurd (hρ k k e) (Nat.lt_irrefl _)
  have c_k : c k = z := by rw [hc k kn]; unfold leastF fixL; rw [if_pos rfl]
  have c_up : ∀ u, u < n → R u k = true → c u = lot u := fun u un r => by
    rw [hc u un]; unfold leastF fixL
    rw [if_neg (fun e => by rw [e, irr] at r; cases r), if_pos r]
  have c_el : ∀ v, v < n → v ≠ k → ¬ R v k = true → c v = (at_ S v - at_ D v - bur n R c v) % (h : Int) := fun v vn e r => by
    have z := hc v vn
    unfold leastF fixL at z
    rw [if_neg e, if_neg r] at z
    exact z
  have b_up : ∀ v, v < n → (v = k ∨ R v k = true) → bur n R c v = bur n R lot v := fun v vn e => bur_congr fun u un r => c_up u un (by
    rcases e with e | e
    · rw [e] at r; exact r
    · exact tr u v k r e)
  have lot0 := most_nonneg h1 hR tr okS okD no hl
  have few0 := (few_range h1 hf k kn).1
  have pos : ∀ v, v < n → 0 ≤ c v := fun v vn => by
    by_cases e : v = k
    · rw [e, c_k]; have := g.1; omega
    · by_cases r : R v k = true
      · rw [c_up v vn r]; exact lot0 v vn
      · rw [c_el v vn e r]; exact Int.emod_nonneg _ (by omega)
  have cg : Cong n h R S D c := fun v vn => by
    by_cases e : v = k
    · rw [b_up v vn (.inl e), e, c_k]
      have d1 := Int.dvd_of_emod_eq_zero (most_cong hl k kn)
      have d2 := Int.dvd_of_emod_eq_zero g.2.2
      have d3 := Int.dvd_of_emod_eq_zero (few_le h1 hR tr okS okD no hf hl k kn).2
      have d4 := Int.dvd_add d1 (Int.dvd_sub d2 d3)
      refine Int.emod_eq_zero_of_dvd ?_
      rw [show lot k - at_ S k + at_ D k + bur n R lot k + (z - few k - (lot k - few k)) = z - at_ S k + at_ D k + bur n R lot k by omega] at d4
      exact d4
    · by_cases r : R v k = true
      · rw [b_up v vn (.inr r), c_up v vn r]
        exact most_cong hl v vn
      · have ce := c_el v vn e r
        have d := Int.emod_sub_cancel_right (n := (h : Int)) (m := c v) (k := at_ S v - at_ D v - bur n R c v) (at_ S v - at_ D v - bur n R c v)
        have y := d.mpr (by rw [ce, Int.emod_emod_of_dvd _ (Int.dvd_refl (h : Int))])
        rw [Int.sub_self, Int.zero_emod] at y
        rw [show c v - at_ S v + at_ D v + bur n R c v = c v - (at_ S v - at_ D v - bur n R c v) by omega]
        exact y
  refine ⟨pos, cg, fun v vn => ?_⟩
  have s1 := okS.at vn
  have d1 := okD.at vn
  by_cases e : v = k
  · rw [b_up v vn (.inl e), e, c_k]
    have := g.2.1
    have hl' : lot k = at_ S k - at_ D k + ((h : Int) - 1) * bur n R lot k := hl k kn
    rw [e] at d1
    omega
  · by_cases r : R v k = true
    · rw [b_up v vn (.inr r), c_up v vn r]
      have hl' : lot v = at_ S v - at_ D v + ((h : Int) - 1) * bur n R lot v := hl v vn
      omega
    · have ce := c_el v vn e r
      have b0 : 0 ≤ bur n R c v := ldS_nonneg fun u hu _ => pos u (List.mem_range.mp hu)
      have cl := Int.emod_lt_of_pos (at_ S v - at_ D v - bur n R c v) (show (0 : Int) < (h : Int) by omega)
      rw [← ce] at cl
      by_cases b1 : 1 ≤ bur n R c v
      · have := mul_ge (a := (h : Int) - 1) (by omega) b1
        omega
      · have bz : bur n R c v = 0 := by omega
        have ge : at_ D v ≤ at_ S v := by
          apply Classical.byContradiction
          intro lt
          obtain ⟨u, un, r, ne⟩ := no v vn (by omega)
          exact b1 (load_pos okS okD tr cg (fun u un _ => pos u un) un r ne)
        rw [ce, bz, Int.mul_zero, Int.sub_zero, Int.emod_eq_of_lt (by omega) (by omega)]
        omega
end
end Hue

end
section
set_option maxRecDepth 100000
set_option maxHeartbeats 4000000
namespace Hue
open PySem PySem.Spec PyProof.Rows L2
section
variable {P : Program} {w : World} {K : PySem.W.Frag} {mg : Str → Option Value} {base : Heap} {C CT : Addr} {n h : Nat} {R : Rel} {S D : List Int} {c : Nat → Int}
/-! ### sums over the lamps -/
def sumN (n : Nat) (f : Nat → Int) : Int := ((List.range n).map f).sum
theorem sumN_succ (n : Nat) (f : Nat → Int) : sumN (n + 1) f = sumN n f + f n := by
  unfold sumN
  rw [List.range_succ, List.map_append, List.sum_append]
  simp
theorem sumN_congr {f g : Nat → Int} : ∀ {n : Nat}, (∀ v, v < n → f v = g v) → sumN n f = sumN n g := fun {n} h => by
  unfold sumN
  rw [List.map_congr_left fun v hv => h v (List.mem_range.mp hv)]
theorem sumN_add (f g : Nat → Int) : ∀ n, sumN n (fun v => f v + g v) = sumN n f + sumN n g
  | 0 => rfl
  | n + 1 => by rw [sumN_succ, sumN_succ, sumN_succ, sumN_add f g n]; omega
theorem sumN_mul (a : Int) (f : Nat → Int) : ∀ n, sumN n (fun v => a * f v) = a * sumN n f
  | 0 => (Int.mul_zero a).symm
  | n + 1 => by rw [sumN_succ, sumN_succ, sumN_mul a f n, Int.mul_add]
theorem sumN_zero : ∀ {n : Nat} {f : Nat → Int}, (∀ v, v < n → f v = 0) → sumN n f = 0
  | 0, _, _ => rfl
  | n + 1, f, h => by rw [sumN_succ, sumN_zero fun v hv => h v (by omega), h n (by omega)]; rfl
theorem sumN_one {k : Nat} (f : Nat → Int) : ∀ {n : Nat}, k < n → sumN n (fun v => if v = k then f v else 0) = f k
  | 0, h => absurd h (Nat.not_lt_zero k)
  | n + 1, h => by
    rw [sumN_succ]
    by_cases e : n = k
    · subst e
      rw [if_pos rfl, sumN_zero fun v hv => by rw [if_neg (by omega)]]; omega
    · rw [sumN_one f (show k < n by omega), if_neg e]; omega
theorem sumN_nonneg : ∀ {n : Nat} {f : Nat → Int}, (∀ v, v < n → 0 ≤ f v) → 0 ≤ sumN n f
  | 0, _, _ => Int.le_refl _
  | n + 1, f, h => by rw [sumN_succ]; have := sumN_nonneg (f := f) fun v hv => h v (Nat.lt_succ_of_lt hv); have := h n (by omega); omega
theorem sumN_swap (f : Nat → Nat → Int) (m : Nat) : ∀ n, sumN n (fun v => sumN m (f v)) = sumN m (fun u => sumN n (fun v => f v u))
  | 0 => (sumN_zero fun _ _ => rfl).symm
  | n + 1 => by
    rw [sumN_succ, sumN_swap f m n, ← sumN_add]
    exact sumN_congr fun u _ => (sumN_succ n _).symm
theorem sum_filter (p : Nat → Bool) (f : Nat → Int) : ∀ l : List Nat, ((l.filter p).map f).sum = (l.map fun v => if p v = true then f v else 0).sum
  | [] => rfl
  | a :: l => by
    rw [List.filter_cons, List.map_cons, List.sum_cons, ← sum_filter p f l]
    by_cases e : p a = true
    · rw [if_pos e, if_pos e, List.map_cons, List.sum_cons]
    · rw [if_neg e, if_neg e]; omega
theorem belS_sum (n : Nat) (R : Rel) (c : Nat → Int) (v : Nat) : belS n R c v = sumN n fun u => if R v u = true then c u else 0 := sum_filter (fun u => R v u) c _
theorem bur_sum (n : Nat) (R : Rel) (c : Nat → Int) (v : Nat) : bur n R c v = sumN n fun u => if R u v = true then c u else 0 := sum_filter (fun u => R u v) c _
theorem worS_sum (n : Nat) (S : List Int) (c : Nat → Int) : worS n S c = sumN n fun v => at_ S v * c v := rfl
theorem wts_pos (hR : Ranked R) (h1 : 1 ≤ h) (hc : Wts n h R c) : ∀ v, v < n → 1 ≤ c v := by
  obtain ⟨ρ, hρ⟩ := hR
  obtain ⟨M, hM⟩ := below_max ρ n
  have key : ∀ m v, v < n → M - ρ v ≤ m → 1 ≤ c v := by
    intro m
    induction m with
    | zero =>
      intro v vn hm
      have z : belS n R c v = 0 := by
        rw [belS_sum]
        refine sumN_zero fun u un => ?_
        rw [if_neg fun r => ?_]
        have := hρ v u r
        have := hM u un
        omega
      rw [hc v vn, z]
      omega
    | succ m ih =>
      intro v vn hm
      have z : 0 ≤ belS n R c v := by
        rw [belS_sum]
        refine sumN_nonneg fun u un => ?_
        by_cases r : R v u = true
        · rw [if_pos r]
          have := hρ v u r
          have := hM u un
          have := ih u un (by omega)
          omega
        · rw [if_neg r]; exact Int.le_refl _
      rw [hc v vn]
      have : 0 ≤ ((h : Int) - 1) * belS n R c v := Int.mul_nonneg (by omega) z
      omega
  exact fun v vn => key (M - ρ v) v vn (Nat.le_refl _)
/-! ### a move -/
/-- the state in which the lamp k has moved -/
def movS (n h : Nat) (R : Rel) (S : List Int) (k : Nat) : List Int := (List.range n).map fun v => (at_ S v - (if v = k ∨ R k v = true then 1 else 0)) % (h : Int)
theorem movS_at {k v : Nat} (vn : v < n) : at_ (movS n h R S k) v = (at_ S v - (if v = k ∨ R k v = true then 1 else 0)) % (h : Int) := by
  unfold at_
  rw [List.getD_eq_getElem?_getD]
  unfold movS
  rw [List.getElem?_map, List.getElem?_range vn]
  rfl
theorem movS_ok (h1 : 1 ≤ h) (k : Nat) : StOk n h (movS n h R S k) := by
  refine ⟨by unfold movS; rw [List.length_map, List.length_range], fun z hz => ?_⟩
  obtain ⟨v, _, rfl⟩ := List.mem_map.mp hz
  exact ⟨Int.emod_nonneg _ (by omega), Int.emod_lt_of_pos _ (by omega)⟩
/-- what a move takes away: the lit lamps beneath count -/
def litS (n : Nat) (R : Rel) (S : List Int) (c : Nat → Int) (k : Nat) : Int := sumN n fun v => if R k v = true ∧ 0 < at_ S v then c v else 0
theorem mov_worth (hR : Ranked R) (h1 : 1 ≤ h) (hc : Wts n h R c) (ok : StOk n h S) {k : Nat} (kn : k < n) (lit : 0 < at_ S k) : worS n S c - worS n (movS n h R S k) c = 1 + (h : Int) * litS n R S c k := by
  have irr : R k k = false := by
    obtain ⟨ρ, hρ⟩ := hR
    cases e : R k k with
    | false => rfl
    | true => exact absurd (hρ k k e) (Nat.lt_irrefl _)
  have pt : ∀ v, v < n → at_ S v * c v = at_ (movS n h R S k) v * c v + ((if v = k then c v else 0) + ((-((h : Int) - 1)) * (if R k v = true then c v else 0) + (h : Int) * (if R k v = true ∧ 0 < at_ S v then c v else 0))) := fun v vn => by
    rw [movS_at vn]
    have b := ok.2 _ (at_mem ok.1 vn)
    by_cases e : v = k
    · subst e
      rw [if_pos (.inl rfl), if_pos rfl, if_neg (by rw [irr]; exact fun z => by cases z), if_neg (by rw [irr]; exact fun z => by cases z.1), Int.mul_zero, Int.mul_zero, Int.emod_eq_of_lt (by omega) (by omega), Int.sub_mul]
      omega
    · rw [if_neg e]
      by_cases r : R k v = true
      · rw [if_pos (.inr r), if_pos r]
        by_cases l : 0 < at_ S v
        · rw [if_pos ⟨r, l⟩, Int.emod_eq_of_lt (by omega) (by omega), Int.sub_mul, Int.neg_mul, Int.sub_mul]
          omega
        · rw [if_neg fun z => l z.2]
          have z0 : at_ S v = 0 := by omega
          have m : ((0 : Int) - 1) % (h : Int) = (h : Int) - 1 := by
            rw [show (0 : Int) - 1 = ((h : Int) - 1) + (h : Int) * (-1) from by omega, Int.add_mul_emod_self_left, Int.emod_eq_of_lt (by omega) (by omega)]
          rw [z0, m, Int.zero_mul, Int.mul_zero, Int.neg_mul]
          omega
      · rw [if_neg (fun z => z.elim e r), if_neg r, if_neg (fun z => r z.1), Int.sub_zero, Int.emod_eq_of_lt b.1 b.2, Int.mul_zero, Int.mul_zero]
        omega
  rw [worS_sum, worS_sum, sumN_congr pt, sumN_add, sumN_add, sumN_add, sumN_mul, sumN_mul, sumN_one c kn, ← belS_sum, hc k kn, Int.neg_mul]
  unfold litS
  omega
theorem lit_nonneg (hR : Ranked R) (h1 : 1 ≤ h) (hc : Wts n h R c) (k : Nat) : 0 ≤ litS n R S c k := sumN_nonneg fun v vn => by
  have := wts_pos hR h1 hc v vn
  split <;> omega
theorem lit_zero {k : Nat} (dark : ∀ v, v < n → R k v = true → ¬ 0 < at_ S v) : litS n R S c k = 0 := sumN_zero fun v vn => by rw [if_neg fun z => dark v vn z.1 z.2]
/-! ### the greatest tally's total -/
theorem most_total {lot : Nat → Int} (hc : Wts n h R c) (hl : ∀ v, v < n → lot v = mostF n h R S D lot v) : sumN n lot = worS n S c - worS n D c := by
  have e1 : sumN n (fun v => lot v * c v) = sumN n lot + ((h : Int) - 1) * sumN n (fun v => lot v * belS n R c v) := by
    rw [← sumN_mul, ← sumN_add]
    refine sumN_congr fun v vn => ?_
    rw [hc v vn, Int.mul_add, Int.mul_one, Int.mul_left_comm]
  have e2 : sumN n (fun v => lot v * c v) = (worS n S c - worS n D c) + ((h : Int) - 1) * sumN n (fun v => bur n R lot v * c v) := by
    rw [show worS n S c - worS n D c = worS n S c + (-1) * worS n D c from by omega, worS_sum, worS_sum, ← sumN_mul, ← sumN_mul, ← sumN_add, ← sumN_add]
    refine sumN_congr fun v vn => ?_
    have hv : lot v = at_ S v - at_ D v + ((h : Int) - 1) * bur n R lot v := hl v vn
    have : lot v * c v = (at_ S v - at_ D v + ((h : Int) - 1) * bur n R lot v) * c v := by rw [← hv]
    rw [this, Int.add_mul, Int.sub_mul, Int.mul_assoc]
    omega
  have e3 : sumN n (fun v => lot v * belS n R c v) = sumN n (fun v => bur n R lot v * c v) := by
    have a1 : ∀ v, v < n → lot v * belS n R c v = sumN n fun u => if R v u = true then lot v * c u else 0 := fun v vn => by
      rw [belS_sum, ← sumN_mul]
      refine sumN_congr fun u _ => ?_
      by_cases r : R v u = true
      · rw [if_pos r, if_pos r]
      · rw [if_neg r, if_neg r, Int.mul_zero]
    have a2 : ∀ u, u < n → sumN n (fun v => if R v u = true then lot v * c u else 0) = bur n R lot u * c u := fun u un => by
      rw [bur_sum, Int.mul_comm, ← sumN_mul]
      refine sumN_congr fun v _ => ?_
      by_cases r : R v u = true
      · rw [if_pos r, if_pos r, Int.mul_comm]
      · rw [if_neg r, if_neg r, Int.mul_zero]
    rw [sumN_congr a1, sumN_swap, sumN_congr a2]
  rw [e3] at e1
  omega
/-! ### the law's own words -/
theorem hu_ixA {X : Cx} (K : PySem.W.Frag) (hK : X.K = K := by rfl) : IxR X (fun x y H Q => rIxL K x y H Q ∨ rIxT K x y H Q) := fun a b pins s σ H x y v u Q I r1 r2 q e => q.elim (fun q => ixL_ K hK a b pins s σ H x y v u Q I r1 r2 q e) fun q => ixT_ K hK a b pins s σ H x y v u Q I r1 r2 q e
theorem Tb.cell {H : Hp} {lw : Addr} {n u v : Nat} {R : Rel} (t : Tb H lw n R) (hu : u < n) (hv : v < n) : ∃ (xs ys : List V) (a : Addr), H lw = some (.lst xs) ∧ xs.length = n ∧ atI xs (u : Int) = some (V.ref a) ∧ H a = some (.lst ys) ∧ atI ys (v : Int) = some (V.bl (R u v)) := by
  obtain ⟨as, la, tb⟩ := t
  have ul : u < as.length := by rw [la]; exact hu
  exact ⟨as.map V.ref, bF n (R u), as[u], tb.1, by rw [List.length_map, la], atI_nat (by rw [List.getElem?_map, List.getElem?_eq_getElem ul]; rfl), tb.2 u _ (List.getElem?_eq_getElem ul), atI_nat (bF_get hv)⟩
theorem StOk.get {n h v : Nat} {S : List Int} (ok : StOk n h S) (vn : v < n) : (stV S)[v]? = some (V.int (at_ S v)) := stV_get (by rw [ok.1]; exact vn)
abbrev s__law_moved : Stmt := top 50
theorem sc__law_moved : FnScope ["base", "low", "now", "lamp", "w"] ["base", "low", "now", "lamp"] (defScope s__law_moved) := ⟨rfl, rfl, rfl, by decide +kernel, rfl, by decide +kernel, by decide +kernel⟩
-- slots of _law_moved: 0 base, 1 low, 2 now, 3 lamp, 4 w
def spMoved : Sp := fun vs H Q _ => ∃ (lw a : Addr) (n h k : Nat) (R : Rel) (S : List Int), vs = [.int h, .ref lw, .ref a, .int k] ∧ n ≤ 16 ∧ 1 ≤ h ∧ h ≤ 10 ∧ Tb H lw n R ∧ H a = some (.lst (stV S)) ∧ StOk n h S ∧ k < n ∧ ∀ (H' : Hp) (p : Addr), Same H H' → H p = none → H' p = some (.lst (stV (movS n h R S k))) → Q (.ref p) H'
theorem ok__law_moved (T : Txt K mg C) {f : Addr} {fd : FuncData} (F : Fun K "_law_moved" "_law_moved" s__law_moved f fd) : FnOk P w K mg base CX0 1 f fd ["base", "low", "now", "lamp"] spMoved := by
  refine F.ok sc__law_moved (fun vs H Q E h => ?_) (fun cdv A outer s H vs Q E hr h => ?_)
  · obtain ⟨lw, a, n, h, k, R, S, rfl, _⟩ := h; rfl
  · obtain ⟨lw, a, n, h, k, R, S, rfl, n16, h1, h10, hlw, ha, ok, kn, q⟩ := h
    refine ⟨_, (pss_one (ps_ret (pe_lc (own := [("w", 4)]) (g := gName 4) (tt := tYes) rfl sc__law_moved.nd (pi_range1 (by rfl) T.range (pa_cons (pe_callB (lenS_ K) (by rfl) T.len b_len (pa_cons (pv 2) pa_nil)) pa_nil)) (blkOk_by (by kernel_rfl)) (fun _ _ _ _ _ => (pg_name (i := 4) sc__law_moved.nd rfl (by first | exact Or.inl rfl | exact Or.inr rfl))) (fun _ _ _ _ _ => pts_nil) (fun _ _ _ _ _ => (pe_op op_mod (pe_callTy call_int1 (by rfl) T.int b_int (pa_cons (pe_op op_sub (pe_ix (ixL_ K) (pv 2) (pv 4) (fun _ _ => rfl)) (pe_callTy call_int1 (by rfl) T.int b_int (pa_cons (pe_or (pe_cmpR op_eq (pv 4) (pv 3) (nomark _)) (pe_one (pe_ix (ixL_ K) (pe_ix (ixL_ K) (pv 1) (pv 3) (fun _ _ => rfl)) (pv 4) (fun _ _ => rfl)))) pa_nil))) pa_nil)) (pv 0)))))), ?_⟩
    have ls : (stV S).length = n := by rw [List.length_map, ok.1]
    refine ⟨_, rfl, a, _, rfl, .inl (SqL.of ha), _, rfl, by omega, by omega, fun X hX => ?_⟩
    rw [ls, Int.toNat_natCast]
    obtain ⟨as, las, t1, t2⟩ := id hlw
    refine lc_range (fun i G => G X = some (.lst (((List.range i).map fun v => (at_ S v - (if v = k ∨ R k v = true then 1 else 0)) % (h : Int)).map V.int)) ∧ Same H G) ⟨upd_same, same_new hX⟩ ?_ ?_
    · rintro v G hv ⟨h4, s4⟩
      have e0 : (0 : Int) + (v : Int) = (v : Int) := by omega
      rw [e0]
      obtain ⟨xs, ys, ra, c1, c2, c3, c4, c5⟩ := (hlw.same s4).cell kn hv
      have fin : ∀ z : Int, z = (if v = k ∨ R k v = true then 1 else 0) → ∃ acc, G X = some (.lst acc) ∧ acc.length < sizeLine ∧ (L2.upd G X (.lst (acc ++ [V.int ((at_ S v - z) % (h : Int))]))) X = some (.lst (((List.range (v + 1)).map fun v => (at_ S v - (if v = k ∨ R k v = true then 1 else 0)) % (h : Int)).map V.int)) ∧ Same H (L2.upd G X (.lst (acc ++ [V.int ((at_ S v - z) % (h : Int))]))) := fun z ez => by
        refine ⟨_, h4, by rw [List.length_map, List.length_map, List.length_range, sizeLine_eq]; omega, ?_, same_upd s4 hX⟩
        rw [upd_same, List.range_succ, List.map_append, List.map_append, ez]
        rfl
      refine ⟨rfl, yesT ⟨_, rfl, _, rfl, a, _, _, _, rfl, rfl, SqL.of (s4 _ _ ha), atI_nat (ok.get hv), _, rfl, _, rfl, rfl, _, rfl, ite2 (fun he => ?_) fun hne => ?_⟩⟩
      · have e : v = k := by have y := of_decide_eq_true he; injection y with y; omega
        exact .inr ⟨_, rfl, _, _, rfl, rfl, .inl ⟨_, rfl, _, rfl, _, _, rfl, rfl, by show (0 : Int) < (h : Int); omega, fin 1 (by rw [if_pos (.inl e)])⟩⟩
      · have e : ¬ v = k := fun y => hne (by rw [y]; exact decide_eq_true rfl)
        refine ⟨_, rfl, _, rfl, lw, _, _, _, rfl, rfl, SqL.of c1, c3, _, rfl, ra, _, _, _, rfl, rfl, SqL.of c4, c5, .inr ⟨_, rfl, _, _, rfl, rfl, .inl ⟨_, rfl, _, rfl, _, _, rfl, rfl, by show (0 : Int) < (h : Int); omega, fin _ ?_⟩⟩⟩
        by_cases r : R k v = true
        · rw [if_pos r, if_pos (.inr r)]
        · rw [if_neg r, if_neg fun z => z.elim e r]
    · rintro G ⟨h4, s4⟩
      exact q G X s4 hX h4
theorem rev_step {R : Rel} {L : List Nat} {i k : Nat} (ok : OrdOk n R L) (lL : L.length = n) (all : ∀ v, v < n → v ∈ L) (hi : i < n) (hk : L[n - 1 - i]? = some k) : L.drop (n - 1 - i) = k :: L.drop (n - i) ∧ ∀ u, u < n → R k u = true → u ∈ L.drop (n - i) := by
  have kn : k < n := ok.lt k (List.mem_of_getElem? hk)
  have dk : L.drop (n - 1 - i) = k :: L.drop (n - i) := by
    obtain ⟨hl, e⟩ := List.getElem?_eq_some_iff.mp hk
    rw [List.drop_eq_getElem_cons hl, e, show n - 1 - i + 1 = n - i from by omega]
  refine ⟨dk, fun u un r => ?_⟩
  obtain ⟨j, hj⟩ := List.getElem?_of_mem (all u un)
  have up := ok.up j u hj k kn r
  have jl : n - i ≤ j := by
    rcases Nat.lt_or_ge j (n - i) with z | z
    · exfalso
      have m1 : k ∈ L.take (n - 1 - i) := List.take_subset_take_left (l := L) (show j ≤ n - 1 - i by omega) up
      have nd := ok.nd
      rw [← List.take_append_drop (n - 1 - i) L, List.nodup_append] at nd
      exact nd.2.2 k m1 k (by rw [dk]; exact List.mem_cons_self) rfl
    · exact z
  rw [List.mem_iff_getElem?]
  exact ⟨j - (n - i), by rw [List.getElem?_drop, show n - i + (j - (n - i)) = j from by omega]; exact hj⟩
def spWeightsL : Sp := fun vs H Q _ => ∃ (lw ln : Addr) (n h : Nat) (R : Rel) (line : List Nat) (c : Nat → Int), vs = [.int h, .ref lw, .ref ln] ∧ n ≤ 16 ∧ 1 ≤ h ∧ h ≤ 10 ∧ Tb H lw n R ∧ H ln = some (.lst (nL line)) ∧ line.length = n ∧ OrdOk n R line ∧ (∀ v, v < n → v ∈ line) ∧ Wts n h R c ∧ ∀ (H' : Hp) (p : Addr), Same H H' → H p = none → H' p = some (.lst (cL n c)) → Q (.ref p) H'
def StAt (H : Hp) (a : Addr) (S : List Int) : Prop := H a = some (.lst (stV S)) ∨ H a = some (.tup (stV S))
def spSumL : Sp := fun vs H Q _ => ∃ (a p : Addr) (n h : Nat) (S : List Int) (c : Nat → Int), vs = [.ref a, .ref p] ∧ n ≤ 16 ∧ h ≤ 10 ∧ StAt H a S ∧ StOk n h S ∧ H p = some (.lst (cL n c)) ∧ ∀ H', Same H H' → Q (.int (worS n S c)) H'
end
end Hue

end
section
set_option maxRecDepth 100000
set_option maxHeartbeats 4000000
namespace Hue
open PySem PySem.Spec PyProof.Rows L2
section
variable {P : Program} {w : World} {K : PySem.W.Frag} {mg : Str → Option Value} {base : Heap} {C CT : Addr}
/-- a house and what its lamps weigh -/
structure Hw (C : Addr) (H : Hp) (x : Addr) (n h : Nat) (ps : List (Nat × Nat)) (c : Nat → Int) : Prop where
  hs : HsOk C H x n h ps
  n1 : 1 ≤ n
  n16 : n ≤ 16
  h2 : 2 ≤ h
  h10 : h ≤ 10
  hR : Ranked (relOf ps)
  hc : Wts n h (relOf ps) c
theorem Hw.same {H H' : Hp} {x : Addr} {n h : Nat} {ps : List (Nat × Nat)} {c : Nat → Int} (a : Hw C H x n h ps c) (s : Same H H') : Hw C H' x n h ps c := ⟨a.hs.same s, a.n1, a.n16, a.h2, a.h10, a.hR, a.hc⟩
theorem Hw.h1 {H : Hp} {x : Addr} {n h : Nat} {ps : List (Nat × Nat)} {c : Nat → Int} (a : Hw C H x n h ps c) : 1 ≤ h := by have := a.h2; omega
theorem StAt.same {H H' : Hp} {a : Addr} {S : List Int} (h : StAt H a S) (s : Same H H') : StAt H' a S := h.elim (fun z => .inl (s _ _ z)) fun z => .inr (s _ _ z)
def spWorthIs (C : Addr) : Sp := fun vs H Q _ => ∃ (x a p : Addr) (n h : Nat) (ps : List (Nat × Nat)) (c : Nat → Int) (S : List Int), vs = [.ref x, .ref a, .ref p] ∧ Hw C H x n h ps c ∧ StAt H a S ∧ StOk n h S ∧ H p = some (.lst (cL n c)) ∧ ∀ H', Same H H' → Q (.bl true) H'
/-! ### moves one after another -/
/-- the lamp k may move; if b, every lamp beneath it is dark -/
def LitB (n : Nat) (R : Rel) (b : Bool) (S : List Int) (k : Nat) : Prop := k < n ∧ 0 < at_ S k ∧ (b = true → ∀ v, v < n → R k v = true → ¬ 0 < at_ S v)
inductive Run (n h : Nat) (R : Rel) (b : Bool) : List Int → List Nat → List Int → Prop
  | nil (S : List Int) : Run n h R b S [] S
  | cons {S D : List Int} {k : Nat} {ms : List Nat} (l : LitB n R b S k) (r : Run n h R b (movS n h R S k) ms D) : Run n h R b S (k :: ms) D
theorem Run.snoc {n h : Nat} {R : Rel} {b : Bool} {S D : List Int} {ms : List Nat} {k : Nat} (r : Run n h R b S ms D) (l : LitB n R b D k) : Run n h R b S (ms ++ [k]) (movS n h R D k) := by
  induction r with
  | nil S => exact .cons l (.nil _)
  | cons l' _ ih => exact .cons l' (ih l)
def spFalls (C : Addr) : Sp := fun vs H Q _ => ∃ (x lw t ml : Addr) (n h : Nat) (ps : List (Nat × Nat)) (c : Nat → Int) (S D : List Int) (ms : List Nat) (b : Bool), vs = [.ref x, .int h, .ref lw, .ref t, .ref ml, .bl b] ∧ Hw C H x n h ps c ∧ Tb H lw n (relOf ps) ∧ H t = some (.tup (stV S)) ∧ StOk n h S ∧ H ml = some (.lst (nL ms)) ∧ Run n h (relOf ps) b S ms D ∧ ∀ H', Same H H' → Q (.bl true) H'
end
end Hue

end
section
set_option maxRecDepth 100000
set_option maxHeartbeats 4000000
namespace L2
open PySem PySem.Spec PyProof.Rows
/-! ### try with several except clauses, the first of them with a name, where the first takes what is raised -/
/-- what the first clause wishes of an exception of the body -/
def wFst (K : PySem.W.Frag) (c : Value) (i : Nat) (ts : Addr → Value → Option Addr → TS) (D : Ends) : WX := fun cls d σ H =>
  PySem.W.exmOne K cls c = some true ∧ ∀ a, H a = none → ts a cls d { nx := fun σ' H' => D.nx (σ'.set i none) H', rt := D.rt, bk := fun σ' H' => D.bk (σ'.set i none) H', ct := fun σ' H' => D.ct (σ'.set i none) H' } (σ.set i (some (.ref a))) H
section
variable {X : Cx} {x n : Str} {c : Value} {i : Nat} {body suite : List Stmt} {b₀ : Stmt} {more : List ExceptHandler} {np pos pos' : Pos} {tb : WX → TS} {ts : Addr → Value → Option Addr → TS}
theorem ps_try_first (hs : X.stack = X.env :: X.outer) (hf : X.env.frame = some X.env.locals) (hN : X.N.Nodup) (hi : X.N[i]? = some n) (hln : X.env.kindOf n = some .local) (hc : Names X x c)
    (hb : ∀ (W : WX) (pn : List (Addr × Obj)) (xe : Value → Shared → Prop), Takes (X.tr pn xe) W → PassesOwn (model X.prog X.w) X.A X.env xe → PSs (X.tr pn xe) body (tb W))
    (hsu : ∀ (a : Addr) (oe : Obj) (cls : Value) (d : Option Addr) (pn : List (Addr × Obj)), Zc cls d oe → (∃ vs, oe.data = .fields vs) → PSs (X.suite a ((a, oe) :: pn)) (b₀ :: suite) (ts a cls d)) :
    PS X (.Try body (.ExceptHandler (some (.Name x np)) (some n) (b₀ :: suite) pos' :: more) [] [] pos) (fun D σ H => tb (wFst X.K c i ts D) D σ H) := by
  constructor
  intro pins s σ H D I h
  have ok := I.ok
  have top : X.A.frames = some (X.env :: X.outer) := by rw [ok.frames, hs]
  -- the way out of the suite: the name goes, the rest is kept
  have leave : ∀ {h3 : Heap} {a : Addr} {oe : Obj} {σ6 : St} {H6 : Hp} {s6 : Shared} {Q : Shared → Prop}, Inv (X.suite a ((a, oe) :: (X.pn ++ pins))) [] σ6 H6 s6 → (∀ s7, Inv X pins (σ6.set i none) H6 s7 → Q s7) →
      wpAny (model X.prog X.w) X.A (do bindName X.env n .none; unbindBehindTheSuite X.env n pos') (fun _ s7 => Q s7) X.xe s6 := fun S q => gone_ok (S.unsuite ok) hN hi hln q
  apply wpAny_Try_except
  refine wpAny_mono ((hb _ (X.pn ++ pins) (fun e s₁ => wpAny (model X.prog X.w) X.A (noteFrame e X.env) (fun _ s₂ => wpAny (model X.prog X.w) X.A (setFlight e none) (fun _ s₃ =>
    wpAny (model X.prog X.w) X.A (handleBy e X.env (.ExceptHandler (some (.Name x np)) (some n) (b₀ :: suite) pos' :: more)) (SP X pins D) X.xe s₃) X.xe s₂) X.xe s₁) ?caught PassesOwn.looking).run [] s σ H D (I.toTry _) h) ?done (fun e s1 he => he)
  case done =>
    rintro (_ | _ | _ | u) s1 hsp
    · obtain ⟨σ', H', J, q⟩ := hsp; exact wpAny_execs_nil ⟨σ', H', J.ofTry ok, q⟩
    · obtain ⟨σ', H', J, q⟩ := hsp; exact ⟨σ', H', J.ofTry ok, q⟩
    · obtain ⟨σ', H', J, q⟩ := hsp; exact ⟨σ', H', J.ofTry ok, q⟩
    · obtain ⟨v, σ', H', J, r, q⟩ := hsp; exact ⟨v, σ', H', J.ofTry ok, r, q⟩
  case caught =>
    rintro u s' ⟨a, B, sI, pins', σ', H', cls, d, rfl, J', nb, up, sky, na, os, ag, yes, go⟩
    have J : Inv X pins σ' H' sI := J'.ofTry ok
    rw [hs] at sky
    refine Sky.land Zc.steady top hf sky fun h3 fl3 up3 => ?_
    have J3 : Inv X pins σ' H' { s' with heap := h3 } := J.landed nb fl3.1 (up.trans up3) os ag
    obtain ⟨oe3, vs3, he3, hz3, hd3⟩ := fl3.there
    have far : a ∉ frs (X.env :: X.outer) := fun hm => by
      obtain ⟨_, o', e', hnf⟩ := fl3.2.2.1.mem hm
      rw [he3] at e'
      cases e'
      exact hnf _ hd3
    have nL : a ≠ X.env.locals := fun z => far (List.mem_filterMap.mpr ⟨X.env, List.mem_cons_self, by rw [hf, z]⟩)
    have nF : a ∉ X.fs := fun hm => let ⟨e, he, q⟩ := List.mem_filterMap.mp hm; far (List.mem_filterMap.mpr ⟨e, List.mem_cons_of_mem _ he, q⟩)
    have S3 := J3.suite he3 hd3 na nL nF
    have LT : PySem.W.Looks (model X.prog X.w) h3 (typeOf (.ref a)) cls := fun A Q E s k q => wpAny_typeOf_ref (k _ _ he3) (by rw [hz3.1]; exact q)
    have nameIs : ∀ {Q E : Value → Shared → Prop}, Q c { s' with heap := h3 } → wpAny (model X.prog X.w) (X.A.mark (some (.ref a))) (eval (.Name x np) X.env) Q E { s' with heap := h3 } := fun {Q E} q => by
      rcases hc with ⟨hg, hdbg, hm | ⟨hm, hv, hnn⟩⟩
      · exact ld_glob (X := X.suite a ((a, oe3) :: (X.pn ++ pins))) S3 hg hm q hdbg
      · exact ld_blt (X := X.suite a ((a, oe3) :: (X.pn ++ pins))) S3 hg hm hv q hnn hdbg
    refine wpAny_handleBy_cons (codeAny_handlers_test (nameIs ((PySem.W.exm_one (M := model X.prog X.w) J3.kIn LT yes).here (codeAny_handlers_suite_as (HandSPX.lands_againZ fl3 fun h4 fl4 up4 => ?_))))) (by intro q; cases q)
    have J4 : Inv X pins σ' H' { s' with heap := h4 } := J.landed nb fl4.1 ((up.trans up3).trans up4) os ag
    obtain ⟨oe4, vs4, he4, hz4, hd4⟩ := fl4.there
    refine store_ok (X := X.suite a ((a, oe4) :: (X.pn ++ pins))) (v := .ref a) (J4.suite he4 hd4 na nL nF) hN hi (.inl hln) rfl (fun s5 S5 => ?_) (.inr hln)
    refine wpAny_mono ((hsu a oe4 cls d (X.pn ++ pins) hz4 ⟨_, hd4⟩).run [] s5 _ H' _ S5 (go a na)) ?_ (fun _ _ z => False.elim z)
    rintro (_ | _ | _ | u) s6 hsp
    · obtain ⟨σ6, H6, S6, q6⟩ := hsp; exact leave (h3 := h3) S6 fun s7 J7 => ⟨_, _, J7, q6⟩
    · obtain ⟨σ6, H6, S6, q6⟩ := hsp; exact leave (h3 := h3) S6 fun s7 J7 => ⟨_, _, J7, q6⟩
    · obtain ⟨σ6, H6, S6, q6⟩ := hsp; exact leave (h3 := h3) S6 fun s7 J7 => ⟨_, _, J7, q6⟩
    · obtain ⟨v6, σ6, H6, S6, r6, q6⟩ := hsp; exact leave (h3 := h3) S6 fun s7 J7 => ⟨_, _, _, J7, r6, q6⟩
end
end L2

end
section
set_option maxRecDepth 100000
set_option maxHeartbeats 4000000
namespace L2
open PySem PySem.Spec PyProof.Rows
/-! ### try with any number of except clauses, each with a name -/
def wClause (K : PySem.W.Frag) (c : Value) (i : Nat) (ts : Addr → Value → Option Addr → TS) (next : WX) (D : Ends) : WX := fun cls d σ H => ∃ b : Bool, PySem.W.exmOne K cls c = some b ∧
  (b = true → ∀ a, H a = none → ts a cls d { nx := fun σ' H' => D.nx (σ'.set i none) H', rt := D.rt, bk := fun σ' H' => D.bk (σ'.set i none) H', ct := fun σ' H' => D.ct (σ'.set i none) H' } (σ.set i (some (.ref a))) H) ∧ (b = false → next cls d σ H)
def wNoClause : WX := fun _ _ _ _ => False
inductive Hds (X : Cx) : List ExceptHandler → (Ends → WX) → Prop
  | nil : Hds X [] (fun _ => wNoClause)
  | cons {x n : Str} {c : Value} {i : Nat} {ts : Addr → Value → Option Addr → TS} {suite : List Stmt} {b₀ : Stmt} {np pos' : Pos} {more : List ExceptHandler} {w : Ends → WX}
      (hi : X.N[i]? = some n) (hln : X.env.kindOf n = some .local) (hc : Names X x c)
      (hsu : ∀ (a : Addr) (oe : Obj) (cls : Value) (d : Option Addr) (pn : List (Addr × Obj)), Zc cls d oe → (∃ vs, oe.data = .fields vs) → PSs (X.suite a ((a, oe) :: pn)) (b₀ :: suite) (ts a cls d))
      (r : Hds X more w) : Hds X (.ExceptHandler (some (.Name x np)) (some n) (b₀ :: suite) pos' :: more) (fun D => wClause X.K c i ts (w D) D)
section
variable {X : Cx} {body : List Stmt} {hd : ExceptHandler} {hs : List ExceptHandler} {w : Ends → WX} {pos : Pos} {tb : WX → TS}
theorem ps_try_hds (hst : X.stack = X.env :: X.outer) (hf : X.env.frame = some X.env.locals) (hN : X.N.Nodup)
    (hb : ∀ (W : WX) (pn : List (Addr × Obj)) (xe : Value → Shared → Prop), Takes (X.tr pn xe) W → PassesOwn (model X.prog X.w) X.A X.env xe → PSs (X.tr pn xe) body (tb W))
    (hh : Hds X (hd :: hs) w) :
    PS X (.Try body (hd :: hs) [] [] pos) (fun D σ H => tb (w D) D σ H) := by
  constructor
  intro pins s σ H D I h
  have ok := I.ok
  have top : X.A.frames = some (X.env :: X.outer) := by rw [ok.frames, hst]
  have shape : ∃ x n b₀ suite np pos', hd = .ExceptHandler (some (.Name x np)) (some n) (b₀ :: suite) pos' := by cases hh; exact ⟨_, _, _, _, _, _, rfl⟩
  obtain ⟨x0, n0, b0, su0, np0, ps0, rfl⟩ := shape
  apply wpAny_Try_except
  refine wpAny_mono ((hb _ (X.pn ++ pins) (fun e s₁ => wpAny (model X.prog X.w) X.A (noteFrame e X.env) (fun _ s₂ => wpAny (model X.prog X.w) X.A (setFlight e none) (fun _ s₃ =>
    wpAny (model X.prog X.w) X.A (handleBy e X.env (.ExceptHandler (some (.Name x0 np0)) (some n0) (b0 :: su0) ps0 :: hs)) (SP X pins D) X.xe s₃) X.xe s₂) X.xe s₁) ?caught PassesOwn.looking).run [] s σ H D (I.toTry _) h) ?done (fun e s1 he => he)
  case done =>
    rintro (_ | _ | _ | u) s1 hsp
    · obtain ⟨σ', H', J, q⟩ := hsp; exact wpAny_execs_nil ⟨σ', H', J.ofTry ok, q⟩
    · obtain ⟨σ', H', J, q⟩ := hsp; exact ⟨σ', H', J.ofTry ok, q⟩
    · obtain ⟨σ', H', J, q⟩ := hsp; exact ⟨σ', H', J.ofTry ok, q⟩
    · obtain ⟨v, σ', H', J, r, q⟩ := hsp; exact ⟨v, σ', H', J.ofTry ok, r, q⟩
  case caught =>
    rintro u s' ⟨a, B, sI, pins', σ', H', cls, d, rfl, J', nb, up, sky, na, os, ag, wish⟩
    have J : Inv X pins σ' H' sI := J'.ofTry ok
    rw [hst] at sky
    refine Sky.land Zc.steady top hf sky fun h3 fl3 up3 => ?_
    have J3 : Inv X pins σ' H' { s' with heap := h3 } := J.landed nb fl3.1 (up.trans up3) os ag
    obtain ⟨oe3, vs3, he3, hz3, hd3⟩ := fl3.there
    have far : a ∉ frs (X.env :: X.outer) := fun hm => by
      obtain ⟨_, o', e', hnf⟩ := fl3.2.2.1.mem hm
      rw [he3] at e'
      cases e'
      exact hnf _ hd3
    have nL : a ≠ X.env.locals := fun z => far (List.mem_filterMap.mpr ⟨X.env, List.mem_cons_self, by rw [hf, z]⟩)
    have nF : a ∉ X.fs := fun hm => let ⟨e, he, q⟩ := List.mem_filterMap.mp hm; far (List.mem_filterMap.mpr ⟨e, List.mem_cons_of_mem _ he, q⟩)
    have S3 := J3.suite he3 hd3 na nL nF
    have LT : PySem.W.Looks (model X.prog X.w) h3 (typeOf (.ref a)) cls := fun A Q E s k q => wpAny_typeOf_ref (k _ _ he3) (by rw [hz3.1]; exact q)
    generalize hall : (ExceptHandler.ExceptHandler (some (.Name x0 np0)) (some n0) (b0 :: su0) ps0 :: hs) = all at hh ⊢
    clear hall hb
    clear h
    -- by the list of clauses
    have go : ∀ (all : List ExceptHandler) (w : Ends → WX), Hds X all w → w D cls d σ' H' → wpAny (model X.prog X.w) X.A (handleBy (.ref a) X.env all) (SP X pins D) X.xe { s' with heap := h3 } := by
      intro all w hh
      induction hh with
      | nil => intro q; exact q.elim
      | @cons x n c i ts suite b₀ np pos' more w hi hln hc hsu r ih =>
        rintro ⟨b, hb, yes, no⟩
        have leave : ∀ {h3 : Heap} {a : Addr} {oe : Obj} {σ6 : St} {H6 : Hp} {s6 : Shared} {Q : Shared → Prop}, Inv (X.suite a ((a, oe) :: (X.pn ++ pins))) [] σ6 H6 s6 → (∀ s7, Inv X pins (σ6.set i none) H6 s7 → Q s7) →
            wpAny (model X.prog X.w) X.A (do bindName X.env n .none; unbindBehindTheSuite X.env n pos') (fun _ s7 => Q s7) X.xe s6 := fun S q => gone_ok (S.unsuite ok) hN hi hln q
        have nameIs : ∀ {Q E : Value → Shared → Prop}, Q c { s' with heap := h3 } → wpAny (model X.prog X.w) (X.A.mark (some (.ref a))) (eval (.Name x np) X.env) Q E { s' with heap := h3 } := fun {Q E} q => by
          rcases hc with ⟨hg, hdbg, hm | ⟨hm, hv, hnn⟩⟩
          · exact ld_glob (X := X.suite a ((a, oe3) :: (X.pn ++ pins))) S3 hg hm q hdbg
          · exact ld_blt (X := X.suite a ((a, oe3) :: (X.pn ++ pins))) S3 hg hm hv q hnn hdbg
        refine wpAny_handleBy_cons (codeAny_handlers_test (nameIs ((PySem.W.exm_one (M := model X.prog X.w) J3.kIn LT hb).here ?_))) (by intro q; cases q)
        cases b with
        | true =>
          refine codeAny_handlers_suite_as (HandSPX.lands_againZ fl3 fun h4 fl4 up4 => ?_)
          have J4 : Inv X pins σ' H' { s' with heap := h4 } := J.landed nb fl4.1 ((up.trans up3).trans up4) os ag
          obtain ⟨oe4, vs4, he4, hz4, hd4⟩ := fl4.there
          refine store_ok (X := X.suite a ((a, oe4) :: (X.pn ++ pins))) (v := .ref a) (J4.suite he4 hd4 na nL nF) hN hi (.inl hln) rfl (fun s5 S5 => ?_) (.inr hln)
          refine wpAny_mono ((hsu a oe4 cls d (X.pn ++ pins) hz4 ⟨_, hd4⟩).run [] s5 _ H' _ S5 (yes rfl a na)) ?_ (fun _ _ z => False.elim z)
          rintro (_ | _ | _ | u) s6 hsp
          · obtain ⟨σ6, H6, S6, q6⟩ := hsp; exact leave (h3 := h3) S6 fun s7 J7 => ⟨_, _, J7, q6⟩
          · obtain ⟨σ6, H6, S6, q6⟩ := hsp; exact leave (h3 := h3) S6 fun s7 J7 => ⟨_, _, J7, q6⟩
          · obtain ⟨σ6, H6, S6, q6⟩ := hsp; exact leave (h3 := h3) S6 fun s7 J7 => ⟨_, _, J7, q6⟩
          · obtain ⟨v6, σ6, H6, S6, r6, q6⟩ := hsp; exact leave (h3 := h3) S6 fun s7 J7 => ⟨_, _, _, J7, r6, q6⟩
        | false => exact ih (no rfl)
    exact go all w hh wish
end
end L2

end
section
set_option maxRecDepth 100000
set_option maxHeartbeats 4000000
namespace Hue
open PySem PySem.Spec PyProof.Rows L2
section
variable {P : Program} {w : World} {K : PySem.W.Frag} {mg : Str → Option Value} {base : Heap} {C CT CE CS CL CR CN : Addr}
/-! ### values that are no states -/
theorem lf_int {i : Int} (h0 : -1000000000000000000 < i) (h1 : i < 1000000000000000000) : Lf (.int i) (.int i) := .int i (by
  have e : (10 : Nat) ^ 38 = 100000000000000000000000000000000000000 := by decide
  omega)
theorem stB_len {n h : Nat} {ds : List PyData} (l : ds.length ≠ n) : stB n h (.tuple ds) = false := by
  show (decide (ds.length = n) && ds.all (inD h)) = false
  rw [decide_eq_false l, Bool.false_and]
theorem stB_bad {n h : Nat} {as bs : List PyData} {d : PyData} (o : inD h d = false) : stB n h (.tuple (as ++ [d] ++ bs)) = false := by
  show (decide _ && (as ++ [d] ++ bs).all (inD h)) = false
  rw [List.all_append, List.all_append, List.all_cons, o, Bool.false_and, Bool.and_false, Bool.false_and, Bool.and_false]
theorem ints1 {n h : Nat} {S : List Int} (ok : StOk n h S) (h10 : h ≤ 10) {H : Hp} : ∀ {T : List Int}, (∀ z ∈ T, z ∈ S) → All2 (Lf1 H) (stV T) (T.map .int) := fun {T} hT => ints_all _ (fun i hi => .lf (.int i hi)) T fun z hz => ok.small h10 z (hT z hz)
theorem SOk.ints (S : List Int) : ∀ d ∈ S.map PyData.int, SOk d.shown := fun d hd => by
  obtain ⟨i, _, rfl⟩ := List.mem_map.mp hd
  exact SOk.int i
theorem SOk.non : SOk PyData.none.shown := by unfold SOk; decide +kernel
theorem hid_tup {G : Hp} {b p : Addr} {xs : List V} (bx : Bx G b) (h : G p = some (.tup xs)) : hid G b p = some (.tup xs) := by
  refine hid_of h fun y => ?_
  obtain ⟨g, gs, i1, i2, e1, e2⟩ := bx.ex
  rcases y with y | ⟨x1, x2, y⟩
  · rw [y, e1] at h; cases h
  · rw [e1] at y
    injection y with y
    injection y with y
    injection y with y _
    injection y with y
    rw [← y, e2] at h
    cases h
abbrev s__law_odd_state : Stmt := top 54
theorem sc__law_odd_state : FnScope ["box", "first", "base", "place", "kind", "wrong"] ["box", "first", "base"] (defScope s__law_odd_state) := ⟨rfl, rfl, rfl, by decide +kernel, rfl, by decide +kernel, by decide +kernel⟩
-- slots of _law_odd_state: 0 box, 1 first, 2 base, 3 place, 4 kind, 5 wrong
def spOddSt : Sp := fun vs H Q _ => ∃ (b t : Addr) (n h : Nat) (S : List Int), vs = [.ref b, .ref t, .int h] ∧ 1 ≤ n ∧ n ≤ 16 ∧ 2 ≤ h ∧ h ≤ 10 ∧ Bx H b ∧ hid H b t = some (.tup (stV S)) ∧ StOk n h S ∧ ∀ (v : V) (d : PyData) (H' : Hp), Bx H' b → Same (hid H b) (hid H' b) → Lf2 (hid H' b) v d → stB n h d = false → SOk d.shown → Q v H'
theorem ok__law_odd_state (T : Txt K mg C) {f : Addr} {fd : FuncData} (F : Fun K "_law_odd_state" "_law_odd_state" s__law_odd_state f fd) (c__law_take : Cal P w K mg base "_law_take" 1 spTake) : FnOk P w K mg base CX0 2 f fd ["box", "first", "base"] spOddSt := by
  refine F.ok sc__law_odd_state (fun vs H Q E h => ?_) (fun cdv A outer s H vs Q E hr h => ?_)
  · obtain ⟨b, t, n, h, S, rfl, _⟩ := h; rfl
  · obtain ⟨b, t, n, h, S, rfl, n1, n16, h2, h10, bx, ht, ok, q⟩ := h
    have lS : (stV S).length = n := by rw [List.length_map, ok.1]
    refine ⟨_, (pss_cons (ps_set (i := 3) sc__law_odd_state.nd rfl (by first | exact Or.inl rfl | exact Or.inr rfl) (pe_cal c__law_take (hr.mono (by decide)) (pa_cons (pv 0) (pa_cons (pe_callB (lenS_ K) (by rfl) T.len b_len (pa_cons (pv 1) pa_nil)) pa_nil))))
      (pss_cons (ps_set (i := 4) sc__law_odd_state.nd rfl (by first | exact Or.inl rfl | exact Or.inr rfl) (pe_cal c__law_take (hr.mono (by decide)) (pa_cons (pv 0) (pa_cons pe_int pa_nil))))
      (pss_cons (ps_if (pt_cmpR op_eq (pv 4) pe_int (nomark _))
      (pss_one (ps_ret pe_non)) pss_nil)
      (pss_cons (ps_if (pt_cmpR op_eq (pv 4) pe_int (nomark _))
      (pss_one (ps_ret (pe_callTy (lstOf_ K) (by rfl) T.list b_list (pa_cons (pv 1) pa_nil)))) pss_nil)
      (pss_cons (ps_if (pt_cmpR op_eq (pv 4) pe_int (nomark _))
      (pss_one (ps_ret (pe_op (catA_ K) (pv 1) (pe_tup (pa_cons pe_int pa_nil))))) pss_nil)
      (pss_cons (ps_if (pt_cmpR op_eq (pv 4) pe_int (nomark _))
      (pss_one (ps_ret (pe_slice (slT_ K) (pv 1) (po_some pe_int) po_none))) pss_nil)
      (pss_cons (ps_set (i := 5) sc__law_odd_state.nd rfl (by first | exact Or.inl rfl | exact Or.inr rfl) (pe_ix (ixL_ K) (pe_lst (pa_cons (pv 2) (pa_cons (pe_un un_neg pe_int) (pa_cons pe_bl (pa_cons pe_non pa_nil))))) (pe_op op_sub (pv 4) pe_int) (fun _ _ => rfl)))
      (pss_one (ps_ret (pe_op (catA_ K) (pe_op (catA_ K) (pe_slice (slT_ K) (pv 1) po_none (po_some (pv 3))) (pe_tup (pa_cons (pv 5) pa_nil))) (pe_slice (slT_ K) (pv 1) (po_some (pe_op op_add (pv 3) pe_int)) po_none))))))))))), ?_⟩
    refine ⟨_, rfl, _, rfl, t, _, rfl, .inr (SqT.of (hid_some ht).1), b, n, by rw [lS], n1, by omega, bx, fun sp H2 hsp b2 s2 => ?_⟩
    refine ⟨_, rfl, b, 8, rfl, by decide, by decide, b2, fun way H3 hway b3 s3 => ?_⟩
    have s03 := s2.trans s3
    have ht3h := s03 _ _ ht
    have ht3 := (hid_some ht3h).1
    have new : ∀ {H' : Hp} {v : V} {d : PyData}, Same H3 H' → Lf2 (hid H' b) v d → stB n h d = false → SOk d.shown → Q v H' := fun {H' v d} s o e k => q v d H' (b3.same s) (s03.trans (Same.hid b3 s)) o e k
    have all1 : ∀ {H' : Hp} {T : List Int}, (∀ z ∈ T, z ∈ S) → All2 (Lf1 H') (stV T) (T.map .int) := fun hT => ints1 ok h10 hT
    refine ⟨_, rfl, rfl, _, rfl, ite2 (fun _ => new (Same.refl H3) (.lf .non) rfl SOk.non) fun w0 => ?_⟩
    refine ⟨_, rfl, rfl, _, rfl, ite2 (fun _ => ⟨_, rfl, t, _, rfl, .inr (SqT.of ht3), fun l nl => ?_⟩) fun w1 => ?_⟩
    · exact new (same_new nl) (.lst (xs := stV S) (hid_add b3 nl).2.1 (ints_all _ (fun i hi => .int i hi) S (ok.small h10)) (by rw [lS]; omega)) rfl (SOk.lst (SOk.ints S))
    refine ⟨_, rfl, rfl, _, rfl, ite2 (fun _ => ⟨_, rfl, by show 1 ≤ sizeLine; decide, fun t1 nt1 => ?_⟩) fun w2 => ?_⟩
    · refine catA_of (same_new nt1 _ _ ht3) (upd_same : _ = some (.tup [V.int 0])) (by rw [lS]; show n + 1 ≤ 1000; omega) fun g H' s' hg => ?_
      have sg := (same_new nt1).trans s'
      have a0 : All2 (Lf1 (hid H' b)) [V.int 0] [.int 0] := .cons (.lf (lf_int (by decide) (by decide))) .nil
      exact new sg (.tup (hid_tup (b3.same sg) hg) ((all1 fun z hz => hz).app a0) (by rw [List.length_append, lS]; show n + 1 ≤ 40; omega)) (stB_len (by rw [List.length_append, List.length_map, ok.1]; show n + 1 ≠ n; omega)) (SOk.tup fun z hz => (List.mem_append.mp hz).elim (SOk.ints S z) fun hz => by rw [List.mem_singleton.mp hz]; exact SOk.int 0)
    refine ⟨_, rfl, rfl, _, rfl, ite2 (fun _ => ⟨_, rfl, _, rfl, t, _, rfl, SqT.of ht3, ?_, fun g ng => ?_⟩) fun w3 => ?_⟩
    · rw [lS]
      intro z
      have e := z.1
      rw [show (1 : Int) = ((1 : Nat) : Int) from rfl, HT.sIx_nat] at e
      omega
    · have e : cutV (stV S) (some 1) none = stV (S.drop 1) := cut_drop S 1 (by rw [ok.1]; exact n1)
      rw [e]
      exact new (same_new ng) (.tup (hid_add b3 ng).2.1 (all1 fun z hz => List.mem_of_mem_drop hz) (by rw [List.length_map, List.length_drop, ok.1]; omega)) (stB_len (by rw [List.length_map, List.length_drop, ok.1]; omega)) (SOk.tup (SOk.ints _))
    obtain ⟨j, ej, hj⟩ : ∃ j : Nat, (way : Int) - 4 = (j : Int) ∧ j < 4 := ⟨way - 4, by have := way_no (k := 0) w0; have := way_no (k := 1) w1; have := way_no (k := 2) w2; have := way_no (k := 3) w3; omega, by omega⟩
    refine ⟨_, rfl, _, rfl, by show 4 ≤ sizeLine; decide, fun L nL' => ?_⟩
    have sL : Same H3 (L2.upd H3 L (.lst [V.int (h : Int), V.int (-1), V.bl true, V.non])) := same_new nL'
    have hL : (L2.upd H3 L (.lst [V.int (h : Int), V.int (-1), V.bl true, V.non])) L = some (.lst [V.int (h : Int), V.int (-1), V.bl true, V.non]) := upd_same
    show (fun x H1 => tOp (rI0 fun i j => V.int (i - j)) (tVar 4) (tC (V.int 4)) _ H1 _) (V.ref L) (L2.upd H3 L (.lst [V.int (h : Int), V.int (-1), V.bl true, V.non]))
    generalize L2.upd H3 L (.lst [V.int (h : Int), V.int (-1), V.bl true, V.non]) = G at sL hL ⊢
    have bG := b3.same sL
    obtain ⟨v, d, hv, o1, bad, dk⟩ : ∃ (v : V) (d : PyData), ([V.int (h : Int), V.int (-1), V.bl true, V.non] : List V)[j]? = some v ∧ (∀ G : Hp, Lf1 G v d) ∧ inD h d = false ∧ SOk d.shown := by
      rcases (by omega : j = 0 ∨ j = 1 ∨ j = 2 ∨ j = 3) with rfl | rfl | rfl | rfl
      · refine ⟨_, .int (h : Int), rfl, fun G => .lf (lf_int (by omega) (by omega)), ?_, SOk.int _⟩
        show (decide ((0 : Int) ≤ (h : Int)) && decide ((h : Int) ≤ (h : Int) - 1)) = false
        rw [decide_eq_false (by omega : ¬ ((h : Int) ≤ (h : Int) - 1)), Bool.and_false]
      · exact ⟨_, .int (-1), rfl, fun G => .lf (lf_int (by decide) (by decide)), rfl, SOk.int _⟩
      · exact ⟨_, _, rfl, fun G => .lf (.bl true), rfl, SOk.bool _⟩
      · exact ⟨_, _, rfl, fun G => .lf .non, rfl, SOk.non⟩
    refine ⟨_, rfl, _, _, rfl, rfl, L, _, _, _, rfl, rfl, SqL.of hL, by show atI _ ((way : Int) - 4) = _; rw [ej]; exact atI_nat hv, ?_⟩
    have htG := sL _ _ ht3
    refine ⟨_, rfl, _, rfl, _, rfl, t, _, rfl, SqT.of htG, ?_, fun p1 np1 => ?_⟩
    · rw [lS]
      intro z
      have e := z.2
      rw [HT.sIx_nat] at e
      omega
    rw [cut_take]
    have g1 : Same G (L2.upd G p1 (.tup (stV (S.take sp)))) := same_new np1
    have hp1 : (L2.upd G p1 (.tup (stV (S.take sp)))) p1 = some (.tup (stV (S.take sp))) := upd_same
    generalize L2.upd G p1 (.tup (stV (S.take sp))) = G1 at g1 hp1 ⊢
    refine ⟨_, rfl, by show 1 ≤ sizeLine; decide, fun p2 np2 => ?_⟩
    have g2 : Same G1 (L2.upd G1 p2 (.tup [v])) := same_new np2
    have hp2 : (L2.upd G1 p2 (.tup [v])) p2 = some (.tup [v]) := upd_same
    generalize L2.upd G1 p2 (.tup [v]) = G2 at g2 hp2 ⊢
    have lt1 : (stV (S.take sp)).length ≤ 16 := by rw [List.length_map, List.length_take, ok.1]; omega
    refine catA_of (g2 _ _ hp1) hp2 (by show _ + 1 ≤ 1000; omega) fun p3 G3 g3 hp3 => ?_
    have g03 := (g1.trans g2).trans g3
    have htG3 := g03 _ _ htG
    have e1 : (sp : Int) + 1 = ((sp + 1 : Nat) : Int) := by omega
    refine ⟨_, rfl, _, rfl, _, _, rfl, rfl, _, rfl, t, _, rfl, SqT.of htG3, ?_, fun p4 np4 => ?_⟩
    · rw [lS]
      intro z
      have e := z.1
      rw [e1, HT.sIx_nat] at e
      omega
    rw [e1, cut_drop S (sp + 1) (by rw [ok.1]; omega)]
    have g4 : Same G3 (L2.upd G3 p4 (.tup (stV (S.drop (sp + 1))))) := same_new np4
    have hp4 : (L2.upd G3 p4 (.tup (stV (S.drop (sp + 1))))) p4 = some (.tup (stV (S.drop (sp + 1)))) := upd_same
    generalize L2.upd G3 p4 (.tup (stV (S.drop (sp + 1)))) = G4 at g4 hp4 ⊢
    have lt2 : (stV (S.drop (sp + 1))).length ≤ 16 := by rw [List.length_map, List.length_drop, ok.1]; omega
    refine catA_of (g4 _ _ hp3) hp4 (by rw [List.length_append]; show _ + 1 + _ ≤ 1000; omega) fun p5 G5 g5 hp5 => ?_
    have gG := (g03.trans g4).trans g5
    have sF := sL.trans gG
    refine new sF (.tup (hid_tup (b3.same sF) hp5) (((all1 fun z hz => List.mem_of_mem_take hz).app (.cons (o1 _) .nil)).app (all1 fun z hz => List.mem_of_mem_drop hz)) ?_) (stB_bad bad) (SOk.tup fun z hz => ?_)
    · rw [List.length_append, List.length_append, List.length_map, List.length_map, List.length_take, List.length_drop, ok.1]
      show _ + 1 + _ ≤ 40
      omega
    · rcases List.mem_append.mp hz with hz | hz
      · rcases List.mem_append.mp hz with hz | hz
        · exact SOk.ints _ z hz
        · rw [List.mem_singleton.mp hz]; exact dk
      · exact SOk.ints _ z hz
/-! ### asked, with its refusals -/
theorem b_repr : bootBuiltins ("repr" : Str) = some (.builtin "repr") := by decide +kernel
theorem _root_.L2.Room.u100 {k : Nat} {A : Around} (r : Room k A) : A.units + 100 < cLine := by have := r.un; omega
/-- no repr is under way, and there is room for one -/
structure RG (A : Around) : Prop where
  g : A.guards = some []
  u : A.units + 100 < cLine
theorem cr_reprS {X : Cx} {a : Addr} {pn : List (Addr × Obj)} (h : RG X.A) : CallR (X.suite a pn) (.builtin "repr") (rRepr X.K) := cr_repr (X := X.suite a pn) h.g h.u
theorem cr_reprR {X : Cx} (h : RG X.A) : CallR X (.builtin "repr") (rRepr X.K) := cr_repr h.g h.u
theorem pe_calR {X : Cx} {e : Expr} {es : List Expr} {t : TA} {x : Str} {k : Nat} {sp : Sp} {p pos : Pos} (c : CalG X.prog X.w X.K X.mg X.base x k sp) (rg : RG X.A) (hr : Room k X.A) (ha : PA X (e :: es) t) (hg : Gl X x := by rfl) (hdb : (x == ("__debug__" : Str)) = false := by decide)
    (he : starEach (e :: es) X.env = (false, eval e X.env) :: starEach es X.env := by rfl) (hpl : (backTo pos (starEach es X.env)).any (·.1) = false := by rfl) :
    PE X (.Call (.Name x p) (e :: es) [] pos) (tCal sp t) := pe_calG c rg.g hr ha hg hdb he hpl
/-- the classes of what is raised -/
structure TxW (K : PySem.W.Frag) (mg : Str → Option Value) (CE CS CL CR CN : Addr) : Prop where
  gE : mg "HuefallError" = some (.ref CE)
  gS : mg "InvalidState" = some (.ref CS)
  gL : mg "InvalidLamp" = some (.ref CL)
  gR : mg "NotReachable" = some (.ref CR)
  gN : mg "InvalidNumber" = some (.ref CN)
  xS : XCls K CS
  xL : XCls K CL
  xR : XCls K CR
  xN : XCls K CN
  xg : XGlob K
  nS : PySem.W.findIn K (.ref CS) "state" = some none
  nL : PySem.W.findIn K (.ref CL) "lamp" = some none
  nR : PySem.W.findIn K (.ref CR) "lamp" = some none
  nN : PySem.W.findIn K (.ref CN) "number" = some none
  eSS : PySem.W.exmOne K (.ref CS) (.ref CS) = some true
  eLS : PySem.W.exmOne K (.ref CL) (.ref CS) = some false
  eLL : PySem.W.exmOne K (.ref CL) (.ref CL) = some true
  eRS : PySem.W.exmOne K (.ref CR) (.ref CS) = some false
  eRL : PySem.W.exmOne K (.ref CR) (.ref CL) = some false
  eRR : PySem.W.exmOne K (.ref CR) (.ref CR) = some true
  eNS : PySem.W.exmOne K (.ref CN) (.ref CS) = some false
  eNL : PySem.W.exmOne K (.ref CN) (.ref CL) = some false
  eNR : PySem.W.exmOne K (.ref CN) (.ref CR) = some false
  eNN : PySem.W.exmOne K (.ref CN) (.ref CN) = some true
  kSE : PySem.W.kitOne K (.ref CS) (.ref CE) = some true
  kLE : PySem.W.kitOne K (.ref CL) (.ref CE) = some true
  kRE : PySem.W.kitOne K (.ref CR) (.ref CE) = some true
  kNE : PySem.W.kitOne K (.ref CN) (.ref CE) = some true
  kS2 : PySem.W.kitAny K (.ref CS) [.ref CR, .ref CL] = some false
  kL2 : PySem.W.kitAny K (.ref CL) [.ref CR, .ref CS] = some false
  kR2 : PySem.W.kitAny K (.ref CR) [.ref CL, .ref CN] = some false
  kNR : PySem.W.kitOne K (.ref CN) (.ref CR) = some false
/-- a refusal told -/
def Told (w : String) (d : PyData) (H : Hp) (Q : VK) : Prop := ∀ (p : Addr) (H' : Hp), Same H H' → H' p = some (.tup [.str w, .str d.shown, .bl true]) → Q (.ref p) H'
def spTold (C CT : Addr) : Sp := fun vs H Q _ => ∃ (x : Addr) (n h : Nat) (ps : List (Nat × Nat)) (v u y : V) (z : Int) (d e dy : PyData), vs = [.ref x, v, u, y, .int z] ∧ HsOk C H x n h ps ∧ n ≤ 16 ∧ 1 ≤ h ∧ h ≤ 10 ∧ Ranked (relOf ps) ∧ Lf2 H v d ∧ Lf2 H u e ∧ Lf2 H y dy ∧ z.natAbs < 10 ^ 38 ∧
  (stB n h d = false → Told "state" d H Q) ∧ (stB n h d = true → stB n h e = false → Told "state" e H Q) ∧
  (stB n h d = true → stB n h e = true → inI y 0 ((n : Int) - 1) = false → Told "lamp" dy H Q) ∧
  (∀ (t r : Addr) (S D : List Int) (k : Nat), v = .ref t → u = .ref r → H t = some (.tup (stV S)) → H r = some (.tup (stV D)) → StOk n h S → StOk n h D → y = .int k → k < n →
    (∀ j : Nat, obsT n (relOf ps) S D = some j → Told "lost" (.int j) H Q) ∧
    (obsT n (relOf ps) S D = none → ∃ few lot : Nat → Int, (∀ v, v < n → few v = leastF n h (relOf ps) S D (fun _ => none) few v) ∧ (∀ v, v < n → lot v = mostF n h (relOf ps) S D lot v) ∧ (¬ goodN h (few k) (lot k) z → Told "number" (.int z) H Q) ∧
      (goodN h (few k) (lot k) z → ∃ c : Nat → Int, (∀ v, v < n → c v = leastF n h (relOf ps) S D (fixL (relOf ps) lot k z) c v) ∧ (∀ v, v < n → 0 ≤ c v) ∧ ∀ (H' : Hp) (p tl : Addr), Same H H' → TlOk CT H' tl (cL n c) → H' p = some (.tup [.str "told", .ref tl]) → Q (.ref p) H')))
end
end Hue

end
section
set_option maxRecDepth 100000
set_option maxHeartbeats 4000000
namespace Hue
open PySem PySem.Spec PyProof.Rows L2 LamA
section
variable {P : Program} {w : World} {K : PySem.W.Frag} {mg : Str → Option Value} {base : Heap} {C CT : Addr} {L : Lam}
/-! ### moves put into a run -/
def mnI (a b : Int) : Int := if b < a then b else a
def wmT (U : Nat → Bool) (h lamp : Nat) : List Nat → Int → Int → List Nat
  | [], _, _ => []
  | m :: ms, hue, left =>
    if U m = true then m :: (List.replicate (mnI ((hue - 1) % (h : Int)) left).toNat lamp ++ wmT U h lamp ms ((hue - 1) % (h : Int) - mnI ((hue - 1) % (h : Int)) left) (left - mnI ((hue - 1) % (h : Int)) left))
    else m :: wmT U h lamp ms hue left
def wmF (U : Nat → Bool) (h lamp : Nat) (run : List Nat) (hue count : Int) : List Nat := List.replicate (mnI hue count).toNat lamp ++ wmT U h lamp run (hue - mnI hue count) (count - mnI hue count)
theorem mn_bd {a b : Int} (a0 : 0 ≤ a) (b0 : 0 ≤ b) : 0 ≤ mnI a b ∧ mnI a b ≤ a ∧ mnI a b ≤ b := by
  unfold mnI
  split <;> omega
theorem cL_rn (n lamp : Nat) : cL n (fun _ => (lamp : Int)) = nL (List.replicate n lamp) := by
  unfold cL nL nI
  rw [List.map_map, List.map_replicate]
  refine List.ext_getElem? fun i => ?_
  by_cases hi : i < n
  · rw [List.getElem?_map, List.getElem?_range hi, List.getElem?_replicate, if_pos hi]; rfl
  · rw [List.getElem?_eq_none (by rw [List.length_map, List.length_range]; omega), List.getElem?_eq_none (by rw [List.length_replicate]; omega)]
/-- a lamp, put so and so often -/
theorem rep_put {H : Hp} {zz : Addr} {lamp : Nat} {put : Int} {Q : VK} (p0 : 0 ≤ put) (p1 : put ≤ 1000) (hz : H zz = some (.lst [.int (lamp : Nat)])) (q : ∀ p, H p = none → Q (.ref p) (L2.upd H p (.lst (nL (List.replicate put.toNat lamp))))) : rRep (.ref zz) (.int put) H Q := by
  have e : put = ((put.toNat : Nat) : Int) := by omega
  rw [e]
  refine repC hz (by omega) fun p np => ?_
  rw [cL_rn]
  exact q p np
/-- what the lambda answers -/
def lspH (C : Addr) : Addr → List V → Hp → VK → Prop := fun x vs H Q => ∃ (lamp : V) (hue : Int) (h : Nat) (dx : Addr) (fs : List (Str × V)), vs = [lamp, .int hue] ∧ H x = some (.ins C dx fs) ∧ fs.lookup ("hues" : Str) = some (.int h) ∧ 1 ≤ h ∧ Q (.int ((hue - 1) % (h : Int))) H
abbrev s_with_moves : Stmt := top 26
theorem sc_with_moves : FnScope ["run", "lamp", "hue", "count", "turners", "turned_hue", "put", "longer", "left", "move"] ["run", "lamp", "hue", "count", "turners", "turned_hue"] (defScope s_with_moves) := ⟨rfl, rfl, rfl, by decide +kernel, rfl, by decide +kernel, by decide +kernel⟩
-- slots of with_moves: 0 run, 1 lamp, 2 hue, 3 count, 4 turners, 5 turned_hue, 6 put, 7 longer, 8 left, 9 move
def spWithMoves (C : Addr) (L : Lam) : Sp := fun vs H Q _ => ∃ (ra ta f x : Addr) (lamp h : Nat) (run us : List Nat) (hue count : Int) (n hh : Nat) (ps : List (Nat × Nat)), vs = [.ref ra, .int lamp, .int hue, .int count, .ref ta, .ref f] ∧ H ra = some (.lst (nL run)) ∧ H ta = some (.lst (nL us)) ∧ LamAt L H f x ∧ HsOk C H x n h ps ∧ 1 ≤ h ∧ h ≤ 10 ∧ 0 ≤ hue ∧ hue < (h : Int) ∧ 0 ≤ count ∧ (wmF (fun m => decide (m ∈ us)) h lamp run hue count).length ≤ 100000 ∧
  ∀ (H' : Hp) (p : Addr), Same H H' → H p = none → H' p = some (.lst (nL (wmF (fun m => decide (m ∈ us)) h lamp run hue count))) → Q (.ref p) H'
theorem ok_with_moves (T : Txt K mg C) {f : Addr} {fd : FuncData} (F : Fun K "with_moves" "with_moves" s_with_moves f fd) (LK_ : LamK P w K mg base L 1 (lspH C)) : FnOk P w K mg base CX0 2 f fd ["run", "lamp", "hue", "count", "turners", "turned_hue"] (spWithMoves C L) := by
  refine F.ok sc_with_moves (fun vs H Q E h => ?_) (fun cdv A outer s H vs Q E hr h => ?_)
  · obtain ⟨ra, ta, f, x, lamp, h, run, us, hue, count, n, hh, ps, rfl, _⟩ := h; rfl
  · obtain ⟨ra, ta, f, x, lamp, h, run, us, hue, count, n, hh, ps, rfl, hra, hta, la, hs, h1, h10, u0, u1, c0, len, q⟩ := h
    refine ⟨_, (pss_cons (ps_set (i := 6) sc_with_moves.nd rfl (by first | exact Or.inl rfl | exact Or.inr rfl) (pe_callB (call_min2 rfl) (by rfl) T.min b_min (pa_cons (pv 2) (pa_cons (pv 3) pa_nil))))
      (pss_cons (ps_set (i := 7) sc_with_moves.nd rfl (by first | exact Or.inl rfl | exact Or.inr rfl) (pe_op op_rep (pe_lst (pa_cons (pv 1) pa_nil)) (pv 6)))
      (pss_cons (ps_aug (i := 2) sc_with_moves.nd rfl (by first | exact Or.inl rfl | exact Or.inr rfl) (pv 6) ip_sub)
      (pss_cons (ps_set (i := 8) sc_with_moves.nd rfl (by first | exact Or.inl rfl | exact Or.inr rfl) (pe_op op_sub (pv 3) (pv 6)))
      (pss_cons (ps_for PassesOwn.never rfl (pil_ K (pv 0)) (pg_name (i := 9) sc_with_moves.nd rfl (by first | exact Or.inl rfl | exact Or.inr rfl))
      (pss_cons (ps_expr (pe_bm PySem.F.plainAttrs_list PySem.F.slot_list_append PySem.F.type_list_append mt_append (pv 7) (pa_cons (pv 9) pa_nil)))
      (pss_one (ps_if (pt_cmpR (inS_ K) (pv 9) (pv 4) (by rfl))
      (pss_cons (ps_set (i := 2) sc_with_moves.nd rfl (by first | exact Or.inl rfl | exact Or.inr rfl) (pe_lamv LK_ (hr.mono (by decide)) (i := 5) rfl (by first | exact Or.inl rfl | exact Or.inr rfl) (pa_cons (pv 1) (pa_cons (pv 2) pa_nil))))
      (pss_cons (ps_set (i := 6) sc_with_moves.nd rfl (by first | exact Or.inl rfl | exact Or.inr rfl) (pe_callB (call_min2 rfl) (by rfl) T.min b_min (pa_cons (pv 2) (pa_cons (pv 8) pa_nil))))
      (pss_cons (ps_expr (pe_bm PySem.F.plainAttrs_list PySem.F.slot_list_extend PySem.F.type_list_extend mt_extend (pv 7) (pa_cons (pe_op op_rep (pe_lst (pa_cons (pv 1) pa_nil)) (pv 6)) pa_nil)))
      (pss_cons (ps_aug (i := 2) sc_with_moves.nd rfl (by first | exact Or.inl rfl | exact Or.inr rfl) (pv 6) ip_sub)
      (pss_one (ps_aug (i := 8) sc_with_moves.nd rfl (by first | exact Or.inl rfl | exact Or.inr rfl) (pv 6) ip_sub)))))) pss_nil))))
      (pss_one (ps_ret (pv 7)))))))), ?_⟩
    have m0 := mn_bd u0 c0
    obtain ⟨dx, fs, g1, g2, g3, mth⟩ := hs.ins
    generalize hfull : wmF (fun m => decide (m ∈ us)) h lamp run hue count = full at len q
    refine ⟨_, rfl, _, rfl, hue, count, rfl, ?_⟩
    refine ⟨_, rfl, by show 1 ≤ sizeLine; decide, fun zz nz => ⟨_, rfl, ?_⟩⟩
    refine rep_put (put := mnI hue count) m0.1 (by omega) upd_same fun pl npl => ?_
    have fpl : H pl = none := (same_new (o := .lst [V.int (lamp : Int)]) nz).free npl
    have s1 : Same H (L2.upd (L2.upd H zz (.lst [V.int (lamp : Int)])) pl (.lst (nL (List.replicate (mnI hue count).toNat lamp)))) := (same_new nz).trans (same_new npl)
    have h1' : (L2.upd (L2.upd H zz (.lst [V.int (lamp : Int)])) pl (.lst (nL (List.replicate (mnI hue count).toNat lamp)))) pl = some (.lst (nL (List.replicate (mnI hue count).toNat lamp))) := upd_same
    generalize L2.upd (L2.upd H zz (.lst [V.int (lamp : Int)])) pl (.lst (nL (List.replicate (mnI hue count).toNat lamp))) = H1 at s1 h1' ⊢
    refine ⟨_, rfl, _, rfl, _, _, rfl, rfl, ?_⟩
    refine ⟨_, rfl, _, rfl, _, _, rfl, rfl, ?_⟩
    refine ⟨_, rfl, ra, rfl, ⟨_, SqL.of (s1 _ _ hra)⟩, ?_⟩
    refine for_list (K := K) (a := ra) (xs := nL run) (fun i σ G => ∃ (hu lf : Int) (v6 v9 : Option V) (acc : List Nat), σ = [some (.ref ra), some (.int (lamp : Nat)), some (.int hu), some (.int count), some (.ref ta), some (.ref f), v6, some (.ref pl), some (.int lf), v9] ∧ Same H G ∧ G pl = some (.lst (nL acc)) ∧ acc ++ wmT (fun m => decide (m ∈ us)) h lamp (run.drop i) hu lf = full ∧ 0 ≤ hu ∧ hu < (h : Int) ∧ 0 ≤ lf)
      ⟨hue - mnI hue count, count - mnI hue count, _, _, _, rfl, s1, h1', by rw [← hfull]; rfl, by omega, by omega, by omega⟩ (fun i σ G _ ⟨_, _, _, _, _, _, sG, _⟩ => SqL.of (sG _ _ hra)) ?_ ?_
    · rintro i y σ G hy ⟨hu, lf, v6, v9, acc, rfl, sG, gl, ef, hu0, hu1, lf0⟩
      obtain ⟨m, hm, rfl⟩ := nL_it2 hy
      obtain ⟨il, em⟩ := List.getElem?_eq_some_iff.mp hm
      rw [List.drop_eq_getElem_cons il, em] at ef
      have la_ : acc.length + 1 ≤ 100000 := by
        have := congrArg List.length ef
        rw [List.length_append] at this
        have l1 : 1 ≤ (wmT (fun m => decide (m ∈ us)) h lamp (m :: run.drop (i + 1)) hu lf).length := by
          unfold wmT
          split <;> simp
        omega
      refine ⟨_, rfl, .inl ⟨rfl, _, SqL.of gl⟩, _, rfl, pl, _, _, rfl, rfl, gl, by rw [nL_len, sizeLine_eq]; omega, ?_⟩
      have s2 : Same H (L2.upd G pl (.lst (nL acc ++ [V.int (m : Int)]))) := same_upd sG fpl
      have g2' : (L2.upd G pl (.lst (nL acc ++ [V.int (m : Int)]))) pl = some (.lst (nL (acc ++ [m]))) := by rw [upd_same, nL_app]; rfl
      generalize L2.upd G pl (.lst (nL acc ++ [V.int (m : Int)])) = G2 at s2 g2' ⊢
      refine ⟨_, rfl, _, rfl, ta, _, rfl, .inl (SqL.of (s2 _ _ hta)), rfl, flat_nL _, _, rfl, ?_⟩
      show if inV (V.int (m : Int)) (nL us) = true then _ else _
      rw [in_nL]
      refine ite2 (fun hin => ?_) fun hin => ?_
      · have e1 : wmT (fun m => decide (m ∈ us)) h lamp (m :: run.drop (i + 1)) hu lf = m :: (List.replicate (mnI ((hu - 1) % (h : Int)) lf).toNat lamp ++ wmT (fun m => decide (m ∈ us)) h lamp (run.drop (i + 1)) ((hu - 1) % (h : Int) - mnI ((hu - 1) % (h : Int)) lf) (lf - mnI ((hu - 1) % (h : Int)) lf)) := if_pos hin
        rw [e1] at ef
        have r0 := Int.emod_nonneg (hu - 1) (by omega : (h : Int) ≠ 0)
        have r1 := Int.emod_lt_of_pos (hu - 1) (by omega : 0 < (h : Int))
        have mb := mn_bd r0 lf0
        refine ⟨f, x, rfl, la.same s2, ?_⟩
        refine ⟨_, rfl, _, rfl, la.same s2, _, hu, h, dx, fs, rfl, s2 _ _ g1, g3, h1, ?_⟩
        generalize hnu : (hu - 1) % (h : Int) = nu at ef r0 r1 mb ⊢
        refine ⟨_, rfl, _, rfl, nu, lf, rfl, ?_⟩
        refine ⟨_, rfl, .inl ⟨rfl, _, SqL.of g2'⟩, _, rfl, by show 1 ≤ sizeLine; decide, fun zz nz => ⟨_, rfl, ?_⟩⟩
        refine rep_put (put := mnI nu lf) mb.1 (by omega) upd_same fun p2 np2 => ?_
        have n2 : p2 ≠ pl := fun z => by
          rw [z, upd_ne (ne_of_none g2' nz), g2'] at np2
          cases np2
        have n3 : zz ≠ pl := fun z => by rw [z, g2'] at nz; cases nz
        have s3 : Same G2 (L2.upd (L2.upd G2 zz (.lst [V.int (lamp : Int)])) p2 (.lst (nL (List.replicate (mnI nu lf).toNat lamp)))) := (same_new nz).trans (same_new np2)
        have g3' := s3 _ _ g2'
        have h3 : (L2.upd (L2.upd G2 zz (.lst [V.int (lamp : Int)])) p2 (.lst (nL (List.replicate (mnI nu lf).toNat lamp)))) p2 = some (.lst (nL (List.replicate (mnI nu lf).toNat lamp))) := upd_same
        generalize L2.upd (L2.upd G2 zz (.lst [V.int (lamp : Int)])) p2 (.lst (nL (List.replicate (mnI nu lf).toNat lamp))) = G3 at s3 g3' h3 ⊢
        refine ⟨pl, p2, _, _, rfl, rfl, g3', h3, ?_, ?_⟩
        · have := congrArg List.length ef
          rw [List.length_append, List.length_cons, List.length_append, List.length_replicate] at this
          rw [nL_len, nL_len, List.length_append, List.length_replicate, sizeLine_eq]
          show acc.length + 1 + _ ≤ _
          omega
        · refine ⟨_, rfl, _, rfl, _, _, rfl, rfl, ?_⟩
          refine ⟨_, rfl, _, rfl, _, _, rfl, rfl, ?_⟩
          refine ⟨nu - mnI nu lf, lf - mnI nu lf, _, _, acc ++ [m] ++ List.replicate (mnI nu lf).toNat lamp, rfl, same_upd (s2.trans s3) fpl, by rw [upd_same, ← nL_app], ?_, by omega, by omega, by omega⟩
          rw [← ef]
          simp [List.append_assoc]
      · have e1 : wmT (fun m => decide (m ∈ us)) h lamp (m :: run.drop (i + 1)) hu lf = m :: wmT (fun m => decide (m ∈ us)) h lamp (run.drop (i + 1)) hu lf := if_neg hin
        rw [e1] at ef
        exact ⟨hu, lf, _, _, acc ++ [m], rfl, s2, g2', by rw [← ef, List.append_assoc]; rfl, hu0, hu1, lf0⟩
    · rintro σ G ⟨hu, lf, v6, v9, acc, rfl, sG, gl, ef, hu0, hu1, lf0⟩
      rw [nL_len, List.drop_length] at ef
      have e1 : wmT (fun m => decide (m ∈ us)) h lamp [] hu lf = [] := rfl
      rw [e1, List.append_nil] at ef
      subst ef
      exact ⟨_, rfl, q G pl sG fpl gl⟩
end
end Hue

end
section
set_option maxRecDepth 100000
set_option maxHeartbeats 4000000
namespace Hue
open PySem PySem.Spec PyProof.Rows L2 LamA LamX NdefX ItX
section
variable {P : Program} {w : World} {K : PySem.W.Frag} {mg : Str → Option Value} {base : Heap} {C CT : Addr} {L : Lam}
/-! ### the run that the counts make -/
def plR (n h : Nat) (R : Rel) (S : List Int) (c : Nat → Int) (order : List Nat) : List Nat := order.foldl (fun run v => wmF (fun m => decide (m ∈ Bel n (flip R) v)) h v run (at_ S v) (c v)) []
theorem wmT_len (U : Nat → Bool) (h lamp : Nat) (h1 : 1 ≤ h) : ∀ (ms : List Nat) (hue left : Int), 0 ≤ left → ((wmT U h lamp ms hue left).length : Int) ≤ ms.length + left := by
  intro ms
  induction ms with
  | nil => intro hue left l0; show ((0 : Nat) : Int) ≤ _; simp; omega
  | cons m ms ih =>
    intro hue left l0
    unfold wmT
    by_cases u : U m = true
    · rw [if_pos u]
      have r0 := Int.emod_nonneg (hue - 1) (by omega : (h : Int) ≠ 0)
      have mb := mn_bd r0 l0
      have := ih ((hue - 1) % (h : Int) - mnI ((hue - 1) % (h : Int)) left) (left - mnI ((hue - 1) % (h : Int)) left) (by omega)
      rw [List.length_cons, List.length_append, List.length_replicate, List.length_cons]
      omega
    · rw [if_neg u, List.length_cons, List.length_cons]
      have := ih hue left l0
      omega
theorem wmF_len (U : Nat → Bool) {h : Nat} (lamp : Nat) (h1 : 1 ≤ h) (run : List Nat) {hue count : Int} (u0 : 0 ≤ hue) (c0 : 0 ≤ count) : ((wmF U h lamp run hue count).length : Int) ≤ run.length + count := by
  unfold wmF
  have mb := mn_bd u0 c0
  have := wmT_len U h lamp h1 run (hue - mnI hue count) (count - mnI hue count) (by omega)
  rw [List.length_append, List.length_replicate]
  omega
theorem plR_snoc (n h : Nat) (R : Rel) (S : List Int) (c : Nat → Int) (order : List Nat) (v : Nat) : plR n h R S c (order ++ [v]) = wmF (fun m => decide (m ∈ Bel n (flip R) v)) h v (plR n h R S c order) (at_ S v) (c v) := by
  unfold plR
  rw [List.foldl_append]
  rfl
theorem plR_len {n h : Nat} {R : Rel} {S : List Int} {c : Nat → Int} (h1 : 1 ≤ h) (ok : StOk n h S) (pos : ∀ v, v < n → 0 ≤ c v) : ∀ (k : Nat) (order : List Nat), order.length = k → (∀ v ∈ order, v < n) → ((plR n h R S c order).length : Int) ≤ (order.map c).sum := by
  intro k
  induction k with
  | zero => intro order e _; rw [List.length_eq_zero_iff.mp e]; exact Int.le_refl _
  | succ k ih =>
    intro order e lt
    have ne : order ≠ [] := fun z => by rw [z] at e; cases e
    have eo := (List.dropLast_concat_getLast ne).symm
    generalize order.getLast ne = v at eo
    generalize order.dropLast = os at eo
    subst eo
    have vn := lt v (by simp)
    rw [plR_snoc, List.map_append, List.sum_append]
    have i1 := ih os (by simpa using e) fun u hu => lt u (by simp [hu])
    have i2 := wmF_len (fun m => decide (m ∈ Bel n (flip R) v)) v h1 (plR n h R S c os) (ok.2 _ (at_mem ok.1 vn)).1 (pos v vn)
    simp only [List.map_cons, List.map_nil, List.sum_cons, List.sum_nil]
    omega
theorem sum_take_le {c : Nat → Int} : ∀ (order : List Nat) (i : Nat), (∀ v ∈ order, 0 ≤ c v) → ((order.take i).map c).sum ≤ (order.map c).sum := by
  intro order i pos
  have e : (order.map c).sum = ((order.take i).map c).sum + ((order.drop i).map c).sum := by rw [← List.sum_append, ← List.map_append, List.take_append_drop]
  have : 0 ≤ ((order.drop i).map c).sum := by
    have : ∀ l : List Nat, (∀ v ∈ l, 0 ≤ c v) → 0 ≤ (l.map c).sum := by
      intro l
      induction l with
      | nil => intro _; exact Int.le_refl _
      | cons a l ih => intro h; rw [List.map_cons, List.sum_cons]; have := ih fun v hv => h v (List.mem_cons_of_mem _ hv); have := h a List.mem_cons_self; omega
    exact this _ fun v hv => pos v (List.mem_of_mem_drop hv)
  omega
abbrev s_placed_run : Stmt := top 25
theorem sc_placed_run : FnScope ["order", "source", "counts", "turners", "turned_hue", "run", "lamp"] ["order", "source", "counts", "turners", "turned_hue"] (defScope s_placed_run) := ⟨rfl, rfl, rfl, by decide +kernel, rfl, by decide +kernel, by decide +kernel⟩
-- slots of placed_run: 0 order, 1 source, 2 counts, 3 turners, 4 turned_hue, 5 run, 6 lamp
def spPlacedRun (C : Addr) (L : Lam) : Sp := fun vs H Q _ => ∃ (oa t ca tb f x : Addr) (n h : Nat) (ps : List (Nat × Nat)) (order : List Nat) (S : List Int) (c : Nat → Int), vs = [.ref oa, .ref t, .ref ca, .ref tb, .ref f] ∧ H oa = some (.lst (nL order)) ∧ (∀ v ∈ order, v < n) ∧ H t = some (.tup (stV S)) ∧ StOk n h S ∧ H ca = some (.tup (cL n c)) ∧ (∀ v, v < n → 0 ≤ c v) ∧ Rows H tb (relRows n (flip (relOf ps))) ∧ LamAt L H f x ∧ HsOk C H x n h ps ∧ n ≤ 16 ∧ 1 ≤ h ∧ h ≤ 10 ∧ (∀ k, (plR n h (relOf ps) S c (order.take k)).length ≤ 100000) ∧
  ∀ (H' : Hp) (p : Addr), Same H H' → H p = none → H' p = some (.lst (nL (plR n h (relOf ps) S c order))) → Q (.ref p) H'
theorem ok_placed_run (T : Txt K mg C) {f : Addr} {fd : FuncData} (F : Fun K "placed_run" "placed_run" s_placed_run f fd) (c_with_moves : Cal P w K mg base "with_moves" 2 (spWithMoves C L)) : FnOk P w K mg base CX0 3 f fd ["order", "source", "counts", "turners", "turned_hue"] (spPlacedRun C L) := by
  refine F.ok sc_placed_run (fun vs H Q E h => ?_) (fun cdv A outer s H vs Q E hr h => ?_)
  · obtain ⟨oa, t, ca, tb, f, x, n, h, ps, order, S, c, rfl, _⟩ := h; rfl
  · obtain ⟨oa, t, ca, tb, f, x, n, h, ps, order, S, c, rfl, ho, lt, ht, ok, hc, pos, hb, la, hs, n16, h1, h10, few, q⟩ := h
    refine ⟨_, (pss_cons (ps_set (i := 5) sc_placed_run.nd rfl (by first | exact Or.inl rfl | exact Or.inr rfl) (pe_lst pa_nil))
      (pss_cons (ps_for PassesOwn.never rfl (pil_ K (pv 0)) (pg_name (i := 6) sc_placed_run.nd rfl (by first | exact Or.inl rfl | exact Or.inr rfl))
      (pss_one (ps_set (i := 5) sc_placed_run.nd rfl (by first | exact Or.inl rfl | exact Or.inr rfl) (pe_cal c_with_moves (hr.mono (by decide)) (pa_cons (pv 5) (pa_cons (pv 6) (pa_cons (pe_ix (ixT_ K) (pv 1) (pv 6) (fun _ _ => rfl)) (pa_cons (pe_ix (ixT_ K) (pv 2) (pv 6) (fun _ _ => rfl)) (pa_cons (pe_ix (ixL_ K) (pv 3) (pv 6) (fun _ _ => rfl)) (pa_cons (pv 4) pa_nil))))))))))
      (pss_one (ps_ret (pv 5))))), ?_⟩
    refine ⟨by decide, fun rl nrl => ?_⟩
    have s1 : Same H (L2.upd H rl (.lst [])) := same_new nrl
    have h1' : (L2.upd H rl (.lst [])) rl = some (.lst (nL [])) := upd_same
    generalize L2.upd H rl (.lst []) = H1 at s1 h1' ⊢
    refine ⟨_, rfl, oa, rfl, ⟨_, SqL.of (s1 _ _ ho)⟩, ?_⟩
    refine for_list (K := K) (a := oa) (xs := nL order) (fun i σ G => ∃ (rl : Addr) (v6 : Option V), σ = [some (.ref oa), some (.ref t), some (.ref ca), some (.ref tb), some (.ref f), some (.ref rl), v6] ∧ Same H G ∧ H rl = none ∧ G rl = some (.lst (nL (plR n h (relOf ps) S c (order.take i))))) ⟨rl, _, rfl, s1, nrl, h1'⟩ (fun i σ G _ ⟨_, _, _, sG, _⟩ => SqL.of (sG _ _ ho)) ?_ ?_
    · rintro i y σ G hy ⟨rl, v6, rfl, sG, nrl, gr⟩
      obtain ⟨v, hv, rfl⟩ := nL_it2 hy
      have vm := List.mem_of_getElem? hv
      have vn := lt v vm
      have kS := stV_get (S := S) (k := v) (by rw [ok.1]; exact vn)
      have rS := ok.2 _ (at_mem ok.1 vn)
      obtain ⟨ys, ra, hy1, hy2, hy3⟩ := rows_same (G := G) (hb.same sG) vn
      have et : order.take (i + 1) = order.take i ++ [v] := by rw [List.take_add_one, hv]; rfl
      refine ⟨_, rfl, _, rfl, _, rfl, _, rfl, t, _, _, _, rfl, rfl, SqT.of (sG _ _ ht), atI_nat kS, _, rfl, _, rfl, ca, _, _, _, rfl, rfl, SqT.of (sG _ _ hc), atI_nat (cL_get vn c), _, rfl, _, rfl, tb, _, _, _, rfl, rfl, SqL.of hy1, atI_nat hy2, _, rfl, ?_⟩
      have len : ((wmF (fun m => decide (m ∈ Bel n (flip (relOf ps)) v)) h v (plR n h (relOf ps) S c (order.take i)) (at_ S v) (c v)).length : Int) ≤ 100000 := by
        have a1 := few (i + 1)
        rw [et, plR_snoc] at a1
        omega
      refine ⟨rl, ra, f, x, v, h, _, _, at_ S v, c v, n, h, ps, rfl, gr, hy3, la.same sG, hs.same sG, h1, h10, rS.1, rS.2, pos v vn, by omega, fun G2 p s2 np hp => ⟨p, _, rfl, sG.trans s2, sG.free np, ?_⟩⟩
      rw [et, plR_snoc]
      exact hp
    · rintro σ G ⟨rl, v6, rfl, sG, nrl, gr⟩
      rw [nL_len, List.take_length] at gr
      exact ⟨_, rfl, q G rl sG nrl gr⟩
end
end Hue

end
section
set_option maxRecDepth 100000
set_option maxHeartbeats 4000000
namespace Hue
open PySem PySem.Spec PyProof.Rows L2
section
variable {n h : Nat} {R : Rel} {S D : List Int} {c : Nat → Int}
/-! ### the run that fitting counts make leads there -/
/-- a lamp's hue along a run -/
def hsF (R : Rel) (h v : Nat) : Int → List Nat → Option Int
  | x, [] => some x
  | x, m :: ms => if m = v then (if 0 < x then hsF R h v (x - 1) ms else none) else if R m v = true then hsF R h v ((x - 1) % (h : Int)) ms else hsF R h v x ms
theorem hs_rep (v : Nat) (rest : List Nat) : ∀ (k : Nat) (x : Int), (k : Int) ≤ x → hsF R h v x (List.replicate k v ++ rest) = hsF R h v (x - k) rest := by
  intro k
  induction k with
  | zero => intro x _; show hsF R h v x rest = _; rw [show x - ((0 : Nat) : Int) = x by omega]
  | succ k ih =>
    intro x hx
    rw [List.replicate_succ, List.cons_append]
    show (if v = v then (if 0 < x then hsF R h v (x - 1) (List.replicate k v ++ rest) else none) else _) = _
    rw [if_pos rfl, if_pos (by omega), ih (x - 1) (by omega), show x - 1 - (k : Int) = x - ((k + 1 : Nat) : Int) by omega]
theorem hs_skip {m v : Nat} (ne : m ≠ v) (r : ¬ R m v = true) (x : Int) (ms : List Nat) : hsF R h v x (m :: ms) = hsF R h v x ms := by
  show (if m = v then _ else if R m v = true then _ else _) = _
  rw [if_neg ne, if_neg r]
theorem hs_skips {m v : Nat} (ne : m ≠ v) (r : ¬ R m v = true) (x : Int) (rest : List Nat) : ∀ k, hsF R h v x (List.replicate k m ++ rest) = hsF R h v x rest := by
  intro k
  induction k with
  | zero => rfl
  | succ k ih => rw [List.replicate_succ, List.cons_append, hs_skip ne r, ih]
theorem hs_turn {m v : Nat} (ne : m ≠ v) (r : R m v = true) (x : Int) (ms : List Nat) : hsF R h v x (m :: ms) = hsF R h v ((x - 1) % (h : Int)) ms := by
  show (if m = v then _ else if R m v = true then _ else _) = _
  rw [if_neg ne, if_pos r]
/-- what is put in changes nothing for a lamp that it does not turn -/
theorem hs_other {U : Nat → Bool} {u lamp : Nat} (ne : lamp ≠ u) (r : ¬ R lamp u = true) : ∀ (ms : List Nat) (x hue left : Int), hsF R h u x (wmT U h lamp ms hue left) = hsF R h u x ms := by
  intro ms
  induction ms with
  | nil => intro x hue left; rfl
  | cons m ms ih =>
    intro x hue left
    have step : ∀ rest : List Nat, (∀ y, hsF R h u y rest = hsF R h u y ms) → hsF R h u x (m :: rest) = hsF R h u x (m :: ms) := fun rest e => by
      show (if m = u then (if 0 < x then hsF R h u (x - 1) rest else none) else if R m u = true then hsF R h u ((x - 1) % (h : Int)) rest else hsF R h u x rest) = _
      rw [e, e, e]
      rfl
    unfold wmT
    split
    · exact step _ fun y => by rw [hs_skips ne r, ih]
    · exact step _ fun y => ih y hue left
theorem hs_otherF {U : Nat → Bool} {u lamp : Nat} (ne : lamp ≠ u) (r : ¬ R lamp u = true) (run : List Nat) (x hue count : Int) : hsF R h u x (wmF U h lamp run hue count) = hsF R h u x run := by
  unfold wmF
  rw [hs_skips ne r, hs_other ne r]
def tnF (U : Nat → Bool) (ms : List Nat) : Nat := ms.countP U
/-- what is put in, seen by the lamp itself -/
theorem wmT_self {U : Nat → Bool} {v : Nat} (h1 : 1 ≤ h) : ∀ (ms : List Nat), (∀ m ∈ ms, m ≠ v ∧ (U m = true ↔ R m v = true)) → ∀ hue left : Int, 0 ≤ hue → hue < (h : Int) → 0 ≤ left → (hue = 0 ∨ left = 0) → left ≤ ((h : Int) - 1) * (ms.countP U : Nat) →
    ∃ x q : Int, hsF R h v hue (wmT U h v ms hue left) = some x ∧ 0 ≤ x ∧ x < (h : Int) ∧ hue - left - (ms.countP U : Nat) = x + (h : Int) * q ∧ (((wmT U h v ms hue left).count v : Nat) : Int) = left := by
  intro ms
  induction ms with
  | nil =>
    intro _ hue left u0 u1 l0 _ bd
    rw [List.countP_nil] at bd
    have l : left = 0 := by
      have z : ((h : Int) - 1) * ((0 : Nat) : Int) = 0 := Int.mul_zero _
      omega
    exact ⟨hue, 0, rfl, u0, u1, by rw [Int.mul_zero, List.countP_nil]; omega, by rw [l]; rfl⟩
  | cons m ms ih =>
    intro al hue left u0 u1 l0 or_ bd
    obtain ⟨ne, iff_⟩ := al m List.mem_cons_self
    have al' : ∀ m ∈ ms, m ≠ v ∧ (U m = true ↔ R m v = true) := fun m hm => al m (List.mem_cons_of_mem _ hm)
    unfold wmT
    by_cases u : U m = true
    · rw [if_pos u]
      rw [List.countP_cons_of_pos u] at bd ⊢
      have r0 := Int.emod_nonneg (hue - 1) (by omega : (h : Int) ≠ 0)
      have r1 := Int.emod_lt_of_pos (hue - 1) (by omega : 0 < (h : Int))
      have ed := Int.emod_add_mul_ediv (hue - 1) (h : Int)
      have hz : hue = 0 → (hue - 1) % (h : Int) = (h : Int) - 1 := fun e => by
        rw [e, show (0 : Int) - 1 = ((h : Int) - 1) + (h : Int) * (-1) by omega, Int.add_mul_emod_self_left, Int.emod_eq_of_lt (by omega) (by omega)]
      generalize hnu : (hue - 1) % (h : Int) = nu at r0 r1 ed hz ⊢
      have mb := mn_bd r0 l0
      have mor : nu - mnI nu left = 0 ∨ left - mnI nu left = 0 := by unfold mnI; split <;> omega
      have exp : ((h : Int) - 1) * ((ms.countP U + 1 : Nat) : Int) = ((h : Int) - 1) * ((ms.countP U : Nat) : Int) + ((h : Int) - 1) := by rw [Int.natCast_add, Int.mul_add]; simp
      have nn : 0 ≤ ((h : Int) - 1) * ((ms.countP U : Nat) : Int) := Int.mul_nonneg (by omega) (by omega)
      have bd' : left - mnI nu left ≤ ((h : Int) - 1) * ((ms.countP U : Nat) : Int) := by
        rcases or_ with e | e
        · have := hz e
          have : left - mnI nu left = 0 ∨ mnI nu left = nu := by unfold mnI; split <;> omega
          omega
        · omega
      obtain ⟨x, q, e1, e2, e3, e4, e5⟩ := ih al' (nu - mnI nu left) (left - mnI nu left) (by omega) (by omega) (by omega) mor bd'
      refine ⟨x, q + (hue - 1) / (h : Int), ?_, e2, e3, ?_, ?_⟩
      · rw [hs_turn ne (iff_.mp u), hnu, hs_rep v _ _ _ (by omega), show nu - ((mnI nu left).toNat : Int) = nu - mnI nu left by omega]
        exact e1
      · rw [Int.mul_add]
        omega
      · rw [List.count_cons_of_ne ne, List.count_append, List.count_replicate_self]
        omega
    · rw [if_neg u]
      rw [List.countP_cons_of_neg u] at bd ⊢
      obtain ⟨x, q, e1, e2, e3, e4, e5⟩ := ih al' hue left u0 u1 l0 or_ bd
      exact ⟨x, q, by rw [hs_skip ne (fun z => u (iff_.mpr z))]; exact e1, e2, e3, e4, by rw [List.count_cons_of_ne ne]; exact e5⟩
theorem wmF_self {U : Nat → Bool} {v : Nat} (h1 : 1 ≤ h) (run : List Nat) (al : ∀ m ∈ run, m ≠ v ∧ (U m = true ↔ R m v = true)) {hue count : Int} (u0 : 0 ≤ hue) (u1 : hue < (h : Int)) (c0 : 0 ≤ count) (bd : count ≤ hue + ((h : Int) - 1) * (run.countP U : Nat)) :
    ∃ x q : Int, hsF R h v hue (wmF U h v run hue count) = some x ∧ 0 ≤ x ∧ x < (h : Int) ∧ hue - count - (run.countP U : Nat) = x + (h : Int) * q ∧ (((wmF U h v run hue count).count v : Nat) : Int) = count := by
  have mb := mn_bd u0 c0
  have mor : hue - mnI hue count = 0 ∨ count - mnI hue count = 0 := by unfold mnI; split <;> omega
  have nn : 0 ≤ ((h : Int) - 1) * ((run.countP U : Nat) : Int) := Int.mul_nonneg (by omega) (by omega)
  obtain ⟨x, q, e1, e2, e3, e4, e5⟩ := wmT_self (R := R) h1 run al (hue - mnI hue count) (count - mnI hue count) (by omega) (by omega) (by omega) mor (by omega)
  refine ⟨x, q, ?_, e2, e3, by omega, ?_⟩
  · unfold wmF
    rw [hs_rep v _ _ _ (by omega), show hue - ((mnI hue count).toNat : Int) = hue - mnI hue count by omega]
    exact e1
  · unfold wmF
    rw [List.count_append, List.count_replicate_self]
    omega
theorem wmT_mem {U : Nat → Bool} {lamp u : Nat} : ∀ (ms : List Nat) (hue left : Int), u ∈ wmT U h lamp ms hue left → u = lamp ∨ u ∈ ms := by
  intro ms
  induction ms with
  | nil => intro hue left hu; exact absurd hu List.not_mem_nil
  | cons m ms ih =>
    intro hue left hu
    unfold wmT at hu
    split at hu
    · rcases List.mem_cons.mp hu with e | hu
      · exact .inr (by rw [e]; exact List.mem_cons_self)
      · rcases List.mem_append.mp hu with e | hu
        · exact .inl (List.mem_replicate.mp e).2
        · exact (ih _ _ hu).imp id fun z => List.mem_cons_of_mem _ z
    · rcases List.mem_cons.mp hu with e | hu
      · exact .inr (by rw [e]; exact List.mem_cons_self)
      · exact (ih _ _ hu).imp id fun z => List.mem_cons_of_mem _ z
theorem wmF_mem {U : Nat → Bool} {lamp u : Nat} {run : List Nat} {hue count : Int} (hu : u ∈ wmF U h lamp run hue count) : u = lamp ∨ u ∈ run := by
  unfold wmF at hu
  rcases List.mem_append.mp hu with e | hu
  · exact .inl (List.mem_replicate.mp e).2
  · exact wmT_mem _ _ _ hu
theorem wmT_cnt {U : Nat → Bool} {lamp u : Nat} (ne : u ≠ lamp) : ∀ (ms : List Nat) (hue left : Int), (wmT U h lamp ms hue left).count u = ms.count u := by
  intro ms
  induction ms with
  | nil => intro hue left; rfl
  | cons m ms ih =>
    intro hue left
    unfold wmT
    split
    · rw [List.count_cons, List.count_append, List.count_replicate, if_neg (by simpa using fun z : lamp = u => ne z.symm), ih, List.count_cons]
      omega
    · rw [List.count_cons, ih, List.count_cons]
theorem wmF_cnt {U : Nat → Bool} {lamp u : Nat} (ne : u ≠ lamp) (run : List Nat) (hue count : Int) : (wmF U h lamp run hue count).count u = run.count u := by
  unfold wmF
  rw [List.count_append, List.count_replicate, if_neg (by simpa using fun z : lamp = u => ne z.symm), wmT_cnt ne, Nat.zero_add]
theorem cntP_bur (v : Nat) : ∀ run : List Nat, (∀ m ∈ run, m < n) → ((run.countP fun m => decide (m ∈ Bel n (flip R) v) : Nat) : Int) = bur n R (fun u => ((run.count u : Nat) : Int)) v := by
  intro run
  induction run with
  | nil => intro _; rw [bur_sum, sumN_zero fun u _ => by split <;> rfl]; rfl
  | cons m ms ih =>
    intro lt
    have mn := lt m List.mem_cons_self
    have ih := ih fun k hk => lt k (List.mem_cons_of_mem _ hk)
    rw [bur_sum] at ih ⊢
    have e : sumN n (fun u => if R u v = true then (((m :: ms).count u : Nat) : Int) else 0) = sumN n (fun u => if R u v = true then ((ms.count u : Nat) : Int) else 0) + sumN n (fun u => if u = m then (if R u v = true then 1 else 0) else 0) := by
      rw [← sumN_add]
      refine sumN_congr fun u _ => ?_
      by_cases eu : u = m
      · subst eu
        rw [List.count_cons_self]
        by_cases r : R u v = true
        · rw [if_pos r, if_pos r, if_pos rfl, if_pos r]; omega
        · rw [if_neg r, if_neg r, if_pos rfl, if_neg r]; rfl
      · rw [List.count_cons_of_ne (fun z => eu z.symm)]
        by_cases r : R u v = true
        · rw [if_pos r, if_neg eu]; omega
        · rw [if_neg r, if_neg eu]; rfl
    rw [e, ← ih, sumN_one (fun u => if R u v = true then (1 : Int) else 0) mn, List.countP_cons]
    have mb : decide (m ∈ Bel n (flip R) v) = R m v := by
      rw [Bool.eq_iff_iff, decide_eq_true_iff, mem_Bel]
      exact ⟨fun z => z.2, fun z => ⟨mn, z⟩⟩
    rw [mb]
    by_cases r : R m v = true
    · rw [if_pos r, if_pos r]; omega
    · rw [if_neg r, if_neg r]; omega
/-- a run by what each lamp sees of it -/
theorem run_of_hs (h1 : 1 ≤ h) : ∀ (ms : List Nat) (S : List Int), StOk n h S → StOk n h D → (∀ m ∈ ms, m < n) → (∀ v, v < n → hsF R h v (at_ S v) ms = some (at_ D v)) → Run n h R false S ms D := by
  intro ms
  induction ms with
  | nil =>
    intro S okS okD _ al
    have e : S = D := by
      refine List.ext_getElem? fun i => ?_
      by_cases hi : i < n
      · have z : some (at_ S i) = some (at_ D i) := al i hi
        injection z with z
        have a : S[i]? = some (at_ S i) := by
          show S[i]? = some (S.getD i 0)
          rw [List.getD_eq_getElem?_getD, List.getElem?_eq_getElem (by rw [okS.1]; exact hi)]; rfl
        have b : D[i]? = some (at_ D i) := by
          show D[i]? = some (D.getD i 0)
          rw [List.getD_eq_getElem?_getD, List.getElem?_eq_getElem (by rw [okD.1]; exact hi)]; rfl
        rw [a, b, z]
      · rw [List.getElem?_eq_none (by rw [okS.1]; omega), List.getElem?_eq_none (by rw [okD.1]; omega)]
    rw [e]
    exact .nil D
  | cons m ms ih =>
    intro S okS okD lt al
    have mn := lt m List.mem_cons_self
    have bS : ∀ v, v < n → 0 ≤ at_ S v ∧ at_ S v < (h : Int) := fun v vn => okS.2 _ (at_mem okS.1 vn)
    have lit : 0 < at_ S m := by
      have z := al m mn
      have z : (if m = m then (if 0 < at_ S m then hsF R h m (at_ S m - 1) ms else none) else _) = some (at_ D m) := z
      rw [if_pos rfl] at z
      by_cases l : 0 < at_ S m
      · exact l
      · rw [if_neg l] at z; cases z
    refine .cons ⟨mn, lit, fun z => by cases z⟩ (ih _ (movS_ok h1 m) okD (fun k hk => lt k (List.mem_cons_of_mem _ hk)) fun v vn => ?_)
    have z := al v vn
    have b := bS v vn
    rw [movS_at vn]
    by_cases e : m = v
    · subst e
      have z : (if m = m then (if 0 < at_ S m then hsF R h m (at_ S m - 1) ms else none) else _) = some (at_ D m) := z
      rw [if_pos rfl, if_pos lit] at z
      rw [if_pos (.inl rfl), Int.emod_eq_of_lt (by omega) (by omega)]
      exact z
    · by_cases r : R m v = true
      · rw [hs_turn e r] at z
        rw [if_pos (.inr r)]
        exact z
      · rw [hs_skip e r] at z
        rw [if_neg (fun y => y.elim (fun y => e y.symm) r), Int.sub_zero, Int.emod_eq_of_lt b.1 b.2]
        exact z
/-- the counts fit: what each lamp sees of the run so far, and how often it has moved -/
theorem plR_key (h1 : 1 ≤ h) (okS : StOk n h S) (okD : StOk n h D) (pos : ∀ v, v < n → 0 ≤ c v) (fit : ∀ v, v < n → ∃ m : Int, c v - (at_ S v - at_ D v - bur n R c v) = (h : Int) * m) (bd : ∀ v, v < n → c v ≤ at_ S v + ((h : Int) - 1) * bur n R c v) {order : List Nat} (ok : OrdOk n R order) :
    ∀ k, k ≤ order.length → (∀ m ∈ plR n h R S c (order.take k), m ∈ order.take k) ∧ ∀ u ∈ order.take k, hsF R h u (at_ S u) (plR n h R S c (order.take k)) = some (at_ D u) ∧ (((plR n h R S c (order.take k)).count u : Nat) : Int) = c u := by
    intro k
    induction k with
    | zero => intro _; exact ⟨fun m hm => absurd hm (by rw [List.take_zero]; exact List.not_mem_nil), fun u hu => absurd hu (by rw [List.take_zero]; exact List.not_mem_nil)⟩
    | succ k ih =>
      intro hk
      obtain ⟨mem, al⟩ := ih (by omega)
      have hv : order[k]? = some order[k] := List.getElem?_eq_getElem (by omega)
      generalize order[k] = v at hv
      have et : order.take (k + 1) = order.take k ++ [v] := by rw [List.take_add_one, hv]; rfl
      have vm := List.mem_of_getElem? hv
      have vn := ok.lt v vm
      have nv : v ∉ order.take k := fun z => by
        obtain ⟨i, hi⟩ := List.mem_iff_getElem?.mp z
        have il : i < k := by
          have := (List.getElem?_eq_some_iff.mp hi).1
          rw [List.length_take] at this
          omega
        rw [List.getElem?_take, if_pos il] at hi
        have := (List.getElem?_inj (by have := (List.getElem?_eq_some_iff.mp hi).1; exact this) ok.nd).mp (hi.trans hv.symm)
        omega
      have ups : ∀ j, j < n → R j v = true → j ∈ order.take k := fun j jn r => ok.up k v hv j jn r
      have dn : ∀ u, u ∈ order.take k → ¬ R v u = true := fun u hu r => by
        obtain ⟨i, hi⟩ := List.mem_iff_getElem?.mp hu
        have il : i < k := by
          have := (List.getElem?_eq_some_iff.mp hi).1
          rw [List.length_take] at this
          omega
        rw [List.getElem?_take, if_pos il] at hi
        have := ok.up i u hi v vn r
        exact nv (by
          obtain ⟨q, hq⟩ := List.mem_iff_getElem?.mp this
          have ql : q < i := by
            have := (List.getElem?_eq_some_iff.mp hq).1
            rw [List.length_take] at this
            omega
          rw [List.getElem?_take, if_pos ql] at hq
          exact List.mem_iff_getElem?.mpr ⟨q, by rw [List.getElem?_take, if_pos (by omega)]; exact hq⟩)
      rw [et, plR_snoc]
      have rS := okS.2 _ (at_mem okS.1 vn)
      have rD := okD.2 _ (at_mem okD.1 vn)
      have lt : ∀ m ∈ plR n h R S c (order.take k), m < n := fun m hm => ok.lt m (List.mem_of_mem_take (mem m hm))
      have tb : (((plR n h R S c (order.take k)).countP fun m => decide (m ∈ Bel n (flip R) v) : Nat) : Int) = bur n R c v := by
        rw [cntP_bur v _ lt]
        exact bur_congr fun u un r => (al u (ups u un r)).2
      obtain ⟨x, q, e1, e2, e3, e4, e5⟩ := wmF_self (R := R) (U := fun m => decide (m ∈ Bel n (flip R) v)) h1 (plR n h R S c (order.take k)) (fun m hm => ⟨fun (z : m = v) => nv (z ▸ mem m hm), by
          rw [decide_eq_true_iff, mem_Bel]
          exact ⟨fun z => z.2, fun z => ⟨lt m hm, z⟩⟩⟩) rS.1 rS.2 (pos v vn) (by rw [tb]; exact bd v vn)
      rw [tb] at e4
      have ex : x = at_ D v := by
        obtain ⟨m, em⟩ := fit v vn
        have d : at_ D v - x = (h : Int) * (q + m) := by rw [Int.mul_add]; omega
        have z1 : (at_ D v) % (h : Int) = x % (h : Int) := by
          rw [show at_ D v = x + (h : Int) * (q + m) by omega, Int.add_mul_emod_self_left]
        rw [Int.emod_eq_of_lt rD.1 rD.2, Int.emod_eq_of_lt e2 e3] at z1
        exact z1.symm
      refine ⟨fun m hm => ?_, fun u hu => ?_⟩
      · rcases wmF_mem hm with e | e
        · rw [e]; simp
        · exact List.mem_append_left _ (mem m e)
      · rcases List.mem_append.mp hu with e | e
        · have ne : v ≠ u := fun z => nv (by rw [z]; exact e)
          rw [hs_otherF ne (dn u e), wmF_cnt (fun z => ne z.symm)]
          exact al u e
        · rw [List.mem_singleton.mp e]
          exact ⟨by rw [e1, ex], e5⟩
/-- the run leads from S to D, and each lamp moves so often -/
theorem plR_run (h1 : 1 ≤ h) (okS : StOk n h S) (okD : StOk n h D) (pos : ∀ v, v < n → 0 ≤ c v) (fit : ∀ v, v < n → ∃ m : Int, c v - (at_ S v - at_ D v - bur n R c v) = (h : Int) * m) (bd : ∀ v, v < n → c v ≤ at_ S v + ((h : Int) - 1) * bur n R c v) {order : List Nat} (ok : OrdOk n R order) (all : ∀ v, v < n → v ∈ order) :
    Run n h R false S (plR n h R S c order) D ∧ ∀ v, v < n → (((plR n h R S c order).count v : Nat) : Int) = c v := by
  obtain ⟨mem, al⟩ := plR_key h1 okS okD pos fit bd ok order.length (Nat.le_refl _)
  rw [List.take_length] at mem al
  exact ⟨run_of_hs h1 _ S okS okD (fun m hm => ok.lt m (mem m hm)) fun v vn => (al v (all v vn)).1, fun v vn => (al v (all v vn)).2⟩
end
end Hue

end
section
set_option maxRecDepth 100000
set_option maxHeartbeats 4000000
namespace Hue
open PySem PySem.Spec PyProof.Rows L2
section
variable {P : Program} {w : World} {K : PySem.W.Frag} {mg : Str → Option Value} {base : Heap} {C CT : Addr}
abbrev s__law_order : Stmt := top 46
theorem sc__law_order : FnScope ["low", "found", "k", "ready", "v", "u"] ["low"] (defScope s__law_order) := ⟨rfl, rfl, rfl, by decide +kernel, rfl, by decide +kernel, by decide +kernel⟩
-- slots of _law_order: 0 low, 1 found, 2 k, 3 ready, 4 v, 5 u
def spOrderL : Sp := fun vs H Q _ => ∃ (lw : Addr) (n : Nat) (R : Rel), vs = [.ref lw] ∧ n ≤ 16 ∧ Ranked R ∧ Tb H lw n R ∧ ∀ (H' : Hp) (p : Addr), Same H H' → H p = none → H' p = some (.lst (nL (ordN n R n))) → Q (.ref p) H'
theorem Tb.lenW {H : Hp} {lw : Addr} {n : Nat} {R : Rel} (t : Tb H lw n R) : ∃ xs : List V, H lw = some (.lst xs) ∧ xs.length = n := let ⟨as, l, t⟩ := t; ⟨_, t.1, by rw [List.length_map, l]⟩
theorem ok__law_order (T : Txt K mg C) {f : Addr} {fd : FuncData} (F : Fun K "_law_order" "_law_order" s__law_order f fd) : FnOk P w K mg base CX0 1 f fd ["low"] spOrderL := by
  refine F.ok sc__law_order (fun vs H Q E h => ?_) (fun cdv A outer s H vs Q E hr h => ?_)
  · obtain ⟨lw, n, R, rfl, _⟩ := h; rfl
  · obtain ⟨lw, n, R, rfl, n16, hR, hlw, q⟩ := h
    refine ⟨_, (pss_cons (ps_set (i := 1) sc__law_order.nd rfl (by first | exact Or.inl rfl | exact Or.inr rfl) (pe_lst pa_nil))
      (pss_cons (ps_for PassesOwn.never rfl (pi_range1 (by rfl) T.range (pa_cons (pe_callB (lenS_ K) (by rfl) T.len b_len (pa_cons (pv 0) pa_nil)) pa_nil)) (pg_name (i := 2) sc__law_order.nd rfl (by first | exact Or.inl rfl | exact Or.inr rfl))
      (pss_cons (ps_set (i := 3) sc__law_order.nd rfl (by first | exact Or.inl rfl | exact Or.inr rfl) (pe_lst pa_nil))
      (pss_cons (ps_for PassesOwn.never rfl (pi_range1 (by rfl) T.range (pa_cons (pe_callB (lenS_ K) (by rfl) T.len b_len (pa_cons (pv 0) pa_nil)) pa_nil)) (pg_name (i := 4) sc__law_order.nd rfl (by first | exact Or.inl rfl | exact Or.inr rfl))
      (pss_one (ps_if (PW.pt (pw_and (pt_cmpR (ninS_ K) (pv 4) (pv 1) (by rfl)) (pw_and1 (pt_val (pe_callB (all_ K rfl) (by rfl) T.all b_all (pa_cons (pe_lc (own := [("u", 5)]) (g := gName 5) rfl sc__law_order.nd (pi_range1 (by rfl) T.range (pa_cons (pe_callB (lenS_ K) (by rfl) T.len b_len (pa_cons (pv 0) pa_nil)) pa_nil)) (blkOk_by (by kernel_rfl)) (fun _ _ _ _ _ => (pg_name (i := 5) sc__law_order.nd rfl (by first | exact Or.inl rfl | exact Or.inr rfl))) (fun _ _ _ _ _ => (pts_one (pt_val (pe_ix (ixL_ K) (pe_ix (ixL_ K) (pv 0) (pv 5) (fun _ _ => rfl)) (pv 4) (fun _ _ => rfl))))) (fun _ _ _ _ _ => (pe_cmpR (inS_ K) (pv 5) (pv 1) (by rfl)))) pa_nil))))))
      (pss_one (ps_expr (pe_bm PySem.F.plainAttrs_list PySem.F.slot_list_append PySem.F.type_list_append mt_append (pv 3) (pa_cons (pv 4) pa_nil)))) pss_nil)))
      (pss_one (ps_expr (pe_bm PySem.F.plainAttrs_list PySem.F.slot_list_append PySem.F.type_list_append mt_append (pv 1) (pa_cons (pe_callB (min_ K rfl) (by rfl) T.min b_min (pa_cons (pv 3) pa_nil)) pa_nil)))))))
      (pss_one (ps_ret (pv 1))))), ?_⟩
    obtain ⟨xs, hxs, lx⟩ := hlw.lenW
    refine ⟨by decide, fun fl nfl => ?_⟩
    have s0 : Same H (L2.upd H fl (.lst [])) := same_new nfl
    have h0 : (L2.upd H fl (.lst [])) fl = some (.lst (nL [])) := upd_same
    generalize L2.upd H fl (.lst []) = H0 at s0 h0 ⊢
    refine ⟨_, rfl, lw, _, rfl, .inl (SqL.of (s0 _ _ hxs)), _, rfl, by omega, by omega, ?_⟩
    rw [lx, Int.toNat_natCast]
    refine for_range (fun i σ G => ∃ v2 v3 v4 : Option V, σ = [some (.ref lw), some (.ref fl), v2, v3, v4, none] ∧ Same H G ∧ G fl = some (.lst (nL (ordN n R i)))) ⟨_, _, _, rfl, s0, h0⟩ ?_ ?_
    · rintro i σ G hi ⟨v2, v3, v4, rfl, sG, gf⟩
      obtain ⟨olen, ook⟩ := ordN_ok (n := n) hR i (by omega)
      obtain ⟨cc, rest, ec⟩ := cands_ne (n := n) hR (ord := ordN n R i) (by omega)
      refine ⟨by decide, fun X hX => ?_⟩
      have sX := same_new (o := .lst []) hX
      have hX0 : (L2.upd G X (.lst [])) X = some (.lst []) := upd_same
      generalize L2.upd G X (.lst []) = G1 at sX hX0 ⊢
      refine ⟨_, rfl, lw, _, rfl, .inl (SqL.of ((sG.trans sX) _ _ hxs)), _, rfl, by omega, by omega, ?_⟩
      rw [lx, Int.toNat_natCast]
      refine for_range (fun j σ G2 => ∃ v4 : Option V, σ = [some (.ref lw), some (.ref fl), some (.int (0 + (i : Int))), some (.ref X), v4, none] ∧ Same G G2 ∧ G2 X = some (.lst (nL ((List.range j).filter (nxt n R (ordN n R i)))))) ⟨_, rfl, sX, hX0⟩ ?_ ?_
      · rintro v σ G2 hv ⟨v4, rfl, s2, g2⟩
        have e0 : (0 : Int) + (v : Int) = (v : Int) := by omega
        rw [e0]
        have s02 := sG.trans s2
        rw [List.range_succ, List.filter_append]
        have skip : ∀ {G3 : Hp}, Same G G3 → G3 X = some (.lst (nL ((List.range v).filter (nxt n R (ordN n R i))))) → nxt n R (ordN n R i) v = false → ∃ v4 : Option V, ([some (.ref lw), some (.ref fl), some (.int (0 + (i : Int))), some (.ref X), some (.int (v : Nat)), none] : L2.St) = [some (.ref lw), some (.ref fl), some (.int (0 + (i : Int))), some (.ref X), v4, none] ∧ Same G G3 ∧ G3 X = some (.lst (nL ((List.range v).filter (nxt n R (ordN n R i)) ++ [v].filter (nxt n R (ordN n R i))))) := fun s g no => ⟨_, rfl, s, by rw [List.filter_cons, if_neg (by rw [no]; exact fun z => by cases z), List.filter_nil, List.append_nil]; exact g⟩
        refine ⟨_, rfl, _, rfl, fl, _, rfl, .inl (SqL.of (s2 _ _ gf)), rfl, flat_nL _, _, rfl, ?_⟩
        show if (!inV (V.int (v : Int)) (nL (ordN n R i))) = true then _ else _
        rw [in_nL]
        refine ite2 (fun nin => ?_) fun nin => iteF (skip s2 g2 (by
          unfold nxt
          have z : decide (v ∈ ordN n R i) = true := by
            cases e : decide (v ∈ ordN n R i) with
            | true => rfl
            | false => rw [e] at nin; exact absurd rfl nin
          rw [z]; rfl))
        refine ⟨_, rfl, lw, _, rfl, .inl (SqL.of (s02 _ _ hxs)), _, rfl, by omega, by omega, fun Y hY => ?_⟩
        rw [lx, Int.toNat_natCast]
        refine lc_range (fun j G3 => G3 Y = some (.lst ((((List.range j).filter fun u => R u v).map fun u => decide (u ∈ ordN n R i)).map V.bl)) ∧ Same G2 G3) ⟨upd_same, same_new hY⟩ ?_ ?_
        · rintro u G3 hu ⟨h3, s3⟩
          have e0 : (0 : Int) + (u : Int) = (u : Int) := by omega
          rw [e0]
          obtain ⟨as, row, ra, c1, c2, c3, c4, c5⟩ := (hlw.same (s02.trans s3)).cell hu hv
          refine ⟨rfl, _, rfl, _, rfl, lw, _, _, _, rfl, rfl, SqL.of c1, c3, _, rfl, ra, _, _, _, rfl, rfl, SqL.of c4, c5, _, rfl, ?_⟩
          rw [List.range_succ, List.filter_append]
          refine ite2 (fun hR' => ?_) fun hR' => ?_
          · refine ⟨_, rfl, _, rfl, fl, _, rfl, .inl (SqL.of ((s2.trans s3) _ _ gf)), rfl, flat_nL _, ?_⟩
            show _
            refine ⟨_, h3, ?_, ?_, same_upd s3 hY⟩
            · rw [List.length_map, List.length_map, sizeLine_eq]
              have := List.length_filter_le (fun u => R u v) (List.range u)
              rw [List.length_range] at this
              omega
            · rw [upd_same, List.filter_cons, if_pos hR', List.map_append, List.map_append]
              show some (HO.lst (_ ++ [V.bl (inV (V.int (u : Int)) (nL (ordN n R i)))])) = _
              rw [in_nL]
              rfl
          · rw [List.filter_cons, if_neg hR', List.filter_nil, List.append_nil]
            exact ⟨h3, s3⟩
        rintro G3 ⟨h3, s3⟩
        refine ⟨Y, _, rfl, SqL.of h3, ?_⟩
        have en : nxt n R (ordN n R i) v = ((((List.range n).filter fun u => R u v).map fun u => decide (u ∈ ordN n R i)).all id) := by
          unfold nxt
          rw [nin, Bool.true_and, List.all_map]
          rfl
        refine ⟨_, rfl, ?_⟩
        have s23 := s2.trans s3
        have g3 := s3 _ _ g2
        refine ite2 (fun y => ?_) fun y => skip s23 g3 (by rw [en]; exact Bool.eq_false_iff.mpr y)
        refine ⟨_, rfl, .inl ⟨rfl, _, SqL.of g3⟩, _, rfl, X, _, _, rfl, rfl, g3, ?_, _, rfl, same_upd s23 hX, ?_⟩
        · rw [nL_len, sizeLine_eq]
          have := List.length_filter_le (nxt n R (ordN n R i)) (List.range v)
          rw [List.length_range] at this
          omega
        · rw [upd_same, List.filter_cons, if_pos (by rw [en]; exact y), nL_app]
          rfl
      · rintro σ G2 ⟨v4, rfl, s2, g2⟩
        have g2 : G2 X = some (.lst (nL (cands n R (ordN n R i)))) := g2
        have hf2 := s2 _ _ gf
        refine ⟨_, rfl, .inl ⟨rfl, _, SqL.of hf2⟩, _, rfl, X, nI (cands n R (ordN n R i)), rfl, SqL.of g2, ?_, fun mm hm hle => ?_⟩
        · rw [nI_len, ec]; exact Nat.succ_pos _
        have em := cands_min ec hm hle
        rw [em]
        refine ⟨fl, _, _, rfl, rfl, hf2, by rw [nL_len, olen, sizeLine_eq]; omega, _, _, _, rfl, same_upd (sG.trans s2) nfl, ?_⟩
        rw [upd_same, ordN_succ ec, nL_app]
        rfl
    · rintro σ G ⟨v2, v3, v4, rfl, sG, gf⟩
      exact ⟨_, rfl, q G fl sG nfl gf⟩
def spLeads : Sp := fun vs H Q _ => ∃ (lw t r ml : Addr) (n h : Nat) (R : Rel) (S D : List Int) (ms : List Nat), vs = [.int h, .ref lw, .ref t, .ref r, .ref ml] ∧ n ≤ 16 ∧ 1 ≤ h ∧ h ≤ 10 ∧ Tb H lw n R ∧ H t = some (.tup (stV S)) ∧ H r = some (.tup (stV D)) ∧ StOk n h S ∧ H ml = some (.lst (nL ms)) ∧ Run n h R false S ms D ∧ ∀ H', Same H H' → Q (.bl true) H'
end
end Hue

end
section
set_option maxRecDepth 100000
namespace L2
open PySem PySem.Spec PyProof.Rows
/-! ### a def with one keyword-only parameter and its default, that may raise: called plainly and within a try -/
structure KwCalD (P : Program) (w : World) (K : PySem.W.Frag) (mg : Str → Option Value) (base : Heap) (x : Str) (k n : Nat) (nm : Str) (dv : V) (sp : Sp) : Prop where
  ex : ∃ (f : Addr) (fd : FuncData) (ps : List Str), FnOk P w K mg base (L2.CX P w) k f fd ps sp ∧ mg x = some (.ref f) ∧ PySem.W.keepIn K (.ref f) = true ∧ (∃ ds, Vals [dv] ds ∧ Binds K fd ps ds) ∧
    KBn K fd ps n [nm] (fun us ws => us ++ ws) (fun vs zs => vs ++ zs)
section
variable {X : Cx} {k n : Nat} {f : Addr} {fd : FuncData} {ps ks : List Str} {sp : Sp} {E : XK} {dv : V} {x nm : Str} {p pos : Pos} {e : Expr} {es : List Expr} {kws : List Keyword} {t tk : TA} {W : WX}
theorem run_fnSDq {pins : List (Addr × Obj)} {σ : St} {H : Hp} {s : Shared} {Q : VK} {us ds : List Value} {vs dvs : List V} (F : FnOk X.prog X.w X.K X.mg X.base (L2.CX X.prog X.w) k f fd ps sp) (hr : Room k X.A) (hb : Binds X.K fd ps ds) (hd : Vals dvs ds) (hx : PassesAt (L2.CX X.prog X.w) X σ E)
    (I : Inv X pins σ H s) (r : Vals vs us) (h : sp (vs ++ dvs) H Q E) : wpAny (model X.prog X.w) X.A (call (.ref f) us) (EP X pins σ Q) X.xe s := by
  have r2 := r.append hd
  have hl : (us ++ ds).length = ps.length := by rw [← r2.length]; exact F.len _ _ _ _ h
  refine wpAny_call (codeAny_mono (F.run X.A X.stack s H ⟨us, []⟩ (us ++ ds) (vs ++ dvs) Q E hr I.env0 (hb s us I.kIn hl) r2 h) fun r s' hq => ?_)
  cases r with
  | error e => exact hx pins H s e s' I hq
  | ok fl =>
    cases fl with
    | ret u => exact I.after hq
    | next => exact False.elim hq
    | brk => exact False.elim hq
    | cont => exact False.elim hq
theorem run_fnNS {pins : List (Addr × Obj)} {σ : St} {H : Hp} {s : Shared} {Q : VK} {us ws : List Value} {vs zs : List V} {g : List Value → List Value → List Value} {gV : List V → List V → List V} (F : FnOk X.prog X.w X.K X.mg X.base (L2.CX X.prog X.w) k f fd ps sp) (hr : Room k X.A) (hb : KBn X.K fd ps n ks g gV) (hx : PassesAt (L2.CX X.prog X.w) X σ E)
    (I : Inv X pins σ H s) (r : Vals vs us) (rz : Vals zs ws) (l1 : vs.length = n) (l2 : zs.length = ks.length) (h : sp (gV vs zs) H Q E) : wpAny (model X.prog X.w) X.A (call (.ref f) us (ks.zip ws)) (EP X pins σ Q) X.xe s := by
  have r2 := hb.rel r rz
  refine wpAny_call (codeAny_mono (F.run X.A X.stack s H ⟨us, ks.zip ws⟩ (g us ws) (gV vs zs) Q E hr I.env0 (hb.to s us ws I.kIn (r.length.symm.trans l1) (rz.length.symm.trans l2)) r2 h) fun r s' hq => ?_)
  cases r with
  | error e => exact hx pins H s e s' I hq
  | ok fl =>
    cases fl with
    | ret u => exact I.after hq
    | next => exact False.elim hq
    | brk => exact False.elim hq
    | cont => exact False.elim hq
/-- without the keyword, what is raised wished for at the slots -/
def tKd0 (dv : V) (sp : Sp) (E : St → XK) (t : TA) : TE := fun σ H Q => t σ H fun vs H1 => sp (vs ++ [dv]) H1 Q (E σ)
/-- with it -/
def tKd1 (n : Nat) (sp : Sp) (E : St → XK) (t : TA) (tk : TA) : TE := fun σ H Q => t σ H fun vs H1 => tk σ H1 fun zs H2 => vs.length = n ∧ zs.length = 1 ∧ sp (vs ++ zs) H2 Q (E σ)
theorem pe_kd0W (c : KwCalD X.prog X.w X.K X.mg X.base x k n nm dv sp) (tw : Takes X W) (hr : Room k X.A) (ha : PA X (e :: es) t) (hg : Gl X x := by rfl) (hdb : (x == ("__debug__" : Str)) = false := by decide)
    (he : starEach (e :: es) X.env = (false, eval e X.env) :: starEach es X.env := by rfl) (hpl : (backTo pos (starEach es X.env)).any (·.1) = false := by rfl) :
    PE X (.Call (.Name x p) (e :: es) [] pos) (tKd0 dv sp (WE W) t) := by
  obtain ⟨f, fd, ps, F, hm, hk, ⟨ds, hd, hb⟩, _⟩ := c.ex
  refine ⟨fun pins s σ H Q I h => ?_⟩
  refine wpAny_Call_Name_kw (ld_glob I hg hm ?_ hdb)
  refine PySem.W.callWith_K (h₀ := X.base) I.ok.mod.kin hk (thn (ha.run pos pins s σ H _ I h) fun us s1 ⟨vs, H1, I1, r, q⟩ => ⟨I1.kIn, ?_⟩) he hpl
  exact run_fnSDq F hr hb hd (passAt tw σ) I1 r q
theorem pe_kd1W (c : KwCalD X.prog X.w X.K X.mg X.base x k n nm dv sp) (tw : Takes X W) (hr : Room k X.A) (ha : PA X (e :: es) t) (hkw : PK X kws tk) (hg : Gl X x := by rfl)
    (hall : (backToKw pos (keywordEach kws X.env)).all (·.1.isSome) = true := by rfl) (hks : (backToKw pos (keywordEach kws X.env)).filterMap (·.1) = [nm] := by rfl)
    (hdb : (x == ("__debug__" : Str)) = false := by decide) (he : starEach (e :: es) X.env = (false, eval e X.env) :: starEach es X.env := by rfl)
    (hpl : ((backTo pos (starEach (e :: es) X.env)).any (·.1) || (backToKw pos (keywordEach kws X.env)).any (·.1.isNone)) = false := by rfl) :
    PE X (.Call (.Name x p) (e :: es) kws pos) (tKd1 n sp (WE W) t tk) := by
  obtain ⟨f, fd, ps, F, hm, hk, _, hb⟩ := c.ex
  refine ⟨fun pins s σ H Q I h => ?_⟩
  refine wpAny_Call_Name_kw (ld_glob I hg hm ?_ hdb)
  refine PySem.W.callWith_KW (h₀ := X.base) I.ok.mod.kin hk hall (thn (ha.run pos pins s σ H _ I h) fun us s1 ⟨vs, H1, I1, r, q⟩ => ?_) hpl he
  refine thn (hkw.run pos pins s1 σ H1 _ I1 q) fun ws s2 ⟨zs, H2, I2, rz, l1, l2, q2⟩ => ⟨I2.kIn, ?_⟩
  rw [hks]
  exact run_fnNS F hr hb (passAt tw σ) I2 r rz l1 l2 q2
/-- both again where nothing raised is taken by the def's own try: it goes on to the caller -/
def tKd1X (n : Nat) (sp : Sp) (E : XK) (t : TA) (tk : TA) : TE := fun σ H Q => t σ H fun vs H1 => tk σ H1 fun zs H2 => vs.length = n ∧ zs.length = 1 ∧ sp (vs ++ zs) H2 Q E
theorem pe_kd1X (c : KwCalD X.prog X.w X.K X.mg X.base x k n nm dv sp) (tk' : Takes X (fun cls d _ H => E cls d H)) (hr : Room k X.A) (ha : PA X (e :: es) t) (hkw : PK X kws tk) (hg : Gl X x := by rfl)
    (hall : (backToKw pos (keywordEach kws X.env)).all (·.1.isSome) = true := by rfl) (hks : (backToKw pos (keywordEach kws X.env)).filterMap (·.1) = [nm] := by rfl)
    (hdb : (x == ("__debug__" : Str)) = false := by decide) (he : starEach (e :: es) X.env = (false, eval e X.env) :: starEach es X.env := by rfl)
    (hpl : ((backTo pos (starEach (e :: es) X.env)).any (·.1) || (backToKw pos (keywordEach kws X.env)).any (·.1.isNone)) = false := by rfl) :
    PE X (.Call (.Name x p) (e :: es) kws pos) (tKd1X n sp E t tk) := by
  obtain ⟨f, fd, ps, F, hm, hk, _, hb⟩ := c.ex
  exact (pe_callN F hr hg hm hk hb (goes_on tk') ha hkw hall hks hdb he hpl).to fun σ H Q q => q
def tKd0X (dv : V) (sp : Sp) (E : XK) (t : TA) : TE := fun σ H Q => t σ H fun vs H1 => sp (vs ++ [dv]) H1 Q E
theorem pe_kd0X (c : KwCalD X.prog X.w X.K X.mg X.base x k n nm dv sp) (tk' : Takes X (fun cls d _ H => E cls d H)) (hr : Room k X.A) (ha : PA X (e :: es) t) (hg : Gl X x := by rfl) (hdb : (x == ("__debug__" : Str)) = false := by decide)
    (he : starEach (e :: es) X.env = (false, eval e X.env) :: starEach es X.env := by rfl) (hpl : (backTo pos (starEach es X.env)).any (·.1) = false := by rfl) :
    PE X (.Call (.Name x p) (e :: es) [] pos) (tKd0X dv sp E t) := by
  obtain ⟨f, fd, ps, F, hm, hk, ⟨ds, hd, hb⟩, _⟩ := c.ex
  exact (pe_call F hr hg hm hk hb hd (goes_on tk') ha hdb he hpl).to fun σ H Q q => q
end
end L2

end
section
set_option maxRecDepth 100000
set_option maxHeartbeats 4000000
namespace Hue
open PySem PySem.Spec PyProof.Rows L2
section
/-! ### the next lamp of a careful run, and why there is one -/
def litUnder (n : Nat) (R : Rel) (S : List Int) (v : Nat) : Bool := (Bel n R v).any fun u => decide (0 < at_ S u)
def nextB (n : Nat) (R : Rel) (S : List Int) (c : Nat → Int) (v : Nat) : Bool := decide (0 < c v) && (decide (0 < at_ S v) && !litUnder n R S v)
def nextF (n : Nat) (R : Rel) (S : List Int) (c : Nat → Int) : Option Nat := (List.range n).find? (nextB n R S c)
def decF (c : Nat → Int) (k : Nat) : Nat → Int := fun v => if v = k then c v - 1 else c v
theorem litUnder_iff {n : Nat} {R : Rel} {S : List Int} {v : Nat} : litUnder n R S v = true ↔ ∃ u, u < n ∧ R v u = true ∧ 0 < at_ S u := by
  unfold litUnder
  rw [List.any_eq_true]
  constructor
  · rintro ⟨u, hu, d⟩
    obtain ⟨un, r⟩ := mem_Bel.mp hu
    exact ⟨u, un, r, of_decide_eq_true d⟩
  · rintro ⟨u, un, r, d⟩
    exact ⟨u, mem_Bel.mpr ⟨un, r⟩, decide_eq_true d⟩
theorem nextB_iff {n : Nat} {R : Rel} {S : List Int} {c : Nat → Int} {v : Nat} : nextB n R S c v = true ↔ 0 < c v ∧ 0 < at_ S v ∧ ∀ u, u < n → R v u = true → ¬ 0 < at_ S u := by
  unfold nextB
  rw [Bool.and_eq_true, Bool.and_eq_true, decide_eq_true_iff, decide_eq_true_iff, Bool.not_eq_true']
  constructor
  · rintro ⟨a, b, d⟩
    refine ⟨a, b, fun u un r l => ?_⟩
    rw [litUnder_iff.mpr ⟨u, un, r, l⟩] at d
    cases d
  · rintro ⟨a, b, d⟩
    refine ⟨a, b, ?_⟩
    cases e : litUnder n R S v with
    | false => rfl
    | true =>
      obtain ⟨u, un, r, l⟩ := litUnder_iff.mp e
      exact absurd l (d u un r)
theorem nextF_some {n : Nat} {R : Rel} {S : List Int} {c : Nat → Int} {v : Nat} (h : nextF n R S c = some v) : v < n ∧ 0 < c v ∧ 0 < at_ S v ∧ ∀ u, u < n → R v u = true → ¬ 0 < at_ S u :=
  ⟨List.mem_range.mp (List.mem_of_find?_eq_some h), nextB_iff.mp (List.find?_some h)⟩
theorem nextF_congr {n : Nat} {R : Rel} {S : List Int} {c c' : Nat → Int} (h : ∀ v, v < n → c v = c' v) : nextF n R S c = nextF n R S c' := by
  unfold nextF
  have e : ∀ l : List Nat, (∀ v ∈ l, v < n) → l.find? (nextB n R S c) = l.find? (nextB n R S c') := by
    intro l
    induction l with
    | nil => intro _; rfl
    | cons v l ih =>
      intro hl
      have ev : nextB n R S c v = nextB n R S c' v := by unfold nextB; rw [h v (hl v List.mem_cons_self)]
      rw [List.find?_cons, List.find?_cons, ev, ih fun u hu => hl u (List.mem_cons_of_mem _ hu)]
  exact e _ fun v hv => List.mem_range.mp hv
section
variable {n h : Nat} {R : Rel} {S D : List Int} {c : Nat → Int}
/-- what is left to do: the greatest counts from here to there, none below zero -/
structure Lot (n h : Nat) (R : Rel) (S D : List Int) (c : Nat → Int) : Prop where
  okS : StOk n h S
  okD : StOk n h D
  eq : ∀ v, v < n → c v = mostF n h R S D c v
  pos : ∀ v, v < n → 0 ≤ c v
theorem Lot.bur_pos (L : Lot n h R S D c) {u v : Nat} (un : u < n) (vn : v < n) (r : R u v = true) : c u ≤ bur n R c v := by
  rw [bur_sum]
  have key : ∀ m, u < m → m ≤ n → c u ≤ sumN m fun x => if R x v = true then c x else 0 := by
    intro m
    induction m with
    | zero => intro z; exact absurd z (Nat.not_lt_zero u)
    | succ m ih =>
      intro um mn
      rw [sumN_succ]
      have p : 0 ≤ (if R m v = true then c m else 0) := by
        split
        · exact L.pos m (by omega)
        · omega
      by_cases e : u = m
      · subst e
        have z : 0 ≤ sumN u fun x => if R x v = true then c x else 0 := sumN_nonneg fun x xm => by
          split
          · exact L.pos x (by omega)
          · omega
        rw [if_pos r]
        omega
      · have := ih (by omega) (by omega)
        omega
  exact key n un (Nat.le_refl n)
/-- a lamp beneath one that is still to move, itself done: it is dark -/
theorem Lot.dark (L : Lot n h R S D c) {u v : Nat} (un : u < n) (vn : v < n) (r : R u v = true) (cu : 0 < c u) (cv : c v = 0) : ¬ 0 < at_ S v := by
  have e := L.eq v vn
  have b := L.bur_pos un vn r
  have d := L.okD.2 _ (at_mem L.okD.1 vn)
  unfold mostF at e
  have : ((h : Int) - 1) * 1 ≤ ((h : Int) - 1) * bur n R c v := Int.mul_le_mul_of_nonneg_left (by omega) (by omega)
  omega
/-- while anything is left, some lamp may move -/
theorem Lot.next (hR : Ranked R) (tr : Trans R) (L : Lot n h R S D c) (some_ : ∃ v, v < n ∧ 0 < c v) : ∃ v, nextF n R S c = some v := by
  obtain ⟨ρ, hρ⟩ := hR
  -- one that is lit and still to move: the topmost
  have top : ∀ m v, ρ v ≤ m → v < n → 0 < c v → ∃ u, u < n ∧ 0 < c u ∧ 0 < at_ S u := by
    intro m
    induction m with
    | zero =>
      intro v hm vn cv
      refine ⟨v, vn, cv, ?_⟩
      have e := L.eq v vn
      have d := L.okD.2 _ (at_mem L.okD.1 vn)
      unfold mostF at e
      have z : bur n R c v = 0 := by
        rw [bur_sum]
        refine sumN_zero fun u un => if_neg fun r => ?_
        have := hρ u v r
        omega
      rw [z, Int.mul_zero] at e
      omega
    | succ m ih =>
      intro v hm vn cv
      by_cases l : 0 < at_ S v
      · exact ⟨v, vn, cv, l⟩
      have e := L.eq v vn
      have d := L.okD.2 _ (at_mem L.okD.1 vn)
      unfold mostF at e
      by_cases z : ∃ u, u < n ∧ R u v = true ∧ 0 < c u
      · obtain ⟨u, un, r, cu⟩ := z
        have := hρ u v r
        exact ih u (by omega) un cu
      · exfalso
        have z : bur n R c v = 0 := by
          rw [bur_sum]
          refine sumN_zero fun u un => ?_
          by_cases r : R u v = true
          · rw [if_pos r]
            have := L.pos u un
            have : ¬ 0 < c u := fun y => z ⟨u, un, r, y⟩
            omega
          · rw [if_neg r]
        rw [z, Int.mul_zero] at e
        omega
  -- and the lowest of those
  have low : ∀ m v, ∀ M, (∀ x, x < n → ρ x ≤ M) → M - ρ v ≤ m → v < n → 0 < c v → 0 < at_ S v → ∃ u, u < n ∧ nextB n R S c u = true := by
    intro m
    induction m with
    | zero =>
      intro v M hM hm vn cv lv
      refine ⟨v, vn, nextB_iff.mpr ⟨cv, lv, fun u un r lu => ?_⟩⟩
      have a := hρ v u r
      have := hM u un
      omega
    | succ m ih =>
      intro v M hM hm vn cv lv
      by_cases z : ∃ u, u < n ∧ R v u = true ∧ 0 < at_ S u
      · obtain ⟨u, un, r, lu⟩ := z
        have cu : 0 < c u := by
          have p := L.pos u un
          by_cases cz : c u = 0
          · exact absurd lu (L.dark vn un r cv cz)
          · omega
        have := hρ v u r
        have := hM u un
        exact ih u M hM (by omega) un cu lu
      · exact ⟨v, vn, nextB_iff.mpr ⟨cv, lv, fun u un r lu => z ⟨u, un, r, lu⟩⟩⟩
  obtain ⟨v, vn, cv⟩ := some_
  obtain ⟨u, un, cu, lu⟩ := top (ρ v) v (Nat.le_refl _) vn cv
  obtain ⟨M, hM⟩ := below_max ρ n
  obtain ⟨x, xn, bx⟩ := low (M - ρ u) u M hM (Nat.le_refl _) un cu lu
  cases e : nextF n R S c with
  | some y => exact ⟨y, rfl⟩
  | none =>
    have := List.find?_eq_none.mp e x (List.mem_range.mpr xn)
    exact absurd bx this
/-- after a careful move one less is left -/
theorem Lot.step (hR : Ranked R) (L : Lot n h R S D c) {v : Nat} (e : nextF n R S c = some v) (h1 : 1 ≤ h) : Lot n h R (movS n h R S v) D (decF c v) ∧ sumN n (decF c v) = sumN n c - 1 := by
  obtain ⟨vn, cv, lv, dark⟩ := nextF_some e
  have irr : ∀ u, R u u = false := fun u => by
    obtain ⟨ρ, hρ⟩ := hR
    cases e : R u u with
    | false => rfl
    | true => exact absurd (hρ u u e) (Nat.lt_irrefl _)
  have eS : ∀ (m : Nat) (g : Nat → Bool), m ≤ n → sumN m (fun u => if g u = true then decF c v u else 0) = sumN m (fun u => if g u = true then c u else 0) - (if v < m ∧ g v = true then 1 else 0) := by
    intro m g
    induction m with
    | zero => intro _; rw [if_neg fun z => absurd z.1 (Nat.not_lt_zero v)]; rfl
    | succ m ih =>
      intro mn
      rw [sumN_succ, sumN_succ, ih (by omega)]
      by_cases e1 : m = v
      · subst e1
        rw [if_neg fun z => absurd z.1 (Nat.lt_irrefl m)]
        by_cases g1 : g m = true
        · rw [if_pos g1, if_pos g1, if_pos ⟨Nat.lt_succ_self m, g1⟩]
          unfold decF
          rw [if_pos rfl]
          omega
        · rw [if_neg g1, if_neg g1, if_neg fun z => g1 z.2]
          omega
      · have e2 : (if g m = true then decF c v m else 0) = if g m = true then c m else 0 := by
          unfold decF
          rw [if_neg e1]
        have e3 : (if v < m + 1 ∧ g v = true then (1 : Int) else 0) = if v < m ∧ g v = true then 1 else 0 := by
          by_cases g1 : v < m ∧ g v = true
          · rw [if_pos g1, if_pos ⟨by omega, g1.2⟩]
          · rw [if_neg g1, if_neg fun z => g1 ⟨by omega, z.2⟩]
        rw [e2, e3]
        omega
  have eb : ∀ u, bur n R (decF c v) u = bur n R c u - (if R v u = true then 1 else 0) := fun u => by
    rw [bur_sum, bur_sum, eS n (fun x => R x u) (Nat.le_refl n)]
    by_cases r : R v u = true
    · rw [if_pos ⟨vn, r⟩, if_pos r]
    · rw [if_neg fun z => r z.2, if_neg r]
  refine ⟨⟨movS_ok h1 v, L.okD, fun u un => ?_, fun u un => ?_⟩, ?_⟩
  · have e0 := L.eq u un
    have b := L.okS.2 _ (at_mem L.okS.1 un)
    unfold mostF at e0 ⊢
    rw [eb u, movS_at un, Int.mul_sub]
    by_cases e1 : u = v
    · subst e1
      have : decF c u u = c u - 1 := by unfold decF; rw [if_pos rfl]
      rw [this, if_pos (.inl rfl), irr u, if_neg (fun z => by cases z), Int.mul_zero, Int.emod_eq_of_lt (by omega) (by omega)]
      omega
    · have : decF c v u = c u := by unfold decF; rw [if_neg e1]
      rw [this]
      by_cases r : R v u = true
      · have z0 : at_ S u = 0 := by have := dark u un r; omega
        have m : ((0 : Int) - 1) % (h : Int) = (h : Int) - 1 := by
          rw [show (0 : Int) - 1 = ((h : Int) - 1) + (h : Int) * (-1) from by omega, Int.add_mul_emod_self_left, Int.emod_eq_of_lt (by omega) (by omega)]
        rw [if_pos (.inr r), if_pos r, z0, m, Int.mul_one]
        rw [z0] at e0
        omega
      · rw [if_neg (fun z => z.elim e1 r), if_neg r, Int.sub_zero, Int.emod_eq_of_lt b.1 b.2, Int.mul_zero]
        omega
  · unfold decF
    split
    · rename_i z; rw [z]; omega
    · exact L.pos u un
  · have := eS n (fun _ => true) (Nat.le_refl n)
    have t1 : sumN n (decF c v) = sumN n fun u => if true = true then decF c v u else 0 := sumN_congr fun _ _ => (if_pos rfl).symm
    have t2 : sumN n c = sumN n fun u => if true = true then c u else 0 := sumN_congr fun _ _ => (if_pos rfl).symm
    rw [t1, t2, this, if_pos ⟨vn, rfl⟩]
theorem sumN_pos {m : Nat} {f : Nat → Int} (p : ∀ v, v < m → 0 ≤ f v) (s : 0 < sumN m f) : ∃ v, v < m ∧ 0 < f v := by
  apply Classical.byContradiction
  intro no
  have z : sumN m f = 0 := sumN_zero fun v vm => by
    have := p v vm
    have : ¬ 0 < f v := fun y => no ⟨v, vm, y⟩
    omega
  omega
theorem sumN_none {m : Nat} {f : Nat → Int} (p : ∀ v, v < m → 0 ≤ f v) (s : sumN m f = 0) : ∀ v, v < m → f v = 0 := by
  intro v vm
  have key : ∀ m, v < m → (∀ u, u < m → 0 ≤ f u) → sumN m f = 0 → f v = 0 := by
    intro m
    induction m with
    | zero => intro z; exact absurd z (Nat.not_lt_zero v)
    | succ m ih =>
      intro vm p s
      rw [sumN_succ] at s
      have a : 0 ≤ sumN m f := sumN_nonneg fun u um => p u (by omega)
      have b := p m (by omega)
      by_cases e : v = m
      · rw [e]; omega
      · exact ih (by omega) (fun u um => p u (by omega)) (by omega)
  exact key m vm p s
/-- nothing left: there -/
theorem Lot.done (L : Lot n h R S D c) (s : sumN n c = 0) : S = D := by
  have z := sumN_none L.pos s
  have pt : ∀ v, v < n → at_ S v = at_ D v := fun v vn => by
    have e := L.eq v vn
    unfold mostF at e
    have b : bur n R c v = 0 := by
      rw [bur_sum]
      exact sumN_zero fun u un => by rw [z u un]; split <;> rfl
    rw [b, Int.mul_zero, z v vn] at e
    omega
  refine List.ext_getElem (by rw [L.okS.1, L.okD.1]) fun i h1 h2 => ?_
  have := pt i (by rw [← L.okS.1]; exact h1)
  unfold at_ at this
  rw [List.getD_eq_getElem?_getD, List.getD_eq_getElem?_getD, List.getElem?_eq_getElem h1, List.getElem?_eq_getElem h2] at this
  exact this
theorem Lot.stuck (hR : Ranked R) (tr : Trans R) (L : Lot n h R S D c) (e : nextF n R S c = none) : sumN n c = 0 := by
  have nn : 0 ≤ sumN n c := sumN_nonneg L.pos
  by_cases z : 0 < sumN n c
  · obtain ⟨v, hv⟩ := L.next hR tr (sumN_pos L.pos z)
    rw [e] at hv
    cases hv
  · omega
/-- the careful run, by the number of its moves -/
def carR (n h : Nat) (R : Rel) : Nat → List Int → (Nat → Int) → List Nat
  | 0, _, _ => []
  | m + 1, S, c => match nextF n R S c with
    | some v => v :: carR n h R m (movS n h R S v) (decF c v)
    | none => []
/-- state and counts after its first moves -/
def carS (n h : Nat) (R : Rel) : Nat → List Int → (Nat → Int) → List Int × (Nat → Int)
  | 0, S, c => (S, c)
  | m + 1, S, c => match nextF n R S c with
    | some v => carS n h R m (movS n h R S v) (decF c v)
    | none => (S, c)
end
end
end Hue

end
section
set_option maxRecDepth 100000
set_option maxHeartbeats 4000000

namespace Hue
open PySem PySem.Spec PyProof.Rows L2
section
variable {P : Program} {w : World} {K : PySem.W.Frag} {mg : Str → Option Value} {base : Heap} {C CL CS CT CR CG : Addr}
theorem FunV.okQ {x qual : Str} {st : Stmt} {f : Addr} {fd : FuncData} {N ps : List Str} {k : Nat} {sp : Sp} (F : FunV K x qual st f fd) (S : FnScope N ps (defScope st)) (len : ∀ vs H Q E, sp vs H Q E → vs.length = ps.length)
    (hbody : ∀ (cdv : Value) (A : Around) (outer : List Env) (s : Shared) (H : Hp) (vs : List V) (Q : VK) (E : XK), Room k (A.deeper (envOfC qual (defScope st) s.heap.objs.size f cdv)) → sp vs H Q E →
      ∃ t, PSs (cxOf (L2.CX P w) P w K mg base N qual (defScope st) f cdv A outer s H E) (defBody st) t ∧ t { nx := fun _ H' => Q .non H', rt := Q } (start N vs) H) : FnOk P w K mg base (L2.CX P w) (k + 1) f fd ps sp := by
  obtain ⟨oc, od, dV, kV, doc, pm, an, cdv, ct, osl, rfl, lk, hcd⟩ := F.ex
  exact fn_of lk hcd S len fun A outer s H vs Q E hr hsp => hbody cdv A outer s H vs Q E hr hsp
abbrev s_TooLong___init__ : Stmt := inClass (top 7) 0
theorem sc_TooLong___init__ : FnScope ["self", "length"] ["self", "length"] (defScope s_TooLong___init__) := ⟨rfl, rfl, rfl, by decide +kernel, rfl, by decide +kernel, by decide +kernel⟩
-- slots of TooLong.__init__: 0 self, 1 length
theorem ok_TooLong {f : Addr} {fd : FuncData} (F : Fun K "__init__" "TooLong.__init__" s_TooLong___init__ f fd) : FnOk P w K mg base CX0 1 f fd ["self", "length"] (spKeep K "length") := by
  refine F.ok sc_TooLong___init__ (fun vs H Q E h => ?_) (fun cdv A outer s H vs Q E hr h => ?_)
  · obtain ⟨a, D, v, rfl, _⟩ := h; rfl
  · obtain ⟨a, D, v, rfl, T, no, ha, q⟩ := h
    refine ⟨_, (pss_one (ps_ost (pv 0) (pv 1))), ?_⟩
    exact ⟨_, rfl, _, rfl, a, D, rfl, T, no, .inl ⟨ha, fun dx nd ne => q dx nd ne⟩⟩
abbrev s_check_length : Stmt := top 23
theorem sc_check_length : FnScope ["length", "limit"] ["length", "limit"] (defScope s_check_length) := ⟨rfl, rfl, rfl, by decide +kernel, rfl, by decide +kernel, by decide +kernel⟩
-- slots of check_length: 0 length, 1 limit
def spCheckLen (CG : Addr) : Sp := fun vs H Q E => ∃ a b : Int, vs = [.int a, .int b] ∧ (a ≤ b → Q .non H) ∧ (b < a → Odd1 CG "length" (.int a) H E)
theorem ok_check_length (T : Txt K mg C) (M_length : XMk P w K mg base CG "TooLong" "length") {f : Addr} {fd : FuncData} (F : Fun K "check_length" "check_length" s_check_length f fd) : FnOk P w K mg base (L2.CX P w) 3 f fd ["length", "limit"] (spCheckLen CG) := by
  refine F.okX sc_check_length (fun vs H Q E h => ?_) (fun cdv A outer s H vs Q E hr h => ?_)
  · obtain ⟨a, b, rfl, _⟩ := h; rfl
  · obtain ⟨a, b, rfl, q1, q2⟩ := h
    refine ⟨_, (pss_one (ps_if (pt_cmpR op_gt (pv 0) (pv 1) (nomark _))
      (pss_one (ps_raiseM M_length rfl (takes_of rfl rfl rfl rfl) (hr.mono (by decide)) (pa_cons (pv 0) pa_nil))) pss_nil)), ?_⟩
    refine ⟨_, rfl, _, rfl, _, _, rfl, rfl, _, rfl, ite2 (fun z => ?_) fun z => ?_⟩
    · exact ⟨_, rfl, by show 1 ≤ 1000; decide, fun a na => keep_raised M_length.cls.oex M_length.no (q2 (of_decide_eq_true z)) a na⟩
    · exact q1 (by have : ¬ b < a := fun y => z (decide_eq_true y); omega)
def spCheckReachX (C CS CR : Addr) : Sp := fun vs H Q E => ∃ (x : Addr) (n h : Nat) (ps : List (Nat × Nat)) (v u : V) (d e : PyData), vs = [.ref x, v, u] ∧ HsOk C H x n h ps ∧ n ≤ 16 ∧ Lf2 H v d ∧ Lf2 H u e ∧
  St2 CS n h v u d e H E fun _ _ S D => (obsT n (relOf ps) S D = none → ∀ H' : Hp, Same H H' → Q .non H') ∧ ∀ k, obsT n (relOf ps) S D = some k → Odd1 CR "lamp" (.int (k : Nat)) H E
def spNextLamp : Sp := fun vs H Q _ => ∃ (a p tb : Addr) (n h : Nat) (R : Rel) (S : List Int) (c : Nat → Int), vs = [.ref a, .ref p, .ref tb] ∧ StAt H a S ∧ StOk n h S ∧ n ≤ 16 ∧ H p = some (.lst (cL n c)) ∧ Rows H tb (relRows n R) ∧ ∀ H', Same H H' → Q (oNat (nextF n R S c)) H'
end
end Hue

end
section
set_option maxRecDepth 100000
set_option maxHeartbeats 4000000
namespace Hue
open PySem PySem.Spec PyProof.Rows L2 LamA LamX NdefX ItX
section
variable {P : Program} {w : World} {K : PySem.W.Frag} {mg : Str → Option Value} {base : Heap} {C CT : Addr}
/-! ### what is neither a table nor known to the last word -/
def plH (H : Hp) : Hp := fun b => match H b with
  | some (.ext _) => none
  | some (.tbl _) => none
  | o => o
theorem plH_of {H : Hp} {b : Addr} {o : HO} (e : H b = some o) (n1 : ∀ φ, o ≠ .ext φ) (n2 : ∀ ps, o ≠ .tbl ps) : plH H b = some o := by
  unfold plH
  rw [e]
  cases o with
  | ext φ => exact absurd rfl (n1 φ)
  | tbl ps => exact absurd rfl (n2 ps)
  | _ => rfl
theorem plH_inv {H : Hp} {b : Addr} {o : HO} (e : plH H b = some o) : H b = some o ∧ (∀ φ, o ≠ .ext φ) ∧ ∀ ps, o ≠ .tbl ps := by
  unfold plH at e
  cases z : H b with
  | none => rw [z] at e; cases e
  | some u =>
    rw [z] at e
    cases u with
    | ext φ => cases e
    | tbl ps => cases e
    | _ => injection e with e; subst e; exact ⟨rfl, (fun _ y => nomatch y), (fun _ y => nomatch y)⟩
theorem plH_same {H : Hp} : Same (plH H) H := fun b o e => (plH_inv e).1
theorem plH_ext {H H' : Hp} (e : ExtN H H') : Same (plH H) (plH H') := fun b o z => by
  obtain ⟨z1, z2, z3⟩ := plH_inv z
  exact plH_of (e b o z1 z3) z2 z3
theorem plH_mono {H H' : Hp} (s : Same H H') : Same (plH H) (plH H') := plH_ext (ExtN.of s)
theorem plH_drop {H : Hp} {a : Addr} {φ : Heap → Prop} (h : H a = some (.ext φ)) : Same (plH H) (plH (dropH H a)) := fun b o z => by
  obtain ⟨z1, z2, z3⟩ := plH_inv z
  have nb : b ≠ a := fun y => by
    rw [y, h] at z1
    exact z2 φ (Option.some.inj z1).symm
  exact plH_of (by rw [dropH_ne nb]; exact z1) z2 z3
theorem rows_pl {H : Hp} {b : Addr} {rows : List (List Nat)} (h : Rows H b rows) : Rows (plH H) b rows := by
  obtain ⟨as, h1, h2, h3⟩ := h
  exact ⟨as, plH_of h1 (fun _ y => nomatch y) (fun _ y => nomatch y), h2, fun i a r e1 e2 => plH_of (h3 i a r e1 e2) (fun _ y => nomatch y) (fun _ y => nomatch y)⟩
theorem pairs_pl {H : Hp} {ts : List Addr} {ps : List (Nat × Nat)} (h : Pairs H ts ps) : Pairs (plH H) ts ps := ⟨h.1, fun i t p a b => plH_of (h.2 i t p a b) (fun _ y => nomatch y) (fun _ y => nomatch y)⟩
theorem HsOk.pl {H : Hp} {x : Addr} {n h : Nat} {ps : List (Nat × Nat)} (a : HsOk C H x n h ps) : HsOk C (plH H) x n h ps := by
  obtain ⟨⟨dx, fs, be, o, h1, h2, h3, h4, h5, h6, h7, h8, h9⟩, ⟨dx', fs', ab, di, l, us, qs, k1, k2, k3, k4, k5, k6, k7, k8, k9, k10⟩⟩ := a
  exact ⟨⟨dx, fs, be, o, plH_of h1 (fun _ y => nomatch y) (fun _ y => nomatch y), h2, h3, h4, rows_pl h5, h6, plH_of h7 (fun _ y => nomatch y) (fun _ y => nomatch y), h8, h9⟩,
    ⟨dx', fs', ab, di, l, us, qs, plH_of k1 (fun _ y => nomatch y) (fun _ y => nomatch y), k2, rows_pl k3, k4, rows_pl k5, k6, plH_of k7 (fun _ y => nomatch y) (fun _ y => nomatch y), pairs_pl k8, k9, k10⟩⟩
/-- a def of the text, its code object told -/
structure FunC (K : PySem.W.Frag) (x qual : Str) (st : Stmt) (f : Addr) (fd : FuncData) (c : Addr) : Prop where
  ex : ∃ (oc : Value) (od : Option Addr) (dV kV doc pm : Value) (an : Option Addr) (ct : Value) (osl : Array (Option Value)),
    fd = PySem.W.fnOf x qual (defArgs st) (defBody st) (defScope st) dV kV doc pm an (.ref c) ct ∧ K.lookup f = some ⟨oc, od, .func fd, osl⟩ ∧ PySem.W.codeIn K (.ref c) qual = true
theorem FunC.ok {x qual : Str} {st : Stmt} {f : Addr} {fd : FuncData} {c : Addr} {N ps : List Str} {k : Nat} {sp : Sp} (F : FunC K x qual st f fd c) (S : FnScope N ps (defScope st)) (len : ∀ vs H Q E, sp vs H Q E → vs.length = ps.length)
    (hbody : ∀ (A : Around) (outer : List Env) (s : Shared) (H : Hp) (vs : List V) (Q : VK) (E : XK), Room k (A.deeper (envOfC qual (defScope st) s.heap.objs.size f (.ref c))) → sp vs H Q E →
      ∃ t, PSs (cxOf CX0 P w K mg base N qual (defScope st) f (.ref c) A outer s H E) (defBody st) t ∧ t { nx := fun _ H' => Q .non H', rt := Q } (start N vs) H) : FnOk P w K mg base CX0 (k + 1) f fd ps sp := by
  obtain ⟨oc, od, dV, kV, doc, pm, an, ct, osl, rfl, lk, hcd⟩ := F.ex
  exact fn_of lk hcd S len fun A outer s H vs Q E hr hsp => hbody A outer s H vs Q E hr hsp
abbrev s_free_run : Stmt := top 24
theorem sc_free_run : FnScope ["house", "source", "counts", "turners", "lamp"] ["house", "source", "counts"] (defScope s_free_run) := ⟨rfl, rfl, rfl, by decide +kernel, rfl, by decide +kernel, by decide +kernel⟩
-- slots of free_run: 0 house, 1 source, 2 counts, 3 turners, 4 lamp
/-- the lambda in the text of a def whose last statement hands it on as the fifth argument -/
def lamOf : List Stmt → Option (Arguments × Expr × Scope)
  | [_, .Return (some (.Call _ [_, _, _, _, .Lambda p b sc _] _ _)) _] => some (p, b, sc)
  | _ => none
abbrev theLam : Arguments × Expr × Scope := (lamOf (defBody s_free_run)).getD (defArgs s_free_run, .Constant (.bool true) 0 ⟨0, 0, 0, 0⟩, defScope s_free_run)
abbrev L33 : Lam := ⟨"free_run.<locals>.<lambda>", theLam.1, theLam.2.1, theLam.2.2, "house"⟩
theorem lam_hue (T : Txt K mg C) : LamK P w K mg base L33 1 (lspH C) := by
  refine lamK_of (k := 0) (N := ["lamp", "hue", "house"]) (ps := ["lamp", "hue"]) (nscope_by (by decide +kernel)) (fun cl pm cv ctv us hl => ?_) (fun f ch c' A outer s H hr => (pe_op op_mod (pe_op op_sub (pv 1) pe_int) (fld_ K (pv 2)))) (fun x vs H ch φ Q hch q => ?_)
  · match us, hl with
    | [a, b], _ => rfl
  · obtain ⟨lamp, hue, h, dx, fs, rfl, hx, hl, h1, q⟩ := q
    refine ⟨rfl, ?_⟩
    have ne : x ≠ ch := fun z => by rw [z, hch] at hx; cases hx
    have hx' : dropH H ch x = some (.ins C dx fs) := by rw [dropH_ne ne]; exact hx
    refine ⟨_, rfl, _, _, rfl, rfl, _, rfl, x, C, dx, _, _, rfl, hx', T.cl, T.nHues, hl, _, _, rfl, rfl, (by show (0 : Int) < (h : Int); omega), rfl, q⟩
def spFreeRun (C : Addr) (TL : List (Addr × Str)) : Sp := fun vs H Q _ => ∃ (x t ca : Addr) (n h : Nat) (ps : List (Nat × Nat)) (S : List Int) (c : Nat → Int), vs = [.ref x, .ref t, .ref ca] ∧ Tabs TL H ∧ HsOk C H x n h ps ∧ Ranked (relOf ps) ∧ H t = some (.tup (stV S)) ∧ StOk n h S ∧ H ca = some (.tup (cL n c)) ∧ (∀ v, v < n → 0 ≤ c v) ∧ n ≤ 16 ∧ 1 ≤ h ∧ h ≤ 10 ∧ (∀ k, (plR n h (relOf ps) S c ((ordN n (relOf ps) n).take k)).length ≤ 100000) ∧
  ∀ (H' : Hp) (p : Addr), ExtN H H' → Tabs TL H' → H p = none → H' p = some (.lst (nL (plR n h (relOf ps) S c (ordN n (relOf ps) n)))) → Q (.ref p) H'
theorem ok_free_run (T : Txt K mg C) {f c0 P0 : Addr} {fd : FuncData} {TL : List (Addr × Str)} (F : FunC K "free_run" "free_run" s_free_run f fd c0) (TB : TabB base mg c0 P0) (hmT : (P0, ("free_run.<locals>.<lambda>" : Str)) ∈ TL) (huT : ∀ p ∈ TL, p.1 = P0 → p.2 = "free_run.<locals>.<lambda>")
    (M_above : MCal P w K mg base C "above" 5 (spAbove C)) (M_order : MCal P w K mg base C "order" 1 (spOrder C)) (c_placed_run : Cal P w K mg base "placed_run" 3 (spPlacedRun C L33)) : FnOk P w K mg base CX0 6 f fd ["house", "source", "counts"] (spFreeRun C TL) := by
  obtain ⟨f_above, fd_above, ps_above, F_above, m_above, b_above⟩ := M_above.ex
  obtain ⟨f_order, fd_order, ps_order, F_order, m_order, b_order⟩ := M_order.ex
  refine F.ok sc_free_run (fun vs H Q E h => ?_) (fun A outer s H vs Q E hr h => ?_)
  · obtain ⟨x, t, ca, n, h, ps, S, c, rfl, _⟩ := h; rfl
  · obtain ⟨x, t, ca, n, h, ps, S, c, rfl, hT, hs, hR, ht, ok, hc, pos, n16, h1, h10, few, q⟩ := h
    obtain ⟨dx, fs, g1, g2, g3, mth⟩ := hs.ins
    have hcell : List.lookup ("house" : Str) (envOfC "free_run" (defScope s_free_run) s.heap.objs.size f (.ref c0)).cells = some (s.heap.objs.size + 1) := rfl
    have hge : s.heap.objs.size ≤ s.heap.objs.size + 1 := Nat.le_succ _
    have hcode : (envOfC "free_run" (defScope s_free_run) s.heap.objs.size f (.ref c0)).code = .ref c0 := rfl
    have hclo : cloFrom (envOfC "free_run" (defScope s_free_run) s.heap.objs.size f (.ref c0)).cells theLam.2.2.names [] = [(("house" : Str), s.heap.objs.size + 1)] := rfl
    have hqual : (("free_run" : Str) ++ ".<locals>." ++ "<lambda>") = L33.qual := by decide +kernel
    have hfree0 : ∀ y ∈ theLam.2.2.names, y.2 = .free → List.lookup y.1 (defScope s_free_run).names = some .cell ∨ List.lookup y.1 (defScope s_free_run).names = some .free := by decide +kernel
    have hfreeL : ∀ y ∈ theLam.2.2.names, y.2 = .free → (envOfC "free_run" (defScope s_free_run) s.heap.objs.size f (.ref c0)).kindOf y.1 = some .cell ∨ (envOfC "free_run" (defScope s_free_run) s.heap.objs.size f (.ref c0)).kindOf y.1 = some .free := hfree0
    refine ⟨_, (pss_cons (ps_setLc (i := 3) (own := [("lamp", 4)]) (g := gName 4) (tt := tYes) rfl sc_free_run.nd rfl rfl (sw_true rfl rfl rfl (by kernel_rfl)) (pi_range1 (by rfl) T.range (pa_cons (fld_ K (pv 0)) pa_nil)) (blkOk_by (by kernel_rfl)) (fun _ _ _ _ _ => (pg_name (i := 4) sc_free_run.nd rfl (by first | exact Or.inl rfl | exact Or.inr rfl))) (fun _ _ _ _ _ => pts_nil) (fun _ _ _ _ _ => (pe_meth (pv 0) T.cl m_above F_above (hr.mono (by decide)) b_above .nil pass0 (pa_cons (pv 4) pa_nil))))
      (pss_one (ps_ret (pe_calC (y0 := "house") (j := 0) c_placed_run (hr.mono (by decide)) hcell hge rfl rfl (pa_cons (pe_meth0 (pv 0) T.cl m_order F_order (hr.mono (by decide)) b_order .nil pass0) (pa_cons (pv 1) (pa_cons (pv 2) (pa_cons (pv 3) (pa_cons (pe_lam (q := L33.qual) TB hcode hqual hclo hmT huT rfl hfreeL) pa_nil))))))))), ?_⟩
    refine ⟨_, rfl, x, C, dx, _, _, rfl, g1, T.cl, T.nCount, g2, _, rfl, by omega, by omega, fun D hD => ?_⟩
    rw [Int.toNat_natCast]
    refine lc_range (fun i G => Coll H D (fun j => nL (Bel n (flip (relOf ps)) j)) i G) (Coll.start hD) ?_ ?_
    · rintro i G hi cc
      have e0 : (0 : Int) + (i : Int) = (i : Int) := by omega
      rw [e0]
      have sG := cc.same
      have gD : G D ≠ none := by obtain ⟨as, h1, _⟩ := cc; rw [h1]; exact fun z => by cases z
      exact ⟨rfl, yesT ⟨_, rfl, x, dx, fs, rfl, sG _ _ g1, mth _ (by decide +kernel), _, rfl, x, n, h, i, _, rfl, hs.at_.same sG, hs.x_.same sG, hi, fun G2 p s2 np hp => cc.more hD s2 (fun z => gD (by rw [← z]; exact np)) hp (by omega)⟩⟩
    rintro G cc
    have sG := cc.same
    have rw_ : Rows G D (relRows n (flip (relOf ps))) := cc.rows
    refine ⟨_, rfl, x, dx, fs, rfl, sG _ _ g1, mth _ (by decide +kernel), x, n, h, _, rfl, hs.at_.same sG, fun H2 l s2 nl hl => ?_⟩
    have s02 := sG.trans s2
    refine ⟨_, rfl, _, rfl, _, rfl, hT.ext s02, fun lf c' pm ctv H3 eN nn T3 f0 f1 c1 => ?_⟩
    refine ⟨x, rfl, fun oc hoc nch => ?_⟩
    have tr : ∀ {b : Addr} {o : HO}, H2 b = some o → (∀ φ, o ≠ .ext φ) → (∀ ps, o ≠ .tbl ps) → (L2.upd H3 (s.heap.objs.size + 1) (Fz (s.heap.objs.size + 1) oc)) b = some o := fun {b o} e n1 n2 => by
      have e3 := eN b o e n2
      rw [upd_ne (ne_of_none e3 nch)]
      exact e3
    have sP : Same (plH H2) (L2.upd H3 (s.heap.objs.size + 1) (Fz (s.heap.objs.size + 1) oc)) := fun b o e => by
      obtain ⟨e1, e2, e3⟩ := plH_inv e
      exact tr e1 e2 e3
    have hs2 := (hs.same s02).pl.same sP
    obtain ⟨olen, ook⟩ := ordN_ok hR n (Nat.le_refl n)
    refine ⟨l, t, ca, D, lf, x, n, h, ps, _, S, c, rfl, tr hl (fun _ y => nomatch y) (fun _ y => nomatch y), ook.lt, tr (s02 _ _ ht) (fun _ y => nomatch y) (fun _ y => nomatch y), ok, tr (s02 _ _ hc) (fun _ y => nomatch y) (fun _ y => nomatch y), pos, (rows_pl (rw_.same s2)).same sP, ⟨c', s.heap.objs.size + 1, pm, ctv, oc, ?_, ?_, upd_same, hoc⟩, hs2, n16, h1, h10, few, fun H' p s' np hp => ?_⟩
    · rw [upd_ne (ne_of_none f1 nch)]; exact f1
    · rw [upd_ne (ne_of_none c1 nch)]; exact c1
    · have hch := s' _ _ (upd_same (H := H3) (a := s.heap.objs.size + 1) (o := Fz (s.heap.objs.size + 1) oc))
      have pne : p ≠ s.heap.objs.size + 1 := fun z => by rw [z, upd_same] at np; cases np
      have np3 : H3 p = none := by rw [upd_ne pne] at np; exact np
      have up : ∀ b o, H3 b = some o → dropH H' (s.heap.objs.size + 1) b = some o := fun b o e => by
        have nb := ne_of_none e nch
        rw [dropH_ne nb]
        exact s' b o (by rw [upd_ne nb]; exact e)
      exact ⟨hch, q _ p (((ExtN.of s02).trans eN).trans (ExtN.of up)) (T3.ext up) (s02.free (nn p np3)) (by rw [dropH_ne pne]; exact hp)⟩
end
end Hue

end
section
set_option maxRecDepth 100000
set_option maxHeartbeats 4000000
namespace Hue
open PySem PySem.Spec PyProof.Rows L2 LamA LamX
section
variable {P : Program} {w : World} {K : PySem.W.Frag} {mg : Str → Option Value} {base : Heap} {C CT CS CR CG CL : Addr} {TL : List (Addr × Str)}
theorem sum_permI {a b : List Int} (h : a.Perm b) : a.sum = b.sum := by
  induction h with
  | nil => rfl
  | cons x _ ih => rw [List.sum_cons, List.sum_cons, ih]
  | swap x y l => rw [List.sum_cons, List.sum_cons, List.sum_cons, List.sum_cons]; omega
  | trans _ _ ih1 ih2 => exact ih1.trans ih2
theorem ord_sum {n : Nat} {R : Rel} (hR : Ranked R) (c : Nat → Int) : ((ordN n R n).map c).sum = sumN n c := by
  obtain ⟨olen, ok⟩ := ordN_ok hR n (Nat.le_refl n)
  refine sum_permI (List.Perm.map c ((List.perm_ext_iff_of_nodup ok.nd List.nodup_range).mpr fun v => ⟨fun hv => List.mem_range.mpr (ok.lt v hv), fun hv => ord_all hR (List.mem_range.mp hv)⟩))
def spRunOf (C CT CG : Addr) (TL : List (Addr × Str)) : Sp := fun vs H Q E => ∃ (x t y : Addr) (n h : Nat) (ps : List (Nat × Nat)) (S : List Int) (c : Nat → Int) (lim : Int), vs = [.ref x, .ref t, .ref y, .int lim] ∧ Tabs TL H ∧ HsOk C H x n h ps ∧ Ranked (relOf ps) ∧ H t = some (.tup (stV S)) ∧ StOk n h S ∧ TlOk CT H y (cL n c) ∧ (∀ v, v < n → 0 ≤ c v) ∧ n ≤ 16 ∧ 1 ≤ h ∧ h ≤ 10 ∧
  (lim < sumN n c → Odd1 CG "length" (.int (sumN n c)) H E) ∧ (sumN n c ≤ lim → sumN n c ≤ 100000 ∧ ∀ (H' : Hp) (p : Addr), ExtN H H' → Tabs TL H' → H p = none → H' p = some (.lst (nL (plR n h (relOf ps) S c (ordN n (relOf ps) n)))) → Q (.ref p) H')
def spLeastTX (C CT CS CR : Addr) : Sp := fun vs H Q E => ∃ (x : Addr) (n h : Nat) (ps : List (Nat × Nat)) (v u : V) (d e : PyData), vs = [.ref x, v, u] ∧ HsOk C H x n h ps ∧ 1 ≤ n ∧ n ≤ 16 ∧ 1 ≤ h ∧ h ≤ 10 ∧ Ranked (relOf ps) ∧ Lf2 H v d ∧ Lf2 H u e ∧
  St2 CS n h v u d e H E fun _ _ S D => (∀ k, obsT n (relOf ps) S D = some k → Odd1 CR "lamp" (.int (k : Nat)) H E) ∧ (obsT n (relOf ps) S D = none → ∃ c : Nat → Int, (∀ v, v < n → c v = leastF n h (relOf ps) S D (fun _ => none) c v) ∧ ∀ (H' : Hp) (p : Addr), Same H H' → H p = none → TlOk CT H' p (cL n c) → Q (.ref p) H')
def spLeastRun (C CS CR CG : Addr) (TL : List (Addr × Str)) : Sp := fun vs H Q E => ∃ (x : Addr) (n h : Nat) (ps : List (Nat × Nat)) (v u : V) (d e : PyData) (lim : Int), vs = [.ref x, v, u, .int lim] ∧ Tabs TL H ∧ HsOk C H x n h ps ∧ 1 ≤ n ∧ n ≤ 16 ∧ 1 ≤ h ∧ h ≤ 10 ∧ Ranked (relOf ps) ∧ Lf2 H v d ∧ Lf2 H u e ∧
  St2 CS n h v u d e H E fun _ _ S D => (∀ k, obsT n (relOf ps) S D = some k → Odd1 CR "lamp" (.int (k : Nat)) H E) ∧ (obsT n (relOf ps) S D = none → ∃ c : Nat → Int, (∀ v, v < n → c v = leastF n h (relOf ps) S D (fun _ => none) c v) ∧
    (lim < sumN n c → Odd1 CG "length" (.int (sumN n c)) H E) ∧ (sumN n c ≤ lim → sumN n c ≤ 100000 ∧ ∀ (H' : Hp) (p : Addr), ExtN H H' → Tabs TL H' → H p = none → H' p = some (.lst (nL (plR n h (relOf ps) S c (ordN n (relOf ps) n)))) → Q (.ref p) H'))
end
end Hue

end
section
set_option maxRecDepth 100000
set_option maxHeartbeats 4000000
namespace Hue
open PySem PySem.Spec PyProof.Rows L2
section
variable {P : Program} {w : World} {K : PySem.W.Frag} {mg : Str → Option Value} {base : Heap} {C CT : Addr}
/-- counts that fit two states -/
structure Fits (n h : Nat) (R : Rel) (S D : List Int) (c : Nat → Int) : Prop where
  pos : ∀ v, v < n → 0 ≤ c v
  fit : ∀ v, v < n → ∃ m : Int, c v - (at_ S v - at_ D v - bur n R c v) = (h : Int) * m
  bd : ∀ v, v < n → c v ≤ at_ S v + ((h : Int) - 1) * bur n R c v
abbrev s__law_normal : Stmt := top 53
theorem sc__law_normal : FnScope ["base", "low", "first", "lot", "moves", "lamp", "hue", "placed", "found", "step", "gone"] ["base", "low", "first", "lot"] (defScope s__law_normal) := ⟨rfl, rfl, rfl, by decide +kernel, rfl, by decide +kernel, by decide +kernel⟩
-- slots of _law_normal: 0 base, 1 low, 2 first, 3 lot, 4 moves, 5 lamp, 6 hue, 7 placed, 8 found, 9 step, 10 gone
def spNormal : Sp := fun vs H Q _ => ∃ (lw t o : Addr) (n h : Nat) (R : Rel) (S D : List Int) (c : Nat → Int), vs = [.int h, .ref lw, .ref t, .ref o] ∧ n ≤ 16 ∧ 1 ≤ h ∧ h ≤ 10 ∧ Ranked R ∧ Tb H lw n R ∧ H t = some (.tup (stV S)) ∧ StOk n h S ∧ StOk n h D ∧ H o = some (.lst (cL n c)) ∧ Fits n h R S D c ∧ sumN n c ≤ 100000 ∧
  ∀ (H' : Hp) (p : Addr), Same H H' → H p = none → H' p = some (.lst (nL (plR n h R S c (ordN n R n)))) → Q (.ref p) H'
theorem ok__law_normal (T : Txt K mg C) {f : Addr} {fd : FuncData} (F : Fun K "_law_normal" "_law_normal" s__law_normal f fd) (c__law_order : Cal P w K mg base "_law_order" 1 spOrderL) : FnOk P w K mg base CX0 2 f fd ["base", "low", "first", "lot"] spNormal := by
  refine F.ok sc__law_normal (fun vs H Q E h => ?_) (fun cdv A outer s H vs Q E hr h => ?_)
  · obtain ⟨lw, t, o, n, h, R, S, D, c, rfl, _⟩ := h; rfl
  · obtain ⟨lw, t, o, n, h, R, S, D, c, rfl, n16, h1, h10, hR, hlw, ht, okS, okD, ho, fi, few, q⟩ := h
    obtain ⟨olen, ook⟩ := ordN_ok (n := n) hR n (Nat.le_refl n)
    have sumE : ((ordN n R n).map c).sum = sumN n c := ord_sum hR c
    generalize hord : ordN n R n = order at olen ook sumE q
    have key := plR_key h1 okS okD fi.pos fi.fit fi.bd ook
    have lens : ∀ k, ((plR n h R S c (order.take k)).length : Int) ≤ 100000 := fun k => by
      have a1 := plR_len (R := R) h1 okS fi.pos (order.take k).length (order.take k) rfl fun u hu => ook.lt u (List.mem_of_mem_take hu)
      have a2 := sum_take_le order k fun u hu => fi.pos u (ook.lt u hu)
      omega
    refine ⟨_, (pss_cons (ps_set (i := 4) sc__law_normal.nd rfl (by first | exact Or.inl rfl | exact Or.inr rfl) (pe_lst pa_nil))
      (pss_cons (ps_for PassesOwn.never rfl (pil_ K (pe_cal c__law_order (hr.mono (by decide)) (pa_cons (pv 1) pa_nil))) (pg_name (i := 5) sc__law_normal.nd rfl (by first | exact Or.inl rfl | exact Or.inr rfl))
      (pss_cons (ps_set (i := 6) sc__law_normal.nd rfl (by first | exact Or.inl rfl | exact Or.inr rfl) (pe_ix (ixT_ K) (pv 2) (pv 5) (fun _ _ => rfl)))
      (pss_cons (ps_set (i := 7) sc__law_normal.nd rfl (by first | exact Or.inl rfl | exact Or.inr rfl) pe_int)
      (pss_cons (ps_set (i := 8) sc__law_normal.nd rfl (by first | exact Or.inl rfl | exact Or.inr rfl) (pe_lst pa_nil))
      (pss_cons (ps_for PassesOwn.never rfl (pil_ K (pe_op op_cat (pe_lst (pa_cons (pe_un un_neg pe_int) pa_nil)) (pv 4))) (pg_name (i := 9) sc__law_normal.nd rfl (by first | exact Or.inl rfl | exact Or.inr rfl))
      (pss_cons (ps_if (pt_cmpR op_ge (pv 9) pe_int (nomark _))
      (pss_cons (ps_expr (pe_bm PySem.F.plainAttrs_list PySem.F.slot_list_append PySem.F.type_list_append mt_append (pv 8) (pa_cons (pv 9) pa_nil)))
      (pss_one (ps_if (pt_val (pe_ix (ixL_ K) (pe_ix (ixL_ K) (pv 1) (pv 9) (fun _ _ => rfl)) (pv 5) (fun _ _ => rfl)))
      (pss_one (ps_set (i := 6) sc__law_normal.nd rfl (by first | exact Or.inl rfl | exact Or.inr rfl) (pe_op op_mod (pe_callTy call_int1 (by rfl) T.int b_int (pa_cons (pe_op op_sub (pv 6) pe_int) pa_nil)) (pv 0)))) pss_nil))) pss_nil)
      (pss_cons (ps_set (i := 10) sc__law_normal.nd rfl (by first | exact Or.inl rfl | exact Or.inr rfl) (pe_callB (call_min2 rfl) (by rfl) T.min b_min (pa_cons (pv 6) (pa_cons (pe_op op_sub (pe_ix (ixL_ K) (pv 3) (pv 5) (fun _ _ => rfl)) (pv 7)) pa_nil))))
      (pss_cons (ps_expr (pe_bm PySem.F.plainAttrs_list PySem.F.slot_list_extend PySem.F.type_list_extend mt_extend (pv 8) (pa_cons (pe_op op_rep (pe_lst (pa_cons (pv 5) pa_nil)) (pv 10)) pa_nil)))
      (pss_cons (ps_set (i := 6) sc__law_normal.nd rfl (by first | exact Or.inl rfl | exact Or.inr rfl) (pe_op op_sub (pv 6) (pv 10)))
      (pss_one (ps_set (i := 7) sc__law_normal.nd rfl (by first | exact Or.inl rfl | exact Or.inr rfl) (pe_op op_add (pv 7) (pv 10)))))))))
      (pss_cons (ps_if (pt_cmpR op_lt (pv 7) (pe_ix (ixL_ K) (pv 3) (pv 5) (fun _ _ => rfl)) (nomark _))
      (pss_one (ps_ret pe_non)) pss_nil)
      (pss_one (ps_set (i := 4) sc__law_normal.nd rfl (by first | exact Or.inl rfl | exact Or.inr rfl) (pv 8)))))))))
      (pss_one (ps_ret (pv 4))))), ?_⟩
    refine ⟨by decide, fun ml nml => ?_⟩
    have s1 : Same H (L2.upd H ml (.lst [])) := same_new nml
    have h1' : (L2.upd H ml (.lst [])) ml = some (.lst (nL [])) := upd_same
    generalize L2.upd H ml (.lst []) = H1 at s1 h1' ⊢
    refine ⟨_, rfl, lw, n, R, rfl, n16, hR, hlw.same s1, fun H2 oa s2 no hoa => ?_⟩
    rw [hord] at hoa
    have s02 := s1.trans s2
    refine ⟨oa, rfl, ⟨_, SqL.of hoa⟩, ?_⟩
    refine for_list (K := K) (a := oa) (xs := nL order) (fun i σ G => ∃ (ml : Addr) (v5 v6 v7 v8 v9 v10 : Option V), σ = [some (.int (h : Nat)), some (.ref lw), some (.ref t), some (.ref o), some (.ref ml), v5, v6, v7, v8, v9, v10] ∧ Same H2 G ∧ H ml = none ∧ G ml = some (.lst (nL (plR n h R S c (order.take i))))) ⟨ml, _, _, _, _, _, _, rfl, Same.refl _, nml, s2 _ _ h1'⟩ (fun i σ G _ ⟨_, _, _, _, _, _, _, _, sG, _⟩ => SqL.of (sG _ _ hoa)) ?_ ?_
    · rintro i y σ G hy ⟨ml, v5, v6, v7, v8, v9, v10, rfl, sG, nml, gm⟩
      obtain ⟨v, hv, rfl⟩ := nL_it2 hy
      have il := (List.getElem?_eq_some_iff.mp hv).1
      have vm := List.mem_of_getElem? hv
      have vn := ook.lt v vm
      have kS := stV_get (S := S) (k := v) (by rw [okS.1]; exact vn)
      have rS := okS.2 _ (at_mem okS.1 vn)
      have cp := fi.pos v vn
      have s0G := s02.trans sG
      have et : order.take (i + 1) = order.take i ++ [v] := by rw [List.take_add_one, hv]; rfl
      obtain ⟨mem, _⟩ := key i (by omega)
      have cnt := ((key (i + 1) (by omega)).2 v (by rw [et]; simp)).2
      have len := lens (i + 1)
      rw [et, plR_snoc] at cnt len
      have rlt : ∀ m ∈ plR n h R S c (order.take i), m < n ∧ m ≠ v := fun m hm => ⟨ook.lt m (List.mem_of_mem_take (mem m hm)), fun z => by
        have := mem m hm
        rw [z] at this
        obtain ⟨q, hq⟩ := List.mem_iff_getElem?.mp this
        have ql : q < i := by
          have := (List.getElem?_eq_some_iff.mp hq).1
          rw [List.length_take] at this
          omega
        rw [List.getElem?_take, if_pos ql] at hq
        have := (List.getElem?_inj (List.getElem?_eq_some_iff.mp hq).1 ook.nd).mp (hq.trans hv.symm)
        omega⟩
      have clo : ∀ {G' : Hp} {fl : Addr} {w6 w7 w9 w10 : Option V}, Same G G' → H fl = none → G' fl = some (.lst (nL (wmF (fun m => decide (m ∈ Bel n (flip R) v)) h v (plR n h R S c (order.take i)) (at_ S v) (c v)))) → ∃ (ml : Addr) (v5 v6 v7 v8 v9 v10 : Option V), ([some (.int (h : Nat)), some (.ref lw), some (.ref t), some (.ref o), some (.ref fl), some (.int (v : Nat)), w6, w7, some (.ref fl), w9, w10] : L2.St) = [some (.int (h : Nat)), some (.ref lw), some (.ref t), some (.ref o), some (.ref ml), v5, v6, v7, v8, v9, v10] ∧ Same H2 G' ∧ H ml = none ∧ G' ml = some (.lst (nL (plR n h R S c (order.take (i + 1))))) := fun s nf g => ⟨_, _, _, _, _, _, _, rfl, sG.trans s, nf, by rw [et, plR_snoc]; exact g⟩
      generalize plR n h R S c (order.take i) = run at gm rlt cnt len clo
      have mU : ∀ m, m < n → (decide (m ∈ Bel n (flip R) v) = R m v) := fun m mn => by
        rw [Bool.eq_iff_iff, decide_eq_true_iff, mem_Bel]
        exact ⟨fun z => z.2, fun z => ⟨mn, z⟩⟩
      generalize hfull : wmF (fun m => decide (m ∈ Bel n (flip R) v)) h v run (at_ S v) (c v) = full at cnt len clo
      refine ⟨_, rfl, _, rfl, t, _, _, _, rfl, rfl, SqT.of (s0G _ _ ht), atI_nat kS, ?_⟩
      refine ⟨by decide, fun fl nfl => ?_⟩
      have ffl : H fl = none := s0G.free nfl
      have s3 : Same G (L2.upd G fl (.lst [])) := same_new nfl
      have h3 : (L2.upd G fl (.lst [])) fl = some (.lst (nL [])) := upd_same
      have nmf : ml ≠ fl := fun z => by rw [← z, gm] at nfl; cases nfl
      generalize L2.upd G fl (.lst []) = G3 at s3 h3 ⊢
      refine ⟨_, rfl, by show 1 ≤ sizeLine; decide, fun z1 nz1 => ⟨_, rfl, ?_⟩⟩
      have s4 : Same G3 (L2.upd G3 z1 (.lst [V.int (-1)])) := same_new nz1
      have h4 : (L2.upd G3 z1 (.lst [V.int (-1)])) z1 = some (.lst [V.int (-1)]) := upd_same
      generalize L2.upd G3 z1 (.lst [V.int (-1)]) = G4 at s4 h4 ⊢
      have runlen : (run.length : Int) ≤ 100000 := by
        have : run.length ≤ full.length := by
          rw [← hfull]
          have a : ∀ (ms : List Nat) (x y : Int), ms.length ≤ (wmT (fun m => decide (m ∈ Bel n (flip R) v)) h v ms x y).length := by
            intro ms
            induction ms with
            | nil => intro x y; exact Nat.zero_le _
            | cons m ms ih =>
              intro x y
              unfold wmT
              split
              · rw [List.length_cons, List.length_cons, List.length_append]; have := ih ((x - 1) % (h : Int) - mnI ((x - 1) % (h : Int)) y) (y - mnI ((x - 1) % (h : Int)) y); omega
              · rw [List.length_cons, List.length_cons]; have := ih x y; omega
          unfold wmF
          rw [List.length_append]
          have := a run (at_ S v - mnI (at_ S v) (c v)) (c v - mnI (at_ S v) (c v))
          omega
        omega
      refine ⟨z1, ml, _, _, rfl, rfl, h4, (s3.trans s4) _ _ gm, by rw [nL_len, sizeLine_eq]; show 1 + run.length ≤ _; omega, fun z2 nz2 => ?_⟩
      have s5 : Same G4 (L2.upd G4 z2 (.lst ([V.int (-1)] ++ nL run))) := same_new nz2
      have h5 : (L2.upd G4 z2 (.lst ([V.int (-1)] ++ nL run))) z2 = some (.lst ([V.int (-1)] ++ nL run)) := upd_same
      generalize L2.upd G4 z2 (.lst ([V.int (-1)] ++ nL run)) = G5 at s5 h5 ⊢
      have s35 := s4.trans s5
      have n2f : z2 ≠ fl := fun z => by rw [z, s4 _ _ h3] at nz2; cases nz2
      refine ⟨z2, rfl, ⟨_, SqL.of h5⟩, ?_⟩
      refine for_list (K := K) (a := z2) (xs := [V.int (-1)] ++ nL run) (fun j σ G6 => ∃ (hu lf : Int) (v9 v10 : Option V) (acc : List Nat), σ = [some (.int (h : Nat)), some (.ref lw), some (.ref t), some (.ref o), some (.ref ml), some (.int (v : Nat)), some (.int hu), some (.int (c v - lf)), some (.ref fl), v9, v10] ∧ Same G G6 ∧ G6 z2 = some (.lst ([V.int (-1)] ++ nL run)) ∧ G6 fl = some (.lst (nL acc)) ∧ 0 ≤ hu ∧ hu < (h : Int) ∧ 0 ≤ lf ∧
        ((j = 0 ∧ acc = [] ∧ hu = at_ S v ∧ lf = c v) ∨ ∃ j', j = j' + 1 ∧ (hu = 0 ∨ lf = 0) ∧ ((acc.count v : Nat) : Int) = c v - lf ∧ acc ++ wmT (fun m => decide (m ∈ Bel n (flip R) v)) h v (run.drop j') hu lf = full))
        ⟨at_ S v, c v, _, _, [], by rw [Int.sub_self]; rfl, s3.trans s35, h5, s35 _ _ h3, rS.1, rS.2, cp, .inl ⟨rfl, rfl, rfl, rfl⟩⟩ (fun j σ G6 _ ⟨_, _, _, _, _, _, _, g, _⟩ => SqL.of g) ?_ ?_
      · rintro j y σ G6 hy ⟨hu, lf, v9, v10, acc, rfl, s6, gz, gf, hu0, hu1, lf0, st⟩
        have el : c v - (c v - lf) = lf := by omega
        rcases st with ⟨rfl, rfl, eh, elf⟩ | ⟨j', rfl, or_, ca, ef⟩
        · have ey : y = V.int (-1) := by
            have z : some (V.int (-1)) = some y := hy
            injection z with z
            exact z.symm
          subst ey
          have hst : ([] : List Nat) ++ (List.replicate (mnI hu lf).toNat v ++ wmT (fun m => decide (m ∈ Bel n (flip R) v)) h v (run.drop 0) (hu - mnI hu lf) (lf - mnI hu lf)) = full := by rw [eh, elf, ← hfull]; rfl
          have ca : (((([] : List Nat).count v : Nat)) : Int) = c v - lf := by rw [elf, Int.sub_self]; rfl
          refine ⟨_, rfl, _, _, rfl, rfl, _, rfl, ite2 (fun z => ?_) fun _ => ?_⟩
          · have z := of_decide_eq_true z
            omega
          clear eh elf
          generalize ([] : List Nat) = acc at hst ca gf
          generalize (0 : Nat) = jj at hst ⊢
          have mb := mn_bd hu0 lf0
          have mor : hu - mnI hu lf = 0 ∨ lf - mnI hu lf = 0 := by unfold mnI; split <;> omega
          refine ⟨_, rfl, _, rfl, _, rfl, o, _, _, _, rfl, rfl, SqL.of ((s0G.trans s6) _ _ ho), atI_nat (cL_get vn c), _, rfl, _, _, rfl, rfl, hu, _, rfl, ?_⟩
          show gName 10 (V.int (if c v - (c v - lf) < hu then c v - (c v - lf) else hu)) _ _ _
          rw [el]
          show gName 10 (V.int (mnI hu lf)) _ _ _
          have acl : acc.length + (mnI hu lf).toNat ≤ 100000 := by
            have := congrArg List.length hst
            rw [List.length_append, List.length_append, List.length_replicate] at this
            omega
          refine ⟨_, rfl, .inl ⟨rfl, _, SqL.of gf⟩, _, rfl, by show 1 ≤ sizeLine; decide, fun zz nz => ⟨_, rfl, ?_⟩⟩
          refine rep_put (put := mnI hu lf) mb.1 (by omega) upd_same fun p2 np2 => ?_
          have s8 := (same_new (o := .lst [V.int (v : Int)]) nz).trans (same_new (o := .lst (nL (List.replicate (mnI hu lf).toNat v))) np2)
          have gf8 := s8 _ _ gf
          have gz8 := s8 _ _ gz
          have h8 : (L2.upd (L2.upd G6 zz (.lst [V.int (v : Int)])) p2 (.lst (nL (List.replicate (mnI hu lf).toNat v)))) p2 = some (.lst (nL (List.replicate (mnI hu lf).toNat v))) := upd_same
          generalize L2.upd (L2.upd G6 zz (.lst [V.int (v : Int)])) p2 (.lst (nL (List.replicate (mnI hu lf).toNat v))) = G8 at s8 gf8 gz8 h8 ⊢
          refine ⟨fl, p2, _, _, rfl, rfl, gf8, h8, by rw [nL_len, nL_len, List.length_replicate, sizeLine_eq]; omega, ?_⟩
          refine ⟨_, rfl, _, rfl, _, _, rfl, rfl, ?_⟩
          refine ⟨_, rfl, _, rfl, _, _, rfl, rfl, ?_⟩
          refine ⟨hu - mnI hu lf, lf - mnI hu lf, _, _, acc ++ List.replicate (mnI hu lf).toNat v, by rw [show c v - (lf - mnI hu lf) = c v - lf + mnI hu lf by omega]; rfl, same_upd (s6.trans s8) nfl, by rw [upd_ne n2f]; exact gz8, by rw [upd_same, ← nL_app], by omega, by omega, by omega, .inr ⟨jj, rfl, mor, ?_, by rw [← hst, List.append_assoc]⟩⟩
          rw [List.count_append, List.count_replicate_self]
          omega
        · obtain ⟨m, hm, ey⟩ : ∃ m, run[j']? = some m ∧ y = V.int (m : Nat) := by
            have z : (nL run)[j']? = some y := by
              rw [List.getElem?_append_right (by show 1 ≤ j' + 1; omega)] at hy
              exact hy
            obtain ⟨k, hk, e⟩ := nL_it2 z
            exact ⟨k, hk, e⟩
          subst ey
          obtain ⟨jl, em⟩ := List.getElem?_eq_some_iff.mp hm
          rw [List.drop_eq_getElem_cons jl, em] at ef
          obtain ⟨mn, mv⟩ := rlt m (List.mem_of_getElem? hm)
          refine ⟨_, rfl, _, _, rfl, rfl, _, rfl, ite2 (fun _ => ?_) fun z => absurd (decide_eq_true (by omega : (0 : Int) ≤ (m : Int))) z⟩
          have la_ : acc.length + 1 ≤ 100000 := by
            have := congrArg List.length ef
            rw [List.length_append] at this
            have l1 : 1 ≤ (wmT (fun m => decide (m ∈ Bel n (flip R) v)) h v (m :: run.drop (j' + 1)) hu lf).length := by
              unfold wmT
              split <;> simp
            omega
          refine ⟨_, rfl, .inl ⟨rfl, _, SqL.of gf⟩, _, rfl, fl, _, _, rfl, rfl, gf, by rw [nL_len, sizeLine_eq]; omega, ?_⟩
          have s7 : Same G (L2.upd G6 fl (.lst (nL acc ++ [V.int (m : Int)]))) := same_upd s6 nfl
          have gz7 : (L2.upd G6 fl (.lst (nL acc ++ [V.int (m : Int)]))) z2 = some (.lst ([V.int (-1)] ++ nL run)) := by rw [upd_ne n2f]; exact gz
          have gf7 : (L2.upd G6 fl (.lst (nL acc ++ [V.int (m : Int)]))) fl = some (.lst (nL (acc ++ [m]))) := by rw [upd_same, nL_app]; rfl
          have ca7 : (((acc ++ [m]).count v : Nat) : Int) = c v - lf := by
            rw [List.count_append, List.count_singleton, if_neg (by simpa using mv)]
            exact ca
          generalize L2.upd G6 fl (.lst (nL acc ++ [V.int (m : Int)])) = G7 at s7 gz7 gf7 ⊢
          clear s6 gz gf ca
          obtain ⟨as, row, ra, c1, c2, c3, c4, c5⟩ := (hlw.same (s0G.trans s7)).cell mn vn
          refine ⟨_, rfl, _, rfl, lw, _, _, _, rfl, rfl, SqL.of c1, c3, _, rfl, ra, _, _, _, rfl, rfl, SqL.of c4, c5, _, rfl, ite2 (fun r => ?_) fun r => ?_⟩
          · have e1 : wmT (fun m => decide (m ∈ Bel n (flip R) v)) h v (m :: run.drop (j' + 1)) hu lf = m :: (List.replicate (mnI ((hu - 1) % (h : Int)) lf).toNat v ++ wmT (fun m => decide (m ∈ Bel n (flip R) v)) h v (run.drop (j' + 1)) ((hu - 1) % (h : Int) - mnI ((hu - 1) % (h : Int)) lf) (lf - mnI ((hu - 1) % (h : Int)) lf)) := if_pos (show decide (m ∈ Bel n (flip R) v) = true by rw [mU m mn]; exact r)
            rw [e1] at ef
            have r0 := Int.emod_nonneg (hu - 1) (by omega : (h : Int) ≠ 0)
            have r1 := Int.emod_lt_of_pos (hu - 1) (by omega : 0 < (h : Int))
            refine ⟨_, rfl, _, _, rfl, rfl, .inl ⟨_, rfl, _, rfl, _, _, rfl, rfl, (by show (0 : Int) < (h : Int); omega), ?_⟩⟩
            generalize hnu : (hu - 1) % (h : Int) = nu at ef r0 r1
            show gName 6 (V.int ((hu - 1) % (h : Int))) _ _ _
            rw [hnu]
            have hst : acc ++ [m] ++ (List.replicate (mnI nu lf).toNat v ++ wmT (fun m => decide (m ∈ Bel n (flip R) v)) h v (run.drop (j' + 1)) (nu - mnI nu lf) (lf - mnI nu lf)) = full := by rw [← ef]; simp [List.append_assoc]
            clear hu0 hu1 or_ ef e1 hnu
            generalize acc ++ [m] = acc at hst ca7 gf7
            generalize j' + 1 = jj at hst ⊢
            have s6 := s7
            have gz := gz7
            have gf := gf7
            have ca := ca7
            have hu0 := r0
            have hu1 := r1
            have mb := mn_bd hu0 lf0
            have mor : nu - mnI nu lf = 0 ∨ lf - mnI nu lf = 0 := by unfold mnI; split <;> omega
            refine ⟨_, rfl, _, rfl, _, rfl, o, _, _, _, rfl, rfl, SqL.of ((s0G.trans s6) _ _ ho), atI_nat (cL_get vn c), _, rfl, _, _, rfl, rfl, nu, _, rfl, ?_⟩
            show gName 10 (V.int (if c v - (c v - lf) < nu then c v - (c v - lf) else nu)) _ _ _
            rw [el]
            show gName 10 (V.int (mnI nu lf)) _ _ _
            have acl : acc.length + (mnI nu lf).toNat ≤ 100000 := by
              have := congrArg List.length hst
              rw [List.length_append, List.length_append, List.length_replicate] at this
              omega
            refine ⟨_, rfl, .inl ⟨rfl, _, SqL.of gf⟩, _, rfl, by show 1 ≤ sizeLine; decide, fun zz nz => ⟨_, rfl, ?_⟩⟩
            refine rep_put (put := mnI nu lf) mb.1 (by omega) upd_same fun p2 np2 => ?_
            have s8 := (same_new (o := .lst [V.int (v : Int)]) nz).trans (same_new (o := .lst (nL (List.replicate (mnI nu lf).toNat v))) np2)
            have gf8 := s8 _ _ gf
            have gz8 := s8 _ _ gz
            have h8 : (L2.upd (L2.upd G7 zz (.lst [V.int (v : Int)])) p2 (.lst (nL (List.replicate (mnI nu lf).toNat v)))) p2 = some (.lst (nL (List.replicate (mnI nu lf).toNat v))) := upd_same
            generalize L2.upd (L2.upd G7 zz (.lst [V.int (v : Int)])) p2 (.lst (nL (List.replicate (mnI nu lf).toNat v))) = G8 at s8 gf8 gz8 h8 ⊢
            refine ⟨fl, p2, _, _, rfl, rfl, gf8, h8, by rw [nL_len, nL_len, List.length_replicate, sizeLine_eq]; omega, ?_⟩
            refine ⟨_, rfl, _, rfl, _, _, rfl, rfl, ?_⟩
            refine ⟨_, rfl, _, rfl, _, _, rfl, rfl, ?_⟩
            refine ⟨nu - mnI nu lf, lf - mnI nu lf, _, _, acc ++ List.replicate (mnI nu lf).toNat v, by rw [show c v - (lf - mnI nu lf) = c v - lf + mnI nu lf by omega]; rfl, same_upd (s6.trans s8) nfl, by rw [upd_ne n2f]; exact gz8, by rw [upd_same, ← nL_app], by omega, by omega, by omega, .inr ⟨jj, rfl, mor, ?_, by rw [← hst, List.append_assoc]⟩⟩
            rw [List.count_append, List.count_replicate_self]
            omega
          · have e1 : wmT (fun m => decide (m ∈ Bel n (flip R) v)) h v (m :: run.drop (j' + 1)) hu lf = m :: wmT (fun m => decide (m ∈ Bel n (flip R) v)) h v (run.drop (j' + 1)) hu lf := if_neg (show ¬ decide (m ∈ Bel n (flip R) v) = true by rw [mU m mn]; exact r)
            rw [e1] at ef
            have m0 : mnI hu lf = 0 := by unfold mnI; split <;> omega
            have hst : acc ++ [m] ++ (List.replicate (mnI hu lf).toNat v ++ wmT (fun m => decide (m ∈ Bel n (flip R) v)) h v (run.drop (j' + 1)) (hu - mnI hu lf) (lf - mnI hu lf)) = full := by rw [m0, ← ef, Int.sub_zero, Int.sub_zero]; simp
            clear or_ ef e1 m0
            generalize acc ++ [m] = acc at hst ca7 gf7
            generalize j' + 1 = jj at hst ⊢
            have s6 := s7
            have gz := gz7
            have gf := gf7
            have ca := ca7
            have mb := mn_bd hu0 lf0
            have mor : hu - mnI hu lf = 0 ∨ lf - mnI hu lf = 0 := by unfold mnI; split <;> omega
            refine ⟨_, rfl, _, rfl, _, rfl, o, _, _, _, rfl, rfl, SqL.of ((s0G.trans s6) _ _ ho), atI_nat (cL_get vn c), _, rfl, _, _, rfl, rfl, hu, _, rfl, ?_⟩
            show gName 10 (V.int (if c v - (c v - lf) < hu then c v - (c v - lf) else hu)) _ _ _
            rw [el]
            show gName 10 (V.int (mnI hu lf)) _ _ _
            have acl : acc.length + (mnI hu lf).toNat ≤ 100000 := by
              have := congrArg List.length hst
              rw [List.length_append, List.length_append, List.length_replicate] at this
              omega
            refine ⟨_, rfl, .inl ⟨rfl, _, SqL.of gf⟩, _, rfl, by show 1 ≤ sizeLine; decide, fun zz nz => ⟨_, rfl, ?_⟩⟩
            refine rep_put (put := mnI hu lf) mb.1 (by omega) upd_same fun p2 np2 => ?_
            have s8 := (same_new (o := .lst [V.int (v : Int)]) nz).trans (same_new (o := .lst (nL (List.replicate (mnI hu lf).toNat v))) np2)
            have gf8 := s8 _ _ gf
            have gz8 := s8 _ _ gz
            have h8 : (L2.upd (L2.upd G7 zz (.lst [V.int (v : Int)])) p2 (.lst (nL (List.replicate (mnI hu lf).toNat v)))) p2 = some (.lst (nL (List.replicate (mnI hu lf).toNat v))) := upd_same
            generalize L2.upd (L2.upd G7 zz (.lst [V.int (v : Int)])) p2 (.lst (nL (List.replicate (mnI hu lf).toNat v))) = G8 at s8 gf8 gz8 h8 ⊢
            refine ⟨fl, p2, _, _, rfl, rfl, gf8, h8, by rw [nL_len, nL_len, List.length_replicate, sizeLine_eq]; omega, ?_⟩
            refine ⟨_, rfl, _, rfl, _, _, rfl, rfl, ?_⟩
            refine ⟨_, rfl, _, rfl, _, _, rfl, rfl, ?_⟩
            refine ⟨hu - mnI hu lf, lf - mnI hu lf, _, _, acc ++ List.replicate (mnI hu lf).toNat v, by rw [show c v - (lf - mnI hu lf) = c v - lf + mnI hu lf by omega]; rfl, same_upd (s6.trans s8) nfl, by rw [upd_ne n2f]; exact gz8, by rw [upd_same, ← nL_app], by omega, by omega, by omega, .inr ⟨jj, rfl, mor, ?_, by rw [← hst, List.append_assoc]⟩⟩
            rw [List.count_append, List.count_replicate_self]
            omega
      · rintro σ G6 ⟨hu, lf, v9, v10, acc, rfl, s6, gz, gf, hu0, hu1, lf0, st⟩
        have e1 : ([V.int (-1)] ++ nL run).length = run.length + 1 := by rw [List.length_append, nL_len]; show 1 + _ = _; omega
        rw [e1] at st
        rcases st with ⟨z, _⟩ | ⟨j', ej, or_, ca, ef⟩
        · omega
        · have : j' = run.length := by omega
          rw [this, List.drop_length] at ef
          have e2 : wmT (fun m => decide (m ∈ Bel n (flip R) v)) h v [] hu lf = [] := rfl
          rw [e2, List.append_nil] at ef
          rw [ef] at gf ca
          have l0 : lf = 0 := by omega
          subst l0
          refine ⟨_, rfl, _, rfl, _, rfl, o, _, _, _, rfl, rfl, SqL.of ((s0G.trans s6) _ _ ho), atI_nat (cL_get vn c), _, _, rfl, rfl, _, rfl, ite2 (fun z => ?_) fun _ => ?_⟩
          · have z : c v - 0 < c v := of_decide_eq_true z
            omega
          · exact ⟨_, rfl, clo s6 ffl gf⟩
    · rintro σ G ⟨ml, v5, v6, v7, v8, v9, v10, rfl, sG, nml, gm⟩
      rw [nL_len, List.take_length] at gm
      exact ⟨_, rfl, q G ml (s02.trans sG) nml gm⟩
end
end Hue

end
section
set_option maxRecDepth 100000
set_option maxHeartbeats 4000000
namespace L2
open PySem PySem.Spec PyProof.Rows
/-! ### try with two except clauses, both with a name, of which one takes what is raised -/
def wTwo (K : PySem.W.Frag) (c1 c2 : Value) (i1 i2 : Nat) (ts1 ts2 : Addr → Value → Option Addr → TS) (D : Ends) : WX := fun cls d σ H => ∃ b : Bool, PySem.W.exmOne K cls c1 = some b ∧
  (b = true → ∀ a, H a = none → ts1 a cls d { nx := fun σ' H' => D.nx (σ'.set i1 none) H', rt := D.rt, bk := fun σ' H' => D.bk (σ'.set i1 none) H', ct := fun σ' H' => D.ct (σ'.set i1 none) H' } (σ.set i1 (some (.ref a))) H) ∧
  (b = false → PySem.W.exmOne K cls c2 = some true ∧ ∀ a, H a = none → ts2 a cls d { nx := fun σ' H' => D.nx (σ'.set i2 none) H', rt := D.rt, bk := fun σ' H' => D.bk (σ'.set i2 none) H', ct := fun σ' H' => D.ct (σ'.set i2 none) H' } (σ.set i2 (some (.ref a))) H)
section
variable {X : Cx} {x1 x2 n1 n2 : Str} {c1 c2 : Value} {i1 i2 : Nat} {body suite1 suite2 : List Stmt} {b₁ b₂ : Stmt} {np1 np2 pos pos1 pos2 : Pos} {tb : WX → TS} {ts1 ts2 : Addr → Value → Option Addr → TS}
theorem ps_try_two (hs : X.stack = X.env :: X.outer) (hf : X.env.frame = some X.env.locals) (hN : X.N.Nodup) (hi1 : X.N[i1]? = some n1) (hln1 : X.env.kindOf n1 = some .local) (hc1 : Names X x1 c1) (hi2 : X.N[i2]? = some n2) (hln2 : X.env.kindOf n2 = some .local) (hc2 : Names X x2 c2)
    (hb : ∀ (W : WX) (pn : List (Addr × Obj)) (xe : Value → Shared → Prop), Takes (X.tr pn xe) W → PassesOwn (model X.prog X.w) X.A X.env xe → PSs (X.tr pn xe) body (tb W))
    (hsu1 : ∀ (a : Addr) (oe : Obj) (cls : Value) (d : Option Addr) (pn : List (Addr × Obj)), Zc cls d oe → (∃ vs, oe.data = .fields vs) → PSs (X.suite a ((a, oe) :: pn)) (b₁ :: suite1) (ts1 a cls d))
    (hsu2 : ∀ (a : Addr) (oe : Obj) (cls : Value) (d : Option Addr) (pn : List (Addr × Obj)), Zc cls d oe → (∃ vs, oe.data = .fields vs) → PSs (X.suite a ((a, oe) :: pn)) (b₂ :: suite2) (ts2 a cls d)) :
    PS X (.Try body [.ExceptHandler (some (.Name x1 np1)) (some n1) (b₁ :: suite1) pos1, .ExceptHandler (some (.Name x2 np2)) (some n2) (b₂ :: suite2) pos2] [] [] pos) (fun D σ H => tb (wTwo X.K c1 c2 i1 i2 ts1 ts2 D) D σ H) := by
  constructor
  intro pins s σ H D I h
  have ok := I.ok
  have top : X.A.frames = some (X.env :: X.outer) := by rw [ok.frames, hs]
  apply wpAny_Try_except
  refine wpAny_mono ((hb _ (X.pn ++ pins) (fun e s₁ => wpAny (model X.prog X.w) X.A (noteFrame e X.env) (fun _ s₂ => wpAny (model X.prog X.w) X.A (setFlight e none) (fun _ s₃ =>
    wpAny (model X.prog X.w) X.A (handleBy e X.env [.ExceptHandler (some (.Name x1 np1)) (some n1) (b₁ :: suite1) pos1, .ExceptHandler (some (.Name x2 np2)) (some n2) (b₂ :: suite2) pos2]) (SP X pins D) X.xe s₃) X.xe s₂) X.xe s₁) ?caught PassesOwn.looking).run [] s σ H D (I.toTry _) h) ?done (fun e s1 he => he)
  case done =>
    rintro (_ | _ | _ | u) s1 hsp
    · obtain ⟨σ', H', J, q⟩ := hsp; exact wpAny_execs_nil ⟨σ', H', J.ofTry ok, q⟩
    · obtain ⟨σ', H', J, q⟩ := hsp; exact ⟨σ', H', J.ofTry ok, q⟩
    · obtain ⟨σ', H', J, q⟩ := hsp; exact ⟨σ', H', J.ofTry ok, q⟩
    · obtain ⟨v, σ', H', J, r, q⟩ := hsp; exact ⟨v, σ', H', J.ofTry ok, r, q⟩
  case caught =>
    rintro u s' ⟨a, B, sI, pins', σ', H', cls, d, rfl, J', nb, up, sky, na, os, ag, b, hb1, yes1, no1⟩
    have J : Inv X pins σ' H' sI := J'.ofTry ok
    rw [hs] at sky
    refine Sky.land Zc.steady top hf sky fun h3 fl3 up3 => ?_
    have J3 : Inv X pins σ' H' { s' with heap := h3 } := J.landed nb fl3.1 (up.trans up3) os ag
    obtain ⟨oe3, vs3, he3, hz3, hd3⟩ := fl3.there
    have far : a ∉ frs (X.env :: X.outer) := fun hm => by
      obtain ⟨_, o', e', hnf⟩ := fl3.2.2.1.mem hm
      rw [he3] at e'
      cases e'
      exact hnf _ hd3
    have nL : a ≠ X.env.locals := fun z => far (List.mem_filterMap.mpr ⟨X.env, List.mem_cons_self, by rw [hf, z]⟩)
    have nF : a ∉ X.fs := fun hm => let ⟨e, he, q⟩ := List.mem_filterMap.mp hm; far (List.mem_filterMap.mpr ⟨e, List.mem_cons_of_mem _ he, q⟩)
    have S3 := J3.suite he3 hd3 na nL nF
    have LT : PySem.W.Looks (model X.prog X.w) h3 (typeOf (.ref a)) cls := fun A Q E s k q => wpAny_typeOf_ref (k _ _ he3) (by rw [hz3.1]; exact q)
    -- one clause
    have clause : ∀ {x n : Str} {c : Value} {i : Nat} {ts : Addr → Value → Option Addr → TS} {suite : List Stmt} {b₀ : Stmt} {np pos' : Pos} {more : List ExceptHandler} (b : Bool), X.N[i]? = some n → X.env.kindOf n = some .local → Names X x c →
        (∀ (a : Addr) (oe : Obj) (cls : Value) (d : Option Addr) (pn : List (Addr × Obj)), Zc cls d oe → (∃ vs, oe.data = .fields vs) → PSs (X.suite a ((a, oe) :: pn)) (b₀ :: suite) (ts a cls d)) → PySem.W.exmOne X.K cls c = some b →
        (b = true → ∀ a, H' a = none → ts a cls d { nx := fun σ'' H'' => D.nx (σ''.set i none) H'', rt := D.rt, bk := fun σ'' H'' => D.bk (σ''.set i none) H'', ct := fun σ'' H'' => D.ct (σ''.set i none) H'' } (σ'.set i (some (.ref a))) H') →
        (b = false → wpAny (model X.prog X.w) X.A (handleBy (.ref a) X.env more) (SP X pins D) X.xe { s' with heap := h3 }) →
        wpAny (model X.prog X.w) X.A (handleBy (.ref a) X.env (.ExceptHandler (some (.Name x np)) (some n) (b₀ :: suite) pos' :: more)) (SP X pins D) X.xe { s' with heap := h3 } := by
      intro x n c i ts suite b₀ np pos' more b hi hln hc hsu yes go on
      have leave : ∀ {h3 : Heap} {a : Addr} {oe : Obj} {σ6 : St} {H6 : Hp} {s6 : Shared} {Q : Shared → Prop}, Inv (X.suite a ((a, oe) :: (X.pn ++ pins))) [] σ6 H6 s6 → (∀ s7, Inv X pins (σ6.set i none) H6 s7 → Q s7) →
          wpAny (model X.prog X.w) X.A (do bindName X.env n .none; unbindBehindTheSuite X.env n pos') (fun _ s7 => Q s7) X.xe s6 := fun S q => gone_ok (S.unsuite ok) hN hi hln q
      have nameIs : ∀ {Q E : Value → Shared → Prop}, Q c { s' with heap := h3 } → wpAny (model X.prog X.w) (X.A.mark (some (.ref a))) (eval (.Name x np) X.env) Q E { s' with heap := h3 } := fun {Q E} q => by
        rcases hc with ⟨hg, hdbg, hm | ⟨hm, hv, hnn⟩⟩
        · exact ld_glob (X := X.suite a ((a, oe3) :: (X.pn ++ pins))) S3 hg hm q hdbg
        · exact ld_blt (X := X.suite a ((a, oe3) :: (X.pn ++ pins))) S3 hg hm hv q hnn hdbg
      refine wpAny_handleBy_cons (codeAny_handlers_test (nameIs ((PySem.W.exm_one (M := model X.prog X.w) J3.kIn LT yes).here ?_))) (by intro q; cases q)
      cases b with
      | true =>
        refine codeAny_handlers_suite_as (HandSPX.lands_againZ fl3 fun h4 fl4 up4 => ?_)
        have J4 : Inv X pins σ' H' { s' with heap := h4 } := J.landed nb fl4.1 ((up.trans up3).trans up4) os ag
        obtain ⟨oe4, vs4, he4, hz4, hd4⟩ := fl4.there
        refine store_ok (X := X.suite a ((a, oe4) :: (X.pn ++ pins))) (v := .ref a) (J4.suite he4 hd4 na nL nF) hN hi (.inl hln) rfl (fun s5 S5 => ?_) (.inr hln)
        refine wpAny_mono ((hsu a oe4 cls d (X.pn ++ pins) hz4 ⟨_, hd4⟩).run [] s5 _ H' _ S5 (go rfl a na)) ?_ (fun _ _ z => False.elim z)
        rintro (_ | _ | _ | u) s6 hsp
        · obtain ⟨σ6, H6, S6, q6⟩ := hsp; exact leave (h3 := h3) S6 fun s7 J7 => ⟨_, _, J7, q6⟩
        · obtain ⟨σ6, H6, S6, q6⟩ := hsp; exact leave (h3 := h3) S6 fun s7 J7 => ⟨_, _, J7, q6⟩
        · obtain ⟨σ6, H6, S6, q6⟩ := hsp; exact leave (h3 := h3) S6 fun s7 J7 => ⟨_, _, J7, q6⟩
        · obtain ⟨v6, σ6, H6, S6, r6, q6⟩ := hsp; exact leave (h3 := h3) S6 fun s7 J7 => ⟨_, _, _, J7, r6, q6⟩
      | false => exact on rfl
    refine clause b hi1 hln1 hc1 hsu1 hb1 yes1 fun e => ?_
    obtain ⟨hb2, go2⟩ := no1 e
    exact clause true hi2 hln2 hc2 hsu2 hb2 (fun _ => go2) (by intro q; cases q)
end
section
variable {X : Cx} {o e : Expr} {es : List Expr} {to : TE} {t : TA} {name : Str} {apos cpos : Pos} {T id : String} {r : V → List V → Hp → VK → Prop}
/-- a method call inside a try: the reading names K alone, not the try's surroundings -/
theorem pe_bmK (K : PySem.W.Frag) (pa : PlainAttrs T) (slot : Slot T name id) (hty : typeOf (.builtin id) = pure (.type "method_descriptor")) (hm : MtR X id r) (ho : PE X o to) (ha : PA X (e :: es) t)
    (hbase : attributeBase o name X.env (eval o X.env) = eval o X.env := by rfl)
    (hfew : ((backTo cpos (starEach (e :: es) X.env)).all (fun x => !x.1) && (backToKw cpos (keywordEach [] X.env)).all (fun x => x.1.isSome)
      && decide ((e :: es).length + ([] : List Keyword).length + (if ([] : List Keyword).isEmpty then 0 else 1) < 30)) = true := by rfl)
    (hline : (apos.endLine == cpos.line) = true := by rfl) (hs : starEach (e :: es) X.env = (false, eval e X.env) :: starEach es X.env := by rfl) (hplain : (backTo cpos (starEach es X.env)).any (·.1) = false := by rfl) (hK : X.K = K := by rfl) :
    PE X (.Call (.Attribute o name apos) (e :: es) [] cpos) (tBM K T r to t) := by subst hK; exact pe_bm pa slot hty hm ho ha hbase hfew hline hs hplain
end
end L2

end
section
set_option maxRecDepth 100000
namespace L2
open PySem PySem.Spec PyProof.Rows
/-! ### a call that knows nothing of one list leaves that list as it is, and builds nothing upon it -/
section
variable {P : Program} {w : World} {K : PySem.W.Frag} {mg : Str → Option Value} {base : Heap} {k : Nat} {f : Addr} {fd : FuncData} {ps : List Str}
/-- H without what stands at b -/
def hide (H : Hp) (b : Addr) : Hp := fun a => if a = b then none else H a
theorem hide_same {H : Hp} {b : Addr} : hide H b b = none := if_pos rfl
theorem hide_ne {H : Hp} {a b : Addr} (h : a ≠ b) : hide H b a = H a := if_neg h
theorem hide_some {H : Hp} {a b : Addr} {o : HO} (h : hide H b a = some o) : a ≠ b ∧ H a = some o := by
  have ne : a ≠ b := fun e => by
    rw [e, hide_same] at h
    cases h
  exact ⟨ne, (hide_ne (H := H) ne).symm.trans h⟩
/-- an object asks of the others for tuples and for the dicts of instances alone -/
theorem objOk_swap {H H2 : Hp} {h : Heap} {a : Addr} (tups : ∀ c xs, H c = some (.tup xs) → H2 c = some (.tup xs)) (owns : ∀ c x, H c = some (.own x) → H2 c = some (.own x)) : ∀ o : HO, ObjOk P w H h a o → ObjOk P w H2 h a o
  | .lst _, k => k
  | .tup _, k => k
  | .dK _, k => k
  | .dT _, ⟨l, s, xs, p, r⟩ => ⟨l, s, xs, by
    clear r
    induction p with
    | nil => exact .nil
    | cons e _ ih => exact .cons ⟨e.1, tups _ _ e.2.1, e.2.2⟩ (ih (Nat.le_of_succ_le l)), r⟩
  | .set _ _, k => k
  | .ins _ _ _, ⟨d, r⟩ => ⟨owns _ _ d, r⟩
  | .own _, k => k
  | .xd _, k => k
  | .met _ _, k => k
  | .rng _ _, k => k
  | .frz _ u, ⟨d, r⟩ => ⟨d, objOk_swap tups owns u r⟩
  | .tbl _, k => k
  | .ext _, k => k
theorem hOk_hide {H : Hp} {h : Heap} {b : Addr} {xs : List V} (hb : H b = some (.lst xs)) (k : HOk P w H h) : HOk P w (hide H b) h := fun a o ha =>
  objOk_swap (fun c ys e => by rw [hide_ne (ne_of e hb (by intro z; cases z))]; exact e) (fun c x e => by rw [hide_ne (ne_of e hb (by intro z; cases z))]; exact e) o (k a o (hide_some ha).2)
theorem env0_hide {A : Around} {outer : List Env} {s : Shared} {H : Hp} {b : Addr} {xs : List V} (hb : H b = some (.lst xs)) (e : Env0 P w K mg base A outer s H) : Env0 P w K mg base A outer s (hide H b) where
  frames := e.frames
  mod := e.mod
  bs := fun c o q => ⟨(e.bs c o q).1, by
    by_cases z : c = b
    · rw [z, hide_same]
    · rw [hide_ne z]; exact (e.bs c o q).2⟩
  bsz := e.bsz
  funs := e.funs
  frf := fun c hc => by
    by_cases z : c = b
    · rw [z, hide_same]
    · rw [hide_ne z]; exact e.frf c hc
  hok := hOk_hide hb e.hok
  bare := e.bare
/-- a spec, asked of the heap without the list at b -/
def Off (sp : Sp) : Sp := fun vs H Q E => ∃ (b : Addr) (xs : List V), H b = some (.lst xs) ∧ sp vs (hide H b) (fun v H' => H' b = none → Q v (upd H' b (.lst xs))) E
theorem FnOk.off {sp : Sp} (F : FnOk P w K mg base CX0 k f fd ps sp) : FnOk P w K mg base CX0 k f fd ps (Off sp) where
  len := fun vs H Q E ⟨b, xs, _, h⟩ => F.len _ _ _ _ h
  run := fun A outer s H args us vs Q E hr he hb hv ⟨b, xs, hbx, hs⟩ => by
    refine codeAny_mono (F.run A outer s (hide H b) args us vs _ E hr (env0_hide hbx he) hb hv hs) fun r s' hq => ?_
    cases r with
    | error e => exact hq
    | ok fl =>
      cases fl with
      | ret u =>
        obtain ⟨v, H', ho, hg, un, hok, rv, q⟩ := hq
        obtain ⟨hl, its, n, vv, hget⟩ := he.hok b _ hbx
        have nf : b ∉ frs outer := fun z => by
          rw [he.frf b z] at hbx
          cases hbx
        have kept := un.keep b _ hget hide_same nf List.not_mem_nil
        have gone := un.free b _ hget hide_same List.not_mem_nil
        have off : ∀ {c : Addr}, H c = none → c ≠ b ∧ hide H b c = none := fun {c} e => by
          have ne : c ≠ b := fun z => by rw [z, hbx] at e; cases e
          exact ⟨ne, by rw [hide_ne ne]; exact e⟩
        refine ⟨v, upd H' b (.lst xs), ho, hg, ⟨fun c o q n => un.keep c o q (off n).2, fun c o q n => un.slot c o q (off n).2, fun c o q n x => ?_, un.there, fun c ys e => ?_, fun c o u e => ?_, fun c ys e => ?_⟩, fun a o ha => ?_, rv, q gone⟩
        · rw [upd_ne (off n).1]
          exact un.free c o q (off n).2 x
        · have ne : c ≠ b := ne_of e hbx (by intro z; cases z)
          rw [upd_ne ne]
          exact un.tups c ys (by rw [hide_ne ne]; exact e)
        · have ne : c ≠ b := ne_of e hbx (by intro z; cases z)
          rw [upd_ne ne]
          exact un.frzs c o u (by rw [hide_ne ne]; exact e)
        · have ne : c ≠ b := ne_of e hbx (by intro z; cases z)
          obtain ⟨more, m⟩ := un.tbls c ys (by rw [hide_ne ne]; exact e)
          exact ⟨more, by rw [upd_ne ne]; exact m⟩
        · by_cases z : a = b
          · subst z
            rw [upd_same] at ha
            cases ha
            exact ⟨hl, its, n, vv, kept⟩
          · rw [upd_ne z] at ha
            have keepH : ∀ c o, H' c = some o → upd H' b (.lst xs) c = some o := fun c o e => by
              rw [upd_ne (ne_of_none e gone)]
              exact e
            exact objOk_swap (fun c ys e => keepH c _ e) (fun c x e => keepH c _ e) o (hok a o ha)
      | next => exact hq
      | brk => exact hq
      | cont => exact hq
end
end L2

end
section
set_option maxRecDepth 100000
set_option maxHeartbeats 8000000
namespace Hue
open PySem PySem.Spec PyProof.Rows L2
section
variable {P : Program} {w : World} {K : PySem.W.Frag} {mg : Str → Option Value} {base : Heap} {C CT : Addr}
/-! ### a call that knows nothing of the box -/
theorem hid_eq {H : Hp} {b g : Addr} {i1 i2 : V} (hb : H b = some (.lst [.ref g, i1, i2])) : hide (hide H b) g = hid H b := by
  funext c
  unfold hid
  by_cases e1 : c = g
  · rw [e1, hide_same, if_pos (.inr ⟨i1, i2, hb⟩)]
  · rw [hide_ne e1]
    by_cases e2 : c = b
    · rw [e2, hide_same, if_pos (.inl rfl)]
    · rw [hide_ne e2, if_neg]
      rintro (z | ⟨s, t, z⟩)
      · exact e2 z
      · rw [hb] at z
        injection z with z
        injection z with z
        injection z with z _
        injection z with z
        exact e1 z.symm
theorem unhid {H' : Hp} {b g : Addr} {gs : List Int} {i1 i2 : Int} (nb : (L2.upd H' g (.lst (gs.map V.int))) b = none) (ng : H' g = none) :
    Bx (L2.upd (L2.upd H' g (.lst (gs.map V.int))) b (.lst [.ref g, .int i1, .int i2])) b ∧ hid (L2.upd (L2.upd H' g (.lst (gs.map V.int))) b (.lst [.ref g, .int i1, .int i2])) b = H' := by
  have ne : g ≠ b := fun z => by rw [z, upd_same] at nb; cases nb
  refine ⟨⟨g, gs, i1, i2, upd_same, by rw [upd_ne ne, upd_same]⟩, ?_⟩
  rw [upd_ne ne.symm] at nb
  rw [← hid_eq (g := g) (i1 := V.int i1) (i2 := V.int i2) upd_same]
  funext c
  by_cases e1 : c = g
  · rw [e1, hide_same, ng]
  · rw [hide_ne e1]
    by_cases e2 : c = b
    · rw [e2, hide_same, nb]
    · rw [hide_ne e2, upd_ne e2, upd_ne e1]
/-! ### wires as they are drawn -/
structure WsOk (n : Nat) (ps : List (Nat × Nat)) : Prop where
  nd : ps.Nodup
  few : ps.length < 121
  rk : ∃ ρ : Nat → Nat, ∀ p ∈ ps, ρ p.1 < ρ p.2
  lt : ∀ p ∈ ps, p.1 < n ∧ p.2 < n
theorem ws_of {n : Nat} {line : List Nat} {ps : List (Nat × Nat)} (l : LineOk n line) (dn : Down line ps) (nd : ps.Nodup) (few : ps.length < 121) : WsOk n ps := by
  have rk : ∃ ρ : Nat → Nat, ∀ (i k : Nat), line[i]? = some k → ρ k = i := by
    classical
    refine ⟨fun k => if h : ∃ i : Nat, line[i]? = some k then Classical.choose h else 0, fun i k hi => ?_⟩
    have h : ∃ i : Nat, line[i]? = some k := ⟨i, hi⟩
    show (if h : ∃ i : Nat, line[i]? = some k then Classical.choose h else 0) = i
    rw [dif_pos h]
    exact nodup_at l.2.1 (Classical.choose_spec h) hi
  obtain ⟨ρ, hρ⟩ := rk
  refine ⟨nd, few, ⟨ρ, fun r hr => ?_⟩, fun r hr => ?_⟩
  · obtain ⟨x, y, h1, h2, h3⟩ := dn r hr
    rw [hρ x _ h2, hρ y _ h3]; exact h1
  · obtain ⟨x, y, h1, h2, h3⟩ := dn r hr
    exact ⟨l.2.2 _ (List.mem_of_getElem? h2), l.2.2 _ (List.mem_of_getElem? h3)⟩
/-- a house is made, the box left alone -/
theorem made_house {H : Hp} {b p : Addr} {n h : Nat} {ts : List Addr} {ps : List (Nat × Nat)} (bx : Bx H b) (n1 : 1 ≤ n) (n16 : n ≤ 16) (h2 : 2 ≤ h) (h10 : h ≤ 10) (hp : hid H b p = some (.lst (ts.map V.ref))) (hps : Pairs (hid H b) ts ps) (W : WsOk n ps)
    {R : VK} {E : XK} {x dx : Addr} (nx : H x = none) (ndx : H dx = none) (ne : dx ≠ x) (q : ∀ Z, Bx Z b → Same (hid H b) (hid Z b) → HsOk C (hid Z b) x n h ps → R .non Z) :
    Off (Off (spInit K C)) (.ref x :: [.int (n : Nat), .int (h : Nat), .ref p]) (L2.upd (L2.upd H dx (.own x)) x (.ins C dx [])) R E := by
  have b1 := bx.new ndx (o := .own x)
  have nx1 : (L2.upd H dx (.own x)) x = none := by rw [upd_ne ne.symm]; exact nx
  have b2 := b1.new nx1 (o := .ins C dx [])
  have e2 : hid (L2.upd (L2.upd H dx (.own x)) x (.ins C dx [])) b = L2.upd (L2.upd (hid H b) dx (.own x)) x (.ins C dx []) := by rw [hid_new b1 nx1, hid_new bx ndx]
  obtain ⟨g, gs, i1, i2, hb, hg⟩ := b2.ex
  have ngb : g ≠ b := fun z => by
    rw [z, hb] at hg
    injection hg with hg
    injection hg with hg
    cases gs with
    | nil => cases hg
    | cons y gs => injection hg with hg; cases hg
  have s12 : Same (hid H b) (L2.upd (L2.upd (hid H b) dx (.own x)) x (.ins C dx [])) := fun c o e => by
    rw [upd_ne (ne_of_none e (hid_none nx)), upd_ne (ne_of_none e (hid_none ndx))]; exact e
  refine ⟨b, _, hb, g, _, by rw [hide_ne ngb]; exact hg, ?_⟩
  rw [hid_eq hb, e2]
  refine ⟨x, dx, p, n, h, ps, rfl, upd_same, n1, n16, h2, h10, ⟨⟨ts, .inl (SqL.of (s12 _ _ hp)), hps.same s12⟩, W.nd, by have := W.few; omega, W.lt, W.rk⟩, fun H' s a1 a2 => fun ng nb => ?_⟩
  obtain ⟨bz, ez⟩ := unhid (i1 := i1) (i2 := i2) nb ng
  exact q _ bz (by rw [ez]; exact fun c o e => s c o (ne_of_none e (hid_none nx)) (s12 c o e)) (by rw [ez]; exact ⟨a1, a2⟩)

theorem low_made {H : Hp} {b wz : Addr} {n : Nat} {ts : List Addr} {ps : List (Nat × Nat)} (bx : Bx H b) (n16 : n ≤ 16) (hw : hid H b wz = some (.lst (ts.map V.ref))) (hps : Pairs (hid H b) ts ps) (lt : ∀ p ∈ ps, p.1 < n ∧ p.2 < n) (hR : Ranked (relOf ps)) {Q : VK} {E : XK}
    (q : ∀ lw Z, Bx Z b → Same (hid H b) (hid Z b) → Tb (hid Z b) lw n (relOf ps) → Q (.ref lw) Z) : Off (Off spLow) [.int (n : Nat), .ref wz] H Q E := by
  obtain ⟨g, gs, i1, i2, hb, hg⟩ := bx.ex
  have ngb : g ≠ b := fun z => by
    rw [z, hb] at hg
    injection hg with hg
    injection hg with hg
    cases gs with
    | nil => cases hg
    | cons y gs => injection hg with hg; cases hg
  refine ⟨b, _, hb, g, _, by rw [hide_ne ngb]; exact hg, ?_⟩
  rw [hid_eq hb]
  refine ⟨wz, n, ts, ps, rfl, n16, hw, hps, lt, hR, fun lw H' s5 _ tb => fun ng nb => ?_⟩
  obtain ⟨b5, e5⟩ := unhid (i1 := i1) (i2 := i2) nb ng
  exact q lw _ b5 (by rw [e5]; exact s5) (by rw [e5]; exact tb)
theorem line_rev {n : Nat} {line : List Nat} (l : LineOk n line) : LineOk n line.reverse := ⟨by rw [List.length_reverse]; exact l.1, (List.reverse_perm line).nodup_iff.mpr l.2.1, fun k hk => l.2.2 k (List.mem_reverse.mp hk)⟩
theorem nL_rev (l : List Nat) : (nL l).reverse = nL l.reverse := by unfold nL nI; rw [List.map_reverse, List.map_reverse]
theorem obs_none {n : Nat} {R : Rel} {S D : List Int} (h : NoObs n R S D) : obsT n R S D = none := by
  rw [obsT_eq]
  refine List.find?_eq_none.mpr fun v hv => ?_
  rw [obsF_iff]
  rintro ⟨lt, all⟩
  obtain ⟨u, un, r, ne⟩ := h v (List.mem_range.mp hv) lt
  exact ne (all u un r)
theorem same_no {n : Nat} {R : Rel} {line : List Nat} {S D : List Int} (f : Follows n R line S D) (ok : OrdOk n R line) (all : ∀ v, v < n → v ∈ line) : NoObs n R S D := fun v vn lt => by
  apply Classical.byContradiction
  intro no
  obtain ⟨j, hj⟩ := List.getElem?_of_mem (all v vn)
  have := f ok j v (List.getElem?_eq_some_iff.mp hj).1 hj fun u un r => by
    apply Classical.byContradiction
    intro ne
    exact no ⟨u, un, r, ne⟩
  omega
theorem cL_rep (n : Nat) (z : Int) : cL n (fun _ => z) = stV (List.replicate n z) := by
  unfold cL stV
  rw [List.map_const', List.length_range, List.map_replicate]
theorem rep_ok {n h : Nat} {z : Int} (z0 : 0 ≤ z) (z1 : z < (h : Int)) : StOk n h (List.replicate n z) := ⟨List.length_replicate .., fun y hy => by rw [(List.mem_replicate.mp hy).2]; exact ⟨z0, z1⟩⟩
theorem il_shaped (S : List Int) : SeqAt.shaped (.list (S.map .int)) = true := by
  have h1 := ints_deep S
  have h2 : PyData.depth (.list (S.map .int)) ≤ 64 := by
    simp only [PyData.depth]
    omega
  show (PyData.canLay0 (.list (S.map .int)) && decide (PyData.depth (.list (S.map .int)) ≤ 64)) = true
  rw [decide_eq_true h2, Bool.and_true]
  simp only [PyData.canLay0]
  exact ints_lay S
theorem il_eqv (S T : List Int) : PyData.eqv (.list (S.map .int)) (.list (T.map .int)) = decide (S = T) := by
  simp only [PyData.eqv]
  exact ints_eqv S T
theorem told_shaped {a b : Str} (ha : SOk a) (hb : SOk b) : SeqAt.shaped (.tuple [.str a, .str b, .bool true]) = true := by
  show (PyData.canLay0 (.tuple [.str a, .str b, .bool true]) && decide (PyData.depth (.tuple [.str a, .str b, .bool true]) ≤ 64)) = true
  have e : PyData.canLay0 (.tuple [.str a, .str b, .bool true]) = true := by
    have h1 : PyData.canLay0 (.str a) = true := ha
    have h2 : PyData.canLay0 (.str b) = true := hb
    simp [PyData.canLay0, PyData.canLayAll0] at h1 h2 ⊢
    exact ⟨h1, h2⟩
  rw [e]
  simp [PyData.depth, PyData.depthAll]
theorem told_dp {H : Hp} {p : Addr} {a b : Str} (h : H p = some (.tup [.str a, .str b, .bl true])) : Dp K H (.ref p) (.tuple [.str a, .str b, .bool true]) := .tup (SqT.of h) (.cons (.str a) (.cons (.str b) (.cons (.bl true) .nil)))
theorem told_ne {H : Hp} {p p2 : Addr} {a b : Str} (h1 : H p = some (.tup [.str a, .str b, .bl true])) (h2 : H p2 = some (.tup [.str a, .str b, .bl true])) (ka : SOk a) (kb : SOk b) {Q : VK} (q : Q (.bl false) H) : rNeD K (.ref p) (.ref p2) H Q :=
  ⟨_, _, told_dp h1, told_dp h2, told_shaped ka kb, told_shaped ka kb, by
    have e : PyData.eqv (.tuple [.str a, .str b, .bool true]) (.tuple [.str a, .str b, .bool true]) = true := SeqAt.eqv_refl _ (SeqAt.canLay_of_shaped (told_shaped ka kb))
    rw [e]; exact q⟩
theorem told_eq {H : Hp} {p p2 : Addr} {a b : Str} (h1 : H p = some (.tup [.str a, .str b, .bl true])) (h2 : H p2 = some (.tup [.str a, .str b, .bl true])) (ka : SOk a) (kb : SOk b) {Q : VK} (q : Q (.bl true) H) : rEqD K (.ref p) (.ref p2) H Q :=
  ⟨_, _, told_dp h1, told_dp h2, told_shaped ka kb, told_shaped ka kb, by
    have e : PyData.eqv (.tuple [.str a, .str b, .bool true]) (.tuple [.str a, .str b, .bool true]) = true := SeqAt.eqv_refl _ (SeqAt.canLay_of_shaped (told_shaped ka kb))
    rw [e]; exact q⟩
theorem HsOk.lf {H : Hp} {t : Addr} {n h : Nat} {S : List Int} (ht : H t = some (.tup (stV S))) (ok : StOk n h S) (n16 : n ≤ 16) (h10 : h ≤ 10) : Lf2 H (.ref t) (stD S) := st_lf2 ht (by rw [ok.1]; omega) (ok.small h10)
end
end Hue

end
section
set_option maxRecDepth 100000
set_option maxHeartbeats 4000000
namespace Hue
open PySem PySem.Spec PyProof.Rows L2 LamA LamX
section
variable {P : Program} {w : World} {K : PySem.W.Frag} {mg : Str → Option Value} {base : Heap} {C CT CS CR CG CL CI : Addr} {TL : List (Addr × Str)}
abbrev s_check_tally : Stmt := top 33
theorem sc_check_tally : FnScope ["house", "tally"] ["house", "tally"] (defScope s_check_tally) := ⟨rfl, rfl, rfl, by decide +kernel, rfl, by decide +kernel, by decide +kernel⟩
-- slots of check_tally: 0 house, 1 tally
def spCheckTally (C CT CI : Addr) : Sp := fun vs H Q E => ∃ (x y : Addr) (n h : Nat) (ps : List (Nat × Nat)) (dy : Addr) (gs : List (Str × V)) (t : Addr) (xs : List V), vs = [.ref x, .ref y] ∧ HsOk C H x n h ps ∧ H y = some (.ins CT dy gs) ∧ gs.lookup ("counts" : Str) = some (.ref t) ∧ H t = some (.tup xs) ∧ (xs.length = n → Q .non H) ∧ (xs.length ≠ n → Odd1 CI "counts" (.ref t) H E)
theorem ok_check_tally (T : Txt K mg C) (TT : TxtT K mg CT) (kT : PySem.W.kitOne K (.ref CT) (.ref CT) = some true) (M_counts : XMk P w K mg base CI "InvalidTally" "counts") {f : Addr} {fd : FuncData} (F : Fun K "check_tally" "check_tally" s_check_tally f fd) : FnOk P w K mg base (L2.CX P w) 3 f fd ["house", "tally"] (spCheckTally C CT CI) := by
  refine F.okX sc_check_tally (fun vs H Q E h => ?_) (fun cdv A outer s H vs Q E hr h => ?_)
  · obtain ⟨x, y, n, h, ps, dy, gs, t, xs, rfl, _⟩ := h; rfl
  · obtain ⟨x, y, n, h, ps, dy, gs, t, xs, rfl, hs, hy, hl, ht, q1, q2⟩ := h
    obtain ⟨dx, fs, g1, g2, g3, mth⟩ := hs.ins
    refine ⟨_, (pss_cons (ps_if (pt_not (pt_val (pe_callB (isi_ K) (by rfl) T.isinstance b_isinstance (pa_cons (pv 1) (pa_cons (pe_glob (v := .ref CT) (by rfl) TT.mgT rfl) pa_nil)))))
      pss_never pss_nil)
      (pss_one (ps_if (pt_cmpR op_ne (pe_callB (lenS_ K) (by rfl) T.len b_len (pa_cons (fld_ K (pv 1)) pa_nil)) (fld_ K (pv 0)) (nomark _))
      (pss_one (ps_raiseM M_counts rfl (takes_of rfl rfl rfl rfl) (hr.mono (by decide)) (pa_cons (fld_ K (pv 1)) pa_nil))) pss_nil))), ?_⟩
    refine ⟨_, rfl, _, _, _, _, true, rfl, .own _, .base (.ins hy TT.cl TT.ca TT.gs TT.tk TT.mo), kT, true, rfl, iteF ?_⟩
    refine ⟨_, rfl, y, CT, dy, _, _, rfl, hy, TT.cl, TT.nCounts, hl, t, _, rfl, .inr (SqT.of ht), _, rfl, x, C, dx, _, _, rfl, g1, T.cl, T.nCount, g2, rfl, _, rfl, ite2 (fun z => ?_) fun z => ?_⟩
    · have ne : xs.length ≠ n := fun e => by rw [e, decide_eq_true rfl] at z; cases z
      exact ⟨_, rfl, y, CT, dy, _, _, rfl, hy, TT.cl, TT.nCounts, hl, by show 1 ≤ 1000; decide, fun a na => keep_raised M_counts.cls.oex M_counts.no (q2 ne) a na⟩
    · refine q1 (Classical.byContradiction fun ne => z ?_)
      rw [decide_eq_false fun e => ne (by injection e with e; omega)]
      rfl
/-- refused after a run was made -/
def OddN (TL : List (Addr × Str)) (CI : Addr) (f : Str) (v : V) (H : Hp) (E : XK) : Prop := ∀ (d : Addr) (H' : Hp), ExtN H H' → Tabs TL H' → H' d = some (.xd [(f, v)]) → E (.ref CI) (some d) H'
abbrev s_normal_run : Stmt := top 36
theorem sc_normal_run : FnScope ["house", "source", "tally", "limit", "run"] ["house", "source", "tally", "limit"] (defScope s_normal_run) := ⟨rfl, rfl, rfl, by decide +kernel, rfl, by decide +kernel, by decide +kernel⟩
-- slots of normal_run: 0 house, 1 source, 2 tally, 3 limit, 4 run
def spNormalRun (C CT CS CI CG : Addr) (TL : List (Addr × Str)) : Sp := fun vs H Q E => ∃ (x : Addr) (n h : Nat) (ps : List (Nat × Nat)) (v : V) (d : PyData) (y dy : Addr) (gs : List (Str × V)) (tt : Addr) (m : Nat) (c : Nat → Int) (lim : Int), vs = [.ref x, v, .ref y, .int lim] ∧ Tabs TL H ∧ HsOk C H x n h ps ∧ n ≤ 16 ∧ 1 ≤ h ∧ h ≤ 10 ∧ Ranked (relOf ps) ∧ Lf2 H v d ∧ H y = some (.ins CT dy gs) ∧ gs.lookup ("counts" : Str) = some (.ref tt) ∧ H tt = some (.tup (cL m c)) ∧ (∀ v, v < m → 0 ≤ c v) ∧
  (stB n h d = false → Odd1 CS "state" v H E) ∧
  ∀ (t : Addr) (S : List Int), v = .ref t → H t = some (.tup (stV S)) → StOk n h S → (m ≠ n → Odd1 CI "counts" (.ref tt) H E) ∧ (m = n → (lim < sumN n c → Odd1 CG "length" (.int (sumN n c)) H E) ∧
    (sumN n c ≤ lim → (∀ k, (plR n h (relOf ps) S c ((ordN n (relOf ps) n).take k)).length ≤ 100000) ∧
      (((plR n h (relOf ps) S c (ordN n (relOf ps) n)).length : Int) < sumN n c → OddN TL CI "counts" (.ref tt) H E) ∧
      (sumN n c ≤ ((plR n h (relOf ps) S c (ordN n (relOf ps) n)).length : Int) → ∀ (H' : Hp) (p : Addr), ExtN H H' → Tabs TL H' → H p = none → H' p = some (.lst (nL (plR n h (relOf ps) S c (ordN n (relOf ps) n)))) → Q (.ref p) H')))
theorem ok_normal_run (T : Txt K mg C) (TT : TxtT K mg CT) (M_counts : XMk P w K mg base CI "InvalidTally" "counts") (PT : ∃ (p g : Addr) (fd : FuncData), PropOf K CT "total" p g ∧ FnOk P w K mg base CX0 1 g fd ["self"] (spTotal CT) ∧ L2.Binds K fd ["self"] [] ∧ L2.Cls K CT) {f : Addr} {fd : FuncData} (F : FunV K "normal_run" "normal_run" s_normal_run f fd) (c_check_state : CalX P w K mg base "check_state" 4 (spCheckStateX C CS)) (x_check_tally : CalX P w K mg base "check_tally" 3 (spCheckTally C CT CI)) (x_check_length : CalX P w K mg base "check_length" 3 (spCheckLen CG)) (c_free_run : Cal P w K mg base "free_run" 6 (spFreeRun C TL)) : FnOk P w K mg base (L2.CX P w) 7 f fd ["house", "source", "tally", "limit"] (spNormalRun C CT CS CI CG TL) := by
  obtain ⟨p_total, f_total, fd_total, hp_total, F_total, b_total, cl_total⟩ := PT
  refine F.okQ sc_normal_run (fun vs H Q E h => ?_) (fun cdv A outer s H vs Q E hr h => ?_)
  · obtain ⟨x, n, h, ps, v, d, y, dy, gs, tt, m, c, lim, rfl, _⟩ := h; rfl
  · obtain ⟨x, n, h, ps, v, d, y, dy, gs, tt, m, c, lim, rfl, hT, hs, n16, h1, h10, hR, od, hy, hl, htt, pos, bad, good⟩ := h
    refine ⟨_, (pss_cons (ps_expr (pe_calX c_check_state (takes_of rfl rfl rfl rfl) (hr.mono (by decide)) (pa_cons (pv 0) (pa_cons (pv 1) pa_nil))))
      (pss_cons (ps_expr (pe_calX x_check_tally (takes_of rfl rfl rfl rfl) (hr.mono (by decide)) (pa_cons (pv 0) (pa_cons (pv 2) pa_nil))))
      (pss_cons (ps_expr (pe_calX x_check_length (takes_of rfl rfl rfl rfl) (hr.mono (by decide)) (pa_cons (pe_prop (pv 2) cl_total hp_total F_total (hr.mono (by decide)) b_total .nil pass0 rfl) (pa_cons (pv 3) pa_nil))))
      (pss_cons (ps_set (i := 4) sc_normal_run.nd rfl (by first | exact Or.inl rfl | exact Or.inr rfl) (pe_cal c_free_run (hr.mono (by decide)) (pa_cons (pv 0) (pa_cons (pv 1) (pa_cons (fld_ K (pv 2)) pa_nil)))))
      (pss_cons (ps_if (pt_cmpR op_lt (pe_callB (lenS_ K) (by rfl) T.len b_len (pa_cons (pv 4) pa_nil)) (pe_prop (pv 2) cl_total hp_total F_total (hr.mono (by decide)) b_total .nil pass0 rfl) (nomark _))
      (pss_one (ps_raiseM M_counts rfl (takes_of rfl rfl rfl rfl) (hr.mono (by decide)) (pa_cons (fld_ K (pv 2)) pa_nil))) pss_nil)
      (pss_one (ps_ret (pv 4)))))))), ?_⟩
    rw [show L2.start ["house", "source", "tally", "limit", "run"] [V.ref x, v, V.ref y, V.int lim] = [some (.ref x), some v, some (.ref y), some (.int lim), none] from rfl]
    refine ⟨_, rfl, _, rfl, x, n, h, _, v, d, rfl, hs.at_, n16, od, fun t S H1 ev ht okS s1 => ?_, bad⟩
    obtain ⟨wr, q⟩ := good t S ev ht okS
    subst ev
    refine ⟨_, rfl, _, rfl, x, y, n, h, ps, dy, gs, tt, _, rfl, hs.same s1, s1 _ _ hy, hl, s1 _ _ htt, fun e => ?_, fun ne => (wr (by rw [cL_len] at ne; exact ne)).after s1⟩
    rw [cL_len] at e
    subst e
    obtain ⟨long, q⟩ := q rfl
    have ec : cL m c = ((List.range m).map c).map V.int := by unfold cL; rw [List.map_map]; rfl
    have ty1 : TlOk CT H1 y (cL m c) := ⟨dy, gs, tt, s1 _ _ hy, hl, s1 _ _ htt⟩
    refine ⟨_, rfl, y, dy, gs, rfl, s1 _ _ hy, y, (List.range m).map c, rfl, by rw [← ec]; exact ty1, ?_⟩
    show tCons (tVar 3) tNil _ _ _
    refine ⟨_, rfl, _, _, rfl, fun le => ?_, fun gt => (long gt).after s1⟩
    obtain ⟨few, wrong, q⟩ := q le
    refine ⟨_, rfl, _, rfl, _, rfl, y, CT, dy, _, _, rfl, s1 _ _ hy, TT.cl, TT.nCounts, hl, x, t, tt, m, h, ps, S, c, rfl, hT.ext s1, hs.same s1, hR, s1 _ _ ht, okS, s1 _ _ htt, pos, n16, h1, h10, few, fun H2 p e2 t2 np hp => ?_⟩
    have e02 := (ExtN.of s1).trans e2
    have hy2 := e02 _ _ hy (fun _ y => nomatch y)
    have htt2 := e02 _ _ htt (fun _ y => nomatch y)
    have ty2 : TlOk CT H2 y (cL m c) := ⟨dy, gs, tt, hy2, hl, htt2⟩
    dsimp only [List.set_cons_succ, List.set_cons_zero]
    refine ⟨_, rfl, p, _, rfl, .inl (SqL.of hp), _, rfl, y, dy, gs, rfl, hy2, y, (List.range m).map c, rfl, by rw [← ec]; exact ty2, ?_⟩
    refine ⟨_, _, rfl, rfl, _, rfl, ite2 (fun z => ?_) fun z => ?_⟩
    · have z : ((nL (plR m h (relOf ps) S c (ordN m (relOf ps) m))).length : Int) < sumN m c := of_decide_eq_true z
      rw [nL_len] at z
      refine ⟨_, rfl, y, CT, dy, _, _, rfl, hy2, TT.cl, TT.nCounts, hl, by show 1 ≤ 1000; decide, fun a na => keep_raised M_counts.cls.oex M_counts.no (fun d' H' nd s' hd => ?_) a na⟩
      exact wrong z d' H' (e02.trans (ExtN.of s')) (t2.ext s') hd
    · have z : ¬ ((nL (plR m h (relOf ps) S c (ordN m (relOf ps) m))).length : Int) < sumN m c := fun k => z (decide_eq_true k)
      rw [nL_len] at z
      exact ⟨_, rfl, q (by omega) H2 p e02 t2 (s1.free np) hp⟩
end
end Hue

end
section
set_option maxRecDepth 100000
set_option maxHeartbeats 4000000
namespace Hue
open PySem PySem.Spec PyProof.Rows L2 LamA LamX
section
variable {P : Program} {w : World} {K : PySem.W.Frag} {mg : Str → Option Value} {base : Heap} {C CT CS CR CL CG : Addr}
def cntN (ms : List Nat) : Nat → Int := fun v => ((ms.count v : Nat) : Int)
theorem mt_lcountK {X : Cx} (K : PySem.W.Frag) (hK : X.K = K := by rfl) : MtR X "list.count" (rCntI K) := by subst hK; exact mt_lcount
/-! ### what it is that a tally fits -/
def FitP (n h : Nat) (R : Rel) (S D : List Int) (c : Nat → Int) (v : Nat) : Prop := (∃ m : Int, c v - (at_ S v - at_ D v - bur n R c v) = (h : Int) * m) ∧ c v ≤ at_ S v + ((h : Int) - 1) * bur n R c v
section
variable {n h : Nat} {R : Rel} {S D : List Int} {c : Nat → Int}
def setF (c : Nat → Int) (v : Nat) (z : Int) : Nat → Int := fun u => if u = v then z else c u
theorem bur_set {v : Nat} (vn : v < n) (z : Int) (u : Nat) : bur n R (setF c v z) u = bur n R c u + (if R v u = true then z - c v else 0) := by
  have key : ∀ m, m ≤ n → sumN m (fun x => if R x u = true then setF c v z x else 0) = sumN m (fun x => if R x u = true then c x else 0) + (if v < m ∧ R v u = true then z - c v else 0) := by
    intro m
    induction m with
    | zero => intro _; rw [if_neg fun y => absurd y.1 (Nat.not_lt_zero v)]; rfl
    | succ m ih =>
      intro mn
      rw [sumN_succ, sumN_succ, ih (by omega)]
      by_cases e : m = v
      · subst e
        have e1 : setF c m z m = z := if_pos rfl
        rw [e1, if_neg fun y => absurd y.1 (Nat.lt_irrefl m)]
        by_cases r : R m u = true
        · rw [if_pos r, if_pos r, if_pos ⟨Nat.lt_succ_self m, r⟩]; omega
        · rw [if_neg r, if_neg r, if_neg fun y => r y.2]
      · have e1 : setF c v z m = c m := if_neg e
        have e2 : (if v < m + 1 ∧ R v u = true then z - c v else 0) = if v < m ∧ R v u = true then z - c v else 0 := by
          by_cases g : v < m ∧ R v u = true
          · rw [if_pos g, if_pos ⟨by omega, g.2⟩]
          · rw [if_neg g, if_neg fun y => g ⟨by omega, y.2⟩]
        rw [e1, e2]
        omega
  rw [bur_sum, bur_sum, key n (Nat.le_refl n)]
  by_cases r : R v u = true
  · rw [if_pos ⟨vn, r⟩, if_pos r]
  · rw [if_neg fun y => r y.2, if_neg r]
theorem cnt_cons (k : Nat) (ms : List Nat) : cntN (k :: ms) = setF (cntN ms) k (cntN ms k + 1) := by
  funext v
  unfold cntN setF
  rw [List.count_cons]
  by_cases e : v = k
  · subst e
    rw [if_pos rfl, if_pos (by simp)]
    omega
  · rw [if_neg e, if_neg (by simpa using fun z : k = v => e z.symm)]
    rfl
theorem ranked_irr {R : Rel} (hR : Ranked R) (u : Nat) : R u u = false := by
  obtain ⟨ρ, hρ⟩ := hR
  cases z : R u u with
  | false => rfl
  | true => exact absurd (hρ u u z) (Nat.lt_irrefl _)
/-- a run's tally fits -/
theorem run_fits {b : Bool} {ms : List Nat} (hR : Ranked R) (h1 : 1 ≤ h) (run : Run n h R b S ms D) : StOk n h S → ∀ v, v < n → FitP n h R S D (cntN ms) v := by
  induction run with
  | nil S =>
    intro ok v vn
    have z : bur n R (cntN []) v = 0 := by rw [bur_sum]; exact sumN_zero fun u _ => by split <;> rfl
    have c0 : cntN [] v = 0 := rfl
    have b := ok.2 _ (at_mem ok.1 vn)
    exact ⟨⟨0, by rw [z, c0, Int.mul_zero]; omega⟩, by rw [z, c0, Int.mul_zero]; omega⟩
  | @cons S D k ms l r ih =>
    intro ok v vn
    obtain ⟨kn, lit, _⟩ := l
    obtain ⟨⟨m, e⟩, bd⟩ := ih (movS_ok h1 k) v vn
    have b := ok.2 _ (at_mem ok.1 vn)
    have bur_ : bur n R (cntN (k :: ms)) v = bur n R (cntN ms) v + (if R k v = true then 1 else 0) := by
      rw [cnt_cons, bur_set kn]
      split <;> omega
    have cv : cntN (k :: ms) v = cntN ms v + (if v = k then 1 else 0) := by
      rw [cnt_cons]
      unfold setF
      by_cases z : v = k
      · rw [if_pos z, if_pos z, z]
      · rw [if_neg z, if_neg z]; omega
    have irr := ranked_irr hR k
    have emod := Int.emod_add_mul_ediv (at_ S v - (if v = k ∨ R k v = true then 1 else 0)) (h : Int)
    rw [← movS_at (S := S) (R := R) vn] at emod
    generalize at_ (movS n h R S k) v = sv at e bd emod
    have e0 : 0 ≤ sv ∨ True := .inr trivial
    unfold FitP
    rw [bur_, cv]
    by_cases z : v = k
    · subst z
      rw [if_pos (.inl rfl)] at emod
      have q0 : (at_ S v - 1) / (h : Int) = 0 := Int.ediv_eq_zero_of_lt (by omega) (by omega)
      rw [q0, Int.mul_zero] at emod
      rw [irr, if_pos rfl, if_neg (fun y : false = true => by cases y)]
      simp only [Int.add_zero]
      exact ⟨⟨m, by omega⟩, by omega⟩
    · rw [if_neg z]
      by_cases r' : R k v = true
      · rw [if_pos (.inr r')] at emod
        rw [if_pos r']
        refine ⟨⟨m - (at_ S v - 1) / (h : Int), by rw [Int.mul_sub]; omega⟩, ?_⟩
        rw [Int.mul_add, Int.mul_one]
        by_cases s0 : 1 ≤ at_ S v
        · have q0 : (at_ S v - 1) / (h : Int) = 0 := Int.ediv_eq_zero_of_lt (by omega) (by omega)
          rw [q0, Int.mul_zero] at emod
          omega
        · have q0 : (at_ S v - 1) / (h : Int) = -1 := by
            have : at_ S v = 0 := by omega
            rw [this]
            exact Int.ediv_eq_neg_one_of_neg_of_le (by omega) (by omega)
          rw [q0, Int.mul_neg, Int.mul_one] at emod
          omega
      · rw [if_neg (fun y => y.elim z r')] at emod
        have q0 : (at_ S v - 0) / (h : Int) = 0 := Int.ediv_eq_zero_of_lt (by omega) (by omega)
        rw [q0, Int.mul_zero] at emod
        rw [if_neg r']
        simp only [Int.add_zero]
        exact ⟨⟨m, by omega⟩, by omega⟩
end
theorem cnt_nI (k : Nat) : ∀ ms : List Nat, (nI ms).count (k : Int) = ms.count k
  | [] => rfl
  | m :: ms => by
    have ih := cnt_nI k ms
    show ((m : Int) :: nI ms).count (k : Int) = _
    rw [List.count_cons, List.count_cons, ih]
    by_cases e : m = k
    · subst e; simp
    · rw [if_neg (show ¬ (((m : Int) == (k : Int)) = true) from by simp only [beq_iff_eq]; omega), if_neg (by simp only [beq_iff_eq]; exact e)]
abbrev s__law_tallied : Stmt := top 51
theorem sc__law_tallied : FnScope ["many", "moves", "v"] ["many", "moves"] (defScope s__law_tallied) := ⟨rfl, rfl, rfl, by decide +kernel, rfl, by decide +kernel, by decide +kernel⟩
-- slots of _law_tallied: 0 many, 1 moves, 2 v
def spTallied : Sp := fun vs H Q _ => ∃ (l : Addr) (n : Nat) (ms : List Nat), vs = [.int n, .ref l] ∧ n ≤ 16 ∧ H l = some (.lst (nL ms)) ∧ ∀ (H' : Hp) (p : Addr), Same H H' → H p = none → H' p = some (.lst (cL n (cntN ms))) → Q (.ref p) H'
theorem ok__law_tallied (T : Txt K mg C) {f : Addr} {fd : FuncData} (F : Fun K "_law_tallied" "_law_tallied" s__law_tallied f fd) : FnOk P w K mg base CX0 1 f fd ["many", "moves"] spTallied := by
  refine F.ok sc__law_tallied (fun vs H Q E h => ?_) (fun cdv A outer s H vs Q E hr h => ?_)
  · obtain ⟨l, n, ms, rfl, _⟩ := h; rfl
  · obtain ⟨l, n, ms, rfl, n16, hl, q⟩ := h
    refine ⟨_, (pss_one (ps_ret (pe_lc (own := [("v", 2)]) (g := gName 2) (tt := tYes) rfl sc__law_tallied.nd (pi_range1 (by rfl) T.range (pa_cons (pv 0) pa_nil)) (blkOk_by (by kernel_rfl)) (fun _ _ _ _ _ => (pg_name (i := 2) sc__law_tallied.nd rfl (by first | exact Or.inl rfl | exact Or.inr rfl))) (fun _ _ _ _ _ => pts_nil) (fun _ _ _ _ _ => (pe_bmK K PySem.F.plainAttrs_list PySem.F.slot_list_count PySem.F.type_list_count (mt_lcountK K) (pv 1) (pa_cons (pv 2) pa_nil)))))), ?_⟩
    refine ⟨_, rfl, _, rfl, by omega, by omega, fun D hD => ?_⟩
    rw [Int.toNat_natCast]
    refine lc_range (fun i G => G D = some (.lst (cL i (cntN ms))) ∧ Same H G) ⟨upd_same, same_new hD⟩ ?_ ?_
    · rintro k G kn ⟨h4, s4⟩
      have e0 : (0 : Int) + (k : Int) = (k : Int) := by omega
      rw [e0]
      refine ⟨rfl, yesT ⟨_, rfl, .inl ⟨rfl, _, SqL.of (s4 _ _ hl)⟩, _, rfl, ?_⟩⟩; refine ⟨l, nI ms, (k : Int), rfl, rfl, SqL.of (s4 _ _ hl), ?_⟩
      refine ⟨_, h4, by rw [cL_len, sizeLine_eq]; omega, ?_, same_upd s4 hD⟩
      rw [upd_same, cnt_nI]
      unfold cL
      rw [List.range_succ, List.map_append]
      rfl
    · rintro G ⟨h4, s4⟩
      exact q G D s4 hD h4
/-! ### runs of counts that may not fit -/
section
variable {n h : Nat} {R : Rel} {S D : List Int} {c : Nat → Int}
theorem wmT_le {U : Nat → Bool} {v : Nat} (h1 : 1 ≤ h) : ∀ ms : List Nat, v ∉ ms → ∀ hue left : Int, 0 ≤ left → (((wmT U h v ms hue left).count v : Nat) : Int) ≤ left ∧ (((wmT U h v ms hue left).count v : Nat) : Int) ≤ ((h : Int) - 1) * (ms.countP U : Nat) := by
  intro ms
  induction ms with
  | nil => intro _ hue left l0; show ((0 : Nat) : Int) ≤ left ∧ ((0 : Nat) : Int) ≤ ((h : Int) - 1) * ((0 : Nat) : Int); simp; omega
  | cons m ms ih =>
    intro nv hue left l0
    have nm : m ≠ v := fun e => nv (by rw [e]; exact List.mem_cons_self)
    have nv' : v ∉ ms := fun z => nv (List.mem_cons_of_mem _ z)
    unfold wmT
    by_cases u : U m = true
    · rw [if_pos u]
      have r0 := Int.emod_nonneg (hue - 1) (by omega : (h : Int) ≠ 0)
      have r1 := Int.emod_lt_of_pos (hue - 1) (by omega : 0 < (h : Int))
      generalize (hue - 1) % (h : Int) = nu at r0 r1 ⊢
      have mb := mn_bd r0 l0
      obtain ⟨a, b⟩ := ih nv' (nu - mnI nu left) (left - mnI nu left) (by omega)
      rw [List.count_cons_of_ne nm, List.count_append, List.count_replicate_self, List.countP_cons_of_pos u]
      rw [Int.natCast_add, Int.natCast_add, Int.mul_add]
      constructor <;> omega
    · rw [if_neg u, List.count_cons_of_ne nm, List.countP_cons_of_neg u]
      exact ih nv' hue left l0
theorem wmF_le {U : Nat → Bool} {v : Nat} (h1 : 1 ≤ h) (run : List Nat) (nv : v ∉ run) {hue count : Int} (u0 : 0 ≤ hue) (c0 : 0 ≤ count) : (((wmF U h v run hue count).count v : Nat) : Int) ≤ count ∧ (((wmF U h v run hue count).count v : Nat) : Int) ≤ hue + ((h : Int) - 1) * (run.countP U : Nat) := by
  unfold wmF
  have mb := mn_bd u0 c0
  obtain ⟨a, b⟩ := wmT_le (U := U) h1 run nv (hue - mnI hue count) (count - mnI hue count) (by omega)
  rw [List.count_append, List.count_replicate_self, Int.natCast_add]
  constructor <;> omega
theorem plR_le (h1 : 1 ≤ h) (okS : StOk n h S) (pos : ∀ v, v < n → 0 ≤ c v) {order : List Nat} (ok : OrdOk n R order) :
    ∀ k, k ≤ order.length → (∀ m ∈ plR n h R S c (order.take k), m ∈ order.take k) ∧ ∀ u ∈ order.take k, cntN (plR n h R S c (order.take k)) u ≤ c u ∧ cntN (plR n h R S c (order.take k)) u ≤ at_ S u + ((h : Int) - 1) * bur n R (cntN (plR n h R S c (order.take k))) u := by
    intro k
    induction k with
    | zero => intro _; exact ⟨fun m hm => absurd hm (by rw [List.take_zero]; exact List.not_mem_nil), fun u hu => absurd hu (by rw [List.take_zero]; exact List.not_mem_nil)⟩
    | succ k ih =>
      intro hk
      obtain ⟨mem, al⟩ := ih (by omega)
      have hv : order[k]? = some order[k] := List.getElem?_eq_getElem (by omega)
      generalize order[k] = v at hv
      have et : order.take (k + 1) = order.take k ++ [v] := by rw [List.take_add_one, hv]; rfl
      have vm := List.mem_of_getElem? hv
      have vn := ok.lt v vm
      have nv : v ∉ order.take k := fun z => by
        obtain ⟨i, hi⟩ := List.mem_iff_getElem?.mp z
        have il : i < k := by
          have := (List.getElem?_eq_some_iff.mp hi).1
          rw [List.length_take] at this
          omega
        rw [List.getElem?_take, if_pos il] at hi
        have := (List.getElem?_inj (by have := (List.getElem?_eq_some_iff.mp hi).1; exact this) ok.nd).mp (hi.trans hv.symm)
        omega
      have ups : ∀ j, j < n → R j v = true → j ∈ order.take k := fun j jn r => ok.up k v hv j jn r
      have upu : ∀ u, u ∈ order.take k → ∀ j, j < n → R j u = true → j ≠ v := fun u hu j jn r e => by
        obtain ⟨i, hi⟩ := List.mem_iff_getElem?.mp hu
        have il : i < k := by
          have := (List.getElem?_eq_some_iff.mp hi).1
          rw [List.length_take] at this
          omega
        rw [List.getElem?_take, if_pos il] at hi
        have := ok.up i u hi j jn r
        rw [e] at this
        exact nv (by
          obtain ⟨q, hq⟩ := List.mem_iff_getElem?.mp this
          have ql : q < i := by
            have := (List.getElem?_eq_some_iff.mp hq).1
            rw [List.length_take] at this
            omega
          rw [List.getElem?_take, if_pos ql] at hq
          exact List.mem_iff_getElem?.mpr ⟨q, by rw [List.getElem?_take, if_pos (by omega)]; exact hq⟩)
      rw [et, plR_snoc]
      have rS := okS.2 _ (at_mem okS.1 vn)
      have lt : ∀ m ∈ plR n h R S c (order.take k), m < n := fun m hm => ok.lt m (List.mem_of_mem_take (mem m hm))
      have nvr : v ∉ plR n h R S c (order.take k) := fun z => nv (mem v z)
      generalize plR n h R S c (order.take k) = run at mem al lt nvr ⊢
      have same : ∀ x, x ≠ v → cntN (wmF (fun m => decide (m ∈ Bel n (flip R) v)) h v run (at_ S v) (c v)) x = cntN run x := fun x ne => by unfold cntN; rw [wmF_cnt ne]
      refine ⟨fun m hm => ?_, fun u hu => ?_⟩
      · rcases wmF_mem hm with e | e
        · rw [e]; simp
        · exact List.mem_append_left _ (mem m e)
      · rcases List.mem_append.mp hu with e | e
        · have ne : u ≠ v := fun z => nv (by rw [← z]; exact e)
          rw [same u ne, bur_congr (c' := cntN run) fun x xn r => same x (upu u e x xn r)]
          exact al u e
        · rw [List.mem_singleton.mp e]
          rw [bur_congr (c' := cntN run) fun x xn r => same x fun z => by
            have := ups x xn r
            rw [z] at this
            exact nv this]
          have tb := cntP_bur (n := n) (R := R) v run lt
          obtain ⟨a, b⟩ := wmF_le (U := fun m => decide (m ∈ Bel n (flip R) v)) h1 run nvr rS.1 (pos v vn)
          rw [tb] at b
          exact ⟨a, b⟩
theorem len_cnt {n : Nat} : ∀ ms : List Nat, (∀ m ∈ ms, m < n) → (ms.length : Int) = sumN n (cntN ms) := by
  intro ms
  induction ms with
  | nil => intro _; exact (sumN_zero (n := n) (f := cntN []) fun v _ => rfl).symm
  | cons m ms ih =>
    intro lt
    have mn := lt m List.mem_cons_self
    have ih := ih fun k hk => lt k (List.mem_cons_of_mem _ hk)
    have e : sumN n (cntN (m :: ms)) = sumN n (cntN ms) + sumN n (fun v => if v = m then (1 : Int) else 0) := by
      rw [← sumN_add]
      refine sumN_congr fun v _ => ?_
      unfold cntN
      by_cases ev : v = m
      · subst ev; rw [List.count_cons_self, if_pos rfl]; omega
      · rw [List.count_cons_of_ne (fun z => ev z.symm), if_neg ev]; omega
    rw [e, ← ih, sumN_one (fun _ => (1 : Int)) mn, List.length_cons]
    omega
theorem sumN_le {n : Nat} {f g : Nat → Int} (h : ∀ v, v < n → f v ≤ g v) : sumN n f ≤ sumN n g := by
  induction n with
  | zero => exact Int.le_refl _
  | succ n ih =>
    rw [sumN_succ, sumN_succ]
    have := ih fun v vn => h v (by omega)
    have := h n (by omega)
    omega
theorem bur_le {v : Nat} {f g : Nat → Int} (h : ∀ u, u < n → f u ≤ g u) : bur n R f v ≤ bur n R g v := by
  rw [bur_sum, bur_sum]
  refine sumN_le fun u un => ?_
  have := h u un
  split <;> omega
/-- how long the run may be, at every stage -/
theorem plR_short (h1 : 1 ≤ h) (okS : StOk n h S) (pos : ∀ v, v < n → 0 ≤ c v) {order : List Nat} (ok : OrdOk n R order) (k : Nat) : ((plR n h R S c (order.take k)).length : Int) ≤ sumN n fun v => mnI (c v) (at_ S v + ((h : Int) - 1) * bur n R c v) := by
  have key : ∀ k, k ≤ order.length → ((plR n h R S c (order.take k)).length : Int) ≤ sumN n fun v => mnI (c v) (at_ S v + ((h : Int) - 1) * bur n R c v) := by
    intro k hk
    obtain ⟨mem, al⟩ := plR_le h1 okS pos ok k hk
    rw [len_cnt (n := n) _ fun m hm => ok.lt m (List.mem_of_mem_take (mem m hm))]
    have le : ∀ u, u < n → cntN (plR n h R S c (order.take k)) u ≤ c u := fun u un => by
      by_cases e : u ∈ order.take k
      · exact (al u e).1
      · have : cntN (plR n h R S c (order.take k)) u = 0 := by
          unfold cntN
          rw [List.count_eq_zero.mpr fun z => e (mem u z)]
          rfl
        rw [this]
        exact pos u un
    refine sumN_le fun v vn => ?_
    have b0 : 0 ≤ bur n R (cntN (plR n h R S c (order.take k))) v := ldS_nonneg fun u _ _ => Int.natCast_nonneg _
    have bl := bur_le (n := n) (R := R) (v := v) le
    have : ((h : Int) - 1) * bur n R (cntN (plR n h R S c (order.take k))) v ≤ ((h : Int) - 1) * bur n R c v := Int.mul_le_mul_of_nonneg_left bl (by omega)
    have : 0 ≤ ((h : Int) - 1) * bur n R (cntN (plR n h R S c (order.take k))) v := Int.mul_nonneg (by omega) b0
    have a := le v vn
    have s0 := okS.2 _ (at_mem okS.1 vn)
    have b : cntN (plR n h R S c (order.take k)) v ≤ at_ S v + ((h : Int) - 1) * bur n R c v := by
      by_cases e : v ∈ order.take k
      · have := (al v e).2; omega
      · have : cntN (plR n h R S c (order.take k)) v = 0 := by
          unfold cntN
          rw [List.count_eq_zero.mpr fun z => e (mem v z)]
          rfl
        rw [this]
        omega
    unfold mnI
    split <;> omega
  rcases Nat.lt_or_ge order.length k with l | l
  · rw [List.take_of_length_le (by omega)]
    have := key order.length (Nat.le_refl _)
    rw [List.take_length] at this
    exact this
  · exact key k l
/-- the state that counts within their bounds lead to -/
def endS (n h : Nat) (R : Rel) (S : List Int) (c : Nat → Int) : List Int := (List.range n).map fun v => (at_ S v - bur n R c v - c v) % (h : Int)
theorem endS_at {v : Nat} (vn : v < n) : at_ (endS n h R S c) v = (at_ S v - bur n R c v - c v) % (h : Int) := by
  unfold at_ endS
  rw [List.getD_eq_getElem?_getD, List.getElem?_map, List.getElem?_range vn]
  rfl
theorem endS_ok (h1 : 1 ≤ h) : StOk n h (endS n h R S c) := ⟨by unfold endS; rw [List.length_map, List.length_range], fun z hz => by
  obtain ⟨v, _, rfl⟩ := List.mem_map.mp hz
  exact ⟨Int.emod_nonneg _ (by omega), Int.emod_lt_of_pos _ (by omega)⟩⟩
theorem fits_end (h1 : 1 ≤ h) (pos : ∀ v, v < n → 0 ≤ c v) (bd : ∀ v, v < n → c v ≤ at_ S v + ((h : Int) - 1) * bur n R c v) : Fits n h R S (endS n h R S c) c := by
  refine ⟨pos, fun v vn => ?_, bd⟩
  rw [endS_at vn]
  have e := Int.emod_add_mul_ediv (at_ S v - bur n R c v - c v) (h : Int)
  exact ⟨-((at_ S v - bur n R c v - c v) / (h : Int)), by rw [Int.mul_neg]; omega⟩
end
end
end Hue

end
section
set_option maxRecDepth 100000
set_option maxHeartbeats 4000000
namespace Hue
open PySem PySem.Spec PyProof.Rows L2 LamA LamX
section
variable {P : Program} {w : World} {K : PySem.W.Frag} {mg : Str → Option Value} {base : Heap} {C CT CE CS CL CR CG CI : Addr} {TL : List (Addr × Str)}
/-- a house, its table, its line and a state -/
structure AU (C : Addr) (H : Hp) (x lw ln t : Addr) (n h : Nat) (ps : List (Nat × Nat)) (line : List Nat) (S : List Int) : Prop where
  hs : HsOk C H x n h ps
  tb : Tb H lw n (relOf ps)
  hl : H ln = some (.lst (nL line))
  ok : OrdOk n (relOf ps) line
  all : ∀ v, v < n → v ∈ line
  len : line.length = n
  ht : H t = some (.tup (stV S))
  okS : StOk n h S
  n16 : n ≤ 16
  h1 : 1 ≤ h
  h10 : h ≤ 10
  hR : Ranked (relOf ps)
  n1 : 1 ≤ n
theorem AU.same {H H' : Hp} {x lw ln t : Addr} {n h : Nat} {ps : List (Nat × Nat)} {line : List Nat} {S : List Int} (W : AU C H x lw ln t n h ps line S) (s : Same H H') : AU C H' x lw ln t n h ps line S := ⟨W.hs.same s, W.tb.same s, s _ _ W.hl, W.ok, W.all, W.len, s _ _ W.ht, W.okS, W.n16, W.h1, W.h10, W.hR, W.n1⟩
theorem tb_pl {H : Hp} {lw : Addr} {n : Nat} {R : Rel} (t : Tb H lw n R) : Tb (plH H) lw n R := by
  obtain ⟨as, l, t1, t2⟩ := t
  exact ⟨as, l, plH_of t1 (fun _ y => nomatch y) (fun _ y => nomatch y), fun i a e => plH_of (t2 i a e) (fun _ y => nomatch y) (fun _ y => nomatch y)⟩
theorem AU.pl {H : Hp} {x lw ln t : Addr} {n h : Nat} {ps : List (Nat × Nat)} {line : List Nat} {S : List Int} (W : AU C H x lw ln t n h ps line S) : AU C (plH H) x lw ln t n h ps line S :=
  ⟨W.hs.pl, tb_pl W.tb, plH_of W.hl (fun _ y => nomatch y) (fun _ y => nomatch y), W.ok, W.all, W.len, plH_of W.ht (fun _ y => nomatch y) (fun _ y => nomatch y), W.okS, W.n16, W.h1, W.h10, W.hR, W.n1⟩
abbrev s__law_drawn_counts : Stmt := top 56
theorem sc__law_drawn_counts : FnScope ["box", "base", "low", "line", "first", "most", "found", "v", "burden", "u"] ["box", "base", "low", "line", "first", "most"] (defScope s__law_drawn_counts) := ⟨rfl, rfl, rfl, by decide +kernel, rfl, by decide +kernel, by decide +kernel⟩
-- slots of _law_drawn_counts: 0 box, 1 base, 2 low, 3 line, 4 first, 5 most, 6 found, 7 v, 8 burden, 9 u
def spDrawn (C : Addr) : Sp := fun vs H Q _ => ∃ (b x lw ln t : Addr) (n h : Nat) (ps : List (Nat × Nat)) (line : List Nat) (S : List Int) (most : Nat), vs = [.ref b, .int h, .ref lw, .ref ln, .ref t, .int most] ∧ most ≤ 60 ∧ Bx H b ∧ AU C (hid H b) x lw ln t n h ps line S ∧
  ∀ (c : Nat → Int) (o : Addr) (H' : Hp), (∀ v, v < n → 0 ≤ c v ∧ c v ≤ (most : Int)) → (∀ v, v < n → c v ≤ at_ S v + ((h : Int) - 1) * bur n (relOf ps) c v) → Bx H' b → Same (hid H b) (hid H' b) → hid H' b o = some (.lst (cL n c)) → Q (.ref o) H'
theorem ok__law_drawn_counts (T : Txt K mg C) {f : Addr} {fd : FuncData} (F : Fun K "_law_drawn_counts" "_law_drawn_counts" s__law_drawn_counts f fd) (c__law_take : Cal P w K mg base "_law_take" 1 spTake) : FnOk P w K mg base CX0 2 f fd ["box", "base", "low", "line", "first", "most"] (spDrawn C) := by
  refine F.ok sc__law_drawn_counts (fun vs H Q E h => ?_) (fun cdv A outer s H vs Q E hr h => ?_)
  · obtain ⟨b, x, lw, ln, t, n, h, ps, line, S, most, rfl, _⟩ := h; rfl
  · obtain ⟨b, x, lw, ln, t, n, h, ps, line, S, most, rfl, m60, bx, W, q⟩ := h
    generalize hRel : relOf ps = R at q
    have tbR : Tb (hid H b) lw n R := by rw [← hRel]; exact W.tb
    have okR : OrdOk n R line := by rw [← hRel]; exact W.ok
    have n16 := W.n16
    have h1 := W.h1
    have h10 := W.h10
    refine ⟨_, (pss_cons (ps_set (i := 6) sc__law_drawn_counts.nd rfl (by first | exact Or.inl rfl | exact Or.inr rfl) (pe_op op_rep (pe_lst (pa_cons pe_int pa_nil)) (pe_callB (lenS_ K) (by rfl) T.len b_len (pa_cons (pv 2) pa_nil))))
      (pss_cons (ps_for PassesOwn.never rfl (pil_ K (pv 3)) (pg_name (i := 7) sc__law_drawn_counts.nd rfl (by first | exact Or.inl rfl | exact Or.inr rfl))
      (pss_cons (ps_set (i := 8) sc__law_drawn_counts.nd rfl (by first | exact Or.inl rfl | exact Or.inr rfl) (pe_callB (sum_ K rfl) (by rfl) T.sum b_sum (pa_cons (pe_lc (own := [("u", 9)]) (g := gName 9) rfl sc__law_drawn_counts.nd (pil_ K (pv 3)) (blkOk_by (by kernel_rfl)) (fun _ _ _ _ _ => (pg_name (i := 9) sc__law_drawn_counts.nd rfl (by first | exact Or.inl rfl | exact Or.inr rfl))) (fun _ _ _ _ _ => (pts_one (pt_val (pe_ix (ixL_ K) (pe_ix (ixL_ K) (pv 2) (pv 9) (fun _ _ => rfl)) (pv 7) (fun _ _ => rfl))))) (fun _ _ _ _ _ => (pe_ix (ixL_ K) (pv 6) (pv 9) (fun _ _ => rfl)))) pa_nil)))
      (pss_one (ps_asg (pe_cal c__law_take (hr.mono (by decide)) (pa_cons (pv 0) (pa_cons (pe_op op_add pe_int (pe_callB (call_min2 rfl) (by rfl) T.min b_min (pa_cons (pv 5) (pa_cons (pe_op op_add (pe_ix (ixT_ K) (pv 4) (pv 7) (fun _ _ => rfl)) (pe_op op_mul (pe_op op_sub (pv 1) pe_int) (pv 8))) pa_nil)))) pa_nil))) (pg_sub (pv 6) (pv 7) set_list)))))
      (pss_one (ps_ret (pv 6))))), ?_⟩
    obtain ⟨xs, hxs, lx⟩ : ∃ xs : List V, hid H b lw = some (.lst xs) ∧ xs.length = n := let ⟨as, l, t⟩ := tbR; ⟨_, t.1, by rw [List.length_map, l]⟩
    refine ⟨by decide, fun z1 nz1 => ⟨_, rfl, lw, _, rfl, .inl (SqL.of (same_new nz1 _ _ (hid_some hxs).1)), ?_⟩⟩
    rw [lx]
    refine repZ (n := n) upd_same (by omega) fun pc npc => ?_
    obtain ⟨s1, _, b1⟩ := hid_add (o := .lst [.int 0]) bx nz1
    obtain ⟨s2, h2, b2⟩ := hid_add (o := .lst (cL n fun _ => 0)) b1 npc
    have fc : hid H b pc = none := s1.free (hid_none npc)
    have s02 := s1.trans s2
    generalize L2.upd (L2.upd H z1 (.lst [.int 0])) pc (.lst (cL n fun _ => 0)) = H1 at s02 h2 b2 ⊢
    clear s1 b1 s2
    refine ⟨_, rfl, ln, rfl, ⟨_, SqL.of (hid_some (s02 _ _ W.hl)).1⟩, ?_⟩
    refine for_list (K := K) (a := ln) (xs := nL line) (fun i σ G => ∃ (vv vb : Option V) (c : Nat → Int), σ = [some (.ref b), some (.int (h : Nat)), some (.ref lw), some (.ref ln), some (.ref t), some (.int (most : Nat)), some (.ref pc), vv, vb, none] ∧ Bx G b ∧ Same (hid H b) (hid G b) ∧ hid G b pc = some (.lst (cL n c)) ∧ (∀ v, v ∉ line.take i → c v = 0) ∧ ∀ v ∈ line.take i, 0 ≤ c v ∧ c v ≤ (most : Int) ∧ c v ≤ at_ S v + ((h : Int) - 1) * bur n R c v)
      ⟨_, _, fun _ => 0, rfl, b2, s02, h2, fun v _ => rfl, fun v hv => absurd hv (by rw [List.take_zero]; exact List.not_mem_nil)⟩ (fun i σ G _ ⟨_, _, _, _, _, s, _⟩ => SqL.of (hid_some (s _ _ W.hl)).1) ?_ ?_
    · rintro i y σ G hy ⟨vv, vb, c, rfl, bG, sG, gc, out, inn⟩
      obtain ⟨k, hk, rfl⟩ := nL_it2 hy
      have kn : k < n := okR.lt k (List.mem_of_getElem? hk)
      have hlG := (hid_some (sG _ _ W.hl)).1
      have gcG := (hid_some gc).1
      have tG := (tbR.same sG).same hid_same
      refine ⟨_, rfl, ln, rfl, ⟨_, SqL.of hlG⟩, fun D' hD' => ?_⟩
      refine lc_list (xs := nL line) (fun j G2 => G2 D' = some (.lst ((((line.take j).filter fun u => R u k).map c).map V.int)) ∧ Same G G2) ⟨upd_same, same_new hD'⟩ (fun j G2 _ ⟨_, s⟩ => SqL.of (s _ _ hlG)) ?_ ?_
      · rintro j y G2 hy ⟨h2, s2⟩
        obtain ⟨u, hu, rfl⟩ := nL_it2 hy
        have un : u < n := okR.lt u (List.mem_of_getElem? hu)
        obtain ⟨as, row, ra, c1, c2, c3, c4, c5⟩ := (tG.same s2).cell un kn
        have jl : j < 17 := by have := (List.getElem?_eq_some_iff.mp hu).1; rw [W.len] at this; omega
        refine ⟨rfl, _, rfl, _, rfl, lw, _, _, _, rfl, rfl, SqL.of c1, c3, _, rfl, ra, _, _, _, rfl, rfl, SqL.of c4, c5, _, rfl, ?_⟩
        rw [List.take_add_one, hu, List.filter_append]
        refine ite2 (fun hR => ?_) fun hR => ?_
        · refine ⟨_, rfl, _, rfl, pc, _, _, _, rfl, rfl, SqL.of (s2 _ _ gcG), atI_nat (cL_get un _), _, h2, ?_, ?_, same_upd s2 hD'⟩
          · rw [List.length_map, List.length_map, sizeLine_eq]
            have := List.length_filter_le (fun u => R u k) (line.take j)
            rw [List.length_take] at this
            omega
          · rw [upd_same]
            show _ = some (HO.lst (((_ ++ List.filter (fun u => R u k) [u]).map c).map V.int))
            rw [List.filter_cons, if_pos hR, List.map_append, List.map_append]
            rfl
        · show G2 D' = some (HO.lst (((_ ++ List.filter (fun u => R u k) [u]).map c).map V.int)) ∧ _
          rw [List.filter_cons, if_neg hR, List.filter_nil, List.append_nil]
          exact ⟨h2, s2⟩
      rintro G2 ⟨h2, s2⟩
      rw [nL_len, List.take_length] at h2
      obtain ⟨sH, bG2⟩ := hid_sm bG s2
      refine ⟨D', _, rfl, SqL.of h2, ?_⟩
      have eb : ((line.filter fun u => R u k).map c).sum = bur n R c k := ldS_all c okR.nd okR.lt fun u un _ => W.all u un
      rw [eb]
      have c0 : ∀ v, v < n → 0 ≤ c v := fun v _ => by
        by_cases e : v ∈ line.take i
        · exact (inn v e).1
        · rw [out v e]; exact Int.le_refl _
      have b0 : 0 ≤ bur n R c k := ldS_nonneg fun u hu _ => c0 u (List.mem_range.mp hu)
      have bb : 0 ≤ ((h : Int) - 1) * bur n R c k := Int.mul_nonneg (by omega) b0
      have rS := W.okS.2 _ (at_mem W.okS.1 kn)
      obtain ⟨m, em, ml, mb, mt⟩ : ∃ m : Nat, 1 + (if at_ S k + ((h : Int) - 1) * bur n R c k < (most : Int) then at_ S k + ((h : Int) - 1) * bur n R c k else (most : Int)) = (m : Int) ∧ 1 ≤ m ∧ (m : Int) ≤ at_ S k + ((h : Int) - 1) * bur n R c k + 1 ∧ (m : Int) ≤ most + 1 := by
        refine ⟨(1 + (if at_ S k + ((h : Int) - 1) * bur n R c k < (most : Int) then at_ S k + ((h : Int) - 1) * bur n R c k else (most : Int))).toNat, ?_, ?_, ?_, ?_⟩ <;> split <;> omega
      refine ⟨_, rfl, _, rfl, _, rfl, _, rfl, t, _, _, _, rfl, rfl, SqT.of (hid_some ((sG.trans sH) _ _ W.ht)).1, atI_nat (stV_get (by rw [W.okS.1]; exact kn)), _, rfl, _, _, rfl, rfl, _, rfl, _, _, rfl, rfl, .inl ⟨by omega, by omega⟩, _, _, rfl, rfl, (most : Int), at_ S k + ((h : Int) - 1) * bur n R c k, rfl, _, _, rfl, rfl, b, m, by rw [← em], ml, by omega, bG2, fun d G3 hd b3 s3 => ?_⟩
      have gc3 := s3 _ _ (sH _ _ gc)
      refine ⟨_, rfl, _, rfl, pc, _, _, k, rfl, rfl, (hid_some gc3).1, ixN_nat (by rw [cL_len]; exact kn), ?_⟩
      have tk : line.take (i + 1) = line.take i ++ [k] := by rw [List.take_add_one, hk]; rfl
      have nk : k ∉ line.take i := fun z => by
        obtain ⟨q, hq⟩ := List.mem_iff_getElem?.mp z
        have ql : q < i := by
          have := (List.getElem?_eq_some_iff.mp hq).1
          rw [List.length_take] at this
          omega
        rw [List.getElem?_take, if_pos ql] at hq
        have := (List.getElem?_inj (List.getElem?_eq_some_iff.mp hq).1 okR.nd).mp (hq.trans hk.symm)
        omega
      have bk : ∀ u, (u ∈ line.take i ∨ u = k) → bur n R (setF c k d) u = bur n R c u := fun u hu => bur_congr fun x xn r => if_neg fun e => by
        rcases hu with hu | rfl
        · obtain ⟨q, hq⟩ := List.mem_iff_getElem?.mp hu
          have ql : q < i := by
            have := (List.getElem?_eq_some_iff.mp hq).1
            rw [List.length_take] at this
            omega
          rw [List.getElem?_take, if_pos ql] at hq
          have := okR.up q u hq x xn r
          rw [e] at this
          obtain ⟨q2, hq2⟩ := List.mem_iff_getElem?.mp this
          have ql2 : q2 < q := by
            have := (List.getElem?_eq_some_iff.mp hq2).1
            rw [List.length_take] at this
            omega
          rw [List.getElem?_take, if_pos ql2] at hq2
          exact nk (List.mem_iff_getElem?.mpr ⟨q2, by rw [List.getElem?_take, if_pos (by omega)]; exact hq2⟩)
        · have := okR.up i u hk x xn r
          rw [e] at this
          exact nk this
      refine ⟨_, _, setF c k d, rfl, b3.put gc3, by rw [hid_put gc3]; exact same_upd (sG.trans (sH.trans s3)) fc, by rw [hid_put gc3, upd_same, cL_set kn]; rfl, fun v hv => ?_, fun v hv => ?_⟩
      · rw [tk] at hv
        have ne : v ≠ k := fun e => hv (by rw [e]; simp)
        unfold setF
        rw [if_neg ne]
        exact out v fun z => hv (List.mem_append_left _ z)
      · rw [tk] at hv
        rcases List.mem_append.mp hv with e | e
        · have ne : v ≠ k := fun z => nk (by rw [← z]; exact e)
          rw [bk v (.inl e)]
          unfold setF
          rw [if_neg ne]
          exact inn v e
        · rw [List.mem_singleton.mp e, bk k (.inr rfl)]
          unfold setF
          rw [if_pos rfl]
          omega
    · rintro σ G ⟨vv, vb, c, rfl, bG, sG, gc, out, inn⟩
      rw [nL_len, List.take_length] at inn
      exact ⟨_, rfl, q c pc G (fun v vn => ⟨(inn v (W.all v vn)).1, (inn v (W.all v vn)).2.1⟩) (fun v vn => (inn v (W.all v vn)).2.2) bG sG gc⟩
end
end Hue

end
section
set_option maxRecDepth 100000
set_option maxHeartbeats 4000000
namespace Hue
open PySem PySem.Spec PyProof.Rows L2 LamA LamX
section
variable {P : Program} {w : World} {K : PySem.W.Frag} {mg : Str → Option Value} {base : Heap} {C CT CE CS CL CR CG CI : Addr} {TL : List (Addr × Str)}
/-! ### what was told -/
structure TxH (K : PySem.W.Frag) (mg : Str → Option Value) (CE CS CI CG : Addr) : Prop where
  gE : mg "HuefallError" = some (.ref CE)
  gS : mg "InvalidState" = some (.ref CS)
  gI : mg "InvalidTally" = some (.ref CI)
  gG : mg "TooLong" = some (.ref CG)
  xS : XCls K CS
  xI : XCls K CI
  xG : XCls K CG
  xg : XGlob K
  nS : PySem.W.findIn K (.ref CS) "state" = some none
  nI : PySem.W.findIn K (.ref CI) "counts" = some none
  nG : PySem.W.findIn K (.ref CG) "length" = some none
  eSS : PySem.W.exmOne K (.ref CS) (.ref CS) = some true
  eIS : PySem.W.exmOne K (.ref CI) (.ref CS) = some false
  eII : PySem.W.exmOne K (.ref CI) (.ref CI) = some true
  eGS : PySem.W.exmOne K (.ref CG) (.ref CS) = some false
  eGI : PySem.W.exmOne K (.ref CG) (.ref CI) = some false
  eGG : PySem.W.exmOne K (.ref CG) (.ref CG) = some true
  kSE : PySem.W.kitOne K (.ref CS) (.ref CE) = some true
  kIE : PySem.W.kitOne K (.ref CI) (.ref CE) = some true
  kGE : PySem.W.kitOne K (.ref CG) (.ref CE) = some true
  kS2 : PySem.W.kitAny K (.ref CS) [.ref CI, .ref CG] = some false
  kI2 : PySem.W.kitAny K (.ref CI) [.ref CS, .ref CG] = some false
  kG2 : PySem.W.kitAny K (.ref CG) [.ref CS, .ref CI] = some false
/-- the limit as it is handed on -/
def LimV (cap : V) (lim : Int) : Prop := cap = .int lim ∨ (cap = .non ∧ lim = 1000)
/-- told after a run was made -/
def ToldN (TL : List (Addr × Str)) (w : String) (d : PyData) (H : Hp) (Q : VK) : Prop := ∀ (p : Addr) (H' : Hp), ExtN H H' → Tabs TL H' → H' p = some (.tup [.str w, .str d.shown, .bl true]) → Q (.ref p) H'
/-- the data of counts -/
def dCn (m : Nat) (c : Nat → Int) : PyData := stD ((List.range m).map c)
theorem cL_stV (m : Nat) (c : Nat → Int) : cL m c = stV ((List.range m).map c) := by unfold cL stV; rw [List.map_map]; rfl
theorem cn_lf {G : Hp} {tt : Addr} {m : Nat} {c : Nat → Int} (h : G tt = some (.tup (cL m c))) (l : m ≤ 40) (b : ∀ v, v < m → (c v).natAbs < 10 ^ 38) : Lf2 G (.ref tt) (dCn m c) :=
  st_lf2 (by rw [← cL_stV]; exact h) (by rw [List.length_map, List.length_range]; exact l) fun z hz => by
    obtain ⟨v, hv, rfl⟩ := List.mem_map.mp hz
    exact b v (List.mem_range.mp hv)
theorem cn_sok (m : Nat) (c : Nat → Int) : SOk (dCn m c).shown := SOk.tup (SOk.ints _)
abbrev s__law_told : Stmt := top 57
theorem sc__law_told : FnScope ["home", "first", "tally", "cap", "clean", "e"] ["home", "first", "tally", "cap"] (defScope s__law_told) := ⟨rfl, rfl, rfl, by decide +kernel, rfl, by decide +kernel, by decide +kernel⟩
-- slots of _law_told: 0 home, 1 first, 2 tally, 3 cap, 4 clean, 5 e
def spTold33 (C CT : Addr) (TL : List (Addr × Str)) : Sp := fun vs H Q _ => ∃ (x : Addr) (n h : Nat) (ps : List (Nat × Nat)) (v : V) (d : PyData) (y dy : Addr) (gs : List (Str × V)) (tt : Addr) (m : Nat) (c : Nat → Int) (cap : V) (lim : Int), vs = [.ref x, v, .ref y, cap] ∧ LimV cap lim ∧ Tabs TL H ∧ HsOk C H x n h ps ∧ n ≤ 16 ∧ 1 ≤ h ∧ h ≤ 10 ∧ Ranked (relOf ps) ∧ Lf2 H v d ∧ H y = some (.ins CT dy gs) ∧ gs.lookup ("counts" : Str) = some (.ref tt) ∧ H tt = some (.tup (cL m c)) ∧ (∀ v, v < m → 0 ≤ c v) ∧ m ≤ 40 ∧ (∀ v, v < m → (c v).natAbs < 10 ^ 38) ∧ (sumN n c).natAbs < 10 ^ 38 ∧
  (stB n h d = false → Told "state" d H Q) ∧
  ∀ (t : Addr) (S : List Int), v = .ref t → H t = some (.tup (stV S)) → StOk n h S → (m ≠ n → Told "tally" (dCn m c) H Q) ∧ (m = n → (lim < sumN n c → Told "long" (.int (sumN n c)) H Q) ∧
    (sumN n c ≤ lim → (∀ k, (plR n h (relOf ps) S c ((ordN n (relOf ps) n).take k)).length ≤ 100000) ∧
      (((plR n h (relOf ps) S c (ordN n (relOf ps) n)).length : Int) < sumN n c → ToldN TL "tally" (dCn m c) H Q) ∧
      (sumN n c ≤ ((plR n h (relOf ps) S c (ordN n (relOf ps) n)).length : Int) → ∀ (H' : Hp) (p ml : Addr), ExtN H H' → Tabs TL H' → H ml = none → H' ml = some (.lst (nL (plR n h (relOf ps) S c (ordN n (relOf ps) n)))) → H' p = some (.tup [.str "told", .ref ml]) → Q (.ref p) H')))
theorem ok__law_told (T : Txt K mg C) (TE : TxH K mg CE CS CI CG) {f : Addr} {fd : FuncData} (F : Fun K "_law_told" "_law_told" s__law_told f fd) (c_normal_run : KwCalD P w K mg base "normal_run" 7 3 "limit" (.int 1000) (spNormalRun C CT CS CI CG TL)) : GOk P w K mg base CX0 8 f fd ["home", "first", "tally", "cap"] (spTold33 C CT TL) := by
  refine F.okG sc__law_told (fun vs H Q E h => ?_) (fun cdv A gA outer s H vs Q E hr h => ?_)
  · obtain ⟨x, n, h, ps, v, d, y, dy, gs, tt, m, c, cap, lim, rfl, _⟩ := h; rfl
  · obtain ⟨x, n, h, ps, v, d, y, dy, gs, tt, m, c, cap, lim, rfl, lv, hT, hs, n16, h1, h10, hR, od, hy, hl, htt, pos, m40, cb, sb, bad, good⟩ := h
    have rg : RG (A.deeper (envOfC "_law_told" (defScope s__law_told) s.heap.objs.size f cdv)) := ⟨gA, hr.u100⟩
    have lt : ∀ {G : Hp}, G tt = some (.tup (cL m c)) → Lf2 G (.ref tt) (dCn m c) := fun e => cn_lf e m40 cb
    have lz : ∀ {G : Hp}, Lf2 G (.int (sumN n c)) (.int (sumN n c)) := .lf (.int _ sb)
    refine ⟨_, (pss_one (ps_try_hds rfl rfl sc__law_told.nd (fun W pn xe tk _ => (pss_cons (ps_if (pt_cmpR op_isN (pv 3) pe_non (nomark _)) (pss_one (ps_ret (pe_tup (pa_cons pe_str (pa_cons (pe_kd0W c_normal_run tk (hr.mono (by decide)) (pa_cons (pv 0) (pa_cons (pv 1) (pa_cons (pv 2) pa_nil)))) pa_nil))))) pss_nil) (pss_one (ps_ret (pe_tup (pa_cons pe_str (pa_cons (pe_kd1W c_normal_run tk (hr.mono (by decide)) (pa_cons (pv 0) (pa_cons (pv 1) (pa_cons (pv 2) pa_nil))) (pk_cons (pv 3) pk_nil)) pa_nil))))))) (.cons (i := 5) rfl rfl ⟨rfl, by decide, Or.inl TE.gS⟩ (fun a oe cls d pn hz hf => (pss_cons (ps_set (i := 4) sc__law_told.nd rfl (by first | exact Or.inl rfl | exact Or.inr rfl) (pe_and (pe_callB (cr_isX TE.xS TE.xg hz hf) (by rfl) T.isinstance b_isinstance (pa_cons (pv 5) (pa_cons (pe_glob (v := .ref CE) (by rfl) TE.gE rfl) pa_nil))) (pe_one (pe_not (pe_callB (cr_isX TE.xS TE.xg hz hf) (by rfl) T.isinstance b_isinstance (pa_cons (pv 5) (pa_cons (pe_tup (pa_cons (pe_glob (v := .ref CI) (by rfl) TE.gI rfl) (pa_cons (pe_glob (v := .ref CG) (by rfl) TE.gG rfl) pa_nil))) pa_nil))))))) (pss_one (ps_ret (pe_tup (pa_cons pe_str (pa_cons (pe_callB (cr_reprS rg) (by rfl) T.repr b_repr (pa_cons (pe_xf TE.xS.xf TE.nS hz hf (pv 5)) pa_nil)) (pa_cons (pv 4) pa_nil)))))))) (.cons (i := 5) rfl rfl ⟨rfl, by decide, Or.inl TE.gI⟩ (fun a oe cls d pn hz hf => (pss_cons (ps_set (i := 4) sc__law_told.nd rfl (by first | exact Or.inl rfl | exact Or.inr rfl) (pe_and (pe_callB (cr_isX TE.xI TE.xg hz hf) (by rfl) T.isinstance b_isinstance (pa_cons (pv 5) (pa_cons (pe_glob (v := .ref CE) (by rfl) TE.gE rfl) pa_nil))) (pe_one (pe_not (pe_callB (cr_isX TE.xI TE.xg hz hf) (by rfl) T.isinstance b_isinstance (pa_cons (pv 5) (pa_cons (pe_tup (pa_cons (pe_glob (v := .ref CS) (by rfl) TE.gS rfl) (pa_cons (pe_glob (v := .ref CG) (by rfl) TE.gG rfl) pa_nil))) pa_nil))))))) (pss_one (ps_ret (pe_tup (pa_cons pe_str (pa_cons (pe_callB (cr_reprS rg) (by rfl) T.repr b_repr (pa_cons (pe_xf TE.xI.xf TE.nI hz hf (pv 5)) pa_nil)) (pa_cons (pv 4) pa_nil)))))))) (.cons (i := 5) rfl rfl ⟨rfl, by decide, Or.inl TE.gG⟩ (fun a oe cls d pn hz hf => (pss_cons (ps_set (i := 4) sc__law_told.nd rfl (by first | exact Or.inl rfl | exact Or.inr rfl) (pe_and (pe_callB (cr_isX TE.xG TE.xg hz hf) (by rfl) T.isinstance b_isinstance (pa_cons (pv 5) (pa_cons (pe_glob (v := .ref CE) (by rfl) TE.gE rfl) pa_nil))) (pe_one (pe_not (pe_callB (cr_isX TE.xG TE.xg hz hf) (by rfl) T.isinstance b_isinstance (pa_cons (pv 5) (pa_cons (pe_tup (pa_cons (pe_glob (v := .ref CS) (by rfl) TE.gS rfl) (pa_cons (pe_glob (v := .ref CI) (by rfl) TE.gI rfl) pa_nil))) pa_nil))))))) (pss_one (ps_ret (pe_tup (pa_cons pe_str (pa_cons (pe_callB (cr_reprS rg) (by rfl) T.repr b_repr (pa_cons (pe_xf TE.xG.xf TE.nG hz hf (pv 5)) pa_nil)) (pa_cons (pv 4) pa_nil)))))))) .nil))))), ?_⟩
    rcases lv with rfl | ⟨rfl, rfl⟩
    · refine ⟨_, rfl, rfl, _, rfl, iteF ?_⟩
      refine ⟨_, rfl, _, rfl, _, rfl, _, rfl, rfl, rfl, x, n, h, ps, v, d, y, dy, gs, tt, m, c, lim, rfl, hT, hs, n16, h1, h10, hR, od, hy, hl, htt, pos, fun hb => fun dd H1 nd s1 hd => ⟨true, TE.eSS, fun _ a na => ?_, fun q => Bool.noConfusion q⟩, fun t S ev ht okS => ?_⟩
      · refine ⟨_, rfl, rfl, ⟨dd, _, rfl, hd⟩, .inl ⟨CE, true, rfl, TE.kSE, true, rfl, iteT ?_⟩⟩
        refine ⟨_, rfl, by show 2 ≤ sizeLine; decide, fun tp np => ?_⟩
        have sp := same_new (o := .tup [.ref CI, .ref CG]) np
        have hd2 := sp _ _ hd
        refine ⟨rfl, ⟨dd, _, rfl, hd2⟩, .inr (.inr ⟨tp, [CI, CG], false, rfl, upd_same, TE.kS2, false, rfl, ?_⟩)⟩
        refine ⟨_, rfl, rfl, rfl, dd, _, v, rfl, hd2, rfl, ?_⟩
        dsimp only [tNil]
        refine (od.same (s1.trans sp)).repr ?_
        exact ⟨_, rfl, by show 3 ≤ sizeLine; decide, fun p np2 => bad hb p _ ((s1.trans sp).trans (same_new np2)) upd_same⟩
      obtain ⟨wr, q⟩ := good t S ev ht okS
      refine ⟨fun ne => fun dd H1 nd s1 hd => ⟨false, TE.eIS, fun q => Bool.noConfusion q, fun _ => ⟨true, TE.eII, fun _ a na => ?_, fun q => Bool.noConfusion q⟩⟩, fun e => ⟨fun gt => fun dd H1 nd s1 hd => ⟨false, TE.eGS, fun q => Bool.noConfusion q, fun _ => ⟨false, TE.eGI, fun q => Bool.noConfusion q, fun _ => ⟨true, TE.eGG, fun _ a na => ?_, fun q => Bool.noConfusion q⟩⟩⟩, fun le => ⟨((q e).2 le).1, fun less => fun dd H1 e1 t1 hd => ⟨false, TE.eIS, fun q => Bool.noConfusion q, fun _ => ⟨true, TE.eII, fun _ a na => ?_, fun q => Bool.noConfusion q⟩⟩, fun all H1 ml e1 t1 nm hm => ⟨by show 2 ≤ sizeLine; decide, fun p np => ?_⟩⟩⟩⟩
      · refine ⟨_, rfl, rfl, ⟨dd, _, rfl, hd⟩, .inl ⟨CE, true, rfl, TE.kIE, true, rfl, iteT ?_⟩⟩
        refine ⟨_, rfl, by show 2 ≤ sizeLine; decide, fun tp np => ?_⟩
        have sp := same_new (o := .tup [.ref CS, .ref CG]) np
        have hd2 := sp _ _ hd
        refine ⟨rfl, ⟨dd, _, rfl, hd2⟩, .inr (.inr ⟨tp, [CS, CG], false, rfl, upd_same, TE.kI2, false, rfl, ?_⟩)⟩
        refine ⟨_, rfl, rfl, rfl, dd, _, .ref tt, rfl, hd2, rfl, ?_⟩
        dsimp only [tNil]
        refine (lt ((s1.trans sp) _ _ htt)).repr ?_
        exact ⟨_, rfl, by show 3 ≤ sizeLine; decide, fun p np2 => wr ne p _ ((s1.trans sp).trans (same_new np2)) upd_same⟩
      · refine ⟨_, rfl, rfl, ⟨dd, _, rfl, hd⟩, .inl ⟨CE, true, rfl, TE.kGE, true, rfl, iteT ?_⟩⟩
        refine ⟨_, rfl, by show 2 ≤ sizeLine; decide, fun tp np => ?_⟩
        have sp := same_new (o := .tup [.ref CS, .ref CI]) np
        have hd2 := sp _ _ hd
        refine ⟨rfl, ⟨dd, _, rfl, hd2⟩, .inr (.inr ⟨tp, [CS, CI], false, rfl, upd_same, TE.kG2, false, rfl, ?_⟩)⟩
        refine ⟨_, rfl, rfl, rfl, dd, _, .int (sumN n c), rfl, hd2, rfl, ?_⟩
        dsimp only [tNil]
        refine (lz).repr ?_
        exact ⟨_, rfl, by show 3 ≤ sizeLine; decide, fun p np2 => (q e).1 gt p _ ((s1.trans sp).trans (same_new np2)) upd_same⟩
      · refine ⟨_, rfl, rfl, ⟨dd, _, rfl, hd⟩, .inl ⟨CE, true, rfl, TE.kIE, true, rfl, iteT ?_⟩⟩
        refine ⟨_, rfl, by show 2 ≤ sizeLine; decide, fun tp np => ?_⟩
        have sp := same_new (o := .tup [.ref CS, .ref CG]) np
        have hd2 := sp _ _ hd
        refine ⟨rfl, ⟨dd, _, rfl, hd2⟩, .inr (.inr ⟨tp, [CS, CG], false, rfl, upd_same, TE.kI2, false, rfl, ?_⟩)⟩
        refine ⟨_, rfl, rfl, rfl, dd, _, .ref tt, rfl, hd2, rfl, ?_⟩
        dsimp only [tNil]
        refine (lt (sp _ _ (e1 _ _ htt (fun _ y => nomatch y)))).repr ?_
        exact ⟨_, rfl, by show 3 ≤ sizeLine; decide, fun p np2 => ((q e).2 le).2.1 less p _ (e1.trans (ExtN.of (sp.trans (same_new np2)))) (t1.ext (sp.trans (same_new np2))) upd_same⟩
      · have sn := same_new (o := .tup [.str "told", .ref ml]) np
        exact ((q e).2 le).2.2 all _ p ml (e1.trans (ExtN.of sn)) (t1.ext sn) nm (sn _ _ hm) upd_same
    · refine ⟨_, rfl, rfl, _, rfl, iteT ?_⟩
      refine ⟨_, rfl, _, rfl, _, rfl, x, n, h, ps, v, d, y, dy, gs, tt, m, c, 1000, rfl, hT, hs, n16, h1, h10, hR, od, hy, hl, htt, pos, fun hb => fun dd H1 nd s1 hd => ⟨true, TE.eSS, fun _ a na => ?_, fun q => Bool.noConfusion q⟩, fun t S ev ht okS => ?_⟩
      · refine ⟨_, rfl, rfl, ⟨dd, _, rfl, hd⟩, .inl ⟨CE, true, rfl, TE.kSE, true, rfl, iteT ?_⟩⟩
        refine ⟨_, rfl, by show 2 ≤ sizeLine; decide, fun tp np => ?_⟩
        have sp := same_new (o := .tup [.ref CI, .ref CG]) np
        have hd2 := sp _ _ hd
        refine ⟨rfl, ⟨dd, _, rfl, hd2⟩, .inr (.inr ⟨tp, [CI, CG], false, rfl, upd_same, TE.kS2, false, rfl, ?_⟩)⟩
        refine ⟨_, rfl, rfl, rfl, dd, _, v, rfl, hd2, rfl, ?_⟩
        dsimp only [tNil]
        refine (od.same (s1.trans sp)).repr ?_
        exact ⟨_, rfl, by show 3 ≤ sizeLine; decide, fun p np2 => bad hb p _ ((s1.trans sp).trans (same_new np2)) upd_same⟩
      obtain ⟨wr, q⟩ := good t S ev ht okS
      refine ⟨fun ne => fun dd H1 nd s1 hd => ⟨false, TE.eIS, fun q => Bool.noConfusion q, fun _ => ⟨true, TE.eII, fun _ a na => ?_, fun q => Bool.noConfusion q⟩⟩, fun e => ⟨fun gt => fun dd H1 nd s1 hd => ⟨false, TE.eGS, fun q => Bool.noConfusion q, fun _ => ⟨false, TE.eGI, fun q => Bool.noConfusion q, fun _ => ⟨true, TE.eGG, fun _ a na => ?_, fun q => Bool.noConfusion q⟩⟩⟩, fun le => ⟨((q e).2 le).1, fun less => fun dd H1 e1 t1 hd => ⟨false, TE.eIS, fun q => Bool.noConfusion q, fun _ => ⟨true, TE.eII, fun _ a na => ?_, fun q => Bool.noConfusion q⟩⟩, fun all H1 ml e1 t1 nm hm => ⟨by show 2 ≤ sizeLine; decide, fun p np => ?_⟩⟩⟩⟩
      · refine ⟨_, rfl, rfl, ⟨dd, _, rfl, hd⟩, .inl ⟨CE, true, rfl, TE.kIE, true, rfl, iteT ?_⟩⟩
        refine ⟨_, rfl, by show 2 ≤ sizeLine; decide, fun tp np => ?_⟩
        have sp := same_new (o := .tup [.ref CS, .ref CG]) np
        have hd2 := sp _ _ hd
        refine ⟨rfl, ⟨dd, _, rfl, hd2⟩, .inr (.inr ⟨tp, [CS, CG], false, rfl, upd_same, TE.kI2, false, rfl, ?_⟩)⟩
        refine ⟨_, rfl, rfl, rfl, dd, _, .ref tt, rfl, hd2, rfl, ?_⟩
        dsimp only [tNil]
        refine (lt ((s1.trans sp) _ _ htt)).repr ?_
        exact ⟨_, rfl, by show 3 ≤ sizeLine; decide, fun p np2 => wr ne p _ ((s1.trans sp).trans (same_new np2)) upd_same⟩
      · refine ⟨_, rfl, rfl, ⟨dd, _, rfl, hd⟩, .inl ⟨CE, true, rfl, TE.kGE, true, rfl, iteT ?_⟩⟩
        refine ⟨_, rfl, by show 2 ≤ sizeLine; decide, fun tp np => ?_⟩
        have sp := same_new (o := .tup [.ref CS, .ref CI]) np
        have hd2 := sp _ _ hd
        refine ⟨rfl, ⟨dd, _, rfl, hd2⟩, .inr (.inr ⟨tp, [CS, CI], false, rfl, upd_same, TE.kG2, false, rfl, ?_⟩)⟩
        refine ⟨_, rfl, rfl, rfl, dd, _, .int (sumN n c), rfl, hd2, rfl, ?_⟩
        dsimp only [tNil]
        refine (lz).repr ?_
        exact ⟨_, rfl, by show 3 ≤ sizeLine; decide, fun p np2 => (q e).1 gt p _ ((s1.trans sp).trans (same_new np2)) upd_same⟩
      · refine ⟨_, rfl, rfl, ⟨dd, _, rfl, hd⟩, .inl ⟨CE, true, rfl, TE.kIE, true, rfl, iteT ?_⟩⟩
        refine ⟨_, rfl, by show 2 ≤ sizeLine; decide, fun tp np => ?_⟩
        have sp := same_new (o := .tup [.ref CS, .ref CG]) np
        have hd2 := sp _ _ hd
        refine ⟨rfl, ⟨dd, _, rfl, hd2⟩, .inr (.inr ⟨tp, [CS, CG], false, rfl, upd_same, TE.kI2, false, rfl, ?_⟩)⟩
        refine ⟨_, rfl, rfl, rfl, dd, _, .ref tt, rfl, hd2, rfl, ?_⟩
        dsimp only [tNil]
        refine (lt (sp _ _ (e1 _ _ htt (fun _ y => nomatch y)))).repr ?_
        exact ⟨_, rfl, by show 3 ≤ sizeLine; decide, fun p np2 => ((q e).2 le).2.1 less p _ (e1.trans (ExtN.of (sp.trans (same_new np2)))) (t1.ext (sp.trans (same_new np2))) upd_same⟩
      · have sn := same_new (o := .tup [.str "told", .ref ml]) np
        exact ((q e).2 le).2.2 all _ p ml (e1.trans (ExtN.of sn)) (t1.ext sn) nm (sn _ _ hm) upd_same
end
end Hue

end
section
set_option maxRecDepth 100000
set_option maxHeartbeats 8000000
namespace Hue
open PySem PySem.Spec PyProof.Rows L2 LamA LamX
section
variable {P : Program} {w : World} {K : PySem.W.Frag} {mg : Str → Option Value} {base : Heap} {C CT CE CS CL CR CG CI : Addr} {TL : List (Addr × Str)}
theorem nL_cL24 (ms : List Nat) : nL ms = cL ms.length (fun i => ((ms.getD i 0 : Nat) : Int)) := by
  refine List.ext_getElem? fun i => ?_
  by_cases hi : i < ms.length
  · rw [cL_get hi, nL_get (List.getElem?_eq_getElem hi), List.getD_eq_getElem?_getD, List.getElem?_eq_getElem hi]; rfl
  · rw [List.getElem?_eq_none (by rw [nL_len]; omega), List.getElem?_eq_none (by rw [cL_len]; omega)]
theorem tabs_upd {T : List (Addr × Str)} {H : Hp} {a : Addr} {xs : List V} {o : HO} (t : Tabs T H) (e : H a = some (.lst xs)) : Tabs T (L2.upd H a o) := fun p hp => by
  obtain ⟨ps, h1, h2, h3⟩ := t p hp
  refine ⟨ps, by rw [upd_ne fun z => by rw [z, e] at h1; cases h1]; exact h1, h2, fun pos cv hc => ?_⟩
  obtain ⟨c, e1, e2⟩ := h3 pos cv hc
  exact ⟨c, e1, by rw [upd_ne fun z => by rw [z, e] at e2; unfold CodeO at e2; cases e2]; exact e2⟩
theorem fit_run {n h : Nat} {R : Rel} {S D : List Int} {c : Nat → Int} (h1 : 1 ≤ h) (hR : Ranked R) (okS : StOk n h S) (okD : StOk n h D) (fi : Fits n h R S D c) : Run n h R false S (plR n h R S c (ordN n R n)) D ∧ ((plR n h R S c (ordN n R n)).length : Int) = sumN n c ∧ ∀ v, v < n → cntN (plR n h R S c (ordN n R n)) v = c v := by
  obtain ⟨olen, ook⟩ := ordN_ok (n := n) hR n (Nat.le_refl n)
  obtain ⟨run, cnt⟩ := plR_run h1 okS okD fi.pos fi.fit fi.bd ook fun v vn => ord_all hR vn
  refine ⟨run, ?_, cnt⟩
  have lt : ∀ m ∈ plR n h R S c (ordN n R n), m < n := by
    generalize plR n h R S c (ordN n R n) = ms at run
    clear cnt fi
    induction run with
    | nil S => exact fun m hm => absurd hm List.not_mem_nil
    | cons l _ ih => exact fun m hm => (List.mem_cons.mp hm).elim (fun e => by rw [e]; exact l.1) fun e => ih (movS_ok h1 _) okD m e
  rw [len_cnt _ lt]
  exact sumN_congr fun v vn => cnt v vn
theorem fit_few {n h : Nat} {R : Rel} {S : List Int} {c : Nat → Int} (h1 : 1 ≤ h) (hR : Ranked R) (okS : StOk n h S) (pos : ∀ v, v < n → 0 ≤ c v) (few : sumN n c ≤ 100000) (k : Nat) : (plR n h R S c ((ordN n R n).take k)).length ≤ 100000 := by
  have a := plR_short h1 okS pos (ordN_ok (n := n) hR n (Nat.le_refl n)).2 k
  have : sumN n (fun v => mnI (c v) (at_ S v + ((h : Int) - 1) * bur n R c v)) ≤ sumN n c := sumN_le fun v _ => by unfold mnI; split <;> omega
  omega
abbrev s__law_good : Stmt := top 58
theorem sc__law_good : FnScope ["told", "base", "low", "first", "lot", "now", "lamp"] ["told", "base", "low", "first", "lot"] (defScope s__law_good) := ⟨rfl, rfl, rfl, by decide +kernel, rfl, by decide +kernel, by decide +kernel⟩
-- slots of _law_good: 0 told, 1 base, 2 low, 3 first, 4 lot, 5 now, 6 lamp
def spGood33 (C : Addr) : Sp := fun vs H Q _ => ∃ (p ml x lw ln t o : Addr) (n h : Nat) (ps : List (Nat × Nat)) (line : List Nat) (S : List Int) (c : Nat → Int), vs = [.ref p, .int h, .ref lw, .ref t, .ref o] ∧ AU C H x lw ln t n h ps line S ∧ (∀ v, v < n → 0 ≤ c v) ∧ (∀ v, v < n → c v ≤ at_ S v + ((h : Int) - 1) * bur n (relOf ps) c v) ∧ sumN n c ≤ 2000 ∧ H p = some (.tup [.str "told", .ref ml]) ∧ H ml = some (.lst (nL (plR n h (relOf ps) S c (ordN n (relOf ps) n)))) ∧ H o = some (.lst (cL n c)) ∧ ∀ H', Same H H' → Q (.bl true) H'
theorem ok__law_good (T : Txt K mg C) {f : Addr} {fd : FuncData} (F : Fun K "_law_good" "_law_good" s__law_good f fd) (c__law_row : Cal P w K mg base "_law_row" 2 spRow) (c__law_normal : Cal P w K mg base "_law_normal" 2 spNormal) (c__law_tallied : Cal P w K mg base "_law_tallied" 1 spTallied) (c__law_moved : Cal P w K mg base "_law_moved" 1 spMoved) (c__law_due_fits : Cal P w K mg base "_law_due_fits" 1 spDueFits) : FnOk P w K mg base CX0 3 f fd ["told", "base", "low", "first", "lot"] (spGood33 C) := by
  refine F.ok sc__law_good (fun vs H Q E h => ?_) (fun cdv A outer s H vs Q E hr h => ?_)
  · obtain ⟨p, ml, x, lw, ln, t, o, n, h, ps, line, S, c, rfl, _⟩ := h; rfl
  · obtain ⟨p, ml, x, lw, ln, t, o, n, h, ps, line, S, c, rfl, W, pos, bd, few, hp, hm, ho, q⟩ := h
    have n16 := W.n16
    have h1 := W.h1
    have h10 := W.h10
    have hR := W.hR
    have okS := W.okS
    have okD := endS_ok (n := n) (h := h) (R := relOf ps) (S := S) (c := c) h1
    have fi := fits_end (R := relOf ps) (S := S) h1 pos bd
    generalize hD : endS n h (relOf ps) S c = D at okD fi
    obtain ⟨run, rlen, cnt⟩ := fit_run h1 hR okS okD fi
    have ec : cL n c = ((List.range n).map c).map V.int := by unfold cL; rw [List.map_map]; rfl
    have p0 : atI [V.str "told", V.ref ml] ((0 : Nat) : Int) = some (V.str "told") := atI_nat rfl
    have p1 : atI [V.str "told", V.ref ml] ((1 : Nat) : Int) = some (V.ref ml) := atI_nat rfl
    refine ⟨_, (pss_cons (ps_if (PW.pt (pw_or (pt_cmpR op_ne (pe_ix (ixT_ K) (pv 0) pe_int (fun _ _ => rfl)) pe_str (nomark _)) (pw_or1 (pt_not (pt_val (pe_cal c__law_row (hr.mono (by decide)) (pa_cons (pe_ix (ixT_ K) (pv 0) pe_int (fun _ _ => rfl)) (pa_cons (pe_cal c__law_normal (hr.mono (by decide)) (pa_cons (pv 1) (pa_cons (pv 2) (pa_cons (pv 3) (pa_cons (pv 4) pa_nil))))) pa_nil))))))))
      (pss_one (ps_ret pe_bl)) pss_nil)
      (pss_cons (ps_if (pt_cmpR (hu_neD K hr.units) (pe_cal c__law_tallied (hr.mono (by decide)) (pa_cons (pe_callB (lenS_ K) (by rfl) T.len b_len (pa_cons (pv 4) pa_nil)) (pa_cons (pe_ix (ixT_ K) (pv 0) pe_int (fun _ _ => rfl)) pa_nil))) (pv 4) (nomark _))
      (pss_one (ps_ret pe_bl)) pss_nil)
      (pss_cons (ps_set (i := 5) sc__law_good.nd rfl (by first | exact Or.inl rfl | exact Or.inr rfl) (pe_callTy (lstOf_ K) (by rfl) T.list b_list (pa_cons (pv 3) pa_nil)))
      (pss_cons (ps_for PassesOwn.never rfl (pil_ K (pe_ix (ixT_ K) (pv 0) pe_int (fun _ _ => rfl))) (pg_name (i := 6) sc__law_good.nd rfl (by first | exact Or.inl rfl | exact Or.inr rfl))
      (pss_cons (ps_if (pt_cmpR op_eq (pe_ix (ixL_ K) (pv 5) (pv 6) (fun _ _ => rfl)) pe_int (nomark _))
      (pss_one (ps_ret pe_bl)) pss_nil)
      (pss_one (ps_set (i := 5) sc__law_good.nd rfl (by first | exact Or.inl rfl | exact Or.inr rfl) (pe_cal c__law_moved (hr.mono (by decide)) (pa_cons (pv 1) (pa_cons (pv 2) (pa_cons (pv 5) (pa_cons (pv 6) pa_nil)))))))))
      (pss_one (ps_ret (pe_cal c__law_due_fits (hr.mono (by decide)) (pa_cons (pv 1) (pa_cons (pv 2) (pa_cons (pv 3) (pa_cons (pe_callTy (tupOf_ K) (by rfl) T.tuple b_tuple (pa_cons (pv 5) pa_nil)) (pa_cons (pv 4) pa_nil)))))))))))), ?_⟩
    rw [show L2.start ["told", "base", "low", "first", "lot", "now", "lamp"] [V.ref p, V.int (h : Nat), V.ref lw, V.ref t, V.ref o] = [some (.ref p), some (.int (h : Nat)), some (.ref lw), some (.ref t), some (.ref o), none, none] from rfl]
    refine ⟨_, rfl, p, _, _, _, rfl, rfl, SqT.of hp, p0, rfl, _, rfl, ite2 (fun z => ?_) fun _ => ?_⟩
    · rw [decide_eq_true rfl] at z; cases z
    refine ⟨_, rfl, p, _, _, _, rfl, rfl, SqT.of hp, p1, _, rfl, _, rfl, _, rfl, _, rfl, lw, t, o, n, h, relOf ps, S, D, c, rfl, n16, h1, h10, hR, W.tb, W.ht, okS, okD, ho, fi, by omega, fun H1 du s1 ndu hdu => ?_⟩
    have hm1 := s1 _ _ hm
    generalize hms : plR n h (relOf ps) S c (ordN n (relOf ps) n) = ms at run rlen hdu hm hm1 cnt
    have lm : ms.length ≤ 100000 := by omega
    refine ⟨ml, du, ms.length, _, rfl, lm, by rw [← nL_cL24]; exact hm1, by rw [← nL_cL24]; exact hdu, fun H2 s2 => ⟨true, rfl, iteF ?_⟩⟩
    have s02 := s1.trans s2
    have hp2 := s02 _ _ hp
    have hm2 := s02 _ _ hm
    have ho2 := s02 _ _ ho
    refine ⟨_, rfl, o, _, rfl, .inl (SqL.of ho2), _, rfl, p, _, _, _, rfl, rfl, SqT.of hp2, p1, ml, n, ms, by rw [cL_len], n16, hm2, fun H3 tl s3 ntl htl => ?_⟩
    rw [cL_congr cnt] at htl
    have ho3 := s3 _ _ ho2
    rw [ec] at htl
    have ho3' : H3 o = some (.lst (((List.range n).map c).map V.int)) := by rw [← ec]; exact ho3
    refine ⟨_, rfl, _, _, .lst (SqL.of htl) (ints_dp _), .lst (SqL.of ho3') (ints_dp _), il_shaped _, il_shaped _, ?_⟩
    rw [il_eqv, decide_eq_true rfl]
    refine ⟨_, rfl, iteF ?_⟩
    have s03 := s02.trans s3
    have W3 := W.same s03
    have hp3 := s03 _ _ hp
    have hm3 := s03 _ _ hm
    clear htl s02 s3 s2 s1 hp2 hm2 hm1 ho2 hdu
    refine ⟨_, rfl, t, _, rfl, .inr (SqT.of W3.ht), fun a na => ?_⟩
    have s4 : Same H3 (L2.upd H3 a (.lst (stV S))) := same_new na
    have ha : (L2.upd H3 a (.lst (stV S))) a = some (.lst (stV S)) := upd_same
    generalize L2.upd H3 a (.lst (stV S)) = H4 at s4 ha ⊢
    refine ⟨_, rfl, p, _, _, _, rfl, rfl, SqT.of (s4 _ _ hp3), p1, ml, rfl, ⟨_, SqL.of (s4 _ _ hm3)⟩, ?_⟩
    refine for_list (K := K) (a := ml) (xs := nL ms) (fun i σ G => ∃ (a : Addr) (v6 : Option V) (S2 : List Int), σ = [some (.ref p), some (.int (h : Nat)), some (.ref lw), some (.ref t), some (.ref o), some (.ref a), v6] ∧ Same H3 G ∧ G a = some (.lst (stV S2)) ∧ StOk n h S2 ∧ Run n h (relOf ps) false S2 (ms.drop i) D) ⟨a, _, S, rfl, s4, ha, okS, run⟩ (fun i σ G _ ⟨_, _, _, _, s, _⟩ => SqL.of (s _ _ hm3)) ?_ ?_
    · rintro i y σ G hy ⟨a, v6, S2, rfl, sG, ga, ok2, run2⟩
      obtain ⟨k, hk, rfl⟩ := nL_it2 hy
      obtain ⟨il, ek⟩ := List.getElem?_eq_some_iff.mp hk
      rw [List.drop_eq_getElem_cons il, ek] at run2
      cases run2 with
      | cons l run3 =>
        obtain ⟨kn, lit, dark⟩ := l
        refine ⟨_, rfl, _, rfl, a, _, _, _, rfl, rfl, SqL.of ga, atI_nat (ok2.get kn), rfl, _, rfl, ite2 (fun z => ?_) fun _ => ?_⟩
        · have z := of_decide_eq_true z; injection z with z; omega
        exact ⟨_, rfl, _, rfl, _, rfl, _, rfl, lw, a, n, h, k, relOf ps, S2, rfl, n16, h1, h10, W3.tb.same sG, ga, ok2, kn, fun G3 a2 s3 na2 ha2 => ⟨a2, _, _, rfl, sG.trans s3, ha2, movS_ok h1 k, run3⟩⟩
    · rintro σ G ⟨a, v6, S2, rfl, sG, ga, ok2, run2⟩
      rw [nL_len, List.drop_length] at run2
      cases run2
      refine ⟨_, rfl, _, rfl, _, rfl, _, rfl, a, _, rfl, .inl ⟨SqL.of ga, fun t2 nt => ?_⟩⟩
      have sn := same_new (o := .tup (stV D)) nt
      have WG := (W3.same sG).same sn
      refine ⟨_, rfl, lw, ln, t, t2, o, n, h, relOf ps, line, S, D, c, rfl, ⟨WG.tb, WG.hl, WG.ok, WG.all, WG.len, WG.ht, upd_same, okS, okD, n16, h1, h10⟩, (sG.trans sn) _ _ ho3, fun v vn => ?_, fi.bd, fun H' s' => q H' (s03.trans ((sG.trans sn).trans s'))⟩
      obtain ⟨m, e⟩ := fi.fit v vn
      rw [show c v - at_ S v + at_ D v + bur n (relOf ps) c v = (h : Int) * m from by omega, Int.mul_emod_right]
end
end Hue

end
section
set_option maxRecDepth 100000
set_option maxHeartbeats 8000000
namespace Hue
open PySem PySem.Spec PyProof.Rows L2 LamA LamX
section
variable {P : Program} {w : World} {K : PySem.W.Frag} {mg : Str → Option Value} {base : Heap} {C CT CE CS CL CR CG CI : Addr} {TL : List (Addr × Str)}
theorem sumN_at {n : Nat} {f : Nat → Int} (p : ∀ v, v < n → 0 ≤ f v) {v : Nat} (vn : v < n) : f v ≤ sumN n f := by
  induction n with
  | zero => exact absurd vn (Nat.not_lt_zero v)
  | succ n ih =>
    rw [sumN_succ]
    have a : 0 ≤ sumN n f := sumN_nonneg fun u un => p u (by omega)
    have b := p n (by omega)
    by_cases e : v = n
    · rw [e]; omega
    · have := ih (fun u un => p u (by omega)) (by omega)
      omega
theorem nat38 {z : Int} (h0 : 0 ≤ z) (h1 : z < 100000000000000000000000000000000000000) : z.natAbs < 10 ^ 38 := by
  have e38 : (10 : Nat) ^ 38 = 100000000000000000000000000000000000000 := by decide
  rw [e38]
  omega
/-- counts within their bounds asked -/
theorem told_fit {H : Hp} {Q : VK} {E : XK} {x lw ln t y dy tt : Addr} {n h : Nat} {ps : List (Nat × Nat)} {line : List Nat} {S : List Int} {gs : List (Str × V)} {c : Nat → Int} {lim : Int} {cap : V} (hT : Tabs TL H) (W : AU C (plH H) x lw ln t n h ps line S) (hy : H y = some (.ins CT dy gs)) (hl : gs.lookup ("counts" : Str) = some (.ref tt)) (htt : H tt = some (.tup (cL n c))) (pos : ∀ v, v < n → 0 ≤ c v) (bd : ∀ v, v < n → c v ≤ at_ S v + ((h : Int) - 1) * bur n (relOf ps) c v) (few : sumN n c ≤ 2000) (lv : LimV cap lim)
    (long : lim < sumN n c → Told "long" (.int (sumN n c)) H Q) (good : sumN n c ≤ lim → ∀ (H' : Hp) (p ml : Addr), ExtN H H' → Tabs TL H' → H ml = none → H' ml = some (.lst (nL (plR n h (relOf ps) S c (ordN n (relOf ps) n)))) → H' p = some (.tup [.str "told", .ref ml]) → Q (.ref p) H') : spTold33 C CT TL [.ref x, .ref t, .ref y, cap] H Q E := by
  have W' := W.same plH_same
  have s0 : 0 ≤ sumN n c := sumN_nonneg pos
  refine ⟨x, n, h, ps, .ref t, stD S, y, dy, gs, tt, n, c, cap, lim, rfl, lv, hT, W'.hs, W.n16, W.h1, W.h10, W.hR, HsOk.lf W'.ht W.okS W.n16 W.h10, hy, hl, htt, pos, by have := W.n16; omega, fun v vn => nat38 (pos v vn) (by have := sumN_at pos vn; omega), nat38 s0 (by omega), fun hb => ?_, fun t' S' et ht' okS' => ?_⟩
  · rw [st_stB W.okS] at hb; cases hb
  injection et with et
  subst et
  rw [W'.ht] at ht'
  injection ht' with ht'
  injection ht' with ht'
  have eS := stV_inj ht'
  subst eS
  have fi := fits_end (R := relOf ps) (S := S) W.h1 pos bd
  obtain ⟨run, rlen, cnt⟩ := fit_run W.h1 W.hR W.okS (endS_ok W.h1) fi
  exact ⟨fun ne => absurd rfl ne, fun _ => ⟨long, fun le => ⟨fit_few W.h1 W.hR W.okS pos (by omega), fun lt => by omega, fun _ => good le⟩⟩⟩
abbrev s__law_fitting : Stmt := top 59
theorem sc__law_fitting : FnScope ["home", "base", "low", "first", "lot", "tally", "size", "told", "due"] ["home", "base", "low", "first", "lot"] (defScope s__law_fitting) := ⟨rfl, rfl, rfl, by decide +kernel, rfl, by decide +kernel, by decide +kernel⟩
-- slots of _law_fitting: 0 home, 1 base, 2 low, 3 first, 4 lot, 5 tally, 6 size, 7 told, 8 due
def spFitting (C : Addr) (TL : List (Addr × Str)) : Sp := fun vs H Q _ => ∃ (x lw ln t o : Addr) (n h : Nat) (ps : List (Nat × Nat)) (line : List Nat) (S : List Int) (c : Nat → Int), vs = [.ref x, .int h, .ref lw, .ref t, .ref o] ∧ Tabs TL H ∧ AU C (plH H) x lw ln t n h ps line S ∧ plH H o = some (.lst (cL n c)) ∧ (∀ v, v < n → 0 ≤ c v) ∧ (∀ v, v < n → c v ≤ at_ S v + ((h : Int) - 1) * bur n (relOf ps) c v) ∧ sumN n c ≤ 2000 ∧ ∀ H', ExtN H H' → Tabs TL H' → Q (.bl true) H'
theorem ok__law_fitting (T : Txt K mg C) {f : Addr} {fd : FuncData} (F : Fun K "_law_fitting" "_law_fitting" s__law_fitting f fd) (c_Tally : NCal P w K mg base CT "Tally" 3 (spTInit CT)) (c__law_told : CalG P w K mg base "_law_told" 8 (spTold33 C CT TL)) (c__law_good : Cal P w K mg base "_law_good" 3 (spGood33 C)) (c__law_counts : Cal P w K mg base "_law_counts" 3 (spCountsL CT)) : GOk P w K mg base CX0 9 f fd ["home", "base", "low", "first", "lot"] (spFitting C TL) := by
  refine F.okG sc__law_fitting (fun vs H Q E h => ?_) (fun cdv A gA outer s H vs Q E hr h => ?_)
  · obtain ⟨x, lw, ln, t, o, n, h, ps, line, S, c, rfl, _⟩ := h; rfl
  · obtain ⟨x, lw, ln, t, o, n, h, ps, line, S, c, rfl, hT, W, ho, pos, bd, few, q⟩ := h
    have rg : RG (A.deeper (envOfC "_law_fitting" (defScope s__law_fitting) s.heap.objs.size f cdv)) := ⟨gA, hr.u100⟩
    have n1 := W.n1
    have n16 := W.n16
    have s0 : 0 ≤ sumN n c := sumN_nonneg pos
    have ec : cL n c = ((List.range n).map c).map V.int := by unfold cL; rw [List.map_map]; rfl
    have lz : ∀ {G : Hp}, Lf2 G (.int (sumN n c)) (.int (sumN n c)) := .lf (lf_int (by omega) (by omega))
    have ho' := plH_same _ _ ho
    refine ⟨_, (pss_cons (ps_set (i := 5) sc__law_fitting.nd rfl (by first | exact Or.inl rfl | exact Or.inr rfl) (pe_ncal c_Tally (hr.mono (by decide)) (pa_cons (pe_callTy (lstOf_ K) (by rfl) T.list b_list (pa_cons (pv 4) pa_nil)) pa_nil)))
      (pss_cons (ps_set (i := 6) sc__law_fitting.nd rfl (by first | exact Or.inl rfl | exact Or.inr rfl) (pe_callB (sum_ K rfl) (by rfl) T.sum b_sum (pa_cons (pv 4) pa_nil)))
      (C8.pss_cut (ps_set (i := 7) sc__law_fitting.nd rfl (by first | exact Or.inl rfl | exact Or.inr rfl) (pe_calR c__law_told rg (hr.mono (by decide)) (pa_cons (pv 0) (pa_cons (pv 3) (pa_cons (pv 5) (pa_cons pe_non pa_nil))))))
      (C8.pss_cut (ps_if (pt_cmpR op_gt (pv 6) pe_int (nomark _))
      (pss_one (ps_if (pt_cmpR (hu_neD K hr.units) (pv 7) (pe_tup (pa_cons pe_str (pa_cons (pe_callB (cr_reprR rg) (by rfl) T.repr b_repr (pa_cons (pv 6) pa_nil)) (pa_cons pe_bl pa_nil)))) (nomark _))
      (pss_one (ps_ret pe_bl)) pss_nil)) (pss_cons (ps_if (pt_not (pt_val (pe_cal c__law_good (hr.mono (by decide)) (pa_cons (pv 7) (pa_cons (pv 1) (pa_cons (pv 2) (pa_cons (pv 3) (pa_cons (pv 4) pa_nil))))))))
      (pss_one (ps_ret pe_bl)) pss_nil)
      (pss_one (ps_expr (pe_bm PySem.F.plainAttrs_list PySem.F.slot_list_append PySem.F.type_list_append mt_append (pe_ix (ixT_ K) (pv 7) pe_int (fun _ _ => rfl)) (pa_cons pe_int pa_nil))))))
      (pss_cons (ps_if (pt_not (pt_val (pe_cal c__law_good (hr.mono (by decide)) (pa_cons (pe_calR c__law_told rg (hr.mono (by decide)) (pa_cons (pv 0) (pa_cons (pv 3) (pa_cons (pv 5) (pa_cons (pv 6) pa_nil))))) (pa_cons (pv 1) (pa_cons (pv 2) (pa_cons (pv 3) (pa_cons (pv 4) pa_nil))))))))
      (pss_one (ps_ret pe_bl)) pss_nil)
      (C8.pss_cut (ps_if (pt_cmpR op_gt (pv 6) pe_int (nomark _))
      (pss_cons (ps_set (i := 8) sc__law_fitting.nd rfl (by first | exact Or.inl rfl | exact Or.inr rfl) (pe_tup (pa_cons pe_str (pa_cons (pe_callB (cr_reprR rg) (by rfl) T.repr b_repr (pa_cons (pv 6) pa_nil)) (pa_cons pe_bl pa_nil)))))
      (pss_one (ps_if (PW.pt (pw_or (pt_cmpR (hu_neD K hr.units) (pe_calR c__law_told rg (hr.mono (by decide)) (pa_cons (pv 0) (pa_cons (pv 3) (pa_cons (pv 5) (pa_cons (pe_op op_sub (pv 6) pe_int) pa_nil))))) (pv 8) (nomark _)) (pw_or1 (pt_cmpR (hu_neD K hr.units) (pe_calR c__law_told rg (hr.mono (by decide)) (pa_cons (pv 0) (pa_cons (pv 3) (pa_cons (pv 5) (pa_cons pe_int pa_nil))))) (pv 8) (nomark _)))))
      (pss_one (ps_ret pe_bl)) pss_nil))) pss_nil)
      (pss_one (ps_ret (pe_cal c__law_counts (hr.mono (by decide)) (pa_cons (pv 5) (pa_cons (pv 4) pa_nil))))))))))), ?_⟩
    rw [show L2.start ["home", "base", "low", "first", "lot", "tally", "size", "told", "due"] [V.ref x, V.int (h : Nat), V.ref lw, V.ref t, V.ref o] = [some (.ref x), some (.int (h : Nat)), some (.ref lw), some (.ref t), some (.ref o), none, none, none, none] from rfl]
    refine ⟨_, rfl, o, _, rfl, .inl (SqL.of ho'), fun lo nlo => fun tx dtx ntx ndtx nex => ?_⟩
    have s1 : Same H (L2.upd H lo (.lst (cL n c))) := same_new nlo
    have hlo : (L2.upd H lo (.lst (cL n c))) lo = some (.lst (cL n c)) := upd_same
    generalize L2.upd H lo (.lst (cL n c)) = H1 at s1 hlo ntx ndtx ⊢
    have sN : Same H1 (L2.upd (L2.upd H1 dtx (.own tx)) tx (.ins CT dtx [])) := fun b o w => by rw [upd_ne (ne_of_none w ntx), upd_ne (ne_of_none w ndtx)]; exact w
    refine ⟨tx, dtx, lo, (List.range n).map c, rfl, upd_same, sN _ _ (by rw [← ec]; exact hlo), fun w => ?_, by rw [List.length_map, List.length_range]; omega, fun w hw => ?_, fun H2 sb tl => ⟨rfl, ?_⟩⟩
    · have := congrArg List.length w
      rw [List.length_map, List.length_range] at this
      have : n = 0 := this
      omega
    · obtain ⟨v, hv, rfl⟩ := List.mem_map.mp hw
      exact pos v (List.mem_range.mp hv)
    have s2 : Same H H2 := s1.trans fun b o w => sb b o (ne_of_none w ntx) (sN _ _ w)
    clear sb sN hlo s1 nex ntx ndtx
    rw [← ec] at tl
    obtain ⟨dy, gs, tt, hy, hl, htt⟩ := tl
    have T2 := hT.ext s2
    have P2 := W.same (plH_mono s2)
    dsimp only [List.set_cons_succ, List.set_cons_zero]
    refine ⟨_, rfl, o, (List.range n).map c, rfl, SqL.of (by rw [← ec]; exact s2 _ _ ho'), ?_⟩
    show gName 6 (V.int (sumN n c)) _ _ _
    dsimp only [List.set_cons_succ, List.set_cons_zero]
    have st : List (Option V) → Option V → Option V → Prop := fun _ _ _ => True
    refine ⟨fun σ G => ∃ p : Addr, σ = [some (.ref x), some (.int (h : Nat)), some (.ref lw), some (.ref t), some (.ref o), some (.ref tx), some (.int (sumN n c)), some (.ref p), none] ∧ ExtN H2 G ∧ Tabs TL G ∧ ((1000 < sumN n c ∧ G p = some (.tup [.str "long", .str (PyData.int (sumN n c)).shown, .bl true])) ∨ (sumN n c ≤ 1000 ∧ ∃ ml : Addr, H2 ml = none ∧ G p = some (.tup [.str "told", .ref ml]) ∧ G ml = some (.lst (nL (plR n h (relOf ps) S c (ordN n (relOf ps) n)))))), ?_, ?_⟩
    · refine ⟨_, rfl, _, rfl, _, rfl, told_fit (E := E0) T2 P2 hy hl htt pos bd few (.inr ⟨rfl, rfl⟩) (fun lt p3 H3 s3 hp3 => ⟨p3, rfl, ExtN.of s3, T2.ext s3, .inl ⟨lt, hp3⟩⟩) fun le H3 p3 ml e3 T3 nml hml hp3 => ⟨p3, rfl, e3, T3, .inr ⟨le, ml, nml, hp3, hml⟩⟩⟩
    rintro σ G ⟨p, rfl, e2, T3, told⟩
    have P3 := P2.same (plH_ext e2)
    have ho3 := e2 _ _ (s2 _ _ ho') (fun _ y => nomatch y)
    refine ⟨fun σ G => ∃ v7 : Option V, σ = [some (.ref x), some (.int (h : Nat)), some (.ref lw), some (.ref t), some (.ref o), some (.ref tx), some (.int (sumN n c)), v7, none] ∧ ExtN H2 G ∧ Tabs TL G, ?_, ?_⟩
    · refine ⟨_, rfl, _, _, rfl, rfl, _, rfl, ite2 (fun gt => ?_) fun ngt => ?_⟩
      · have gt : 1000 < sumN n c := of_decide_eq_true gt
        rcases told with ⟨_, hp⟩ | ⟨le, _⟩
        · refine ⟨_, rfl, _, rfl, ?_⟩
          dsimp only [tNil]
          refine lz.repr ?_
          exact ⟨by show 3 ≤ sizeLine; decide, fun pn npn => told_ne (same_new npn _ _ hp) upd_same (SOk.of "long") (SOk.int _) ⟨_, rfl, iteF ⟨_, rfl, e2.trans (ExtN.of (same_new npn)), T3.ext (same_new npn)⟩⟩⟩
        · omega
      · have ngt : ¬ 1000 < sumN n c := fun y => ngt (decide_eq_true y)
        rcases told with ⟨lt, _⟩ | ⟨le, ml, nml, hp, hml⟩
        · omega
        · refine ⟨_, rfl, _, rfl, _, rfl, _, rfl, _, rfl, p, ml, x, lw, ln, t, o, n, h, ps, line, S, c, rfl, P3.same plH_same, pos, bd, few, hp, hml, ho3, fun G4 s4 => ⟨true, rfl, iteF ?_⟩⟩
          have p1 : atI [V.str "told", V.ref ml] ((1 : Nat) : Int) = some (V.ref ml) := atI_nat rfl
          have hm4 := s4 _ _ hml
          have fi := fits_end (R := relOf ps) (S := S) W.h1 pos bd
          obtain ⟨run, rlen, cnt⟩ := fit_run W.h1 W.hR W.okS (endS_ok W.h1) fi
          generalize plR n h (relOf ps) S c (ordN n (relOf ps) n) = ms at hml hm4 rlen
          refine ⟨_, rfl, p, _, _, _, rfl, rfl, SqT.of (s4 _ _ hp), p1, .inl ⟨rfl, _, SqL.of hm4⟩, ml, _, _, rfl, rfl, hm4, by rw [nL_len, sizeLine_eq]; omega, _, rfl, fun b o e n => ?_, tabs_upd (T3.ext s4) hm4⟩
          rw [upd_ne (ne_of_none e nml)]
          exact (e2.trans (ExtN.of s4)) b o e n
    clear told P3 ho3 T3 e2
    rintro σ G2 ⟨v7, rfl, e2, T3⟩
    have P3 := P2.same (plH_ext e2)
    have hy3 := e2 _ _ hy (fun _ y => nomatch y)
    have htt3 := e2 _ _ htt (fun _ y => nomatch y)
    refine ⟨_, rfl, _, rfl, _, rfl, _, rfl, told_fit (E := E0) T3 P3 hy3 hl htt3 pos bd few (.inl rfl) (fun lt => by omega) fun le H4 p4 ml e4 T4 nml hml hp4 => ?_⟩
    have P4 := P3.same (plH_ext e4)
    have e24 := e2.trans e4
    have ho4 := e24 _ _ (s2 _ _ ho') (fun _ y => nomatch y)
    refine ⟨_, rfl, _, rfl, _, rfl, _, rfl, p4, ml, x, lw, ln, t, o, n, h, ps, line, S, c, rfl, P4.same plH_same, pos, bd, few, hp4, hml, ho4, fun G5 s5 => ⟨true, rfl, iteF ?_⟩⟩
    have e25 := e24.trans (ExtN.of s5)
    have T5 := T4.ext s5
    have P5 := P4.same (plH_mono s5)
    clear hp4 hml nml
    refine ⟨fun σ G => ∃ v8 : Option V, σ = [some (.ref x), some (.int (h : Nat)), some (.ref lw), some (.ref t), some (.ref o), some (.ref tx), some (.int (sumN n c)), v7, v8] ∧ Same G5 G, ?_, ?_⟩
    · refine ⟨_, rfl, _, _, rfl, rfl, _, rfl, ite2 (fun gt => ?_) fun _ => ⟨_, rfl, Same.refl _⟩⟩
      have gt : 0 < sumN n c := of_decide_eq_true gt
      refine ⟨_, rfl, ?_⟩
      dsimp only [tNil]
      refine lz.repr ?_
      refine ⟨by show 3 ≤ sizeLine; decide, fun pd npd => ?_⟩
      have s6 : Same G5 (L2.upd G5 pd (.tup [.str "long", .str (PyData.int (sumN n c)).shown, .bl true])) := same_new npd
      have hpd : (L2.upd G5 pd (.tup [.str "long", .str (PyData.int (sumN n c)).shown, .bl true])) pd = some (.tup [.str "long", .str (PyData.int (sumN n c)).shown, .bl true]) := upd_same
      generalize L2.upd G5 pd (.tup [.str "long", .str (PyData.int (sumN n c)).shown, .bl true]) = G6 at s6 hpd ⊢
      have T6 := T5.ext s6
      have P6 := P5.same (plH_mono s6)
      have hy6 := s6 _ _ (e25 _ _ hy (fun _ y => nomatch y))
      have htt6 := s6 _ _ (e25 _ _ htt (fun _ y => nomatch y))
      refine ⟨_, rfl, _, rfl, _, rfl, _, rfl, _, _, rfl, rfl, told_fit (E := E0) T6 P6 hy6 hl htt6 pos bd few (.inl rfl) (fun _ p7 H7 s7 hp7 => ?_) fun le => by omega⟩
      refine ⟨_, rfl, told_ne hp7 (s7 _ _ hpd) (SOk.of "long") (SOk.int _) ⟨_, rfl, iteF ?_⟩⟩
      refine ⟨_, rfl, _, rfl, _, rfl, told_fit (E := E0) (T6.ext s7) (P6.same (plH_mono s7)) (s7 _ _ hy6) hl (s7 _ _ htt6) pos bd few (.inl rfl) (fun _ p8 H8 s8 hp8 => ?_) fun le => by omega⟩
      exact ⟨_, rfl, told_ne hp8 (s8 _ _ (s7 _ _ hpd)) (SOk.of "long") (SOk.int _) ⟨_, rfl, iteF ⟨_, rfl, s6.trans (s7.trans s8)⟩⟩⟩
    rintro σ G6 ⟨v8, rfl, s6⟩
    have e26 := e25.trans (ExtN.of s6)
    have e06 := (ExtN.of s2).trans e26
    exact ⟨_, rfl, _, rfl, tx, o, n, c, rfl, by omega, ⟨dy, gs, tt, e26 _ _ hy (fun _ y => nomatch y), hl, e26 _ _ htt (fun _ y => nomatch y)⟩, e26 _ _ (s2 _ _ ho') (fun _ y => nomatch y), fun H' s' => q H' (e06.trans (ExtN.of s')) ((T5.ext s6).ext s')⟩
end
end Hue

end
section
set_option maxRecDepth 100000
set_option maxHeartbeats 8000000
namespace Hue
open PySem PySem.Spec PyProof.Rows L2 LamA LamX
section
variable {P : Program} {w : World} {K : PySem.W.Frag} {mg : Str → Option Value} {base : Heap} {C CT CE CS CL CR CG CI : Addr} {TL : List (Addr × Str)}
theorem cutA (xs : List V) (k : Nat) : cutV xs none (some (k : Int)) = xs.take k := by
  have z := cut_front (xs := xs) (l := xs) (g := id) (by simp) k
  rw [List.map_id] at z
  exact z
theorem cutB (xs : List V) {k : Nat} (h : k < xs.length) : cutV xs (some ((k : Int) + 1)) none = xs.drop (k + 1) := by
  rw [show (k : Int) + 1 = ((k + 1 : Nat) : Int) by omega]
  unfold cutV
  rw [HT.sIx_none, HT.sIx_nat, Nat.min_eq_left h, List.take_of_length_le (by rw [List.length_drop]; exact Nat.le_refl _)]
theorem cut_set {n : Nat} {c : Nat → Int} {v : Nat} (hv : v < n) (z : Int) : (cL n c).take v ++ [V.int z] ++ (cL n c).drop (v + 1) = cL n (setF c v z) := by
  have e := cL_set hv c z
  rw [List.set_eq_take_append_cons_drop, if_pos (by rw [cL_len]; exact hv)] at e
  rw [List.append_assoc]
  exact e
/-- one count put in place of another -/
theorem put_t {te : TE} {σ : L2.St} {H : Hp} {Q : VK} {o : Addr} {n v : Nat} {c : Nat → Int} {z : Int} {iL iv : Nat} (hL : σ[iL]? = some (some (.ref o))) (hi : σ[iv]? = some (some (.int (v : Nat)))) (ho : H o = some (.lst (cL n c))) (hv : v < n) (nb : n ≤ 16)
    (ht : ∀ (H' : Hp) (Q' : VK), Same H H' → Q' (.int z) H' → te σ H' Q') (q : ∀ (p : Addr) (H' : Hp), Same H H' → H p = none → H' p = some (.lst (cL n (setF c v z))) → Q (.ref p) H') :
    tOp rCat (tOp rCat (tSl (rSlL K) (tVar iL) tNoPart (tPart (tVar iv))) (tLst (tCons te tNil))) (tSl (rSlL K) (tVar iL) (tPart (tOp (rI0 fun i j => V.int (i + j)) (tVar iv) (tC (V.int 1)))) tNoPart) σ H Q := by
  have lc : (cL n c).length = n := cL_len _ _
  refine ⟨_, hL, _, hi, _, rfl, o, _, rfl, SqL.of ho, fun p1 np1 => ?_⟩
  rw [cutA]
  have s1 : Same H (L2.upd H p1 (.lst ((cL n c).take v))) := same_new np1
  have h1 : (L2.upd H p1 (.lst ((cL n c).take v))) p1 = some (.lst ((cL n c).take v)) := upd_same
  generalize L2.upd H p1 (.lst ((cL n c).take v)) = H1 at s1 h1 ⊢
  refine ht H1 _ s1 ⟨by show 1 ≤ sizeLine; decide, fun p2 np2 => ?_⟩
  have s2 : Same H1 (L2.upd H1 p2 (.lst [V.int z])) := same_new np2
  have h2 : (L2.upd H1 p2 (.lst [V.int z])) p2 = some (.lst [V.int z]) := upd_same
  generalize L2.upd H1 p2 (.lst [V.int z]) = H2 at s2 h2 ⊢
  refine ⟨p1, p2, _, _, rfl, rfl, s2 _ _ h1, h2, by rw [List.length_take, lc, sizeLine_eq]; show _ + 1 ≤ _; omega, fun p3 np3 => ?_⟩
  have s3 : Same H2 (L2.upd H2 p3 (.lst ((cL n c).take v ++ [V.int z]))) := same_new np3
  have h3 : (L2.upd H2 p3 (.lst ((cL n c).take v ++ [V.int z]))) p3 = some (.lst ((cL n c).take v ++ [V.int z])) := upd_same
  generalize L2.upd H2 p3 (.lst ((cL n c).take v ++ [V.int z])) = H3 at s3 h3 ⊢
  have s03 := s1.trans (s2.trans s3)
  refine ⟨_, hL, _, hi, _, _, rfl, rfl, _, rfl, o, _, rfl, SqL.of (s03 _ _ ho), fun p4 np4 => ?_⟩
  rw [cutB _ (by rw [lc]; exact hv)]
  have s4 : Same H3 (L2.upd H3 p4 (.lst ((cL n c).drop (v + 1)))) := same_new np4
  have h4 : (L2.upd H3 p4 (.lst ((cL n c).drop (v + 1)))) p4 = some (.lst ((cL n c).drop (v + 1))) := upd_same
  generalize L2.upd H3 p4 (.lst ((cL n c).drop (v + 1))) = H4 at s4 h4 ⊢
  refine ⟨p3, p4, _, _, rfl, rfl, s4 _ _ h3, h4, by rw [List.length_append, List.length_take, List.length_drop, lc, sizeLine_eq]; show _ + 1 + _ ≤ _; omega, fun p5 np5 => ?_⟩
  rw [cut_set hv z]
  exact q p5 _ ((s03.trans s4).trans (same_new np5)) ((s03.trans s4).free np5) upd_same
theorem st_setK {S : List Int} {v : Nat} (z : Int) (hv : v < S.length) : stV (S.take v) ++ [V.int z] ++ stV (S.drop (v + 1)) = stV (S.set v z) := by
  unfold stV
  rw [List.set_eq_take_append_cons_drop, if_pos hv, List.map_append, List.map_cons, List.append_assoc]
  rfl
/-- one hue put in place of another -/
theorem bx_ext {H H' : Hp} {b : Addr} (h : Bx H b) (e : ExtN H H') : Bx H' b := let ⟨g, gs, i1, i2, e1, e2⟩ := h.ex; ⟨g, gs, i1, i2, e _ _ e1 (fun _ y => nomatch y), e _ _ e2 (fun _ y => nomatch y)⟩
theorem hid_extN {H H' : Hp} {b : Addr} (h : Bx H b) (e : ExtN H H') : ExtN (hid H b) (hid H' b) := fun c o z n => by
  obtain ⟨z1, z2⟩ := hid_some z
  obtain ⟨g, gs, i1, i2, e1, e2⟩ := h.ex
  have eb : H' b = H b := (e _ _ e1 (fun _ y => nomatch y)).trans e1.symm
  exact hid_of (e c o z1 n) fun y => z2 ((isBx_same h eb).mp y)
theorem tabs_hid {H : Hp} {b : Addr} (h : Bx H b) (t : Tabs TL H) : Tabs TL (hid H b) := fun p hp => by
  obtain ⟨g, gs, i1, i2, e1, e2⟩ := h.ex
  have keep : ∀ c o, H c = some o → (∀ xs, o ≠ .lst xs) → hid H b c = some o := fun c o z n => hid_of z fun y => by
    rcases y with y | ⟨s', t', y⟩
    · rw [y, e1] at z
      injection z with z
      exact n _ z.symm
    · rw [e1] at y
      injection y with y
      injection y with y
      injection y with y _
      injection y with y
      rw [← y, e2] at z
      injection z with z
      exact n _ z.symm
  obtain ⟨ps, h1, h2, h3⟩ := t p hp
  refine ⟨ps, keep _ _ h1 (fun _ y => nomatch y), h2, fun pos cv hc => ?_⟩
  obtain ⟨c, c1, c2⟩ := h3 pos cv hc
  exact ⟨c, c1, keep _ _ c2 fun xs z => by unfold CodeO at z; cases z⟩
/-- a tally made of a list of counts -/
theorem mk_tl {H : Hp} {F : Addr → Hp → Prop} {o : Addr} {n : Nat} {c : Nat → Int} (ho : H o = some (.lst (cL n c))) (n1 : 1 ≤ n) (n40 : n ≤ 40) (pos : ∀ v, v < n → 0 ≤ c v) (q : ∀ (H' : Hp) (tx : Addr), Same H H' → TlOk CT H' tx (cL n c) → F tx H') : ∀ x dx, H x = none → H dx = none → dx ≠ x → spTInit CT (.ref x :: [.ref o]) (L2.upd (L2.upd H dx (.own x)) x (.ins CT dx [])) (fun v H2 => v = .non ∧ F x H2) E0 := by
  have ec : cL n c = ((List.range n).map c).map V.int := by unfold cL; rw [List.map_map]; rfl
  intro tx dtx ntx ndtx nex
  have sN : Same H (L2.upd (L2.upd H dtx (.own tx)) tx (.ins CT dtx [])) := fun b o w => by rw [upd_ne (ne_of_none w ntx), upd_ne (ne_of_none w ndtx)]; exact w
  refine ⟨tx, dtx, o, (List.range n).map c, rfl, upd_same, sN _ _ (by rw [← ec]; exact ho), fun w => ?_, by rw [List.length_map, List.length_range]; omega, fun w hw => ?_, fun H2 sb tl => ⟨rfl, q H2 tx (fun b o w => sb b o (ne_of_none w ntx) (sN _ _ w)) (by rw [ec]; exact tl)⟩⟩
  · have := congrArg List.length w
    rw [List.length_map, List.length_range] at this
    have : n = 0 := this
    omega
  · obtain ⟨v, hv, rfl⟩ := List.mem_map.mp hw
    exact pos v (List.mem_range.mp hv)
theorem sumN_setF {n v : Nat} {c : Nat → Int} {z : Int} (vn : v < n) : sumN n (setF c v z) = sumN n c + (z - c v) := by
  induction n with
  | zero => exact absurd vn (Nat.not_lt_zero v)
  | succ n ih =>
    rw [sumN_succ, sumN_succ]
    by_cases e : v = n
    · subst e
      have : sumN v (setF c v z) = sumN v c := sumN_congr fun u hu => if_neg (by omega)
      have e2 : setF c v z v = z := if_pos rfl
      rw [this, e2]
      omega
    · have e2 : setF c v z n = c n := if_neg fun y => e y.symm
      rw [ih (by omega), e2]
      omega
theorem setF_pos {n v : Nat} {c : Nat → Int} {z : Int} (pos : ∀ v, v < n → 0 ≤ c v) (z0 : 0 ≤ z) : ∀ u, u < n → 0 ≤ setF c v z u := fun u un => by
  unfold setF
  split
  · exact z0
  · exact pos u un
/-- one more than a lamp has room for: some are left over -/
theorem over_left {n h v : Nat} {R : Rel} {S : List Int} {c : Nat → Int} {z : Int} (h1 : 1 ≤ h) (h10 : h ≤ 10) (hR : Ranked R) (okS : StOk n h S) (pos : ∀ v, v < n → 0 ≤ c v) (few : sumN n c ≤ 2000) (vn : v < n) (big : at_ S v + ((h : Int) - 1) * bur n R c v < z) :
    (∀ k, (plR n h R S (setF c v z) ((ordN n R n).take k)).length ≤ 100000) ∧ ((plR n h R S (setF c v z) (ordN n R n)).length : Int) < sumN n (setF c v z) := by
  have rS := okS.2 _ (at_mem okS.1 vn)
  have bs : bur n R c v ≤ sumN n c := by
    rw [bur_sum]
    refine sumN_le fun u un => ?_
    have := pos u un
    split <;> omega
  have b0 : 0 ≤ bur n R c v := ldS_nonneg fun u hu _ => pos u (List.mem_range.mp hu)
  have m1 : ((h : Int) - 1) * bur n R c v ≤ 9 * bur n R c v := Int.mul_le_mul_of_nonneg_right (by omega) b0
  have m0 : 0 ≤ ((h : Int) - 1) * bur n R c v := Int.mul_nonneg (by omega) b0
  have z0 : 0 ≤ z := by omega
  have irr := ranked_irr hR v
  have eb : bur n R (setF c v z) v = bur n R c v := by rw [bur_set vn, irr, if_neg (fun y => by cases y), Int.add_zero]
  have pos' := setF_pos (v := v) pos z0
  have cp := pos v vn
  have ook := (ordN_ok (n := n) hR n (Nat.le_refl n)).2
  have key : sumN n (fun u => mnI (setF c v z u) (at_ S u + ((h : Int) - 1) * bur n R (setF c v z) u)) ≤ sumN n (setF c v (at_ S v + ((h : Int) - 1) * bur n R c v)) := sumN_le fun u un => by
    by_cases e : u = v
    · subst e
      have e2 : setF c u (at_ S u + ((h : Int) - 1) * bur n R c u) u = at_ S u + ((h : Int) - 1) * bur n R c u := if_pos rfl
      rw [e2, eb]
      unfold mnI
      split <;> omega
    · have e2 : setF c v (at_ S v + ((h : Int) - 1) * bur n R c v) u = c u := if_neg e
      have e3 : setF c v z u = c u := if_neg e
      rw [e2, e3]
      unfold mnI
      split <;> omega
  rw [sumN_setF vn] at key
  have sz := sumN_setF (z := z) (c := c) vn
  refine ⟨fun k => ?_, ?_⟩
  · have := plR_short h1 okS pos' ook k
    omega
  · have := plR_short h1 okS pos' ook (ordN n R n).length
    rw [List.take_length] at this
    omega
theorem told_over {H : Hp} {Q : VK} {E : XK} {x lw ln t y dy tt : Addr} {n h v : Nat} {ps : List (Nat × Nat)} {line : List Nat} {S : List Int} {gs : List (Str × V)} {c : Nat → Int} {lim z : Int} {cap : V} (hT : Tabs TL H) (W : AU C (plH H) x lw ln t n h ps line S) (hy : H y = some (.ins CT dy gs)) (hl : gs.lookup ("counts" : Str) = some (.ref tt)) (htt : H tt = some (.tup (cL n (setF c v z)))) (pos : ∀ v, v < n → 0 ≤ c v) (few : sumN n c ≤ 2000) (vn : v < n) (big : at_ S v + ((h : Int) - 1) * bur n (relOf ps) c v < z) (zb : z < 100000000000000000000000000000000000) (lv : LimV cap lim)
    (long : lim < sumN n (setF c v z) → Told "long" (.int (sumN n (setF c v z))) H Q) (good : sumN n (setF c v z) ≤ lim → ToldN TL "tally" (dCn n (setF c v z)) H Q) : spTold33 C CT TL [.ref x, .ref t, .ref y, cap] H Q E := by
  have W' := W.same plH_same
  have b0 : 0 ≤ bur n (relOf ps) c v := ldS_nonneg fun u hu _ => pos u (List.mem_range.mp hu)
  have h1 := W.h1
  have m0 : 0 ≤ ((h : Int) - 1) * bur n (relOf ps) c v := Int.mul_nonneg (by omega) b0
  have rS := W.okS.2 _ (at_mem W.okS.1 vn)
  have z0 : 0 ≤ z := by omega
  have pos' := setF_pos (v := v) pos z0
  have sz := sumN_setF (z := z) (c := c) vn
  have cp := pos v vn
  have s0 : 0 ≤ sumN n (setF c v z) := sumN_nonneg pos'
  obtain ⟨fw, lt⟩ := over_left W.h1 W.h10 W.hR W.okS pos few vn big
  refine ⟨x, n, h, ps, .ref t, stD S, y, dy, gs, tt, n, setF c v z, cap, lim, rfl, lv, hT, W'.hs, W.n16, W.h1, W.h10, W.hR, HsOk.lf W'.ht W.okS W.n16 W.h10, hy, hl, htt, pos', by have := W.n16; omega, fun u un => nat38 (pos' u un) (by have := sumN_at pos' un; omega), nat38 s0 (by omega), fun hb => ?_, fun t' S' et ht' okS' => ?_⟩
  · rw [st_stB W.okS] at hb; cases hb
  injection et with et
  subst et
  rw [W'.ht] at ht'
  injection ht' with ht'
  injection ht' with ht'
  have eS := stV_inj ht'
  subst eS
  exact ⟨fun ne => absurd rfl ne, fun _ => ⟨long, fun le => ⟨fw, fun _ => good le, fun ge => by omega⟩⟩⟩
end
end Hue

end
section
set_option maxRecDepth 100000
set_option maxHeartbeats 8000000
namespace Hue
open PySem PySem.Spec PyProof.Rows L2 LamA LamX
section
variable {P : Program} {w : World} {K : PySem.W.Frag} {mg : Str → Option Value} {base : Heap} {C CT CE CS CL CR CG CI : Addr} {TL : List (Addr × Str)}
abbrev s__law_left_over : Stmt := top 60
theorem sc__law_left_over : FnScope ["box", "home", "base", "low", "first", "lot", "place", "burden", "u", "bound", "more", "row", "size", "tally", "due"] ["box", "home", "base", "low", "first", "lot"] (defScope s__law_left_over) := ⟨rfl, rfl, rfl, by decide +kernel, rfl, by decide +kernel, by decide +kernel⟩
-- slots of _law_left_over: 0 box, 1 home, 2 base, 3 low, 4 first, 5 lot, 6 place, 7 burden, 8 u, 9 bound, 10 more, 11 row, 12 size, 13 tally, 14 due
def spLeftOver (C : Addr) (TL : List (Addr × Str)) : Sp := fun vs H Q _ => ∃ (b x lw ln t o : Addr) (n h : Nat) (ps : List (Nat × Nat)) (line : List Nat) (S : List Int) (c : Nat → Int), vs = [.ref b, .ref x, .int h, .ref lw, .ref t, .ref o] ∧ Bx H b ∧ Tabs TL (hid H b) ∧ AU C (plH (hid H b)) x lw ln t n h ps line S ∧ plH (hid H b) o = some (.lst (cL n c)) ∧ (∀ v, v < n → 0 ≤ c v) ∧ sumN n c ≤ 2000 ∧ ∀ H', Bx H' b → ExtN (hid H b) (hid H' b) → Tabs TL (hid H' b) → Q (.bl true) H'
theorem ok__law_left_over (T : Txt K mg C) {f : Addr} {fd : FuncData} (F : Fun K "_law_left_over" "_law_left_over" s__law_left_over f fd) (c__law_take : Cal P w K mg base "_law_take" 1 spTake) (c__law_great : Cal P w K mg base "_law_great" 2 spGreat) (c_Tally : NCal P w K mg base CT "Tally" 3 (spTInit CT)) (c__law_told : CalG P w K mg base "_law_told" 8 (spTold33 C CT TL)) : GOk P w K mg base CX0 9 f fd ["box", "home", "base", "low", "first", "lot"] (spLeftOver C TL) := by
  refine F.okG sc__law_left_over (fun vs H Q E h => ?_) (fun cdv A gA outer s H vs Q E hr h => ?_)
  · obtain ⟨b, x, lw, ln, t, o, n, h, ps, line, S, c, rfl, _⟩ := h; rfl
  · obtain ⟨b, x, lw, ln, t, o, n, h, ps, line, S, c, rfl, bx, hT, W, ho, pos, few, q⟩ := h
    have rg : RG (A.deeper (envOfC "_law_left_over" (defScope s__law_left_over) s.heap.objs.size f cdv)) := ⟨gA, hr.u100⟩
    have n1 := W.n1
    have n16 := W.n16
    have h1 := W.h1
    have h10 := W.h10
    have hob := plH_same _ _ ho
    have ho' := (hid_some hob).1
    refine ⟨_, (pss_cons (ps_set (i := 6) sc__law_left_over.nd rfl (by first | exact Or.inl rfl | exact Or.inr rfl) (pe_cal c__law_take (hr.mono (by decide)) (pa_cons (pv 0) (pa_cons (pe_callB (lenS_ K) (by rfl) T.len b_len (pa_cons (pv 5) pa_nil)) pa_nil))))
      (pss_cons (ps_set (i := 7) sc__law_left_over.nd rfl (by first | exact Or.inl rfl | exact Or.inr rfl) (pe_callB (sum_ K rfl) (by rfl) T.sum b_sum (pa_cons (pe_lc (own := [("u", 8)]) (g := gName 8) rfl sc__law_left_over.nd (pi_range1 (by rfl) T.range (pa_cons (pe_callB (lenS_ K) (by rfl) T.len b_len (pa_cons (pv 5) pa_nil)) pa_nil)) (blkOk_by (by kernel_rfl)) (fun _ _ _ _ _ => (pg_name (i := 8) sc__law_left_over.nd rfl (by first | exact Or.inl rfl | exact Or.inr rfl))) (fun _ _ _ _ _ => (pts_one (pt_val (pe_ix (ixL_ K) (pe_ix (ixL_ K) (pv 3) (pv 8) (fun _ _ => rfl)) (pv 6) (fun _ _ => rfl))))) (fun _ _ _ _ _ => (pe_ix (ixL_ K) (pv 5) (pv 8) (fun _ _ => rfl)))) pa_nil)))
      (pss_cons (ps_set (i := 9) sc__law_left_over.nd rfl (by first | exact Or.inl rfl | exact Or.inr rfl) (pe_op op_add (pe_ix (ixT_ K) (pv 4) (pv 6) (fun _ _ => rfl)) (pe_op op_mul (pe_op op_sub (pv 2) pe_int) (pv 7))))
      (pss_cons (ps_for PassesOwn.never rfl (pil_ K (pe_lst (pa_cons pe_int (pa_cons (pe_op op_add pe_int (pe_cal c__law_take (hr.mono (by decide)) (pa_cons (pv 0) (pa_cons pe_int pa_nil)))) (pa_cons (pe_op op_add pe_int (pe_cal c__law_great (hr.mono (by decide)) (pa_cons (pv 0) pa_nil))) pa_nil))))) (pg_name (i := 10) sc__law_left_over.nd rfl (by first | exact Or.inl rfl | exact Or.inr rfl))
      (pss_cons (ps_set (i := 11) sc__law_left_over.nd rfl (by first | exact Or.inl rfl | exact Or.inr rfl) (pe_op op_cat (pe_op op_cat (pe_slice (slL_ K) (pv 5) po_none (po_some (pv 6))) (pe_lst (pa_cons (pe_op op_add (pv 9) (pv 10)) pa_nil))) (pe_slice (slL_ K) (pv 5) (po_some (pe_op op_add (pv 6) pe_int)) po_none)))
      (pss_cons (ps_set (i := 12) sc__law_left_over.nd rfl (by first | exact Or.inl rfl | exact Or.inr rfl) (pe_callB (sum_ K rfl) (by rfl) T.sum b_sum (pa_cons (pv 11) pa_nil)))
      (pss_cons (ps_set (i := 13) sc__law_left_over.nd rfl (by first | exact Or.inl rfl | exact Or.inr rfl) (pe_ncal c_Tally (hr.mono (by decide)) (pa_cons (pv 11) pa_nil)))
      (pss_cons (ps_set (i := 14) sc__law_left_over.nd rfl (by first | exact Or.inl rfl | exact Or.inr rfl) (pe_tup (pa_cons pe_str (pa_cons (pe_callB (cr_reprR rg) (by rfl) T.repr b_repr (pa_cons (pv 12) pa_nil)) (pa_cons pe_bl pa_nil)))))
      (pss_cons (ps_if (pt_cmpR (hu_neD K hr.units) (pe_calR c__law_told rg (hr.mono (by decide)) (pa_cons (pv 1) (pa_cons (pv 4) (pa_cons (pv 13) (pa_cons (pv 12) pa_nil))))) (pe_tup (pa_cons pe_str (pa_cons (pe_callB (cr_reprR rg) (by rfl) T.repr b_repr (pa_cons (pe_callTy (tupOf_ K) (by rfl) T.tuple b_tuple (pa_cons (pv 11) pa_nil)) pa_nil)) (pa_cons pe_bl pa_nil)))) (nomark _))
      (pss_one (ps_ret pe_bl)) pss_nil)
      (pss_cons (ps_if (PW.pt (pw_or (pt_cmpR (hu_neD K hr.units) (pe_calR c__law_told rg (hr.mono (by decide)) (pa_cons (pv 1) (pa_cons (pv 4) (pa_cons (pv 13) (pa_cons (pe_op op_sub (pv 12) pe_int) pa_nil))))) (pv 14) (nomark _)) (pw_or1 (pt_cmpR (hu_neD K hr.units) (pe_calR c__law_told rg (hr.mono (by decide)) (pa_cons (pv 1) (pa_cons (pv 4) (pa_cons (pv 13) (pa_cons pe_int pa_nil))))) (pv 14) (nomark _)))))
      (pss_one (ps_ret pe_bl)) pss_nil)
      (C8.pss_cut (ps_if (PW.pt (pw_and (pt_cmpR op_gt (pv 12) pe_int (nomark _)) (pw_and1 (pt_cmpR (hu_neD K hr.units) (pe_calR c__law_told rg (hr.mono (by decide)) (pa_cons (pv 1) (pa_cons (pv 4) (pa_cons (pv 13) (pa_cons pe_non pa_nil))))) (pv 14) (nomark _)))))
      (pss_one (ps_ret pe_bl)) pss_nil)
      (pss_one (ps_if (PW.pt (pw_and (pt_cmpR op_le (pv 12) pe_int (nomark _)) (pw_and1 (pt_cmpR (hu_neD K hr.units) (pe_calR c__law_told rg (hr.mono (by decide)) (pa_cons (pv 1) (pa_cons (pv 4) (pa_cons (pv 13) (pa_cons pe_non pa_nil))))) (pe_tup (pa_cons pe_str (pa_cons (pe_callB (cr_reprR rg) (by rfl) T.repr b_repr (pa_cons (pe_callTy (tupOf_ K) (by rfl) T.tuple b_tuple (pa_cons (pv 11) pa_nil)) pa_nil)) (pa_cons pe_bl pa_nil)))) (nomark _)))))
      (pss_one (ps_ret pe_bl)) pss_nil))))))))))
      (pss_one (ps_ret pe_bl)))))), ?_⟩
    rw [show L2.start ["box", "home", "base", "low", "first", "lot", "place", "burden", "u", "bound", "more", "row", "size", "tally", "due"] [V.ref b, V.ref x, V.int (h : Nat), V.ref lw, V.ref t, V.ref o] = [some (.ref b), some (.ref x), some (.int (h : Nat)), some (.ref lw), some (.ref t), some (.ref o), none, none, none, none, none, none, none, none, none] from rfl]
    refine ⟨_, rfl, _, rfl, o, _, rfl, .inl (SqL.of ho'), b, n, by rw [cL_len], n1, by omega, bx, fun v H1 vn b1 s1 => ?_⟩
    have e1 := ExtN.of s1
    have P1 := W.same (plH_ext e1)
    have ho1 := (hid_some (s1 _ _ hob)).1
    have F1 := (P1.same plH_same).same hid_same
    dsimp only [List.set_cons_succ, List.set_cons_zero]
    refine ⟨_, rfl, o, _, rfl, .inl (SqL.of ho1), _, rfl, by rw [cL_len]; omega, by rw [cL_len]; omega, fun D hD => ?_⟩
    rw [cL_len, Int.toNat_natCast]
    refine lc_range (fun j G => G D = some (.lst ((((List.range j).filter fun u => relOf ps u v).map c).map V.int)) ∧ Same H1 G) ⟨upd_same, same_new hD⟩ ?_ ?_
    · rintro u G un ⟨h2, s2⟩
      have e0 : (0 : Int) + (u : Int) = (u : Int) := by omega
      rw [e0]
      obtain ⟨as, row, ra, c1, c2, c3, c4, c5⟩ := (F1.tb.same s2).cell un vn
      refine ⟨rfl, _, rfl, _, rfl, lw, _, _, _, rfl, rfl, SqL.of c1, c3, _, rfl, ra, _, _, _, rfl, rfl, SqL.of c4, c5, _, rfl, ?_⟩
      rw [List.range_succ, List.filter_append]
      refine ite2 (fun hR => ?_) fun hR => ?_
      · refine ⟨_, rfl, _, rfl, o, _, _, _, rfl, rfl, SqL.of (s2 _ _ ho1), atI_nat (cL_get un _), _, h2, ?_, ?_, same_upd s2 hD⟩
        · rw [List.length_map, List.length_map, sizeLine_eq]
          have := List.length_filter_le (fun u => relOf ps u v) (List.range u)
          rw [List.length_range] at this
          omega
        · rw [upd_same]
          show _ = some (HO.lst (((_ ++ List.filter (fun u => relOf ps u v) [u]).map c).map V.int))
          rw [List.filter_cons, if_pos hR, List.map_append, List.map_append]
          rfl
      · show G D = some (HO.lst (((_ ++ List.filter (fun u => relOf ps u v) [u]).map c).map V.int)) ∧ _
        rw [List.filter_cons, if_neg hR, List.filter_nil, List.append_nil]
        exact ⟨h2, s2⟩
    rintro G2 ⟨h2, s2⟩
    obtain ⟨t2, b2⟩ := hid_sm b1 s2
    refine ⟨D, _, rfl, SqL.of h2, ?_⟩
    show gName 7 (V.int (bur n (relOf ps) c v)) _ _ _
    have e2 := e1.trans (ExtN.of t2)
    have P2 := W.same (plH_ext e2)
    have F2 := F1.same s2
    have b0 : 0 ≤ bur n (relOf ps) c v := ldS_nonneg fun u hu _ => pos u (List.mem_range.mp hu)
    have bs : bur n (relOf ps) c v ≤ sumN n c := by
      rw [bur_sum]
      refine sumN_le fun u un => ?_
      have := pos u un
      split <;> omega
    have rS := W.okS.2 _ (at_mem W.okS.1 vn)
    have m1 : ((h : Int) - 1) * bur n (relOf ps) c v ≤ 9 * bur n (relOf ps) c v := Int.mul_le_mul_of_nonneg_right (by omega) b0
    have m0 : 0 ≤ ((h : Int) - 1) * bur n (relOf ps) c v := Int.mul_nonneg (by omega) b0
    dsimp only [List.set_cons_succ, List.set_cons_zero]
    refine ⟨_, rfl, _, rfl, t, _, _, _, rfl, rfl, SqT.of F2.ht, atI_nat (stV_get (by rw [W.okS.1]; exact vn)), _, rfl, _, _, rfl, rfl, _, rfl, _, _, rfl, rfl, .inl ⟨by omega, by omega⟩, _, _, rfl, rfl, ?_⟩
    show gName 9 (V.int (at_ S v + ((h : Int) - 1) * bur n (relOf ps) c v)) _ _ _
    generalize hbd : at_ S v + ((h : Int) - 1) * bur n (relOf ps) c v = bd
    have bd0 : 0 ≤ bd := by omega
    have bd1 : bd ≤ 30000 := by omega
    dsimp only [List.set_cons_succ, List.set_cons_zero]
    refine ⟨_, rfl, b, 2, rfl, by decide, by decide, b2, fun d1 H3 hd1 b3 s3 => ⟨_, _, rfl, rfl, ?_⟩⟩
    refine ⟨_, rfl, b, rfl, b3, fun d2 H4 hd2 b4 s4 => ⟨_, _, rfl, rfl, by show 3 ≤ sizeLine; decide, fun l0 nl0 => ?_⟩⟩
    obtain ⟨s5, h5, b5⟩ := hid_add (o := .lst [V.int 1, V.int (2 + (d1 : Int)), V.int (1 + (d2 : Int))]) b4 nl0
    have h5 : hid (L2.upd H4 l0 (.lst [V.int 1, V.int (2 + (d1 : Int)), V.int (1 + (d2 : Int))])) b l0 = some (.lst ([1, 2 + (d1 : Int), 1 + (d2 : Int)].map V.int)) := h5
    have bds : ∀ k ∈ [1, 2 + (d1 : Int), 1 + (d2 : Int)], 1 ≤ k ∧ k ≤ 10000000000000000000000000000000 := fun k hk => by
      have e30 : (10 : Nat) ^ 30 = 1000000000000000000000000000000 := by decide
      rw [e30] at hd2
      simp only [List.mem_cons, List.not_mem_nil, or_false] at hk
      omega
    have e4 := e2.trans (ExtN.of (s3.trans s4))
    have T5 := hT.ext (s1.trans (t2.trans (s3.trans (s4.trans s5))))
    refine ⟨l0, rfl, ⟨_, SqL.of (hid_some h5).1⟩, ?_⟩
    generalize hkl : [1, 2 + (d1 : Int), 1 + (d2 : Int)] = kl at bds
    refine for_list (K := K) (a := l0) (xs := kl.map V.int) (fun i σ G => ∃ v10 v11 v12 v13 v14 : Option V, σ = [some (.ref b), some (.ref x), some (.int (h : Nat)), some (.ref lw), some (.ref t), some (.ref o), some (.int (v : Nat)), some (.int (bur n (relOf ps) c v)), none, some (.int bd), v10, v11, v12, v13, v14] ∧ Bx G b ∧ ExtN (hid H4 b) (hid G b) ∧ Tabs TL (hid G b) ∧ hid G b l0 = some (.lst (kl.map V.int))) ⟨_, _, _, _, _, rfl, b5, ExtN.of s5, T5, by rw [← hkl]; exact h5⟩ (fun i σ G _ ⟨_, _, _, _, _, _, _, _, _, e⟩ => SqL.of (hid_some e).1) ?_ ?_
    · rintro i y σ G hy ⟨v10, v11, v12, v13, v14, rfl, bG, eG, TG, hlG⟩
      rw [List.getElem?_map] at hy
      obtain ⟨k, hk, rfl⟩ := Option.map_eq_some_iff.mp hy
      obtain ⟨k1, k2⟩ := bds k (List.mem_of_getElem? hk)
      have e0G := e4.trans eG
      have hoG := (hid_some (e0G _ _ hob (fun _ y => nomatch y))).1
      have z0 : 0 ≤ bd + k := by omega
      have pos' := setF_pos (v := v) pos z0
      have big : at_ S v + ((h : Int) - 1) * bur n (relOf ps) c v < bd + k := by omega
      have sz := sumN_setF (z := bd + k) (c := c) vn
      have cv := pos v vn
      have cvs := sumN_at pos vn
      have s0 : 0 ≤ sumN n (setF c v (bd + k)) := sumN_nonneg pos'
      have lz : ∀ {G : Hp}, Lf2 G (.int (sumN n (setF c v (bd + k)))) (.int (sumN n (setF c v (bd + k)))) := .lf (.int _ (nat38 s0 (by omega)))
      have ec : ∀ c : Nat → Int, cL n c = ((List.range n).map c).map V.int := fun c => by unfold cL; rw [List.map_map]; rfl
      refine put_t (iL := 5) (iv := 6) (z := bd + k) rfl rfl hoG vn n16 (fun H' Q' s g => ⟨_, rfl, _, rfl, _, _, rfl, rfl, g⟩) fun ro H6 s6 nro hro => ?_
      have len40 : n ≤ 40 := by omega
      have cb : ∀ u, u < n → (setF c v (bd + k) u).natAbs < 10 ^ 38 := fun u un => nat38 (pos' u un) (by have := sumN_at pos' un; omega)
      have zb : bd + k < 100000000000000000000000000000000000 := by omega
      have TR : Tabs TL G := TG.ext hid_same
      have PG : ∀ {G2 : Hp}, ExtN G G2 → AU C (plH G2) x lw ln t n h ps line S := fun e => ((W.same (plH_ext e0G)).same (plH_mono hid_same)).same (plH_ext e)
      have ss1 : 1 ≤ sumN n (setF c v (bd + k)) := by omega
      generalize hss : sumN n (setF c v (bd + k)) = ss at sz s0 lz ss1
      refine ⟨_, rfl, ro, (List.range n).map (setF c v (bd + k)), rfl, SqL.of (by rw [← ec]; exact hro), ?_⟩
      show gName 12 (V.int (sumN n (setF c v (bd + k)))) _ _ _
      rw [hss]
      dsimp only [List.set_cons_succ, List.set_cons_zero]
      refine ⟨_, rfl, mk_tl hro n1 len40 pos' fun H7 tx s7 ty => ?_⟩
      obtain ⟨dy, gs, tt, hy, hl, htt⟩ := ty
      have e7 : ExtN G H7 := ExtN.of (s6.trans s7)
      have T7 := TR.ext (s6.trans s7)
      have hro7 := s7 _ _ hro
      dsimp only [List.set_cons_succ, List.set_cons_zero]
      refine ⟨_, rfl, ?_⟩
      dsimp only [tNil]
      refine lz.repr ?_
      refine ⟨by show 3 ≤ sizeLine; decide, fun pd npd => ?_⟩
      have s8 : Same H7 (L2.upd H7 pd (.tup [.str "long", .str (PyData.int ss).shown, .bl true])) := same_new npd
      have hpd : (L2.upd H7 pd (.tup [.str "long", .str (PyData.int ss).shown, .bl true])) pd = some (.tup [.str "long", .str (PyData.int ss).shown, .bl true]) := upd_same
      generalize L2.upd H7 pd (.tup [.str "long", .str (PyData.int ss).shown, .bl true]) = H8 at s8 hpd ⊢
      have e8 := e7.trans (ExtN.of s8)
      have T8 := T7.ext s8
      have hro8 := s8 _ _ hro7
      have hy8 := s8 _ _ hy
      have htt8 := s8 _ _ htt
      dsimp only [List.set_cons_succ, List.set_cons_zero]
      refine ⟨_, rfl, _, rfl, _, rfl, _, rfl, told_over (E := E0) T8 (PG e8) hy8 hl htt8 pos few vn big zb (.inl rfl) (fun lt => by rw [hss] at lt; omega) fun _ p9 H9 e9 T9 hp9 => ?_⟩
      have hro9 := e9 _ _ hro8 (fun _ y => nomatch y)
      have hpd9 := e9 _ _ hpd (fun _ y => nomatch y)
      have hy9 := e9 _ _ hy8 (fun _ y => nomatch y)
      have htt9 := e9 _ _ htt8 (fun _ y => nomatch y)
      have f9 := e8.trans e9
      refine ⟨_, rfl, ro, _, rfl, .inl ⟨SqL.of hro9, fun tq nq => ?_⟩⟩
      dsimp only [tNil]
      refine (cn_lf upd_same len40 cb).repr ?_
      refine ⟨by show 3 ≤ sizeLine; decide, fun pn npn => told_ne (same_new npn _ _ (same_new nq _ _ hp9)) upd_same (SOk.of "tally") (cn_sok _ _) ⟨_, rfl, iteF ?_⟩⟩
      have s10 := (same_new (o := .tup (cL n (setF c v (bd + k)))) nq).trans (same_new (o := .tup [.str "tally", .str (dCn n (setF c v (bd + k))).shown, .bl true]) npn)
      have T10 := T9.ext s10
      have f10 := f9.trans (ExtN.of s10)
      have hpd10 := s10 _ _ hpd9
      have hy10 := s10 _ _ hy9
      have htt10 := s10 _ _ htt9
      have hro10 := s10 _ _ hro9
      have hlG10 : ExtN G (L2.upd (L2.upd H9 tq (.tup (cL n (setF c v (bd + k))))) pn (.tup [.str "tally", .str (dCn n (setF c v (bd + k))).shown, .bl true])) := f10
      clear hp9
      generalize L2.upd (L2.upd H9 tq (.tup (cL n (setF c v (bd + k))))) pn (.tup [.str "tally", .str (dCn n (setF c v (bd + k))).shown, .bl true]) = H10 at T10 f10 hpd10 hy10 htt10 hro10 s10 hlG10 ⊢
      refine ⟨_, rfl, _, rfl, _, rfl, _, rfl, _, _, rfl, rfl, told_over (E := E0) T10 (PG f10) hy10 hl htt10 pos few vn big zb (.inl rfl) (fun _ p11 H11 s11 hp11 => ?_) fun le => by rw [hss] at le; omega⟩
      rw [hss] at hp11
      refine ⟨_, rfl, told_ne hp11 (s11 _ _ hpd10) (SOk.of "long") (SOk.int _) ⟨_, rfl, iteF ?_⟩⟩
      refine ⟨_, rfl, _, rfl, _, rfl, told_over (E := E0) (T10.ext s11) (PG (f10.trans (ExtN.of s11))) (s11 _ _ hy10) hl (s11 _ _ htt10) pos few vn big zb (.inl rfl) (fun _ p12 H12 s12 hp12 => ?_) fun le => by rw [hss] at le; omega⟩
      rw [hss] at hp12
      refine ⟨_, rfl, told_ne hp12 (s12 _ _ (s11 _ _ hpd10)) (SOk.of "long") (SOk.int _) ⟨_, rfl, iteF ?_⟩⟩
      have s1112 := s11.trans s12
      have T12 := T10.ext s1112
      have f12 := f10.trans (ExtN.of s1112)
      have hy12 := s1112 _ _ hy10
      have htt12 := s1112 _ _ htt10
      have hro12 := s1112 _ _ hro10
      have hpd12 := s1112 _ _ hpd10
      have hl12 := f12 _ _ (hid_some hlG).1 (fun _ y => nomatch y)
      refine ⟨fun σ G2 => σ = [some (.ref b), some (.ref x), some (.int (h : Nat)), some (.ref lw), some (.ref t), some (.ref o), some (.int (v : Nat)), some (.int (bur n (relOf ps) c v)), none, some (.int bd), some (.int k), some (.ref ro), some (.int ss), some (.ref tx), some (.ref pd)] ∧ Same H12 G2, ?_, ?_⟩
      · refine ⟨_, rfl, _, _, rfl, rfl, _, rfl, ite2 (fun gt => ?_) fun _ => ⟨rfl, Same.refl _⟩⟩
        have gt : 1000 < ss := of_decide_eq_true gt
        refine ⟨_, rfl, _, rfl, _, rfl, told_over (E := E0) T12 (PG f12) hy12 hl htt12 pos few vn big zb (.inr ⟨rfl, rfl⟩) (fun _ p13 H13 s13 hp13 => ?_) fun le => by rw [hss] at le; omega⟩
        rw [hss] at hp13
        exact ⟨_, rfl, told_ne hp13 (s13 _ _ hpd12) (SOk.of "long") (SOk.int _) ⟨_, rfl, iteF ⟨rfl, s13⟩⟩⟩
      rintro σ G2 ⟨rfl, s2'⟩
      have T13 := T12.ext s2'
      have f13 := f12.trans (ExtN.of s2')
      have fin : ∀ {G3 : Hp}, ExtN G G3 → Tabs TL G3 → Bx G3 b ∧ ExtN (hid H4 b) (hid G3 b) ∧ Tabs TL (hid G3 b) ∧ hid G3 b l0 = some (.lst (kl.map V.int)) := fun {G3} e tt => by
        have b3 := bx_ext bG e
        have eh := hid_extN bG e
        exact ⟨b3, eG.trans eh, tabs_hid b3 tt, eh _ _ hlG (fun _ y => nomatch y)⟩
      refine ⟨_, rfl, _, _, rfl, rfl, _, rfl, ite2 (fun le => ?_) fun _ => ⟨_, _, _, _, _, rfl, fin f13 T13⟩⟩
      have le : ss ≤ 1000 := of_decide_eq_true le
      refine ⟨_, rfl, _, rfl, _, rfl, told_over (E := E0) T13 (PG f13) (s2' _ _ hy12) hl (s2' _ _ htt12) pos few vn big zb (.inr ⟨rfl, rfl⟩) (fun lt => by rw [hss] at lt; omega) fun _ p14 H14 e14 T14 hp14 => ?_⟩
      have hro14 := e14 _ _ (s2' _ _ hro12) (fun _ y => nomatch y)
      refine ⟨_, rfl, ro, _, rfl, .inl ⟨SqL.of hro14, fun tq2 nq2 => ?_⟩⟩
      dsimp only [tNil]
      refine (cn_lf upd_same len40 cb).repr ?_
      refine ⟨by show 3 ≤ sizeLine; decide, fun pn2 npn2 => told_ne (same_new npn2 _ _ (same_new nq2 _ _ hp14)) upd_same (SOk.of "tally") (cn_sok _ _) ⟨_, rfl, iteF ?_⟩⟩
      have s15 := (same_new (o := .tup (cL n (setF c v (bd + k)))) nq2).trans (same_new (o := .tup [.str "tally", .str (dCn n (setF c v (bd + k))).shown, .bl true]) npn2)
      exact ⟨_, _, _, _, _, rfl, fin (f13.trans (e14.trans (ExtN.of s15))) (T14.ext s15)⟩
    · rintro σ G ⟨v10, v11, v12, v13, v14, rfl, bG, eG, TG, hlG⟩
      exact q G bG (e4.trans eG) TG
end
end Hue

end
section
set_option maxRecDepth 100000
set_option maxHeartbeats 8000000
namespace Hue
open PySem PySem.Spec PyProof.Rows L2 LamA LamX
section
variable {P : Program} {w : World} {K : PySem.W.Frag} {mg : Str → Option Value} {base : Heap} {C CT CE CS CL CR CG CI : Addr} {TL : List (Addr × Str)}
theorem st_cL (S : List Int) : stV S = cL S.length fun i => S.getD i 0 := by
  refine List.ext_getElem? fun i => ?_
  by_cases hi : i < S.length
  · rw [cL_get hi]
    unfold stV
    rw [List.getElem?_map, List.getElem?_eq_getElem hi, List.getD_eq_getElem?_getD, List.getElem?_eq_getElem hi]
    rfl
  · rw [List.getElem?_eq_none (by rw [List.length_map]; omega), List.getElem?_eq_none (by rw [cL_len]; omega)]
theorem rng_getD (S : List Int) : (List.range S.length).map (fun i => S.getD i 0) = S := by
  refine List.ext_getElem? fun i => ?_
  by_cases hi : i < S.length
  · rw [List.getElem?_map, List.getElem?_range hi, List.getElem?_eq_getElem hi]
    show some (S.getD i 0) = _
    rw [List.getD_eq_getElem?_getD, List.getElem?_eq_getElem hi]
    rfl
  · rw [List.getElem?_eq_none (by rw [List.length_map, List.length_range]; omega), List.getElem?_eq_none (by omega)]
theorem getD_mem {S : List Int} {i : Nat} (hi : i < S.length) : S.getD i 0 ∈ S := by
  rw [List.getD_eq_getElem?_getD, List.getElem?_eq_getElem hi]
  exact List.getElem_mem hi
/-- a row of counts, not one for each lamp -/
def RowOk (n : Nat) (H : Hp) (p : Addr) : Prop := ∃ S : List Int, H p = some (.lst (stV S)) ∧ 1 ≤ S.length ∧ S.length ≤ 40 ∧ S.length ≠ n ∧ ∀ z ∈ S, 0 ≤ z ∧ z < 1000000
theorem RowOk.same {n : Nat} {H H' : Hp} {p : Addr} (a : RowOk n H p) (s : Same H H') : RowOk n H' p := let ⟨S, h, r⟩ := a; ⟨S, s _ _ h, r⟩
theorem small38 {z : Int} (h : 0 ≤ z ∧ z < 1000000) : z.natAbs < 10 ^ 38 := by
  have e38 : (10 : Nat) ^ 38 = 100000000000000000000000000000000000000 := by decide
  omega
theorem sum_small {f : Nat → Int} (b : ∀ i, 0 ≤ f i ∧ f i < 1000000) : ∀ k, 0 ≤ sumN k f ∧ sumN k f ≤ 1000000 * (k : Int)
  | 0 => ⟨Int.le_refl _, Int.le_refl _⟩
  | k + 1 => by
    have := sum_small b k
    have := b k
    rw [sumN_succ]
    omega
theorem getD_small {S : List Int} (a : ∀ z ∈ S, 0 ≤ z ∧ z < 1000000) (i : Nat) : 0 ≤ S.getD i 0 ∧ S.getD i 0 < 1000000 := by
  by_cases hi : i < S.length
  · exact a _ (getD_mem hi)
  · rw [List.getD_eq_getElem?_getD, List.getElem?_eq_none (by omega)]
    show (0 : Int) ≤ 0 ∧ (0 : Int) < 1000000
    decide
/-- what is told of counts that are not one for each lamp -/
theorem told_wrong {H : Hp} {Q : VK} {E : XK} {x t y : Addr} {n h : Nat} {ps : List (Nat × Nat)} {S : List Int} {xs : List Int} {lim : Int} {cap : V} (hT : Tabs TL H) (hs : HsOk C H x n h ps) (ht : H t = some (.tup (stV S))) (okS : StOk n h S) (n16 : n ≤ 16) (h1 : 1 ≤ h) (h10 : h ≤ 10) (hR : Ranked (relOf ps)) (ty : TlOk CT H y (cL xs.length fun i => xs.getD i 0)) (l40 : xs.length ≤ 40) (ne : xs.length ≠ n) (sm : ∀ z ∈ xs, 0 ≤ z ∧ z < 1000000) (lv : LimV cap lim) (q : Told "tally" (stD xs) H Q) : spTold33 C CT TL [.ref x, .ref t, .ref y, cap] H Q E := by
  obtain ⟨dy, gs, tt, hy, hl, htt⟩ := ty
  have sb := sum_small (getD_small sm) n
  have e38 : (10 : Nat) ^ 38 = 100000000000000000000000000000000000000 := by decide
  refine ⟨x, n, h, ps, .ref t, stD S, y, dy, gs, tt, xs.length, _, cap, lim, rfl, lv, hT, hs, n16, h1, h10, hR, HsOk.lf ht okS n16 h10, hy, hl, htt, fun v _ => (getD_small sm v).1, l40, fun v _ => small38 (getD_small sm v), by omega, fun hb => ?_, fun t' S' et ht' okS' => ⟨fun _ => ?_, fun e => absurd e ne⟩⟩
  · rw [st_stB okS] at hb; cases hb
  · unfold dCn
    rw [rng_getD]
    exact q
/-- what is told of a strange state -/
theorem told_odd {H : Hp} {Q : VK} {E : XK} {x y : Addr} {v : V} {d : PyData} {n h : Nat} {ps : List (Nat × Nat)} {xs : List Int} {lim : Int} {cap : V} (hT : Tabs TL H) (hs : HsOk C H x n h ps) (od : Lf2 H v d) (bad : stB n h d = false) (n16 : n ≤ 16) (h1 : 1 ≤ h) (h10 : h ≤ 10) (hR : Ranked (relOf ps)) (ty : TlOk CT H y (cL xs.length fun i => xs.getD i 0)) (l40 : xs.length ≤ 40) (sm : ∀ z ∈ xs, 0 ≤ z ∧ z < 1000000) (lv : LimV cap lim) (q : Told "state" d H Q) : spTold33 C CT TL [.ref x, v, .ref y, cap] H Q E := by
  obtain ⟨dy, gs, tt, hy, hl, htt⟩ := ty
  have sb := sum_small (getD_small sm) n
  have e38 : (10 : Nat) ^ 38 = 100000000000000000000000000000000000000 := by decide
  refine ⟨x, n, h, ps, v, d, y, dy, gs, tt, xs.length, _, cap, lim, rfl, lv, hT, hs, n16, h1, h10, hR, od, hy, hl, htt, fun v _ => (getD_small sm v).1, l40, fun v _ => small38 (getD_small sm v), by omega, fun _ => q, fun t' S' et ht' okS' => ?_⟩
  subst et
  rw [lf2_st od ht' okS'] at bad
  cases bad
abbrev s__law_refusals : Stmt := top 61
theorem sc__law_refusals : FnScope ["box", "home", "base", "first", "lot", "odd", "rows", "row", "tally", "cap"] ["box", "home", "base", "first", "lot"] (defScope s__law_refusals) := ⟨rfl, rfl, rfl, by decide +kernel, rfl, by decide +kernel, by decide +kernel⟩
-- slots of _law_refusals: 0 box, 1 home, 2 base, 3 first, 4 lot, 5 odd, 6 rows, 7 row, 8 tally, 9 cap
def spRefusals33 (C : Addr) (TL : List (Addr × Str)) : Sp := fun vs H Q _ => ∃ (b x t o : Addr) (n h : Nat) (ps : List (Nat × Nat)) (S : List Int) (c : Nat → Int), vs = [.ref b, .ref x, .int h, .ref t, .ref o] ∧ 1 ≤ n ∧ n ≤ 16 ∧ 2 ≤ h ∧ h ≤ 10 ∧ Ranked (relOf ps) ∧ StOk n h S ∧ Bx H b ∧ Tabs TL (hid H b) ∧ HsOk C (hid H b) x n h ps ∧ hid H b t = some (.tup (stV S)) ∧ hid H b o = some (.lst (cL n c)) ∧ (∀ v, v < n → 0 ≤ c v ∧ c v < 1000000) ∧ ∀ H', Q (.bl true) H'
theorem ok__law_refusals (T : Txt K mg C) {f : Addr} {fd : FuncData} (F : Fun K "_law_refusals" "_law_refusals" s__law_refusals f fd) (c__law_take : Cal P w K mg base "_law_take" 1 spTake) (c__law_odd_state : Cal P w K mg base "_law_odd_state" 2 spOddSt) (c_Tally : NCal P w K mg base CT "Tally" 3 (spTInit CT)) (c__law_told : CalG P w K mg base "_law_told" 8 (spTold33 C CT TL)) : GOk P w K mg base CX0 9 f fd ["box", "home", "base", "first", "lot"] (spRefusals33 C TL) := by
  refine F.okG sc__law_refusals (fun vs H Q E h => ?_) (fun cdv A gA outer s H vs Q E hr h => ?_)
  · obtain ⟨b, x, t, o, n, h, ps, S, c, rfl, _⟩ := h; rfl
  · obtain ⟨b, x, t, o, n, h, ps, S, c, rfl, n1, n16, h2, h10, hR, okS, bx, hT, hs, hts, ho, sm, q⟩ := h
    have rg : RG (A.deeper (envOfC "_law_refusals" (defScope s__law_refusals) s.heap.objs.size f cdv)) := ⟨gA, hr.u100⟩
    have h1 : 1 ≤ h := by omega
    refine ⟨_, (pss_cons (ps_set (i := 5) sc__law_refusals.nd rfl (by first | exact Or.inl rfl | exact Or.inr rfl) (pe_cal c__law_odd_state (hr.mono (by decide)) (pa_cons (pv 0) (pa_cons (pv 3) (pa_cons (pv 2) pa_nil)))))
      (pss_cons (ps_set (i := 6) sc__law_refusals.nd rfl (by first | exact Or.inl rfl | exact Or.inr rfl) (pe_lst (pa_cons (pe_op op_cat (pv 4) (pe_lst (pa_cons (pe_op op_add pe_int (pe_cal c__law_take (hr.mono (by decide)) (pa_cons (pv 0) (pa_cons pe_int pa_nil)))) pa_nil))) (pa_cons (pe_op op_cat (pe_op op_cat (pv 4) (pv 4)) (pe_lst (pa_cons pe_int pa_nil))) pa_nil))))
      (C8.pss_cut (ps_if (pt_cmpR op_gt (pe_callB (lenS_ K) (by rfl) T.len b_len (pa_cons (pv 4) pa_nil)) pe_int (nomark _))
      (pss_one (ps_expr (pe_bm PySem.F.plainAttrs_list PySem.F.slot_list_append PySem.F.type_list_append mt_append (pv 6) (pa_cons (pe_slice (slL_ K) (pv 4) (po_some pe_int) po_none) pa_nil)))) pss_nil)
      (pss_cons (ps_for PassesOwn.never rfl (pil_ K (pv 6)) (pg_name (i := 7) sc__law_refusals.nd rfl (by first | exact Or.inl rfl | exact Or.inr rfl))
      (pss_cons (ps_set (i := 8) sc__law_refusals.nd rfl (by first | exact Or.inl rfl | exact Or.inr rfl) (pe_ncal c_Tally (hr.mono (by decide)) (pa_cons (pe_callTy (lstOf_ K) (by rfl) T.list b_list (pa_cons (pv 7) pa_nil)) pa_nil)))
      (pss_one (ps_for PassesOwn.never rfl (pil_ K (pe_lst (pa_cons pe_int (pa_cons pe_non pa_nil)))) (pg_name (i := 9) sc__law_refusals.nd rfl (by first | exact Or.inl rfl | exact Or.inr rfl))
      (pss_cons (ps_if (pt_cmpR (hu_neD K hr.units) (pe_calR c__law_told rg (hr.mono (by decide)) (pa_cons (pv 1) (pa_cons (pv 3) (pa_cons (pv 8) (pa_cons (pv 9) pa_nil))))) (pe_tup (pa_cons pe_str (pa_cons (pe_callB (cr_reprR rg) (by rfl) T.repr b_repr (pa_cons (pe_callTy (tupOf_ K) (by rfl) T.tuple b_tuple (pa_cons (pv 7) pa_nil)) pa_nil)) (pa_cons pe_bl pa_nil)))) (nomark _))
      (pss_one (ps_ret pe_bl)) pss_nil)
      (pss_one (ps_if (pt_cmpR (hu_neD K hr.units) (pe_calR c__law_told rg (hr.mono (by decide)) (pa_cons (pv 1) (pa_cons (pv 5) (pa_cons (pv 8) (pa_cons (pv 9) pa_nil))))) (pe_tup (pa_cons pe_str (pa_cons (pe_callB (cr_reprR rg) (by rfl) T.repr b_repr (pa_cons (pv 5) pa_nil)) (pa_cons pe_bl pa_nil)))) (nomark _))
      (pss_one (ps_ret pe_bl)) pss_nil)))))))
      (pss_one (ps_ret (pe_cmpR (hu_eqD K hr.units) (pe_calR c__law_told rg (hr.mono (by decide)) (pa_cons (pv 1) (pa_cons (pv 5) (pa_cons (pe_ncal c_Tally (hr.mono (by decide)) (pa_cons (pe_callTy (lstOf_ K) (by rfl) T.list b_list (pa_cons (pv 4) pa_nil)) pa_nil)) (pa_cons pe_int pa_nil))))) (pe_tup (pa_cons pe_str (pa_cons (pe_callB (cr_reprR rg) (by rfl) T.repr b_repr (pa_cons (pv 5) pa_nil)) (pa_cons pe_bl pa_nil)))) (nomark _)))))))), ?_⟩
    rw [cL_stV] at ho
    generalize hL : (List.range n).map c = L at ho
    have lL : L.length = n := by rw [← hL, List.length_map, List.length_range]
    have smL : ∀ z ∈ L, 0 ≤ z ∧ z < 1000000 := fun z hz => by
      rw [← hL] at hz
      obtain ⟨i, hi, rfl⟩ := List.mem_map.mp hz
      exact sm i (List.mem_range.mp hi)
    clear hL sm c
    have lV : (stV L).length = n := by rw [List.length_map, lL]
    refine ⟨_, rfl, _, rfl, _, rfl, b, t, n, h, S, rfl, n1, n16, h2, h10, bx, hts, okS, fun ov od H bx sa lod bod kod => ?_⟩
    have hs := hs.same sa
    have hT := hT.ext sa
    have hts := sa _ _ hts
    have ho := sa _ _ ho
    clear sa
    dsimp only [List.set_cons_succ, List.set_cons_zero]
    refine ⟨_, rfl, _, rfl, b, 3, rfl, by decide, by decide, bx, fun d H1 hd b1 s1 => ⟨_, _, rfl, rfl, ?_⟩⟩
    refine ⟨by show 1 ≤ sizeLine; decide, fun p1 np1 => ?_⟩
    obtain ⟨s2, h2', b2⟩ := hid_add (o := .lst [V.int (1 + (d : Int))]) b1 np1
    generalize L2.upd H1 p1 (.lst [V.int (1 + (d : Int))]) = H2 at s2 h2' b2 ⊢
    have s02 := s1.trans s2
    refine ⟨o, p1, _, _, rfl, rfl, (hid_some (s02 _ _ ho)).1, (hid_some h2').1, by rw [lV, sizeLine_eq]; show n + 1 ≤ _; omega, fun p2 np2 => ?_⟩
    obtain ⟨s3, h3, b3⟩ := hid_add (o := .lst (stV L ++ [V.int (1 + (d : Int))])) b2 np2
    generalize L2.upd H2 p2 (.lst (stV L ++ [V.int (1 + (d : Int))])) = H3 at s3 h3 b3 ⊢
    have s03 := s02.trans s3
    refine ⟨_, rfl, _, rfl, o, o, _, _, rfl, rfl, (hid_some (s03 _ _ ho)).1, (hid_some (s03 _ _ ho)).1, by rw [lV, sizeLine_eq]; omega, fun p3 np3 => ?_⟩
    obtain ⟨s4, h4, b4⟩ := hid_add (o := .lst (stV L ++ stV L)) b3 np3
    generalize L2.upd H3 p3 (.lst (stV L ++ stV L)) = H4 at s4 h4 b4 ⊢
    refine ⟨by show 1 ≤ sizeLine; decide, fun p4 np4 => ?_⟩
    obtain ⟨s5, h5, b5⟩ := hid_add (o := .lst [V.int 2000]) b4 np4
    generalize L2.upd H4 p4 (.lst [V.int 2000]) = H5 at s5 h5 b5 ⊢
    refine ⟨p3, p4, _, _, rfl, rfl, (hid_some (s5 _ _ h4)).1, (hid_some h5).1, by rw [List.length_append, lV, sizeLine_eq]; show n + n + 1 ≤ _; omega, fun p5 np5 => ?_⟩
    obtain ⟨s6, h6, b6⟩ := hid_add (o := .lst (stV L ++ stV L ++ [V.int 2000])) b5 np5
    generalize L2.upd H5 p5 (.lst (stV L ++ stV L ++ [V.int 2000])) = H6 at s6 h6 b6 ⊢
    refine ⟨by show 2 ≤ sizeLine; decide, fun p6 np6 => ?_⟩
    obtain ⟨s7, h7, b7⟩ := hid_add (o := .lst [V.ref p2, V.ref p5]) b6 np6
    generalize L2.upd H6 p6 (.lst [V.ref p2, V.ref p5]) = H7 at s7 h7 b7 ⊢
    have s06 := s03.trans (s4.trans (s5.trans s6))
    have s07 := s06.trans s7
    have f6 : hid H b p6 = none := s06.free (hid_none np6)
    have g2 : hid H6 b p2 = some (.lst (stV (L ++ [1 + (d : Int)]))) := by
      rw [(s4.trans (s5.trans s6)) _ _ h3]
      unfold stV
      rw [List.map_append]
      rfl
    have g5 : hid H6 b p5 = some (.lst (stV (L ++ L ++ [(2000 : Int)]))) := by
      rw [h6]
      unfold stV
      rw [List.map_append, List.map_append]
      rfl
    have ne2 : p2 ≠ p6 := ne_of_none g2 (hid_none np6)
    have ne5 : p5 ≠ p6 := ne_of_none g5 (hid_none np6)
    have r2 : ∀ {G : Hp}, hid G b p2 = hid H6 b p2 → RowOk n (hid G b) p2 := fun e => ⟨L ++ [1 + (d : Int)], e.trans g2, by rw [List.length_append]; show 1 ≤ L.length + 1; omega, by rw [List.length_append, lL]; show n + 1 ≤ 40; omega, by rw [List.length_append, lL]; show n + 1 ≠ n; omega, fun z hz => by
        rcases List.mem_append.mp hz with e | e
        · exact smL z e
        · rw [List.mem_singleton.mp e]; omega⟩
    have r5 : ∀ {G : Hp}, hid G b p5 = hid H6 b p5 → RowOk n (hid G b) p5 := fun e => ⟨L ++ L ++ [(2000 : Int)], e.trans g5, by rw [List.length_append]; show 1 ≤ (L ++ L).length + 1; omega, by rw [List.length_append, List.length_append, lL]; show n + n + 1 ≤ 40; omega, by rw [List.length_append, List.length_append, lL]; show n + n + 1 ≠ n; omega, fun z hz => by
        rcases List.mem_append.mp hz with e | e
        · rcases List.mem_append.mp e with e | e
          · exact smL z e
          · exact smL z e
        · rw [List.mem_singleton.mp e]; omega⟩
    have e72 : hid H7 b p2 = hid H6 b p2 := (s7 _ _ g2).trans g2.symm
    have e75 : hid H7 b p5 = hid H6 b p5 := (s7 _ _ g5).trans g5.symm
    have ho7 := s07 _ _ ho
    clear s7 s6 h6 s5 h5 b6 b5 b4 s4 h4 s03 s3 h3 b3 s02 s2 h2' b2 s1 b1 s06
    dsimp only [List.set_cons_succ, List.set_cons_zero]
    refine ⟨fun σ G => ∃ rs : List Addr, σ = [some (.ref b), some (.ref x), some (.int (h : Nat)), some (.ref t), some (.ref o), some ov, some (.ref p6), none, none, none] ∧ Bx G b ∧ Same (hid H b) (hid G b) ∧ hid G b p6 = some (.lst (rs.map V.ref)) ∧ ∀ p ∈ rs, RowOk n (hid G b) p, ?_, ?_⟩
    · refine ⟨_, rfl, o, _, rfl, .inl (SqL.of (hid_some ho7).1), _, _, rfl, rfl, _, rfl, ite2 (fun z => ?_) fun _ => ⟨[p2, p5], rfl, b7, s07, h7, fun p hp => ?_⟩⟩
      · have z : 1 < ((stV L).length : Int) := of_decide_eq_true z
        rw [lV] at z
        refine ⟨_, rfl, .inl ⟨rfl, _, SqL.of (hid_some h7).1⟩, _, rfl, _, rfl, o, _, rfl, SqL.of (hid_some ho7).1, fun p np => ?_⟩
        rw [cut_rest (l := L) (g := V.int) rfl]
        obtain ⟨s8, h8, b8⟩ := hid_add (o := .lst ((L.drop 1).map V.int)) b7 np
        have f8 : hid H7 b p = none := hid_none np
        generalize L2.upd H7 p (.lst ((L.drop 1).map V.int)) = H8 at s8 h8 b8 ⊢
        have h78 := s8 _ _ h7
        refine ⟨p6, _, _, rfl, rfl, (hid_some h78).1, by show 2 < sizeLine; decide, ?_⟩
        have nep : p ≠ p6 := fun z => by rw [z, h7] at f8; cases f8
        have np2' : p2 ≠ p6 := ne2
        refine ⟨[p2, p5, p], rfl, b8.put h78, ?_, by rw [hid_put h78, upd_same]; rfl, fun p' hp' => ?_⟩
        · rw [hid_put h78]
          exact same_upd (s07.trans s8) f6
        · have e82 : hid H8 b p2 = hid H6 b p2 := (s8 _ _ (e72.trans g2)).trans g2.symm
          have e85 : hid H8 b p5 = hid H6 b p5 := (s8 _ _ (e75.trans g5)).trans g5.symm
          rcases List.mem_cons.mp hp' with e | hp'
          · rw [e]
            exact r2 (by rw [hid_put h78, upd_ne ne2]; exact e82)
          rcases List.mem_cons.mp hp' with e | hp'
          · rw [e]
            exact r5 (by rw [hid_put h78, upd_ne ne5]; exact e85)
          · rw [List.mem_singleton.mp hp']
            exact ⟨L.drop 1, by rw [hid_put h78, upd_ne nep]; exact h8, by rw [List.length_drop, lL]; omega, by rw [List.length_drop, lL]; omega, by rw [List.length_drop, lL]; omega, fun z hz => smL z (List.mem_of_mem_drop hz)⟩
      · rcases List.mem_cons.mp hp with e | hp
        · rw [e]; exact r2 e72
        · rw [List.mem_singleton.mp hp]; exact r5 e75
    clear r2 r5 e72 e75 ho7 g2 g5 ne2 ne5 f6 s07 h7 b7
    rintro σ G ⟨rs, rfl, bG, sG, hr6, all⟩
    have hsG := (hs.same sG).same hid_same
    have TG := (hT.ext sG).ext hid_same
    have htG := (hid_some (sG _ _ hts)).1
    have hoG := (hid_some (sG _ _ ho)).1
    have lodG := (lod.same sG).same hid_same
    have allG : ∀ p ∈ rs, RowOk n G p := fun p hp => (all p hp).same hid_same
    have hrG := (hid_some hr6).1
    clear all hr6 sG bG lod hs hT hts ho
    have posL : ∀ {S' : List Int}, (∀ z ∈ S', 0 ≤ z ∧ z < 1000000) → ∀ i, i < S'.length → 0 ≤ S'.getD i 0 := fun a i hi => (a _ (getD_mem hi)).1
    refine ⟨_, rfl, p6, rfl, ⟨_, SqL.of hrG⟩, ?_⟩
    refine for_list (K := K) (a := p6) (xs := rs.map V.ref) (fun i σ G2 => ∃ v7 v8 v9 : Option V, σ = [some (.ref b), some (.ref x), some (.int (h : Nat)), some (.ref t), some (.ref o), some ov, some (.ref p6), v7, v8, v9] ∧ Same G G2) ⟨_, _, _, rfl, Same.refl _⟩ (fun i σ G2 _ ⟨_, _, _, _, s⟩ => SqL.of (s _ _ hrG)) ?_ ?_
    · rintro i u σ G2 hu ⟨v7, v8, v9, rfl, sG⟩
      obtain ⟨p, hp, rfl⟩ : ∃ p, p ∈ rs ∧ u = V.ref p := by
        obtain ⟨p, hp, e⟩ := List.mem_map.mp (List.mem_of_getElem? hu)
        exact ⟨p, hp, e.symm⟩
      obtain ⟨S', hS, l1, l40, ne, sm'⟩ := (allG p hp).same sG
      refine ⟨_, rfl, p, _, rfl, .inl (SqL.of hS), fun l nl => mk_tl (c := fun i => S'.getD i 0) (by rw [← st_cL]; exact upd_same) l1 l40 (posL sm') fun H4 y s4 ty => ?_⟩
      have s34 := (same_new (o := .lst (stV S')) nl).trans s4
      have hS4 := s34 _ _ hS
      have sG4 := sG.trans s34
      refine ⟨by show 2 ≤ sizeLine; decide, fun cl ncl => ?_⟩
      have s5 : Same H4 (L2.upd H4 cl (.lst [V.int 0, V.non])) := same_new ncl
      have hcl : (L2.upd H4 cl (.lst [V.int 0, V.non])) cl = some (.lst [V.int 0, V.non]) := upd_same
      generalize L2.upd H4 cl (.lst [V.int 0, V.non]) = H5 at s5 hcl ⊢
      have sG5 := sG4.trans s5
      have hS5 := s5 _ _ hS4
      have ty5 := ty.same s5
      clear s5 ncl hS4 s34 s4 hS nl sG4 ty
      refine ⟨cl, rfl, ⟨_, SqL.of hcl⟩, ?_⟩
      refine for_list (K := K) (a := cl) (xs := [V.int 0, V.non]) (fun i σ G6 => ∃ v9 : Option V, σ = [some (.ref b), some (.ref x), some (.int (h : Nat)), some (.ref t), some (.ref o), some ov, some (.ref p6), some (.ref p), some (.ref y), v9] ∧ Same H5 G6) ⟨_, rfl, Same.refl _⟩ (fun i σ G6 _ ⟨_, _, s⟩ => SqL.of (s _ _ hcl)) ?_ ?_
      · rintro i cap σ G6 hcap ⟨v9, rfl, s6⟩
        obtain ⟨lim, lv⟩ : ∃ lim : Int, LimV cap lim := by
          rcases List.mem_cons.mp (List.mem_of_getElem? hcap) with rfl | hc
          · exact ⟨0, .inl rfl⟩
          · rw [List.mem_singleton.mp hc]
            exact ⟨1000, .inr ⟨rfl, rfl⟩⟩
        have sG6 := sG5.trans s6
        refine ⟨_, rfl, _, rfl, _, rfl, _, rfl, told_wrong (E := E0) (TG.ext sG6) (hsG.same sG6) (sG6 _ _ htG) okS n16 h1 h10 hR (ty5.same s6) l40 ne sm' lv fun pd H7 s7 hpd => ?_⟩
        have s67 := s6.trans s7
        refine ⟨_, rfl, p, _, rfl, .inl ⟨SqL.of (s67 _ _ hS5), fun t2 nt => ?_⟩⟩
        dsimp only [tNil]
        refine (st_lf2 upd_same l40 fun z hz => small38 (sm' z hz)).repr ?_
        have s68 := s67.trans (same_new (o := .tup (stV S')) nt)
        have hpd8 := same_new (o := .tup (stV S')) nt _ _ hpd
        generalize L2.upd H7 t2 (.tup (stV S')) = H8 at s68 hpd8 ⊢
        refine ⟨by show 3 ≤ sizeLine; decide, fun p8 np8 => told_ne (same_new np8 _ _ hpd8) upd_same (SOk.of "tally") (SOk.tup (SOk.ints S')) ⟨_, rfl, iteF ?_⟩⟩
        have s69 := s68.trans (same_new (o := .tup [.str "tally", .str (stD S').shown, .bl true]) np8)
        generalize L2.upd H8 p8 (.tup [.str "tally", .str (stD S').shown, .bl true]) = H9 at s69 ⊢
        have sG9 := sG5.trans s69
        clear hpd8 s68 hpd s7 s67
        refine ⟨_, rfl, _, rfl, _, rfl, _, rfl, told_odd (E := E0) (TG.ext sG9) (hsG.same sG9) (lodG.same sG9) bod n16 h1 h10 hR (ty5.same s69) l40 sm' lv fun pd H10 s10 hpd => ?_⟩
        refine ⟨_, rfl, ?_⟩
        dsimp only [tNil]
        refine ((lodG.same sG9).same s10).repr ?_
        exact ⟨by show 3 ≤ sizeLine; decide, fun p8 np8 => told_ne (same_new np8 _ _ hpd) upd_same (SOk.of "state") kod ⟨_, rfl, iteF ⟨_, rfl, s69.trans (s10.trans (same_new np8))⟩⟩⟩
      · rintro σ G6 ⟨v9, rfl, s6⟩
        exact ⟨_, _, _, rfl, sG5.trans s6⟩
    · rintro σ G2 ⟨v7, v8, v9, rfl, sG⟩
      refine ⟨_, rfl, _, rfl, _, rfl, o, _, rfl, .inl (SqL.of (sG _ _ hoG)), fun l nl => mk_tl (n := L.length) (c := fun i => L.getD i 0) (by rw [← st_cL]; exact upd_same) (by omega) (by omega) (posL smL) fun H4 y s4 ty => ?_⟩
      have sG4 := sG.trans ((same_new (o := .lst (stV L)) nl).trans s4)
      refine told_odd (E := E0) (TG.ext sG4) (hsG.same sG4) (lodG.same sG4) bod n16 h1 h10 hR ty (by omega) smL (.inl rfl) fun pd H9 s9 hpd => ?_
      refine ⟨_, rfl, ?_⟩
      dsimp only [tNil]
      refine ((lodG.same sG4).same s9).repr ?_
      exact ⟨by show 3 ≤ sizeLine; decide, fun p8 np8 => told_eq (same_new np8 _ _ hpd) upd_same (SOk.of "state") kod (q _)⟩
end
end Hue

end
section
set_option maxRecDepth 100000
set_option maxHeartbeats 8000000
namespace Hue
open PySem PySem.Spec PyProof.Rows L2 LamA LamX
section
variable {P : Program} {w : World} {K : PySem.W.Frag} {mg : Str → Option Value} {base : Heap} {C CT CE CS CL CR CG CI : Addr} {TL : List (Addr × Str)}
/-- with two hues counts no more than double along a line -/
theorem most_two {n h : Nat} {R : Rel} {S D : List Int} {lot : Nat → Int} {line : List Nat} (h2 : h ≤ 2) (h1 : 1 ≤ h) (okS : StOk n h S) (okD : StOk n h D) (ok : OrdOk n R line) (all : ∀ v, v < n → v ∈ line) (pos : ∀ v, v < n → 0 ≤ lot v) (hl : ∀ v, v < n → lot v = mostF n h R S D lot v) : sumN n lot + 1 ≤ 2 ^ line.length := by
  have sumle : ∀ (M : List Nat) (v : Nat), (∀ u ∈ M, 0 ≤ lot u) → ldS M R lot v ≤ (M.map lot).sum := by
    intro M v
    induction M with
    | nil => intro _; exact Int.le_refl 0
    | cons u M ih =>
      intro h
      have z := ih fun w hw => h w (List.mem_cons_of_mem _ hw)
      have u0 := h u List.mem_cons_self
      rw [List.map_cons, List.sum_cons]
      unfold ldS at z ⊢
      by_cases r : R u v = true
      · rw [List.filter_cons, if_pos r, List.map_cons, List.sum_cons]; omega
      · rw [List.filter_cons, if_neg r]; omega
  have step : ∀ i : Nat, i ≤ line.length → ((line.take i).map lot).sum + 1 ≤ 2 ^ i := by
    intro i
    induction i with
    | zero => intro _; rw [List.take_zero]; show (0 : Int) + 1 ≤ 1; decide
    | succ i ih =>
      intro hi
      have z := ih (by omega)
      obtain ⟨k, hk⟩ : ∃ k, line[i]? = some k := ⟨_, List.getElem?_eq_getElem (by omega)⟩
      have kn := ok.lt k (List.mem_of_getElem? hk)
      rw [List.take_add_one, hk, List.map_append, List.sum_append]
      show _ + ([lot k].sum) + 1 ≤ _
      rw [List.sum_cons, List.sum_nil]
      have e : lot k = at_ S k - at_ D k + ((h : Int) - 1) * bur n R lot k := hl k kn
      have eb : ldS (line.take i) R lot k = bur n R lot k := ldS_all lot (ok.nd.sublist (List.take_sublist _ _)) (fun u hu => ok.lt u (List.mem_of_mem_take hu)) (ok.up i k hk)
      have b1 := sumle (line.take i) k fun u hu => pos u (ok.lt u (List.mem_of_mem_take hu))
      rw [eb] at b1
      have b0 : 0 ≤ bur n R lot k := ldS_nonneg fun u hu _ => pos u (List.mem_range.mp hu)
      have s1 := okS.at kn
      have d1 := okD.at kn
      have m1 := Int.mul_le_mul_of_nonneg_right (show (h : Int) - 1 ≤ 1 by omega) b0
      rw [Int.pow_succ]
      omega
  have z := step line.length (Nat.le_refl _)
  rw [List.take_length] at z
  have e : (line.map lot).sum = sumN n lot := sum_perm (List.Perm.map lot ((List.perm_ext_iff_of_nodup ok.nd List.nodup_range).mpr fun v => ⟨fun hv => List.mem_range.mpr (ok.lt v hv), fun hv => all v (List.mem_range.mp hv)⟩))
  rw [e] at z
  exact z
abbrev s__law_edge : Stmt := top 62
theorem sc__law_edge : FnScope ["box", "line", "left", "first", "v"] ["box"] (defScope s__law_edge) := ⟨rfl, rfl, rfl, by decide +kernel, rfl, by decide +kernel, by decide +kernel⟩
-- slots of _law_edge: 0 box, 1 line, 2 left, 3 first, 4 v
def spEdge : Sp := fun vs H Q _ => ∃ (b : Addr), vs = [.ref b] ∧ Bx H b ∧ ∀ (p ln t : Addr) (line : List Nat) (S : List Int) (H' : Hp), LineOk 10 line → StOk 10 2 S → Bx H' b → Same (hid H b) (hid H' b) → hid H' b p = some (.tup [.ref ln, .ref t]) → hid H' b ln = some (.lst (nL line)) → hid H' b t = some (.tup (stV S)) → Q (.ref p) H'
theorem ok__law_edge (T : Txt K mg C) {f : Addr} {fd : FuncData} (F : Fun K "_law_edge" "_law_edge" s__law_edge f fd) (c__law_line : Cal P w K mg base "_law_line" 2 spLine) (c__law_take : Cal P w K mg base "_law_take" 1 spTake) : FnOk P w K mg base CX0 3 f fd ["box"] spEdge := by
  refine F.ok sc__law_edge (fun vs H Q E h => ?_) (fun cdv A outer s H vs Q E hr h => ?_)
  · obtain ⟨b, rfl, _⟩ := h; rfl
  · obtain ⟨b, rfl, bx, q⟩ := h
    refine ⟨_, (pss_cons (ps_set (i := 1) sc__law_edge.nd rfl (by first | exact Or.inl rfl | exact Or.inr rfl) (pe_cal c__law_line (hr.mono (by decide)) (pa_cons (pv 0) (pa_cons pe_int pa_nil))))
      (pss_cons (ps_set (i := 2) sc__law_edge.nd rfl (by first | exact Or.inl rfl | exact Or.inr rfl) (pe_op op_add pe_int (pe_cal c__law_take (hr.mono (by decide)) (pa_cons (pv 0) (pa_cons pe_int pa_nil)))))
      (pss_cons (ps_set (i := 3) sc__law_edge.nd rfl (by first | exact Or.inl rfl | exact Or.inr rfl) (pe_op op_rep (pe_lst (pa_cons pe_int pa_nil)) pe_int))
      (pss_cons (ps_for PassesOwn.never rfl (pil_ K (revL_ K (pv 1))) (pg_name (i := 4) sc__law_edge.nd rfl (by first | exact Or.inl rfl | exact Or.inr rfl))
      (pss_cons (ps_asg (pe_op op_mod (pe_callTy call_int1 (by rfl) T.int b_int (pa_cons (pv 2) pa_nil)) pe_int) (pg_sub (pv 3) (pv 4) set_list))
      (pss_one (ps_set (i := 2) sc__law_edge.nd rfl (by first | exact Or.inl rfl | exact Or.inr rfl) (pe_op op_fdiv (pv 2) pe_int)))))
      (pss_one (ps_ret (pe_tup (pa_cons (pv 1) (pa_cons (pe_callTy (tupOf_ K) (by rfl) T.tuple b_tuple (pa_cons (pv 3) pa_nil)) pa_nil))))))))), ?_⟩
    refine ⟨_, rfl, b, 10, rfl, by decide, bx, fun line ln H1 lok b1 s1 _ hln => ?_⟩
    refine ⟨_, rfl, b, 5, rfl, by decide, by decide, b1, fun d H2 hd b2 s2 => ⟨_, _, rfl, rfl, ?_⟩⟩
    have hln2 := s2 _ _ hln
    have s02 := s1.trans s2
    refine ⟨by decide, fun z1 nz1 => ?_⟩
    refine ⟨z1, _, _, rfl, rfl, upd_same, by decide, by decide, by rw [sizeLine_eq]; decide, fun pw npw => ?_⟩
    rw [show (List.replicate (10 : Int).toNat [V.int 0]).flatten = cL 10 fun _ => 0 from rfl]
    have npz : hid H2 b z1 = none := hid_none nz1
    obtain ⟨s3, h3, b3⟩ := hid_add (o := .lst [.int 0]) b2 nz1
    obtain ⟨s4, h4, b4⟩ := hid_add (o := .lst (cL 10 fun _ => 0)) b3 npw
    have s34 := s3.trans s4
    have fpw : hid H b pw = none := (s02.trans s3).free (hid_none npw)
    generalize L2.upd (L2.upd H2 z1 (.lst [.int 0])) pw (.lst (cL 10 fun _ => 0)) = H4 at s34 h4 b4 ⊢
    have nlw : ln ≠ pw := fun z => by rw [← z, (hid_some (s3 _ _ hln2)).1] at npw; cases npw
    clear s3 h3 b3 s4 npw
    have s04 := s02.trans s34
    have hln4 := s34 _ _ hln2
    refine ⟨_, rfl, ln, _, rfl, SqL.of (hid_some hln4).1, fun rv nrv => ?_⟩
    obtain ⟨s5, h5, b5⟩ := hid_add (o := .lst (nL line).reverse) b4 nrv
    have nrw : rv ≠ pw := fun z => by rw [z, (hid_some h4).1] at nrv; cases nrv
    generalize L2.upd H4 rv (.lst (nL line).reverse) = H5 at s5 h5 b5 ⊢
    have h4' := s5 _ _ h4
    refine ⟨rv, rfl, ⟨_, SqL.of (hid_some h5).1⟩, ?_⟩
    have ll := lok.1
    refine for_list (K := K) (a := rv) (xs := (nL line).reverse) (fun i σ G => ∃ (lf : Int) (f : Nat → Int) (v4 : Option V), σ = [some (.ref b), some (.ref ln), some (.int lf), some (.ref pw), v4] ∧ Bx G b ∧ Same (hid H b) (hid G b) ∧ hid G b ln = some (.lst (nL line)) ∧ hid G b rv = some (.lst (nL line).reverse) ∧ hid G b pw = some (.lst (cL 10 f)) ∧ ∀ v, 0 ≤ f v ∧ f v < 2) ⟨_, fun _ => 0, _, rfl, b5, s04.trans s5, s5 _ _ hln4, h5, h4', fun v => by show (0 : Int) ≤ 0 ∧ (0 : Int) < 2; decide⟩ (fun i σ G _ ⟨_, _, _, _, _, _, _, hv, _⟩ => SqL.of (hid_some hv).1) ?_ ?_
    · rintro i y σ G hy ⟨lf, f, v4, rfl, bG, sG, g1, g2, g3, fb⟩
      have hi : i < 10 := by
        have := (List.getElem?_eq_some_iff.mp hy).1
        rw [List.length_reverse, nL_len] at this
        omega
      rw [List.getElem?_reverse (by rw [nL_len]; omega), nL_len, ll] at hy
      obtain ⟨u, hu, rfl⟩ := nL_it2 hy
      have un : u < 10 := lok.2.2 u (List.mem_of_getElem? hu)
      refine ⟨_, rfl, .inl ⟨_, rfl, _, _, rfl, rfl, (by show (0 : Int) < 2; decide), ?_⟩⟩
      have e2 := hid_put (b := b) g3 (o := .lst ((cL 10 f).set u (V.int (lf % 2))))
      have b2' := bG.put g3 (o := .lst ((cL 10 f).set u (V.int (lf % 2))))
      refine ⟨_, rfl, _, rfl, pw, _, _, u, rfl, rfl, (hid_some g3).1, ixN_nat (by rw [cL_len]; exact un), ?_⟩
      have nrw' : rv ≠ pw := nrw
      refine ⟨_, rfl, _, _, rfl, rfl, ⟨by decide, by decide⟩, _, fun v => if v = u then lf % 2 else f v, _, rfl, b2', ?_, ?_, ?_, ?_, fun v => ?_⟩
      · rw [e2]; exact same_upd sG fpw
      · rw [e2, upd_ne nlw]; exact g1
      · rw [e2, upd_ne nrw']; exact g2
      · rw [e2, upd_same, cL_set un]
      · show 0 ≤ (if v = u then lf % 2 else f v) ∧ (if v = u then lf % 2 else f v) < 2
        split
        · omega
        · exact fb v
    · rintro σ G ⟨lf, f, v4, rfl, bG, sG, g1, g2, g3, fb⟩
      refine ⟨_, rfl, _, rfl, pw, _, rfl, .inl ⟨SqL.of (hid_some g3).1, fun t nt => ⟨by show 2 ≤ sizeLine; decide, fun p np => ?_⟩⟩⟩
      obtain ⟨s6, h6, b6⟩ := hid_add (o := .tup (cL 10 f)) bG nt
      obtain ⟨s7, h7, b7⟩ := hid_add (o := .tup [.ref ln, .ref t]) b6 np
      have ec : cL 10 f = stV ((List.range 10).map f) := by unfold cL stV; rw [List.map_map]; rfl
      refine q p ln t line ((List.range 10).map f) _ lok ⟨by rw [List.length_map, List.length_range], fun z hz => ?_⟩ b7 (sG.trans (s6.trans s7)) h7 (s7 _ _ (s6 _ _ g1)) (s7 _ _ (by rw [← ec]; exact h6))
      obtain ⟨v, _, rfl⟩ := List.mem_map.mp hz
      have := fb v
      exact ⟨this.1, this.2⟩
/-- a chain down a line of ten -/
def chP (line : List Nat) : List (Nat × Nat) := (List.range 9).map fun k => (line.getD k 0, line.getD (k + 1) 0)
theorem getD_at {line : List Nat} {k : Nat} (h : k < line.length) : line[k]? = some (line.getD k 0) := by rw [List.getD_eq_getElem?_getD, List.getElem?_eq_getElem h]; rfl
theorem chP_down {line : List Nat} (l : LineOk 10 line) : Down line (chP line) := fun p hp => by
  obtain ⟨k, hk, rfl⟩ := List.mem_map.mp hp
  have := List.mem_range.mp hk
  exact ⟨k, k + 1, Nat.lt_succ_self k, getD_at (by rw [l.1]; omega), getD_at (by rw [l.1]; omega)⟩
theorem chP_nodup {line : List Nat} (l : LineOk 10 line) : (chP line).Nodup := by
  unfold chP
  rw [List.nodup_iff_pairwise_ne, List.pairwise_map]
  refine List.Pairwise.imp_of_mem (fun {a b} ha hb ne e => ?_) List.nodup_range
  have := List.mem_range.mp ha
  have := List.mem_range.mp hb
  injection e with e1 e2
  have h1 := getD_at (line := line) (k := a) (by rw [l.1]; omega)
  have h2 := getD_at (line := line) (k := b) (by rw [l.1]; omega)
  rw [e1] at h1
  exact ne (nodup_at l.2.1 h1 h2)
abbrev s__law_at_default : Stmt := top 63
theorem sc__law_at_default : FnScope ["box", "line", "first", "wires", "k", "low", "home", "lot"] ["box"] (defScope s__law_at_default) := ⟨rfl, rfl, rfl, by decide +kernel, rfl, by decide +kernel, by decide +kernel⟩
-- slots of _law_at_default: 0 box, 1 line, 2 first, 3 wires, 4 k, 5 low, 6 home, 7 lot
def spDefault33 (TL : List (Addr × Str)) : Sp := fun vs H Q _ => ∃ (b : Addr), vs = [.ref b] ∧ Bx H b ∧ Tabs TL (hid H b) ∧ ∀ H', Bx H' b → ExtN (hid H b) (hid H' b) → Tabs TL (hid H' b) → Q (.bl true) H'
theorem ok__law_at_default (T : Txt K mg C) {f : Addr} {fd : FuncData} (F : Fun K "_law_at_default" "_law_at_default" s__law_at_default f fd) (c__law_edge : Cal P w K mg base "_law_edge" 3 spEdge) (c__law_low : Cal P w K mg base "_law_low" 1 (Off (Off spLow))) (c_House : NCal P w K mg base C "House" 5 (Off (Off (spInit K C)))) (c__law_most : Cal P w K mg base "_law_most" 1 spMostL) (c__law_fitting : CalG P w K mg base "_law_fitting" 9 (spFitting C TL)) : GOk P w K mg base CX0 10 f fd ["box"] (spDefault33 TL) := by
  refine F.okG sc__law_at_default (fun vs H Q E h => ?_) (fun cdv A gA outer s H vs Q E hr h => ?_)
  · obtain ⟨b, rfl, _⟩ := h; rfl
  · obtain ⟨b, rfl, bx, hT, q⟩ := h
    have rg : RG (A.deeper (envOfC "_law_at_default" (defScope s__law_at_default) s.heap.objs.size f cdv)) := ⟨gA, hr.u100⟩
    refine ⟨_, (pss_cons (ps_asg (pe_cal c__law_edge (hr.mono (by decide)) (pa_cons (pv 0) pa_nil)) (pg_tup (by rfl) (pgs_cons (pg_name (i := 1) sc__law_at_default.nd rfl (by first | exact Or.inl rfl | exact Or.inr rfl)) (pgs_cons (pg_name (i := 2) sc__law_at_default.nd rfl (by first | exact Or.inl rfl | exact Or.inr rfl)) pgs_nil))))
      (pss_cons (ps_setLc (i := 3) (own := [("k", 4)]) (g := gName 4) (tt := tYes) rfl sc__law_at_default.nd rfl rfl (sw_true rfl rfl rfl (by kernel_rfl)) (pi_range1 (by rfl) T.range (pa_cons pe_int pa_nil)) (blkOk_by (by kernel_rfl)) (fun _ _ _ _ _ => (pg_name (i := 4) sc__law_at_default.nd rfl (by first | exact Or.inl rfl | exact Or.inr rfl))) (fun _ _ _ _ _ => pts_nil) (fun _ _ _ _ _ => (pe_tup (pa_cons (pe_ix (ixL_ K) (pv 1) (pv 4) (fun _ _ => rfl)) (pa_cons (pe_ix (ixL_ K) (pv 1) (pe_op op_add (pv 4) pe_int) (fun _ _ => rfl)) pa_nil)))))
      (pss_cons (ps_set (i := 5) sc__law_at_default.nd rfl (by first | exact Or.inl rfl | exact Or.inr rfl) (pe_cal c__law_low (hr.mono (by decide)) (pa_cons pe_int (pa_cons (pv 3) pa_nil))))
      (pss_cons (ps_set (i := 6) sc__law_at_default.nd rfl (by first | exact Or.inl rfl | exact Or.inr rfl) (pe_ncal c_House (hr.mono (by decide)) (pa_cons pe_int (pa_cons pe_int (pa_cons (pe_callTy (lstOf_ K) (by rfl) T.list b_list (pa_cons (pv 3) pa_nil)) pa_nil)))))
      (pss_cons (ps_set (i := 7) sc__law_at_default.nd rfl (by first | exact Or.inl rfl | exact Or.inr rfl) (pe_cal c__law_most (hr.mono (by decide)) (pa_cons pe_int (pa_cons (pv 5) (pa_cons (pv 1) (pa_cons (pv 2) (pa_cons (pe_op (op_repTA K) (pe_tup (pa_cons pe_int pa_nil)) pe_int) pa_nil)))))))
      (pss_one (ps_ret (pe_calR c__law_fitting rg (hr.mono (by decide)) (pa_cons (pv 6) (pa_cons pe_int (pa_cons (pv 5) (pa_cons (pv 2) (pa_cons (pv 7) pa_nil))))))))))))), ?_⟩
    rw [show L2.start ["box", "line", "first", "wires", "k", "low", "home", "lot"] [V.ref b] = [some (.ref b), none, none, none, none, none, none, none] from rfl]
    refine ⟨_, rfl, b, rfl, bx, fun p ln t line S H1 lok okS b1 s1 hp hln ht => ?_⟩
    refine ⟨p, _, rfl, SqT.of (hid_some hp).1, rfl, _, _, rfl, _, _, rfl, rfl, ?_⟩
    dsimp only [List.set_cons_succ, List.set_cons_zero]
    have dn := chP_down lok
    have W4 := ws_of lok dn (chP_nodup lok) (by unfold chP; rw [List.length_map, List.length_range]; omega)
    obtain ⟨ok, all, hR⟩ := ord_line lok dn
    refine ⟨9, rfl, by decide, by decide, fun X hX => ?_⟩
    refine lc_range (n := 9) (fun i G => ∃ ts : List Addr, Bx G b ∧ Same (hid H1 b) (hid G b) ∧ hid G b X = some (.lst (ts.map V.ref)) ∧ ts.length = i ∧ ∀ (j : Nat) (c : Addr), ts[j]? = some c → hid G b c = some (.tup [.int ((line.getD j 0 : Nat) : Int), .int ((line.getD (j + 1) 0 : Nat) : Int)])) ?_ ?_ ?_
    · obtain ⟨s2, h2, b2⟩ := hid_add (o := .lst []) b1 hX
      exact ⟨[], b2, s2, h2, rfl, fun j c e => by simp at e⟩
    · rintro i G hi ⟨ts, bG, sG, hG, lt, al⟩
      have e0 : (0 : Int) + (i : Int) = (i : Int) := by omega
      rw [e0]
      have k1 : atI (nL line) (i : Int) = some (V.int ((line.getD i 0 : Nat) : Int)) := atI_nat (nL_get (getD_at (by rw [lok.1]; omega)))
      have k2 : atI (nL line) ((i : Int) + 1) = some (V.int ((line.getD (i + 1) 0 : Nat) : Int)) := by
        rw [show (i : Int) + 1 = ((i + 1 : Nat) : Int) from by omega]
        exact atI_nat (nL_get (getD_at (by rw [lok.1]; omega)))
      have hlnG := (hid_some (sG _ _ hln)).1
      refine ⟨rfl, yesT ⟨_, rfl, _, rfl, ln, _, _, _, rfl, rfl, SqL.of hlnG, k1, _, rfl, _, rfl, _, _, rfl, rfl, ln, _, _, _, rfl, rfl, SqL.of hlnG, k2, by show 2 ≤ sizeLine; decide, fun c nc => ?_⟩⟩
      obtain ⟨s3, h3, b3⟩ := hid_add (o := .tup [.int ((line.getD i 0 : Nat) : Int), .int ((line.getD (i + 1) 0 : Nat) : Int)]) bG nc
      generalize L2.upd G c (.tup [.int ((line.getD i 0 : Nat) : Int), .int ((line.getD (i + 1) 0 : Nat) : Int)]) = G2 at s3 h3 b3 ⊢
      have hX2 := s3 _ _ hG
      have e2 := hid_put (b := b) hX2 (o := .lst (ts.map V.ref ++ [V.ref c]))
      have b4 := b3.put hX2 (o := .lst (ts.map V.ref ++ [V.ref c]))
      have fX : hid H1 b X = none := hid_none hX
      refine ⟨_, (hid_some hX2).1, by rw [List.length_map, lt, sizeLine_eq]; omega, ts ++ [c], b4, ?_, ?_, by rw [List.length_append, lt]; rfl, fun j c' e => ?_⟩
      · rw [e2]; exact same_upd (sG.trans s3) fX
      · rw [e2, upd_same, List.map_append]; rfl
      · rw [e2]
        have old : ∀ {j : Nat} {c' : Addr}, hid G2 b c' = some (.tup [.int ((line.getD j 0 : Nat) : Int), .int ((line.getD (j + 1) 0 : Nat) : Int)]) → L2.upd (hid G2 b) X (.lst (ts.map V.ref ++ [V.ref c])) c' = some (.tup [.int ((line.getD j 0 : Nat) : Int), .int ((line.getD (j + 1) 0 : Nat) : Int)]) := fun {j c'} z => by
          rw [upd_ne (ne_of z hX2 (by intro z; cases z))]; exact z
        rcases Nat.lt_or_ge j ts.length with l | g
        · rw [List.getElem?_append_left l] at e
          exact old (s3 _ _ (al j c' e))
        · rw [List.getElem?_append_right g] at e
          have j0 : j - ts.length = 0 := by
            rcases Nat.eq_zero_or_pos (j - ts.length) with z | z
            · exact z
            · rw [List.getElem?_eq_none (by rw [List.length_singleton]; exact z)] at e; cases e
          rw [j0] at e
          injection e with e
          subst e
          have ej : j = i := by omega
          subst ej
          exact old h3
    · rintro G ⟨ts, bG, sG, hG, lt, al⟩
      have hps : Pairs (hid G b) ts (chP line) := ⟨by unfold chP; rw [lt, List.length_map, List.length_range], fun i c r hc hr => by
        have il : i < 9 := by
          have := (List.getElem?_eq_some_iff.mp hc).1
          omega
        unfold chP at hr
        rw [List.getElem?_map, List.getElem?_range il] at hr
        injection hr with hr
        rw [← hr]
        exact al i c hc⟩
      have hlnG := sG _ _ hln
      have htG := sG _ _ ht
      refine ⟨_, rfl, ?_⟩
      show Off (Off spLow) [.int ((10 : Nat) : Int), .ref X] G _ _
      refine low_made bG (by omega) hG hps W4.lt hR fun lw H5 b5 s5 tb => ?_
      have hX5 := s5 _ _ hG
      refine ⟨_, rfl, X, _, rfl, .inl (SqL.of (hid_some hX5).1), fun p2 np2 y dy ny ndy ne => ?_⟩
      obtain ⟨s6, h6, b6⟩ := hid_add (o := .lst (ts.map V.ref)) b5 np2
      generalize L2.upd H5 p2 (.lst (ts.map V.ref)) = H6 at s6 h6 b6 ny ndy ⊢
      show Off (Off (spInit K C)) (.ref y :: [.int ((10 : Nat) : Int), .int ((2 : Nat) : Int), .ref p2]) _ _ _
      refine made_house b6 (by omega) (by omega) (by omega) (by omega) h6 ((hps.same s5).same s6) W4 ny ndy ne fun H7 b7 s7 hs => ⟨rfl, ?_⟩
      have s57 := (s5.trans s6).trans s7
      have s17 := sG.trans s57
      refine ⟨_, rfl, _, rfl, _, rfl, by show 1 ≤ sizeLine; decide, fun p3 np3 => ?_⟩
      obtain ⟨s8, h8, b8⟩ := hid_add (o := .tup [.int 0]) b7 np3
      generalize L2.upd H7 p3 (.tup [.int 0]) = H8 at s8 h8 b8 ⊢
      refine ⟨p3, 10, [V.int 0], rfl, rfl, SqT.of (hid_some h8).1, by simp, by decide, by decide, by decide, fun z => absurd z (by decide), fun _ z nz => ?_⟩
      rw [show (List.replicate (10 : Int).toNat [V.int 0]).flatten = stV (List.replicate 10 0) from rfl]
      obtain ⟨s9, h9, b9⟩ := hid_add (o := .tup (stV (List.replicate 10 0))) b8 nz
      generalize L2.upd H8 z (.tup (stV (List.replicate 10 0))) = H9 at s9 h9 b9 ⊢
      have s19 := s17.trans (s8.trans s9)
      have s79 := s8.trans s9
      have hs9 := hs.same s79
      have tb9 := tb.same ((s6.trans s7).trans s79)
      have okD : StOk 10 2 (List.replicate 10 0) := rep_ok (by omega) (by omega)
      have T9 : Tabs TL (hid H9 b) := hT.ext (s1.trans s19)
      have W9 : AU C (hid H9 b) y lw ln t 10 2 (chP line) line S := ⟨hs9, tb9, s19 _ _ hln, ok, all, lok.1, s19 _ _ ht, okS, by omega, by omega, by omega, hR, by omega⟩
      have nob : NoObs 10 (relOf (chP line)) S (List.replicate 10 0) := fun v vn lt => by
        exfalso
        have a := okS.2 _ (at_mem okS.1 vn)
        have b := okD.2 _ (at_mem okD.1 vn)
        have : at_ (List.replicate 10 (0 : Int)) v = 0 := by
          unfold at_
          rw [List.getD_eq_getElem?_getD, List.getElem?_replicate]
          split <;> rfl
        omega
      obtain ⟨G, hG0⟩ := most_ex (h := 2) (n := 10) hR S (List.replicate 10 0)
      have pos := most_nonneg (lot := G) (by omega) hR (relOf_trans _) okS okD nob fun v _ => hG0 v
      have two := most_two (lot := G) (by omega) (by omega) okS okD ok all pos fun v _ => hG0 v
      rw [lok.1] at two
      have two : sumN 10 G + 1 ≤ 1024 := two
      have LW9 : LW (hid H9 b) lw ln t z 10 2 (relOf (chP line)) line S (List.replicate 10 0) := ⟨tb9, s19 _ _ hln, ok, all, lok.1, s19 _ _ ht, h9, okS, okD, by omega, by omega, by omega⟩
      refine ⟨lw, ln, t, z, 10, 2, relOf (chP line), line, S, List.replicate 10 0, G, rfl, LW9.same hid_same, fun v _ => hG0 v, fun HA o sA no ho => ?_⟩
      obtain ⟨sH, bA⟩ := hid_sm b9 sA
      have hoA := hid_at b9 sA no ho
      have WA := (W9.same sH).pl
      have TA := T9.ext sH
      dsimp only [List.set_cons_succ, List.set_cons_zero]
      refine ⟨_, rfl, _, rfl, _, rfl, _, rfl, y, lw, ln, t, o, 10, 2, chP line, line, S, G, rfl, TA.ext hid_same, WA.same (plH_mono hid_same), plH_of (hid_same _ _ hoA) (fun _ y => nomatch y) (fun _ y => nomatch y), pos, fun v vn => ?_, by omega, fun HD eD TD => ?_⟩
      · have e := hG0 v
        unfold mostF at e
        have := okD.2 _ (at_mem okD.1 vn)
        omega
      have bD := bx_ext bA eD
      exact q HD bD ((ExtN.of ((s1.trans s19).trans sH)).trans (hid_extN bA eD)) (tabs_hid bD TD)
end
end Hue

end
section
set_option maxRecDepth 100000
set_option maxHeartbeats 8000000
namespace Hue
open PySem PySem.Spec PyProof.Rows L2 LamA LamX
section
variable {P : Program} {w : World} {K : PySem.W.Frag} {mg : Str → Option Value} {base : Heap} {C CT CE CS CL CR CG CI : Addr} {TL : List (Addr × Str)}
theorem ranked_irr28 {R : Rel} (hR : Ranked R) (u : Nat) : R u u = false := by
  obtain ⟨ρ, hρ⟩ := hR
  cases z : R u u with
  | false => rfl
  | true => exact absurd (hρ u u z) (Nat.lt_irrefl _)
theorem sum_few {n : Nat} {c : Nat → Int} {m : Nat} (n16 : n ≤ 16) (m60 : m ≤ 60) (b : ∀ v, v < n → c v ≤ (m : Int)) : sumN n c ≤ 2000 := by
  have key : ∀ k, k ≤ n → sumN k c ≤ 60 * (k : Int) := by
    intro k
    induction k with
    | zero => intro _; exact Int.le_refl _
    | succ k ih =>
      intro kn
      have := ih (by omega)
      have := b k (by omega)
      rw [sumN_succ]
      omega
  have := key n (Nat.le_refl n)
  omega
abbrev s_InvalidTally___init__ : Stmt := inClass (top 6) 0
theorem sc_InvalidTally___init__ : FnScope ["self", "counts"] ["self", "counts"] (defScope s_InvalidTally___init__) := ⟨rfl, rfl, rfl, by decide +kernel, rfl, by decide +kernel, by decide +kernel⟩
-- slots of InvalidTally.__init__: 0 self, 1 counts
theorem ok_InvalidTally {f : Addr} {fd : FuncData} (F : Fun K "__init__" "InvalidTally.__init__" s_InvalidTally___init__ f fd) : FnOk P w K mg base CX0 1 f fd ["self", "counts"] (spKeep K "counts") := by
  refine F.ok sc_InvalidTally___init__ (fun vs H Q E h => ?_) (fun cdv A outer s H vs Q E hr h => ?_)
  · obtain ⟨a, D, v, rfl, _⟩ := h; rfl
  · obtain ⟨a, D, v, rfl, T, no, ha, q⟩ := h
    refine ⟨_, (pss_one (ps_ost (pv 0) (pv 1))), ?_⟩
    exact ⟨_, rfl, _, rfl, a, D, rfl, T, no, .inl ⟨ha, fun dx nd ne => q dx nd ne⟩⟩
abbrev s_law : Stmt := top 64
theorem sc_law : FnScope ["script", "box", "many", "base", "line", "wires", "low", "home", "first", "choice", "most", "lot", "other", "more"] ["script"] (defScope s_law) := ⟨rfl, rfl, rfl, by decide +kernel, rfl, by decide +kernel, by decide +kernel⟩
-- slots of law: 0 script, 1 box, 2 many, 3 base, 4 line, 5 wires, 6 low, 7 home, 8 first, 9 choice, 10 most, 11 lot, 12 other, 13 more
def spLaw24 (K : PySem.W.Frag) (TL : List (Addr × Str)) : Sp := fun vs H Q _ => ∃ (a : Addr) (ns : List Int), vs = [.ref a] ∧ SqL K H a (ns.map V.int) ∧ ns.length ≤ 63 ∧ Tabs TL H ∧ ∀ H', Q (.bl true) H'
theorem ok_law (T : Txt K mg C) {f : Addr} {fd : FuncData} (F : Fun K "law" "law" s_law f fd) (c__law_box : Cal P w K mg base "_law_box" 1 (spBox K)) (c__law_sizes : Cal P w K mg base "_law_sizes" 2 spSizes) (c__law_line : Cal P w K mg base "_law_line" 2 spLine) (c__law_wires : Cal P w K mg base "_law_wires" 2 spWires) (c__law_low : Cal P w K mg base "_law_low" 1 (Off (Off spLow))) (c_House : NCal P w K mg base C "House" 5 (Off (Off (spInit K C)))) (c__law_hues : Cal P w K mg base "_law_hues" 2 spHues) (c__law_take : Cal P w K mg base "_law_take" 1 spTake)
    (c__law_at_default : CalG P w K mg base "_law_at_default" 10 (spDefault33 TL)) (c__law_drawn_counts : Cal P w K mg base "_law_drawn_counts" 2 (spDrawn C)) (c__law_fitting : CalG P w K mg base "_law_fitting" 9 (spFitting C TL)) (c__law_left_over : CalG P w K mg base "_law_left_over" 9 (spLeftOver C TL)) (c__law_refusals : CalG P w K mg base "_law_refusals" 9 (spRefusals33 C TL)) : GOk P w K mg base CX0 11 f fd ["script"] (spLaw24 K TL) := by
  refine F.okG sc_law (fun vs H Q E h => ?_) (fun cdv A gA outer s H vs Q E hr h => ?_)
  · obtain ⟨a, ns, rfl, _⟩ := h; rfl
  · obtain ⟨a, ns, rfl, ha, few, hT, q⟩ := h
    have rg : RG (A.deeper (envOfC "law" (defScope s_law) s.heap.objs.size f cdv)) := ⟨gA, hr.u100⟩
    refine ⟨_, (pss_cons (ps_set (i := 1) sc_law.nd rfl (by first | exact Or.inl rfl | exact Or.inr rfl) (pe_cal c__law_box (hr.mono (by decide)) (pa_cons (pv 0) pa_nil)))
      (pss_cons (ps_asg (pe_cal c__law_sizes (hr.mono (by decide)) (pa_cons (pv 1) pa_nil)) (pg_tup (by rfl) (pgs_cons (pg_name (i := 2) sc_law.nd rfl (by first | exact Or.inl rfl | exact Or.inr rfl)) (pgs_cons (pg_name (i := 3) sc_law.nd rfl (by first | exact Or.inl rfl | exact Or.inr rfl)) pgs_nil))))
      (pss_cons (ps_set (i := 4) sc_law.nd rfl (by first | exact Or.inl rfl | exact Or.inr rfl) (pe_cal c__law_line (hr.mono (by decide)) (pa_cons (pv 1) (pa_cons (pv 2) pa_nil))))
      (pss_cons (ps_set (i := 5) sc_law.nd rfl (by first | exact Or.inl rfl | exact Or.inr rfl) (pe_cal c__law_wires (hr.mono (by decide)) (pa_cons (pv 1) (pa_cons (pv 4) pa_nil))))
      (pss_cons (ps_set (i := 6) sc_law.nd rfl (by first | exact Or.inl rfl | exact Or.inr rfl) (pe_cal c__law_low (hr.mono (by decide)) (pa_cons (pv 2) (pa_cons (pv 5) pa_nil))))
      (pss_cons (ps_set (i := 7) sc_law.nd rfl (by first | exact Or.inl rfl | exact Or.inr rfl) (pe_ncal c_House (hr.mono (by decide)) (pa_cons (pv 2) (pa_cons (pv 3) (pa_cons (pe_callTy (lstOf_ K) (by rfl) T.list b_list (pa_cons (pv 5) pa_nil)) pa_nil)))))
      (pss_cons (ps_set (i := 8) sc_law.nd rfl (by first | exact Or.inl rfl | exact Or.inr rfl) (pe_cal c__law_hues (hr.mono (by decide)) (pa_cons (pv 1) (pa_cons (pv 2) (pa_cons (pv 3) pa_nil)))))
      (pss_cons (ps_set (i := 9) sc_law.nd rfl (by first | exact Or.inl rfl | exact Or.inr rfl) (pe_cal c__law_take (hr.mono (by decide)) (pa_cons (pv 1) (pa_cons pe_int pa_nil))))
      (pss_cons (ps_set (i := 10) sc_law.nd rfl (by first | exact Or.inl rfl | exact Or.inr rfl) (pe_ix (ixL_ K) (pe_lst (pa_cons pe_int (pa_cons pe_int pa_nil))) (pe_callTy call_int1 (by rfl) T.int b_int (pa_cons (pe_cmpR op_eq (pv 9) pe_int (nomark _)) pa_nil)) (fun _ _ => rfl)))
      (C8.pss_cut (ps_if (PW.pt (pw_and (pt_cmpR op_eq (pv 9) pe_int (nomark _)) (pw_and1 (pt_not (pt_val (pe_calR c__law_at_default rg (hr.mono (by decide)) (pa_cons (pv 1) pa_nil)))))))
      (pss_one (ps_ret pe_bl)) pss_nil)
      (pss_cons (ps_set (i := 11) sc_law.nd rfl (by first | exact Or.inl rfl | exact Or.inr rfl) (pe_cal c__law_drawn_counts (hr.mono (by decide)) (pa_cons (pv 1) (pa_cons (pv 3) (pa_cons (pv 6) (pa_cons (pv 4) (pa_cons (pv 8) (pa_cons (pv 10) pa_nil))))))))
      (pss_cons (ps_if (pt_not (pt_val (pe_calR c__law_fitting rg (hr.mono (by decide)) (pa_cons (pv 7) (pa_cons (pv 3) (pa_cons (pv 6) (pa_cons (pv 8) (pa_cons (pv 11) pa_nil))))))))
      (pss_one (ps_ret pe_bl)) pss_nil)
      (pss_cons (ps_set (i := 12) sc_law.nd rfl (by first | exact Or.inl rfl | exact Or.inr rfl) (pe_cal c__law_hues (hr.mono (by decide)) (pa_cons (pv 1) (pa_cons (pv 2) (pa_cons (pv 3) pa_nil)))))
      (pss_cons (ps_set (i := 13) sc_law.nd rfl (by first | exact Or.inl rfl | exact Or.inr rfl) (pe_cal c__law_drawn_counts (hr.mono (by decide)) (pa_cons (pv 1) (pa_cons (pv 3) (pa_cons (pv 6) (pa_cons (pv 4) (pa_cons (pv 12) (pa_cons pe_int pa_nil))))))))
      (pss_cons (ps_if (PW.pt (pw_or (pt_not (pt_val (pe_calR c__law_fitting rg (hr.mono (by decide)) (pa_cons (pv 7) (pa_cons (pv 3) (pa_cons (pv 6) (pa_cons (pv 12) (pa_cons (pv 13) pa_nil)))))))) (pw_or1 (pt_not (pt_val (pe_calR c__law_fitting rg (hr.mono (by decide)) (pa_cons (pv 7) (pa_cons (pv 3) (pa_cons (pv 6) (pa_cons (pv 8) (pa_cons (pv 11) pa_nil)))))))))))
      (pss_one (ps_ret pe_bl)) pss_nil)
      (pss_cons (ps_if (pt_not (pt_val (pe_calR c__law_left_over rg (hr.mono (by decide)) (pa_cons (pv 1) (pa_cons (pv 7) (pa_cons (pv 3) (pa_cons (pv 6) (pa_cons (pv 8) (pa_cons (pv 11) pa_nil)))))))))
      (pss_one (ps_ret pe_bl)) pss_nil)
      (pss_one (ps_ret (pe_calR c__law_refusals rg (hr.mono (by decide)) (pa_cons (pv 1) (pa_cons (pv 7) (pa_cons (pv 3) (pa_cons (pv 8) (pa_cons (pv 11) pa_nil)))))))))))))))))))))))), ?_⟩
    rw [show L2.start ["script", "box", "many", "base", "line", "wires", "low", "home", "first", "choice", "most", "lot", "other", "more"] [V.ref a] = [some (.ref a), none, none, none, none, none, none, none, none, none, none, none, none, none] from rfl]
    refine ⟨_, rfl, a, ns, rfl, ha, fun H1 b b1 s1 => ?_⟩
    have T1 : Tabs TL (hid H1 b) := hT.ext s1
    refine ⟨_, rfl, b, rfl, b1, fun n h t0 H2 n1 n16 h2 h10 b2 s2 ht0 => ?_⟩
    refine ⟨t0, _, rfl, SqT.of (hid_some ht0).1, rfl, _, _, rfl, _, _, rfl, rfl, ?_⟩
    dsimp only [List.set_cons_succ, List.set_cons_zero]
    refine ⟨_, rfl, _, rfl, b, n, rfl, n16, b2, fun line ln H3 lok b3 s3 _ hln => ?_⟩
    refine ⟨_, rfl, _, rfl, b, ln, n, line, rfl, n1, n16, lok, b3, hln, fun ts ps wz H4 dn nd few4 b4 s4 hw hps => ?_⟩
    have W4 := ws_of lok dn nd few4
    obtain ⟨ok, all, hR⟩ := ord_line lok dn
    have hln4 := s4 _ _ hln
    dsimp only [List.set_cons_succ, List.set_cons_zero]
    refine ⟨_, rfl, _, rfl, low_made b4 n16 hw hps W4.lt hR fun lw H5 b5 s5 tb => ?_⟩
    have hw5 := s5 _ _ hw
    have hps5 := hps.same s5
    refine ⟨_, rfl, _, rfl, _, rfl, wz, _, rfl, .inl (SqL.of (hid_some hw5).1), fun p np x dx nx ndx ne => ?_⟩
    obtain ⟨s6, h6, b6⟩ := hid_add (o := .lst (ts.map V.ref)) b5 np
    refine made_house b6 n1 n16 h2 h10 h6 (hps5.same s6) W4 nx ndx ne fun H7 b7 s7 hs => ⟨rfl, ?_⟩
    have s57 := s6.trans s7
    have tb7 := tb.same s57
    have hln7 := s57 _ _ (s5 _ _ hln4)
    have T7 : Tabs TL (hid H7 b) := T1.ext (s2.trans (s3.trans (s4.trans (s5.trans s57))))
    dsimp only [List.set_cons_succ, List.set_cons_zero]
    have h1 : 1 ≤ h := by omega
    refine ⟨_, rfl, _, rfl, _, rfl, b, n, h, rfl, n16, by omega, h10, b7, fun S t H8 okS b8 s8 ht8 => ?_⟩
    dsimp only [List.set_cons_succ, List.set_cons_zero]
    refine ⟨_, rfl, b, 8, rfl, by decide, by decide, b8, fun ch H9 hch b9 s9 => ?_⟩
    dsimp only [List.set_cons_succ, List.set_cons_zero]
    refine ⟨by show 2 ≤ sizeLine; decide, fun l0 nl0 => ?_⟩
    obtain ⟨sA, hA, bA⟩ := hid_add (o := .lst [V.int 8, V.int 60]) b9 nl0
    generalize L2.upd H9 l0 (.lst [V.int 8, V.int 60]) = HA at sA hA bA ⊢
    refine ⟨_, rfl, rfl, .inr ⟨_, rfl, ?_⟩⟩
    obtain ⟨most, hmost, m60⟩ : ∃ most : Nat, atI [V.int 8, V.int 60] (if decide (V.int (ch : Int) = V.int 5) = true then 1 else 0) = some (V.int (most : Nat)) ∧ most ≤ 60 := by
      split
      · exact ⟨60, rfl, Nat.le_refl _⟩
      · exact ⟨8, rfl, by omega⟩
    refine ⟨l0, _, _, _, rfl, rfl, SqL.of (hid_some hA).1, hmost, ?_⟩
    have s7A := s8.trans (s9.trans sA)
    have TA := T7.ext s7A
    have WA : AU C (hid HA b) x lw ln t n h ps line S := ⟨hs.same s7A, tb7.same s7A, s7A _ _ hln7, ok, all, lok.1, (s9.trans sA) _ _ ht8, okS, n16, h1, h10, hR, n1⟩
    clear T7 hln7 tb7 s57 s7 hs b7 h6 s6 b6 hps5 hw5 tb s5 b5 hln4 hw hps b4 s4 hln s3 b3 ht0 s2 b2 T1 b1 s1 s7A s8 s9 sA hA b8 b9 nl0 ht8
    dsimp only [List.set_cons_succ, List.set_cons_zero]
    refine ⟨fun σ G => σ = [some (.ref a), some (.ref b), some (.int (n : Nat)), some (.int (h : Nat)), some (.ref ln), some (.ref wz), some (.ref lw), some (.ref x), some (.ref t), some (.int (ch : Nat)), some (.int (most : Nat)), none, none, none] ∧ Bx G b ∧ ExtN (hid HA b) (hid G b) ∧ Tabs TL (hid G b), ?_, ?_⟩
    · refine ⟨_, rfl, rfl, _, rfl, ite2 (fun _ => ⟨_, rfl, b, rfl, bA, TA, fun HB bB eB TB => ⟨true, rfl, iteF ⟨rfl, bB, eB, TB⟩⟩⟩) fun _ => ⟨rfl, bA, ExtN.of (Same.refl _), TA⟩⟩
    rintro σ HB ⟨rfl, bB, eB, TB⟩
    have WB := (WA.pl.same (plH_ext eB)).same plH_same
    clear WA TA bA eB
    have P2 : ∀ {G G' : Hp} {t' : Addr} {S' : List Int}, AU C (hid G b) x lw ln t' n h ps line S' → ExtN (hid G b) (hid G' b) → AU C (hid G' b) x lw ln t' n h ps line S' := fun W e => (W.pl.same (plH_ext e)).same plH_same
    refine ⟨_, rfl, _, rfl, _, rfl, _, rfl, _, rfl, _, rfl, b, x, lw, ln, t, n, h, ps, line, S, most, rfl, m60, bB, WB, fun c o HC cb bd bC sC ho => ?_⟩
    have WC := WB.same sC
    have TC := TB.ext sC
    have pos : ∀ v, v < n → 0 ≤ c v := fun v vn => (cb v vn).1
    have few : sumN n c ≤ 2000 := sum_few n16 m60 fun v vn => (cb v vn).2
    clear WB TB sC bB
    refine ⟨_, rfl, _, rfl, _, rfl, _, rfl, _, rfl, x, lw, ln, t, o, n, h, ps, line, S, c, rfl, TC.ext hid_same, (WC.same hid_same).pl, plH_of (hid_same _ _ ho) (fun _ y => nomatch y) (fun _ y => nomatch y), pos, bd, few, fun HD eD TD => ⟨true, rfl, iteF ?_⟩⟩
    have bD := bx_ext bC eD
    have fD := hid_extN bC eD
    have TD' := tabs_hid bD TD
    have WD := P2 WC fD
    have hoD := fD _ _ ho (fun _ y => nomatch y)
    clear WC TC bC eD fD ho TD
    dsimp only [List.set_cons_succ, List.set_cons_zero]
    refine ⟨_, rfl, _, rfl, _, rfl, b, n, h, rfl, n16, by omega, h10, bD, fun S2 t2 HE okS2 bE sE ht2 => ?_⟩
    have WE := WD.same sE
    have TE := TD'.ext sE
    have hoE := sE _ _ hoD
    have VE : AU C (hid HE b) x lw ln t2 n h ps line S2 := ⟨WE.hs, WE.tb, WE.hl, WE.ok, WE.all, WE.len, ht2, okS2, n16, h1, h10, hR, n1⟩
    clear WD TD' hoD bD sE ht2
    dsimp only [List.set_cons_succ, List.set_cons_zero]
    refine ⟨_, rfl, _, rfl, _, rfl, _, rfl, _, rfl, b, x, lw, ln, t2, n, h, ps, line, S2, 8, rfl, by omega, bE, VE, fun c2 o2 HF cb2 bd2 bF sF ho2 => ?_⟩
    have pos2 : ∀ v, v < n → 0 ≤ c2 v := fun v vn => (cb2 v vn).1
    have few2 : sumN n c2 ≤ 2000 := sum_few n16 (m := 8) (by omega) fun v vn => (cb2 v vn).2
    have WF := WE.same sF
    have VF := VE.same sF
    have TF := TE.ext sF
    have hoF := sF _ _ hoE
    clear WE TE VE hoE bE sF
    dsimp only [List.set_cons_succ, List.set_cons_zero]
    refine ⟨_, rfl, _, rfl, _, rfl, _, rfl, _, rfl, x, lw, ln, t2, o2, n, h, ps, line, S2, c2, rfl, TF.ext hid_same, (VF.same hid_same).pl, plH_of (hid_same _ _ ho2) (fun _ y => nomatch y) (fun _ y => nomatch y), pos2, bd2, few2, fun HG eG TG => ⟨true, rfl, iteF ?_⟩⟩
    have bG := bx_ext bF eG
    have fG := hid_extN bF eG
    have TG' := tabs_hid bG TG
    have WG := P2 WF fG
    have hoG := fG _ _ hoF (fun _ y => nomatch y)
    clear WF VF TF hoF bF eG fG ho2
    refine ⟨_, rfl, _, rfl, _, rfl, _, rfl, _, rfl, x, lw, ln, t, o, n, h, ps, line, S, c, rfl, TG, (WG.same hid_same).pl, plH_of (hid_same _ _ hoG) (fun _ y => nomatch y) (fun _ y => nomatch y), pos, bd, few, fun HI eI TI => ⟨true, rfl, iteF ?_⟩⟩
    have bI := bx_ext bG eI
    have fI := hid_extN bG eI
    have TI' := tabs_hid bI TI
    have WI := P2 WG fI
    have hoI := fI _ _ hoG (fun _ y => nomatch y)
    clear WG TG TG' hoG bG eI fI TI
    refine ⟨_, rfl, _, rfl, _, rfl, _, rfl, _, rfl, _, rfl, b, x, lw, ln, t, o, n, h, ps, line, S, c, rfl, bI, TI', WI.pl, plH_of hoI (fun _ y => nomatch y) (fun _ y => nomatch y), pos, few, fun HJ bJ eJ TJ => ⟨true, rfl, iteF ?_⟩⟩
    have WJ := P2 WI eJ
    have hoJ := eJ _ _ hoI (fun _ y => nomatch y)
    exact ⟨_, rfl, _, rfl, _, rfl, _, rfl, _, rfl, b, x, t, o, n, h, ps, S, c, rfl, n1, n16, h2, h10, hR, okS, bJ, TJ, WJ.hs, WJ.ht, hoJ, fun v vn => ⟨pos v vn, by have := (cb v vn).2; omega⟩, fun H' => q H'⟩
end
end Hue

end
section
set_option maxRecDepth 100000
set_option maxHeartbeats 4000000
namespace Hue
open PySem PySem.Spec PyProof.Rows L2
/-! ### the end: what the top has written, and the head -/
theorem binds_init {K : PySem.W.Frag} {T E : Addr} {ocT : Value} {odT : Option Addr} {itT : Value} {nT : Nat} {slT : Array (Option Value)} (lT : K.lookup T = some ⟨ocT, odT, .seq #[itT] nT, slT⟩) {kV dc pm cd ct : Value} {an : Option Addr} :
    Binds K (PySem.W.fnOf "__init__" "House.__init__" (defArgs s_House___init__) (defBody s_House___init__) (defScope s_House___init__) (.ref T) kV dc pm an cd ct) ["self", "count", "hues", "wires"] [] := fun s us X hl => by
  rw [List.append_nil] at hl ⊢
  match us, hl with
  | [a, b, c, d], _ =>
    refine BindsTo.of_looks fun M => ?_
    have e : ∃ k, bindArgs (PySem.W.fnOf "__init__" "House.__init__" (defArgs s_House___init__) (defBody s_House___init__) (defScope s_House___init__) (.ref T) kV dc pm an cd ct) ⟨[a, b, c, d], []⟩ = seqItems? (.ref T) >>= k ∧ k (some #[itT]) = pure ((["self", "count", "hues", "wires"] : List Str).zip [a, b, c, d]) := ⟨_, rfl, rfl⟩
    obtain ⟨k, e1, e2⟩ := e
    rw [e1]
    exact looks_items X lT rfl (.of_pure e2)
theorem binds_init0 {K : PySem.W.Frag} {T : Addr} {ocT : Value} {odT : Option Addr} {itT : Value} {nT : Nat} {slT : Array (Option Value)} (lT : K.lookup T = some ⟨ocT, odT, .seq #[itT] nT, slT⟩) {kV dc pm cd ct : Value} {an : Option Addr} :
    Binds K (PySem.W.fnOf "__init__" "House.__init__" (defArgs s_House___init__) (defBody s_House___init__) (defScope s_House___init__) (.ref T) kV dc pm an cd ct) ["self", "count", "hues", "wires"] [itT] := fun s us X hl => by
  have l3 : us.length = 3 := by
    rw [List.length_append] at hl
    exact Nat.succ.inj hl
  match us, l3 with
  | [a, b, c], _ =>
    refine BindsTo.of_looks fun M => ?_
    have e : ∃ k, bindArgs (PySem.W.fnOf "__init__" "House.__init__" (defArgs s_House___init__) (defBody s_House___init__) (defScope s_House___init__) (.ref T) kV dc pm an cd ct) ⟨[a, b, c], []⟩ = seqItems? (.ref T) >>= k ∧ k (some #[itT]) = pure ((["self", "count", "hues", "wires"] : List Str).zip [a, b, c, itT]) := ⟨_, rfl, rfl⟩
    obtain ⟨k, e1, e2⟩ := e
    rw [e1]
    exact looks_items X lT rfl (.of_pure e2)
theorem kw_normal_run {K : PySem.W.Frag} {D : Addr} {u dc pm cd ct : Value} {an : Option Addr} (nd : PySem.W.nsIn K D "limit" = some (some u)) :
    Binds K (PySem.W.fnOf "normal_run" "normal_run" (defArgs s_normal_run) (defBody s_normal_run) (defScope s_normal_run) .none (.ref D) dc pm an cd ct) ["house", "source", "tally", "limit"] [u] := fun s us X hl => by
  have l3 : us.length = 3 := by
    rw [List.length_append] at hl
    exact Nat.succ.inj hl
  match us, l3 with
  | [a, b, c], _ =>
    exact BindsTo.of_looks fun M => KwChain.looks (l := [("limit", u)]) X (fun q hq => by rw [List.mem_singleton.mp hq]; exact nd) ⟨_, _, _, _, _, _, rfl, rfl, rfl⟩
theorem kk_normal_run {K : PySem.W.Frag} {D : Addr} {dc pm cd ct : Value} {an : Option Addr} :
    KBn K (PySem.W.fnOf "normal_run" "normal_run" (defArgs s_normal_run) (defBody s_normal_run) (defScope s_normal_run) .none (.ref D) dc pm an cd ct) ["house", "source", "tally", "limit"] 3 ["limit"] (fun us ws => us ++ ws) (fun vs zs => vs ++ zs) := ⟨fun s us ws X h1 h2 => by
  match us, h1, ws, h2 with
  | [a, b, c], _, [v], _ => exact .of_eq rfl, fun r z => r.append z⟩
theorem exm_of {K : PySem.W.Frag} {S E : Addr} {b : Bool} (h1 : PySem.W.subIn K (.ref E) (.type "BaseException") = some true) (h2 : PySem.W.isClsIn K E = true) (h3 : PySem.W.typeIn K (.ref E) = some (.type "type")) (h4 : PySem.W.subIn K (.ref S) (.ref E) = some b) : PySem.W.exmOne K (.ref S) (.ref E) = some b := by
  have e1 : (PySem.W.subIn K (.ref E) (.type "BaseException") == some true) = true := by rw [h1] <;> rfl
  have e2 : ((PySem.W.clsIn K E).isSome && PySem.W.typeIn K (.ref E) == some (.type "type")) = true := by
    have h2' : (PySem.W.clsIn K E).isSome = true := h2
    rw [h2', h3] <;> rfl
  show (if (PySem.W.subIn K (.ref E) (.type "BaseException") == some true) = true then (if ((PySem.W.clsIn K E).isSome && PySem.W.typeIn K (.ref E) == some (.type "type")) = true then PySem.W.subIn K (.ref S) (.ref E) else none) else none) = some b
  rw [if_pos e1, if_pos e2]
  exact h4
theorem kit_self {K : PySem.W.Frag} {S : Addr} : PySem.W.kitOne K (.ref S) (.ref S) = some true := by
  show (if ((Value.ref S) == (Value.ref S)) = true then some true else _) = some true
  rw [if_pos (beq_iff_eq.mpr rfl)]
theorem kit_yes {K : PySem.W.Frag} {S E : Addr} (h2 : PySem.W.isClsIn K E = true) (h3 : PySem.W.typeIn K (.ref E) = some (.type "type")) (h4 : PySem.W.subIn K (.ref S) (.ref E) = some true) : PySem.W.kitOne K (.ref S) (.ref E) = some true := by
  have e2 : ((PySem.W.clsIn K E).isSome && PySem.W.typeIn K (.ref E) == some (.type "type")) = true := by
    have h2' : (PySem.W.clsIn K E).isSome = true := h2
    rw [h2', h3] <;> rfl
  show (if ((Value.ref S) == (Value.ref E)) = true then some true else (if ((PySem.W.clsIn K E).isSome && PySem.W.typeIn K (.ref E) == some (.type "type")) = true then PySem.W.subIn K (.ref S) (.ref E) else none)) = some true
  by_cases z : ((Value.ref S) == (Value.ref E)) = true
  · rw [if_pos z]
  · rw [if_neg z, if_pos e2]
    exact h4
theorem kit_no {K : PySem.W.Frag} {S E : Addr} (h2 : PySem.W.isClsIn K E = true) (h3 : PySem.W.typeIn K (.ref E) = some (.type "type")) (h4 : PySem.W.subIn K (.ref S) (.ref E) = some false) (h5 : PySem.W.subIn K (.ref S) (.ref S) = some true) : PySem.W.kitOne K (.ref S) (.ref E) = some false := by
  have ne : ¬ ((Value.ref S) == (Value.ref E)) = true := fun z => by
    have e := beq_iff_eq.mp z
    rw [← e, h5] at h4
    cases h4
  have e2 : ((PySem.W.clsIn K E).isSome && PySem.W.typeIn K (.ref E) == some (.type "type")) = true := by
    have h2' : (PySem.W.clsIn K E).isSome = true := h2
    rw [h2', h3] <;> rfl
  show (if ((Value.ref S) == (Value.ref E)) = true then some true else (if ((PySem.W.clsIn K E).isSome && PySem.W.typeIn K (.ref E) == some (.type "type")) = true then PySem.W.subIn K (.ref S) (.ref E) else none)) = some false
  rw [if_neg ne, if_pos e2]
  exact h4
theorem kit_tyV {K : PySem.W.Frag} {S : Addr} (h : PySem.W.subIn K (.ref S) (.type "ValueError") = some true) : PySem.W.kitOne K (.ref S) (.type "ValueError") = some true := by
  have ne : ¬ ((Value.ref S) == (Value.type "ValueError")) = true := fun z => by
    have e := beq_iff_eq.mp z
    cases e
  show (if ((Value.ref S) == (Value.type "ValueError")) = true then some true else (if PySem.W.kitMeta "ValueError" = true then PySem.W.subIn K (.ref S) (.type "ValueError") else none)) = some true
  rw [if_neg ne, if_pos (by decide +kernel)]
  exact h
theorem kit_no3 {K : PySem.W.Frag} {S A B D : Addr} (a : PySem.W.kitOne K (.ref S) (.ref A) = some false) (b : PySem.W.kitOne K (.ref S) (.ref B) = some false) (c : PySem.W.kitOne K (.ref S) (.ref D) = some false) : PySem.W.kitAny K (.ref S) [.ref A, .ref B, .ref D] = some false := by
  unfold PySem.W.kitAny
  rw [a]
  show PySem.W.kitAny K (.ref S) [.ref B, .ref D] = some false
  unfold PySem.W.kitAny
  rw [b]
  show PySem.W.kitAny K (.ref S) [.ref D] = some false
  unfold PySem.W.kitAny
  rw [c]
  rfl
theorem all_mk {l : PySem.W.OpenLaw} {w : World} {K : PySem.W.Frag} {h : Heap} {mg : Str → Option Value} {fa : Addr} (X : K.In h) (G : h.Ns mainGlobals mg) (hfa : mg "law" = some (.ref fa)) {ts : List Addr} (own : ∀ P ∈ ts, h.get? P = some (PySem.W.tabObj #[]))
    {f0 : Addr} {od0 an0 : Option Addr} {sl0 : Array (Option Value)} {oc0 kV0 dc0 pm0 cd0 ct0 : Value}
    {f1 : Addr} {od1 an1 : Option Addr} {sl1 : Array (Option Value)} {oc1 kV1 dc1 pm1 cd1 ct1 : Value}
    {f2 : Addr} {od2 an2 : Option Addr} {sl2 : Array (Option Value)} {oc2 kV2 dc2 pm2 cd2 ct2 : Value}
    {f3 : Addr} {od3 an3 : Option Addr} {sl3 : Array (Option Value)} {oc3 kV3 dc3 pm3 cd3 ct3 : Value}
    {f4 : Addr} {od4 an4 : Option Addr} {sl4 : Array (Option Value)} {oc4 kV4 dc4 pm4 cd4 ct4 : Value}
    {f5 : Addr} {od5 an5 : Option Addr} {sl5 : Array (Option Value)} {oc5 kV5 dc5 pm5 cd5 ct5 : Value}
    {f6 : Addr} {od6 an6 : Option Addr} {sl6 : Array (Option Value)} {oc6 kV6 dc6 pm6 cd6 ct6 : Value}
    {f7 : Addr} {od7 an7 : Option Addr} {sl7 : Array (Option Value)} {oc7 kV7 dc7 pm7 cd7 ct7 : Value}
    {f8 : Addr} {od8 an8 : Option Addr} {sl8 : Array (Option Value)} {oc8 kV8 dc8 pm8 cd8 ct8 : Value}
    {f9 : Addr} {od9 an9 : Option Addr} {sl9 : Array (Option Value)} {oc9 kV9 dc9 pm9 cd9 ct9 : Value}
    {f10 : Addr} {od10 an10 : Option Addr} {sl10 : Array (Option Value)} {oc10 kV10 dc10 pm10 cd10 ct10 : Value}
    {f11 : Addr} {od11 an11 : Option Addr} {sl11 : Array (Option Value)} {oc11 kV11 dc11 pm11 cd11 ct11 : Value}
    {f12 : Addr} {od12 an12 : Option Addr} {sl12 : Array (Option Value)} {oc12 kV12 dc12 pm12 cd12 ct12 : Value}
    {f13 : Addr} {od13 an13 : Option Addr} {sl13 : Array (Option Value)} {oc13 kV13 dc13 pm13 cd13 ct13 : Value}
    {f14 : Addr} {od14 an14 : Option Addr} {sl14 : Array (Option Value)} {oc14 kV14 dc14 pm14 cd14 ct14 : Value}
    {f15 : Addr} {od15 an15 : Option Addr} {sl15 : Array (Option Value)} {oc15 kV15 dc15 pm15 cd15 ct15 : Value}
    {f16 : Addr} {od16 an16 : Option Addr} {sl16 : Array (Option Value)} {oc16 kV16 dc16 pm16 cd16 ct16 : Value}
    {f17 : Addr} {od17 an17 : Option Addr} {sl17 : Array (Option Value)} {oc17 kV17 dc17 pm17 cd17 ct17 : Value}
    {f18 : Addr} {od18 an18 : Option Addr} {sl18 : Array (Option Value)} {oc18 kV18 dc18 pm18 cd18 ct18 : Value}
    {f19 : Addr} {od19 an19 : Option Addr} {sl19 : Array (Option Value)} {oc19 kV19 dc19 pm19 cd19 ct19 : Value}
    {f20 : Addr} {od20 an20 : Option Addr} {sl20 : Array (Option Value)} {oc20 kV20 dc20 pm20 cd20 ct20 : Value}
    {f21 : Addr} {od21 an21 : Option Addr} {sl21 : Array (Option Value)} {oc21 kV21 dc21 pm21 cd21 ct21 : Value}
    {f22 : Addr} {od22 an22 : Option Addr} {sl22 : Array (Option Value)} {oc22 kV22 dc22 pm22 cd22 ct22 : Value}
    {f23 : Addr} {od23 an23 : Option Addr} {sl23 : Array (Option Value)} {oc23 kV23 dc23 pm23 cd23 ct23 : Value}
    {f24 : Addr} {od24 an24 : Option Addr} {sl24 : Array (Option Value)} {oc24 kV24 dc24 pm24 cd24 ct24 : Value}
    {f25 : Addr} {od25 an25 : Option Addr} {sl25 : Array (Option Value)} {oc25 kV25 dc25 pm25 cd25 ct25 : Value}
    {f26 : Addr} {od26 an26 : Option Addr} {sl26 : Array (Option Value)} {oc26 kV26 dc26 pm26 cd26 ct26 : Value}
    {f27 : Addr} {od27 an27 : Option Addr} {sl27 : Array (Option Value)} {oc27 kV27 dc27 pm27 cd27 ct27 : Value}
    {f28 : Addr} {od28 an28 : Option Addr} {sl28 : Array (Option Value)} {oc28 kV28 dc28 pm28 cd28 ct28 : Value}
    {f29 : Addr} {od29 an29 : Option Addr} {sl29 : Array (Option Value)} {oc29 kV29 dc29 pm29 cd29 ct29 : Value}
    {f30 : Addr} {od30 an30 : Option Addr} {sl30 : Array (Option Value)} {oc30 kV30 dc30 pm30 cd30 ct30 : Value}
    {f31 : Addr} {od31 an31 : Option Addr} {sl31 : Array (Option Value)} {oc31 kV31 dc31 pm31 cd31 ct31 : Value}
    {f32 : Addr} {od32 an32 : Option Addr} {sl32 : Array (Option Value)} {oc32 kV32 dc32 pm32 cd32 ct32 : Value}
    {f33 : Addr} {od33 an33 : Option Addr} {sl33 : Array (Option Value)} {oc33 kV33 dc33 pm33 cd33 ct33 : Value}
    {f34 : Addr} {od34 an34 : Option Addr} {sl34 : Array (Option Value)} {oc34 kV34 dc34 pm34 cd34 ct34 : Value}
    {f35 : Addr} {od35 an35 : Option Addr} {sl35 : Array (Option Value)} {oc35 kV35 dc35 pm35 cd35 ct35 : Value}
    {f36 : Addr} {od36 an36 : Option Addr} {sl36 : Array (Option Value)} {oc36 kV36 dc36 pm36 cd36 ct36 : Value}
    {f37 : Addr} {od37 an37 : Option Addr} {sl37 : Array (Option Value)} {oc37 kV37 dc37 pm37 cd37 ct37 : Value}
    {f38 : Addr} {od38 an38 : Option Addr} {sl38 : Array (Option Value)} {oc38 kV38 dc38 pm38 cd38 ct38 : Value}
    {f39 : Addr} {od39 an39 : Option Addr} {sl39 : Array (Option Value)} {oc39 kV39 dc39 pm39 cd39 ct39 : Value}
    {f40 : Addr} {od40 an40 : Option Addr} {sl40 : Array (Option Value)} {oc40 kV40 dc40 pm40 cd40 ct40 : Value}
    {f41 : Addr} {od41 an41 : Option Addr} {sl41 : Array (Option Value)} {oc41 kV41 dc41 pm41 cd41 ct41 : Value}
    {f42 : Addr} {od42 an42 : Option Addr} {sl42 : Array (Option Value)} {oc42 kV42 dc42 pm42 cd42 ct42 : Value}
    {f43 : Addr} {od43 an43 : Option Addr} {sl43 : Array (Option Value)} {oc43 kV43 dc43 pm43 cd43 ct43 : Value}
    {f44 : Addr} {od44 an44 : Option Addr} {sl44 : Array (Option Value)} {oc44 kV44 dc44 pm44 cd44 ct44 : Value}
    {f45 : Addr} {od45 an45 : Option Addr} {sl45 : Array (Option Value)} {oc45 kV45 dc45 pm45 cd45 ct45 : Value}
    {fW0 DW0 : Addr} {odW0 anW0 : Option Addr} {slW0 : Array (Option Value)} {ocW0 dcW0 pmW0 cdW0 ctW0 uW0 : Value}
    {fM0 : Addr} {odM0 anM0 : Option Addr} {slM0 : Array (Option Value)} {ocM0 kVM0 dcM0 pmM0 cdM0 ctM0 : Value}
    {fM1 : Addr} {odM1 anM1 : Option Addr} {slM1 : Array (Option Value)} {ocM1 kVM1 dcM1 pmM1 cdM1 ctM1 : Value}
    {C T0 E0 : Addr} {ocT ocE : Value} {odT odE : Option Addr} {nT nE : Nat} {slT slE : Array (Option Value)} {u1 u2 : Value}
    {fI : Addr} {odI anI : Option Addr} {slI : Array (Option Value)} {ocI kVI dcI pmI cdI ctI : Value}
    {CE CS CI CG CL : Addr}
    {NLS fXS : Addr} {nmLS qLS : Str} {bsLS : List Value} {snLS : List Str} {subLS : List Value} {abLS : Bool} {colLS : Option Bool} {ddLS : Option Addr} {m0LS m1LS m2LS m3LS m5LS : Option Value} {odXS anXS : Option Addr} {slXS : Array (Option Value)} {ocXS kVXS dcXS pmXS cdXS ctXS : Value}
    {NLL fXL : Addr} {nmLL qLL : Str} {bsLL : List Value} {snLL : List Str} {subLL : List Value} {abLL : Bool} {colLL : Option Bool} {ddLL : Option Addr} {m0LL m1LL m2LL m3LL m5LL : Option Value} {odXL anXL : Option Addr} {slXL : Array (Option Value)} {ocXL kVXL dcXL pmXL cdXL ctXL : Value}
    {NLI fXI : Addr} {nmLI qLI : Str} {bsLI : List Value} {snLI : List Str} {subLI : List Value} {abLI : Bool} {colLI : Option Bool} {ddLI : Option Addr} {m0LI m1LI m2LI m3LI m5LI : Option Value} {odXI anXI : Option Addr} {slXI : Array (Option Value)} {ocXI kVXI dcXI pmXI cdXI ctXI : Value}
    {NLG fXG : Addr} {nmLG qLG : Str} {bsLG : List Value} {snLG : List Str} {subLG : List Value} {abLG : Bool} {colLG : Option Bool} {ddLG : Option Addr} {m0LG m1LG m2LG m3LG m5LG : Option Value} {odXG anXG : Option Addr} {slXG : Array (Option Value)} {ocXG kVXG dcXG pmXG cdXG ctXG : Value}
    {CT fY : Addr} {odY anY : Option Addr} {slY : Array (Option Value)} {ocY kVY dcY pmY cdY ctY : Value}
    {pZ fZ : Addr} {restZ : List Value} {odZ anZ : Option Addr} {slZ : Array (Option Value)} {ocZ kVZ dcZ pmZ cdZ ctZ : Value}
    {cF0 PF0 : Addr} {tbe : Value} {tbd : Option Addr} {tbs : Array Value} {tbz : Array (Option Value)}
    (aC : PySem.W.nsIn K mainGlobals "House" = some (some (.ref C)))
    (a0 : PySem.W.nsIn K mainGlobals "is_whole" = some (some (.ref f0))) (l0 : K.lookup f0 = some ⟨oc0, od0, .func (PySem.W.fnOf "is_whole" "is_whole" (defArgs s_is_whole) (defBody s_is_whole) (defScope s_is_whole) .none kV0 dc0 pm0 an0 cd0 ct0), sl0⟩) (c0 : PySem.W.codeIn K cd0 "is_whole" = true) (k0 : PySem.W.keepIn K (.ref f0) = true)
    (a1 : PySem.W.nsIn K mainGlobals "is_whole_in" = some (some (.ref f1))) (l1 : K.lookup f1 = some ⟨oc1, od1, .func (PySem.W.fnOf "is_whole_in" "is_whole_in" (defArgs s_is_whole_in) (defBody s_is_whole_in) (defScope s_is_whole_in) .none kV1 dc1 pm1 an1 cd1 ct1), sl1⟩) (c1 : PySem.W.codeIn K cd1 "is_whole_in" = true) (k1 : PySem.W.keepIn K (.ref f1) = true)
    (a2 : PySem.W.nsIn K mainGlobals "check_count" = some (some (.ref f2))) (l2 : K.lookup f2 = some ⟨oc2, od2, .func (PySem.W.fnOf "check_count" "check_count" (defArgs s_check_count) (defBody s_check_count) (defScope s_check_count) .none kV2 dc2 pm2 an2 cd2 ct2), sl2⟩) (c2 : PySem.W.codeIn K cd2 "check_count" = true) (k2 : PySem.W.keepIn K (.ref f2) = true)
    (a3 : PySem.W.nsIn K mainGlobals "check_hues" = some (some (.ref f3))) (l3 : K.lookup f3 = some ⟨oc3, od3, .func (PySem.W.fnOf "check_hues" "check_hues" (defArgs s_check_hues) (defBody s_check_hues) (defScope s_check_hues) .none kV3 dc3 pm3 an3 cd3 ct3), sl3⟩) (c3 : PySem.W.codeIn K cd3 "check_hues" = true) (k3 : PySem.W.keepIn K (.ref f3) = true)
    (a4 : PySem.W.nsIn K mainGlobals "is_wire" = some (some (.ref f4))) (l4 : K.lookup f4 = some ⟨oc4, od4, .func (PySem.W.fnOf "is_wire" "is_wire" (defArgs s_is_wire) (defBody s_is_wire) (defScope s_is_wire) .none kV4 dc4 pm4 an4 cd4 ct4), sl4⟩) (c4 : PySem.W.codeIn K cd4 "is_wire" = true) (k4 : PySem.W.keepIn K (.ref f4) = true)
    (a5 : PySem.W.nsIn K mainGlobals "with_wire" = some (some (.ref f5))) (l5 : K.lookup f5 = some ⟨oc5, od5, .func (PySem.W.fnOf "with_wire" "with_wire" (defArgs s_with_wire) (defBody s_with_wire) (defScope s_with_wire) .none kV5 dc5 pm5 an5 cd5 ct5), sl5⟩) (c5 : PySem.W.codeIn K cd5 "with_wire" = true) (k5 : PySem.W.keepIn K (.ref f5) = true)
    (a6 : PySem.W.nsIn K mainGlobals "lamps_beneath" = some (some (.ref f6))) (l6 : K.lookup f6 = some ⟨oc6, od6, .func (PySem.W.fnOf "lamps_beneath" "lamps_beneath" (defArgs s_lamps_beneath) (defBody s_lamps_beneath) (defScope s_lamps_beneath) .none kV6 dc6 pm6 an6 cd6 ct6), sl6⟩) (c6 : PySem.W.codeIn K cd6 "lamps_beneath" = true) (k6 : PySem.W.keepIn K (.ref f6) = true)
    (a7 : PySem.W.nsIn K mainGlobals "is_next" = some (some (.ref f7))) (l7 : K.lookup f7 = some ⟨oc7, od7, .func (PySem.W.fnOf "is_next" "is_next" (defArgs s_is_next) (defBody s_is_next) (defScope s_is_next) .none kV7 dc7 pm7 an7 cd7 ct7), sl7⟩) (c7 : PySem.W.codeIn K cd7 "is_next" = true) (k7 : PySem.W.keepIn K (.ref f7) = true)
    (a8 : PySem.W.nsIn K mainGlobals "order_list" = some (some (.ref f8))) (l8 : K.lookup f8 = some ⟨oc8, od8, .func (PySem.W.fnOf "order_list" "order_list" (defArgs s_order_list) (defBody s_order_list) (defScope s_order_list) .none kV8 dc8 pm8 an8 cd8 ct8), sl8⟩) (c8 : PySem.W.codeIn K cd8 "order_list" = true) (k8 : PySem.W.keepIn K (.ref f8) = true)
    (a9 : PySem.W.nsIn K mainGlobals "is_lamp" = some (some (.ref f9))) (l9 : K.lookup f9 = some ⟨oc9, od9, .func (PySem.W.fnOf "is_lamp" "is_lamp" (defArgs s_is_lamp) (defBody s_is_lamp) (defScope s_is_lamp) .none kV9 dc9 pm9 an9 cd9 ct9), sl9⟩) (c9 : PySem.W.codeIn K cd9 "is_lamp" = true) (k9 : PySem.W.keepIn K (.ref f9) = true)
    (a10 : PySem.W.nsIn K mainGlobals "check_lamp" = some (some (.ref f10))) (l10 : K.lookup f10 = some ⟨oc10, od10, .func (PySem.W.fnOf "check_lamp" "check_lamp" (defArgs s_check_lamp) (defBody s_check_lamp) (defScope s_check_lamp) .none kV10 dc10 pm10 an10 cd10 ct10), sl10⟩) (c10 : PySem.W.codeIn K cd10 "check_lamp" = true) (k10 : PySem.W.keepIn K (.ref f10) = true)
    (a11 : PySem.W.nsIn K mainGlobals "is_state" = some (some (.ref f11))) (l11 : K.lookup f11 = some ⟨oc11, od11, .func (PySem.W.fnOf "is_state" "is_state" (defArgs s_is_state) (defBody s_is_state) (defScope s_is_state) .none kV11 dc11 pm11 an11 cd11 ct11), sl11⟩) (c11 : PySem.W.codeIn K cd11 "is_state" = true) (k11 : PySem.W.keepIn K (.ref f11) = true)
    (a12 : PySem.W.nsIn K mainGlobals "check_state" = some (some (.ref f12))) (l12 : K.lookup f12 = some ⟨oc12, od12, .func (PySem.W.fnOf "check_state" "check_state" (defArgs s_check_state) (defBody s_check_state) (defScope s_check_state) .none kV12 dc12 pm12 an12 cd12 ct12), sl12⟩) (c12 : PySem.W.codeIn K cd12 "check_state" = true) (k12 : PySem.W.keepIn K (.ref f12) = true)
    (a13 : PySem.W.nsIn K mainGlobals "are_counts" = some (some (.ref f13))) (l13 : K.lookup f13 = some ⟨oc13, od13, .func (PySem.W.fnOf "are_counts" "are_counts" (defArgs s_are_counts) (defBody s_are_counts) (defScope s_are_counts) .none kV13 dc13 pm13 an13 cd13 ct13), sl13⟩) (c13 : PySem.W.codeIn K cd13 "are_counts" = true) (k13 : PySem.W.keepIn K (.ref f13) = true)
    (a14 : PySem.W.nsIn K mainGlobals "check_length" = some (some (.ref f14))) (l14 : K.lookup f14 = some ⟨oc14, od14, .func (PySem.W.fnOf "check_length" "check_length" (defArgs s_check_length) (defBody s_check_length) (defScope s_check_length) .none kV14 dc14 pm14 an14 cd14 ct14), sl14⟩) (c14 : PySem.W.codeIn K cd14 "check_length" = true) (k14 : PySem.W.keepIn K (.ref f14) = true)
    (a15 : PySem.W.nsIn K mainGlobals "check_tally" = some (some (.ref f15))) (l15 : K.lookup f15 = some ⟨oc15, od15, .func (PySem.W.fnOf "check_tally" "check_tally" (defArgs s_check_tally) (defBody s_check_tally) (defScope s_check_tally) .none kV15 dc15 pm15 an15 cd15 ct15), sl15⟩) (c15 : PySem.W.codeIn K cd15 "check_tally" = true) (k15 : PySem.W.keepIn K (.ref f15) = true)
    (a16 : PySem.W.nsIn K mainGlobals "with_moves" = some (some (.ref f16))) (l16 : K.lookup f16 = some ⟨oc16, od16, .func (PySem.W.fnOf "with_moves" "with_moves" (defArgs s_with_moves) (defBody s_with_moves) (defScope s_with_moves) .none kV16 dc16 pm16 an16 cd16 ct16), sl16⟩) (c16 : PySem.W.codeIn K cd16 "with_moves" = true) (k16 : PySem.W.keepIn K (.ref f16) = true)
    (a17 : PySem.W.nsIn K mainGlobals "placed_run" = some (some (.ref f17))) (l17 : K.lookup f17 = some ⟨oc17, od17, .func (PySem.W.fnOf "placed_run" "placed_run" (defArgs s_placed_run) (defBody s_placed_run) (defScope s_placed_run) .none kV17 dc17 pm17 an17 cd17 ct17), sl17⟩) (c17 : PySem.W.codeIn K cd17 "placed_run" = true) (k17 : PySem.W.keepIn K (.ref f17) = true)
    (a18 : PySem.W.nsIn K mainGlobals "free_run" = some (some (.ref f18))) (l18 : K.lookup f18 = some ⟨oc18, od18, .func (PySem.W.fnOf "free_run" "free_run" (defArgs s_free_run) (defBody s_free_run) (defScope s_free_run) .none kV18 dc18 pm18 an18 cd18 ct18), sl18⟩) (c18 : PySem.W.codeIn K cd18 "free_run" = true) (k18 : PySem.W.keepIn K (.ref f18) = true)
    (a19 : PySem.W.nsIn K mainGlobals "_law_box" = some (some (.ref f19))) (l19 : K.lookup f19 = some ⟨oc19, od19, .func (PySem.W.fnOf "_law_box" "_law_box" (defArgs s__law_box) (defBody s__law_box) (defScope s__law_box) .none kV19 dc19 pm19 an19 cd19 ct19), sl19⟩) (c19 : PySem.W.codeIn K cd19 "_law_box" = true) (k19 : PySem.W.keepIn K (.ref f19) = true)
    (a20 : PySem.W.nsIn K mainGlobals "_law_take" = some (some (.ref f20))) (l20 : K.lookup f20 = some ⟨oc20, od20, .func (PySem.W.fnOf "_law_take" "_law_take" (defArgs s__law_take) (defBody s__law_take) (defScope s__law_take) .none kV20 dc20 pm20 an20 cd20 ct20), sl20⟩) (c20 : PySem.W.codeIn K cd20 "_law_take" = true) (k20 : PySem.W.keepIn K (.ref f20) = true)
    (a21 : PySem.W.nsIn K mainGlobals "_law_sizes" = some (some (.ref f21))) (l21 : K.lookup f21 = some ⟨oc21, od21, .func (PySem.W.fnOf "_law_sizes" "_law_sizes" (defArgs s__law_sizes) (defBody s__law_sizes) (defScope s__law_sizes) .none kV21 dc21 pm21 an21 cd21 ct21), sl21⟩) (c21 : PySem.W.codeIn K cd21 "_law_sizes" = true) (k21 : PySem.W.keepIn K (.ref f21) = true)
    (a22 : PySem.W.nsIn K mainGlobals "_law_line" = some (some (.ref f22))) (l22 : K.lookup f22 = some ⟨oc22, od22, .func (PySem.W.fnOf "_law_line" "_law_line" (defArgs s__law_line) (defBody s__law_line) (defScope s__law_line) .none kV22 dc22 pm22 an22 cd22 ct22), sl22⟩) (c22 : PySem.W.codeIn K cd22 "_law_line" = true) (k22 : PySem.W.keepIn K (.ref f22) = true)
    (a23 : PySem.W.nsIn K mainGlobals "_law_wires" = some (some (.ref f23))) (l23 : K.lookup f23 = some ⟨oc23, od23, .func (PySem.W.fnOf "_law_wires" "_law_wires" (defArgs s__law_wires) (defBody s__law_wires) (defScope s__law_wires) .none kV23 dc23 pm23 an23 cd23 ct23), sl23⟩) (c23 : PySem.W.codeIn K cd23 "_law_wires" = true) (k23 : PySem.W.keepIn K (.ref f23) = true)
    (a24 : PySem.W.nsIn K mainGlobals "_law_low" = some (some (.ref f24))) (l24 : K.lookup f24 = some ⟨oc24, od24, .func (PySem.W.fnOf "_law_low" "_law_low" (defArgs s__law_low) (defBody s__law_low) (defScope s__law_low) .none kV24 dc24 pm24 an24 cd24 ct24), sl24⟩) (c24 : PySem.W.codeIn K cd24 "_law_low" = true) (k24 : PySem.W.keepIn K (.ref f24) = true)
    (a25 : PySem.W.nsIn K mainGlobals "_law_hues" = some (some (.ref f25))) (l25 : K.lookup f25 = some ⟨oc25, od25, .func (PySem.W.fnOf "_law_hues" "_law_hues" (defArgs s__law_hues) (defBody s__law_hues) (defScope s__law_hues) .none kV25 dc25 pm25 an25 cd25 ct25), sl25⟩) (c25 : PySem.W.codeIn K cd25 "_law_hues" = true) (k25 : PySem.W.keepIn K (.ref f25) = true)
    (a26 : PySem.W.nsIn K mainGlobals "_law_integer" = some (some (.ref f26))) (l26 : K.lookup f26 = some ⟨oc26, od26, .func (PySem.W.fnOf "_law_integer" "_law_integer" (defArgs s__law_integer) (defBody s__law_integer) (defScope s__law_integer) .none kV26 dc26 pm26 an26 cd26 ct26), sl26⟩) (c26 : PySem.W.codeIn K cd26 "_law_integer" = true) (k26 : PySem.W.keepIn K (.ref f26) = true)
    (a27 : PySem.W.nsIn K mainGlobals "_law_row" = some (some (.ref f27))) (l27 : K.lookup f27 = some ⟨oc27, od27, .func (PySem.W.fnOf "_law_row" "_law_row" (defArgs s__law_row) (defBody s__law_row) (defScope s__law_row) .none kV27 dc27 pm27 an27 cd27 ct27), sl27⟩) (c27 : PySem.W.codeIn K cd27 "_law_row" = true) (k27 : PySem.W.keepIn K (.ref f27) = true)
    (a28 : PySem.W.nsIn K mainGlobals "_law_counts" = some (some (.ref f28))) (l28 : K.lookup f28 = some ⟨oc28, od28, .func (PySem.W.fnOf "_law_counts" "_law_counts" (defArgs s__law_counts) (defBody s__law_counts) (defScope s__law_counts) .none kV28 dc28 pm28 an28 cd28 ct28), sl28⟩) (c28 : PySem.W.codeIn K cd28 "_law_counts" = true) (k28 : PySem.W.keepIn K (.ref f28) = true)
    (a29 : PySem.W.nsIn K mainGlobals "_law_odd_state" = some (some (.ref f29))) (l29 : K.lookup f29 = some ⟨oc29, od29, .func (PySem.W.fnOf "_law_odd_state" "_law_odd_state" (defArgs s__law_odd_state) (defBody s__law_odd_state) (defScope s__law_odd_state) .none kV29 dc29 pm29 an29 cd29 ct29), sl29⟩) (c29 : PySem.W.codeIn K cd29 "_law_odd_state" = true) (k29 : PySem.W.keepIn K (.ref f29) = true)
    (a30 : PySem.W.nsIn K mainGlobals "_law_moved" = some (some (.ref f30))) (l30 : K.lookup f30 = some ⟨oc30, od30, .func (PySem.W.fnOf "_law_moved" "_law_moved" (defArgs s__law_moved) (defBody s__law_moved) (defScope s__law_moved) .none kV30 dc30 pm30 an30 cd30 ct30), sl30⟩) (c30 : PySem.W.codeIn K cd30 "_law_moved" = true) (k30 : PySem.W.keepIn K (.ref f30) = true)
    (a31 : PySem.W.nsIn K mainGlobals "_law_order" = some (some (.ref f31))) (l31 : K.lookup f31 = some ⟨oc31, od31, .func (PySem.W.fnOf "_law_order" "_law_order" (defArgs s__law_order) (defBody s__law_order) (defScope s__law_order) .none kV31 dc31 pm31 an31 cd31 ct31), sl31⟩) (c31 : PySem.W.codeIn K cd31 "_law_order" = true) (k31 : PySem.W.keepIn K (.ref f31) = true)
    (a32 : PySem.W.nsIn K mainGlobals "_law_tallied" = some (some (.ref f32))) (l32 : K.lookup f32 = some ⟨oc32, od32, .func (PySem.W.fnOf "_law_tallied" "_law_tallied" (defArgs s__law_tallied) (defBody s__law_tallied) (defScope s__law_tallied) .none kV32 dc32 pm32 an32 cd32 ct32), sl32⟩) (c32 : PySem.W.codeIn K cd32 "_law_tallied" = true) (k32 : PySem.W.keepIn K (.ref f32) = true)
    (a33 : PySem.W.nsIn K mainGlobals "_law_most" = some (some (.ref f33))) (l33 : K.lookup f33 = some ⟨oc33, od33, .func (PySem.W.fnOf "_law_most" "_law_most" (defArgs s__law_most) (defBody s__law_most) (defScope s__law_most) .none kV33 dc33 pm33 an33 cd33 ct33), sl33⟩) (c33 : PySem.W.codeIn K cd33 "_law_most" = true) (k33 : PySem.W.keepIn K (.ref f33) = true)
    (a34 : PySem.W.nsIn K mainGlobals "_law_normal" = some (some (.ref f34))) (l34 : K.lookup f34 = some ⟨oc34, od34, .func (PySem.W.fnOf "_law_normal" "_law_normal" (defArgs s__law_normal) (defBody s__law_normal) (defScope s__law_normal) .none kV34 dc34 pm34 an34 cd34 ct34), sl34⟩) (c34 : PySem.W.codeIn K cd34 "_law_normal" = true) (k34 : PySem.W.keepIn K (.ref f34) = true)
    (a35 : PySem.W.nsIn K mainGlobals "_law_edge" = some (some (.ref f35))) (l35 : K.lookup f35 = some ⟨oc35, od35, .func (PySem.W.fnOf "_law_edge" "_law_edge" (defArgs s__law_edge) (defBody s__law_edge) (defScope s__law_edge) .none kV35 dc35 pm35 an35 cd35 ct35), sl35⟩) (c35 : PySem.W.codeIn K cd35 "_law_edge" = true) (k35 : PySem.W.keepIn K (.ref f35) = true)
    (a36 : PySem.W.nsIn K mainGlobals "_law_great" = some (some (.ref f36))) (l36 : K.lookup f36 = some ⟨oc36, od36, .func (PySem.W.fnOf "_law_great" "_law_great" (defArgs s__law_great) (defBody s__law_great) (defScope s__law_great) .none kV36 dc36 pm36 an36 cd36 ct36), sl36⟩) (c36 : PySem.W.codeIn K cd36 "_law_great" = true) (k36 : PySem.W.keepIn K (.ref f36) = true)
    (a37 : PySem.W.nsIn K mainGlobals "_law_due_fits" = some (some (.ref f37))) (l37 : K.lookup f37 = some ⟨oc37, od37, .func (PySem.W.fnOf "_law_due_fits" "_law_due_fits" (defArgs s__law_due_fits) (defBody s__law_due_fits) (defScope s__law_due_fits) .none kV37 dc37 pm37 an37 cd37 ct37), sl37⟩) (c37 : PySem.W.codeIn K cd37 "_law_due_fits" = true) (k37 : PySem.W.keepIn K (.ref f37) = true)
    (a38 : PySem.W.nsIn K mainGlobals "_law_drawn_counts" = some (some (.ref f38))) (l38 : K.lookup f38 = some ⟨oc38, od38, .func (PySem.W.fnOf "_law_drawn_counts" "_law_drawn_counts" (defArgs s__law_drawn_counts) (defBody s__law_drawn_counts) (defScope s__law_drawn_counts) .none kV38 dc38 pm38 an38 cd38 ct38), sl38⟩) (c38 : PySem.W.codeIn K cd38 "_law_drawn_counts" = true) (k38 : PySem.W.keepIn K (.ref f38) = true)
    (a39 : PySem.W.nsIn K mainGlobals "_law_told" = some (some (.ref f39))) (l39 : K.lookup f39 = some ⟨oc39, od39, .func (PySem.W.fnOf "_law_told" "_law_told" (defArgs s__law_told) (defBody s__law_told) (defScope s__law_told) .none kV39 dc39 pm39 an39 cd39 ct39), sl39⟩) (c39 : PySem.W.codeIn K cd39 "_law_told" = true) (k39 : PySem.W.keepIn K (.ref f39) = true)
    (a40 : PySem.W.nsIn K mainGlobals "_law_good" = some (some (.ref f40))) (l40 : K.lookup f40 = some ⟨oc40, od40, .func (PySem.W.fnOf "_law_good" "_law_good" (defArgs s__law_good) (defBody s__law_good) (defScope s__law_good) .none kV40 dc40 pm40 an40 cd40 ct40), sl40⟩) (c40 : PySem.W.codeIn K cd40 "_law_good" = true) (k40 : PySem.W.keepIn K (.ref f40) = true)
    (a41 : PySem.W.nsIn K mainGlobals "_law_fitting" = some (some (.ref f41))) (l41 : K.lookup f41 = some ⟨oc41, od41, .func (PySem.W.fnOf "_law_fitting" "_law_fitting" (defArgs s__law_fitting) (defBody s__law_fitting) (defScope s__law_fitting) .none kV41 dc41 pm41 an41 cd41 ct41), sl41⟩) (c41 : PySem.W.codeIn K cd41 "_law_fitting" = true) (k41 : PySem.W.keepIn K (.ref f41) = true)
    (a42 : PySem.W.nsIn K mainGlobals "_law_left_over" = some (some (.ref f42))) (l42 : K.lookup f42 = some ⟨oc42, od42, .func (PySem.W.fnOf "_law_left_over" "_law_left_over" (defArgs s__law_left_over) (defBody s__law_left_over) (defScope s__law_left_over) .none kV42 dc42 pm42 an42 cd42 ct42), sl42⟩) (c42 : PySem.W.codeIn K cd42 "_law_left_over" = true) (k42 : PySem.W.keepIn K (.ref f42) = true)
    (a43 : PySem.W.nsIn K mainGlobals "_law_refusals" = some (some (.ref f43))) (l43 : K.lookup f43 = some ⟨oc43, od43, .func (PySem.W.fnOf "_law_refusals" "_law_refusals" (defArgs s__law_refusals) (defBody s__law_refusals) (defScope s__law_refusals) .none kV43 dc43 pm43 an43 cd43 ct43), sl43⟩) (c43 : PySem.W.codeIn K cd43 "_law_refusals" = true) (k43 : PySem.W.keepIn K (.ref f43) = true)
    (a44 : PySem.W.nsIn K mainGlobals "_law_at_default" = some (some (.ref f44))) (l44 : K.lookup f44 = some ⟨oc44, od44, .func (PySem.W.fnOf "_law_at_default" "_law_at_default" (defArgs s__law_at_default) (defBody s__law_at_default) (defScope s__law_at_default) .none kV44 dc44 pm44 an44 cd44 ct44), sl44⟩) (c44 : PySem.W.codeIn K cd44 "_law_at_default" = true) (k44 : PySem.W.keepIn K (.ref f44) = true)
    (a45 : PySem.W.nsIn K mainGlobals "law" = some (some (.ref f45))) (l45 : K.lookup f45 = some ⟨oc45, od45, .func (PySem.W.fnOf "law" "law" (defArgs s_law) (defBody s_law) (defScope s_law) .none kV45 dc45 pm45 an45 cd45 ct45), sl45⟩) (c45 : PySem.W.codeIn K cd45 "law" = true) (k45 : PySem.W.keepIn K (.ref f45) = true)
    (aW0 : PySem.W.nsIn K mainGlobals "normal_run" = some (some (.ref fW0))) (lW0 : K.lookup fW0 = some ⟨ocW0, odW0, .func (PySem.W.fnOf "normal_run" "normal_run" (defArgs s_normal_run) (defBody s_normal_run) (defScope s_normal_run) .none (.ref DW0) dcW0 pmW0 anW0 cdW0 ctW0), slW0⟩) (cW0 : PySem.W.codeIn K cdW0 "normal_run" = true) (kW0 : PySem.W.keepIn K (.ref fW0) = true) (nW0 : PySem.W.nsIn K DW0 "limit" = some (some uW0)) (rW0 : ∃ t, uW0 = .int 1000 t)
    (aM0 : PySem.W.findIn K (.ref C) "order" = some (some (.ref fM0))) (iM0 : PySem.W.isFn K (.ref fM0) = true) (lM0 : K.lookup fM0 = some ⟨ocM0, odM0, .func (PySem.W.fnOf "order" "House.order" (defArgs s_House_order) (defBody s_House_order) (defScope s_House_order) .none kVM0 dcM0 pmM0 anM0 cdM0 ctM0), slM0⟩) (cM0 : PySem.W.codeIn K cdM0 "House.order" = true) (kM0 : PySem.W.keepIn K (.ref fM0) = true)
    (aM1 : PySem.W.findIn K (.ref C) "above" = some (some (.ref fM1))) (iM1 : PySem.W.isFn K (.ref fM1) = true) (lM1 : K.lookup fM1 = some ⟨ocM1, odM1, .func (PySem.W.fnOf "above" "House.above" (defArgs s_House_above) (defBody s_House_above) (defScope s_House_above) .none kVM1 dcM1 pmM1 anM1 cdM1 ctM1), slM1⟩) (cM1 : PySem.W.codeIn K cdM1 "House.above" = true) (kM1 : PySem.W.keepIn K (.ref fM1) = true)
    (aI : PySem.W.findIn K (.ref C) "__init__" = some (some (.ref fI))) (iI : PySem.W.isFn K (.ref fI) = true) (lI : K.lookup fI = some ⟨ocI, odI, .func (PySem.W.fnOf "__init__" "House.__init__" (defArgs s_House___init__) (defBody s_House___init__) (defScope s_House___init__) (.ref T0) kVI dcI pmI anI cdI ctI), slI⟩) (cI : PySem.W.codeIn K cdI "House.__init__" = true) (kI : PySem.W.keepIn K (.ref fI) = true)
    (lT : K.lookup T0 = some ⟨ocT, odT, .seq #[.ref E0] nT, slT⟩) (lE : K.lookup E0 = some ⟨ocE, odE, .seq #[] nE, slE⟩) (eE : ocE = .type "tuple")
    (pg : PySem.W.plainGet K C Str.empty = true) (hd : PySem.W.hasDictIn K C = true) (po : PySem.W.plainOver K C = true) (sa : PySem.W.findIn K (.ref C) "__setattr__" = some (some (.builtin "object.__setattr__"))) (mk : PySem.W.makesIn K C = true) (kc : PySem.W.keepIn K (.ref C) = true)
    (nCount : PySem.W.findIn K (.ref C) "count" = some none)
    (nHues : PySem.W.findIn K (.ref C) "hues" = some none)
    (nBen : PySem.W.findIn K (.ref C) "_beneath" = some none)
    (nWires : PySem.W.findIn K (.ref C) "wires" = some none)
    (nAbove : PySem.W.findIn K (.ref C) "_above" = some none)
    (nDirect : PySem.W.findIn K (.ref C) "_direct" = some none)
    (nOrder : PySem.W.findIn K (.ref C) "_order" = some none)
    (rd : PySem.W.readsIn K C (.type "type") = true) (ga : PySem.W.specialIn K (.ref C) "__getattribute__" = some (some (.builtin "type.__getattribute__"))) (v1 : PySem.W.findCls K (.ref C) (.type "type") "MOST_LAMPS" = some (.val u1)) (r1 : ∃ t, u1 = .int 16 t) (v2 : PySem.W.findCls K (.ref C) (.type "type") "MOST_HUES" = some (.val u2)) (r2 : ∃ t, u2 = .int 10 t)
    (b_len : PySem.W.nsIn K mainGlobals "len" = some none)
    (b_range : PySem.W.nsIn K mainGlobals "range" = some none)
    (b_isinstance : PySem.W.nsIn K mainGlobals "isinstance" = some none)
    (b_int : PySem.W.nsIn K mainGlobals "int" = some none)
    (b_bool : PySem.W.nsIn K mainGlobals "bool" = some none)
    (b_tuple : PySem.W.nsIn K mainGlobals "tuple" = some none)
    (b_list : PySem.W.nsIn K mainGlobals "list" = some none)
    (b_set : PySem.W.nsIn K mainGlobals "set" = some none)
    (b_enumerate : PySem.W.nsIn K mainGlobals "enumerate" = some none)
    (b_sorted : PySem.W.nsIn K mainGlobals "sorted" = some none)
    (b_min : PySem.W.nsIn K mainGlobals "min" = some none)
    (b_all : PySem.W.nsIn K mainGlobals "all" = some none)
    (b_any : PySem.W.nsIn K mainGlobals "any" = some none)
    (b_abs : PySem.W.nsIn K mainGlobals "abs" = some none)
    (b_reversed : PySem.W.nsIn K mainGlobals "reversed" = some none)
    (b_max : PySem.W.nsIn K mainGlobals "max" = some none)
    (b_str : PySem.W.nsIn K mainGlobals "str" = some none)
    (b_repr : PySem.W.nsIn K mainGlobals "repr" = some none)
    (b_ValueError : PySem.W.nsIn K mainGlobals "ValueError" = some none)
    (b_sum : PySem.W.nsIn K mainGlobals "sum" = some none)
    (b_zip : PySem.W.nsIn K mainGlobals "zip" = some none)
    (yaCY : PySem.W.nsIn K mainGlobals "Tally" = some (some (.ref CT))) (yaIY : PySem.W.findIn K (.ref CT) "__init__" = some (some (.ref fY))) (yiIY : PySem.W.isFn K (.ref fY) = true) (ylIY : K.lookup fY = some ⟨ocY, odY, .func (PySem.W.fnOf "__init__" "Tally.__init__" (defArgs s_Tally___init__) (defBody s_Tally___init__) (defScope s_Tally___init__) .none kVY dcY pmY anY cdY ctY), slY⟩) (ycIY : PySem.W.codeIn K cdY "Tally.__init__" = true) (ykIY : PySem.W.keepIn K (.ref fY) = true) (ypgY : PySem.W.plainGet K CT Str.empty = true) (yhdY : PySem.W.hasDictIn K CT = true) (ypoY : PySem.W.plainOver K CT = true) (ysaY : PySem.W.findIn K (.ref CT) "__setattr__" = some (some (.builtin "object.__setattr__"))) (ymkY : PySem.W.makesIn K CT = true) (ykcY : PySem.W.keepIn K (.ref CT) = true) (ycaY : PySem.W.findIn K (.ref CT) "__class__" = some (some (.builtin "object.__class__"))) (ymoY : PySem.W.mroIn K CT (.type "object") = some true) (yn0Y : PySem.W.findIn K (.ref CT) "counts" = some none)
    (xaE : PySem.W.nsIn K mainGlobals "HuefallError" = some (some (.ref CE))) (xeE : PySem.W.subIn K (.ref CE) (.type "BaseException") = some true) (xiE : PySem.W.isClsIn K CE = true) (xtE : PySem.W.typeIn K (.ref CE) = some (.type "type")) (xa_CS : PySem.W.nsIn K mainGlobals "InvalidState" = some (some (.ref CS))) (xi_CS : PySem.W.isClsIn K CS = true) (xt_CS : PySem.W.typeIn K (.ref CS) = some (.type "type")) (xa_CI : PySem.W.nsIn K mainGlobals "InvalidTally" = some (some (.ref CI))) (xi_CI : PySem.W.isClsIn K CI = true) (xt_CI : PySem.W.typeIn K (.ref CI) = some (.type "type")) (xa_CG : PySem.W.nsIn K mainGlobals "TooLong" = some (some (.ref CG))) (xi_CG : PySem.W.isClsIn K CG = true) (xt_CG : PySem.W.typeIn K (.ref CG) = some (.type "type")) (xa_CL : PySem.W.nsIn K mainGlobals "InvalidLamp" = some (some (.ref CL))) (xi_CL : PySem.W.isClsIn K CL = true) (xt_CL : PySem.W.typeIn K (.ref CL) = some (.type "type")) (xlS : K.lookup CS = some (excClassObj nmLS qLS CS NLS bsLS [.ref CE, .type "ValueError", .type "Exception", .type "BaseException", .type "object"] true snLS subLS abLS colLS ddLS m0LS m1LS m2LS m3LS m5LS "ValueError.__new__")) (xsaS : PySem.W.findIn K (.ref CS) "__setattr__" = some (some (.builtin "object.__setattr__"))) (xgaS : PySem.W.findIn K (.ref CS) "__getattribute__" = some (some (.builtin "BaseException.__getattribute__"))) (xggS : PySem.W.findIn K (.ref CS) "__getattr__" = some none) (xcaS : PySem.W.findIn K (.ref CS) "__class__" = some (some (.builtin "object.__class__"))) (xnlS : PySem.W.findIn K (.ref CS) "state" = some none) (xinS : PySem.W.findIn K (.ref CS) "__init__" = some (some (.ref fXS))) (xtyS : PySem.W.typeIn K (.ref fXS) = some (.type "function")) (xlxS : K.lookup fXS = some ⟨ocXS, odXS, .func (PySem.W.fnOf "__init__" "InvalidState.__init__" (defArgs s_InvalidState___init__) (defBody s_InvalidState___init__) (defScope s_InvalidState___init__) .none kVXS dcXS pmXS anXS cdXS ctXS), slXS⟩) (xcxS : PySem.W.codeIn K cdXS "InvalidState.__init__" = true) (xkxS : PySem.W.keepIn K (.ref fXS) = true) (xkcS : PySem.W.keepIn K (.ref CS) = true) (xebS : PySem.W.subIn K (.ref CS) (.type "BaseException") = some true) (xhdS : PySem.W.hasDictIn K CS = true) (xmrS : PySem.W.mroIn K CS (.type "object") = some true) (xssS : PySem.W.subIn K (.ref CS) (.ref CS) = some true) (xseS : PySem.W.subIn K (.ref CS) (.ref CE) = some true) (xsS0 : PySem.W.subIn K (.ref CS) (.ref CI) = some false) (xsS1 : PySem.W.subIn K (.ref CS) (.ref CG) = some false) (xlL : K.lookup CL = some (excClassObj nmLL qLL CL NLL bsLL [.ref CE, .type "ValueError", .type "Exception", .type "BaseException", .type "object"] true snLL subLL abLL colLL ddLL m0LL m1LL m2LL m3LL m5LL "ValueError.__new__")) (xsaL : PySem.W.findIn K (.ref CL) "__setattr__" = some (some (.builtin "object.__setattr__"))) (xgaL : PySem.W.findIn K (.ref CL) "__getattribute__" = some (some (.builtin "BaseException.__getattribute__"))) (xggL : PySem.W.findIn K (.ref CL) "__getattr__" = some none) (xcaL : PySem.W.findIn K (.ref CL) "__class__" = some (some (.builtin "object.__class__"))) (xnlL : PySem.W.findIn K (.ref CL) "lamp" = some none) (xinL : PySem.W.findIn K (.ref CL) "__init__" = some (some (.ref fXL))) (xtyL : PySem.W.typeIn K (.ref fXL) = some (.type "function")) (xlxL : K.lookup fXL = some ⟨ocXL, odXL, .func (PySem.W.fnOf "__init__" "InvalidLamp.__init__" (defArgs s_InvalidLamp___init__) (defBody s_InvalidLamp___init__) (defScope s_InvalidLamp___init__) .none kVXL dcXL pmXL anXL cdXL ctXL), slXL⟩) (xcxL : PySem.W.codeIn K cdXL "InvalidLamp.__init__" = true) (xkxL : PySem.W.keepIn K (.ref fXL) = true) (xkcL : PySem.W.keepIn K (.ref CL) = true) (xebL : PySem.W.subIn K (.ref CL) (.type "BaseException") = some true) (xhdL : PySem.W.hasDictIn K CL = true) (xmrL : PySem.W.mroIn K CL (.type "object") = some true) (xssL : PySem.W.subIn K (.ref CL) (.ref CL) = some true) (xseL : PySem.W.subIn K (.ref CL) (.ref CE) = some true) (xlI : K.lookup CI = some (excClassObj nmLI qLI CI NLI bsLI [.ref CE, .type "ValueError", .type "Exception", .type "BaseException", .type "object"] true snLI subLI abLI colLI ddLI m0LI m1LI m2LI m3LI m5LI "ValueError.__new__")) (xsaI : PySem.W.findIn K (.ref CI) "__setattr__" = some (some (.builtin "object.__setattr__"))) (xgaI : PySem.W.findIn K (.ref CI) "__getattribute__" = some (some (.builtin "BaseException.__getattribute__"))) (xggI : PySem.W.findIn K (.ref CI) "__getattr__" = some none) (xcaI : PySem.W.findIn K (.ref CI) "__class__" = some (some (.builtin "object.__class__"))) (xnlI : PySem.W.findIn K (.ref CI) "counts" = some none) (xinI : PySem.W.findIn K (.ref CI) "__init__" = some (some (.ref fXI))) (xtyI : PySem.W.typeIn K (.ref fXI) = some (.type "function")) (xlxI : K.lookup fXI = some ⟨ocXI, odXI, .func (PySem.W.fnOf "__init__" "InvalidTally.__init__" (defArgs s_InvalidTally___init__) (defBody s_InvalidTally___init__) (defScope s_InvalidTally___init__) .none kVXI dcXI pmXI anXI cdXI ctXI), slXI⟩) (xcxI : PySem.W.codeIn K cdXI "InvalidTally.__init__" = true) (xkxI : PySem.W.keepIn K (.ref fXI) = true) (xkcI : PySem.W.keepIn K (.ref CI) = true) (xebI : PySem.W.subIn K (.ref CI) (.type "BaseException") = some true) (xhdI : PySem.W.hasDictIn K CI = true) (xmrI : PySem.W.mroIn K CI (.type "object") = some true) (xssI : PySem.W.subIn K (.ref CI) (.ref CI) = some true) (xseI : PySem.W.subIn K (.ref CI) (.ref CE) = some true) (xsI0 : PySem.W.subIn K (.ref CI) (.ref CS) = some false) (xsI1 : PySem.W.subIn K (.ref CI) (.ref CG) = some false) (xlG : K.lookup CG = some (excClassObj nmLG qLG CG NLG bsLG [.ref CE, .type "ValueError", .type "Exception", .type "BaseException", .type "object"] true snLG subLG abLG colLG ddLG m0LG m1LG m2LG m3LG m5LG "ValueError.__new__")) (xsaG : PySem.W.findIn K (.ref CG) "__setattr__" = some (some (.builtin "object.__setattr__"))) (xgaG : PySem.W.findIn K (.ref CG) "__getattribute__" = some (some (.builtin "BaseException.__getattribute__"))) (xggG : PySem.W.findIn K (.ref CG) "__getattr__" = some none) (xcaG : PySem.W.findIn K (.ref CG) "__class__" = some (some (.builtin "object.__class__"))) (xnlG : PySem.W.findIn K (.ref CG) "length" = some none) (xinG : PySem.W.findIn K (.ref CG) "__init__" = some (some (.ref fXG))) (xtyG : PySem.W.typeIn K (.ref fXG) = some (.type "function")) (xlxG : K.lookup fXG = some ⟨ocXG, odXG, .func (PySem.W.fnOf "__init__" "TooLong.__init__" (defArgs s_TooLong___init__) (defBody s_TooLong___init__) (defScope s_TooLong___init__) .none kVXG dcXG pmXG anXG cdXG ctXG), slXG⟩) (xcxG : PySem.W.codeIn K cdXG "TooLong.__init__" = true) (xkxG : PySem.W.keepIn K (.ref fXG) = true) (xkcG : PySem.W.keepIn K (.ref CG) = true) (xebG : PySem.W.subIn K (.ref CG) (.type "BaseException") = some true) (xhdG : PySem.W.hasDictIn K CG = true) (xmrG : PySem.W.mroIn K CG (.type "object") = some true) (xssG : PySem.W.subIn K (.ref CG) (.ref CG) = some true) (xseG : PySem.W.subIn K (.ref CG) (.ref CE) = some true) (xsG0 : PySem.W.subIn K (.ref CG) (.ref CS) = some false) (xsG1 : PySem.W.subIn K (.ref CG) (.ref CI) = some false) (xgs : PySem.W.specialIn K (.builtin "object.__class__") "__get__" = some (some (.builtin "getset_descriptor.__get__"))) (xtk : PySem.W.takesIn K (.builtin "object.__class__") = some true) (xza : PySem.W.findIn K (.ref CT) "total" = some (some (.ref pZ))) (xzg : PySem.W.specialIn K (.ref pZ) "__get__" = some (some (.builtin "property.__get__"))) (xzt : PySem.W.takesIn K (.ref pZ) = some true) (xzr : PySem.W.recIn K pZ "property" = some (.ref fZ :: restZ)) (xzl : K.lookup fZ = some ⟨ocZ, odZ, .func (PySem.W.fnOf "total" "Tally.total" (defArgs s_Tally_total) (defBody s_Tally_total) (defScope s_Tally_total) .none kVZ dcZ pmZ anZ cdZ ctZ), slZ⟩) (xzc : PySem.W.codeIn K cdZ "Tally.total" = true) (xzk : PySem.W.keepIn K (.ref fZ) = true)
    (tb0 : cd18 = .ref cF0) (tb1 : K.lookup cF0 = some ⟨tbe, tbd, .fields tbs, tbz⟩) (tb2 : tbs[11]? = some (.ref PF0)) (tb3 : K.lookup PF0 = none) (tb4 : PySem.W.codeHdIn K cF0 PF0 = true) (tb5 : PF0 ∈ ts)
    : LawT l w K 11 63 "script" mg fa h := by
  subst tb0
  have e := hfa.symm.trans (PySem.W.mg_of X G a45)
  cases e
  have T : Txt K mg C := { cl := ⟨pg, hd, po, sa⟩, nCount := nCount, nHues := nHues, nBen := nBen, nWires := nWires, nAbove := nAbove, nDirect := nDirect, nOrder := nOrder, mgC := PySem.W.mg_of X G aC, con := ⟨.type "type", ⟨rd, ga⟩, ⟨u1, v1, r1⟩, ⟨u2, v2, r2⟩⟩, len := PySem.W.mg_none_of X G b_len, range := PySem.W.mg_none_of X G b_range, isinstance := PySem.W.mg_none_of X G b_isinstance, int := PySem.W.mg_none_of X G b_int, bool := PySem.W.mg_none_of X G b_bool, tuple := PySem.W.mg_none_of X G b_tuple, list := PySem.W.mg_none_of X G b_list, set := PySem.W.mg_none_of X G b_set, enumerate := PySem.W.mg_none_of X G b_enumerate, sorted := PySem.W.mg_none_of X G b_sorted, min := PySem.W.mg_none_of X G b_min, all := PySem.W.mg_none_of X G b_all, any := PySem.W.mg_none_of X G b_any, abs := PySem.W.mg_none_of X G b_abs, reversed := PySem.W.mg_none_of X G b_reversed, max := PySem.W.mg_none_of X G b_max, str := PySem.W.mg_none_of X G b_str, repr := PySem.W.mg_none_of X G b_repr, ValueError := PySem.W.mg_none_of X G b_ValueError, sum := PySem.W.mg_none_of X G b_sum, zip := PySem.W.mg_none_of X G b_zip }
  refine ⟨PySem.W.fnOf "law" "law" (defArgs s_law) (defBody s_law) (defScope s_law) .none kV45 dc45 pm45 an45 cd45 ct45, [(cF0, PF0)], spLaw24 K [(PF0, ("free_run.<locals>.<lambda>" : Str))], fun p hp => ?_, fun p hp => ?_, fun p hp => ?_, fun s v => .of_eq rfl, fun H a ns hl hH hS => ⟨a, ns, rfl, hS, hl, fun p hp => ?_, fun _ => rfl⟩, fun base _ _ TBs => ?_⟩
  · rw [List.mem_singleton.mp hp]; exact own _ tb5
  · rw [List.mem_singleton.mp hp]; exact tb3
  · rw [List.mem_singleton.mp hp]; exact PySem.W.codeHd_of_K X tb4
  · rw [List.mem_singleton.mp hp]; exact LamX.TabS.nil (hH (cF0, PF0) (List.mem_singleton.mpr rfl))
  have XCS : XCls K CS := ⟨⟨⟨_, _, _, _, _, _, _, _, _, _, _, _, _, _, _, xlS, by rfl⟩, xsaS, xebS, xt_CS, xkcS⟩, ⟨xgaS, xggS, xebS, xhdS⟩, xcaS, xmrS⟩
  have F_xS : Fun K "__init__" "InvalidState.__init__" s_InvalidState___init__ fXS _ := fun_mk (st := s_InvalidState___init__) xlxS xcxS xkxS
  have M_state : XMk l.prog w K mg base CS "InvalidState" "state" := ⟨⟨_, _, _, ok_InvalidState F_xS, F_xS.binds fun _ _ _ _ _ _ us hl => match us, hl with | [_, _], _ => rfl, xinS, xtyS⟩, PySem.W.mg_of X G xa_CS, XCS, xnlS⟩
  have XCL : XCls K CL := ⟨⟨⟨_, _, _, _, _, _, _, _, _, _, _, _, _, _, _, xlL, by rfl⟩, xsaL, xebL, xt_CL, xkcL⟩, ⟨xgaL, xggL, xebL, xhdL⟩, xcaL, xmrL⟩
  have F_xL : Fun K "__init__" "InvalidLamp.__init__" s_InvalidLamp___init__ fXL _ := fun_mk (st := s_InvalidLamp___init__) xlxL xcxL xkxL
  have M_lamp : XMk l.prog w K mg base CL "InvalidLamp" "lamp" := ⟨⟨_, _, _, ok_InvalidLamp F_xL, F_xL.binds fun _ _ _ _ _ _ us hl => match us, hl with | [_, _], _ => rfl, xinL, xtyL⟩, PySem.W.mg_of X G xa_CL, XCL, xnlL⟩
  have XCI : XCls K CI := ⟨⟨⟨_, _, _, _, _, _, _, _, _, _, _, _, _, _, _, xlI, by rfl⟩, xsaI, xebI, xt_CI, xkcI⟩, ⟨xgaI, xggI, xebI, xhdI⟩, xcaI, xmrI⟩
  have F_xI : Fun K "__init__" "InvalidTally.__init__" s_InvalidTally___init__ fXI _ := fun_mk (st := s_InvalidTally___init__) xlxI xcxI xkxI
  have M_counts : XMk l.prog w K mg base CI "InvalidTally" "counts" := ⟨⟨_, _, _, ok_InvalidTally F_xI, F_xI.binds fun _ _ _ _ _ _ us hl => match us, hl with | [_, _], _ => rfl, xinI, xtyI⟩, PySem.W.mg_of X G xa_CI, XCI, xnlI⟩
  have XCG : XCls K CG := ⟨⟨⟨_, _, _, _, _, _, _, _, _, _, _, _, _, _, _, xlG, by rfl⟩, xsaG, xebG, xt_CG, xkcG⟩, ⟨xgaG, xggG, xebG, xhdG⟩, xcaG, xmrG⟩
  have F_xG : Fun K "__init__" "TooLong.__init__" s_TooLong___init__ fXG _ := fun_mk (st := s_TooLong___init__) xlxG xcxG xkxG
  have M_length : XMk l.prog w K mg base CG "TooLong" "length" := ⟨⟨_, _, _, ok_TooLong F_xG, F_xG.binds fun _ _ _ _ _ _ us hl => match us, hl with | [_, _], _ => rfl, xinG, xtyG⟩, PySem.W.mg_of X G xa_CG, XCG, xnlG⟩
  have TEH : TxH K mg CE CS CI CG := ⟨PySem.W.mg_of X G xaE, PySem.W.mg_of X G xa_CS, PySem.W.mg_of X G xa_CI, PySem.W.mg_of X G xa_CG, XCS, XCI, XCG, ⟨xgs, xtk⟩, xnlS, xnlI, xnlG, (exm_of xebS xi_CS xt_CS xssS), (exm_of xebS xi_CS xt_CS xsI0), (exm_of xebI xi_CI xt_CI xssI), (exm_of xebS xi_CS xt_CS xsG0), (exm_of xebI xi_CI xt_CI xsG1), (exm_of xebG xi_CG xt_CG xssG), (kit_yes xiE xtE xseS), (kit_yes xiE xtE xseI), (kit_yes xiE xtE xseG), (kitAny_cons (b := false) (kit_no xi_CI xt_CI xsS0 xssS) (fun _ => kitAny_cons (b := false) (kit_no xi_CG xt_CG xsS1 xssS) (fun _ => kitAny_nil) (fun z => by cases z)) (fun z => by cases z)), (kitAny_cons (b := false) (kit_no xi_CS xt_CS xsI0 xssI) (fun _ => kitAny_cons (b := false) (kit_no xi_CG xt_CG xsI1 xssI) (fun _ => kitAny_nil) (fun z => by cases z)) (fun z => by cases z)), (kitAny_cons (b := false) (kit_no xi_CS xt_CS xsG0 xssG) (fun _ => kitAny_cons (b := false) (kit_no xi_CI xt_CI xsG1 xssG) (fun _ => kitAny_nil) (fun z => by cases z)) (fun z => by cases z))⟩
  have TT : TxtT K mg CT := ⟨⟨ypgY, yhdY, ypoY, ysaY⟩, PySem.W.mg_of X G yaCY, yn0Y, ycaY, xgs, xtk, ymoY⟩
  have F_total : Fun K "total" "Tally.total" s_Tally_total fZ _ := fun_mk (st := s_Tally_total) xzl xzc xzk
  have PT : ∃ (p g : Addr) (fd : FuncData), PropOf K CT "total" p g ∧ FnOk l.prog w K mg base CX0 1 g fd ["self"] (spTotal CT) ∧ Binds K fd ["self"] [] ∧ L2.Cls K CT := ⟨pZ, fZ, _, ⟨xza, xzg, xzt, ⟨_, xzr⟩⟩, ok_total T TT F_total, F_total.binds fun _ _ _ _ _ _ us hl => match us, hl with | [_], _ => rfl, TT.cl⟩
  have F_is_whole := fun_mk (st := s_is_whole) l0 c0 k0
  have c_is_whole : Cal l.prog w K mg base "is_whole" 1 spWholeV := ⟨⟨_, _, _, ok_is_whole T F_is_whole, PySem.W.mg_of X G a0, k0, F_is_whole.binds fun _ _ _ _ _ _ us hl => match us, hl with | [_], _ => rfl⟩⟩
  have F_is_whole_in := fun_mk (st := s_is_whole_in) l1 c1 k1
  have c_is_whole_in : Cal l.prog w K mg base "is_whole_in" 2 spWholeInV := ⟨⟨_, _, _, ok_is_whole_in T F_is_whole_in c_is_whole, PySem.W.mg_of X G a1, k1, F_is_whole_in.binds fun _ _ _ _ _ _ us hl => match us, hl with | [_, _, _], _ => rfl⟩⟩
  have c_int : Cal l.prog w K mg base "is_whole_in" 2 spWholeIn := c_is_whole_in.imp whole_in_int
  have F_check_count := fun_mk (st := s_check_count) l2 c2 k2
  have c_check_count : Cal l.prog w K mg base "check_count" 3 spCheckCount := ⟨⟨_, _, _, ok_check_count T F_check_count c_int, PySem.W.mg_of X G a2, k2, F_check_count.binds fun _ _ _ _ _ _ us hl => match us, hl with | [_], _ => rfl⟩⟩
  have F_check_hues := fun_mk (st := s_check_hues) l3 c3 k3
  have c_check_hues : Cal l.prog w K mg base "check_hues" 3 spCheckHues := ⟨⟨_, _, _, ok_check_hues T F_check_hues c_int, PySem.W.mg_of X G a3, k3, F_check_hues.binds fun _ _ _ _ _ _ us hl => match us, hl with | [_], _ => rfl⟩⟩
  have F_is_wire := fun_mk (st := s_is_wire) l4 c4 k4
  have c_is_wire : Cal l.prog w K mg base "is_wire" 3 spIsWire := ⟨⟨_, _, _, ok_is_wire T F_is_wire c_int, PySem.W.mg_of X G a4, k4, F_is_wire.binds fun _ _ _ _ _ _ us hl => match us, hl with | [_, _], _ => rfl⟩⟩
  have F_with_wire := fun_mk (st := s_with_wire) l5 c5 k5
  have c_with_wire : Cal l.prog w K mg base "with_wire" 1 spWithWire := ⟨⟨_, _, _, ok_with_wire T F_with_wire, PySem.W.mg_of X G a5, k5, F_with_wire.binds fun _ _ _ _ _ _ us hl => match us, hl with | [_, _, _], _ => rfl⟩⟩
  have F_lamps_beneath := fun_mk (st := s_lamps_beneath) l6 c6 k6
  have c_lamps_beneath : Cal l.prog w K mg base "lamps_beneath" 4 (spLampsBeneath K) := ⟨⟨_, _, _, ok_lamps_beneath T F_lamps_beneath c_is_wire c_with_wire, PySem.W.mg_of X G a6, k6, F_lamps_beneath.binds fun _ _ _ _ _ _ us hl => match us, hl with | [_, _], _ => rfl⟩⟩
  have F_is_next := fun_mk (st := s_is_next) l7 c7 k7
  have c_is_next : Cal l.prog w K mg base "is_next" 1 spIsNext := ⟨⟨_, _, _, ok_is_next T F_is_next, PySem.W.mg_of X G a7, k7, F_is_next.binds fun _ _ _ _ _ _ us hl => match us, hl with | [_, _, _], _ => rfl⟩⟩
  have F_order_list := fun_mk (st := s_order_list) l8 c8 k8
  have c_order_list : Cal l.prog w K mg base "order_list" 2 spOrderList := ⟨⟨_, _, _, ok_order_list T F_order_list c_is_next, PySem.W.mg_of X G a8, k8, F_order_list.binds fun _ _ _ _ _ _ us hl => match us, hl with | [_], _ => rfl⟩⟩
  have F_is_lamp := fun_mk (st := s_is_lamp) l9 c9 k9
  have c_is_lamp : Cal l.prog w K mg base "is_lamp" 3 (spIsLampV C) := ⟨⟨_, _, _, ok_is_lamp T F_is_lamp c_is_whole_in, PySem.W.mg_of X G a9, k9, F_is_lamp.binds fun _ _ _ _ _ _ us hl => match us, hl with | [_, _], _ => rfl⟩⟩
  have F_check_lamp := fun_mk (st := s_check_lamp) l10 c10 k10
  have c_check_lamp : CalX l.prog w K mg base "check_lamp" 4 (spCheckLampX C CL) := ⟨⟨_, _, _, ok_check_lamp T M_lamp F_check_lamp c_is_lamp, PySem.W.mg_of X G a10, k10, F_check_lamp.binds fun _ _ _ _ _ _ us hl => match us, hl with | [_, _], _ => rfl⟩⟩
  have F_is_state := fun_mk (st := s_is_state) l11 c11 k11
  have c_is_state : Cal l.prog w K mg base "is_state" 3 (spIsStateV C) := ⟨⟨_, _, _, ok_is_state T F_is_state c_is_whole_in, PySem.W.mg_of X G a11, k11, F_is_state.binds fun _ _ _ _ _ _ us hl => match us, hl with | [_, _], _ => rfl⟩⟩
  have F_check_state := fun_mk (st := s_check_state) l12 c12 k12
  have c_check_state : CalX l.prog w K mg base "check_state" 4 (spCheckStateX C CS) := ⟨⟨_, _, _, ok_check_state T M_state F_check_state c_is_state, PySem.W.mg_of X G a12, k12, F_check_state.binds fun _ _ _ _ _ _ us hl => match us, hl with | [_, _], _ => rfl⟩⟩
  have F_are_counts := fun_mk (st := s_are_counts) l13 c13 k13
  have c_are_counts : Cal l.prog w K mg base "are_counts" 2 spAreCounts := ⟨⟨_, _, _, ok_are_counts T F_are_counts c_is_whole, PySem.W.mg_of X G a13, k13, F_are_counts.binds fun _ _ _ _ _ _ us hl => match us, hl with | [_], _ => rfl⟩⟩
  have F_tinit : Fun K "__init__" "Tally.__init__" s_Tally___init__ fY _ := fun_mk (st := s_Tally___init__) ylIY ycIY ykIY
  have c_Tally : NCal l.prog w K mg base CT "Tally" 3 (spTInit CT) := ⟨⟨_, _, _, ok_tinit T TT F_tinit c_are_counts, ⟨ymkY, yaIY, yiIY, ykcY⟩, F_tinit.binds fun _ _ _ _ _ _ us hl => match us, hl with | [_, _], _ => rfl⟩, PySem.W.mg_of X G yaCY⟩
  have F_check_length := fun_mk (st := s_check_length) l14 c14 k14
  have x_check_length : CalX l.prog w K mg base "check_length" 3 (spCheckLen CG) := ⟨⟨_, _, _, ok_check_length T M_length F_check_length, PySem.W.mg_of X G a14, k14, F_check_length.binds fun _ _ _ _ _ _ us hl => match us, hl with | [_, _], _ => rfl⟩⟩
  have F_check_tally := fun_mk (st := s_check_tally) l15 c15 k15
  have x_check_tally : CalX l.prog w K mg base "check_tally" 3 (spCheckTally C CT CI) := ⟨⟨_, _, _, ok_check_tally T TT kit_self M_counts F_check_tally, PySem.W.mg_of X G a15, k15, F_check_tally.binds fun _ _ _ _ _ _ us hl => match us, hl with | [_, _], _ => rfl⟩⟩
  have F_with_moves := fun_mk (st := s_with_moves) l16 c16 k16
  have c_with_moves : Cal l.prog w K mg base "with_moves" 2 (spWithMoves C L33) := ⟨⟨_, _, _, ok_with_moves T F_with_moves (lam_hue T), PySem.W.mg_of X G a16, k16, F_with_moves.binds fun _ _ _ _ _ _ us hl => match us, hl with | [_, _, _, _, _, _], _ => rfl⟩⟩
  have F_placed_run := fun_mk (st := s_placed_run) l17 c17 k17
  have c_placed_run : Cal l.prog w K mg base "placed_run" 3 (spPlacedRun C L33) := ⟨⟨_, _, _, ok_placed_run T F_placed_run c_with_moves, PySem.W.mg_of X G a17, k17, F_placed_run.binds fun _ _ _ _ _ _ us hl => match us, hl with | [_, _, _, _, _], _ => rfl⟩⟩
  have F_free_run := fun_mk (st := s_free_run) l18 c18 k18
  have F_order := fun_mk (st := s_House_order) lM0 cM0 kM0
  have M_order : MCal l.prog w K mg base C "order" 1 (spOrder C) := ⟨⟨_, _, _, ok_order T F_order, ⟨aM0, iM0, kM0⟩, F_order.binds fun _ _ _ _ _ _ us hl => match us, hl with | [_], _ => rfl⟩⟩
  have F_above := fun_mk (st := s_House_above) lM1 cM1 kM1
  have M_above : MCalX l.prog w K mg base C "above" 5 (spAboveX C CL) := ⟨⟨_, _, _, ok_above T F_above c_check_lamp, ⟨aM1, iM1, kM1⟩, F_above.binds fun _ _ _ _ _ _ us hl => match us, hl with | [_, _], _ => rfl⟩⟩
  have M_aboveN : MCal l.prog w K mg base C "above" 5 (spAbove C) := M_above.calm fun vs H Q E h => above_n vs H Q E h
  have C_free_run : FunC K "free_run" "free_run" s_free_run f18 _ cF0 := ⟨⟨_, _, _, _, _, _, _, _, _, rfl, l18, c18⟩⟩
  have c_free_run : Cal l.prog w K mg base "free_run" 6 (spFreeRun C [(PF0, ("free_run.<locals>.<lambda>" : Str))]) := ⟨⟨_, _, _, ok_free_run T C_free_run (TBs (cF0, PF0) (List.mem_singleton.mpr rfl)) (List.mem_singleton.mpr rfl) (fun p hp _ => by rw [List.mem_singleton.mp hp]) M_aboveN M_order c_placed_run, PySem.W.mg_of X G a18, k18, F_free_run.binds fun _ _ _ _ _ _ us hl => match us, hl with | [_, _, _], _ => rfl⟩⟩
  have F_init : FunV K "__init__" "House.__init__" s_House___init__ fI _ := ⟨⟨_, _, _, _, _, _, _, _, _, _, rfl, lI, cI⟩, kI⟩
  have i_ok := ok_init T F_init c_check_count c_check_hues c_lamps_beneath c_order_list
  have c_House : NCal l.prog w K mg base C "House" 5 (spInit K C) := ⟨⟨_, _, _, i_ok, ⟨mk, aI, iI, kc⟩, binds_init (E := 0) lT⟩, PySem.W.mg_of X G aC⟩
  have F__law_box := fun_mk (st := s__law_box) l19 c19 k19
  have c__law_box : Cal l.prog w K mg base "_law_box" 1 (spBox K) := ⟨⟨_, _, _, ok__law_box T F__law_box, PySem.W.mg_of X G a19, k19, F__law_box.binds fun _ _ _ _ _ _ us hl => match us, hl with | [_], _ => rfl⟩⟩
  have c_HouseOO : NCal l.prog w K mg base C "House" 5 (Off (Off (spInit K C))) := ⟨⟨_, _, _, (i_ok.off).off, ⟨mk, aI, iI, kc⟩, binds_init (E := 0) lT⟩, PySem.W.mg_of X G aC⟩
  have F__law_take := fun_mk (st := s__law_take) l20 c20 k20
  have c__law_take : Cal l.prog w K mg base "_law_take" 1 spTake := ⟨⟨_, _, _, ok__law_take T F__law_take, PySem.W.mg_of X G a20, k20, F__law_take.binds fun _ _ _ _ _ _ us hl => match us, hl with | [_, _], _ => rfl⟩⟩
  have F__law_sizes := fun_mk (st := s__law_sizes) l21 c21 k21
  have c__law_sizes : Cal l.prog w K mg base "_law_sizes" 2 spSizes := ⟨⟨_, _, _, ok__law_sizes T F__law_sizes c__law_take, PySem.W.mg_of X G a21, k21, F__law_sizes.binds fun _ _ _ _ _ _ us hl => match us, hl with | [_], _ => rfl⟩⟩
  have F__law_line := fun_mk (st := s__law_line) l22 c22 k22
  have c__law_line : Cal l.prog w K mg base "_law_line" 2 spLine := ⟨⟨_, _, _, ok__law_line T F__law_line c__law_take, PySem.W.mg_of X G a22, k22, F__law_line.binds fun _ _ _ _ _ _ us hl => match us, hl with | [_, _], _ => rfl⟩⟩
  have F__law_wires := fun_mk (st := s__law_wires) l23 c23 k23
  have c__law_wires : Cal l.prog w K mg base "_law_wires" 2 spWires := ⟨⟨_, _, _, ok__law_wires T F__law_wires c__law_take, PySem.W.mg_of X G a23, k23, F__law_wires.binds fun _ _ _ _ _ _ us hl => match us, hl with | [_, _], _ => rfl⟩⟩
  have F__law_low := fun_mk (st := s__law_low) l24 c24 k24
  have c__law_low : Cal l.prog w K mg base "_law_low" 1 (Off (Off spLow)) := ⟨⟨_, _, _, ((ok__law_low T F__law_low).off).off, PySem.W.mg_of X G a24, k24, F__law_low.binds fun _ _ _ _ _ _ us hl => match us, hl with | [_, _], _ => rfl⟩⟩
  have F__law_hues := fun_mk (st := s__law_hues) l25 c25 k25
  have c__law_hues : Cal l.prog w K mg base "_law_hues" 2 spHues := ⟨⟨_, _, _, ok__law_hues T F__law_hues c__law_take, PySem.W.mg_of X G a25, k25, F__law_hues.binds fun _ _ _ _ _ _ us hl => match us, hl with | [_, _, _], _ => rfl⟩⟩
  have F__law_integer := fun_mk (st := s__law_integer) l26 c26 k26
  have c__law_integer : Cal l.prog w K mg base "_law_integer" 1 spInteger := ⟨⟨_, _, _, ok__law_integer T F__law_integer, PySem.W.mg_of X G a26, k26, F__law_integer.binds fun _ _ _ _ _ _ us hl => match us, hl with | [_], _ => rfl⟩⟩
  have F__law_row := fun_mk (st := s__law_row) l27 c27 k27
  have c__law_row : Cal l.prog w K mg base "_law_row" 2 spRow := ⟨⟨_, _, _, ok__law_row T F__law_row c__law_integer, PySem.W.mg_of X G a27, k27, F__law_row.binds fun _ _ _ _ _ _ us hl => match us, hl with | [_, _], _ => rfl⟩⟩
  have F__law_counts := fun_mk (st := s__law_counts) l28 c28 k28
  have c__law_counts : Cal l.prog w K mg base "_law_counts" 3 (spCountsL CT) := ⟨⟨_, _, _, ok__law_counts T TT kit_self F__law_counts c__law_row, PySem.W.mg_of X G a28, k28, F__law_counts.binds fun _ _ _ _ _ _ us hl => match us, hl with | [_, _], _ => rfl⟩⟩
  have F__law_odd_state := fun_mk (st := s__law_odd_state) l29 c29 k29
  have c__law_odd_state : Cal l.prog w K mg base "_law_odd_state" 2 spOddSt := ⟨⟨_, _, _, ok__law_odd_state T F__law_odd_state c__law_take, PySem.W.mg_of X G a29, k29, F__law_odd_state.binds fun _ _ _ _ _ _ us hl => match us, hl with | [_, _, _], _ => rfl⟩⟩
  have F__law_moved := fun_mk (st := s__law_moved) l30 c30 k30
  have c__law_moved : Cal l.prog w K mg base "_law_moved" 1 spMoved := ⟨⟨_, _, _, ok__law_moved T F__law_moved, PySem.W.mg_of X G a30, k30, F__law_moved.binds fun _ _ _ _ _ _ us hl => match us, hl with | [_, _, _, _], _ => rfl⟩⟩
  have F__law_order := fun_mk (st := s__law_order) l31 c31 k31
  have c__law_order : Cal l.prog w K mg base "_law_order" 1 spOrderL := ⟨⟨_, _, _, ok__law_order T F__law_order, PySem.W.mg_of X G a31, k31, F__law_order.binds fun _ _ _ _ _ _ us hl => match us, hl with | [_], _ => rfl⟩⟩
  have F__law_tallied := fun_mk (st := s__law_tallied) l32 c32 k32
  have c__law_tallied : Cal l.prog w K mg base "_law_tallied" 1 spTallied := ⟨⟨_, _, _, ok__law_tallied T F__law_tallied, PySem.W.mg_of X G a32, k32, F__law_tallied.binds fun _ _ _ _ _ _ us hl => match us, hl with | [_, _], _ => rfl⟩⟩
  have F__law_most := fun_mk (st := s__law_most) l33 c33 k33
  have c__law_most : Cal l.prog w K mg base "_law_most" 1 spMostL := ⟨⟨_, _, _, ok__law_most T F__law_most, PySem.W.mg_of X G a33, k33, F__law_most.binds fun _ _ _ _ _ _ us hl => match us, hl with | [_, _, _, _, _], _ => rfl⟩⟩
  have F__law_normal := fun_mk (st := s__law_normal) l34 c34 k34
  have c__law_normal : Cal l.prog w K mg base "_law_normal" 2 spNormal := ⟨⟨_, _, _, ok__law_normal T F__law_normal c__law_order, PySem.W.mg_of X G a34, k34, F__law_normal.binds fun _ _ _ _ _ _ us hl => match us, hl with | [_, _, _, _], _ => rfl⟩⟩
  have F__law_edge := fun_mk (st := s__law_edge) l35 c35 k35
  have c__law_edge : Cal l.prog w K mg base "_law_edge" 3 spEdge := ⟨⟨_, _, _, ok__law_edge T F__law_edge c__law_line c__law_take, PySem.W.mg_of X G a35, k35, F__law_edge.binds fun _ _ _ _ _ _ us hl => match us, hl with | [_], _ => rfl⟩⟩
  have F__law_great := fun_mk (st := s__law_great) l36 c36 k36
  have c__law_great : Cal l.prog w K mg base "_law_great" 2 spGreat := ⟨⟨_, _, _, ok__law_great T F__law_great c__law_take, PySem.W.mg_of X G a36, k36, F__law_great.binds fun _ _ _ _ _ _ us hl => match us, hl with | [_], _ => rfl⟩⟩
  have F__law_due_fits := fun_mk (st := s__law_due_fits) l37 c37 k37
  have c__law_due_fits : Cal l.prog w K mg base "_law_due_fits" 1 spDueFits := ⟨⟨_, _, _, ok__law_due_fits T F__law_due_fits, PySem.W.mg_of X G a37, k37, F__law_due_fits.binds fun _ _ _ _ _ _ us hl => match us, hl with | [_, _, _, _, _], _ => rfl⟩⟩
  have F__law_drawn_counts := fun_mk (st := s__law_drawn_counts) l38 c38 k38
  have c__law_drawn_counts : Cal l.prog w K mg base "_law_drawn_counts" 2 (spDrawn C) := ⟨⟨_, _, _, ok__law_drawn_counts T F__law_drawn_counts c__law_take, PySem.W.mg_of X G a38, k38, F__law_drawn_counts.binds fun _ _ _ _ _ _ us hl => match us, hl with | [_, _, _, _, _, _], _ => rfl⟩⟩
  have F_normal_run : FunV K "normal_run" "normal_run" s_normal_run fW0 _ := ⟨⟨_, _, _, _, _, _, _, _, _, _, rfl, lW0, cW0⟩, kW0⟩
  have c_normal_run : KwCalD l.prog w K mg base "normal_run" 7 3 "limit" (.int 1000) (spNormalRun C CT CS CI CG [(PF0, ("free_run.<locals>.<lambda>" : Str))]) := ⟨⟨_, _, _, ok_normal_run T TT M_counts PT F_normal_run c_check_state x_check_tally x_check_length c_free_run, PySem.W.mg_of X G aW0, kW0, ⟨[uW0], .cons rW0 .nil, kw_normal_run nW0⟩, kk_normal_run⟩⟩
  have F__law_told := fun_mk (st := s__law_told) l39 c39 k39
  have c__law_told : CalG l.prog w K mg base "_law_told" 8 (spTold33 C CT [(PF0, ("free_run.<locals>.<lambda>" : Str))]) := ⟨⟨_, _, _, ok__law_told T TEH F__law_told c_normal_run, PySem.W.mg_of X G a39, k39, F__law_told.binds fun _ _ _ _ _ _ us hl => match us, hl with | [_, _, _, _], _ => rfl⟩⟩
  have F__law_good := fun_mk (st := s__law_good) l40 c40 k40
  have c__law_good : Cal l.prog w K mg base "_law_good" 3 (spGood33 C) := ⟨⟨_, _, _, ok__law_good T F__law_good c__law_row c__law_normal c__law_tallied c__law_moved c__law_due_fits, PySem.W.mg_of X G a40, k40, F__law_good.binds fun _ _ _ _ _ _ us hl => match us, hl with | [_, _, _, _, _], _ => rfl⟩⟩
  have F__law_fitting := fun_mk (st := s__law_fitting) l41 c41 k41
  have c__law_fitting : CalG l.prog w K mg base "_law_fitting" 9 (spFitting C [(PF0, ("free_run.<locals>.<lambda>" : Str))]) := ⟨⟨_, _, _, ok__law_fitting T F__law_fitting c_Tally c__law_told c__law_good c__law_counts, PySem.W.mg_of X G a41, k41, F__law_fitting.binds fun _ _ _ _ _ _ us hl => match us, hl with | [_, _, _, _, _], _ => rfl⟩⟩
  have F__law_left_over := fun_mk (st := s__law_left_over) l42 c42 k42
  have c__law_left_over : CalG l.prog w K mg base "_law_left_over" 9 (spLeftOver C [(PF0, ("free_run.<locals>.<lambda>" : Str))]) := ⟨⟨_, _, _, ok__law_left_over T F__law_left_over c__law_take c__law_great c_Tally c__law_told, PySem.W.mg_of X G a42, k42, F__law_left_over.binds fun _ _ _ _ _ _ us hl => match us, hl with | [_, _, _, _, _, _], _ => rfl⟩⟩
  have F__law_refusals := fun_mk (st := s__law_refusals) l43 c43 k43
  have c__law_refusals : CalG l.prog w K mg base "_law_refusals" 9 (spRefusals33 C [(PF0, ("free_run.<locals>.<lambda>" : Str))]) := ⟨⟨_, _, _, ok__law_refusals T F__law_refusals c__law_take c__law_odd_state c_Tally c__law_told, PySem.W.mg_of X G a43, k43, F__law_refusals.binds fun _ _ _ _ _ _ us hl => match us, hl with | [_, _, _, _, _], _ => rfl⟩⟩
  have F__law_at_default := fun_mk (st := s__law_at_default) l44 c44 k44
  have c__law_at_default : CalG l.prog w K mg base "_law_at_default" 10 (spDefault33 [(PF0, ("free_run.<locals>.<lambda>" : Str))]) := ⟨⟨_, _, _, ok__law_at_default T F__law_at_default c__law_edge c__law_low c_HouseOO c__law_most c__law_fitting, PySem.W.mg_of X G a44, k44, F__law_at_default.binds fun _ _ _ _ _ _ us hl => match us, hl with | [_], _ => rfl⟩⟩
  exact ok_law T (fun_mk (st := s_law) l45 c45 k45) c__law_box c__law_sizes c__law_line c__law_wires c__law_low c_HouseOO c__law_hues c__law_take c__law_at_default c__law_drawn_counts c__law_fitting c__law_left_over c__law_refusals
theorem walk {l : PySem.W.OpenLaw} {q : Program} {loose : List Str} {XP : (Str → Option Value) → Heap → Prop} {YP : World → Heap → Prop} {d : DefRec} {K : Params → PySem.W.Frag} (hn : l.most = some 63) (hdf : d.params.defaults = [])
    (hY : ∀ (w : World) (h : Heap), YP w h → (K w.params).In h)
    (F : ∀ (w : World) (mg : Str → Option Value) (fa : Addr) (h : Heap), YP w h → (K w.params).In h → h.Ns mainGlobals mg → mg d.name = some (.ref fa) → LawT l w (K w.params) 11 63 "script" mg fa h) :
    PySem.W.WalkO q loose XP YP l.row.toRowW d [] (fun f vs => PySem.call f vs) :=
  L2.walk_ofGT (n := 63) (k := 11) (x := "script") hn (by decide) hdf ⟨rfl, by decide, by decide⟩ hY F
end Hue

end
section


open PySem PySem.W PyProof.Rows in
set_option maxRecDepth 100000 in
set_option maxHeartbeats 0 in
theorem PySem.Challenge.cw_huefall_k33_normal_run_holds : PySem.Challenge.rw_huefall_k33_normal_run.Holds := by
  w_on; o_law; k_head; (case hw => w_witness2)
  k_fill
  refine Hue.walk (l := PySem.Challenge.rw_huefall_k33_normal_run) rfl rfl (fun w h Y => PySem.W.km_in_of Y) ?F
  case F =>
    intro w mg fa h Y KX G hmg
    refine' Hue.all_mk KX G hmg (PySem.W.km_tabs_of Y) ?aC ?a0 ?l0 ?c0 ?k0 ?a1 ?l1 ?c1 ?k1 ?a2 ?l2 ?c2 ?k2 ?a3 ?l3 ?c3 ?k3 ?a4 ?l4 ?c4 ?k4 ?a5 ?l5 ?c5 ?k5 ?a6 ?l6 ?c6 ?k6 ?a7 ?l7 ?c7 ?k7 ?a8 ?l8 ?c8 ?k8 ?a9 ?l9 ?c9 ?k9 ?a10 ?l10 ?c10 ?k10 ?a11 ?l11 ?c11 ?k11 ?a12 ?l12 ?c12 ?k12 ?a13 ?l13 ?c13 ?k13 ?a14 ?l14 ?c14 ?k14 ?a15 ?l15 ?c15 ?k15 ?a16 ?l16 ?c16 ?k16 ?a17 ?l17 ?c17 ?k17 ?a18 ?l18 ?c18 ?k18 ?a19 ?l19 ?c19 ?k19 ?a20 ?l20 ?c20 ?k20 ?a21 ?l21 ?c21 ?k21 ?a22 ?l22 ?c22 ?k22 ?a23 ?l23 ?c23 ?k23 ?a24 ?l24 ?c24 ?k24 ?a25 ?l25 ?c25 ?k25 ?a26 ?l26 ?c26 ?k26 ?a27 ?l27 ?c27 ?k27 ?a28 ?l28 ?c28 ?k28 ?a29 ?l29 ?c29 ?k29 ?a30 ?l30 ?c30 ?k30 ?a31 ?l31 ?c31 ?k31 ?a32 ?l32 ?c32 ?k32 ?a33 ?l33 ?c33 ?k33 ?a34 ?l34 ?c34 ?k34 ?a35 ?l35 ?c35 ?k35 ?a36 ?l36 ?c36 ?k36 ?a37 ?l37 ?c37 ?k37 ?a38 ?l38 ?c38 ?k38 ?a39 ?l39 ?c39 ?k39 ?a40 ?l40 ?c40 ?k40 ?a41 ?l41 ?c41 ?k41 ?a42 ?l42 ?c42 ?k42 ?a43 ?l43 ?c43 ?k43 ?a44 ?l44 ?c44 ?k44 ?a45 ?l45 ?c45 ?k45 ?aW0 ?lW0 ?cW0 ?kW0 ?nW0 ?rW0 ?aM0 ?iM0 ?lM0 ?cM0 ?kM0 ?aM1 ?iM1 ?lM1 ?cM1 ?kM1 ?aI ?iI ?lI ?cI ?kI ?lT ?lE ?eE ?pg ?hd ?po ?sa ?mk ?kc ?nCount ?nHues ?nBen ?nWires ?nAbove ?nDirect ?nOrder ?rd ?ga ?v1 ?r1 ?v2 ?r2 ?b_len ?b_range ?b_isinstance ?b_int ?b_bool ?b_tuple ?b_list ?b_set ?b_enumerate ?b_sorted ?b_min ?b_all ?b_any ?b_abs ?b_reversed ?b_max ?b_str ?b_repr ?b_ValueError ?b_sum ?b_zip ?yaCY ?yaIY ?yiIY ?ylIY ?ycIY ?ykIY ?ypgY ?yhdY ?ypoY ?ysaY ?ymkY ?ykcY ?ycaY ?ymoY ?yn0Y ?xaE ?xeE ?xiE ?xtE ?xa_CS ?xi_CS ?xt_CS ?xa_CI ?xi_CI ?xt_CI ?xa_CG ?xi_CG ?xt_CG ?xa_CL ?xi_CL ?xt_CL ?xlS ?xsaS ?xgaS ?xggS ?xcaS ?xnlS ?xinS ?xtyS ?xlxS ?xcxS ?xkxS ?xkcS ?xebS ?xhdS ?xmrS ?xssS ?xseS ?xsS0 ?xsS1 ?xlL ?xsaL ?xgaL ?xggL ?xcaL ?xnlL ?xinL ?xtyL ?xlxL ?xcxL ?xkxL ?xkcL ?xebL ?xhdL ?xmrL ?xssL ?xseL ?xlI ?xsaI ?xgaI ?xggI ?xcaI ?xnlI ?xinI ?xtyI ?xlxI ?xcxI ?xkxI ?xkcI ?xebI ?xhdI ?xmrI ?xssI ?xseI ?xsI0 ?xsI1 ?xlG ?xsaG ?xgaG ?xggG ?xcaG ?xnlG ?xinG ?xtyG ?xlxG ?xcxG ?xkxG ?xkcG ?xebG ?xhdG ?xmrG ?xssG ?xseG ?xsG0 ?xsG1 ?xgs ?xtk ?xza ?xzg ?xzt ?xzr ?xzl ?xzc ?xzk ?tb0 ?tb1 ?tb2 ?tb3 ?tb4 ?tb5
    (case aC => k_is)
    (case a0 => k_is)
    (case l0 => k_is)
    (case c0 => k_is)
    (case k0 => k_is)
    (case a1 => k_is)
    (case l1 => k_is)
    (case c1 => k_is)
    (case k1 => k_is)
    (case a2 => k_is)
    (case l2 => k_is)
    (case c2 => k_is)
    (case k2 => k_is)
    (case a3 => k_is)
    (case l3 => k_is)
    (case c3 => k_is)
    (case k3 => k_is)
    (case a4 => k_is)
    (case l4 => k_is)
    (case c4 => k_is)
    (case k4 => k_is)
    (case a5 => k_is)
    (case l5 => k_is)
    (case c5 => k_is)
    (case k5 => k_is)
    (case a6 => k_is)
    (case l6 => k_is)
    (case c6 => k_is)
    (case k6 => k_is)
    (case a7 => k_is)
    (case l7 => k_is)
    (case c7 => k_is)
    (case k7 => k_is)
    (case a8 => k_is)
    (case l8 => k_is)
    (case c8 => k_is)
    (case k8 => k_is)
    (case a9 => k_is)
    (case l9 => k_is)
    (case c9 => k_is)
    (case k9 => k_is)
    (case a10 => k_is)
    (case l10 => k_is)
    (case c10 => k_is)
    (case k10 => k_is)
    (case a11 => k_is)
    (case l11 => k_is)
    (case c11 => k_is)
    (case k11 => k_is)
    (case a12 => k_is)
    (case l12 => k_is)
    (case c12 => k_is)
    (case k12 => k_is)
    (case a13 => k_is)
    (case l13 => k_is)
    (case c13 => k_is)
    (case k13 => k_is)
    (case a14 => k_is)
    (case l14 => k_is)
    (case c14 => k_is)
    (case k14 => k_is)
    (case a15 => k_is)
    (case l15 => k_is)
    (case c15 => k_is)
    (case k15 => k_is)
    (case a16 => k_is)
    (case l16 => k_is)
    (case c16 => k_is)
    (case k16 => k_is)
    (case a17 => k_is)
    (case l17 => k_is)
    (case c17 => k_is)
    (case k17 => k_is)
    (case a18 => k_is)
    (case l18 => k_is)
    (case c18 => k_is)
    (case k18 => k_is)
    (case a19 => k_is)
    (case l19 => k_is)
    (case c19 => k_is)
    (case k19 => k_is)
    (case a20 => k_is)
    (case l20 => k_is)
    (case c20 => k_is)
    (case k20 => k_is)
    (case a21 => k_is)
    (case l21 => k_is)
    (case c21 => k_is)
    (case k21 => k_is)
    (case a22 => k_is)
    (case l22 => k_is)
    (case c22 => k_is)
    (case k22 => k_is)
    (case a23 => k_is)
    (case l23 => k_is)
    (case c23 => k_is)
    (case k23 => k_is)
    (case a24 => k_is)
    (case l24 => k_is)
    (case c24 => k_is)
    (case k24 => k_is)
    (case a25 => k_is)
    (case l25 => k_is)
    (case c25 => k_is)
    (case k25 => k_is)
    (case a26 => k_is)
    (case l26 => k_is)
    (case c26 => k_is)
    (case k26 => k_is)
    (case a27 => k_is)
    (case l27 => k_is)
    (case c27 => k_is)
    (case k27 => k_is)
    (case a28 => k_is)
    (case l28 => k_is)
    (case c28 => k_is)
    (case k28 => k_is)
    (case a29 => k_is)
    (case l29 => k_is)
    (case c29 => k_is)
    (case k29 => k_is)
    (case a30 => k_is)
    (case l30 => k_is)
    (case c30 => k_is)
    (case k30 => k_is)
    (case a31 => k_is)
    (case l31 => k_is)
    (case c31 => k_is)
    (case k31 => k_is)
    (case a32 => k_is)
    (case l32 => k_is)
    (case c32 => k_is)
    (case k32 => k_is)
    (case a33 => k_is)
    (case l33 => k_is)
    (case c33 => k_is)
    (case k33 => k_is)
    (case a34 => k_is)
    (case l34 => k_is)
    (case c34 => k_is)
    (case k34 => k_is)
    (case a35 => k_is)
    (case l35 => k_is)
    (case c35 => k_is)
    (case k35 => k_is)
    (case a36 => k_is)
    (case l36 => k_is)
    (case c36 => k_is)
    (case k36 => k_is)
    (case a37 => k_is)
    (case l37 => k_is)
    (case c37 => k_is)
    (case k37 => k_is)
    (case a38 => k_is)
    (case l38 => k_is)
    (case c38 => k_is)
    (case k38 => k_is)
    (case a39 => k_is)
    (case l39 => k_is)
    (case c39 => k_is)
    (case k39 => k_is)
    (case a40 => k_is)
    (case l40 => k_is)
    (case c40 => k_is)
    (case k40 => k_is)
    (case a41 => k_is)
    (case l41 => k_is)
    (case c41 => k_is)
    (case k41 => k_is)
    (case a42 => k_is)
    (case l42 => k_is)
    (case c42 => k_is)
    (case k42 => k_is)
    (case a43 => k_is)
    (case l43 => k_is)
    (case c43 => k_is)
    (case k43 => k_is)
    (case a44 => k_is)
    (case l44 => k_is)
    (case c44 => k_is)
    (case k44 => k_is)
    (case a45 => k_is)
    (case l45 => k_is)
    (case c45 => k_is)
    (case k45 => k_is)
    (case aW0 => k_is)
    (case lW0 => k_is)
    (case cW0 => k_is)
    (case kW0 => k_is)
    (case nW0 => k_is)
    (case rW0 => exact ⟨_, rfl⟩)
    (case aM0 => k_is)
    (case iM0 => k_is)
    (case lM0 => k_is)
    (case cM0 => k_is)
    (case kM0 => k_is)
    (case aM1 => k_is)
    (case iM1 => k_is)
    (case lM1 => k_is)
    (case cM1 => k_is)
    (case kM1 => k_is)
    (case aI => k_is)
    (case iI => k_is)
    (case lI => k_is)
    (case cI => k_is)
    (case kI => k_is)
    (case lT => k_is)
    (case lE => k_is)
    (case eE => rfl)
    (case pg => k_is)
    (case hd => k_is)
    (case po => k_is)
    (case sa => k_is)
    (case mk => k_is)
    (case kc => k_is)
    (case nCount => k_is)
    (case nHues => k_is)
    (case nBen => k_is)
    (case nWires => k_is)
    (case nAbove => k_is)
    (case nDirect => k_is)
    (case nOrder => k_is)
    (case rd => k_is)
    (case ga => k_is)
    (case v1 => k_is)
    (case r1 => exact ⟨_, rfl⟩)
    (case v2 => k_is)
    (case r2 => exact ⟨_, rfl⟩)
    (case b_len => k_is)
    (case b_range => k_is)
    (case b_isinstance => k_is)
    (case b_int => k_is)
    (case b_bool => k_is)
    (case b_tuple => k_is)
    (case b_list => k_is)
    (case b_set => k_is)
    (case b_enumerate => k_is)
    (case b_sorted => k_is)
    (case b_min => k_is)
    (case b_all => k_is)
    (case b_any => k_is)
    (case b_abs => k_is)
    (case b_reversed => k_is)
    (case b_max => k_is)
    (case b_str => k_is)
    (case b_repr => k_is)
    (case b_ValueError => k_is)
    (case b_sum => k_is)
    (case b_zip => k_is)
    (case yaCY => k_is)
    (case yaIY => k_is)
    (case yiIY => k_is)
    (case ylIY => k_is)
    (case ycIY => k_is)
    (case ykIY => k_is)
    (case ypgY => k_is)
    (case yhdY => k_is)
    (case ypoY => k_is)
    (case ysaY => k_is)
    (case ymkY => k_is)
    (case ykcY => k_is)
    (case ycaY => k_is)
    (case ymoY => k_is)
    (case yn0Y => k_is)
    (case xaE => first | k_is | rfl)
    (case xeE => first | k_is | rfl)
    (case xiE => first | k_is | rfl)
    (case xtE => first | k_is | rfl)
    (case xa_CS => first | k_is | rfl)
    (case xi_CS => first | k_is | rfl)
    (case xt_CS => first | k_is | rfl)
    (case xa_CI => first | k_is | rfl)
    (case xi_CI => first | k_is | rfl)
    (case xt_CI => first | k_is | rfl)
    (case xa_CG => first | k_is | rfl)
    (case xi_CG => first | k_is | rfl)
    (case xt_CG => first | k_is | rfl)
    (case xa_CL => first | k_is | rfl)
    (case xi_CL => first | k_is | rfl)
    (case xt_CL => first | k_is | rfl)
    (case xlS => first | k_is | rfl)
    (case xsaS => first | k_is | rfl)
    (case xgaS => first | k_is | rfl)
    (case xggS => first | k_is | rfl)
    (case xcaS => first | k_is | rfl)
    (case xnlS => first | k_is | rfl)
    (case xinS => first | k_is | rfl)
    (case xtyS => first | k_is | rfl)
    (case xlxS => first | k_is | rfl)
    (case xcxS => first | k_is | rfl)
    (case xkxS => first | k_is | rfl)
    (case xkcS => first | k_is | rfl)
    (case xebS => first | k_is | rfl)
    (case xhdS => first | k_is | rfl)
    (case xmrS => first | k_is | rfl)
    (case xssS => first | k_is | rfl)
    (case xseS => first | k_is | rfl)
    (case xsS0 => first | k_is | rfl)
    (case xsS1 => first | k_is | rfl)
    (case xlL => first | k_is | rfl)
    (case xsaL => first | k_is | rfl)
    (case xgaL => first | k_is | rfl)
    (case xggL => first | k_is | rfl)
    (case xcaL => first | k_is | rfl)
    (case xnlL => first | k_is | rfl)
    (case xinL => first | k_is | rfl)
    (case xtyL => first | k_is | rfl)
    (case xlxL => first | k_is | rfl)
    (case xcxL => first | k_is | rfl)
    (case xkxL => first | k_is | rfl)
    (case xkcL => first | k_is | rfl)
    (case xebL => first | k_is | rfl)
    (case xhdL => first | k_is | rfl)
    (case xmrL => first | k_is | rfl)
    (case xssL => first | k_is | rfl)
    (case xseL => first | k_is | rfl)
    (case xlI => first | k_is | rfl)
    (case xsaI => first | k_is | rfl)
    (case xgaI => first | k_is | rfl)
    (case xggI => first | k_is | rfl)
    (case xcaI => first | k_is | rfl)
    (case xnlI => first | k_is | rfl)
    (case xinI => first | k_is | rfl)
    (case xtyI => first | k_is | rfl)
    (case xlxI => first | k_is | rfl)
    (case xcxI => first | k_is | rfl)
    (case xkxI => first | k_is | rfl)
    (case xkcI => first | k_is | rfl)
    (case xebI => first | k_is | rfl)
    (case xhdI => first | k_is | rfl)
    (case xmrI => first | k_is | rfl)
    (case xssI => first | k_is | rfl)
    (case xseI => first | k_is | rfl)
    (case xsI0 => first | k_is | rfl)
    (case xsI1 => first | k_is | rfl)
    (case xlG => first | k_is | rfl)
    (case xsaG => first | k_is | rfl)
    (case xgaG => first | k_is | rfl)
    (case xggG => first | k_is | rfl)
    (case xcaG => first | k_is | rfl)
    (case xnlG => first | k_is | rfl)
    (case xinG => first | k_is | rfl)
    (case xtyG => first | k_is | rfl)
    (case xlxG => first | k_is | rfl)
    (case xcxG => first | k_is | rfl)
    (case xkxG => first | k_is | rfl)
    (case xkcG => first | k_is | rfl)
    (case xebG => first | k_is | rfl)
    (case xhdG => first | k_is | rfl)
    (case xmrG => first | k_is | rfl)
    (case xssG => first | k_is | rfl)
    (case xseG => first | k_is | rfl)
    (case xsG0 => first | k_is | rfl)
    (case xsG1 => first | k_is | rfl)
    (case xgs => first | k_is | rfl)
    (case xtk => first | k_is | rfl)
    (case xza => first | k_is | rfl)
    (case xzg => first | k_is | rfl)
    (case xzt => first | k_is | rfl)
    (case xzr => first | k_is | rfl)
    (case xzl => first | k_is | rfl)
    (case xzc => first | k_is | rfl)
    (case xzk => first | k_is | rfl)
    (case tb0 => first | rfl)
    (case tb1 => first | k_is | rfl)
    (case tb2 => first | rfl | k_is)
    (case tb3 => first | k_is | rfl | decide +kernel)
    (case tb4 => first | k_is | rfl | decide +kernel)
    (case tb5 => first | decide | exact List.mem_singleton.mpr rfl | simp)

end
