import PyProof.Rows.All
import Wide.All
import OpenK.AllK
import Wide.FinOn
import HandS.TupSets
import HandS.Sort
import HandS.SetFor
import HandS.Strs
import HandS.ForMost
import HandS.Flow
import HandS.Style
import HandS.IsInst
import HandS.Conv
import HandS.ClsMeth
import HandS.SortRule
import HandS.TupLen
import HandS.Star
import HandS.TupAny
import HandS.Codes
import HandS.SortInts
import HandS.Walk
import KE.GoesEnum
import HandS.Iter
import PyProof.TupleOfSeq
import HandS.SortOrd
import PyProof.ReprRoads
import PyProof.CallFns
import HandS.Ends
import HandS.WordsExc
import KE.KExcIs
import KE.KIsAll
import HandS.Exc
import HandS.ExcOwn
import HandS.ExcInit
import HandS.ExcField
import PyProof.EqAt
import PyProof.EqKinds
import HandS.OwnEq
import PyProof.P3Eq
import HandS.Defaults
import PySem.Challenge.RW_huefall_k04_shapes
set_option Elab.async false
set_option linter.all false
section
set_option maxRecDepth 100000
set_option maxHeartbeats 2000000
namespace L2
open PySem PySem.Spec PyProof.Rows
/-! ### ranges as values, walked by their name -/
section
variable {X : Cx} {tg e : Expr} {te : TE}
theorem hu_cr_range1 : CallR X (.type "range") (fun vs H Q => ∃ j, vs = [V.int j] ∧ ∀ p, H p = none → Q (.ref p) (upd H p (.rng 0 j))) := by
  intro pins s σ H vs us Q I r h
  obtain ⟨j, rfl, q⟩ := h
  cases r with
  | cons rj rr =>
    cases rr
    obtain ⟨t, rfl⟩ := rj
    have lay := I.laid (a := s.heap.objs.size) (o := .rng 0 j) (t' := s.toks + 1 + 1) (h' := s.heap.push { cls := .type "range", data := .fields #[.int 0 s.toks, .int j t, .int 1 (s.toks + 1)] })
      (fun b o ho => Heap.get?_push_of_some _ ho) (Nat.le_refl _) ⟨s.toks, t, s.toks + 1, Heap.get?_push_size _ rfl⟩
    exact call_range_1 ⟨.ref s.heap.objs.size, _, lay, rfl, q _ (I.hok.fresh (Nat.le_refl _))⟩
def iHuRng (te : TE) : TI := fun σ H R => te σ H fun v H1 => ∃ a lo hi, v = .ref a ∧ H1 a = some (.rng lo hi) ∧ (-(2 ^ 62) ≤ lo ∧ lo < 2 ^ 62 ∧ -(2 ^ 62) ≤ hi ∧ hi < 2 ^ 62) ∧ R (Itr lo (hi - lo).toNat) H1
theorem hu_pi_rng (he : PE X e te) : PI X tg e (iHuRng te) := by
  refine ⟨fun pins s σ H R I h => ?_⟩
  refine thn (he.run pins s σ H _ I h) fun v s1 ⟨x, H1, I1, r1, q1⟩ => ?_
  obtain ⟨a, lo, hi, rfl, ha, ⟨b1, b2, b3, b4⟩, q⟩ := q1
  cases r1
  obtain ⟨t, u, w, ho⟩ := I1.hok a _ ha
  have ho' : IsRange s1.heap a lo hi 1 t u w := ho
  refine wpAny_pyIter_range ho' (small_one b1 b2 b3 b4) ?_
  refine ⟨s1.heap.objs.size, [s1.heap.objs.size], _, _, H1, rfl, I1.kept (t' := s1.toks) fun b o eo => Heap.get?_push_of_some _ eo, turn_range _ lo (hi - lo).toNat, ?_, fun b hb => ?_, q⟩
  · have z1 : lo + ((0 : Nat) : Int) * 1 = lo := by simp
    have z2 : (((hi - lo).toNat : Nat) : Int) - ((0 : Nat) : Int) = Builtin.Range.rangeSize lo hi 1 := by
      rw [rangeSize_one]; split <;> omega
    show IsRangeIter _ _ (lo + ((0 : Nat) : Int) * 1) ((((hi - lo).toNat : Nat) : Int) - ((0 : Nat) : Int)) 1
    rw [z1, z2]
    exact Heap.get?_push_size _ rfl
  · obtain rfl : b = s1.heap.objs.size := by simpa using hb
    exact I1.fpOk (Nat.le_refl _) (I1.hok.fresh (Nat.le_refl _))
end
/-! ### set(xs), xs a list of ints -/
section
variable {P : Program} {w : World} {A : Around} {E : Value → Shared → Prop} {s : Shared}
/-- the new set's record -/
abbrev newSetO (w : World) : Obj := { cls := .type "set", dict := none, data := .set #[] 0 (.fresh 0 0 (!w.params.followText "set-order")) }
set_option maxHeartbeats 3200000 in
theorem hu_call_set_list {l : Addr} {its : Array Value} (ns : List Int) {Q : Value → Shared → Prop} (nh : A.handled = none) (isl : s.heap.IsList l its) (hin : IntsAre its.toList ns) (small : ns.length + 1 < scanBound)
    (fin : ∀ (g : Heap) (tk c : Nat), SetR w g s.heap.objs.size (fun j => decide (j ∈ ns)) c → c ≤ ns.length → (∀ b o, s.heap.get? b = some o → g.get? b = some o) → Q (.ref s.heap.objs.size) { s with heap := g, toks := tk }) :
    wpAny (model P w) A (call (.type "set") [.ref l]) Q E s := by
  have size_eq : its.size = ns.length := by
    have z := IntsAre.length hin
    rwa [Array.length_toList] at z
  obtain ⟨c, tl, hmro⟩ := F.called_set.mro
  have made := F.called_set.made
  have sub := F.called_set.sub
  refine wpAny_call (codeAny_of_tree ?_)
  show wpAny _ _ (callAny (.type "set") _) _ _ _
  refine wpAny_pure ⟨Code.quiet_builtin _ (by decide +kernel), codeAny_builtin F.entry_type_call ?_⟩
  rw [Around.under_plain (weight_type_call_type "set" [.ref l] []) rfl]
  have nt := F.called_set.notType
  have cc := F.called_set.canCreate
  have tc := F.typeCall_set_1 (.ref l)
  repeat (any_goals (first | assumption | wp_step))
  refine codeAny_mono (code_set_led1 (.ref l) (E := E) (Q₁ := fun obj s1 => obj = .ref s.heap.objs.size ∧ s1 = { s with heap := s.heap.push (newSetO w) }) ⟨rfl, rfl⟩) fun r s1 hr => ?_
  cases r with
  | error e => exact hr
  | ok fl =>
    cases fl with
    | ret obj =>
      obtain ⟨rfl, rfl⟩ := hr
      have gS : (s.heap.push (newSetO w)).get? s.heap.objs.size = some (newSetO w) := Heap.get?_push_size _ rfl
      have tS : Shared.TypeIs { s with heap := s.heap.push (newSetO w) } (.ref s.heap.objs.size) "set" := ⟨_, gS, rfl⟩
      have il := F.called_set.init.lookup
      have ib := F.called_set.init.bind (.ref s.heap.objs.size)
      repeat (any_goals (first | assumption | wp_step))
      refine codeAny_mono (codeAny_call_builtin (R := wants (fun r s2 => r = .none ∧ ∃ g tk c, s2 = { s with heap := g, toks := tk } ∧ SetR w g s.heap.objs.size (fun j => decide (j ∈ ns)) c ∧ c ≤ ns.length ∧
          (∀ b o, s.heap.get? b = some o → g.get? b = some o)) E) F.called_set.init.plain F.entry_set_init (check_set_init_1 tS ?_)) fun r2 s2 hr2 => ?_
      · obtain ⟨⟨oc, od, odat, osl⟩, hol, hcl, nl, hdl⟩ := isl
        simp only at hcl hdl
        subst hcl; subst hdl
        have hol1 : (s.heap.push (newSetO w)).get? l = some { cls := .type "list", dict := od, data := .seq its nl, slots := osl } := Heap.get?_push_of_some _ hol
        have k1 := F.sub_list_set
        have k2 := F.sub_list_frozenset
        have k3 : (Value.type "list" == Value.type "dict") = false := by decide
        have isl1 : (s.heap.push (newSetO w)).IsList l its := ⟨_, hol1, rfl, nl, rfl⟩
        unfold Builtin.«set.__init__» noKeywords Builtin.Frozenset.updateFrom
        generalize hPI : pyIter = PI
        wp_walk
        subst hPI
        refine wpAny_pyIter_list isl1 ?_
        refine wpAny_bind (wpAny_runValue ?_)
        have lt : l < s.heap.objs.size := Heap.lt_size hol
        have nh3 : A.in1.in1.in1.handled = none := by simp [nh]
        have ne1 : l ≠ (s.heap.push (newSetO w)).objs.size := by
          rw [Heap.size_push]; exact Nat.ne_of_lt (Nat.lt_succ_of_lt lt)
        have nin : s.heap.objs.size ∉ [(s.heap.push (newSetO w)).objs.size, l] := by
          rw [Heap.size_push]
          simp only [List.mem_cons, List.mem_singleton, List.not_mem_nil, or_false, not_or]
          exact ⟨Nat.ne_of_lt (Nat.lt_succ_self _), Nat.ne_of_gt lt⟩
        have val : ∀ (i : Nat) (v : Value), its[i]? = some v → ∃ k t, ns[i]? = some k ∧ v = .int k t := fun i v hv => by
          have hi : i < ns.length := by rw [← size_eq]; exact (Array.getElem?_eq_some_iff.mp hv).1
          obtain ⟨t, e⟩ := PyProof.Rows.IntsAre.int_at hin i v (by rw [Array.getElem?_toList]; exact hv)
          refine ⟨ns[i], t, List.getElem?_eq_getElem hi, ?_⟩
          rw [e, List.getD_eq_getElem?_getD, List.getElem?_eq_getElem hi] <;> rfl
        refine set_update_ints ((Walks.list nh3 _ l ne1 its).toS) s.heap.objs.size nin ns size_eq small val (its.size - 0) 0 _ (by omega) (Nat.zero_le _)
          ⟨⟨_, Heap.get?_push_size _ rfl, rfl, rfl⟩, (isl1.push _)⟩ ?start ?ends
        case start =>
          exact ⟨0, Nat.le_refl 0, setR_new_at (Heap.get?_push_of_some _ gS)⟩
        case ends =>
          intro s3 c3 mv hc3 hS3
          obtain ⟨g3, gn3, d3, tk3, os3⟩ := s3
          obtain rfl : gn3 = s.gens := mv.gens
          obtain rfl : d3 = s.drawn := mv.drawn
          obtain rfl : os3 = s.os := mv.os
          show wpAny _ _ _ _ _ _
          refine wpAny_pure ?_
          show wpAny _ _ (ret Value.none) _ _ _
          rw [size_eq] at hc3
          refine wpAny_pure ⟨rfl, g3, tk3, c3, rfl, hS3, hc3, fun b o e => ?_⟩
          have b0 : b < s.heap.objs.size := Heap.lt_size e
          have b2 : b ≠ (s.heap.push (newSetO w)).objs.size := by
            rw [Heap.size_push]; exact Nat.ne_of_lt (Nat.lt_succ_of_lt b0)
          refine mv.heap b o ?_ (Heap.get?_push_of_some _ (Heap.get?_push_of_some _ e))
          simp only [List.mem_cons, List.mem_singleton, List.not_mem_nil, or_false, not_or]
          exact ⟨Nat.ne_of_lt b0, b2⟩
      · cases r2 with
        | error e => exact hr2
        | ok fl2 =>
          cases fl2 with
          | ret r =>
            obtain ⟨rfl, g, tk, c, rfl, hS, hc, hk⟩ := hr2
            repeat (any_goals (first | assumption | wp_step))
            exact fin _ _ _ hS hc hk
          | _ => exact hr2.elim
    | _ => exact hr.elim
end
section
variable {X : Cx}
/-- set(xs) of a list of ints -/
def rHuSetL (K : PySem.W.Frag) (w : World) : List V → Hp → VK → Prop := fun vs H Q => ∃ (a : Addr) (ns : List Int), vs = [V.ref a] ∧ SqL K H a (ns.map V.int) ∧ ns.length ≤ 1000 ∧
  ∀ p c, H p = none → c ≤ ns.length → Q (.ref p) (upd H p (SetO w p (fun j => decide (j ∈ ns)) c))
theorem hu_cr_setL (hc : X.calm = true) : CallR X (.type "set") (rHuSetL X.K X.w) := by
  intro pins s σ H vs us Q I r h
  obtain ⟨a, ns, rfl, hl, hn, q⟩ := h
  rw [Vals.ref1 r]
  obtain ⟨its, rv, pl, hz⟩ := I.list hl
  refine hu_call_set_list (P := X.prog) (w := X.w) ns (I.ok.hd hc) pl.isList (by simpa using rv.ints) (by unfold scanBound; omega) fun g tk c hS hle hk => ?_
  exact ⟨.ref s.heap.objs.size, _, I.laid (t' := tk) hk (Nat.le_refl _) (setO_new hS), rfl, q _ c (I.hok.fresh (Nat.le_refl _)) hle⟩
end
end L2

end
section
set_option maxRecDepth 100000
set_option maxHeartbeats 2000000
namespace L2
open PySem PySem.Spec PyProof.Rows
/-! ### sets of tuples of ints: in, add, set() -/
section
variable {P : Program} {w : World} {A : Around} {E : Value → Shared → Prop} {s : Shared}
variable {a : Addr} {L : List (Addr × List Int)} {es : Array (Int × Value)} {ep : Nat} {t : SetTable}
/-- the c-th place that a search for the hash comes to -/
abbrev pAt (m : Nat) (h : Int) (c : Nat) : SetTable.Probe := nth m (runAt m (SetTable.bits h % (m + 1)) (SetTable.bits h)) c
theorem pAt_dummy (m : Nat) (h : Int) (c : Nat) : (pAt m h c).dummy = none := by
  have all : ∀ (n : Nat) (p : SetTable.Probe), p.dummy = none → (nth m p n).dummy = none := by
    intro n
    induction n with
    | zero => exact fun p hp => hp
    | succ n ih =>
      intro p hp
      refine ih (adv m p) ?_
      unfold adv
      split <;> exact hp
  exact all c _ rfl
theorem pAt_on (m : Nat) (h : Int) (c q : Nat) : nth m (pAt m h c) q = pAt m h (c + q) := (nth_add m c _ q).symm
/-- a search that only asks -/
theorem find_from (R : SetTR P w s.heap a L es ep t) {x : Addr} {k : List Int} (hx : IsT P w s.heap k x) (hu : A.units < cLine) {K : Nat} (fuelK : K < 10 * SetTable.turns t.mask)
    (freeK : way t.mask (thash P w k) K ∉ t.place.toList) (below : ∀ c, c < K → way t.mask (thash P w k) c ∈ t.place.toList) {Q : SetFound → Shared → Prop}
    (yes : ∀ i, k ∈ L.map (·.2) → Q (.there (some i)) s) (no : k ∉ L.map (·.2) → Q (.free (way t.mask (thash P w k) K) false) s) :
    ∀ (f c : Nat) (stand : Option SetTable.Probe), stand.getD (t.probeStart (thash P w k)) = pAt t.mask (thash P w k) c → c ≤ K → K - c < f →
      (∀ (i : Nat) p, L[i]? = some p → p.2 = k → ∃ d, c ≤ d ∧ d < K ∧ t.place.toList[i]? = some (way t.mask (thash P w k) d)) →
      wpAny (model P w) A (setSearchFrom a (.ref x) (thash P w k) false f stand) Q E s
  | 0, _, _, _, _, lt, _ => absurd lt (Nat.not_lt_zero _)
  | f + 1, c, stand, st, cK, lt, left => by
    obtain ⟨o, ho, hex, hd⟩ := R.ob
    rw [setSearchFrom_succ]
    refine wpAny_bind (wpAny_setState_of ho hd R.fits ?_)
    dsimp only
    refine wp_if_neg R.gw ?_
    try refine wpAny_bind (wpAny_pure ?_)
    have jq : ∀ q, (nth t.mask (pAt t.mask (thash P w k) c) q).j = way t.mask (thash P w k) (c + q) := fun q => congrArg SetTable.Probe.j (pAt_on ..)
    have hashAt : ∀ (i : Nat) p, L[i]? = some p → (es[i]?.map (·.1)).getD 0 = thash P w p.2 := fun i p hp => by
      rw [R.entry hp] <;> rfl
    rcases go_spec t R.tab.ris R.tab.dm (fun i => (es[i]?.map (·.1)).getD 0) (thash P w k) (10 * SetTable.turns t.mask) (K - c) _ (pAt_dummy t.mask (thash P w k) c) (by omega)
      (fun q hq => by rw [jq]; exact below (c + q) (by omega)) (by rw [jq, show c + (K - c) = K by omega]; exact freeK) with ⟨q, i, hq, hi, hh, hno, hpr⟩ | ⟨hno, hpr⟩
    · have pr : t.probe (fun i => (es[i]?.map (·.1)).getD 0) (thash P w k) (stand.getD (t.probeStart (thash P w k))) = some (.candidate (way t.mask (thash P w k) (c + q)) i (pAt t.mask (thash P w k) (c + (q + 1)))) := by
        rw [st, ← jq, ← pAt_on]
        exact hpr
      rw [pr]
      dsimp only
      rw [jq] at hi
      have il : i < L.length := by
        have z1 : i < t.place.toList.length := (List.getElem?_eq_some_iff.mp hi).1
        have z2 := R.tab.sz
        rw [List.length_map] at z2
        rw [Array.length_toList] at z1
        omega
      obtain ⟨p, hp⟩ : ∃ p, L[i]? = some p := ⟨_, List.getElem?_eq_getElem il⟩
      have mem : p ∈ L := List.mem_of_getElem? hp
      have live : t.slot (way t.mask (thash P w k) (c + q)) = .live i := slot_live R.tab.ris hi
      have cont : wpAny (model P w) A (searchRest a (.ref x) (thash P w k) false f es t (way t.mask (thash P w k) (c + q)) i (pAt t.mask (thash P w k) (c + (q + 1)))) Q E s := by
        unfold searchRest
        rw [R.entry hp]
        dsimp only
        refine wpAny_bind (wpAny_holding (wpAny_eqBool_tuple hu (R.tup p mem) hx ?_))
        refine wpAny_bind (wpAny_setState_of ho hd R.fits ?_)
        dsimp only
        refine wp_if_neg (by simp) ?_
        try refine wpAny_bind (wpAny_pure ?_)
        rw [sameMem]
        dsimp only
        simp only [if_true, live, R.entry hp]
        refine wpAny_bind (wpAny_isSame_ref_self (wpAny_bind (wpAny_pure ?_)))
        simp only [if_true]
        by_cases kk : p.2 = k
        · refine wp_if_pos (by simp [kk]) ?_
          exact wpAny_pure (yes i (List.mem_map.mpr ⟨p, mem, kk⟩))
        · refine wp_if_neg (by simp [kk]) ?_
          refine find_from R hx hu fuelK freeK below yes no f (c + (q + 1)) _ rfl (by omega) (by omega) fun i0 p0 h0 k0 => ?_
          obtain ⟨d, d1, d2, d3⟩ := left i0 p0 h0 k0
          refine ⟨d, ?_, d2, d3⟩
          have e0 : (es[i0]?.map (·.1)).getD 0 = thash P w k := (hashAt i0 p0 h0).trans (congrArg (thash P w) k0)
          rcases Nat.lt_trichotomy d (c + q) with z | z | z
          · exact absurd e0 (hno (d - c) i0 (by omega) (by rw [jq, show c + (d - c) = d by omega]; exact d3))
          · exfalso
            rw [z] at d3
            have live0 := slot_live R.tab.ris d3
            rw [live] at live0
            injection live0 with ei
            rw [← ei, hp] at h0
            exact kk ((congrArg Prod.snd (Option.some.inj h0)).trans k0)
          · omega
      by_cases led : t.led = true
      · refine wp_if_neg (by simp [led]) ?_
        try refine wpAny_bind (wpAny_pure ?_)
        exact cont
      · refine wp_if_pos (by simp [led]) ?_
        refine wpAny_bind (seen_tup hx (fun y hy => ?_) ?_)
        · obtain ⟨e, he, ee⟩ := List.mem_map.mp hy
          have he1 : e ∈ es ∧ e.1 = thash P w k := by simpa using he
          have he2 : e ∈ es.toList := by simpa using he1.1
          rw [R.rows] at he2
          obtain ⟨p2, hp2, e2⟩ := List.mem_map.mp he2
          exact ⟨p2.2, p2.1, by rw [← ee, ← e2], R.tup p2 hp2⟩
        · refine wp_if_neg (by decide) ?_
          try refine wpAny_bind (wpAny_pure ?_)
          exact cont
    · have pr : t.probe (fun i => (es[i]?.map (·.1)).getD 0) (thash P w k) (stand.getD (t.probeStart (thash P w k))) = some (.empty (way t.mask (thash P w k) K) none) := by
        have eK : way t.mask (thash P w k) K = (nth t.mask (pAt t.mask (thash P w k) c) (K - c)).j := by
          rw [jq, show c + (K - c) = K by omega]
        rw [st, eK]
        exact hpr
      rw [pr]
      dsimp only
      refine wpAny_pure (no fun hm => ?_)
      obtain ⟨p0, h0, k0⟩ := List.mem_map.mp hm
      obtain ⟨i0, hi0, e0⟩ := List.getElem_of_mem h0
      have at0 : L[i0]? = some p0 := by rw [List.getElem?_eq_getElem hi0, e0]
      obtain ⟨d, d1, d2, d3⟩ := left i0 p0 at0 k0
      exact hno (d - c) i0 (by omega) (by rw [jq, show c + (d - c) = d by omega]; exact d3) ((hashAt i0 p0 at0).trans (congrArg (thash P w) k0))
/-- x in the set -/
theorem find_at (R : SetTR P w s.heap a L es ep t) {x : Addr} {k : List Int} (hx : IsT P w s.heap k x) (hu : A.units < cLine) {Q : Option Nat → Shared → Prop}
    (h : ∀ r : Option Nat, r.isSome = decide (k ∈ L.map (·.2)) → Q r s) : wpAny (model P w) A (setFind a (.ref x) (thash P w k)) Q E s := by
  obtain ⟨o, ho, hex, hd⟩ := R.ob
  have room := R.room
  obtain ⟨K, fuelK, freeK, below⟩ := R.tab.first (by rw [List.length_map]; omega) (thash P w k)
  have big : K < 100000 := by
    have z : 10 * SetTable.turns t.mask ≤ 1420 := by
      unfold SetTable.turns
      rcases R.tab.mok with e | e | e <;> omega
    omega
  unfold setFind
  rw [show (100000 : Nat) = 99999 + 1 from rfl]
  unfold setFindIn
  refine wpAny_bind (wpAny_setState_of ho hd R.fits ?_)
  dsimp only
  refine wp_if_neg (by simp [byScan, Value.scannable]) ?_
  try refine wpAny_bind (wpAny_pure ?_)
  unfold setSearch
  refine wpAny_bind (find_from R hx hu fuelK freeK below (fun i hm => ?_) (fun hm => ?_) 100000 0 none rfl (Nat.zero_le _) (by omega) fun i p hp hk => ?_)
  · exact wpAny_pure (h _ (by rw [decide_eq_true hm] <;> rfl))
  · exact wpAny_pure (h _ (by rw [decide_eq_false hm] <;> rfl))
  · have hi : (L.map fun p => thash P w p.2)[i]? = some (thash P w k) := by rw [List.getElem?_map, hp, ← hk] <;> rfl
    have il : i < t.place.toList.length := by
      have z1 : i < L.length := (List.getElem?_eq_some_iff.mp hp).1
      have z2 := R.tab.sz
      rw [List.length_map] at z2
      rw [Array.length_toList]
      omega
    have hj := List.getElem?_eq_getElem il
    obtain ⟨c, hc, e⟩ := R.tab.before freeK hi hj
    exact ⟨c, Nat.zero_le _, hc, by rw [hj, e]⟩
theorem SetTR.typ (R : SetTR P w s.heap a L es ep t) : s.TypeIs (.ref a) "set" := let ⟨o, ho, hex, _⟩ := R.ob; ⟨o, ho, hex.1⟩
theorem in_tupset (R : SetTR P w s.heap a L es ep t) {x : Addr} {k : List Int} (hx : IsT P w s.heap k x) (hu : A.units + 64 < cLine) {Q : Value → Shared → Prop}
    (h : ∀ tk, Q (.bool (decide (k ∈ L.map (·.2)))) { s with toks := tk }) : wpAny (model P w) A (compareOp .In (.ref x) (.ref a)) Q E s := by
  show wpAny _ _ (do return .bool (← contains (.ref a) (.ref x))) Q E s
  refine wpAny_bind ?_
  unfold contains
  try with_reducible refine wpAny_holding ?_
  refine wpAny_bind (wpAny_specialOf R.typ F.slot_set_contains.lookup ?_)
  show wpAny _ _ (if (some (Value.builtin "set.__contains__") == some Value.none) = true then _ else _) _ E s
  rw [if_neg (by rw [beq_builtin_none]; exact Bool.false_ne_true)]
  refine wpAny_bind (wpAny_callSpecialUnlessNone?_slot (name := Str.ofString "__contains__") R.typ F.slot_set_contains
    (wpAny_call_entry F.slot_set_contains R.typ entry_set_contains ?_ (F.args_set_contains_2 _ _)))
  unfold Builtin.«frozenset.__contains__» Builtin.Frozenset.oneOther
  simp only [List.isEmpty_nil, bind_assoc]
  unfold Builtin.Frozenset.addrOf Builtin.Frozenset.withSetAsKey setContains
  refine wpAny_bind (wpAny_pure ?_)
  try dsimp only
  refine wpAny_bind (wpAny_pure ?_)
  try dsimp only
  refine wpAny_bind (wpAny_tryCatch ?_)
  refine wpAny_holding ?_
  refine wpAny_bind (wpAny_pyHash_tuple ?_ hx ?_)
  · show A.units + 1 < cLine
    omega
  refine wpAny_bind (find_at (s := { s with toks := s.toks + (k.length + 1) }) R hx ?_ fun r hr => ?_)
  · show A.units + 1 < cLine
    omega
  refine wpAny_pure ?_
  show wpAny _ _ (ret (Value.bool r.isSome)) _ _ _
  rw [hr]
  exact wpAny_pure ⟨_, rfl, wpAny_truthy_bool (wpAny_pure (h _))⟩
theorem add_tupset (R : SetTR P w s.heap a L es ep t) {x : Addr} {k : List Int} (hx : IsT P w s.heap k x) (hu : A.units + 64 < cLine) (few : L.length + 1 < 64) {Q : Value → Shared → Prop}
    (h : ∀ g tk L2 es2 ep2 t2, Heap.SameBut a s.heap g → SetTR P w g a L2 es2 ep2 t2 → (k ∈ L.map (·.2) → L2 = L) → (k ∉ L.map (·.2) → L2.Perm ((x, k) :: L)) → Q .none { s with heap := g, toks := tk }) :
    wpAny (model P w) A (call (.builtin "set.add") [.ref a, .ref x]) Q E s := by
  refine wpAny_call_entry F.slot_set_add R.typ F.entry_set_add ?_ (F.args_set_add_2 _ _)
  unfold Builtin.«set.add» Builtin.Frozenset.oneOther
  simp only [List.isEmpty_nil, bind_assoc]
  unfold Builtin.Frozenset.addrOf setAdd
  refine wpAny_bind (wpAny_pure ?_)
  try dsimp only
  refine wpAny_bind (wpAny_pure ?_)
  try dsimp only
  refine wpAny_bind ?_
  refine wpAny_holding ?_
  refine wpAny_bind (wpAny_pyHash_tuple ?_ hx ?_)
  · show A.units + 1 < cLine
    omega
  refine add_at (s := { s with toks := s.toks + (k.length + 1) }) R hx ?_ few fun b g L2 es2 ep2 t2 sb R2 c1 c2 => ?_
  · show A.units + 1 < cLine
    omega
  show wpAny _ _ (ret Value.none) _ _ _
  exact wpAny_pure ⟨_, rfl, h g _ L2 es2 ep2 t2 sb R2 c1 c2⟩
end
section
variable {X : Cx}
/-- the set at a holds the tuples L, each still readable -/
def HasT (K : PySem.W.Frag) (P : Program) (w : World) (H : Hp) (a : Addr) (L : List (Addr × List Int)) : Prop :=
  H a = some (SetTO P w a L) ∧ ∀ p ∈ L, SqT K H p.1 (p.2.map V.int)
theorem HasT.full {pins : List (Addr × Obj)} {σ : St} {H : Hp} {s : Shared} {a : Addr} {L : List (Addr × List Int)} (I : Inv X pins σ H s) (h : HasT X.K X.prog X.w H a L) : ∃ es ep t, SetTR X.prog X.w s.heap a L es ep t := by
  have R0 : SetT0 X.prog X.w s.heap a L := (I.hok a _ h.1).1
  exact R0.full fun p hp => I.isT (h.2 p hp)
def rHuSet0T (P : Program) (w : World) : List V → Hp → VK → Prop := fun vs H Q => vs = [] ∧ ∀ p, H p = none → Q (.ref p) (upd H p (SetTO P w p []))
theorem hu_cr_set0T : CallR X (.type "set") (rHuSet0T X.prog X.w) := by
  intro pins s σ H vs us Q I r h
  obtain ⟨rfl, q⟩ := h
  cases r
  refine setR_new fun _ => ?_
  have R := setTR_fresh (P := X.prog) (w := X.w) (h := s.heap.push { cls := .type "set", dict := none, data := .set #[] 0 (.fresh 0 0 (!X.w.params.followText "set-order")) }) (a := s.heap.objs.size) (Heap.get?_push_size _ rfl)
  exact ⟨.ref _, _, I.laid (t' := s.toks) (fun b u e => Heap.get?_push_of_some _ e) (Nat.le_refl _) (setTO_new R.t0), rfl, q _ (I.hok.fresh (Nat.le_refl _))⟩
/-- k in found -/
def rHuInT (K : PySem.W.Frag) (P : Program) (w : World) : V → V → Hp → VK → Prop := fun x y H Q => ∃ (b a : Addr) (k : List Int) (L : List (Addr × List Int)), x = V.ref b ∧ y = V.ref a ∧ SqT K H b (k.map V.int) ∧ HasT K P w H a L ∧ Q (.bl (decide (k ∈ L.map (·.2)))) H
theorem hu_or_inT (hu : X.A.units + 64 < cLine) : OpR X (compareOp .In) (rHuInT X.K X.prog X.w) := by
  intro pins s σ H x y v u Q I rx ry h
  obtain ⟨b, a, k, L, rfl, rfl, hb, ha, q⟩ := h
  cases rx
  cases ry
  obtain ⟨es, ep, t, R⟩ := ha.full I
  exact in_tupset R (I.isT hb) hu fun tk => ⟨.bl _, H, I.tok _, rfl, q⟩
/-- found.add(k) -/
def rHuAddT (K : PySem.W.Frag) (P : Program) (w : World) : V → List V → Hp → VK → Prop := fun x vs H Q => ∃ (a b : Addr) (k : List Int) (L : List (Addr × List Int)), x = V.ref a ∧ vs = [V.ref b] ∧ SqT K H b (k.map V.int) ∧ HasT K P w H a L ∧ L.length + 1 < 64 ∧
  k ∉ L.map (·.2) ∧ ∀ L2, L2.Perm ((b, k) :: L) → Q .non (upd H a (SetTO P w a L2))
theorem hu_mt_addT (hu : X.A.units + 64 < cLine) : MtR X "set.add" (rHuAddT X.K X.prog X.w) := by
  intro pins s σ H x vs v us Q I rx rxs h
  obtain ⟨a, b, k, L, rfl, rfl, hb, ha, few, new, q⟩ := h
  cases rx
  rw [Vals.ref1 rxs]
  obtain ⟨es, ep, t, R⟩ := ha.full I
  refine add_tupset R (I.isT hb) hu few fun g tk L2 es2 ep2 t2 sb R2 _ c2 => ?_
  obtain ⟨o2, ho2, _⟩ := R2.ob
  exact ⟨.non, _, I.write (e := a) (t' := tk) (by rw [ha.1]; trivial) (.inl rfl) (fun c u hc hu => (sb.2 c hc).trans hu) ⟨o2, ho2⟩ (setTO_new R2.t0), rfl, q L2 (c2 new)⟩
def tHuAddT (K : PySem.W.Frag) (P : Program) (w : World) (to : TE) (t : TA) : TE := fun σ H Q => to σ H fun x H1 => (∃ a L, x = V.ref a ∧ H1 a = some (SetTO P w a L)) ∧ t σ H1 fun xs H2 => rHuAddT K P w x xs H2 Q
variable {o e : Expr} {es : List Expr} {to : TE} {t : TA} {apos cpos : Pos}
theorem hu_pe_addT (hu : X.A.units + 64 < cLine) (ho : PE X o to) (ha : PA X (e :: es) t)
    (hbase : attributeBase o "add" X.env (eval o X.env) = eval o X.env := by rfl)
    (hfew : ((backTo cpos (starEach (e :: es) X.env)).all (fun x => !x.1) && (backToKw cpos (keywordEach [] X.env)).all (fun x => x.1.isSome)
      && decide ((e :: es).length + ([] : List Keyword).length + (if ([] : List Keyword).isEmpty then 0 else 1) < 30)) = true := by rfl)
    (hline : (apos.endLine == cpos.line) = true := by rfl) (hs : starEach (e :: es) X.env = (false, eval e X.env) :: starEach es X.env := by rfl) (hplain : (backTo cpos (starEach es X.env)).any (·.1) = false := by rfl) :
    PE X (.Call (.Attribute o "add" apos) (e :: es) [] cpos) (tHuAddT X.K X.prog X.w to t) := by
  refine ⟨fun pins s σ H Q I h => ?_⟩
  refine wpAny_Call_method_late hbase hfew hline rfl (thn (ho.run pins s σ H _ I h) fun v s1 ⟨x, H1, I1, r1, ⟨a, L, ex, hka⟩, q1⟩ => ?_)
  subst ex
  have R0 : SetT0 X.prog X.w s1.heap a L := (I1.hok a _ hka).1
  obtain ⟨es0, ep0, t0, ⟨o0, ho0, hex0, _⟩, _⟩ := R0.ex
  cases r1
  refine ⟨"set", "set.add", F.plainAttrs_set, F.slot_set_add, F.type_set_add, ⟨o0, ho0, hex0.1⟩, ?_, ?_⟩
  · intro b eb
    injection eb with eb
    subst eb
    exact ⟨o0, ho0, by first | exact hex0.2.1 | exact hex0.2.2⟩
  have hA := ha.run cpos pins s1 σ H1 _ I1 q1
  rw [hs] at hA ⊢
  refine Calls.callWith_builtin (by show (false || (backTo cpos (starEach es X.env)).any (·.1)) = false; rw [hplain] <;> rfl) (Calls.evalArgs_plain ?_)
  exact thn hA fun us s2 ⟨vs, H2, I2, r2, q2⟩ => hu_mt_addT hu pins s2 σ H2 (.ref a) vs (.ref a) us Q I2 rfl r2 q2
end
end L2

end
section
set_option maxRecDepth 100000
set_option maxHeartbeats 2000000
namespace L2
open PySem PySem.Spec PyProof.Rows
/-! ### sets of tuples of ints, up to 4914 of them -/
section
/-- the masks of such a set -/
def Wid (m : Nat) : Prop := m = 7 ∨ m = 31 ∨ m = 127 ∨ m = 511 ∨ m = 2047 ∨ m = 8191
theorem Wid.pow {m : Nat} (h : Wid m) : ∃ k, m + 1 = 2 ^ k := by
  rcases h with e | e | e | e | e | e
  · exact ⟨3, by rw [e]⟩
  · exact ⟨5, by rw [e]⟩
  · exact ⟨7, by rw [e]⟩
  · exact ⟨9, by rw [e]⟩
  · exact ⟨11, by rw [e]⟩
  · exact ⟨13, by rw [e]⟩
theorem Wid.bounds {m : Nat} (h : Wid m) : 7 ≤ m ∧ m ≤ 8191 ∧ m % 2 = 1 := by
  rcases h with e | e | e | e | e | e <;> omega

/-- five times and one more, again and again -/
def five : Nat → Nat → Nat
  | x, 0 => x
  | x, n + 1 => five (5 * x + 1) n
theorem five_add : ∀ (a x b : Nat), five x (a + b) = five (five x a) b
  | 0, x, b => by rw [Nat.zero_add] <;> rfl
  | a + 1, x, b => by
    have e : a + 1 + b = (a + b) + 1 := by omega
    rw [e]
    exact five_add a (5 * x + 1) b
/-- 2^k of these steps: x goes to x + 2^k, but for a multiple of 2^(k+1) -/
theorem five_pow (k : Nat) : ∃ a b : Nat, ∀ x, five x (2 ^ k) = (1 + 4 * (2 ^ k * a)) * x + 2 ^ k * (1 + 2 * b) := by
  induction k with
  | zero =>
    refine ⟨1, 0, fun x => ?_⟩
    show 5 * x + 1 = (1 + 4 * (2 ^ 0 * 1)) * x + 2 ^ 0 * (1 + 2 * 0)
    omega
  | succ k ih =>
    obtain ⟨a, b, h⟩ := ih
    refine ⟨a + 2 * (2 ^ k * a * a), b + 2 ^ k * a + 2 * (2 ^ k * a * b), fun x => ?_⟩
    have e : (2 : Nat) ^ (k + 1) = 2 ^ k + 2 ^ k := by rw [Nat.pow_succ]; omega
    rw [e, five_add, h, h]
    generalize (2 : Nat) ^ k = N
    grind
theorem five_shift (k x : Nat) : five x (2 ^ k) % 2 ^ (k + 1) = (x + 2 ^ k) % 2 ^ (k + 1) := by
  obtain ⟨a, b, h⟩ := five_pow k
  rw [h x]
  have e : (1 + 4 * (2 ^ k * a)) * x + 2 ^ k * (1 + 2 * b) = (x + 2 ^ k) + 2 ^ (k + 1) * (2 * (a * x) + b) := by
    rw [Nat.pow_succ]
    generalize (2 : Nat) ^ k = N
    grind
  rw [e, Nat.add_mul_mod_self_left]
/-- each remainder comes -/
theorem five_covers (x j : Nat) : ∀ k, ∃ n, n < 2 ^ k ∧ five x n % 2 ^ k = j % 2 ^ k
  | 0 => ⟨0, by decide, by rw [Nat.pow_zero, Nat.mod_one, Nat.mod_one]⟩
  | k + 1 => by
    obtain ⟨n, hn, e⟩ := five_covers x j k
    have hp : 0 < (2 : Nat) ^ k := Nat.pow_pos (by decide)
    have e2 : (2 : Nat) ^ (k + 1) = 2 ^ k * 2 := Nat.pow_succ ..
    by_cases c : five x n / 2 ^ k % 2 = j / 2 ^ k % 2
    · refine ⟨n, by omega, ?_⟩
      rw [e2, Nat.mod_mul, Nat.mod_mul, e, c]
    · refine ⟨n + 2 ^ k, by omega, ?_⟩
      rw [five_add, five_shift, e2, Nat.mod_mul, Nat.mod_mul, Nat.add_mod_right, e, Nat.add_div_right _ hp]
      have d : (five x n / 2 ^ k).succ % 2 = j / 2 ^ k % 2 := by omega
      rw [d]
theorem lcgI_five (m i : Nat) (hi : i ≤ m) : ∀ n, lcgI m i n = five i n % (m + 1)
  | 0 => (Nat.mod_eq_of_lt (Nat.lt_succ_of_le hi)).symm
  | n + 1 => by
    have e : five i (n + 1) = 5 * five i n + 1 := by rw [five_add] <;> rfl
    show (lcgI m i n * 5 + 1) % (m + 1) = _
    rw [lcgI_five m i hi n, e, Nat.add_mod, Nat.mul_mod, Nat.mod_mod, ← Nat.mul_mod, ← Nat.add_mod, Nat.mul_comm]
theorem Wid.covers {m : Nat} (h : Wid m) {i j : Nat} (hi : i ≤ m) (hj : j ≤ m) : ∃ n, n ≤ m ∧ lcgI m i n = j := by
  obtain ⟨k, hk⟩ := h.pow
  obtain ⟨n, hn, e⟩ := five_covers i j k
  rw [← hk] at hn e
  exact ⟨n, Nat.le_of_lt_succ hn, by rw [lcgI_five m i hi, e, Nat.mod_eq_of_lt (Nat.lt_succ_of_le hj)]⟩
/-- a run starts at each place, soon enough -/
theorem Wid.start {m : Nat} (wd : Wid m) (g : Int) {j : Nat} (hj : j ≤ m) : ∃ n, n ≤ m + 12 ∧ runI m (SetTable.bits g) n = j := by
  obtain ⟨n, hn, e⟩ := wd.covers (runI_le m (SetTable.bits g) 12) hj
  refine ⟨12 + n, by omega, ?_⟩
  rw [runI_tail (bits_lt g), e]
theorem Wid.comes {m : Nat} (wd : Wid m) (g : Int) {j : Nat} (hj : j ≤ m) : ∃ c, c < 10 * SetTable.turns m ∧ way m g c = j := by
  obtain ⟨n, hn, e⟩ := wd.start g hj
  obtain ⟨c, hc, e2⟩ := run_nth m (SetTable.bits g) n
  have e3 : way m g c = runI m (SetTable.bits g) n := congrArg SetTable.Probe.j e2
  exact ⟨c, by unfold SetTable.turns; omega, e3.trans e⟩
theorem way_low (m : Nat) (g : Int) (c : Nat) : way m g c ≤ m := by
  have b0 : SetTable.bits g % (m + 1) ≤ m := Nat.le_of_lt_succ (Nat.mod_lt _ (Nat.succ_pos m))
  have b1 := runEnd_bd b0
  have b2 := nth_in (m := m) c (runAt m (SetTable.bits g % (m + 1)) (SetTable.bits g)) (by
    show SetTable.bits g % (m + 1) + (SetTable.runEnd m (SetTable.bits g % (m + 1)) - SetTable.bits g % (m + 1)) ≤ m
    omega)
  exact Nat.le_trans (Nat.le_add_right _ _) b2

/-- a table in which a search for a hash passes its places -/
structure Lay (t : SetTable) (hs : List Int) : Prop where
  wid : Wid t.mask
  up : Ris t.place.toList
  bare : t.dummies = #[]
  many : t.place.size = hs.length
  low : ∀ j ∈ t.place.toList, j ≤ t.mask
  path : ∀ (i : Nat) (g : Int) (j : Nat), hs[i]? = some g → t.place.toList[i]? = some j → ∃ n, way t.mask g n = j ∧ ∀ c, c < n → way t.mask g c ∈ t.place.toList
variable {t : SetTable} {hs : List Int}
theorem Lay.hole (T : Lay t hs) (le : hs.length ≤ t.mask) (g : Int) : ∃ n, n < 10 * SetTable.turns t.mask ∧ way t.mask g n ∉ t.place.toList ∧ ∀ c, c < n → way t.mask g c ∈ t.place.toList := by
  obtain ⟨j, lt, out⟩ := st_missing t.place.toList (t.mask + 1) (by rw [Array.length_toList, T.many]; omega)
  obtain ⟨c0, lt0, e0⟩ := T.wid.comes g (Nat.le_of_lt_succ lt)
  obtain ⟨n, n1, n2, n3⟩ := st_least (p := fun c => way t.mask g c ∉ t.place.toList) c0 (fun hm => out (e0 ▸ hm))
  exact ⟨n, Nat.lt_of_le_of_lt n1 lt0, n2, fun c hc => Classical.not_not.mp (n3 c hc)⟩
theorem Lay.ahead (T : Lay t hs) {g : Int} {n i j : Nat} (out : way t.mask g n ∉ t.place.toList) (hi : hs[i]? = some g) (hj : t.place.toList[i]? = some j) : ∃ c, c < n ∧ way t.mask g c = j := by
  obtain ⟨c, e, bef⟩ := T.path i g j hi hj
  refine ⟨c, Nat.lt_of_not_le fun le => ?_, e⟩
  rcases Nat.lt_or_eq_of_le le with lt | eq
  · exact out (bef n lt)
  · rw [eq, e] at out
    exact out (List.mem_of_getElem? hj)
theorem Lay.put (T : Lay t hs) {g : Int} {n : Nat} (out : way t.mask g n ∉ t.place.toList) (bef : ∀ c, c < n → way t.mask g c ∈ t.place.toList) :
    SetTable.below t.place (way t.mask g n) ≤ hs.length ∧ Lay (t.put (way t.mask g n)).1 (hs.take (SetTable.below t.place (way t.mask g n)) ++ g :: hs.drop (SetTable.below t.place (way t.mask g n))) ∧
    (t.put (way t.mask g n)).1.fill = hs.length + 1 := by
  have jm := way_low t.mask g n
  obtain ⟨j, ej⟩ : ∃ j, way t.mask g n = j := ⟨_, rfl⟩
  rw [ej] at out jm ⊢
  have b1 : SetTable.below t.place j ≤ t.place.size := (below_cut T.up j).1
  have b2 : SetTable.below t.place j ≤ t.place.toList.length := by rw [Array.length_toList]; exact b1
  have b3 : SetTable.below t.place j ≤ hs.length := by rw [← T.many]; exact b1
  have pl := put_place t j
  have inn : ∀ x ∈ t.place.toList, x ∈ (t.put j).1.place.toList := fun x hx => by
    rw [pl]
    exact mem_ins.2 (.inr hx)
  have sz : (t.put j).1.place.size = hs.length + 1 := by
    rw [← Array.length_toList, pl, len_ins _ b2, Array.length_toList, T.many]
  refine ⟨b3, ⟨T.wid, ?_, put_dm T.bare j, by rw [len_ins _ b3]; exact sz, fun x hx => ?_, fun i g' j' h1 h2 => ?_⟩, ?_⟩
  · exact ris_insert T.up fun e => out (List.mem_of_getElem? (by rw [Array.getElem?_toList]; exact e))
  · rw [pl] at hx
    rcases mem_ins.1 hx with e | hx
    · rw [e]
      exact jm
    · exact T.low x hx
  · rw [pl, tins_get _ b2] at h2
    rw [tins_get hs b3] at h1
    have old : ∀ i0, hs[i0]? = some g' → t.place.toList[i0]? = some j' → ∃ n0, way t.mask g' n0 = j' ∧ ∀ c, c < n0 → way t.mask g' c ∈ (t.put j).1.place.toList := fun i0 a1 a2 => by
      obtain ⟨n0, x1, x2⟩ := T.path i0 g' j' a1 a2
      exact ⟨n0, x1, fun c hc => inn _ (x2 c hc)⟩
    rcases Nat.lt_trichotomy i (SetTable.below t.place j) with c | c | c
    · rw [if_pos c] at h1 h2
      exact old i h1 h2
    · rw [if_neg (by omega), if_pos c] at h1 h2
      obtain rfl := Option.some.inj h1
      obtain rfl := Option.some.inj h2
      exact ⟨n, ej, fun c hc => inn _ (bef c hc)⟩
    · rw [if_neg (by omega), if_neg (by omega)] at h1 h2
      exact old (i - 1) h1 h2
  · show (t.put j).1.place.size + (t.put j).1.dummies.size = _
    rw [sz, put_dm T.bare j] <;> rfl

/-! the table laid out again -/
theorem Wid.free {m : Nat} (wd : Wid m) (owner : Array (Option Nat)) (g : Int) {j : Nat} (hj : j ≤ m) (none0 : oAt owner j = none) :
    ∃ n, SetTable.layClean.free m owner (SetTable.turns m) (SetTable.bits g % (m + 1)) (SetTable.bits g) = some (way m g n) ∧ oAt owner (way m g n) = none ∧ ∀ c, c < n → oAt owner (way m g c) ≠ none := by
  obtain ⟨r, le, e⟩ := wd.start g hj
  have at_ : way m g (off m (SetTable.bits g % (m + 1)) (SetTable.bits g) r) = j := by
    refine Eq.trans (congrArg SetTable.Probe.j (nth_off m r _ _)) ?_
    rw [itL_run]
    exact e
  obtain ⟨n, n1, n2, n3⟩ := st_least (p := fun c => oAt owner (way m g c) = none) _ (show oAt owner (way m g _) = none by rw [at_]; exact none0)
  refine ⟨n, free_spec m owner _ r _ _ n (by unfold SetTable.turns; omega) n1 (fun c hc => ?_) ?_, n2, n3⟩
  · cases z : oAt owner (way m g c) with
    | none => exact absurd z (n3 c hc)
    | some q => rfl
  · exact (congrArg Option.isNone n2)
theorem Wid.own {m : Nat} (wd : Wid m) {done : List Int} {owner : Array (Option Nat)} (W : Own m done owner) (few : done.length ≤ m) (g : Int) :
    ∃ j, SetTable.layClean.free m owner (SetTable.turns m) (SetTable.bits g % (m + 1)) (SetTable.bits g) = some j ∧ Own m (done ++ [g]) (owner.setIfInBounds j (some done.length)) := by
  obtain ⟨ps, lp, cov⟩ := W.ps
  obtain ⟨j0, lt0, out0⟩ := st_missing ps (m + 1) (by omega)
  have no0 : oAt owner j0 = none := Classical.byContradiction fun z => out0 (cov j0 (Nat.le_of_lt_succ lt0) z)
  obtain ⟨n, f, vac, bef⟩ := wd.free owner g (Nat.le_of_lt_succ lt0) no0
  have lm := way_low m g n
  refine ⟨_, f, ?_⟩
  generalize hj : way m g n = j at vac lm
  have slf := oAt_set_self (owner := owner) (some done.length) (j := j) (by rw [W.sz]; omega)
  have keep : ∀ i, oAt owner i ≠ none → oAt (owner.setIfInBounds j (some done.length)) i ≠ none := fun i hi => by
    by_cases c : i = j
    · rw [c, slf]
      exact Option.some_ne_none _
    · rw [oAt_set_ne _ c]
      exact hi
  constructor
  · rw [Array.size_setIfInBounds, W.sz]
  · intro i k hi e
    by_cases c : i = j
    · rw [c, slf] at e
      obtain rfl := Option.some.inj e
      refine ⟨g, n, ?_, hj.trans c.symm, fun c hc => keep _ (bef c hc)⟩
      rw [List.getElem?_append_right (Nat.le_refl _), Nat.sub_self] <;> rfl
    · rw [oAt_set_ne _ c] at e
      obtain ⟨g', n', x1, x2, x3⟩ := W.at_ i k hi e
      exact ⟨g', n', by rw [List.getElem?_append_left (List.getElem?_eq_some_iff.mp x1).1]; exact x1, x2, fun c hc => keep _ (x3 c hc)⟩
  · intro k hk
    rw [List.length_append, List.length_singleton] at hk
    rcases Nat.lt_or_eq_of_le (Nat.le_of_lt_succ hk) with c | c
    · obtain ⟨i, hi, e⟩ := W.all k c
      have ne : i ≠ j := fun z => by
        rw [z, vac] at e
        exact nomatch e
      exact ⟨i, hi, by rw [oAt_set_ne _ ne]; exact e⟩
    · exact ⟨j, lm, by rw [slf, c]⟩
  · refine ⟨j :: ps, by rw [List.length_cons, lp, List.length_append] <;> rfl, fun i hi e => ?_⟩
    by_cases c : i = j
    · rw [c]
      exact .head _
    · rw [oAt_set_ne _ c] at e
      exact .tail _ (cov i hi e)
theorem Wid.lays {m : Nat} (wd : Wid m) : ∀ (rest done : List Int) (owner : Array (Option Nat)), Own m done owner → done.length + rest.length ≤ m →
    ∃ o2, rest.foldl (stepF m) (some (owner, done.length)) = some (o2, (done ++ rest).length) ∧ Own m (done ++ rest) o2
  | [], done, owner, W, _ => by
    rw [List.append_nil]
    exact ⟨owner, rfl, W⟩
  | g :: rest, done, owner, W, le => by
    have lc : (g :: rest).length = rest.length + 1 := rfl
    have ls : (done ++ [g]).length = done.length + 1 := by rw [List.length_append] <;> rfl
    obtain ⟨j, f, W1⟩ := wd.own W (by omega) g
    obtain ⟨o2, h1, h2⟩ := wd.lays rest (done ++ [g]) _ W1 (by omega)
    rw [ls, List.append_assoc] at h1
    rw [List.append_assoc] at h2
    exact ⟨o2, by rw [List.foldl_cons, stepF_some f]; exact h1, h2⟩
theorem Wid.relaid {M : Nat} (wd : Wid M) (t : SetTable) {hs : Array Int} {wanted : Nat} (hw : SetTable.sizeAbove wanted - 1 = M) (le : hs.size ≤ M) :
    ∃ t2 order, t.relaid hs wanted = some (t2, order) ∧ order.toList.Perm (List.range hs.size) ∧ Lay t2 (order.toList.map fun i => hs.getD i 0) ∧ t2.mask = M ∧ t2.led = t.led ∧ t2.plain = t.plain := by
  obtain ⟨owner, f, W⟩ := wd.lays hs.toList [] _ (Own.init M) (by rw [Array.length_toList]; show 0 + hs.size ≤ M; omega)
  rw [List.nil_append] at f W
  have lay : SetTable.layClean M hs = some owner := by
    rw [layClean_eq]
    exact (congrArg (Option.map (·.1)) f)
  generalize hLv : liveOf M owner = Lv
  have mem : ∀ j k, (j, k) ∈ Lv ↔ j ≤ M ∧ oAt owner j = some k := fun j k => by
    rw [← hLv]
    exact mem_live W.sz
  have up : Ris (Lv.map (·.1)) ∧ ∀ x ∈ Lv.map (·.1), x ∈ List.range (M + 1) := by
    rw [← hLv]
    exact ris_live (fun j => owner.getD j none) (List.range (M + 1)) (by
      unfold Ris
      first | exact List.pairwise_lt_range | exact List.pairwise_lt_range _)
  have ks : ∀ k, k < hs.size → k ∈ Lv.map (·.2) := fun k hk => by
    obtain ⟨j, j1, j2⟩ := W.all k (by rw [Array.length_toList]; exact hk)
    exact List.mem_map.mpr ⟨(j, k), (mem j k).2 ⟨j1, j2⟩, rfl⟩
  have cnt : (Lv.map (·.2)).length = hs.size := by
    obtain ⟨ps, lp, cov⟩ := W.ps
    have fs : (Lv.map (·.1)).Nodup := List.Pairwise.imp (fun h => Nat.ne_of_lt h) up.1
    have c1 := nat_nodup_len (Lv.map (·.1)) ps fs fun x hx => by
      obtain ⟨⟨j, k⟩, jk, rfl⟩ := List.mem_map.mp hx
      obtain ⟨x1, x2⟩ := (mem j k).1 jk
      exact cov j x1 (by rw [x2]; exact Option.some_ne_none k)
    have c2 := nat_nodup_len (List.range hs.size) (Lv.map (·.2)) List.nodup_range fun k hk => ks k (List.mem_range.mp hk)
    have z : hs.toList.length = hs.size := rfl
    rw [List.length_map, lp] at c1
    rw [List.length_range, List.length_map] at c2
    rw [List.length_map]
    omega
  refine ⟨tabOf t M owner, (Lv.map (·.2)).toArray, ?_, perm_range hs.size _ cnt ks, ⟨wd, ?_, rfl, ?_, fun j hj => ?_, fun i g j h1 h2 => ?_⟩, rfl, rfl, rfl⟩
  · rw [relaid_eq, hw, lay, ← hLv] <;> rfl
  · show Ris ((liveOf M owner).map (·.1))
    rw [hLv]
    exact up.1
  · show ((liveOf M owner).map (·.1)).toArray.size = _
    rw [hLv, List.size_toArray, List.length_map, List.length_map, List.length_map]
  · have hj' : j ∈ (liveOf M owner).map (·.1) := hj
    rw [hLv] at hj'
    exact Nat.le_of_lt_succ (List.mem_range.mp (up.2 j hj'))
  · have h2' : ((liveOf M owner).map (·.1))[i]? = some j := h2
    have h1' : ((Lv.map (·.2)).map fun i => hs.getD i 0)[i]? = some g := h1
    rw [hLv, List.getElem?_map] at h2'
    rw [List.getElem?_map, List.getElem?_map] at h1'
    obtain ⟨⟨y, k⟩, q1, rfl⟩ := Option.map_eq_some_iff.mp h2'
    rw [q1] at h1'
    obtain rfl := Option.some.inj h1'
    obtain ⟨m1, m2⟩ := (mem y k).1 (List.mem_of_getElem? q1)
    obtain ⟨g0, n, d1, d2, d3⟩ := W.at_ y k m1 m2
    have eg : hs.getD k 0 = g0 := by
      rw [Array.getD_eq_getD_getElem?, ← Array.getElem?_toList, d1] <;> rfl
    show ∃ n, way M (hs.getD k 0) n = y ∧ ∀ c, c < n → way M (hs.getD k 0) c ∈ (liveOf M owner).map (·.1)
    rw [eg, hLv]
    refine ⟨n, d2, fun c hc => ?_⟩
    obtain ⟨k2, e2⟩ := Option.ne_none_iff_exists'.mp (d3 c hc)
    exact List.mem_map.mpr ⟨(way M g0 c, k2), (mem _ _).2 ⟨way_low M g0 c, e2⟩, rfl⟩
end
end L2

end
section
set_option maxRecDepth 100000
set_option maxHeartbeats 2000000
namespace L2
open PySem PySem.Spec PyProof.Rows
/-! ### a set of up to 4914 tuples of ints: searching, adding -/
section
variable {P : Program} {w : World} {A : Around} {E : Value → Shared → Prop} {s : Shared}
variable {a : Addr} {L : List (Addr × List Int)} {es : Array (Int × Value)} {ep : Nat} {t : SetTable}
/-- the hashes of the rows -/
abbrev hsh (P : Program) (w : World) (L : List (Addr × List Int)) : List Int := L.map fun p => thash P w p.2
/-- the object at a is a set whose entries are L -/
structure BigO (P : Program) (w : World) (h : Heap) (a : Addr) (L : List (Addr × List Int)) (es : Array (Int × Value)) (ep : Nat) (t : SetTable) : Prop where
  obj : ∃ o, h.get? a = some o ∧ o.ExactSet ∧ o.data = .set es ep t
  ent : es.toList = rowsOf P w L
  lay : Lay t (hsh P w L)
  dif : (L.map (·.2)).Nodup
  pln : t.plain = true
  seq : w.params.followText "set-order" = true ∨ t.led = true
  gap : L.length * 5 < t.mask * 3
theorem rowsOf_len {es : Array (Int × Value)} (h : es.toList = rowsOf P w L) : es.size = L.length := by
  have e := congrArg List.length h
  rw [Array.length_toList] at e
  exact e.trans (List.length_map ..)
namespace BigO
theorem size (R : BigO P w s.heap a L es ep t) : es.size = L.length := rowsOf_len R.ent
theorem many (R : BigO P w s.heap a L es ep t) : t.place.size = L.length := R.lay.many.trans (List.length_map ..)
theorem fits (R : BigO P w s.heap a L es ep t) : t.fits es.size = true := by
  have g := R.gap
  have c1 : t.place.size = es.size := R.many.trans R.size.symm
  have c2 : t.place.size + t.dummies.size ≤ t.mask := by
    rw [R.lay.bare, R.many]
    show L.length + 0 ≤ _
    omega
  unfold SetTable.fits SetTable.fill
  rw [Bool.and_eq_true, beq_iff_eq, decide_eq_true_eq]
  exact ⟨c1, c2⟩
theorem row (R : BigO P w s.heap a L es ep t) {i : Nat} {p : Addr × List Int} (h : L[i]? = some p) : es[i]? = some (thash P w p.2, Value.ref p.1) := by
  rw [← Array.getElem?_toList, R.ent]
  refine (List.getElem?_map ..).trans ?_
  rw [h] <;> rfl
theorem whole (R : BigO P w s.heap a L es ep t) : ¬ t.gaveWay = true := by
  unfold SetTable.gaveWay
  rw [R.lay.wid.bounds.2.2]
  decide
end BigO
/-- a search, from its c-th place on: for adding, or for asking -/
theorem big_from (R : BigO P w s.heap a L es ep t) (tup : ∀ p ∈ L, IsT P w s.heap p.2 p.1) {x : Addr} {k : List Int} (hx : IsT P w s.heap k x) (hu : A.units < cLine) (adding : Bool) {n : Nat} (fuel : n < 10 * SetTable.turns t.mask)
    (out : way t.mask (thash P w k) n ∉ t.place.toList) (bef : ∀ c, c < n → way t.mask (thash P w k) c ∈ t.place.toList) {Q : SetFound → Shared → Prop}
    (yes : ∀ r, (adding = true → r = none) → (adding = false → r.isSome = true) → k ∈ L.map (·.2) → Q (.there r) s) (no : k ∉ L.map (·.2) → Q (.free (way t.mask (thash P w k) n) false) s) :
    ∀ (f c : Nat) (stand : Option SetTable.Probe), stand.getD (t.probeStart (thash P w k)) = pAt t.mask (thash P w k) c → c ≤ n → n - c < f →
      (∀ (i : Nat) p, L[i]? = some p → p.2 = k → ∃ d, c ≤ d ∧ d < n ∧ t.place.toList[i]? = some (way t.mask (thash P w k) d)) →
      wpAny (model P w) A (setSearchFrom a (.ref x) (thash P w k) adding f stand) Q E s
  | 0, _, _, _, _, lt, _ => absurd lt (Nat.not_lt_zero _)
  | f + 1, c, stand, st, cn, lt, left => by
    obtain ⟨o, ho, hex, hd⟩ := R.obj
    rw [setSearchFrom_succ]
    refine wpAny_bind (wpAny_setState_of ho hd R.fits ?_)
    dsimp only
    refine wp_if_neg R.whole ?_
    try refine wpAny_bind (wpAny_pure ?_)
    have step : ∀ q, (nth t.mask (pAt t.mask (thash P w k) c) q).j = way t.mask (thash P w k) (c + q) := fun q => congrArg SetTable.Probe.j (pAt_on t.mask (thash P w k) c q)
    have rest : n - c + c = n := Nat.sub_add_cancel cn
    have hash : ∀ (i : Nat) p, L[i]? = some p → (es[i]?.map (·.1)).getD 0 = thash P w p.2 := fun i p hp => by
      rw [R.row hp] <;> rfl
    have last : (nth t.mask (pAt t.mask (thash P w k) c) (n - c)).j = way t.mask (thash P w k) n := by rw [step, Nat.add_comm c, rest]
    have spec := go_spec t R.lay.up R.lay.bare (fun i => (es[i]?.map (·.1)).getD 0) (thash P w k) (10 * SetTable.turns t.mask) (n - c) _ (pAt_dummy t.mask (thash P w k) c) (by omega)
      (fun q hq => by rw [step]; exact bef (c + q) (by omega)) (by rw [last]; exact out)
    rcases spec with ⟨q, i, hq, hi, hh, before, pr⟩ | ⟨before, pr⟩
    · rw [step] at hi pr
      rw [show stand.getD (t.probeStart (thash P w k)) = pAt t.mask (thash P w k) c from st]
      rw [show t.probe (fun i => (es[i]?.map (·.1)).getD 0) (thash P w k) (pAt t.mask (thash P w k) c) = _ from pr]
      dsimp only
      have il : i < L.length := by
        have z := (List.getElem?_eq_some_iff.mp hi).1
        rw [Array.length_toList, R.many] at z
        exact z
      obtain ⟨p, hp⟩ : ∃ p, L[i]? = some p := ⟨_, List.getElem?_eq_getElem il⟩
      have mem : p ∈ L := List.mem_of_getElem? hp
      have live : t.slot (way t.mask (thash P w k) (c + q)) = .live i := slot_live R.lay.up hi
      have cont : wpAny (model P w) A (searchRest a (.ref x) (thash P w k) adding f es t (way t.mask (thash P w k) (c + q)) i (nth t.mask (pAt t.mask (thash P w k) c) (q + 1))) Q E s := by
        unfold searchRest
        rw [R.row hp]
        dsimp only
        refine wpAny_bind (wpAny_holding (wpAny_eqBool_tuple hu (tup p mem) hx ?_))
        refine wpAny_bind (wpAny_setState_of ho hd R.fits ?_)
        dsimp only
        by_cases kk : p.2 = k
        · have km : k ∈ L.map (·.2) := List.mem_map.mpr ⟨p, mem, kk⟩
          cases adding with
          | true =>
            refine wp_if_pos (by simp [kk]) ?_
            exact wpAny_pure (yes none (fun _ => rfl) (fun z => nomatch z) km)
          | false =>
            refine wp_if_neg (by simp) ?_
            try refine wpAny_bind (wpAny_pure ?_)
            rw [sameMem]
            dsimp only
            simp only [if_true, live, R.row hp]
            refine wpAny_bind (wpAny_isSame_ref_self (wpAny_bind (wpAny_pure ?_)))
            simp only [if_true]
            refine wp_if_pos (by simp [kk]) ?_
            exact wpAny_pure (yes (some i) (fun z => nomatch z) (fun _ => rfl) km)
        · refine wp_if_neg (by simp [kk]) ?_
          try refine wpAny_bind (wpAny_pure ?_)
          rw [sameMem]
          dsimp only
          simp only [if_true, live, R.row hp]
          refine wpAny_bind (wpAny_isSame_ref_self (wpAny_bind (wpAny_pure ?_)))
          simp only [if_true]
          refine wp_if_neg (by simp [kk]) ?_
          refine big_from R tup hx hu adding fuel out bef yes no f (c + (q + 1)) _ (pAt_on ..) (by omega) (by omega) fun i0 p0 h0 k0 => ?_
          obtain ⟨d, d1, d2, d3⟩ := left i0 p0 h0 k0
          refine ⟨d, Nat.lt_of_not_le fun le => ?_, d2, d3⟩
          have h1 : (es[i0]?.map (·.1)).getD 0 = thash P w k := (hash i0 p0 h0).trans (congrArg (thash P w) k0)
          have le2 : d ≤ c + q := le
          rcases Nat.lt_or_eq_of_le le2 with z | z
          · refine before (d - c) i0 (by omega) ?_ h1
            rw [step, show c + (d - c) = d by omega]
            exact d3
          · rw [z] at d3
            have two := live.symm.trans (slot_live R.lay.up d3)
            injection two with two
            rw [← two, hp] at h0
            exact kk ((congrArg Prod.snd (Option.some.inj h0)).trans k0)
      by_cases led : t.led = true
      · refine wp_if_neg (by simp [led]) ?_
        try refine wpAny_bind (wpAny_pure ?_)
        exact cont
      · refine wp_if_pos (by simp [led]) ?_
        refine wpAny_bind (seen_tup hx (fun y hy => ?_) (wp_if_neg (by decide) ?_))
        · obtain ⟨e, he, rfl⟩ := List.mem_map.mp hy
          have he2 : e ∈ es ∧ e.1 = thash P w k := by simpa using he
          have he3 : e ∈ rowsOf P w L := by
            rw [← R.ent]
            simpa using he2.1
          obtain ⟨p2, m2, rfl⟩ := List.mem_map.mp he3
          exact ⟨p2.2, p2.1, rfl, tup p2 m2⟩
        · try refine wpAny_bind (wpAny_pure ?_)
          exact cont
    · rw [last] at pr
      rw [show stand.getD (t.probeStart (thash P w k)) = pAt t.mask (thash P w k) c from st]
      rw [show t.probe (fun i => (es[i]?.map (·.1)).getD 0) (thash P w k) (pAt t.mask (thash P w k) c) = _ from pr]
      dsimp only
      refine wpAny_pure (no fun hm => ?_)
      obtain ⟨p0, m0, k0⟩ := List.mem_map.mp hm
      obtain ⟨i0, l0, e0⟩ := List.getElem_of_mem m0
      have h0 : L[i0]? = some p0 := (List.getElem?_eq_getElem l0).trans (congrArg some e0)
      obtain ⟨d, d1, d2, d3⟩ := left i0 p0 h0 k0
      refine before (d - c) i0 (by omega) ?_ ((hash i0 p0 h0).trans (congrArg (thash P w) k0))
      rw [step, show c + (d - c) = d by omega]
      exact d3
/-- the whole search -/
theorem big_search (R : BigO P w s.heap a L es ep t) (tup : ∀ p ∈ L, IsT P w s.heap p.2 p.1) {x : Addr} {k : List Int} (hx : IsT P w s.heap k x) (hu : A.units < cLine) (adding : Bool) {Q : SetFound → Shared → Prop}
    (yes : ∀ r, (adding = true → r = none) → (adding = false → r.isSome = true) → k ∈ L.map (·.2) → Q (.there r) s)
    (no : ∀ n, k ∉ L.map (·.2) → way t.mask (thash P w k) n ∉ t.place.toList → (∀ c, c < n → way t.mask (thash P w k) c ∈ t.place.toList) → Q (.free (way t.mask (thash P w k) n) false) s) :
    wpAny (model P w) A (setSearch a (.ref x) (thash P w k) adding) Q E s := by
  have g := R.gap
  obtain ⟨n, fuel, out, bef⟩ := R.lay.hole (by rw [List.length_map]; omega) (thash P w k)
  have big : n < 100000 := by
    have b := R.lay.wid.bounds.2.1
    unfold SetTable.turns at fuel
    omega
  unfold setSearch
  refine big_from R tup hx hu adding fuel out bef yes (fun nm => no n nm out bef) 100000 0 none rfl (Nat.zero_le _) (by omega) fun i p hp hk => ?_
  have hi : (hsh P w L)[i]? = some (thash P w k) := by
    refine (List.getElem?_map ..).trans ?_
    rw [hp, ← hk] <;> rfl
  have il : i < t.place.toList.length := by
    rw [Array.length_toList, R.many]
    exact (List.getElem?_eq_some_iff.mp hp).1
  obtain ⟨c, c1, c2⟩ := R.lay.ahead out hi (List.getElem?_eq_getElem il)
  exact ⟨c, Nat.zero_le c, c1, by rw [c2]; exact List.getElem?_eq_getElem il⟩
theorem BigO.typ (R : BigO P w s.heap a L es ep t) : s.TypeIs (.ref a) "set" := let ⟨o, ho, hex, _⟩ := R.obj; ⟨o, ho, hex.1⟩
/-- k in the set -/
theorem big_in (R : BigO P w s.heap a L es ep t) (tup : ∀ p ∈ L, IsT P w s.heap p.2 p.1) {x : Addr} {k : List Int} (hx : IsT P w s.heap k x) (hu : A.units + 64 < cLine) {Q : Value → Shared → Prop}
    (h : ∀ tk, Q (.bool (decide (k ∈ L.map (·.2)))) { s with toks := tk }) : wpAny (model P w) A (compareOp .In (.ref x) (.ref a)) Q E s := by
  show wpAny _ _ (do return .bool (← contains (.ref a) (.ref x))) Q E s
  refine wpAny_bind ?_
  unfold contains
  try with_reducible refine wpAny_holding ?_
  refine wpAny_bind (wpAny_specialOf R.typ F.slot_set_contains.lookup ?_)
  show wpAny _ _ (if (some (Value.builtin "set.__contains__") == some Value.none) = true then _ else _) _ E s
  rw [if_neg (by rw [beq_builtin_none]; exact Bool.false_ne_true)]
  refine wpAny_bind (wpAny_callSpecialUnlessNone?_slot (name := Str.ofString "__contains__") R.typ F.slot_set_contains
    (wpAny_call_entry F.slot_set_contains R.typ entry_set_contains ?_ (F.args_set_contains_2 _ _)))
  unfold Builtin.«frozenset.__contains__» Builtin.Frozenset.oneOther
  simp only [List.isEmpty_nil, bind_assoc]
  unfold Builtin.Frozenset.addrOf Builtin.Frozenset.withSetAsKey setContains
  refine wpAny_bind (wpAny_pure ?_)
  try dsimp only
  refine wpAny_bind (wpAny_pure ?_)
  try dsimp only
  refine wpAny_bind (wpAny_tryCatch ?_)
  refine wpAny_holding ?_
  refine wpAny_bind (wpAny_pyHash_tuple ?_ hx ?_)
  · show A.units + 1 < cLine
    omega
  have R2 : BigO P w ({ s with toks := s.toks + (k.length + 1) } : Shared).heap a L es ep t := R
  obtain ⟨o, ho, hex, hd⟩ := R2.obj
  have fin : ∀ r : Option Nat, r.isSome = decide (k ∈ L.map (·.2)) → wpAny (model P w) A (pure (Value.bool r.isSome)) (fun v s' => Q v s') E { s with toks := s.toks + (k.length + 1) } := fun r hr => by
    rw [hr]
    exact wpAny_pure (h _)
  refine wpAny_bind (Q := _) (m := setFind a (.ref x) (thash P w k)) ?_
  unfold setFind
  rw [show (100000 : Nat) = 99999 + 1 from rfl]
  unfold setFindIn
  refine wpAny_bind (wpAny_setState_of ho hd R2.fits ?_)
  dsimp only
  refine wp_if_neg (by simp [byScan, Value.scannable]) ?_
  try refine wpAny_bind (wpAny_pure ?_)
  refine wpAny_bind (big_search R2 tup hx (by show A.units + 1 < cLine; omega) false (fun r _ hr hm => ?_) (fun n nm out bef => ?_))
  · refine wpAny_pure ?_
    refine wpAny_pure ?_
    show wpAny _ _ (ret (Value.bool r.isSome)) _ _ _
    rw [hr rfl, ← decide_eq_true hm]
    exact wpAny_pure ⟨_, rfl, wpAny_truthy_bool (wpAny_pure (h _))⟩
  · refine wpAny_pure ?_
    refine wpAny_pure ?_
    show wpAny _ _ (ret (Value.bool (none : Option Nat).isSome)) _ _ _
    rw [show (none : Option Nat).isSome = decide (k ∈ L.map (·.2)) from (decide_eq_false nm).symm]
    exact wpAny_pure ⟨_, rfl, wpAny_truthy_bool (wpAny_pure (h _))⟩

theorem grow_size {n m : Nat} (wd : Wid m) (lt : n * 5 < m * 3) (ge : (n + 1) * 5 ≥ m * 3) (few : n + 1 < 4915) : ∃ M, SetTable.sizeAbove (SetTable.grown (n + 1)) = M + 1 ∧ Wid M ∧ (n + 1) * 5 < M * 3 ∧ M ≤ 8191 := by
  rcases wd with e | e | e | e | e | e
  · obtain rfl : n = 4 := by omega
    exact ⟨31, by decide +kernel, .inr (.inl rfl), by omega, by omega⟩
  · obtain rfl : n = 18 := by omega
    exact ⟨127, by decide +kernel, .inr (.inr (.inl rfl)), by omega, by omega⟩
  · obtain rfl : n = 76 := by omega
    exact ⟨511, by decide +kernel, .inr (.inr (.inr (.inl rfl))), by omega, by omega⟩
  · obtain rfl : n = 306 := by omega
    exact ⟨2047, by decide +kernel, .inr (.inr (.inr (.inr (.inl rfl)))), by omega, by omega⟩
  · obtain rfl : n = 1228 := by omega
    exact ⟨8191, by decide +kernel, .inr (.inr (.inr (.inr (.inr rfl)))), by omega, by omega⟩
  · omega
/-- the set's table laid out anew, larger -/
theorem big_relay {o : Obj} (ho : s.heap.get? a = some o) (hex : o.ExactSet) (hd : o.data = .set es ep t) (ent : es.toList = rowsOf P w L) (lay : Lay t (hsh P w L)) (le : L.length ≤ t.mask)
    (dif : (L.map (·.2)).Nodup) (pln : t.plain = true) (seq : w.params.followText "set-order" = true ∨ t.led = true) {wanted M : Nat}
    (hw : SetTable.sizeAbove wanted = M + 1) (wd : Wid M) (room : L.length * 5 < M * 3) {Q : Unit → Shared → Prop}
    (q : ∀ g L2 es2 ep2 t2, Heap.SameBut a s.heap g → BigO P w g a L2 es2 ep2 t2 → L2.Perm L → Q () { s with heap := g }) : wpAny (model P w) A (setRelay a wanted) Q E s := by
  have sz : es.size = L.length := rowsOf_len ent
  have many : t.place.size = L.length := lay.many.trans (List.length_map ..)
  have fits : t.fits es.size = true := by
    unfold SetTable.fits SetTable.fill
    rw [Bool.and_eq_true, beq_iff_eq, decide_eq_true_eq, lay.bare, many, sz]
    exact ⟨rfl, by show L.length + 0 ≤ _; omega⟩
  have bM := wd.bounds
  obtain ⟨t2, order, e, pm, lay2, em, el, ep2⟩ := wd.relaid t (hs := es.map (·.1)) (wanted := wanted) (by omega) (by rw [Array.size_map, sz]; omega)
  rw [Array.size_map, sz] at pm
  obtain ⟨L2, r1, r2, r3⟩ := order_rows L es order ent pm
  have lay3 : Lay t2 (hsh P w L2) := by
    show Lay t2 (L2.map fun p => thash P w p.2)
    rw [r3]
    exact lay2
  have sz2 : (order.filterMap (es[·]?)).size = es.size := by rw [rowsOf_len r1, r2.length_eq, sz]
  rw [setRelay_eq]
  refine wpAny_bind (wpAny_setState_of ho hd fits ?_)
  dsimp only
  refine wp_if_neg (by rw [hw, sizeLine_eq]; omega) ?_
  try refine wpAny_bind (wpAny_pure ?_)
  rw [e]
  dsimp only
  refine wpAny_bind (wp_if_neg (by rw [sz2]; simp) ?_)
  try refine wpAny_bind (wpAny_pure ?_)
  refine wpAny_pure ?_
  dsimp only
  refine wpAny_storeSet_of ho hd ?_ (by rw [sz2, sz, sizeLine_eq]; omega)
  refine q _ L2 (order.filterMap (es[·]?)) (ep + 1) t2 (Heap.SameBut.update ..) ?_ r2
  exact ⟨⟨_, store_at ho hd, ⟨hex.1, hex.2.1, hex.2.2⟩, rfl⟩, r1, lay3, (r2.map (·.2)).nodup_iff.mpr dif, ep2.trans pln, by rw [el]; exact seq, by rw [r2.length_eq, em]; exact room⟩
/-- one more tuple -/
theorem big_add (R : BigO P w s.heap a L es ep t) (tup : ∀ p ∈ L, IsT P w s.heap p.2 p.1) {x : Addr} {k : List Int} (hx : IsT P w s.heap k x) (hu : A.units < cLine) (few : L.length + 1 < 4915) {Q : Bool → Shared → Prop}
    (q : ∀ b g L2 es2 ep2 t2, Heap.SameBut a s.heap g → BigO P w g a L2 es2 ep2 t2 → (k ∈ L.map (·.2) → L2 = L) → (k ∉ L.map (·.2) → L2.Perm ((x, k) :: L)) → Q b { s with heap := g }) :
    wpAny (model P w) A (setAddHashed a (.ref x) (thash P w k)) Q E s := by
  obtain ⟨o, ho, hex, hd⟩ := R.obj
  have sz := R.size
  unfold setAddHashed
  refine wpAny_holding ?_
  rw [show (100000 : Nat) = 99999 + 1 from rfl, setAddHashedIn_succ]
  refine wpAny_bind (wpAny_setState_of ho hd R.fits ?_)
  dsimp only
  refine wp_if_neg (by simp [byScan, Value.scannable]) ?_
  try refine wpAny_bind (wpAny_pure ?_)
  refine wpAny_bind (big_search R tup hx hu true (fun r hr _ hm => ?_) fun n nm out bef => ?_)
  · dsimp only
    exact wpAny_pure (q false s.heap L es ep t (Heap.SameBut.refl a s.heap) R (fun _ => rfl) fun z => absurd hm z)
  dsimp only
  refine wpAny_bind (wpAny_setState_of ho hd R.fits ?_)
  dsimp only
  obtain ⟨le, lay1, fill1⟩ := R.lay.put out bef
  have m1 : (t.put (way t.mask (thash P w k) n)).1.mask = t.mask := rfl
  have p1 : (t.put (way t.mask (thash P w k) n)).1.plain = true := R.pln
  have l1 : w.params.followText "set-order" = true ∨ (t.put (way t.mask (thash P w k) n)).1.led = true := R.seq
  have at1 : (t.put (way t.mask (thash P w k) n)).2 = SetTable.below t.place (way t.mask (thash P w k) n) := rfl
  generalize hp1 : t.put (way t.mask (thash P w k) n) = pt at lay1 fill1 m1 p1 l1 at1 ⊢
  obtain ⟨t1, i⟩ := pt
  dsimp only at lay1 fill1 m1 p1 l1 at1 ⊢
  rw [← at1] at lay1
  first
    | (refine wpAny_bind ?_; refine wp_if_pos p1 ?_; refine hashBy_tup hx ?_)
    | refine wp_if_pos p1 (wpAny_bind (hashBy_tup hx ?_))
  simp only [if_true]
  have pm := put_perm L i (x, k)
  have ent1 : (SetTable.insertAt es i (thash P w k, Value.ref x)).toList = rowsOf P w (L.take i ++ (x, k) :: L.drop i) := by
    rw [SetTable.toList_insertAt, rows_put, R.ent]
  have lay2 : Lay t1 (hsh P w (L.take i ++ (x, k) :: L.drop i)) := by
    show Lay t1 ((L.take i ++ (x, k) :: L.drop i).map fun p => thash P w p.2)
    rw [List.map_append, List.map_cons, List.map_take, List.map_drop]
    exact lay1
  generalize SetTable.insertAt es i (thash P w k, Value.ref x) = es1 at ent1 ⊢
  generalize L.take i ++ (x, k) :: L.drop i = L1 at pm ent1 lay2
  have len1 : L1.length = L.length + 1 := pm.length_eq
  have sz1 : es1.size = L.length + 1 := (rowsOf_len ent1).trans len1
  have dif1 : (L1.map (·.2)).Nodup := (pm.map (·.2)).nodup_iff.mpr (by rw [List.map_cons]; exact List.nodup_cons.mpr ⟨nm, R.dif⟩)
  refine wpAny_bind (wpAny_storeSet_of ho hd ?_ (by rw [sz1, sizeLine_eq]; omega))
  have ho1 := store_at (es' := es1) (t' := t1) ho hd
  have sb : Heap.SameBut a s.heap (s.heap.update a (Obj.putSet es1 t1)) := Heap.SameBut.update ..
  generalize s.heap.update a (Obj.putSet es1 t1) = g1 at ho1 sb ⊢
  have gap := R.gap
  rw [List.length_map] at fill1
  by_cases full : t1.tooFull = true
  · have ge : (L.length + 1) * 5 ≥ t.mask * 3 := by
      have z := full
      unfold SetTable.tooFull at z
      rw [decide_eq_true_eq, fill1, m1] at z
      exact z
    obtain ⟨M, e1, e2, e3, e4⟩ := grow_size R.lay.wid gap ge few
    first
      | (refine wpAny_bind ?_; refine wp_if_pos (by simp [full]) ?_)
      | (refine wp_if_pos (by simp [full]) ?_; refine wpAny_bind ?_)
    rw [sz]
    refine big_relay (s := { s with heap := g1 }) ho1 ⟨hex.1, hex.2.1, hex.2.2⟩ rfl ent1 lay2 (by rw [len1, m1]; have := R.lay.wid.bounds; omega) dif1 p1 l1 e1 e2 (by rw [len1]; exact e3) fun g2 L2 es2 ep2 t2 sb2 R2 pm2 => ?_
    exact wpAny_pure (q true g2 L2 es2 ep2 t2 (sb.trans sb2) R2 (fun z => absurd z nm) fun _ => pm2.trans pm)
  · first
      | refine wp_if_neg (by simp [full]) ?_
      | (refine wpAny_bind ?_; refine wp_if_neg (by simp [full]) ?_; refine wpAny_pure ?_)
    refine wpAny_pure (q true g1 L1 es1 (ep + 1) t1 sb ⟨⟨_, ho1, ⟨hex.1, hex.2.1, hex.2.2⟩, rfl⟩, ent1, lay2, dif1, p1, l1, ?_⟩ (fun z => absurd z nm) fun _ => pm)
    have z := full
    unfold SetTable.tooFull at z
    rw [decide_eq_true_eq, fill1, m1] at z
    rw [len1, m1]
    omega
end
end L2

end
section
set_option maxRecDepth 100000
set_option maxHeartbeats 2000000
namespace L2
open PySem PySem.Spec PyProof.Rows
section
variable {P : Program} {w : World} {A : Around} {E : Value → Shared → Prop} {s : Shared}
variable {a : Addr} {L : List (Addr × List Int)} {es : Array (Int × Value)} {ep : Nat} {t : SetTable}
/-- the call that adds -/
theorem big_add_call (R : BigO P w s.heap a L es ep t) (tup : ∀ p ∈ L, IsT P w s.heap p.2 p.1) {x : Addr} {k : List Int} (hx : IsT P w s.heap k x) (hu : A.units + 64 < cLine) (few : L.length + 1 < 4915) {Q : Value → Shared → Prop}
    (h : ∀ g tk L2 es2 ep2 t2, Heap.SameBut a s.heap g → BigO P w g a L2 es2 ep2 t2 → (k ∈ L.map (·.2) → L2 = L) → (k ∉ L.map (·.2) → L2.Perm ((x, k) :: L)) → Q .none { s with heap := g, toks := tk }) :
    wpAny (model P w) A (call (.builtin "set.add") [.ref a, .ref x]) Q E s := by
  refine wpAny_call_entry F.slot_set_add R.typ F.entry_set_add ?_ (F.args_set_add_2 _ _)
  unfold Builtin.«set.add» Builtin.Frozenset.oneOther
  simp only [List.isEmpty_nil, bind_assoc]
  unfold Builtin.Frozenset.addrOf setAdd
  refine wpAny_bind (wpAny_pure ?_)
  try dsimp only
  refine wpAny_bind (wpAny_pure ?_)
  try dsimp only
  refine wpAny_bind (wpAny_holding (wpAny_bind (wpAny_pyHash_tuple (by show A.units + 1 < cLine; omega) hx ?_)))
  have R2 : BigO P w ({ s with toks := s.toks + (k.length + 1) } : Shared).heap a L es ep t := R
  refine big_add (s := { s with toks := s.toks + (k.length + 1) }) R2 tup hx (by show A.units + 1 < cLine; omega) few fun b g L2 es2 ep2 t2 sb R3 c1 c2 => ?_
  show wpAny _ _ (ret Value.none) _ _ _
  exact wpAny_pure ⟨_, rfl, h g _ L2 es2 ep2 t2 sb R3 c1 c2⟩
/-- the set() that was just made -/
theorem bigO_new {h : Heap} {a : Addr} (ho : h.get? a = some { cls := .type "set", dict := none, data := .set #[] 0 (.fresh 0 0 (!w.params.followText "set-order")) }) : BigO P w h a [] #[] 0 (.fresh 0 0 (!w.params.followText "set-order")) := by
  refine ⟨⟨_, ho, ⟨rfl, rfl, rfl⟩, rfl⟩, rfl, ⟨.inl rfl, .nil, rfl, rfl, (fun j hj => nomatch hj), (fun i g j h => nomatch h)⟩, .nil, rfl, ?_, by show 0 * 5 < 7 * 3; decide⟩
  show _ ∨ (!w.params.followText "set-order") = true
  cases w.params.followText "set-order"
  · exact .inr rfl
  · exact .inl rfl
end
section
/-- as an object of the heap -/
def BigSet (P : Program) (w : World) (h : Heap) (a : Addr) (L : List (Addr × List Int)) : Prop := ∃ es ep t, BigO P w h a L es ep t
def BigHO (P : Program) (w : World) (a : Addr) (L : List (Addr × List Int)) : HO := .ext fun h => BigSet P w h a L
theorem bigHO_new {P : Program} {w : World} {H : Hp} {h : Heap} {a : Addr} {L : List (Addr × List Int)} (R : BigSet P w h a L) : ObjOk P w H h a (BigHO P w a L) := by
  have ⟨es, ep, t, B⟩ := R
  have ⟨o, ho, _⟩ := B.obj
  refine ⟨R, ⟨o, ho⟩, fun h1 h2 p k => ?_⟩
  have ⟨es', ep', t', B'⟩ := (p : BigSet P w h1 a L)
  have ⟨o', ho', r'⟩ := B'.obj
  exact ⟨es', ep', t', ⟨⟨o', k o' ho', r'⟩, B'.ent, B'.lay, B'.dif, B'.pln, B'.seq, B'.gap⟩⟩
variable {X : Cx}
/-- a's set has the tuples L, and they are still there to be read -/
def HasB (K : PySem.W.Frag) (P : Program) (w : World) (H : Hp) (a : Addr) (L : List (Addr × List Int)) : Prop := H a = some (BigHO P w a L) ∧ ∀ p ∈ L, SqT K H p.1 (p.2.map V.int)
theorem HasB.get {pins : List (Addr × Obj)} {σ : St} {H : Hp} {s : Shared} {a : Addr} {L : List (Addr × List Int)} (I : Inv X pins σ H s) (h : HasB X.K X.prog X.w H a L) :
    (∃ es ep t, BigO X.prog X.w s.heap a L es ep t) ∧ ∀ p ∈ L, IsT X.prog X.w s.heap p.2 p.1 := ⟨(I.hok a _ h.1).1, fun p hp => I.isT (h.2 p hp)⟩
def rB0 (P : Program) (w : World) : List V → Hp → VK → Prop := fun vs H Q => vs = [] ∧ ∀ p, H p = none → Q (.ref p) (upd H p (BigHO P w p []))
theorem cr_b0 : CallR X (.type "set") (rB0 X.prog X.w) := by
  intro pins s σ H vs us Q I r h
  obtain ⟨rfl, q⟩ := h
  cases r
  refine setR_new fun _ => ?_
  have R := bigO_new (P := X.prog) (w := X.w) (h := s.heap.push { cls := .type "set", dict := none, data := .set #[] 0 (.fresh 0 0 (!X.w.params.followText "set-order")) }) (a := s.heap.objs.size) (Heap.get?_push_size _ rfl)
  exact ⟨.ref _, _, I.laid (t' := s.toks) (fun b u e => Heap.get?_push_of_some _ e) (Nat.le_refl _) (bigHO_new ⟨_, _, _, R⟩), rfl, q _ (I.hok.fresh (Nat.le_refl _))⟩
def rBIn (K : PySem.W.Frag) (P : Program) (w : World) : V → V → Hp → VK → Prop := fun x y H Q => ∃ (b a : Addr) (k : List Int) (L : List (Addr × List Int)), x = V.ref b ∧ y = V.ref a ∧ SqT K H b (k.map V.int) ∧ HasB K P w H a L ∧ Q (.bl (decide (k ∈ L.map (·.2)))) H
theorem or_bIn (hu : X.A.units + 64 < cLine) : OpR X (compareOp .In) (rBIn X.K X.prog X.w) := by
  intro pins s σ H x y v u Q I rx ry h
  obtain ⟨b, a, k, L, rfl, rfl, hb, ha, q⟩ := h
  cases rx
  cases ry
  obtain ⟨⟨es, ep, t, R⟩, tup⟩ := ha.get I
  exact big_in R tup (I.isT hb) hu fun tk => ⟨.bl _, H, I.tok _, rfl, q⟩
theorem bIn_ {K : PySem.W.Frag} (P : Program) (w : World) (hu : X.A.units + 64 < cLine) (hP : X.prog = P := by rfl) (hw : X.w = w := by rfl) (hK : X.K = K := by rfl) : OpR X (compareOp .In) (rBIn K P w) := by subst hK hP hw; exact or_bIn hu
def rBAdd (K : PySem.W.Frag) (P : Program) (w : World) : V → List V → Hp → VK → Prop := fun x vs H Q => ∃ (a b : Addr) (k : List Int) (L : List (Addr × List Int)), x = V.ref a ∧ vs = [V.ref b] ∧ SqT K H b (k.map V.int) ∧ HasB K P w H a L ∧ L.length + 1 < 4915 ∧
  (k ∈ L.map (·.2) → Q .non (upd H a (BigHO P w a L))) ∧ (k ∉ L.map (·.2) → ∀ L2, L2.Perm ((b, k) :: L) → Q .non (upd H a (BigHO P w a L2)))
theorem mt_bAdd (hu : X.A.units + 64 < cLine) : MtR X "set.add" (rBAdd X.K X.prog X.w) := by
  intro pins s σ H x vs v us Q I rx rxs h
  obtain ⟨a, b, k, L, rfl, rfl, hb, ha, few, q1, q2⟩ := h
  cases rx
  rw [Vals.ref1 rxs]
  obtain ⟨⟨es, ep, t, R⟩, tup⟩ := ha.get I
  refine big_add_call R tup (I.isT hb) hu few fun g tk L2 es2 ep2 t2 sb R2 c1 c2 => ?_
  obtain ⟨o2, ho2, _⟩ := R2.obj
  refine ⟨.non, _, I.write (e := a) (t' := tk) (by rw [ha.1]; trivial) (.inl rfl) (fun c u hc hu => (sb.2 c hc).trans hu) ⟨o2, ho2⟩ (bigHO_new ⟨_, _, _, R2⟩), rfl, ?_⟩
  by_cases m : k ∈ L.map (·.2)
  · rw [c1 m]
    exact q1 m
  · exact q2 m L2 (c2 m)
def tBAdd (K : PySem.W.Frag) (P : Program) (w : World) (to : TE) (t : TA) : TE := fun σ H Q => to σ H fun x H1 => (∃ a L, x = V.ref a ∧ H1 a = some (BigHO P w a L)) ∧ t σ H1 fun xs H2 => rBAdd K P w x xs H2 Q
variable {o e : Expr} {es : List Expr} {to : TE} {t : TA} {apos cpos : Pos}
theorem pe_bAdd (hu : X.A.units + 64 < cLine) (ho : PE X o to) (ha : PA X (e :: es) t)
    (late : attributeBase o "add" X.env (eval o X.env) = eval o X.env := by rfl)
    (less30 : ((backTo cpos (starEach (e :: es) X.env)).all (fun x => !x.1) && (backToKw cpos (keywordEach [] X.env)).all (fun x => x.1.isSome)
        && decide ((e :: es).length + ([] : List Keyword).length + (if ([] : List Keyword).isEmpty then 0 else 1) < 30)) = true := by rfl)
    (oneRow : (apos.endLine == cpos.line) = true := by rfl) (first1 : starEach (e :: es) X.env = (false, eval e X.env) :: starEach es X.env := by rfl)
    (noStar : (backTo cpos (starEach es X.env)).any (·.1) = false := by rfl) : PE X (.Call (.Attribute o "add" apos) (e :: es) [] cpos) (tBAdd X.K X.prog X.w to t) := by
  refine ⟨fun pins s σ H Q I h => ?_⟩
  refine wpAny_Call_method_late late less30 oneRow rfl (thn (ho.run pins s σ H _ I h) fun v s1 ⟨x, H1, I1, r1, ⟨a, L, ex, hka⟩, q1⟩ => ?_)
  subst ex
  obtain ⟨es0, ep0, t0, B⟩ := (show BigSet X.prog X.w s1.heap a L from (I1.hok a _ hka).1)
  obtain ⟨o0, ho0, hex0, _⟩ := B.obj
  cases r1
  refine ⟨"set", "set.add", F.plainAttrs_set, F.slot_set_add, F.type_set_add, ⟨o0, ho0, hex0.1⟩, fun b eb => ?_, ?_⟩
  · obtain rfl : a = b := by injection eb
    exact ⟨o0, ho0, by first | exact hex0.2.1 | exact hex0.2.2⟩
  have hA := ha.run cpos pins s1 σ H1 _ I1 q1
  rw [first1] at hA ⊢
  refine Calls.callWith_builtin (by show (false || (backTo cpos (starEach es X.env)).any (·.1)) = false; rw [noStar] <;> rfl) (Calls.evalArgs_plain ?_)
  exact thn hA fun us s2 ⟨vs, H2, I2, r2, q2⟩ => mt_bAdd hu pins s2 σ H2 (.ref a) vs (.ref a) us Q I2 rfl r2 q2
end
end L2

end
section
set_option maxRecDepth 100000
namespace L2
open PySem PySem.Spec PyProof.Rows
/-! ### a def of the text under its name: its promise, its level, how it is bound -/
structure Cal (P : Program) (w : World) (K : PySem.W.Frag) (mg : Str → Option Value) (base : Heap) (x : Str) (k : Nat) (sp : Sp) : Prop where
  ex : ∃ (f : Addr) (fd : FuncData) (ps : List Str), FnOk P w K mg base CX0 k f fd ps sp ∧ mg x = some (.ref f) ∧ PySem.W.keepIn K (.ref f) = true ∧ Binds K fd ps []
/-- a method of the class at C -/
structure MCal (P : Program) (w : World) (K : PySem.W.Frag) (mg : Str → Option Value) (base : Heap) (C : Addr) (m : Str) (k : Nat) (sp : Sp) : Prop where
  ex : ∃ (f : Addr) (fd : FuncData) (ps : List Str), FnOk P w K mg base CX0 k f fd ps sp ∧ Meth K C m f ∧ Binds K fd ps []
/-- the making of an instance of the class at C, named x; k: the level of its __init__ -/
structure NCal (P : Program) (w : World) (K : PySem.W.Frag) (mg : Str → Option Value) (base : Heap) (C : Addr) (x : Str) (k : Nat) (sp : Sp) : Prop where
  ex : ∃ (f : Addr) (fd : FuncData) (ps : List Str), FnOk P w K mg base CX0 k f fd ps sp ∧ Mk K C f ∧ Binds K fd ps []
  mg : mg x = some (.ref C)
section
variable {X : Cx} {e o : Expr} {es : List Expr} {t : TA} {ta : TE} {x m : Str} {k : Nat} {sp : Sp} {C : Addr} {p pos apos : Pos}
theorem tCall_nil {t : TA} {E : XK} {σ : St} {H : Hp} {Q : VK} (h : t σ H fun vs H1 => sp vs H1 Q E) : tCall sp [] E t σ H Q := by
  unfold tCall
  simpa only [List.append_nil] using h
def tCal (sp : Sp) (t : TA) : TE := fun σ H Q => t σ H fun vs H1 => sp vs H1 Q E0
def tMCal (C : Addr) (m : Str) (sp : Sp) (to : TE) (t : TA) : TE := fun σ H Q => to σ H fun x H1 => ∃ a dx fs, x = .ref a ∧ H1 a = some (.ins C dx fs) ∧ fs.lookup m = none ∧ t σ H1 fun vs H2 => sp (x :: vs) H2 Q E0
def tNCal (C : Addr) (sp : Sp) (t : TA) : TE := fun σ H Q => t σ H fun vs H1 => ∀ x dx, H1 x = none → H1 dx = none → dx ≠ x → sp (.ref x :: vs) (upd (upd H1 dx (.own x)) x (.ins C dx [])) (fun v H2 => v = .non ∧ Q (.ref x) H2) E0
theorem PE.to {t u : TE} (h : PE X e t) (le : ∀ σ H Q, u σ H Q → t σ H Q) : PE X e u := ⟨fun pins s σ H Q I q => h.run pins s σ H Q I (le σ H Q q)⟩
theorem pe_cal (c : Cal X.prog X.w X.K X.mg X.base x k sp) (hr : Room k X.A) (ha : PA X (e :: es) t) (hg : Gl X x := by rfl) (hdb : (x == ("__debug__" : Str)) = false := by decide)
    (he : starEach (e :: es) X.env = (false, eval e X.env) :: starEach es X.env := by rfl) (hpl : (backTo pos (starEach es X.env)).any (·.1) = false := by rfl) :
    PE X (.Call (.Name x p) (e :: es) [] pos) (tCal sp t) := by
  obtain ⟨f, fd, ps, F, hm, hk, hb⟩ := c.ex
  exact (pe_call F hr hg hm hk hb .nil pass0 ha hdb he hpl).to fun σ H Q q => tCall_nil q
theorem pe_cal0 (c : Cal X.prog X.w X.K X.mg X.base x k sp) (hr : Room k X.A) (hg : Gl X x := by rfl) (hdb : (x == ("__debug__" : Str)) = false := by decide) :
    PE X (.Call (.Name x p) [] [] pos) (tCal sp tNil) := by
  obtain ⟨f, fd, ps, F, hm, hk, hb⟩ := c.ex
  exact (pe_call0 F hr hg hm hk hb .nil pass0 hdb).to fun σ H Q q => tCall_nil q
theorem pe_ncal (c : NCal X.prog X.w X.K X.mg X.base C x k sp) (hr : Room (k + 1) X.A) (ha : PA X (e :: es) t) (hg : Gl X x := by rfl) (hdb : (x == ("__debug__" : Str)) = false := by decide)
    (he : starEach (e :: es) X.env = (false, eval e X.env) :: starEach es X.env := by rfl) (hpl : (backTo pos (starEach es X.env)).any (·.1) = false := by rfl) :
    PE X (.Call (.Name x p) (e :: es) [] pos) (tNCal C sp t) := by
  obtain ⟨f, fd, ps, F, M, hb⟩ := c.ex
  refine (pe_make M F hr hg c.mg hb .nil pass0 ha hdb he hpl).to fun σ H Q q => ?_
  unfold tNCal at q
  unfold tMake
  simpa only [List.append_nil] using q
theorem setL_ (K : PySem.W.Frag) (w : World) (hc : X.calm = true) (hK : X.K = K := by rfl) (hw : X.w = w := by rfl) : CallR X (.type "set") (rHuSetL K w) := by
  subst hK hw; exact hu_cr_setL hc
theorem sortedSet_ (w : World) (hc : X.calm = true) (hw : X.w = w := by rfl) : CallR X (.builtin "sorted") (rSortedSet w) := by
  subst hw; exact cr_sortedSet hc
section
variable (K : PySem.W.Frag)
theorem all_ (hc : X.calm = true) (hK : X.K = K := by rfl) : CallR X (.builtin "all") (rAll K) := by subst hK; exact cr_all hc
theorem any_ (hc : X.calm = true) (hK : X.K = K := by rfl) : CallR X (.builtin "any") (rAny K) := by subst hK; exact cr_any hc
theorem sum_ (hc : X.calm = true) (hK : X.K = K := by rfl) : CallR X (.builtin "sum") (rSum K) := by subst hK; exact cr_sum hc
theorem min_ (hc : X.calm = true) (hK : X.K = K := by rfl) : CallR X (.builtin "min") (rMin K) := by subst hK; exact cr_min hc
theorem sortedI_ (hK : X.K = K := by rfl) : CallR X (.builtin "sorted") (rSortedI K) := by subst hK; exact cr_sortedI
theorem sortedPO_ (hK : X.K = K := by rfl) : CallR X (.builtin "sorted") (rSortedPO K) := by subst hK; exact cr_sortedPO
theorem isi_ (hK : X.K = K := by rfl) : CallR X (.builtin "isinstance") (rIsi K) := by subst hK; exact call_isi
theorem inS_ (hK : X.K = K := by rfl) : OpR X (compareOp .In) (rIn K false) := by subst hK; exact op_in_seq
theorem ninS_ (hK : X.K = K := by rfl) : OpR X (compareOp .NotIn) (rIn K true) := by subst hK; exact op_notIn_seq
theorem ixL_ (hK : X.K = K := by rfl) : IxR X (rIxL K) := by subst hK; exact ix_list
theorem ixT_ (hK : X.K = K := by rfl) : IxR X (rIxT K) := by subst hK; exact ix_tup
theorem slL_ (hK : X.K = K := by rfl) : SlR X (rSlL K) := by subst hK; exact sl_list
theorem slT_ (hK : X.K = K := by rfl) : SlR X (rSlT K) := by subst hK; exact sl_tup
theorem catT_ (hK : X.K = K := by rfl) : OpR X (binaryOp .Add) (rCatT K) := by subst hK; exact op_catT
theorem catA_ (hK : X.K = K := by rfl) : OpR X (binaryOp .Add) (rCatA K) := by subst hK; exact op_catA
theorem eqD_ (hu : X.A.units + 64 < cLine) (hK : X.K = K := by rfl) : OpR X (compareOp .Eq) (rEqD K) := by subst hK; exact op_eqD hu
theorem neD_ (hu : X.A.units + 64 < cLine) (hK : X.K = K := by rfl) : OpR X (compareOp .NotEq) (rNeD K) := by subst hK; exact op_neD hu
def rLenS (K : PySem.W.Frag) : List V → Hp → VK → Prop := fun xs H Q => ∃ p ys, xs = [.ref p] ∧ (SqL K H p ys ∨ SqT K H p ys) ∧ Q (.int ys.length) H
theorem lenS_ (hK : X.K = K := by rfl) : CallR X (.builtin "len") (rLenS K) := by subst hK; exact call_len_seq
def rLstOf (K : PySem.W.Frag) : List V → Hp → VK → Prop := fun xs H Q => ∃ p ys, xs = [.ref p] ∧ (SqL K H p ys ∨ SqT K H p ys) ∧ ∀ l, H l = none → Q (.ref l) (upd H l (.lst ys))
theorem lstOf_ (hK : X.K = K := by rfl) : CallR X (.type "list") (rLstOf K) := by subst hK; exact call_list_of
def rTupOf (K : PySem.W.Frag) : List V → Hp → VK → Prop := fun xs H Q => ∃ p ys, xs = [.ref p] ∧ ((SqL K H p ys ∧ ∀ l, H l = none → Q (.ref l) (upd H l (.tup ys))) ∨ (SqT K H p ys ∧ Q (.ref p) H))
theorem tupOf_ (hK : X.K = K := by rfl) : CallR X (.type "tuple") (rTupOf K) := by subst hK; exact call_tuple_of
theorem inT_ (P : Program) (w : World) (hu : X.A.units + 64 < cLine) (hP : X.prog = P := by rfl) (hw : X.w = w := by rfl) (hK : X.K = K := by rfl) : OpR X (compareOp .In) (rHuInT K P w) := by subst hK hP hw; exact hu_or_inT hu
theorem fld_ {f : Str} (he : PE X e ta) (hb : attributeBase e f X.env (eval e X.env) = eval e X.env := by rfl) (hK : X.K = K := by rfl) : PE X (.Attribute e f pos) (tFld K ta f) := by subst hK; exact pe_fld he hb
theorem cval_ {f : Str} (he : PE X e ta) (hb : attributeBase e f X.env (eval e X.env) = eval e X.env := by rfl) (hK : X.K = K := by rfl) : PE X (.Attribute e f pos) (ClX.tCVal K ta f) := by subst hK; exact ClX.pe_cval he hb
theorem pil_ {tg l : Expr} {tl : TE} (hl : PE X l tl) (hK : X.K = K := by rfl) : PI X tg l (iList K tl) := by subst hK; exact pi_list hl
theorem pit_ {tg l : Expr} {tl : TE} (hl : PE X l tl) (hK : X.K = K := by rfl) : PI X tg l (iTup K tl) := by subst hK; exact pi_tup hl
theorem star_ {te : TE} (he : PE X e te) (hr : PA X es t) (hK : X.K = K := by rfl) : PA X (.Starred e p :: es) (StX.tStar K te t) := by subst hK; exact StX.pa_star he hr
theorem revL_ {te : TE} {j : Nat} {p1 p2 p3 : Pos} (he : PE X e te) (hK : X.K = K := by rfl) : PE X (.Subscript e (.Slice none none (some (.UnaryOp .USub (.Constant (.int 1) j p1) p2)) p3) pos) (tRevL K te) := by subst hK; exact pe_revL he
def tTru (K : PySem.W.Frag) (ta : TE) : TT := fun σ H Q => ta σ H fun x H' => ∃ k, TruV K x H' k ∧ Q k H'
theorem truth_ (he : PE X e ta) (hh : ∀ whole, isTrue e X.env whole = (do let v ← whole; standAt e.pos; holding [v] (truthy v)) := by intro _; rfl) (hK : X.K = K := by rfl) : PT X e (tTru K ta) := by subst hK; exact pt_truth he hh
end
end
theorem b_len : bootBuiltins ("len" : Str) = some (.builtin "len") := by decide +kernel
theorem b_abs : bootBuiltins ("abs" : Str) = some (.builtin "abs") := by decide +kernel
theorem b_min : bootBuiltins ("min" : Str) = some (.builtin "min") := by decide +kernel
theorem b_max : bootBuiltins ("max" : Str) = some (.builtin "max") := by decide +kernel
theorem b_all : bootBuiltins ("all" : Str) = some (.builtin "all") := by decide +kernel
theorem b_any : bootBuiltins ("any" : Str) = some (.builtin "any") := by decide +kernel
theorem b_sum : bootBuiltins ("sum" : Str) = some (.builtin "sum") := by decide +kernel
theorem b_sorted : bootBuiltins ("sorted" : Str) = some (.builtin "sorted") := by decide +kernel
theorem b_isinstance : bootBuiltins ("isinstance" : Str) = some (.builtin "isinstance") := by decide +kernel
theorem b_int : bootBuiltins ("int" : Str) = some (.type "int") := by decide +kernel
theorem b_bool : bootBuiltins ("bool" : Str) = some (.type "bool") := by decide +kernel
theorem b_tuple : bootBuiltins ("tuple" : Str) = some (.type "tuple") := by decide +kernel
theorem b_list : bootBuiltins ("list" : Str) = some (.type "list") := by decide +kernel
theorem b_set : bootBuiltins ("set" : Str) = some (.type "set") := by decide +kernel
theorem b_range : bootBuiltins ("range" : Str) = some (.type "range") := by decide +kernel
theorem b_str : bootBuiltins ("str" : Str) = some (.type "str") := by decide +kernel
end L2

end
section
set_option maxRecDepth 100000
namespace Hue
open PySem PySem.Spec PyProof.Rows L2
/-! ### heaps -/
theorem same_new {H : Hp} {p : Addr} {o : HO} (h : H p = Option.none) : Same H (upd H p o) := fun b u e => by
  rw [upd_ne (ne_of_none e h)]; exact e
theorem same_upd {H0 H : Hp} {p : Addr} {o : HO} (s : Same H0 H) (h : H0 p = Option.none) : Same H0 (upd H p o) := fun b u e => by
  rw [upd_ne (ne_of_none e h)]; exact s b u e
theorem same_then {H0 H : Hp} {p : Addr} {o : HO} (s : Same H0 H) (h : H p = Option.none) : Same H0 (upd H p o) := s.trans (same_new h)
theorem Same.tup {K : PySem.W.Frag} {H H' : Hp} {a : Addr} {xs : List V} (e : Same H H') (h : SqT K H a xs) : SqT K H' a xs := by
  rcases h with (h | ⟨o, h⟩) | h
  · exact .inl (.inl (e _ _ h))
  · exact .inl (.inr ⟨o, e _ _ h⟩)
  · exact .inr h
theorem ifT {c : Bool} {A B : Prop} (hc : c = true) (h : A) : if c = true then A else B := by rw [if_pos hc]; exact h
theorem ifF {c : Bool} {A B : Prop} (hc : c = false) (h : B) : if c = true then A else B := by rw [hc, if_neg Bool.false_ne_true]; exact h
theorem yesT {σ : L2.St} {H : Hp} {X Y : Hp → Prop} (h : X H) : tYes σ H (fun b H3 => if b = true then X H3 else Y H3) := h
/-! ### lists of numbers -/
def nI (l : List Nat) : List Int := l.map fun k : Nat => (k : Int)
def nL (l : List Nat) : List V := (nI l).map V.int
theorem nL_get {l : List Nat} {i k : Nat} (h : l[i]? = some k) : (nL l)[i]? = some (V.int (k : Int)) := by
  unfold nL nI; simp [List.getElem?_map, h]
theorem nL_len (l : List Nat) : (nL l).length = l.length := by unfold nL nI; simp
theorem nI_len (l : List Nat) : (nI l).length = l.length := by unfold nI; simp
theorem mem_nI {l : List Nat} {z : Int} : z ∈ nI l ↔ ∃ k, k ∈ l ∧ (k : Int) = z := by unfold nI; simp
theorem nL_app (a b : List Nat) : nL (a ++ b) = nL a ++ nL b := by unfold nL nI; simp
theorem nL_one (k : Nat) : nL [k] = [V.int (k : Int)] := rfl
theorem asc_ext : ∀ {a b : List Int}, a.Pairwise (· < ·) → b.Pairwise (· < ·) → (∀ k, k ∈ a ↔ k ∈ b) → a = b
  | [], [], _, _, _ => rfl
  | [], y :: b, _, _, h => absurd ((h y).mpr List.mem_cons_self) List.not_mem_nil
  | x :: a, [], _, _, h => absurd ((h x).mp List.mem_cons_self) List.not_mem_nil
  | x :: a, y :: b, ha, hb, h => by
    rw [List.pairwise_cons] at ha hb
    have exy : x = y := by
      rcases List.mem_cons.mp ((h x).mp List.mem_cons_self) with e | e
      · exact e
      · rcases List.mem_cons.mp ((h y).mpr List.mem_cons_self) with f | f
        · exact f.symm
        · have h1 := hb.1 x e
          have h2 := ha.1 y f
          omega
    subst exy
    rw [asc_ext ha.2 hb.2 fun k => ⟨fun hk => ?_, fun hk => ?_⟩]
    · rcases List.mem_cons.mp ((h k).mp (List.mem_cons_of_mem _ hk)) with e | e
      · have := ha.1 k hk; omega
      · exact e
    · rcases List.mem_cons.mp ((h k).mpr (List.mem_cons_of_mem _ hk)) with e | e
      · have := hb.1 k hk; omega
      · exact e
/-! ### relations on lamps -/
abbrev Rel := Nat → Nat → Bool
def Bel (n : Nat) (R : Rel) (i : Nat) : List Nat := (List.range n).filter fun j => R i j
theorem mem_Bel {n : Nat} {R : Rel} {i j : Nat} : j ∈ Bel n R i ↔ j < n ∧ R i j = true := by unfold Bel; simp
theorem Bel_asc (n : Nat) (R : Rel) (i : Nat) : (nI (Bel n R i)).Pairwise (· < ·) := by
  unfold nI
  rw [List.pairwise_map]
  have h : (List.range n).Pairwise (· < ·) := List.pairwise_lt_range
  refine List.Pairwise.imp ?_ (List.Pairwise.filter _ h)
  intro a b hab; omega
theorem Bel_len (n : Nat) (R : Rel) (i : Nat) : (Bel n R i).length ≤ n := by
  unfold Bel
  refine Nat.le_trans (List.length_filter_le ..) ?_
  rw [List.length_range]; exact Nat.le_refl _
theorem Bel_congr {n : Nat} {R S : Rel} {i : Nat} (h : ∀ j, j < n → R i j = S i j) : Bel n R i = Bel n S i := by
  unfold Bel
  refine List.filter_congr fun j hj => ?_
  exact h j (List.mem_range.mp hj)
def addW (R : Rel) (u l : Nat) : Rel := fun i j => R i j || ((i == u || R i u) && (j == l || R l j))
/-- at b: a list of lists of numbers -/
def Rows (H : Hp) (b : Addr) (rows : List (List Nat)) : Prop :=
  ∃ as : List Addr, H b = some (.lst (as.map V.ref)) ∧ as.length = rows.length ∧ ∀ (i : Nat) a r, as[i]? = some a → rows[i]? = some r → H a = some (.lst (nL r))
theorem Rows.same {H H' : Hp} {b : Addr} {rows : List (List Nat)} (h : Rows H b rows) (s : Same H H') : Rows H' b rows := by
  obtain ⟨as, h1, h2, h3⟩ := h
  exact ⟨as, s _ _ h1, h2, fun i a r ha hr => s _ _ (h3 i a r ha hr)⟩
/-- the row at i, as Python reads it -/
theorem Rows.at {H : Hp} {b : Addr} {rows : List (List Nat)} (h : Rows H b rows) {i : Nat} {r : List Nat} (hr : rows[i]? = some r) : ∃ xs a, H b = some (.lst xs) ∧ xs.length = rows.length ∧ xs[i]? = some (V.ref a) ∧ H a = some (.lst (nL r)) := by
  obtain ⟨as, h1, h2, h3⟩ := h
  have hi : i < as.length := by rw [h2]; exact (List.getElem?_eq_some_iff.mp hr).1
  refine ⟨_, as[i], h1, by rw [List.length_map, h2], by rw [List.getElem?_map, List.getElem?_eq_getElem hi]; rfl, h3 i _ r (List.getElem?_eq_getElem hi) hr⟩
def relRows (n : Nat) (R : Rel) : List (List Nat) := (List.range n).map (Bel n R)
theorem relRows_at {n : Nat} {R : Rel} {i : Nat} (h : i < n) : (relRows n R)[i]? = some (Bel n R i) := by
  unfold relRows; rw [List.getElem?_map, List.getElem?_range h]; rfl
theorem relRows_len (n : Nat) (R : Rel) : (relRows n R).length = n := by unfold relRows; simp
theorem flat_nL (l : List Nat) : (nL l).all flatV = true := by
  unfold nL; rw [List.all_eq_true]; intro x hx
  obtain ⟨z, _, rfl⟩ := List.mem_map.mp hx
  rfl
theorem in_nL {k : Nat} {l : List Nat} : inV (V.int (k : Int)) (nL l) = decide (k ∈ l) := by
  unfold inV nL nI
  rw [Bool.eq_iff_iff, List.any_eq_true, decide_eq_true_eq]
  constructor
  · rintro ⟨x, hx, e⟩
    obtain ⟨z, hz, rfl⟩ := List.mem_map.mp hx
    obtain ⟨m, hm, rfl⟩ := List.mem_map.mp hz
    have e2 : ((m : Int) == (k : Int)) = true := e
    have e3 : (m : Int) = (k : Int) := by simpa using e2
    have e4 : m = k := by omega
    rw [← e4]; exact hm
  · intro hk
    refine ⟨V.int k, List.mem_map.mpr ⟨k, List.mem_map.mpr ⟨k, hk, rfl⟩, rfl⟩, ?_⟩
    show ((k : Int) == (k : Int)) = true
    simp
theorem Rows.ext {H : Hp} {b e : Addr} {rows : List (List Nat)} {φ : Heap → Prop} {o : HO} (h : Rows H b rows) (he : H e = some (.ext φ)) : Rows (upd H e o) b rows := by
  obtain ⟨as, h1, h2, h3⟩ := h
  refine ⟨as, ?_, h2, fun i a r ha hr => ?_⟩
  · rw [upd_ne (ne_of h1 he (by intro z; cases z))]; exact h1
  · rw [upd_ne (ne_of (h3 i a r ha hr) he (by intro z; cases z))]; exact h3 i a r ha hr
/-- the tuples at ts are the pairs ps -/
def Pairs (H : Hp) (ts : List Addr) (ps : List (Nat × Nat)) : Prop :=
  ts.length = ps.length ∧ ∀ (i : Nat) t p, ts[i]? = some t → ps[i]? = some p → H t = some (.tup [.int (p.1 : Int), .int (p.2 : Int)])
theorem Pairs.same {H H' : Hp} {ts : List Addr} {ps : List (Nat × Nat)} (h : Pairs H ts ps) (s : Same H H') : Pairs H' ts ps := ⟨h.1, fun i t p a b => s _ _ (h.2 i t p a b)⟩
def relOf (ps : List (Nat × Nat)) : Rel := ps.foldl (fun R p => addW R p.1 p.2) fun _ _ => false
theorem relOf_more {ps : List (Nat × Nat)} {i : Nat} {p : Nat × Nat} (h : ps[i]? = some p) : relOf (ps.take (i + 1)) = addW (relOf (ps.take i)) p.1 p.2 := by
  unfold relOf
  rw [List.take_add_one, h, List.foldl_append]
  rfl
/-- along a rank the relation goes up -/
theorem relOf_rank {ρ : Nat → Nat} : ∀ {ps : List (Nat × Nat)}, (∀ p ∈ ps, ρ p.1 < ρ p.2) → ∀ i j, relOf ps i j = true → ρ i < ρ j := by
  have key : ∀ (ps : List (Nat × Nat)) (R : Rel), (∀ i j, R i j = true → ρ i < ρ j) → (∀ p ∈ ps, ρ p.1 < ρ p.2) → ∀ i j, ps.foldl (fun R p => addW R p.1 p.2) R i j = true → ρ i < ρ j := by
    intro ps
    induction ps with
    | nil => intro R hR _; exact hR
    | cons p ps ih =>
      intro R hR hp
      refine ih (addW R p.1 p.2) (fun i j h => ?_) fun q hq => hp q (List.mem_cons_of_mem _ hq)
      have hp0 := hp p List.mem_cons_self
      unfold addW at h
      rw [Bool.or_eq_true, Bool.and_eq_true, Bool.or_eq_true, Bool.or_eq_true, beq_iff_eq, beq_iff_eq] at h
      rcases h with h | ⟨h1, h2⟩
      · exact hR i j h
      · have a1 : ρ i ≤ ρ p.1 := by
          rcases h1 with e | e
          · rw [e]; exact Nat.le_refl _
          · exact Nat.le_of_lt (hR _ _ e)
        have a2 : ρ p.2 ≤ ρ j := by
          rcases h2 with e | e
          · rw [e]; exact Nat.le_refl _
          · exact Nat.le_of_lt (hR _ _ e)
        omega
  intro ps hp i j h
  exact key ps _ (fun i j h => by cases h) hp i j h
theorem mem_take_of {α : Type} {l : List α} {n : Nat} {x : α} (h : x ∈ l.take n) : x ∈ l := List.mem_of_mem_take h
/-! ### lists that a comprehension collects -/
def Coll (H1 : Hp) (D : Addr) (f : Nat → List V) (i : Nat) (H2 : Hp) : Prop :=
  ∃ as : List Addr, H2 D = some (.lst (as.map V.ref)) ∧ as.length = i ∧ Same H1 H2 ∧ ∀ (j : Nat) a, as[j]? = some a → a ≠ D ∧ H2 a = some (.lst (f j))
theorem Coll.start {H1 : Hp} {D : Addr} {f : Nat → List V} (hD : H1 D = Option.none) : Coll H1 D f 0 (upd H1 D (.lst [])) := ⟨[], upd_same, rfl, same_new hD, fun j a e => by simp at e⟩
theorem Coll.more {H1 H2 H3 : Hp} {D a : Addr} {f : Nat → List V} {i : Nat} (c : Coll H1 D f i H2) (hD : H1 D = Option.none) (s : Same H2 H3) (na : a ≠ D) (ha : H3 a = some (.lst (f i))) (hi : i < 1000) :
    ∃ acc, H3 D = some (.lst acc) ∧ acc.length < sizeLine ∧ Coll H1 D f (i + 1) (upd H3 D (.lst (acc ++ [V.ref a]))) := by
  obtain ⟨as, h1, h2, s2, h3⟩ := c
  refine ⟨_, s _ _ h1, by rw [List.length_map, h2, sizeLine_eq]; omega, as ++ [a], by rw [upd_same, List.map_append]; rfl, by rw [List.length_append, h2]; rfl, same_upd (s2.trans s) hD, fun j c2 e => ?_⟩
  rcases Nat.lt_or_ge j as.length with lt | ge
  · rw [List.getElem?_append_left lt] at e
    obtain ⟨n1, n2⟩ := h3 j c2 e
    exact ⟨n1, by rw [upd_ne n1]; exact s _ _ n2⟩
  · rw [List.getElem?_append_right ge] at e
    have j0 : j - as.length = 0 := by
      rcases Nat.eq_zero_or_pos (j - as.length) with z | z
      · exact z
      · rw [List.getElem?_eq_none (by rw [List.length_singleton]; exact z)] at e; cases e
    rw [j0] at e
    cases e
    have ji : j = i := by omega
    rw [ji]
    exact ⟨na, by rw [upd_ne na]; exact ha⟩
theorem Coll.same {H1 H2 : Hp} {D : Addr} {f : Nat → List V} {i : Nat} (c : Coll H1 D f i H2) : Same H1 H2 := let ⟨_, _, _, s, _⟩ := c; s
theorem Coll.rows {H1 H2 : Hp} {D : Addr} {n : Nat} {R : Rel} (c : Coll H1 D (fun j => nL (Bel n R j)) n H2) : Rows H2 D (relRows n R) := by
  obtain ⟨as, h1, h2, _, h3⟩ := c
  refine ⟨as, h1, by rw [h2, relRows_len], fun i a r ha hr => ?_⟩
  have hi : i < n := by rw [← h2]; exact (List.getElem?_eq_some_iff.mp ha).1
  rw [relRows_at hi] at hr
  cases hr
  exact (h3 i a ha).2
/-! ### all but one place as it was -/
def SB (x : Addr) (H H' : Hp) : Prop := ∀ b o, b ≠ x → H b = some o → H' b = some o
theorem SB.of {x : Addr} {H H' : Hp} (s : Same H H') : SB x H H' := fun b o _ e => s b o e
theorem SB.trans {x : Addr} {H H1 H2 : Hp} (a : SB x H H1) (b : SB x H1 H2) : SB x H H2 := fun c o n e => b c o n (a c o n e)
theorem SB.refl (x : Addr) (H : Hp) : SB x H H := fun _ _ _ e => e
theorem SB.upd {x : Addr} {H H1 : Hp} {o : HO} (a : SB x H H1) : SB x H (upd H1 x o) := fun c u n e => by rw [upd_ne n]; exact a c u n e
theorem SB.rows {x b : Addr} {H H' : Hp} {rows : List (List Nat)} {C dx : Addr} {fs : List (Str × V)} (s : SB x H H') (hx : H x = some (.ins C dx fs)) (h : Rows H b rows) : Rows H' b rows := by
  obtain ⟨as, h1, h2, h3⟩ := h
  exact ⟨as, s _ _ (ne_of h1 hx (by intro z; cases z)) h1, h2, fun i a r ha hr => s _ _ (ne_of (h3 i a r ha hr) hx (by intro z; cases z)) (h3 i a r ha hr)⟩
theorem lk_same (f : Str) (v : V) (fs : List (Str × V)) : (putF f v fs).lookup f = some v := by rw [lookup_putF, if_pos rfl]
theorem lk_ne {f g : Str} (v : V) (fs : List (Str × V)) (h : ¬ g = f) : (putF f v fs).lookup g = fs.lookup g := by rw [lookup_putF, if_neg h]
theorem put_few {f : Str} {v : V} {fs : List (Str × V)} {k : Nat} (h : fs.length ≤ k) : (putF f v fs).length ≤ k + 1 := by
  have := length_putF f v fs; omega
/-! ### a def with defaults, all parameters given -/
structure FunV (K : PySem.W.Frag) (x qual : Str) (st : Stmt) (f : Addr) (fd : FuncData) : Prop where
  ex : ∃ (oc : Value) (od : Option Addr) (dV kV doc pm : Value) (an : Option Addr) (cdv ct : Value) (osl : Array (Option Value)),
    fd = PySem.W.fnOf x qual (defArgs st) (defBody st) (defScope st) dV kV doc pm an cdv ct ∧ K.lookup f = some ⟨oc, od, .func fd, osl⟩ ∧ PySem.W.codeIn K cdv qual = true
  kp : PySem.W.keepIn K (.ref f) = true
theorem FunV.ok {P : Program} {w : World} {K : PySem.W.Frag} {mg : Str → Option Value} {base : Heap} {x qual : Str} {st : Stmt} {f : Addr} {fd : FuncData} {N ps : List Str} {k : Nat} {sp : Sp} (F : FunV K x qual st f fd) (S : FnScope N ps (defScope st)) (len : ∀ vs H Q E, sp vs H Q E → vs.length = ps.length)
    (hbody : ∀ (cdv : Value) (A : Around) (outer : List Env) (s : Shared) (H : Hp) (vs : List V) (Q : VK) (E : XK), Room k (A.deeper (envOfC qual (defScope st) s.heap.objs.size f cdv)) → sp vs H Q E →
      ∃ t, PSs (cxOf CX0 P w K mg base N qual (defScope st) f cdv A outer s H E).nox (defBody st) t ∧ t { nx := fun _ H' => Q .non H', rt := Q } (start N vs) H) : FnOk P w K mg base CX0 (k + 1) f fd ps sp := by
  obtain ⟨oc, od, dV, kV, doc, pm, an, cdv, ct, osl, rfl, lk, hcd⟩ := F.ex
  refine fn_of lk hcd S len fun A outer s H vs Q E hr hsp => ?_
  obtain ⟨t, h, q⟩ := hbody cdv A outer s H vs Q E hr hsp
  exact ⟨t, h.nox, q⟩
/-- a store into a list by place -/
theorem set_at {H : Hp} {p : Addr} {xs : List V} {k : Int} {j : Nat} {v : V} {Q : Hp → Prop} (hp : H p = some (.lst xs)) (hk : ixN xs.length k = some j)
    (h : ∀ H', SB p H H' → H' p = some (.lst (xs.set j v)) → Q H') : rSetL (.ref p) (.int k) v H Q := ⟨p, xs, k, j, rfl, rfl, hp, hk, h _ (SB.upd (SB.refl p H)) upd_same⟩
theorem ixN_nat {n k : Nat} (h : k < n) : ixN n (k : Int) = some k := by
  unfold ixN
  rw [if_pos (by omega), if_pos (by omega), Int.toNat_natCast]
theorem SB.to_same {x : Addr} {H0 H H' : Hp} (s : SB x H H') (s0 : Same H0 H) (n : H0 x = Option.none) : Same H0 H' := fun b o e => s b o (fun z => by rw [z, n] at e; cases e) (s0 b o e)
end Hue

end
section
set_option maxRecDepth 100000
set_option maxHeartbeats 2000000
namespace L2
open PySem PySem.Spec PyProof.Rows
/-! ### enumerate(t), t a tuple -/
theorem eT_new {v : Value} {o : Obj} {G : Heap → Prop} (B : Begins v o G) :
    Meets (Builtin.«enumerate.__new__» ⟨[.type "enumerate", v], []⟩) (fun _ R s => G s.heap ∧
      R (.ok (.ret (.ref (s.heap.push o).objs.size))) { s with heap := (s.heap.push o).push { cls := .type "enumerate", data := .fields #[.none, .bool false, .ref s.heap.objs.size, rawInt 0, .none, .none] } }) :=
  .of_wp fun prog w A R s h => by
    obtain ⟨hp, g, d, tk, os⟩ := s
    obtain ⟨h1, h⟩ := h
    have hsub := sub_enumerate
    have q1 : ∀ {A' : Around} {E : Value → Shared → Prop} {Q : Value → Shared → Prop}, Q (.ref hp.objs.size) ⟨hp.push o, g, d, tk, os⟩ → wpAny (model prog w) A' (pyIter v) Q E ⟨hp, g, d, tk, os⟩ :=
      fun q => B.iter prog w _ _ ⟨hp, g, d, tk, os⟩ _ h1 q
    wp_walk using q1
    refine wpAny_stack_any fun st => wpAny_pure ?_
    split
    · rename_i c _ _ _ _ _
      cases (c == Value.type "enumerate")
      · wp_walk using q1
        exact ⟨_, rfl, h⟩
      · wp_walk using q1
        exact ⟨_, rfl, h⟩
    · wp_walk using q1
      exact ⟨_, rfl, h⟩
section
variable {prog : Program} {w : World} {A : Around} {E : Value → Shared → Prop} {s : Shared}
theorem eT_call {v : Value} {o : Obj} {G : Heap → Prop} {Q : Value → Shared → Prop} (B : Begins v o G) (h1 : G s.heap)
    (h : ∀ h', IsEnum h' (s.heap.objs.size + 1) s.heap.objs.size 0 .none → h'.get? s.heap.objs.size = some o → (∀ b o, s.heap.get? b = some o → h'.get? b = some o) → Q (.ref (s.heap.objs.size + 1)) { s with heap := h' }) :
    wpAny (model prog w) A (call (.type "enumerate") [v]) Q E s := by
  refine callType_new F.called_enumerate (by decide) (F.typeCall_enumerate_1 _) (F.newCall_enumerate_1 _) (fun obj => F.args_object_init_2 obj _) F.entry_enumerate_new (eT_new B) ⟨h1, ?_⟩
  have sz : (s.heap.push o).objs.size = s.heap.objs.size + 1 := Heap.size_push ..
  show _ ∧ _
  rw [sz]
  have new : IsEnum ((s.heap.push o).push { cls := .type "enumerate", data := .fields #[.none, .bool false, .ref s.heap.objs.size, rawInt 0, .none, .none] }) (s.heap.objs.size + 1) s.heap.objs.size 0 .none := by
    have z := Heap.get?_push_size (s.heap.push o) (o := { cls := .type "enumerate", data := .fields #[.none, .bool false, .ref s.heap.objs.size, rawInt 0, .none, .none] }) rfl
    rw [sz] at z
    exact z
  exact ⟨⟨_, new, rfl⟩, h _ new (Heap.get?_push_of_some _ (Heap.get?_push_size _ B.free)) fun b o x => Heap.get?_push_of_some _ (Heap.get?_push_of_some _ x)⟩
end
/-- the turns of enumerate(t), t the tuple at a -/
def IteT (K : PySem.W.Frag) (a : Addr) (n : Nat) : It :=
  ⟨fun i H => i < n ∧ ∃ (xs : List V) (x : V), SqT K H a xs ∧ xs[i]? = some x, fun i H v H' => ∃ T x, v = .ref T ∧ H T = none ∧ H' = upd H T (.tup [.int (i : Nat), x]) ∧ ∀ xs, SqT K H a xs → xs[i]? = some x, fun i H => n ≤ i ∧ ∃ xs : List V, SqT K H a xs ∧ xs.length = n⟩
theorem turn_enumT {P : Program} {w : World} {K : PySem.W.Frag} {elts : List Expr} {kk : Nat} {tpos : Pos} (a e it : Addr) (n : Nat) :
    Turn P w K (.Tuple elts kk tpos) (IteT K a n) [e, it] e (fun i h => i ≤ n ∧ (∃ old, IsEnum h e it ((i : Nat) : Int) old) ∧ h.IsTupleIter it a i ∧ e ≠ it ∧ a ≠ it) where
  mem := by simp
  obj := fun i h st b hb => by
    obtain ⟨_, ⟨old, he⟩, ⟨o, ho, hc, hd⟩, _⟩ := st
    rcases (show b = e ∨ b = it by simpa using hb) with z | z
    · rw [z]; exact ⟨_, he, fun v q => nomatch q⟩
    · rw [z]; exact ⟨o, ho, fun v q => by rw [hd] at q; cases q⟩
  keep := fun i h h' st k => by
    obtain ⟨le, ⟨old, he⟩, ⟨o, ho, r⟩, n1, n2⟩ := st
    exact ⟨le, ⟨old, k e (by simp) _ he⟩, ⟨o, k it (by simp) o ho, r⟩, n1, n2⟩
  item := by
    intro X hP hw hK hc i pins s σ H E I hf st hg
    subst hP hw hK
    obtain ⟨le, ⟨old, he⟩, hit, hne, nai⟩ := st
    obtain ⟨ltn, xs, x, hq, hx⟩ := hg
    obtain ⟨its, rv, p, hz⟩ := I.tuple hq
    obtain ⟨u, hu, ru⟩ := rv.get hx
    have hel : e < s.heap.objs.size := Heap.lt_size he
    have hil : it < s.heap.objs.size := by obtain ⟨_, q, _⟩ := hit; exact Heap.lt_size q
    have nea : e ≠ a := fun z => by
      obtain ⟨o, ho, hcl, _⟩ := p
      have he2 := he
      rw [z] at he2
      have q := ho.symm.trans he2
      cases q
      exact absurd (Value.type.inj hcl) (by decide)
    have iu : i < its.toArray.size := by
      have z := (List.getElem?_eq_some_iff.mp hu).1
      simpa using z
    refine wpAny_pyNext_enum_itemD (Draws.tuple (A := X.A.in1) (I.ok.hd hc) it a nai its.toArray) he ⟨hit, p⟩ iu hne (by simp [hne, nea]) fun v h' tk hv ho st' hT hsz hk => ?_
    have ev : v = u := by
      have hv' : its.toArray[i]? = some v := hv
      have hu' : its.toArray[i]? = some u := by simpa using hu
      rw [hu'] at hv'
      exact (Option.some.inj hv').symm
    subst ev
    refine ⟨_, rfl, wpAny_letOwnedTupleGo_enum (s := { s with heap := h', toks := tk + 1 }) ho fun h'' he' sb => ?_⟩
    have hT2 : h''.get? s.heap.objs.size = some { cls := .type "tuple", data := .seq #[.int i tk, v] } := (sb.2 _ (Nat.ne_of_gt hel)).trans hT
    have new : ObjOk X.prog X.w (upd H s.heap.objs.size (.tup [.int (i : Nat), x])) h'' s.heap.objs.size (.tup [.int (i : Nat), x]) :=
      ⟨by show 2 ≤ sizeLine; decide, [.int i tk, v], .cons ⟨_, rfl⟩ (.cons ru .nil), ⟨_, hT2, rfl, _, rfl⟩⟩
    have I1 : Inv X pins σ (upd H s.heap.objs.size (.tup [.int (i : Nat), x])) { s with heap := h'', toks := tk + 1 } :=
      I.turnedNew (ch := [e, it]) (fun b ob hb q => (sb.2 b (fun z => hb (by simp [z]))).trans (hk b ob (fun z => hb (by simp [z])) (fun z => hb (by simp [z])) q)) hf (Nat.le_refl _) new
    refine ⟨.ref s.heap.objs.size, _, I1, rfl, ⟨_, x, rfl, I.hok.fresh (Nat.le_refl _), rfl, fun ys hy => by rw [I.tuple_inj hy hq]; exact hx⟩, ⟨ltn, ⟨v, ?_⟩, ?_, hne, nai⟩, fun b hb => ?_⟩
    · have e1 : ((i + 1 : Nat) : Int) = (i : Int) + 1 := by omega
      rw [e1]; exact he'
    · obtain ⟨o, ho2, r⟩ := st'.1
      exact ⟨o, (sb.2 it (Ne.symm hne)).trans ho2, r⟩
    · have lt : b < s.heap.objs.size := by
        rcases (show b = e ∨ b = it by simpa using hb) with z | z
        · rw [z]; exact hel
        · rw [z]; exact hil
      rw [upd_ne (Nat.ne_of_lt lt)]
      exact (hf b hb).1
  done := by
    intro X hP hw hK hc i pins s σ H E I hf st hg
    subst hP hw hK
    obtain ⟨le, ⟨old, he⟩, hit, hne, nai⟩ := st
    obtain ⟨gen, xs, hq, hx⟩ := hg
    obtain ⟨its, rv, p, hz⟩ := I.tuple hq
    obtain ⟨f0, f1, f2, f3, f4, f5⟩ := hf it (by simp)
    have ei : i = its.toArray.size := by
      rw [List.size_toArray, ← rv.length]
      omega
    rw [ei] at hit
    exact wpAny_pyNext_enum_endD (Draws.tuple (A := X.A.in1) (I.ok.hd hc) it a nai its.toArray) he ⟨hit, p⟩ fun h' eb => ⟨rfl, I.turned (t' := s.toks) (fun b o hb q => eb b o hb q) f0 f1 f3 f4 f5⟩
  self := fun A i s Q E st h => let ⟨_, ⟨_, he⟩, _⟩ := st; wpAny_pyIter_enum he h
/-- enumerate(x), x a list or a tuple -/
def iEnumA (K : PySem.W.Frag) (ta : TA) : TI := fun σ H R => ta σ H fun vs H1 => ∃ a xs, vs = [.ref a] ∧ ((SqL K H1 a xs ∧ R (Ite K a) H1) ∨ (SqT K H1 a xs ∧ R (IteT K a xs.length) H1))
theorem pi_enumA {X : Cx} {e : Expr} {ta : TA} {p pos tpos : Pos} {elts : List Expr} {kk : Nat} (hg : Gl X "enumerate") (hm : X.mg "enumerate" = none) (ha : PA X [e] ta) (hs : starEach [e] X.env = [(false, eval e X.env)] := by rfl) :
    PI X (.Tuple elts kk tpos) (.Call (.Name "enumerate" p) [e] [] pos) (iEnumA X.K ta) := by
  refine ⟨fun pins s σ H R I h => ?_⟩
  refine Call_ (ld_blt I hg hm boot_enumerate (PyProof.Rows.callWith_type1 (thn (ha.run pos pins s σ H _ I h) fun us s1 ⟨vs, H1, I1, r1, q1⟩ => ?_) hs rfl))
  obtain ⟨a, xs, ex, q⟩ := q1
  subst ex
  cases r1 with
  | cons r rr =>
    cases rr
    cases r
    have fp : ∀ b ∈ [s1.heap.objs.size + 1, s1.heap.objs.size], s1.heap.objs.size ≤ b := fun b hb => by
      rcases (show b = s1.heap.objs.size + 1 ∨ b = s1.heap.objs.size by simpa using hb) with z | z
      · rw [z]; exact Nat.le_succ _
      · rw [z]; exact Nat.le_refl _
    rcases q with ⟨hq, q⟩ | ⟨hq, q⟩
    · obtain ⟨its, rv, p', hz⟩ := I1.list hq
      refine eT_call (begins_list a its.toArray) p'.isList fun h' he hit hk => wpAny_pyIter_enum he ?_
      exact ⟨_, _, _, _, H1, rfl, I1.kept (t' := s1.toks) hk, turn_enum a (s1.heap.objs.size + 1) s1.heap.objs.size, ⟨⟨.none, he⟩, ⟨_, hit, rfl, rfl⟩, Nat.succ_ne_self _⟩, fun b hb => I1.fpOk (fp b hb) (I1.hok.fresh (fp b hb)), q⟩
    · obtain ⟨its, rv, p', hz⟩ := I1.tuple hq
      have lt : a < s1.heap.objs.size := let ⟨_, ho, _⟩ := p'; Heap.lt_size ho
      refine eT_call (begins_tuple a its.toArray) p' fun h' he hit hk => wpAny_pyIter_enum he ?_
      exact ⟨_, _, _, _, H1, rfl, I1.kept (t' := s1.toks) hk, turn_enumT a (s1.heap.objs.size + 1) s1.heap.objs.size xs.length, ⟨Nat.zero_le _, ⟨.none, he⟩, ⟨_, hit, rfl, rfl⟩, Nat.succ_ne_self _, Nat.ne_of_lt lt⟩, fun b hb => I1.fpOk (fp b hb) (I1.hok.fresh (fp b hb)), q⟩
theorem walk_enumT {K : PySem.W.Frag} {a : Addr} {xs : List V} : Walk (IteT K a xs.length) xs.length (fun H => SqT K H a xs) (YPair (fun i => some (.int (i : Nat))) (fun i => xs[i]?)) := by
  refine ⟨fun i _ hi q => ⟨hi, xs, xs[i], q, by simp [hi]⟩, fun _ q => ⟨Nat.le_refl _, xs, q, rfl⟩, fun i H v H' _ q y => ?_⟩
  obtain ⟨T, x, h1, h2, h3, h4⟩ := y
  exact ⟨T, .int (i : Nat), x, h1, h2, h3, rfl, h4 xs q⟩
end L2

end
section
set_option maxRecDepth 100000
set_option maxHeartbeats 2000000
namespace Srt
open PySem PySem.W PySem.Calls PyProof.Rows
section
variable {prog : Program} {w : World} {A : Around} {E : Value → Shared → Prop} {s : Shared}
/-- sorted(x), x a list or a tuple of pairs of ints -/
theorem hu_sorted_seq {l : Addr} {T : String} {o : Obj} {items : Array Value} {n : Nat} {Q : Value → Shared → Prop} (hT : T = "list" ∨ T = "tuple") (ho : s.heap.get? l = some o) (hc : o.cls = .type T) (hd : o.data = .seq items n) (hz : items.size ≤ sizeLine)
    (hp : ∀ v ∈ items.toList, ∃ x y, IsPair s.heap v x y)
    (h : ∀ (h1 h' : Heap) (d : Addr) (out : List Value), out.Perm items.toList → (∀ b o, s.heap.get? b = some o → h1.get? b = some o) → (∀ b o, h1.get? b = some o → h'.get? b = some o) → h1.objs.size ≤ d → (∃ n, h'.get? d = some (seqObj "list" out.toArray n)) → Q (.ref d) { s with heap := h' }) :
    wpAny (model prog w) A (call (.builtin "sorted") [.ref l]) Q E s := by
  have hz' : items.toList.length ≤ sizeLine := hz
  refine Calls.call_function_entry kind_sorted plain_sorted entry_sorted (args_sorted1 _) ?_
  unfold Builtin.«sorted»
  refine wpAny_bind (m := checkCount "sorted" 1 1 _) (wpAny_pure ?_)
  refine wpAny_bind (wpAny_collect_seq l hT ho hc hd (fun h1 k1 => ?_) hz)
  refine wpAny_bind (wpAny_newList ?_ hz')
  have hoL : (h1.push (seqObj "list" items.toList.toArray 0)).get? h1.objs.size = some (seqObj "list" items.toList.toArray 0) := Heap.get?_push_size _ rfl
  have keep : ∀ b o, h1.get? b = some o → b < h1.objs.size ∧ (h1.push (seqObj "list" items.toList.toArray 0)).get? b = some o := fun b o e => ⟨Heap.lt_size e, Heap.get?_push_of_some _ e⟩
  refine wpAny_bind (wpAny_holding (wpAny_call_entry slot_list_sort ⟨_, hoL, rfl⟩ entry_list_sort (list_sort_any (s := { s with heap := h1.push (seqObj "list" items.toList.toArray 0) }) hoL hz' (fun h2 => ?_) fun out pm => ⟨_, rfl, ?_⟩) (args_list_sort _)))
  · refine pairs_sortable (s := { s with heap := h1.push (seqObj "list" items.toList.toArray 0) }) (by omega) (fun v hm => ?_) fun o e => ?_
    · obtain ⟨x, y, p⟩ := hp v hm
      exact ⟨x, y, p.keeps fun b o e _ => (keep b o (k1 b o e)).2⟩
    · have e' : some o = some (seqObj "list" items.toList.toArray 0) := e.symm.trans hoL
      cases e'
      intro c
      exact absurd (Value.type.inj c) (by decide)
  · refine wpAny_pure ⟨_, rfl, h h1 _ h1.objs.size out pm k1 (fun b o e => ?_) (Nat.le_refl _) (sortedHeap_at hoL)⟩
    obtain ⟨lt, e2⟩ := keep b o e
    rw [sortedHeap_old (Nat.ne_of_lt lt) (by rw [size_push']; exact Nat.lt_succ_of_lt lt)]
    exact e2
end
end Srt

namespace L2
open PySem PySem.Spec PyProof.Rows
section
variable {X : Cx}
/-- sorted(x), x a list or a tuple of pairs of ints -/
def rSortPA (K : PySem.W.Frag) : List V → Hp → VK → Prop := fun vs H Q => ∃ a xs, vs = [V.ref a] ∧ (SqL K H a xs ∨ SqT K H a xs) ∧ (∀ x ∈ xs, ∃ t i j, x = V.ref t ∧ H t = some (.tup [.int i, .int j])) ∧ ∀ ys p, ys.Perm xs → H p = none → Q (.ref p) (upd H p (.lst ys))
theorem cr_sortPA : CallR X (.builtin "sorted") (rSortPA X.K) := by
  intro pins s σ H vs us Q I r h
  obtain ⟨a, xs, rfl, hs, hx, q⟩ := h
  obtain ⟨T, its, o, n, hT, rv, ho, hc, hd, hz⟩ : ∃ (T : String) (its : List Value) (o : Obj) (n : Nat), (T = "list" ∨ T = "tuple") ∧ Vals xs its ∧ s.heap.get? a = some o ∧ o.cls = .type T ∧ o.data = .seq its.toArray n ∧ xs.length ≤ sizeLine := by
    rcases hs with hs | hs
    · obtain ⟨its, rv, hl, hz⟩ := I.list hs
      obtain ⟨o, ho, hc, n, hd⟩ := hl.isList
      exact ⟨"list", its, o, n, .inl rfl, rv, ho, hc, hd, hz⟩
    · obtain ⟨its, rv, ⟨o, ho, hc, n, hd⟩, hz⟩ := I.tuple hs
      exact ⟨"tuple", its, o, n, .inr rfl, rv, ho, hc, hd, hz⟩
  obtain ⟨u, rfl, ru⟩ := vals1 r
  obtain rfl : u = Value.ref a := ru
  obtain ⟨e1, e2⟩ := bkV_refs rv fun x m => by
    obtain ⟨t, _, _, e, _⟩ := hx x m
    exact ⟨t, e⟩
  refine Srt.hu_sorted_seq hT ho hc hd (by rw [List.size_toArray, ← rv.length]; exact hz) (fun v hv => ?_) fun h1 h' d out hp k1 k2 hd' hn => ?_
  · obtain ⟨t, rfl⟩ := e2 v hv
    have hm : V.ref t ∈ xs := by rw [e1]; exact List.mem_map.mpr ⟨_, hv, rfl⟩
    obtain ⟨t', i, j, e, ht⟩ := hx _ hm
    cases e
    obtain ⟨_, its2, r2, o2, ho2, hc2, n2, hd2⟩ := I.hok _ _ ht
    obtain ⟨u1, u2, rfl, ri, rj⟩ := vals2 r2
    obtain ⟨t1, rfl⟩ := ri
    obtain ⟨t2, rfl⟩ := rj
    exact ⟨i, j, t, o2, t1, t2, n2, rfl, ho2, hc2, hd2⟩
  · have h3 : ∀ u ∈ out, ∃ a, u = Value.ref a := fun u hu => e2 u (hp.mem_iff.mp hu)
    obtain ⟨n, hn⟩ := hn
    have I1 : Inv X pins σ H { s with heap := h1 } := I.kept (t' := s.toks) k1
    refine ⟨.ref d, upd H d (.lst (out.map bkV)), I1.laid (t' := s.toks) k2 hd' ⟨?_, out, n, bkV_vals h3, hn⟩, rfl, q _ d ?_ (I1.hok.fresh hd')⟩
    · rw [List.length_map, hp.length_eq]
      show its.length ≤ sizeLine
      rw [← rv.length]; exact hz
    · rw [e1]
      exact hp.map bkV
end
end L2

end
section
set_option maxRecDepth 100000
set_option maxHeartbeats 2000000
namespace Srt
open PySem PySem.W PySem.Calls PyProof.Rows
section
variable {prog : Program} {w : World} {A : Around} {E : Value → Shared → Prop} {s : Shared}
/-- sorted(x), x a list or a tuple of pairs of ints: in order -/
theorem hu_sorted_ord {l : Addr} {T : String} {o : Obj} {items : Array Value} {n : Nat} {Q : Value → Shared → Prop} {k : Value → Int × Int} (hT : T = "list" ∨ T = "tuple") (ho : s.heap.get? l = some o) (hc : o.cls = .type T) (hd : o.data = .seq items n) (hz : items.size ≤ sizeLine)
    (hp : ∀ v ∈ items.toList, IsPair s.heap v (k v).1 (k v).2)
    (h : ∀ (h1 h' : Heap) (d : Addr) (out : List Value), out.Perm items.toList → SrtO.Srtd (fun v u => SrtO.lexB (k v) (k u)) out → (∀ b o, s.heap.get? b = some o → h1.get? b = some o) → (∀ b o, h1.get? b = some o → h'.get? b = some o) → h1.objs.size ≤ d → (∃ n, h'.get? d = some (seqObj "list" out.toArray n)) → Q (.ref d) { s with heap := h' }) :
    wpAny (model prog w) A (call (.builtin "sorted") [.ref l]) Q E s := by
  have hz' : items.toList.length ≤ sizeLine := hz
  refine Calls.call_function_entry kind_sorted plain_sorted entry_sorted (args_sorted1 _) ?_
  unfold Builtin.«sorted»
  refine wpAny_bind (m := checkCount "sorted" 1 1 _) (wpAny_pure ?_)
  refine wpAny_bind (wpAny_collect_seq l hT ho hc hd (fun h1 k1 => ?_) hz)
  refine wpAny_bind (wpAny_newList ?_ hz')
  have hoL : (h1.push (seqObj "list" items.toList.toArray 0)).get? h1.objs.size = some (seqObj "list" items.toList.toArray 0) := Heap.get?_push_size _ rfl
  have keep : ∀ b o, h1.get? b = some o → b < h1.objs.size ∧ (h1.push (seqObj "list" items.toList.toArray 0)).get? b = some o := fun b o e => ⟨Heap.lt_size e, Heap.get?_push_of_some _ e⟩
  refine wpAny_bind (wpAny_holding (wpAny_call_entry slot_list_sort ⟨_, hoL, rfl⟩ entry_list_sort (SrtO.list_sort_ord (s := { s with heap := h1.push (seqObj "list" items.toList.toArray 0) }) (SrtO.swo_lex k) hoL hz' (fun h2 => ?_) fun out so pm => ⟨_, rfl, ?_⟩) (args_list_sort _)))
  · refine SrtO.pairs_sortableO (s := { s with heap := h1.push (seqObj "list" items.toList.toArray 0) }) (by omega) (fun v hm => ?_) fun o e => ?_
    · exact (hp v hm).keeps fun b o e _ => (keep b o (k1 b o e)).2
    · have e' : some o = some (seqObj "list" items.toList.toArray 0) := e.symm.trans hoL
      cases e'
      intro c
      exact absurd (Value.type.inj c) (by decide)
  · refine wpAny_pure ⟨_, rfl, h h1 _ h1.objs.size out pm.perm so k1 (fun b o e => ?_) (Nat.le_refl _) (sortedHeap_at hoL)⟩
    obtain ⟨lt, e2⟩ := keep b o e
    rw [sortedHeap_old (Nat.ne_of_lt lt) (by rw [size_push']; exact Nat.lt_succ_of_lt lt)]
    exact e2
end
end Srt

namespace L2
open PySem PySem.Spec PyProof.Rows
section
variable {X : Cx}
/-- sorted(x), x a list or a tuple of pairs of ints: in order -/
def rSortPS (K : PySem.W.Frag) : List V → Hp → VK → Prop := fun vs H Q => ∃ (a : Addr) (xs : List V) (k : V → Int × Int), vs = [V.ref a] ∧ (SqL K H a xs ∨ SqT K H a xs) ∧ (∀ x ∈ xs, ∃ t, x = V.ref t ∧ H t = some (.tup [.int (k x).1, .int (k x).2])) ∧
  ∀ ys p, ys.Perm xs → (ys.Pairwise fun x y => ¬ ((k y).1 < (k x).1 ∨ ((k y).1 = (k x).1 ∧ (k y).2 < (k x).2))) → H p = none → Q (.ref p) (upd H p (.lst ys))
theorem cr_sortPS : CallR X (.builtin "sorted") (rSortPS X.K) := by
  intro pins s σ H vs us Q I r h
  obtain ⟨a, xs, k, rfl, hs, hx, q⟩ := h
  obtain ⟨T, its, o, n, hT, rv, ho, hc, hd, hz⟩ : ∃ (T : String) (its : List Value) (o : Obj) (n : Nat), (T = "list" ∨ T = "tuple") ∧ Vals xs its ∧ s.heap.get? a = some o ∧ o.cls = .type T ∧ o.data = .seq its.toArray n ∧ xs.length ≤ sizeLine := by
    rcases hs with hs | hs
    · obtain ⟨its, rv, hl, hz⟩ := I.list hs
      obtain ⟨o, ho, hc, n, hd⟩ := hl.isList
      exact ⟨"list", its, o, n, .inl rfl, rv, ho, hc, hd, hz⟩
    · obtain ⟨its, rv, ⟨o, ho, hc, n, hd⟩, hz⟩ := I.tuple hs
      exact ⟨"tuple", its, o, n, .inr rfl, rv, ho, hc, hd, hz⟩
  obtain ⟨u, rfl, ru⟩ := vals1 r
  obtain rfl : u = Value.ref a := ru
  obtain ⟨e1, e2⟩ := bkV_refs rv fun x m => by
    obtain ⟨t, e, _⟩ := hx x m
    exact ⟨t, e⟩
  refine Srt.hu_sorted_ord (k := fun u => k (bkV u)) hT ho hc hd (by rw [List.size_toArray, ← rv.length]; exact hz) (fun v hv => ?_) fun h1 h' d out hp so k1 k2 hd' hn => ?_
  · obtain ⟨t, rfl⟩ := e2 v hv
    have hm : V.ref t ∈ xs := by rw [e1]; exact List.mem_map.mpr ⟨_, hv, rfl⟩
    obtain ⟨t', e, ht⟩ := hx _ hm
    cases e
    obtain ⟨_, its2, r2, o2, ho2, hc2, n2, hd2⟩ := I.hok _ _ ht
    obtain ⟨u1, u2, rfl, ri, rj⟩ := vals2 r2
    obtain ⟨t1, rfl⟩ := ri
    obtain ⟨t2, rfl⟩ := rj
    exact ⟨t, o2, t1, t2, n2, rfl, ho2, hc2, hd2⟩
  · have h3 : ∀ u ∈ out, ∃ a, u = Value.ref a := fun u hu => e2 u (hp.mem_iff.mp hu)
    obtain ⟨n, hn⟩ := hn
    have I1 : Inv X pins σ H { s with heap := h1 } := I.kept (t' := s.toks) k1
    refine ⟨.ref d, upd H d (.lst (out.map bkV)), I1.laid (t' := s.toks) k2 hd' ⟨?_, out, n, bkV_vals h3, hn⟩, rfl, q _ d ?_ ?_ (I1.hok.fresh hd')⟩
    · rw [List.length_map, hp.length_eq]
      show its.length ≤ sizeLine
      rw [← rv.length]; exact hz
    · rw [e1]
      exact hp.map bkV
    · rw [List.pairwise_map]
      exact so.imp fun z => SrtO.lexB_no.mp z
theorem sortPS_ (K : PySem.W.Frag) (hK : X.K = K := by rfl) : CallR X (.builtin "sorted") (rSortPS K) := by subst hK; exact cr_sortPS
/-! ### is, of two bools -/
theorem op_isB : OpR X (compareOp .Is) (fun x y H Q => ∃ b c : Bool, x = .bl b ∧ y = .bl c ∧ Q (.bl (decide (b = c))) H) := by
  intro pins s σ H x y v u Q I rx ry h
  obtain ⟨b, c, rfl, rfl, q⟩ := h
  cases rx
  cases ry
  show wpAny _ _ ((isSame (Value.bool b) (Value.bool c)) >>= fun z => pure (Value.bool z)) _ _ s
  exact wpAny_bind (wpAny_isSame_plain (by cases b <;> cases c <;> rfl) (wpAny_pure (fin_bl I q (by cases b <;> cases c <;> rfl))))
theorem op_notB : OpR X (compareOp .IsNot) (fun x y H Q => ∃ b c : Bool, x = .bl b ∧ y = .bl c ∧ Q (.bl (!decide (b = c))) H) := by
  intro pins s σ H x y v u Q I rx ry h
  obtain ⟨b, c, rfl, rfl, q⟩ := h
  cases rx
  cases ry
  show wpAny _ _ ((isSame (Value.bool b) (Value.bool c)) >>= fun z => pure (Value.bool (!z))) _ _ s
  exact wpAny_bind (wpAny_isSame_plain (by cases b <;> cases c <;> rfl) (wpAny_pure (fin_bl I q (by cases b <;> cases c <;> rfl))))
end
end L2

end
section
set_option maxRecDepth 100000
namespace L2
open PySem PySem.Spec PyProof.Rows
/-! ### a list or a tuple -/
def SqA (K : PySem.W.Frag) (H : Hp) (a : Addr) (xs : List V) : Prop := SqL K H a xs ∨ SqT K H a xs
section
variable {X : Cx} {K : PySem.W.Frag}
/-- all of H0 stands in H -/
def Same0 (H0 H : Hp) : Prop := ∀ b o, H0 b = some o → H b = some o
theorem Same0.sqL {H H' : Hp} {a : Addr} {xs : List V} (e : Same0 H H') (h : SqL K H a xs) : SqL K H' a xs := by
  rcases h with (h | ⟨o, h⟩) | h
  · exact .inl (.inl (e _ _ h))
  · exact .inl (.inr ⟨o, e _ _ h⟩)
  · exact .inr h
theorem Same0.sqT {H H' : Hp} {a : Addr} {xs : List V} (e : Same0 H H') (h : SqT K H a xs) : SqT K H' a xs := by
  rcases h with (h | ⟨o, h⟩) | h
  · exact .inl (.inl (e _ _ h))
  · exact .inl (.inr ⟨o, e _ _ h⟩)
  · exact .inr h
theorem SqA.same {H H' : Hp} {a : Addr} {xs : List V} (h : SqA K H a xs) (e : Same0 H H') : SqA K H' a xs := h.imp (Same0.sqL e) (Same0.sqT e)
/-- also where an instance changes -/
theorem SqA.sb {H H' : Hp} {a x C dx : Addr} {fs : List (Str × V)} {xs : List V} (h : SqA K H a xs) (hx : H x = some (.ins C dx fs)) (s : ∀ b o, b ≠ x → H b = some o → H' b = some o) : SqA K H' a xs := by
  rcases h with ((h | ⟨o, h⟩) | h) | ((h | ⟨o, h⟩) | h)
  · exact .inl (.inl (.inl (s _ _ (ne_of h hx (by intro z; cases z)) h)))
  · exact .inl (.inl (.inr ⟨o, s _ _ (ne_of h hx (by intro z; cases z)) h⟩))
  · exact .inl (.inr h)
  · exact .inr (.inl (.inl (s _ _ (ne_of h hx (by intro z; cases z)) h)))
  · exact .inr (.inl (.inr ⟨o, s _ _ (ne_of h hx (by intro z; cases z)) h⟩))
  · exact .inr (.inr h)
theorem piA_ (K : PySem.W.Frag) {e : Expr} {ta : TA} {p pos tpos : Pos} {elts : List Expr} {kk : Nat} (hg : Gl X "enumerate") (hm : X.mg "enumerate" = none) (ha : PA X [e] ta) (hs : starEach [e] X.env = [(false, eval e X.env)] := by rfl) (hK : X.K = K := by rfl) :
    PI X (.Tuple elts kk tpos) (.Call (.Name "enumerate" p) [e] [] pos) (iEnumA K ta) := by subst hK; exact pi_enumA hg hm ha hs
theorem sortPA_ (K : PySem.W.Frag) (hK : X.K = K := by rfl) : CallR X (.builtin "sorted") (rSortPA K) := by subst hK; exact cr_sortPA
/-- for i, x in enumerate(a list or a tuple) -/
theorem for_enumA {a : Addr} {xs : List V} {g : TG} {tb : TS} {D : Ends} {σ : L2.St} {H H0 : Hp} (sa : SqA K H0 a xs) (s0 : Same0 H0 H) (Pv : Nat → L2.St → Hp → Prop) (h0 : Pv 0 σ H) (keep : ∀ i σ H, i ≤ xs.length → Pv i σ H → Same0 H0 H)
    (hs : ∀ i x σ H H', i < xs.length → Pv i σ H → YPair (fun i => some (.int (i : Nat))) (fun i => xs[i]?) i H x H' → g x σ H' fun σ2 H2 => tb { D with nx := Pv (i + 1), ct := Pv (i + 1), bk := D.nx } σ2 H2) (hd : ∀ σ H, Pv xs.length σ H → D.nx σ H) :
    (SqL K H a xs ∧ ∃ W : Nat → Nat → L2.St → Hp → Prop, (∃ m, W 0 m σ H) ∧ ∀ i m σ H, W i m σ H →
      ((Ite K a).stop i H ∧ D.nx σ H) ∨ ((Ite K a).go i H ∧ ∃ N : L2.St → Hp → Prop, (∀ σ' H', N σ' H' → ∃ m', m' < m ∧ W (i + 1) m' σ' H') ∧ ∀ x H', (Ite K a).yld i H x H' → g x σ H' fun σ2 H2 => tb { D with nx := N, ct := N, bk := D.nx } σ2 H2)) ∨
    (SqT K H a xs ∧ ∃ W : Nat → Nat → L2.St → Hp → Prop, (∃ m, W 0 m σ H) ∧ ∀ i m σ H, W i m σ H →
      ((IteT K a xs.length).stop i H ∧ D.nx σ H) ∨ ((IteT K a xs.length).go i H ∧ ∃ N : L2.St → Hp → Prop, (∀ σ' H', N σ' H' → ∃ m', m' < m ∧ W (i + 1) m' σ' H') ∧ ∀ x H', (IteT K a xs.length).yld i H x H' → g x σ H' fun σ2 H2 => tb { D with nx := N, ct := N, bk := D.nx } σ2 H2)) := by
  rcases sa with sl | st
  · exact .inl ⟨Same0.sqL s0 sl, for_it walk_enum Pv h0 (fun i σ H hi p => Same0.sqL (keep i σ H hi p) sl) hs hd⟩
  · exact .inr ⟨Same0.sqT s0 st, for_it walk_enumT Pv h0 (fun i σ H hi p => Same0.sqT (keep i σ H hi p) st) hs hd⟩
end
end L2

end
section
set_option maxRecDepth 100000
namespace Hue
open PySem PySem.Spec PyProof.Rows L2
/-! ### the order list -/
def flip (R : Rel) : Rel := fun i j => R j i
/-- k is the next in turn -/
def nxt (n : Nat) (R : Rel) (ord : List Nat) (k : Nat) : Bool := !decide (k ∈ ord) && (Bel n (flip R) k).all fun j => decide (j ∈ ord)
def cands (n : Nat) (R : Rel) (ord : List Nat) : List Nat := (List.range n).filter (nxt n R ord)
def ordN (n : Nat) (R : Rel) : Nat → List Nat
  | 0 => []
  | k + 1 => ordN n R k ++ (cands n R (ordN n R k)).take 1
def Ranked (R : Rel) : Prop := ∃ ρ : Nat → Nat, ∀ i j, R i j = true → ρ i < ρ j
theorem nxt_iff {n : Nat} {R : Rel} {ord : List Nat} {k : Nat} : nxt n R ord k = true ↔ k ∉ ord ∧ ∀ j, j < n → R j k = true → j ∈ ord := by
  unfold nxt
  rw [Bool.and_eq_true, Bool.not_eq_true', decide_eq_false_iff_not, List.all_eq_true]
  constructor
  · rintro ⟨h1, h2⟩
    exact ⟨h1, fun j hj hr => of_decide_eq_true (h2 j (mem_Bel.mpr ⟨hj, hr⟩))⟩
  · rintro ⟨h1, h2⟩
    exact ⟨h1, fun j hj => decide_eq_true (h2 j (mem_Bel.mp hj).1 (mem_Bel.mp hj).2)⟩
theorem cands_ne {n : Nat} {R : Rel} (hR : Ranked R) {ord : List Nat} (hl : ord.length < n) : ∃ c rest, cands n R ord = c :: rest := by
  obtain ⟨ρ, hρ⟩ := hR
  have least : ∀ m i, i < n → i ∉ ord → ρ i ≤ m → ∃ c, c < n ∧ nxt n R ord c = true := by
    intro m
    induction m with
    | zero =>
      intro i hi hn hm
      refine ⟨i, hi, nxt_iff.mpr ⟨hn, fun j hj hr => ?_⟩⟩
      have := hρ j i hr
      omega
    | succ m ih =>
      intro i hi hn hm
      rcases Classical.em (∃ j, j < n ∧ R j i = true ∧ j ∉ ord) with ⟨j, hj, hr, hjn⟩ | none
      · have := hρ j i hr
        exact ih j hj hjn (by omega)
      · refine ⟨i, hi, nxt_iff.mpr ⟨hn, fun j hj hr => ?_⟩⟩
        rcases Classical.em (j ∈ ord) with h | h
        · exact h
        · exact absurd ⟨j, hj, hr, h⟩ none
  obtain ⟨i, hi, hn⟩ := st_missing ord n hl
  obtain ⟨c, hc, hx⟩ := least (ρ i) i hi hn (Nat.le_refl _)
  cases e : cands n R ord with
  | nil =>
    have : c ∈ cands n R ord := List.mem_filter.mpr ⟨List.mem_range.mpr hc, hx⟩
    rw [e] at this
    cases this
  | cons a rest => exact ⟨a, rest, rfl⟩
theorem cands_asc (n : Nat) (R : Rel) (ord : List Nat) : (cands n R ord).Pairwise (· < ·) := List.Pairwise.filter _ List.pairwise_lt_range
/-- the least of the candidates is the first -/
theorem cands_min {n : Nat} {R : Rel} {ord : List Nat} {c : Nat} {rest : List Nat} (e : cands n R ord = c :: rest) {m : Int} (hm : m ∈ nI (cands n R ord)) (hle : ∀ y, y ∈ nI (cands n R ord) → m ≤ y) : m = (c : Int) := by
  obtain ⟨k, hk, rfl⟩ := mem_nI.mp hm
  have h1 := hle (c : Int) (mem_nI.mpr ⟨c, by rw [e]; exact List.mem_cons_self, rfl⟩)
  have pw := cands_asc n R ord
  rw [e] at hk pw
  rcases List.mem_cons.mp hk with z | z
  · rw [z]
  · have := (List.pairwise_cons.mp pw).1 k z
    omega
theorem ordN_succ {n : Nat} {R : Rel} {k c : Nat} {rest : List Nat} (e : cands n R (ordN n R k) = c :: rest) : ordN n R (k + 1) = ordN n R k ++ [c] := by
  show ordN n R k ++ (cands n R (ordN n R k)).take 1 = _
  rw [e]; rfl
structure OrdOk (n : Nat) (R : Rel) (ord : List Nat) : Prop where
  nd : ord.Nodup
  lt : ∀ i ∈ ord, i < n
  up : ∀ q i, ord[q]? = some i → ∀ j, j < n → R j i = true → j ∈ ord.take q
theorem ordN_ok {n : Nat} {R : Rel} (hR : Ranked R) : ∀ k, k ≤ n → (ordN n R k).length = k ∧ OrdOk n R (ordN n R k)
  | 0, _ => ⟨rfl, ⟨List.nodup_nil, fun i h => absurd h List.not_mem_nil, fun q i h => by simp [ordN] at h⟩⟩
  | k + 1, hk => by
    obtain ⟨l, ok⟩ := ordN_ok hR k (Nat.le_of_succ_le hk)
    obtain ⟨c, rest, e⟩ := cands_ne (n := n) hR (ord := ordN n R k) (by omega)
    have cm : c ∈ cands n R (ordN n R k) := by rw [e]; exact List.mem_cons_self
    obtain ⟨c1, c2⟩ := List.mem_filter.mp cm
    obtain ⟨c3, c4⟩ := nxt_iff.mp c2
    rw [ordN_succ e]
    refine ⟨by rw [List.length_append, l]; rfl, ⟨?_, fun i hi => ?_, fun q i hq j hj hr => ?_⟩⟩
    · rw [List.nodup_append]
      refine ⟨ok.nd, by simp, fun a ha b hb => ?_⟩
      rw [List.mem_singleton.mp hb]
      intro z
      exact c3 (z ▸ ha)
    · rcases List.mem_append.mp hi with h | h
      · exact ok.lt i h
      · rw [List.mem_singleton.mp h]; exact List.mem_range.mp c1
    · rcases Nat.lt_or_ge q (ordN n R k).length with h | h
      · rw [List.getElem?_append_left h] at hq
        rw [List.take_append_of_le_length (Nat.le_of_lt h)]
        exact ok.up q i hq j hj hr
      · rw [List.getElem?_append_right h] at hq
        have q0 : q - (ordN n R k).length = 0 := by
          rcases Nat.eq_zero_or_pos (q - (ordN n R k).length) with z | z
          · exact z
          · rw [List.getElem?_eq_none (by rw [List.length_singleton]; exact z)] at hq; cases hq
        rw [q0] at hq
        cases hq
        have eq : q = (ordN n R k).length := by omega
        rw [eq, List.take_left']
        · exact c4 j hj hr
        · rfl
/-- every lamp stands in it -/
theorem ord_all {n : Nat} {R : Rel} (hR : Ranked R) {i : Nat} (hi : i < n) : i ∈ ordN n R n := by
  obtain ⟨l, ok⟩ := ordN_ok hR n (Nat.le_refl _)
  rcases Classical.em (i ∈ ordN n R n) with h | h
  · exact h
  · exfalso
    have := nat_nodup_len (i :: ordN n R n) (List.range n) (List.nodup_cons.mpr ⟨h, ok.nd⟩) fun x hx => by
      rcases List.mem_cons.mp hx with z | z
      · rw [z]; exact List.mem_range.mpr hi
      · exact List.mem_range.mpr (ok.lt x z)
    rw [List.length_cons, l, List.length_range] at this
    omega
theorem relOf_ranked {ps : List (Nat × Nat)} {ρ : Nat → Nat} (h : ∀ p ∈ ps, ρ p.1 < ρ p.2) : Ranked (relOf ps) := ⟨ρ, relOf_rank h⟩
/-! ### the relation goes on -/
def Trans (R : Rel) : Prop := ∀ i j k, R i j = true → R j k = true → R i k = true
theorem addW_iff {R : Rel} {u l i j : Nat} : addW R u l i j = true ↔ R i j = true ∨ ((i = u ∨ R i u = true) ∧ (j = l ∨ R l j = true)) := by
  unfold addW
  rw [Bool.or_eq_true, Bool.and_eq_true, Bool.or_eq_true, Bool.or_eq_true, beq_iff_eq, beq_iff_eq]
theorem addW_trans {R : Rel} (hR : Trans R) (u l : Nat) : Trans (addW R u l) := by
  intro i j k h1 h2
  rw [addW_iff] at h1 h2 ⊢
  rcases h1 with h1 | ⟨a1, a2⟩ <;> rcases h2 with h2 | ⟨b1, b2⟩
  · exact .inl (hR i j k h1 h2)
  · refine .inr ⟨.inr ?_, b2⟩
    rcases b1 with e | e
    · rw [← e]; exact h1
    · exact hR _ _ _ h1 e
  · refine .inr ⟨a1, .inr ?_⟩
    rcases a2 with e | e
    · rw [← e]; exact h2
    · exact hR _ _ _ e h2
  · exact .inr ⟨a1, b2⟩
theorem relOf_trans : ∀ (ps : List (Nat × Nat)), Trans (relOf ps) := by
  have key : ∀ (ps : List (Nat × Nat)) (R : Rel), Trans R → Trans (ps.foldl (fun R p => addW R p.1 p.2) R) := by
    intro ps
    induction ps with
    | nil => intro R h; exact h
    | cons p ps ih => intro R h; exact ih _ (addW_trans h p.1 p.2)
  intro ps
  exact key ps _ fun i j k h => by cases h
/-! ### states -/
abbrev stV (S : List Int) : List V := S.map V.int
def at_ (S : List Int) (k : Nat) : Int := S.getD k 0
theorem stV_get {S : List Int} {k : Nat} (h : k < S.length) : (stV S)[k]? = some (V.int (at_ S k)) := by
  unfold stV at_
  rw [List.getElem?_map, List.getElem?_eq_getElem h, List.getD_eq_getElem?_getD, List.getElem?_eq_getElem h]
  rfl
def StOk (n h : Nat) (S : List Int) : Prop := S.length = n ∧ ∀ z ∈ S, 0 ≤ z ∧ z < (h : Int)
theorem StOk.at {n h : Nat} {S : List Int} (s : StOk n h S) {k : Nat} (hk : k < n) : 0 ≤ at_ S k ∧ at_ S k < (h : Int) := by
  have hl : k < S.length := by rw [s.1]; exact hk
  unfold at_
  rw [List.getD_eq_getElem?_getD, List.getElem?_eq_getElem hl]
  exact s.2 _ (List.getElem_mem hl)
/-- T is reachable from S: every topmost difference goes down -/
def Reach (n : Nat) (R : Rel) (S T : List Int) : Prop := ∀ k, k < n → at_ S k ≠ at_ T k → (∀ u, u < n → R u k = true → at_ S u = at_ T u) → at_ T k < at_ S k
theorem rgV_nL (n : Nat) : rgV 0 (n : Int) = nL (List.range n) := by
  unfold rgV nL nI
  simp
theorem rgOk (n : Nat) (h : n ≤ 1000) : RgOk 0 (n : Int) := by
  unfold RgOk
  exact ⟨by omega, by omega, by omega, by omega, by omega⟩
theorem nL_erase (l : List Nat) (j : Nat) : (nL l).eraseIdx j = nL (l.eraseIdx j) := by
  unfold nL nI
  rw [List.map_map, List.map_map]
  induction l generalizing j with
  | nil => rfl
  | cons a l ih =>
    cases j with
    | zero => rfl
    | succ j => show _ :: _ = _ :: _; exact congrArg _ (ih j)
/-! ### the relation by its last wire -/
theorem fold_mono : ∀ (ps : List (Nat × Nat)) (R : Rel) (i j : Nat), R i j = true → ps.foldl (fun R p => addW R p.1 p.2) R i j = true
  | [], _, _, _, h => h
  | p :: ps, R, i, j, h => fold_mono ps _ i j (addW_iff.mpr (.inl h))
theorem fold_wire : ∀ (ps : List (Nat × Nat)) (R : Rel) (p : Nat × Nat), p ∈ ps → ps.foldl (fun R p => addW R p.1 p.2) R p.1 p.2 = true
  | [], _, _, h => by cases h
  | q :: ps, R, p, h => by
    rcases List.mem_cons.mp h with e | h
    · rw [e]
      exact fold_mono ps _ _ _ (addW_iff.mpr (.inr ⟨.inl rfl, .inl rfl⟩))
    · exact fold_wire ps _ p h
theorem rel_last {ps : List (Nat × Nat)} {j i : Nat} : relOf ps j i = true ↔ ∃ u, (u, i) ∈ ps ∧ (j = u ∨ relOf ps j u = true) := by
  have key : ∀ (ps qs : List (Nat × Nat)) (R : Rel), (∀ j i, R j i = true → ∃ u, (u, i) ∈ qs ∧ (j = u ∨ R j u = true)) →
      ∀ j i, ps.foldl (fun R p => addW R p.1 p.2) R j i = true → ∃ u, (u, i) ∈ qs ++ ps ∧ (j = u ∨ ps.foldl (fun R p => addW R p.1 p.2) R j u = true) := by
    intro ps
    induction ps with
    | nil =>
      intro qs R h j i hr
      rw [List.append_nil]
      exact h j i hr
    | cons p ps ih =>
      intro qs R h j i hr
      have z := ih (qs ++ [p]) (addW R p.1 p.2) (fun j i h2 => ?_) j i hr
      · rw [List.append_assoc] at z
        exact z
      · rcases addW_iff.mp h2 with h3 | ⟨h3, h4⟩
        · obtain ⟨u, hu, e⟩ := h j i h3
          exact ⟨u, List.mem_append_left _ hu, e.imp id fun z => addW_iff.mpr (.inl z)⟩
        · rcases h4 with e | e
          · refine ⟨p.1, List.mem_append_right _ (by rw [e]; exact List.mem_cons_self), ?_⟩
            exact h3.imp id fun z => addW_iff.mpr (.inl z)
          · obtain ⟨u, hu, e2⟩ := h p.2 i e
            refine ⟨u, List.mem_append_left _ hu, .inr (addW_iff.mpr (.inr ⟨h3, ?_⟩))⟩
            exact e2.imp Eq.symm id
  constructor
  · intro h
    have z := key ps [] (fun _ _ => false) (fun j i h => by cases h) j i h
    rw [List.nil_append] at z
    exact z
  · rintro ⟨u, hu, e⟩
    have w : relOf ps u i = true := fold_wire ps _ (u, i) hu
    rcases e with e | e
    · rw [e]; exact w
    · exact relOf_trans ps _ _ _ e w
end Hue

end
section
set_option maxRecDepth 100000
namespace L2
open PySem PySem.Spec PyProof.Rows
/-! ### repr of plain data, where no repr is under way -/
def rRepr (K : PySem.W.Frag) : List V → Hp → VK → Prop := fun xs H Q => ∃ x d, xs = [x] ∧ Dp K H x d ∧ d.showable = true ∧ d.hasDict = false ∧ d.depth ≤ 64 ∧ d.shown.length ≤ sizeLine ∧ Q (.str d.shown) H
theorem cr_repr {X : Cx} (hg : X.A.guards = some []) (hu : X.A.units + 100 < cLine) : CallR X (.builtin "repr") (rRepr X.K) := by
  intro pins s σ H xs us Q I r h
  obtain ⟨x, d, rfl, hd, hs, hno, hdep, hz, q⟩ := h
  cases r with
  | cons ru rn =>
    rename_i u us'
    cases rn
    obtain ⟨as, rd⟩ := Dp.reads I d x u hd ru
    have leaf : ∀ (y : Str) (tk : Nat), d.shown = y → EP X pins σ Q (.str y s.toks) { s with toks := tk } := fun y tk e => ⟨.str y, H, I.tok tk, ⟨_, rfl⟩, e ▸ q⟩
    cases rd with
    | none => exact PySem.P.repr_of_none (leaf _ _ rfl)
    | bool b => exact PySem.P.repr_of_bool (leaf _ _ (by cases b <;> rfl))
    | int i t => exact PySem.P.repr_of_int (of_decide_eq_true hs) (leaf _ _ rfl)
    | str y t => exact PySem.P.repr_of_str (leaf _ _ rfl) hz
    | list h1 h2 h3 h4 => exact repr_of_reads' (.list h1 h2 h3 h4) hs (fun z => by rw [hno] at z; cases z) hg (by omega) (fun b o e => e) (fun h' u tk hk => ⟨.str _, H, I.kept hk, ⟨u, rfl⟩, q⟩) hz
    | tuple h1 h2 h3 h4 => exact repr_of_reads' (.tuple h1 h2 h3 h4) hs (fun z => by rw [hno] at z; cases z) hg (by omega) (fun b o e => e) (fun h' u tk hk => ⟨.str _, H, I.kept hk, ⟨u, rfl⟩, q⟩) hz
    | dict h1 h2 h3 h4 h5 => cases hd
end L2

end
section
set_option maxRecDepth 100000
namespace L2
open PySem PySem.Spec PyProof.Rows
/-! ### a def's promise where no repr is under way around it -/
structure GOk (P : Program) (w : World) (K : PySem.W.Frag) (mg : Str → Option Value) (base : Heap) (CX : CXT) (k : Nat) (f : Addr) (fd : FuncData) (ps : List Str) (sp : Sp) : Prop where
  ln : ∀ vs H Q E, sp vs H Q E → vs.length = ps.length
  go : ∀ A : Around, A.guards = some [] → ∀ (outer : List Env) (s : Shared) (H : Hp) (args : Args) (us : List Value) (vs : List V) (Q : VK) (E : XK), Room k A → Env0 P w K mg base A outer s H → BindsTo s fd args (ps.zip us) → Vals vs us → sp vs H Q E →
    codeAny (model P w) A (.call (.ref f) args) (CR CX outer P w H s Q E) s
section
variable {P : Program} {w : World} {K : PySem.W.Frag} {mg : Str → Option Value} {base : Heap} {CX : CXT} {k : Nat} {f : Addr} {fd : FuncData} {N ps : List Str} {sp : Sp}
/-- what holds everywhere holds there too -/
theorem FnOk.g (F : FnOk P w K mg base CX k f fd ps sp) : GOk P w K mg base CX k f fd ps sp := ⟨F.len, fun A _ => F.run A⟩
/-- by the body, which may know that the guards are none -/
theorem g_of {name qual : Str} {params : Arguments} {body : List Stmt} {scope : Scope} {dV kV doc pm cdv ct oc : Value} {an od : Option Addr} {osl : Array (Option Value)}
    (at_f : K.lookup f = some ⟨oc, od, .func (PySem.W.fnOf name qual params body scope dV kV doc pm an cdv ct), osl⟩) (code : PySem.W.codeIn K cdv qual = true) (S : FnScope N ps scope) (ln : ∀ vs H Q E, sp vs H Q E → vs.length = ps.length)
    (bd : ∀ A : Around, A.guards = some [] → ∀ (outer : List Env) (s : Shared) (H : Hp) (vs : List V) (Q : VK) (E : XK), Room k (A.deeper (envOfC qual scope s.heap.objs.size f cdv)) → sp vs H Q E →
      ∃ t, PSs (cxOf CX P w K mg base N qual scope f cdv A outer s H E) body t ∧ t { nx := fun _ H' => Q .non H', rt := Q } (start N vs) H) :
    GOk P w K mg base CX (k + 1) f (PySem.W.fnOf name qual params body scope dV kV doc pm an cdv ct) ps sp := by
  constructor
  · exact ln
  intro A gA outer s H args us vs Q E room env bnd vals want
  have kept0 : ∀ c ob, base.get? c = some ob → s.heap.get? c = some ob := fun c ob z => (env.bs c ob z).1
  have inK := env.mod.kin.keeps kept0
  refine codeAny_call_function room.depth (inK _ _ at_f) rfl S.co S.gen rfl (PySem.W.codeRec_of inK code) (bnd _ _ _ _ ?_)
  refine wpAny_newFunctionEnv_cells S.kind ?_ fun en en_is s1 fresh => ?_
  · rintro ⟨n, v⟩ mem
    exact (S.par n (List.of_mem_zip mem).1).imp id fun cell => ⟨cell, PySem.W.cellsFrom_some _ _ _ (.inl cell)⟩
  subst en_is
  refine ⟨(env.mod.nolimit.keeps kept0).keeps fresh.toInCall.keep, codeAny_func ?_⟩
  obtain ⟨t, rd, start_ok⟩ := bd A gA outer s H vs Q E (room.deeper _) want
  refine wpAny_mono (rd.run [] s1 (start N vs) H _ (inv_start S room.hd env (ln _ _ _ _ want) vals fresh) start_ok) (fun fl s' ended => ?_) fun _ _ z => z
  cases fl with
  | ret u =>
    obtain ⟨v, _, H', J, rv, q⟩ := ended
    exact ⟨v, H', J.os, J.bare, J.base, J.hok, rv, q⟩
  | next =>
    obtain ⟨_, H', J, q⟩ := ended
    exact ⟨V.non, H', J.os, J.bare, J.base, J.hok, rfl, q⟩
  | brk => exact ended.choose_spec.choose_spec.2.elim
  | cont => exact ended.choose_spec.choose_spec.2.elim
/-- a def of the text, no defaults, nothing leaves it -/
theorem Fun.okG {x qual : Str} {st : Stmt} (F : Fun K x qual st f fd) (S : FnScope N ps (defScope st)) (ln : ∀ vs H Q E, sp vs H Q E → vs.length = ps.length)
    (bd : ∀ (cdv : Value) (A : Around), A.guards = some [] → ∀ (outer : List Env) (s : Shared) (H : Hp) (vs : List V) (Q : VK) (E : XK), Room k (A.deeper (envOfC qual (defScope st) s.heap.objs.size f cdv)) → sp vs H Q E →
      ∃ t, PSs (cxOf CX0 P w K mg base N qual (defScope st) f cdv A outer s H E).nox (defBody st) t ∧ t { nx := fun _ H' => Q .non H', rt := Q } (start N vs) H) : GOk P w K mg base CX0 (k + 1) f fd ps sp := by
  obtain ⟨oc, od, kV, doc, pm, an, cdv, ct, osl, rfl, at_f, code⟩ := F.ex
  refine g_of at_f code S ln fun A gA outer s H vs Q E room want => ?_
  obtain ⟨t, rd, q⟩ := bd cdv A gA outer s H vs Q E room want
  exact ⟨t, rd.nox, q⟩
/-- such a def under its name -/
structure CalG (P : Program) (w : World) (K : PySem.W.Frag) (mg : Str → Option Value) (base : Heap) (x : Str) (k : Nat) (sp : Sp) : Prop where
  ex : ∃ (f : Addr) (fd : FuncData) (ps : List Str), GOk P w K mg base CX0 k f fd ps sp ∧ mg x = some (.ref f) ∧ PySem.W.keepIn K (.ref f) = true ∧ Binds K fd ps []
end
section
variable {X : Cx} {e : Expr} {es : List Expr} {t : TA} {x : Str} {k : Nat} {sp : Sp} {p pos : Pos}
theorem pe_calG (c : CalG X.prog X.w X.K X.mg X.base x k sp) (gX : X.A.guards = some []) (hr : Room k X.A) (ha : PA X (e :: es) t) (hg : Gl X x := by rfl) (hdb : (x == ("__debug__" : Str)) = false := by decide)
    (he : starEach (e :: es) X.env = (false, eval e X.env) :: starEach es X.env := by rfl) (hpl : (backTo pos (starEach es X.env)).any (·.1) = false := by rfl) :
    PE X (.Call (.Name x p) (e :: es) [] pos) (tCal sp t) := by
  obtain ⟨f, fd, ps, F, hm, hk, hb⟩ := c.ex
  refine ⟨fun pins s σ H Q I h => wpAny_Call_Name_kw (ld_glob I hg hm ?_ hdb)⟩
  refine PySem.W.callWith_K (h₀ := X.base) I.ok.mod.kin hk (thn (ha.run pos pins s σ H _ I h) fun us s1 got => ?_) he hpl
  obtain ⟨vs, H1, I1, rv, want⟩ := got
  refine ⟨I1.kIn, wpAny_call ?_⟩
  have n := rv.length ▸ F.ln _ _ _ _ want
  have bnd := hb s1 us I1.kIn (by rw [List.append_nil]; exact n)
  rw [List.append_nil] at bnd
  refine codeAny_mono (F.go X.A gX X.stack s1 H1 ⟨us, []⟩ us vs Q E0 hr I1.env0 bnd rv want) fun r s' ended => ?_
  match r, ended with
  | .ok (.ret u), z => exact I1.after z
  | .ok .next, z => exact z.elim
  | .ok .brk, z => exact z.elim
  | .ok .cont, z => exact z.elim
  | .error _, z => exact z.elim
end
end L2

end
section
set_option maxRecDepth 100000
namespace L2
open PySem PySem.Spec PyProof.Rows
/-! ### the end, by a promise that wants no guards -/
section
variable {P : Program} {w : World} {K : PySem.W.Frag} {mg mb : Str → Option Value} {k : Nat} {fa a : Addr} {fd : FuncData} {x : Str} {sp : Sp} {s1 : Shared} {vs : List Value} {ns : List Int}
/-- the heap in which the script alone may be tracked, and only if it is none of the text's own objects -/
def scrH (K : PySem.W.Frag) (a : Addr) (vs : List Value) (ns : List Int) : Hp := fun b => if b = a ∧ K.lookup a = none then some (.frz { cls := .type "list", data := .seq vs.toArray } (.lst (ns.map V.int))) else none
theorem scrH_some {b : Addr} {o : HO} (h : scrH K a vs ns b = some o) : b = a ∧ K.lookup a = none ∧ o = .frz { cls := .type "list", data := .seq vs.toArray } (.lst (ns.map V.int)) := by
  unfold scrH at h
  split at h
  · rename_i c
    cases h
    exact ⟨c.1, c.2, rfl⟩
  · cases h
theorem scrH_only : Only (scrH K a vs ns) := fun b => by
  cases e : scrH K a vs ns b with
  | none => exact .inl rfl
  | some o => exact .inr ⟨_, _, congrArg some (scrH_some e).2.2⟩
theorem scr_call (inK : K.In s1.heap) (tops : s1.heap.Ns mainGlobals mg) (blt : s1.heap.Ns builtinsNs mb) (boot : ∀ x : Str, x ≠ "__name__" → mb x = bootBuiltins x) (lim : s1.heap.NoLimit) (none_run : s1.gens = #[])
    (obj : s1.heap.get? a = some { cls := .type "list", data := .seq vs.toArray }) (isI : IntsAre vs ns) (few : ns.length ≤ sizeLine) (room : Room k callerA)
    (F : ∀ base : Heap, K.In base → base.Ns mainGlobals mg → GOk P w K mg base CX0 k fa fd [x] sp) (bnd : ∀ (s : Shared) (u : Value), BindsTo s fd ⟨[u], []⟩ [(x, u)])
    (want : ∀ H : Hp, Only H → SqL K H a (ns.map V.int) → sp [.ref a] H (fun v _ => v = .bl true) fun _ _ _ => False) :
    codeAny (model P w) callerA (.call (.ref fa) ⟨[.ref a], []⟩) (fun r s' => r = .ok (.ret (.bool true)) ∧ OldK s1.heap s'.heap ∧ s'.os = s1.os ∧ AllBare s'.gens) s1 := by
  have vals := vals_ints isI
  have lv := isI.length
  have stand : ∀ {b : Addr} {o : Obj}, s1.heap.get? b = some o → b ≠ a ∨ K.lookup a ≠ none → (hidT s1.heap (scrH K a vs ns)).get? b = some o := fun {b o} e c => hidT_get e (by
    cases z : scrH K a vs ns b with
    | none => rfl
    | some u =>
      obtain ⟨z1, z2, _⟩ := scrH_some z
      rcases c with c | c
      · exact absurd z1 c
      · exact absurd z2 c)
  have dicts : ∀ {b : Addr} {o : Obj} {es : Array DictEntry} {ep : Nat}, s1.heap.get? b = some o → o.data = .dict es ep → b ≠ a := fun {b o es ep} e d z => by
    rw [z, obj] at e
    cases e
    cases d
  have spaces : ∀ {b : Addr} {m : Str → Option Value}, s1.heap.Ns b m → (hidT s1.heap (scrH K a vs ns)).Ns b m := fun {b m} ns => by
    obtain ⟨o, es, ep, e, d, r⟩ := ns
    exact ⟨o, es, ep, stand e (.inl (dicts e d)), d, r⟩
  have inB : K.In (hidT s1.heap (scrH K a vs ns)) := fun b o e => stand (inK b o e) (by
    by_cases z : b = a
    · exact .inr fun n => by rw [← z, e] at n; cases n
    · exact .inl z)
  have limB : (hidT s1.heap (scrH K a vs ns)).NoLimit := let ⟨mc, h1, h2⟩ := lim; ⟨mc, spaces h1, h2⟩
  have long : (ns.map V.int).length ≤ sizeLine := by rw [List.length_map]; exact few
  have ok : HOk P w (scrH K a vs ns) s1.heap := fun b o e => by
    obtain ⟨rfl, _, rfl⟩ := scrH_some e
    exact ⟨obj, long, vs, _, vals, obj⟩
  have listed : SqL K (scrH K a vs ns) a (ns.map V.int) := by
    cases lk : K.lookup a with
    | none => exact .inl (.inr ⟨_, if_pos ⟨rfl, lk⟩⟩)
    | some o =>
      have e := (inK a o lk).symm.trans obj
      cases e
      exact .inr ⟨_, vs.toArray, _, lk, rfl, rfl, rfl, by rw [List.size_toArray, lv]; exact few, by simpa using vals⟩
  have env : Env0 P w K mg (hidT s1.heap (scrH K a vs ns)) callerA [] s1 (scrH K a vs ns) :=
    { frames := rfl, mod := ⟨inB, spaces tops, ⟨mb, spaces blt, boot⟩, limB⟩, bs := fun b o e => of_hidT e, bsz := Nat.le_of_eq (hidT_size _ _), funs := trivial, frf := fun b z => (List.not_mem_nil z).elim, hok := ok, bare := .of_eq none_run }
  refine codeAny_mono ((F _ inB (spaces tops)).go callerA rfl [] s1 _ ⟨[.ref a], []⟩ [.ref a] [.ref a] _ _ room env (bnd s1 (.ref a)) (.cons rfl .nil) (want _ scrH_only listed)) fun r s' ended => ?_
  match r, ended with
  | .ok (.ret u), z =>
    obtain ⟨v, H', os, bare, un, ok', rv, q⟩ := z
    have ev : v = .bl true := q
    rw [ev] at rv
    cases rv
    refine ⟨rfl, .of_keep fun b o e => ?_, os, bare⟩
    cases n : scrH K a vs ns b with
    | none => exact un.keep b o e n List.not_mem_nil List.not_mem_nil
    | some t =>
      obtain ⟨rfl, _, rfl⟩ := scrH_some n
      have same := (ok' b _ (un.frzs b _ _ n)).1
      rw [obj] at e
      cases e
      exact same
  | .ok .next, z => exact z.elim
  | .ok .brk, z => exact z.elim
  | .ok .cont, z => exact z.elim
  | .error _, z => exact z.elim
end
theorem walk_ofG {l : PySem.W.OpenLaw} {n k : Nat} {q : Program} {loose : List Str} {XP : (Str → Option Value) → Heap → Prop} {YP : World → Heap → Prop} {d : DefRec} {K : Params → PySem.W.Frag} {sp : World → Sp} {x : Str}
    (hn : l.most = some n) (hn2 : n ≤ sizeLine) (hdf : d.params.defaults = []) (room : Room k callerA) (hY : ∀ (w : World) (h : Heap), YP w h → (K w.params).In h)
    (F : ∀ (w : World) (mg : Str → Option Value) (fa : Addr) (h : Heap), (K w.params).In h → h.Ns mainGlobals mg → mg d.name = some (.ref fa) →
      ∃ fd : FuncData, (∀ (s : Shared) (u : Value), BindsTo s fd ⟨[u], []⟩ [(x, u)]) ∧ ∀ base : Heap, (K w.params).In base → base.Ns mainGlobals mg → GOk l.prog w (K w.params) mg base CX0 k fa fd [x] (sp w))
    (want : ∀ (w : World) (H : Hp) (a : Addr) (ns : List Int), ns.length ≤ n → Only H → SqL (K w.params) H a (ns.map V.int) → sp w [.ref a] H (fun v _ => v = .bl true) fun _ _ _ => False) :
    PySem.W.WalkO q loose XP YP l.row.toRowW d [] (fun f vs => PySem.call f vs) := by
  refine Att.attach_call hn hdf fun w s0 s1 mg mb fa o pm cd doc a vs ns G Y _ _ _ named obj isI len none_run => ?_
  obtain ⟨fd, bnd, ok⟩ := F w mg fa _ (hY w _ Y) G.T.g named
  exact scr_call (hY w _ Y) G.T.g G.T.b G.T.builtins G.T.nolimit none_run obj isI (Nat.le_trans len hn2) room ok bnd fun H hO hS => want w H a ns len hO hS
end L2

end
section
set_option maxRecDepth 100000
namespace L2
open PySem PySem.Spec PyProof.Rows
/-! ### own exceptions with a field -/
/-- what an own exception class at C must have -/
structure XCls (K : PySem.W.Frag) (C : Addr) : Prop where
  oex : OexC K C
  xf : XfC K C
  ca : PySem.W.findIn K (.ref C) "__class__" = some (some (.builtin "object.__class__"))
  mo : PySem.W.mroIn K C (.type "object") = some true
structure XGlob (K : PySem.W.Frag) : Prop where
  gs : PySem.W.specialIn K (.builtin "object.__class__") "__get__" = some (some (.builtin "getset_descriptor.__get__"))
  tk : PySem.W.takesIn K (.builtin "object.__class__") = some true
/-- isinstance of the exception at a (class cls, dict d) -/
def rIsX (K : PySem.W.Frag) (a : Addr) (cls : Value) (C : Addr) (d : Option Addr) : List V → Hp → VK → Prop := fun xs H Q => cls = .ref C ∧ (∃ (dd : Addr) (fs : List (Str × V)), d = some dd ∧ H dd = some (.xd fs)) ∧
  ((∃ (D : Addr) (b : Bool), xs = [.ref a, .ref D] ∧ PySem.W.kitOne K (.ref C) (.ref D) = some b ∧ Q (.bl b) H) ∨
    (∃ (n : String) (b : Bool), xs = [.ref a, .ty n] ∧ PySem.W.kitOne K (.ref C) (.type n) = some b ∧ Q (.bl b) H) ∨
    ∃ (tp : Addr) (ds : List Addr) (b : Bool), xs = [.ref a, .ref tp] ∧ H tp = some (.tup (ds.map V.ref)) ∧ PySem.W.kitAny K (.ref C) (ds.map Value.ref) = some b ∧ Q (.bl b) H)
theorem refs_vals : ∀ {ds : List Addr} {us : List Value}, Vals (ds.map V.ref) us → us = ds.map Value.ref
  | [], _, .nil => rfl
  | d :: ds, _, .cons h r => by
    cases h
    rw [refs_vals r]
    rfl
theorem cr_isX {X : Cx} {a C : Addr} {cls : Value} {oe : Obj} {d : Option Addr} {pn : List (Addr × Obj)} (T : XCls X.K C) (G : XGlob X.K) (hz : Zc cls d oe) (hf : ∃ vs, oe.data = .fields vs) : CallR (X.suite a ((a, oe) :: pn)) (.builtin "isinstance") (rIsX X.K a cls C d) := by
  intro pins s σ H xs us Q I r h
  obtain ⟨ec, ⟨dd, fs, ed, hdd⟩, h⟩ := h
  subst ec
  subst ed
  obtain ⟨hget, _⟩ := I.pin (a, oe) (List.mem_append.mpr (.inl List.mem_cons_self))
  obtain ⟨fv, hv⟩ := hf
  have hx : ObjOk X.prog X.w H s.heap dd (.xd fs) := I.hok dd _ hdd
  obtain ⟨mA, hns, _⟩ := hx
  obtain ⟨od, ho, _⟩ := lookIn_ns hns
  have J : PySem.W.InstAt s.heap a oe C (some od) := ⟨hget, hz.1, by unfold PySem.W.notCls; rw [hv] <;> rfl, by rw [hz.2]; exact ho⟩
  have some_cls : (PySem.W.clsIn X.K C).isSome = true := by
    obtain ⟨nm, q, N, bs, bm, sn, sub, ab, col, dd, k0, k1, k2, k3, k5, hC, _⟩ := T.oex.cls
    unfold PySem.W.clsIn
    rw [hC] <;> rfl
  have Z := PySem.W.kitx_exc (x := a) (ox := oe) (od := some od) some_cls T.xf.ga T.xf.gg T.xf.exC T.ca G.gs G.tk T.mo
  have fin : ∀ b : Bool, Q (.bl b) H → ∀ tk, EP (X.suite a ((a, oe) :: pn)) pins σ Q (.bool b) { s with toks := tk } := fun b q tk => ⟨.bl b, H, I.tok tk, rfl, q⟩
  rcases h with ⟨D, b, rfl, e, q⟩ | ⟨n, b, rfl, e, q⟩ | ⟨tp, ds, b, rfl, ht, e, q⟩
  · cases r with
    | cons r1 r2 => cases r2 with
      | cons r2 r3 =>
        cases r3
        cases r1
        cases r2
        exact PySem.W.kia_one Z I.kIn J e (fun z => nomatch z) (fin b q)
  · cases r with
    | cons r1 r2 => cases r2 with
      | cons r2 r3 =>
        cases r3
        cases r1
        cases r2
        exact PySem.W.kia_one Z I.kIn J e (fun z => nomatch z) (fin b q)
  · cases r with
    | cons r1 r2 => cases r2 with
      | cons r2 r3 =>
        cases r3
        cases r1
        cases r2
        obtain ⟨_, its, rv, ⟨o, ho, hc, n, hd⟩⟩ := I.hok tp _ ht
        have ei := refs_vals rv
        subst ei
        obtain ⟨oc, odd, oda, osl⟩ := o
        cases hc
        cases hd
        exact PySem.W.kia_tup Z I.kIn J ho e (fun z => nomatch z) (fin b q)
/-! ### defs and methods that may raise -/
structure CalX (P : Program) (w : World) (K : PySem.W.Frag) (mg : Str → Option Value) (base : Heap) (x : Str) (k : Nat) (sp : Sp) : Prop where
  ex : ∃ (f : Addr) (fd : FuncData) (ps : List Str), FnOk P w K mg base (L2.CX P w) k f fd ps sp ∧ mg x = some (.ref f) ∧ PySem.W.keepIn K (.ref f) = true ∧ Binds K fd ps []
structure MCalX (P : Program) (w : World) (K : PySem.W.Frag) (mg : Str → Option Value) (base : Heap) (C : Addr) (m : Str) (k : Nat) (sp : Sp) : Prop where
  ex : ∃ (f : Addr) (fd : FuncData) (ps : List Str), FnOk P w K mg base (L2.CX P w) k f fd ps sp ∧ Meth K C m f ∧ Binds K fd ps []
section
variable {X : Cx} {e o : Expr} {es : List Expr} {t : TA} {ta : TE} {x m : Str} {k : Nat} {sp : Sp} {C : Addr} {E : XK} {W : WX} {p pos apos : Pos}
/-- what a callee lets out goes on -/
theorem goes_on (tk : Takes X (fun cls d _ H => E cls d H)) : Passes (L2.CX X.prog X.w) X E := fun _ _ _ _ e s' I c => tk e s' (XE.of_call I (fun _ _ _ h => h) c)
def tCalX (sp : Sp) (E : XK) (t : TA) : TE := fun σ H Q => t σ H fun vs H1 => sp vs H1 Q E
theorem pe_calX (c : CalX X.prog X.w X.K X.mg X.base x k sp) (tk : Takes X (fun cls d _ H => E cls d H)) (hr : Room k X.A) (ha : PA X (e :: es) t) (hg : Gl X x := by rfl) (hdb : (x == ("__debug__" : Str)) = false := by decide)
    (he : starEach (e :: es) X.env = (false, eval e X.env) :: starEach es X.env := by rfl) (hpl : (backTo pos (starEach es X.env)).any (·.1) = false := by rfl) :
    PE X (.Call (.Name x p) (e :: es) [] pos) (tCalX sp E t) := by
  obtain ⟨f, fd, ps, F, hm, hk, hb⟩ := c.ex
  refine (pe_call F hr hg hm hk hb .nil (goes_on tk) ha hdb he hpl).to fun σ H Q q => ?_
  have q' : t σ H fun vs H1 => sp vs H1 Q E := q
  show t σ H fun vs H1 => sp (vs ++ []) H1 Q E
  simpa only [List.append_nil] using q'
/-- the same where a try of the def's own takes it: wished for at the slots -/
theorem pe_calW (c : CalX X.prog X.w X.K X.mg X.base x k sp) (tk : Takes X W) (hr : Room k X.A) (ha : PA X (e :: es) t) (hg : Gl X x := by rfl) (hdb : (x == ("__debug__" : Str)) = false := by decide)
    (he : starEach (e :: es) X.env = (false, eval e X.env) :: starEach es X.env := by rfl) (hpl : (backTo pos (starEach es X.env)).any (·.1) = false := by rfl) :
    PE X (.Call (.Name x p) (e :: es) [] pos) (tCallS sp (WE W) t) := by
  obtain ⟨f, fd, ps, F, hm, hk, hb⟩ := c.ex
  exact pe_callS F hr hg hm hk hb (fun σ => passAt tk σ) ha hdb he hpl
/-- a method at the slots -/
def tMethW (C : Addr) (m : Str) (sp : Sp) (W : WX) (ta : TE) (t : TA) : TE := fun σ H Q => ta σ H fun y H1 => ∃ a dx fs, y = .ref a ∧ H1 a = some (.ins C dx fs) ∧ fs.lookup m = none ∧ t σ H1 fun vs H2 => sp (y :: vs) H2 Q (WE W σ)
theorem pe_methW {pl : Sem Bool} (ho : PE X o ta) (cl : Cls X.K C) (M : MCalX X.prog X.w X.K X.mg X.base C m k sp) (tk : Takes X W) (hr : Room k X.A) (ha : PA X (e :: es) t)
    (hst : starEach (e :: es) X.env = (false, eval e X.env) :: starEach es X.env := by rfl) (hpl : (backTo pos (starEach es X.env)).any (·.1) = false := by rfl)
    (shape : eval (.Call (.Attribute o m apos) (e :: es) [] pos) X.env = (do let ov ← eval o X.env; standAt apos.atName; let (f, first) ← holding [ov] (getMethod ov m pl); callWith pos f first (backTo pos (starEach (e :: es) X.env)) (backToKw pos (keywordEach [] X.env))) := by rfl) :
    PE X (.Call (.Attribute o m apos) (e :: es) [] pos) (tMethW C m sp W ta t) := by
  obtain ⟨f, fd, ps, F, hm, hb⟩ := M.ex
  refine ⟨fun pins s σ H Q I h => PySem.W.methodCall_KW (pl := pl) (thn (ho.run pins s σ H _ I h) fun u s1 got => ?_) shape⟩
  obtain ⟨y, H1, I1, ry, a, dx, fs, rfl, ea, l, q⟩ := got
  cases ry
  refine getmeth_ok I1 ea cl hm l (PySem.W.callWith_K (first := [.ref a]) (h₀ := X.base) I.ok.mod.kin hm.kp (thn (ha.run pos pins s1 σ H1 _ I1 q) fun us s2 got => ?_) hst hpl)
  obtain ⟨vs, H2, I2, rv, want⟩ := got
  exact ⟨I2.kIn, run_fnS (us := .ref a :: us) (vs := .ref a :: vs) F hr hb (passAt tk σ) I2 (.cons rfl rv) want⟩
/-- a method whose exceptions leave the def -/
def tMethX (C : Addr) (m : Str) (sp : Sp) (E : XK) (ta : TE) (t : TA) : TE := fun σ H Q => ta σ H fun y H1 => ∃ a dx fs, y = .ref a ∧ H1 a = some (.ins C dx fs) ∧ fs.lookup m = none ∧ t σ H1 fun vs H2 => sp (y :: vs) H2 Q E
/-- raise C(e, ..), C's own __init__ keeping sp -/
theorem ps_raiseX {fI : Addr} {fd : FuncData} {ps : List Str} (calm : X.calm = true) (tk : Takes X W) (T : OexC X.K C) (iC : PySem.W.findIn X.K (.ref C) "__init__" = some (some (.ref fI))) (tI : PySem.W.typeIn X.K (.ref fI) = some (.type "function"))
    (F : FnOk X.prog X.w X.K X.mg X.base CX0 k fI fd ps sp) (hr : Room (k + 1) X.A) (hb : Binds X.K fd ps []) (hm : X.mg x = some (.ref C)) (ha : PA X (e :: es) t) (hg : Gl X x := by rfl)
    (hdb : (x == ("__debug__" : Str)) = false := by decide) (he : starEach (e :: es) X.env = (false, eval e X.env) :: starEach es X.env := by rfl) (hpl : (backTo apos (starEach es X.env)).any (·.1) = false := by rfl) :
    PS X (.Raise (some (.Call (.Name x p) (e :: es) [] apos)) none pos) (fun _ σ H => tMkO C sp [] t σ H fun cls d H' => W cls d σ H') :=
  ps_raise calm tk (pmk_oex T iC tI F hr hb .nil (fun _ _ _ _ _ _ _ z => z.elim) hg hm ha hdb he hpl)
end
/-! ### an __init__ that keeps its one argument in a field -/
def spKeep (K : PySem.W.Frag) (f : Str) : Sp := fun vs H Q _ => ∃ (a C : Addr) (v : V), vs = [.ref a, v] ∧ OexC K C ∧ PySem.W.findIn K (.ref C) f = some none ∧ H a = some (exo a C none) ∧ ∀ dx, H dx = none → dx ≠ a → Q .non (upd (upd H dx (exd dx [(f, v)])) a (exo a C (some dx)))
/-- its raising, as the callers see it -/
theorem keep_raised {K : PySem.W.Frag} {C : Addr} {f : Str} {v : V} {H : Hp} {Q : XK} (T : OexC K C) (hf : PySem.W.findIn K (.ref C) f = some none) (q : ∀ (d : Addr) (H' : Hp), H d = none → Same H H' → H' d = some (.xd [(f, v)]) → Q (.ref C) (some d) H') (a : Addr) (na : H a = none) :
    spKeep K f [.ref a, v] (upd H a (exo a C none)) (fun y H2 => y = .non ∧ ∃ (d : Addr) (fs : List (Str × V)), H2 a = some (exo a C (some d)) ∧ H2 d = some (exd d fs) ∧ H d = none ∧ Q (.ref C) (some d) (upd (del H2 a) d (.xd fs))) fun _ _ _ => False := by
  refine ⟨a, C, v, rfl, T, hf, upd_same, fun dx ndx ne => ⟨rfl, dx, _, upd_same, by rw [upd_ne ne, upd_same], ?_, q dx _ ?_ (fun b o e => ?_) upd_same⟩⟩
  · rw [upd_ne ne] at ndx; exact ndx
  · rw [upd_ne ne] at ndx; exact ndx
  · have nb : b ≠ dx := fun z => by
      rw [upd_ne ne] at ndx
      rw [z, ndx] at e; cases e
    have na' : b ≠ a := fun z => by rw [z, na] at e; cases e
    rw [upd_ne nb, del_ne na', upd_ne na', upd_ne nb, upd_ne na']
    exact e
end L2
namespace L2
open PySem PySem.Spec PyProof.Rows
/-- an exception class with such an __init__, under its name -/
structure XMk (P : Program) (w : World) (K : PySem.W.Frag) (mg : Str → Option Value) (base : Heap) (C : Addr) (x f : Str) : Prop where
  ex : ∃ (fI : Addr) (fd : FuncData) (ps : List Str), FnOk P w K mg base CX0 1 fI fd ps (spKeep K f) ∧ Binds K fd ps [] ∧ PySem.W.findIn K (.ref C) "__init__" = some (some (.ref fI)) ∧ PySem.W.typeIn K (.ref fI) = some (.type "function")
  mg : mg x = some (.ref C)
  cls : XCls K C
  no : PySem.W.findIn K (.ref C) f = some none
section
variable {X : Cx} {e : Expr} {es : List Expr} {t : TA} {x f : Str} {C : Addr} {W : WX} {p pos apos : Pos}
theorem ps_raiseM (M : XMk X.prog X.w X.K X.mg X.base C x f) (calm : X.calm = true) (tk : Takes X W) (hr : Room 2 X.A) (ha : PA X (e :: es) t) (hg : Gl X x := by rfl)
    (hdb : (x == ("__debug__" : Str)) = false := by decide) (he : starEach (e :: es) X.env = (false, eval e X.env) :: starEach es X.env := by rfl) (hpl : (backTo apos (starEach es X.env)).any (·.1) = false := by rfl) :
    PS X (.Raise (some (.Call (.Name x p) (e :: es) [] apos)) none pos) (fun _ σ H => tMkO C (spKeep X.K f) [] t σ H fun cls d H' => W cls d σ H') := by
  obtain ⟨fI, fd, ps, F, hb, iC, tI⟩ := M.ex
  exact ps_raiseX calm tk M.cls.oex iC tI F hr hb M.mg ha hg hdb he hpl
end
/-- where it does not raise, it is as one that never does -/
theorem FnOk.calm {P : Program} {w : World} {K : PySem.W.Frag} {mg : Str → Option Value} {base : Heap} {k : Nat} {f : Addr} {fd : FuncData} {ps : List Str} {sp : Sp} (F : FnOk P w K mg base (L2.CX P w) k f fd ps sp) : FnOk P w K mg base CX0 k f fd ps (fun vs H Q _ => sp vs H Q fun _ _ _ => False) where
  len := fun vs H Q _ h => F.len vs H Q _ h
  run := fun A outer s H args us vs Q _ hr env bnd vals want => codeAny_mono (F.run A outer s H args us vs Q _ hr env bnd vals want) fun r s' z => match r, z with
    | .ok (.ret _), z => z
    | .ok .next, z => z.elim
    | .ok .brk, z => z.elim
    | .ok .cont, z => z.elim
    | .error _, ⟨_, _, _, _, _, _, _, _, _, _, _, _, no⟩ => no.elim
theorem CalX.calm {P : Program} {w : World} {K : PySem.W.Frag} {mg : Str → Option Value} {base : Heap} {x : Str} {k : Nat} {sp sp' : Sp} (c : CalX P w K mg base x k sp) (h : ∀ vs H Q E, sp' vs H Q E → sp vs H Q fun _ _ _ => False) : Cal P w K mg base x k sp' := by
  obtain ⟨f, fd, ps, F, r⟩ := c.ex
  exact ⟨f, fd, ps, F.calm.imp h, r⟩
theorem MCalX.calm {P : Program} {w : World} {K : PySem.W.Frag} {mg : Str → Option Value} {base : Heap} {C : Addr} {m : Str} {k : Nat} {sp sp' : Sp} (c : MCalX P w K mg base C m k sp) (h : ∀ vs H Q E, sp' vs H Q E → sp vs H Q fun _ _ _ => False) : MCal P w K mg base C m k sp' := by
  obtain ⟨f, fd, ps, F, r⟩ := c.ex
  exact ⟨f, fd, ps, F.calm.imp h, r⟩
theorem Cal.imp {P : Program} {w : World} {K : PySem.W.Frag} {mg : Str → Option Value} {base : Heap} {x : Str} {k : Nat} {sp sp' : Sp} (c : Cal P w K mg base x k sp) (h : ∀ vs H Q E, sp' vs H Q E → sp vs H Q E) : Cal P w K mg base x k sp' := by
  obtain ⟨f, fd, ps, F, r⟩ := c.ex
  exact ⟨f, fd, ps, F.imp h, r⟩
end L2

end
section
set_option maxRecDepth 100000
namespace L2
open PySem PySem.Spec PyProof.Rows
/-! ### a comprehension of two clauses: the outer over a range, the inner over a list -/
theorem lc2_range {lo : Int} {n : Nat} {g : TG} {tt : TT} {B : St → Hp → (Hp → Prop) → Prop} {vs : List Nat} {σ : St} {H0 : Hp} {Qd : Hp → Prop} (Pv : Nat → Hp → Prop) (h0 : Pv 0 H0)
    (hs : ∀ i H, i < n → Pv i H → g (.int (lo + i)) (wipe σ vs) H fun σ2 H2 => wipe σ2 vs = wipe σ vs ∧ tt σ2 H2 fun b H3 => if b = true then B σ2 H3 (Pv (i + 1)) else Pv (i + 1) H3) (hd : ∀ H, Pv n H → Qd H) :
    ∃ W : Nat → Nat → Hp → Prop, (∃ m, W 0 m H0) ∧ ∀ i m H, W i m H →
      ((Itr lo n).stop i H ∧ Qd H) ∨ ((Itr lo n).go i H ∧ ∃ Nx : Hp → Prop, (∀ H', Nx H' → ∃ m', m' < m ∧ W (i + 1) m' H') ∧ ∀ x H', (Itr lo n).yld i H x H' → g x (wipe σ vs) H' fun σ2 H2 => wipe σ2 vs = wipe σ vs ∧ tt σ2 H2 fun b H3 => if b = true then B σ2 H3 Nx else Nx H3) := by
  refine ⟨fun i m H => m = n - i ∧ i ≤ n ∧ Pv i H, ⟨n, by simp, Nat.zero_le _, h0⟩, ?_⟩
  rintro i m H ⟨rfl, hi, p⟩
  by_cases hlt : i < n
  · refine .inr ⟨hlt, Pv (i + 1), fun H' p' => ⟨n - (i + 1), by omega, rfl, hlt, p'⟩, fun x H' y => ?_⟩
    obtain ⟨e, y⟩ := y
    subst e y
    exact hs i _ hlt p
  · have e : i = n := by omega
    subst e
    exact .inl ⟨Nat.le_refl _, hd H p⟩
theorem lci_list {K : PySem.W.Frag} {a : Addr} {xs : List V} {g : TG} {tt : TT} {B : St → Hp → (Hp → Prop) → Prop} {σ : St} {vs : List Nat} {H0 : Hp} {Qd : Hp → Prop} (Pv : Nat → Hp → Prop) (h0 : Pv 0 H0) (hl : ∀ i H, i ≤ xs.length → Pv i H → SqL K H a xs)
    (hs : ∀ i x H, xs[i]? = some x → Pv i H → g x (wipe σ vs) H fun σ2 H2 => wipe σ2 vs = wipe σ vs ∧ tt σ2 H2 fun b H3 => if b = true then B σ2 H3 (Pv (i + 1)) else Pv (i + 1) H3) (hd : ∀ H, Pv xs.length H → Qd H) :
    ∃ W : Nat → Nat → Hp → Prop, (∃ m, W 0 m H0) ∧ ∀ i m H, W i m H →
      ((Itl K a).stop i H ∧ Qd H) ∨ ((Itl K a).go i H ∧ ∃ Nx : Hp → Prop, (∀ H', Nx H' → ∃ m', m' < m ∧ W (i + 1) m' H') ∧ ∀ x H', (Itl K a).yld i H x H' → g x (wipe σ vs) H' fun σ2 H2 => wipe σ2 vs = wipe σ vs ∧ tt σ2 H2 fun b H3 => if b = true then B σ2 H3 Nx else Nx H3) := by
  refine ⟨fun i m H => m = xs.length - i ∧ i ≤ xs.length ∧ Pv i H, ⟨xs.length, by simp, Nat.zero_le _, h0⟩, ?_⟩
  rintro i m H ⟨rfl, hi, p⟩
  have q := hl i H hi p
  by_cases hlt : i < xs.length
  · refine .inr ⟨⟨xs, xs[i], q, by simp [hlt]⟩, Pv (i + 1), fun H' p' => ⟨xs.length - (i + 1), by omega, rfl, hlt, p'⟩, fun x H' y => ?_⟩
    obtain ⟨e, y⟩ := y
    subst e
    exact hs i x _ (y xs q) p
  · have e : i = xs.length := by omega
    subst e
    exact .inl ⟨⟨xs, q, Nat.le_refl _⟩, hd H p⟩
end L2

end
section
set_option maxRecDepth 100000
set_option maxHeartbeats 2000000
namespace PySem.EqO
open PySem PySem.W PySem.Calls PyProof.Rows
open MeetsSeq
section
theorem none_declines (l : Addr) : Gives (Builtin.«NoneType.__eq__» ⟨[.none, .ref l], []⟩) (.val (Value.notImplemented)) := SeqAt.NoneType___eq___none_ref_0 l
theorem int_declines (b : Int) (u : Tok) (l C dx : Addr) :
    Meets (Builtin.«int.__eq__» ⟨[.int b u, .ref l], []⟩) (fun _ R s => s.heap.get? l = some (instObj C dx) ∧ R (.ok (.ret .notImplemented)) s) :=
  .of_wp fun prog w A R s h => by obtain ⟨hp, g, d, tk, os⟩ := s; obtain ⟨hl, h⟩ := h; wp_walk using PySem.AutoSeq1.wpAny_loadPart' hl, wpAny_load hl; exact ⟨_, rfl, h⟩
theorem str_declines (b : Str) (u : Tok) (l C dx : Addr) :
    Meets (Builtin.«str.__eq__» ⟨[.str b u, .ref l], []⟩) (fun _ R s => s.heap.get? l = some (instObj C dx) ∧ R (.ok (.ret .notImplemented)) s) :=
  .of_wp fun prog w A R s h => by obtain ⟨hp, g, d, tk, os⟩ := s; obtain ⟨hl, h⟩ := h; wp_walk using PySem.AutoSeq1.wpAny_loadPart' hl, wpAny_load hl; exact ⟨_, rfl, h⟩
theorem list_declines {prog : Program} {w : World} (a l C dx : Addr) (items : Array Value) (n : Nat) (dd : Option Addr) (sl : Array (Option Value)) :
    MeetsIn prog w (Builtin.«list.__eq__» ⟨[.ref a, .ref l], []⟩) (fun _ R s => s.heap.get? a = some { cls := .type "list", dict := dd, data := .seq items n, slots := sl } ∧ s.heap.get? l = some (instObj C dx) ∧ (∀ (A : Around) (Q' : Bool → Shared → Prop) (E' : Value → Shared → Prop), Q' false s → wpAny (model prog w) A (isSubtype (.ref C) (.type "list")) Q' E' s) ∧ R (.ok (.ret .notImplemented)) s) :=
  .of_wp fun A R s h => by
    obtain ⟨hp, g, d, tk, os⟩ := s
    obtain ⟨hl, hb, hs, h⟩ := h
    wp_walk using PySem.AutoSeq1.wpAny_loadPart' hl, PySem.AutoSeq1.wpAny_loadPart' hb, wpAny_load hb
    refine hs _ _ _ ?_
    wp_walk
    exact ⟨_, rfl, h⟩
theorem tuple_declines {prog : Program} {w : World} (a l C dx : Addr) (items : Array Value) (n : Nat) (dd : Option Addr) (sl : Array (Option Value)) :
    MeetsIn prog w (Builtin.«tuple.__eq__» ⟨[.ref a, .ref l], []⟩) (fun _ R s => s.heap.get? a = some { cls := .type "tuple", dict := dd, data := .seq items n, slots := sl } ∧ s.heap.get? l = some (instObj C dx) ∧ (∀ (A : Around) (Q' : Bool → Shared → Prop) (E' : Value → Shared → Prop), Q' false s → wpAny (model prog w) A (isSubtype (.ref C) (.type "tuple")) Q' E' s) ∧ R (.ok (.ret .notImplemented)) s) :=
  .of_wp fun A R s h => by
    obtain ⟨hp, g, d, tk, os⟩ := s
    obtain ⟨hl, hb, hs, h⟩ := h
    wp_walk using PySem.AutoSeq1.wpAny_loadPart' hl, PySem.AutoSeq1.wpAny_loadPart' hb, wpAny_load hb
    refine hs _ _ _ ?_
    wp_walk
    exact ⟨_, rfl, h⟩
variable {prog : Program} {w : World} {A : Around} {E : Value → Shared → Prop} {s : Shared} {K : Frag}
/-- the right one's own == answers where the left one, of a built-in type, declines -/
theorem cmp_refl {a : Value} {T ida : String} {y C f : Addr} {oy : Obj} {od : Option Obj} {Q : Value → Shared → Prop} (ha : s.TypeIs a T) (h1 : Slot T (cmpInfo .Eq).2.1 ida) (hu : A.units < cLine) (X : K.In s.heap) (I : InstAt s.heap y oy C od)
    (hsub : subIn K (.ref C) (.type T) = some false) (hs : findIn K (.ref C) "__eq__" = some (some (.ref f))) (hf : isFn K (.ref f) = true)
    (hc : ∀ Q' : Value → Shared → Prop, Q' .notImplemented s → wpAny (model prog w) A (call (.builtin ida) [a, .ref y]) Q' E s)
    (h : wpAny (model prog w) A (call (.ref f) [.ref y, a]) (PySem.W.CmpBack Q) E s) : wpAny (model prog w) A (richCompare .Eq a (.ref y)) Q E s := by
  have two : wpAny (model prog w) A (tryCompare (.ref y) "__eq__" a) (fun r s' => ∃ v, r = some v ∧ Q v s') E s := by
    unfold tryCompare
    refine wpAny_bind (ifBound_K X I hs hf (wpAny_mono h (fun v s' hv => ?_) fun _ _ e => e))
    cases v <;> first | exact hv.elim | exact wpAny_pure ⟨_, rfl, hv⟩
  have h1' : Slot T ("__eq__" : Str) ida := h1
  unfold richCompare
  simp only [ha.oneThing_none]
  refine wpAny_holding (wpAny_bind (wpAny_cRoomFor hu ?_))
  refine wpAny_bind (wpAny_typeOf ha (wpAny_bind (I.type.here ?_)))
  have q : (Value.type T != Value.ref C) = true := rfl
  rw [if_pos q]
  refine wpAny_bind ((looks_subIn X hsub).here ?_)
  simp only [Bool.false_eq_true, if_false]
  refine wpAny_bind (m := tryCompare a _ _) (wpAny_tryCompare_declines ha h1' (hc _ ⟨rfl, ?_⟩))
  simp only [Bool.not_false, if_true]
  refine wpAny_bind (wpAny_mono two (fun r s' z => ?_) fun _ _ e => e)
  obtain ⟨v, rfl, hq⟩ := z
  exact wpAny_pure hq
end
end PySem.EqO
namespace L2
open PySem PySem.Spec PyProof.Rows
/-- a class's own ==, which answers with a bool -/
structure OwnE (P : Program) (w : World) (K : PySem.W.Frag) (mg : Str → Option Value) (base : Heap) (C : Addr) (k : Nat) (sp : Sp) : Prop where
  ex : ∃ (f : Addr) (fd : FuncData) (ps : List Str), FnOk P w K mg base CX0 k f fd ps sp ∧ PySem.W.findIn K (.ref C) "__eq__" = some (some (.ref f)) ∧ PySem.W.isFn K (.ref f) = true ∧ Binds K fd ps []
  no : ∀ T : String, T ∈ ["NoneType", "int", "str", "tuple", "list"] → PySem.W.subIn K (.ref C) (.type T) = some false
/-- a value of a built-in type -/
inductive Bt (H : Hp) : V → String → Prop
  | non : Bt H .non "NoneType"
  | int (i : Int) : Bt H (.int i) "int"
  | str (z : Str) : Bt H (.str z) "str"
  | tup {a : Addr} {xs : List V} (e : H a = some (.tup xs)) : Bt H (.ref a) "tuple"
  | lst {a : Addr} {xs : List V} (e : H a = some (.lst xs)) : Bt H (.ref a) "list"
section
variable {X : Cx} {C : Addr} {k : Nat} {sp : Sp}
theorem Bt.mem {H : Hp} {x : V} {T : String} (b : Bt H x T) : T ∈ ["NoneType", "int", "str", "tuple", "list"] := by cases b <;> simp
theorem own_run (O : OwnE X.prog X.w X.K X.mg X.base C k sp) (hr : Room k X.A) {pins : List (Addr × Obj)} {σ : St} {H : Hp} {s : Shared} {a : Addr} {y : V} {u : Value} {Q : VK} {f : Addr} {fd : FuncData} {ps : List Str} (F : FnOk X.prog X.w X.K X.mg X.base CX0 k f fd ps sp) (hb : Binds X.K fd ps []) (I : Inv X pins σ H s) (ry : RelV y u)
    (h : sp [.ref a, y] H (fun v H' => (∃ c, v = .bl c) ∧ Q v H') E0) : wpAny (model X.prog X.w) X.A (call (.ref f) [.ref a, u]) (PySem.W.CmpBack (EP X pins σ Q)) X.xe s := by
  have r2 : Vals [V.ref a, y] [Value.ref a, u] := .cons rfl (.cons ry .nil)
  have hl := F.len _ _ _ _ h
  refine wpAny_call (codeAny_mono (F.run X.A X.stack s H ⟨[.ref a, u], []⟩ [.ref a, u] [.ref a, y] _ E0 hr I.env0 (by
    have := hb s [.ref a, u] I.kIn (by simpa using hl)
    simpa using this) r2 h) fun r s' hq => ?_)
  match r, hq with
  | .ok (.ret w), z =>
    obtain ⟨v, H', I', rv, ⟨c, ec⟩, q⟩ := I.after z
    subst ec
    cases rv
    exact ⟨.bl c, H', I', rfl, q⟩
  | .ok .next, z => exact z.elim
  | .ok .brk, z => exact z.elim
  | .ok .cont, z => exact z.elim
  | .error _, z => exact z.elim
theorem Bt.is {pins : List (Addr × Obj)} {σ : St} {H : Hp} {s : Shared} {x : V} {u : Value} {T : String} (b : Bt H x T) (I : Inv X pins σ H s) (r : RelV x u) : s.TypeIs u T ∧ ∀ M, PySem.W.Looks M s.heap (typeOf u) (.type T) := by
  have keep : ∀ {u : Value} {T : String}, typeOf u = pure (.type T) → ∀ M, PySem.W.Looks M s.heap (typeOf u) (.type T) := fun e M A Q E s' k q => wpAny_of_eq e q
  have refs : ∀ {a : Addr} {o : Obj} {T : String}, s.heap.get? a = some o → o.cls = .type T → ∀ M, PySem.W.Looks M s.heap (typeOf (.ref a)) (.type T) := fun e c M A Q E s' k q => wpAny_typeOf_ref (k _ _ e) (by rw [c]; exact q)
  cases b with
  | non => cases r; exact ⟨rfl, keep rfl⟩
  | int i => obtain ⟨t, rfl⟩ := r; exact ⟨rfl, keep rfl⟩
  | str z => obtain ⟨t, rfl⟩ := r; exact ⟨rfl, keep rfl⟩
  | tup e =>
    cases r
    obtain ⟨its, rv, ⟨o, ho, hc, n, hd⟩, hz⟩ := I.tuple (.inl (.inl e))
    exact ⟨⟨o, ho, hc⟩, refs ho hc⟩
  | lst e =>
    cases r
    obtain ⟨its, rv, hl, hz⟩ := I.list (.inl (.inl e))
    obtain ⟨o, ho, hc, n, hd⟩ := hl.isList
    exact ⟨⟨o, ho, hc⟩, refs ho hc⟩
theorem bt_sub {T : String} (h : T ∈ ["NoneType", "int", "str", "tuple", "list"]) {K : PySem.W.Frag} {C : Addr} : PySem.W.subIn K (.type T) (.ref C) = some false := by
  have key : ∀ {T : String} {l : List String}, fastBuiltinMro T = some (l.map Value.type) → PySem.W.subIn K (.type T) (.ref C) = some false := fun {T l} e => by
    show (fastBuiltinMro T).map (·.contains (.ref C)) = some false
    rw [e]
    show some ((l.map Value.type).contains (Value.ref C)) = some false
    congr 1
    induction l with
    | nil => rfl
    | cons a l ih =>
      have ih' : (l.map Value.type).contains (Value.ref C) = false := by
        rw [Bool.eq_false_iff]
        intro z
        obtain ⟨b, _, e2⟩ := List.mem_map.mp (List.contains_iff_mem.mp z)
        cases e2
      rw [List.map_cons, List.contains_cons, ih']
      rfl
  simp only [List.mem_cons, List.not_mem_nil, or_false] at h
  rcases h with rfl | rfl | rfl | rfl | rfl
  · exact key (l := ["NoneType", "object"]) (by decide +kernel)
  · exact key (l := ["int", "object"]) (by decide +kernel)
  · exact key (l := ["str", "object"]) (by decide +kernel)
  · exact key (l := ["tuple", "object"]) (by decide +kernel)
  · exact key (l := ["list", "object"]) (by decide +kernel)
/-- == where the left one is an instance -/
theorem op_eqL (O : OwnE X.prog X.w X.K X.mg X.base C k sp) (hr : Room k X.A) : OpR X (compareOp .Eq) (fun x y H Q => ∃ a dx fs, x = .ref a ∧ H a = some (.ins C dx fs) ∧ ((∃ T, Bt H y T) ∨ ∃ b dy gs, y = .ref b ∧ H b = some (.ins C dy gs)) ∧ sp [.ref a, y] H (fun v H' => (∃ c, v = .bl c) ∧ Q v H') E0) := by
  intro pins s σ H x y v u Q I rx ry h
  obtain ⟨a, dx, fs, rfl, ha, ty, h⟩ := h
  cases rx
  obtain ⟨f, fd, ps, F, hs, hf, hb⟩ := O.ex
  obtain ⟨mA, J, _⟩ := ins_get I.hok ha
  obtain ⟨od, J, _⟩ := J.look
  obtain ⟨m, hF⟩ := I.fr
  show wpAny (model X.prog X.w) X.A (richCompare .Eq (.ref a) u) (EP X pins σ Q) X.xe s
  rcases ty with ⟨T, bt⟩ | ⟨b, dy, gs, rfl, hb2⟩
  · obtain ⟨_, lk⟩ := bt.is I ry
    exact PySem.W.cmp_K (op := .Eq) (tb := .type T) hr.units0 hF I.ok.mod.kin J (lk _) (by unfold PySem.W.notFirst; rw [bt_sub bt.mem]; simp) hs hf (own_run O hr F hb I ry h)
  · have ry' := ry
    cases ry'
    obtain ⟨mB, J', _⟩ := ins_get I.hok hb2
    obtain ⟨od', J', _⟩ := J'.look
    exact PySem.W.cmp_K (op := .Eq) (tb := .ref C) hr.units0 hF I.ok.mod.kin J J'.type (by simp [PySem.W.notFirst]) hs hf (own_run O hr F hb I ry h)
/-- == where the right one alone is an instance -/
theorem op_eqR (O : OwnE X.prog X.w X.K X.mg X.base C k sp) (hr : Room k X.A) : OpR X (compareOp .Eq) (fun x y H Q => ∃ a dx fs, y = .ref a ∧ H a = some (.ins C dx fs) ∧ (∃ T, Bt H x T) ∧ sp [.ref a, x] H (fun v H' => (∃ c, v = .bl c) ∧ Q v H') E0) := by
  intro pins s σ H x y v u Q I rx ry h
  obtain ⟨a, dx, fs, rfl, ha, ⟨T, bt⟩, h⟩ := h
  cases ry
  obtain ⟨f, fd, ps, F, hs, hf, hb⟩ := O.ex
  obtain ⟨mA, J, _⟩ := ins_get I.hok ha
  obtain ⟨od, J, _⟩ := J.look
  obtain ⟨tI, lk⟩ := bt.is I rx
  have no := O.no T bt.mem
  have sb : ∀ (A : Around) (Q' : Bool → Shared → Prop) (E' : Value → Shared → Prop), Q' false s → wpAny (model X.prog X.w) A (isSubtype (.ref C) (.type T)) Q' E' s := fun A Q' E' q => (PySem.W.looks_subIn I.kIn no).here q
  have ho : s.heap.get? a = some (PySem.W.instObj C dx) := by
    obtain ⟨_, _, _, e, _⟩ := (show ObjOk X.prog X.w H s.heap a (.ins C dx fs) from I.hok a _ ha)
    exact e
  show wpAny (model X.prog X.w) X.A (richCompare .Eq v (.ref a)) (EP X pins σ Q) X.xe s
  have fin := own_run O hr F hb I rx h
  have un := hr.units0
  cases bt with
  | non =>
    cases rx
    exact PySem.EqO.cmp_refl tI PySem.F.slot_NoneType_eq un I.kIn J no hs hf (fun Q' q => call_gives PySem.F.slot_NoneType_eq rfl PySem.F.entry_NoneType_eq (PySem.F.args_NoneType_eq_2 _ _) (PySem.EqO.none_declines a) q) fin
  | int i =>
    obtain ⟨t, rfl⟩ := rx
    exact PySem.EqO.cmp_refl tI PySem.F.slot_int_eq un I.kIn J no hs hf (fun Q' q => call_meets PySem.F.slot_int_eq rfl PySem.F.entry_int_eq (PySem.F.args_int_eq_2 _ _) (PySem.EqO.int_declines i t a C dx) ⟨ho, q⟩) fin
  | str z =>
    obtain ⟨t, rfl⟩ := rx
    exact PySem.EqO.cmp_refl tI PySem.F.slot_str_eq un I.kIn J no hs hf (fun Q' q => call_meets PySem.F.slot_str_eq rfl PySem.F.entry_str_eq (PySem.F.args_str_eq_2 _ _) (PySem.EqO.str_declines z t a C dx) ⟨ho, q⟩) fin
  | tup e =>
    cases rx
    obtain ⟨its, rv, ⟨⟨oc, od2, oda, osl⟩, ho2, hc2, n2, hd2⟩, hz⟩ := I.tuple (.inl (.inl e))
    cases hc2
    cases hd2
    exact PySem.EqO.cmp_refl tI PySem.F.slot_tuple_eq un I.kIn J no hs hf (fun Q' q => call_meetsIn PySem.F.slot_tuple_eq ⟨_, ho2, rfl⟩ PySem.F.entry_tuple_eq (PySem.F.args_tuple_eq_2 _ _) (PySem.EqO.tuple_declines _ a C dx _ _ _ _) ⟨ho2, ho, sb, q⟩) fin
  | lst e =>
    cases rx
    obtain ⟨its, rv, hl, hz⟩ := I.list (.inl (.inl e))
    obtain ⟨⟨oc, od2, oda, osl⟩, ho2, hc2, n2, hd2⟩ := hl.isList
    cases hc2
    cases hd2
    exact PySem.EqO.cmp_refl tI PySem.F.slot_list_eq un I.kIn J no hs hf (fun Q' q => call_meetsIn PySem.F.slot_list_eq ⟨_, ho2, rfl⟩ PySem.F.entry_list_eq (PySem.F.args_list_eq_2 _ _) (PySem.EqO.list_declines _ a C dx _ _ _ _) ⟨ho2, ho, sb, q⟩) fin
/-- len of an instance, by its class's own __len__ -/
theorem cr_lenO {f : Addr} {fd : FuncData} {ps : List Str} (F : FnOk X.prog X.w X.K X.mg X.base CX0 k f fd ps sp) (hs : PySem.W.findIn X.K (.ref C) "__len__" = some (some (.ref f))) (hf : PySem.W.isFn X.K (.ref f) = true) (hb : Binds X.K fd ps []) (hr : Room (k + 1) X.A) :
    CallR X (.builtin "len") (fun xs H Q => ∃ a dx fs, xs = [.ref a] ∧ H a = some (.ins C dx fs) ∧ sp [.ref a] H (fun v H' => ∃ n : Nat, v = .int (n : Int) ∧ n < 1000 ∧ Q (.int (n : Int)) H') E0) := by
  intro pins s σ H xs us Q I r h
  obtain ⟨a, dx, fs, rfl, ha, h⟩ := h
  obtain ⟨u, rfl, ru⟩ := vals1 r
  obtain rfl : u = Value.ref a := ru
  obtain ⟨mA, J, _⟩ := ins_get I.hok ha
  obtain ⟨od, J, _⟩ := J.look
  obtain ⟨m, hF⟩ := I.fr
  have hl := F.len _ _ _ _ h
  have e0 : Env0 X.prog X.w X.K X.mg X.base X.A.in1 X.stack s H := by
    have e := I.env0
    exact ⟨e.frames, e.mod, e.bs, e.bsz, e.funs, e.frf, e.hok, e.bare⟩
  refine PySem.W.len_K hF I.ok.mod.kin J hs hf (wpAny_call (codeAny_mono (F.run X.A.in1 X.stack s H ⟨[.ref a], []⟩ [.ref a] [.ref a] _ E0 hr.in1 e0 (by
    have := hb s [.ref a] I.kIn (by simpa using hl)
    simpa using this) (.cons rfl .nil) h) fun r s' hq => ?_))
  match r, hq with
  | .ok (.ret w), z =>
    obtain ⟨v, H', I', rv, n, ev, lt, q⟩ := I.after z
    subst ev
    obtain ⟨t, rfl⟩ := rv
    exact ⟨⟨by omega, by omega⟩, .int (n : Int), H', I'.tok _, ⟨_, rfl⟩, q⟩
  | .ok .next, z => exact z.elim
  | .ok .brk, z => exact z.elim
  | .ok .cont, z => exact z.elim
  | .error _, z => exact z.elim
end
end L2

end
section
set_option maxRecDepth 100000
namespace L2
open PySem PySem.Spec PyProof.Rows
/-- the making of an instance with defaults -/
structure NCalD (P : Program) (w : World) (K : PySem.W.Frag) (mg : Str → Option Value) (base : Heap) (C : Addr) (x : Str) (k : Nat) (sp : Sp) (dvs : List V) : Prop where
  ex : ∃ (f : Addr) (fd : FuncData) (ps : List Str) (ds : List Value), FnOk P w K mg base CX0 k f fd ps sp ∧ Mk K C f ∧ Binds K fd ps ds ∧ Vals dvs ds
  mg : mg x = some (.ref C)
section
variable {X : Cx} {e : Expr} {es : List Expr} {t : TA} {x : Str} {k : Nat} {sp : Sp} {C : Addr} {dvs : List V} {p pos : Pos}
def tNCalD (C : Addr) (sp : Sp) (dvs : List V) (t : TA) : TE := fun σ H Q => t σ H fun vs H1 => ∀ x dx, H1 x = none → H1 dx = none → dx ≠ x → sp (.ref x :: (vs ++ dvs)) (upd (upd H1 dx (.own x)) x (.ins C dx [])) (fun v H2 => v = .non ∧ Q (.ref x) H2) E0
theorem pe_ncalD (c : NCalD X.prog X.w X.K X.mg X.base C x k sp dvs) (hr : Room (k + 1) X.A) (ha : PA X (e :: es) t) (hg : Gl X x := by rfl) (hdb : (x == ("__debug__" : Str)) = false := by decide)
    (he : starEach (e :: es) X.env = (false, eval e X.env) :: starEach es X.env := by rfl) (hpl : (backTo pos (starEach es X.env)).any (·.1) = false := by rfl) :
    PE X (.Call (.Name x p) (e :: es) [] pos) (tNCalD C sp dvs t) := by
  obtain ⟨f, fd, ps, ds, F, M, hb, hd⟩ := c.ex
  exact (pe_make M F hr hg c.mg hb hd pass0 ha hdb he hpl).to fun σ H Q q => q
end
/-! ### a static method, read off its class -/
structure SCal (P : Program) (w : World) (K : PySem.W.Frag) (mg : Str → Option Value) (base : Heap) (C : Addr) (mc : Value) (m : Str) (k : Nat) (sp : Sp) : Prop where
  ex : ∃ (p f : Addr) (rest : List Value) (fd : FuncData) (ps : List Str), FnOk P w K mg base CX0 k f fd ps sp ∧ PySem.W.findCls K (.ref C) mc m = some (.get (.builtin "staticmethod.__get__") (.ref p) .none (.ref C)) ∧ PySem.W.recIn K p "staticmethod" = some (.ref f :: rest) ∧ PySem.W.keepIn K (.ref f) = true ∧ Binds K fd ps []
def tSMeth (C : Addr) (sp : Sp) (ta : TE) (t : TA) : TE := fun σ H Q => ta σ H fun x H1 => x = .ref C ∧ t σ H1 fun vs H2 => sp vs H2 Q E0
section
variable {X : Cx} {k : Nat} {C : Addr} {mc : Value} {sp : Sp} {o e : Expr} {es : List Expr} {m : Str} {pos apos : Pos} {ta : TE} {t : TA} {pl : Sem Bool}
theorem pe_smeth (he : PE X o ta) (r : ClX.CRead X.K C mc) (c : SCal X.prog X.w X.K X.mg X.base C mc m k sp) (hr : Room k X.A) (ha : PA X (e :: es) t)
    (hst : starEach (e :: es) X.env = (false, eval e X.env) :: starEach es X.env := by rfl) (hpl : (backTo pos (starEach es X.env)).any (·.1) = false := by rfl)
    (ht : eval (.Call (.Attribute o m apos) (e :: es) [] pos) X.env = (do
      let ov ← eval o X.env
      standAt apos.atName
      let (f, first) ← holding [ov] (getMethod ov m pl)
      callWith pos f first (backTo pos (starEach (e :: es) X.env)) (backToKw pos (keywordEach [] X.env))) := by rfl) :
    PE X (.Call (.Attribute o m apos) (e :: es) [] pos) (tSMeth C sp ta t) := by
  obtain ⟨p, f, rest, fd, ps, F, at_, rc, hk, hb⟩ := c.ex
  refine ⟨fun pins s σ H Q I h => ?_⟩
  refine PySem.W.methodCall_KW (pl := pl) (thn (he.run pins s σ H _ I h) fun u s1 ⟨x, H1, I1, rx, ex, q⟩ => ?_) ht
  subst ex
  obtain rfl : u = Value.ref C := rx
  refine PySem.W.method_cls I1.kIn r.ga (PySem.W.cls_bind I1.kIn r.rd at_ (wpAny_call (PySem.W.sm_get (s := { s1 with toks := s1.toks + 1 }) I1.kIn rc (PySem.W.handed_on rfl ?_))))
  have I2 := I1.tok (s1.toks + 1)
  refine PySem.W.callWith_K (h₀ := X.base) I2.ok.mod.kin hk (thn (ha.run pos _ _ σ H1 _ I2 q) fun us s3 ⟨vs, H2, I3, rv, q2⟩ => ⟨I3.kIn, ?_⟩) hst hpl
  have q3 : sp (vs ++ []) H2 Q E0 := by rw [List.append_nil]; exact q2
  exact run_fn F hr hb .nil pass0 I3 rv q3
end
end L2

end
section
set_option maxRecDepth 100000
namespace L2
open PySem PySem.Spec PyProof.Rows
/-! ### a call that knows nothing of one list leaves that list as it is, and builds nothing upon it -/
section
variable {P : Program} {w : World} {K : PySem.W.Frag} {mg : Str → Option Value} {base : Heap} {k : Nat} {f : Addr} {fd : FuncData} {ps : List Str}
/-- H without what stands at b -/
def hide (H : Hp) (b : Addr) : Hp := fun a => if a = b then none else H a
theorem hide_same {H : Hp} {b : Addr} : hide H b b = none := if_pos rfl
theorem hide_ne {H : Hp} {a b : Addr} (h : a ≠ b) : hide H b a = H a := if_neg h
theorem hide_some {H : Hp} {a b : Addr} {o : HO} (h : hide H b a = some o) : a ≠ b ∧ H a = some o := by
  have ne : a ≠ b := fun e => by
    rw [e, hide_same] at h
    cases h
  exact ⟨ne, (hide_ne (H := H) ne).symm.trans h⟩
/-- an object asks of the others for tuples and for the dicts of instances alone -/
theorem objOk_swap {H H2 : Hp} {h : Heap} {a : Addr} (tups : ∀ c xs, H c = some (.tup xs) → H2 c = some (.tup xs)) (owns : ∀ c x, H c = some (.own x) → H2 c = some (.own x)) : ∀ o : HO, ObjOk P w H h a o → ObjOk P w H2 h a o
  | .lst _, k => k
  | .tup _, k => k
  | .dK _, k => k
  | .dT _, ⟨l, s, xs, p, r⟩ => ⟨l, s, xs, by
    clear r
    induction p with
    | nil => exact .nil
    | cons e _ ih => exact .cons ⟨e.1, tups _ _ e.2.1, e.2.2⟩ (ih (Nat.le_of_succ_le l)), r⟩
  | .set _ _, k => k
  | .ins _ _ _, ⟨d, r⟩ => ⟨owns _ _ d, r⟩
  | .own _, k => k
  | .xd _, k => k
  | .met _ _, k => k
  | .rng _ _, k => k
  | .frz _ u, ⟨d, r⟩ => ⟨d, objOk_swap tups owns u r⟩
  | .tbl _, k => k
  | .ext _, k => k
theorem hOk_hide {H : Hp} {h : Heap} {b : Addr} {xs : List V} (hb : H b = some (.lst xs)) (k : HOk P w H h) : HOk P w (hide H b) h := fun a o ha =>
  objOk_swap (fun c ys e => by rw [hide_ne (ne_of e hb (by intro z; cases z))]; exact e) (fun c x e => by rw [hide_ne (ne_of e hb (by intro z; cases z))]; exact e) o (k a o (hide_some ha).2)
theorem env0_hide {A : Around} {outer : List Env} {s : Shared} {H : Hp} {b : Addr} {xs : List V} (hb : H b = some (.lst xs)) (e : Env0 P w K mg base A outer s H) : Env0 P w K mg base A outer s (hide H b) where
  frames := e.frames
  mod := e.mod
  bs := fun c o q => ⟨(e.bs c o q).1, by
    by_cases z : c = b
    · rw [z, hide_same]
    · rw [hide_ne z]; exact (e.bs c o q).2⟩
  bsz := e.bsz
  funs := e.funs
  frf := fun c hc => by
    by_cases z : c = b
    · rw [z, hide_same]
    · rw [hide_ne z]; exact e.frf c hc
  hok := hOk_hide hb e.hok
  bare := e.bare
/-- a spec, asked of the heap without the list at b -/
def Off (sp : Sp) : Sp := fun vs H Q E => ∃ (b : Addr) (xs : List V), H b = some (.lst xs) ∧ sp vs (hide H b) (fun v H' => H' b = none → Q v (upd H' b (.lst xs))) E
theorem FnOk.off {sp : Sp} (F : FnOk P w K mg base CX0 k f fd ps sp) : FnOk P w K mg base CX0 k f fd ps (Off sp) where
  len := fun vs H Q E ⟨b, xs, _, h⟩ => F.len _ _ _ _ h
  run := fun A outer s H args us vs Q E hr he hb hv ⟨b, xs, hbx, hs⟩ => by
    refine codeAny_mono (F.run A outer s (hide H b) args us vs _ E hr (env0_hide hbx he) hb hv hs) fun r s' hq => ?_
    cases r with
    | error e => exact hq
    | ok fl =>
      cases fl with
      | ret u =>
        obtain ⟨v, H', ho, hg, un, hok, rv, q⟩ := hq
        obtain ⟨hl, its, n, vv, hget⟩ := he.hok b _ hbx
        have nf : b ∉ frs outer := fun z => by
          rw [he.frf b z] at hbx
          cases hbx
        have kept := un.keep b _ hget hide_same nf List.not_mem_nil
        have gone := un.free b _ hget hide_same List.not_mem_nil
        have off : ∀ {c : Addr}, H c = none → c ≠ b ∧ hide H b c = none := fun {c} e => by
          have ne : c ≠ b := fun z => by rw [z, hbx] at e; cases e
          exact ⟨ne, by rw [hide_ne ne]; exact e⟩
        refine ⟨v, upd H' b (.lst xs), ho, hg, ⟨fun c o q n => un.keep c o q (off n).2, fun c o q n => un.slot c o q (off n).2, fun c o q n x => ?_, un.there, fun c ys e => ?_, fun c o u e => ?_, fun c ys e => ?_⟩, fun a o ha => ?_, rv, q gone⟩
        · rw [upd_ne (off n).1]
          exact un.free c o q (off n).2 x
        · have ne : c ≠ b := ne_of e hbx (by intro z; cases z)
          rw [upd_ne ne]
          exact un.tups c ys (by rw [hide_ne ne]; exact e)
        · have ne : c ≠ b := ne_of e hbx (by intro z; cases z)
          rw [upd_ne ne]
          exact un.frzs c o u (by rw [hide_ne ne]; exact e)
        · have ne : c ≠ b := ne_of e hbx (by intro z; cases z)
          obtain ⟨more, m⟩ := un.tbls c ys (by rw [hide_ne ne]; exact e)
          exact ⟨more, by rw [upd_ne ne]; exact m⟩
        · by_cases z : a = b
          · subst z
            rw [upd_same] at ha
            cases ha
            exact ⟨hl, its, n, vv, kept⟩
          · rw [upd_ne z] at ha
            have keepH : ∀ c o, H' c = some o → upd H' b (.lst xs) c = some o := fun c o e => by
              rw [upd_ne (ne_of_none e gone)]
              exact e
            exact objOk_swap (fun c ys e => keepH c _ e) (fun c x e => keepH c _ e) o (hok a o ha)
      | next => exact hq
      | brk => exact hq
      | cont => exact hq
end
end L2

end
section
set_option maxRecDepth 100000
namespace Hue
open PySem PySem.Spec PyProof.Rows L2
/-! ### the text by places -/
def top (i : Nat) : Stmt := PySem.Challenge.pw_huefall_k04_shapes.main.body.getD i (.Pass ⟨0, 0, 0, 0⟩)
/-- what the top has left: the class, the built-ins' names -/
structure Txt (K : PySem.W.Frag) (mg : Str → Option Value) (C : Addr) : Prop where
  cl : Cls K C
  nCount : NoAttr K C "count"
  nHues : NoAttr K C "hues"
  nBen : NoAttr K C "_beneath"
  nWires : NoAttr K C "wires"
  nAbove : NoAttr K C "_above"
  nDirect : NoAttr K C "_direct"
  nOrder : NoAttr K C "_order"
  mgC : mg "House" = some (.ref C)
  con : ∃ mc, ClX.CRead K C mc ∧ (∃ u, ClX.CVal K C mc "MOST_LAMPS" (.int 16) u) ∧ ∃ u, ClX.CVal K C mc "MOST_HUES" (.int 10) u
  len : mg "len" = none
  range : mg "range" = none
  isinstance : mg "isinstance" = none
  int : mg "int" = none
  bool : mg "bool" = none
  tuple : mg "tuple" = none
  list : mg "list" = none
  set : mg "set" = none
  enumerate : mg "enumerate" = none
  sorted : mg "sorted" = none
  min : mg "min" = none
  all : mg "all" = none
  any : mg "any" = none
  abs : mg "abs" = none
  reversed : mg "reversed" = none
  max : mg "max" = none
  str : mg "str" = none
  repr : mg "repr" = none
  zip : mg "zip" = none
  sum : mg "sum" = none
section
variable {P : Program} {w : World} {K : PySem.W.Frag} {mg : Str → Option Value} {base : Heap} {C : Addr}
/-! ### whole numbers -/
/-- the kinds of values that are asked -/
inductive Kd (H : Hp) : V → Prop
  | int (i : Int) : Kd H (.int i)
  | bl (b : Bool) : Kd H (.bl b)
  | non : Kd H .non
  | str (s : Str) : Kd H (.str s)
  | tup {t : Addr} {xs : List V} (h : H t = some (.tup xs)) : Kd H (.ref t)
  | lst {t : Addr} {xs : List V} (h : H t = some (.lst xs)) : Kd H (.ref t)
theorem Kd.same {H H' : Hp} {v : V} (k : Kd H v) (s : Same H H') : Kd H' v := by
  cases k with
  | int i => exact .int i
  | bl b => exact .bl b
  | non => exact .non
  | str s => exact .str s
  | tup h => exact .tup (s _ _ h)
  | lst h => exact .lst (s _ _ h)
def isI : V → Bool
  | .int _ => true
  | _ => false
def inI (v : V) (lo hi : Int) : Bool := match v with
  | .int i => decide (lo ≤ i) && decide (i ≤ hi)
  | _ => false
abbrev s_is_whole : Stmt := top 6
theorem sc_is_whole : FnScope ["value"] ["value"] (defScope s_is_whole) := ⟨rfl, rfl, rfl, by decide +kernel, rfl, by decide +kernel, by decide +kernel⟩
-- slots of is_whole: 0 value
def spWholeV : Sp := fun vs H Q _ => ∃ v, vs = [v] ∧ Kd H v ∧ Q (.bl (isI v)) H
theorem ok_is_whole (T : Txt K mg C) {f : Addr} {fd : FuncData} (F : Fun K "is_whole" "is_whole" s_is_whole f fd) : FnOk P w K mg base CX0 1 f fd ["value"] spWholeV := by
  refine F.ok sc_is_whole (fun vs H Q E h => ?_) (fun cdv A outer s H vs Q E hr h => ?_)
  · obtain ⟨v, rfl, _⟩ := h; rfl
  · obtain ⟨v, rfl, k, q⟩ := h
    refine ⟨_, (pss_one (ps_ret (pe_and (pe_callB (isi_ K) (by rfl) T.isinstance b_isinstance (pa_cons (pv 0) (pa_cons (pe_bltn (v := .ty "int") (by rfl) T.int b_int rfl) pa_nil))) (pe_one (pe_not (pe_callB (isi_ K) (by rfl) T.isinstance b_isinstance (pa_cons (pv 0) (pa_cons (pe_bltn (v := .ty "bool") (by rfl) T.bool b_bool rfl) pa_nil)))))))), ?_⟩
    cases k with
    | int i =>
      refine ⟨_, rfl, _, _, _, _, true, rfl, .ty _, .base (.int i), kit_ty (by decide +kernel), true, rfl, iteT ?_⟩
      exact ⟨_, rfl, _, _, _, _, false, rfl, .ty _, .base (.int i), kit_ty (by decide +kernel), false, rfl, q⟩
    | bl b =>
      refine ⟨_, rfl, _, _, _, _, true, rfl, .ty _, .base (.bl b), kit_ty (by decide +kernel), true, rfl, iteT ?_⟩
      exact ⟨_, rfl, _, _, _, _, true, rfl, .ty _, .base (.bl b), kit_ty (by decide +kernel), true, rfl, q⟩
    | non => exact ⟨_, rfl, _, _, _, _, false, rfl, .ty _, .base .non, kit_ty (by decide +kernel), false, rfl, iteF q⟩
    | str s => exact ⟨_, rfl, _, _, _, _, false, rfl, .ty _, .base (.str s), kit_ty (by decide +kernel), false, rfl, iteF q⟩
    | tup h => exact ⟨_, rfl, _, _, _, _, false, rfl, .ty _, .base (.tup h), kit_ty (by decide +kernel), false, rfl, iteF q⟩
    | lst h => exact ⟨_, rfl, _, _, _, _, false, rfl, .ty _, .base (.lst h), kit_ty (by decide +kernel), false, rfl, iteF q⟩
abbrev s_is_whole_in : Stmt := top 7
theorem sc_is_whole_in : FnScope ["value", "low", "high"] ["value", "low", "high"] (defScope s_is_whole_in) := ⟨rfl, rfl, rfl, by decide +kernel, rfl, by decide +kernel, by decide +kernel⟩
-- slots of is_whole_in: 0 value, 1 low, 2 high
def spWholeInV : Sp := fun vs H Q _ => ∃ v lo hi, vs = [v, .int lo, .int hi] ∧ Kd H v ∧ Q (.bl (inI v lo hi)) H
def spWholeIn : Sp := fun vs H Q _ => ∃ v lo hi, vs = [.int v, .int lo, .int hi] ∧ Q (.bl (decide (lo ≤ v) && decide (v ≤ hi))) H
theorem whole_in_int (vs : List V) (H : Hp) (Q : VK) (E : XK) (h : spWholeIn vs H Q E) : spWholeInV vs H Q E := by
  obtain ⟨v, lo, hi, e, q⟩ := h
  exact ⟨.int v, lo, hi, e, .int v, q⟩
theorem ok_is_whole_in (T : Txt K mg C) {f : Addr} {fd : FuncData} (F : Fun K "is_whole_in" "is_whole_in" s_is_whole_in f fd) (c_is_whole : Cal P w K mg base "is_whole" 1 spWholeV) : FnOk P w K mg base CX0 2 f fd ["value", "low", "high"] spWholeInV := by
  refine F.ok sc_is_whole_in (fun vs H Q E h => ?_) (fun cdv A outer s H vs Q E hr h => ?_)
  · obtain ⟨v, lo, hi, rfl, _⟩ := h; rfl
  · obtain ⟨v, lo, hi, rfl, k, q⟩ := h
    refine ⟨_, (pss_one (ps_ret (pe_and (pe_cal c_is_whole (hr.mono (by decide)) (pa_cons (pv 0) pa_nil)) (pe_one (pe_chain op_le op_le (pv 1) (pv 0) (pv 2)))))), ?_⟩
    refine ⟨_, rfl, v, rfl, k, ?_⟩
    cases v with
    | int i =>
      refine ⟨true, rfl, iteT ?_⟩
      refine ⟨_, rfl, _, rfl, _, _, rfl, rfl, _, rfl, ?_⟩
      refine ite2 (fun h1 => ?_) (fun h1 => ?_)
      · refine ⟨_, rfl, _, _, rfl, rfl, ?_⟩
        have e : inI (.int i) lo hi = decide (i ≤ hi) := by
          show (decide (lo ≤ i) && decide (i ≤ hi)) = _
          rw [h1, Bool.true_and]
        rw [e] at q
        exact q
      · have e : inI (.int i) lo hi = false := by
          show (decide (lo ≤ i) && decide (i ≤ hi)) = _
          rw [Bool.eq_false_iff.mpr h1, Bool.false_and]
        rw [e] at q
        exact q
    | _ => exact ⟨false, rfl, iteF q⟩
/-! ### the checks of a house's parts -/
abbrev s_check_count : Stmt := top 12
theorem sc_check_count : FnScope ["count"] ["count"] (defScope s_check_count) := ⟨rfl, rfl, rfl, by decide +kernel, rfl, by decide +kernel, by decide +kernel⟩
-- slots of check_count: 0 count
def spCheckCount : Sp := fun vs H Q _ => ∃ c : Int, vs = [.int c] ∧ 1 ≤ c ∧ c ≤ 16 ∧ Q .non H
theorem ok_check_count (T : Txt K mg C) {f : Addr} {fd : FuncData} (F : Fun K "check_count" "check_count" s_check_count f fd) (c_is_whole_in : Cal P w K mg base "is_whole_in" 2 spWholeIn) : FnOk P w K mg base CX0 3 f fd ["count"] spCheckCount := by
  refine F.ok sc_check_count (fun vs H Q E h => ?_) (fun cdv A outer s H vs Q E hr h => ?_)
  · obtain ⟨c, rfl, _⟩ := h; rfl
  · obtain ⟨c, rfl, h1, h2, q⟩ := h
    obtain ⟨mc, rd, ⟨u, cv⟩, _⟩ := T.con
    refine ⟨_, (pss_one (ps_if (pt_not (pt_val (pe_cal c_is_whole_in (hr.mono (by decide)) (pa_cons (pv 0) (pa_cons pe_int (pa_cons (cval_ K (pe_glob (v := .ref C) (by rfl) T.mgC rfl)) pa_nil))))))
      pss_never pss_nil)), ?_⟩
    refine ⟨_, rfl, C, mc, _, _, rfl, rd, cv, c, 1, 16, rfl, _, rfl, ifF ?_ q⟩
    rw [decide_eq_true h1, decide_eq_true h2] <;> rfl
abbrev s_check_hues : Stmt := top 13
theorem sc_check_hues : FnScope ["hues"] ["hues"] (defScope s_check_hues) := ⟨rfl, rfl, rfl, by decide +kernel, rfl, by decide +kernel, by decide +kernel⟩
-- slots of check_hues: 0 hues
def spCheckHues : Sp := fun vs H Q _ => ∃ c : Int, vs = [.int c] ∧ 2 ≤ c ∧ c ≤ 10 ∧ Q .non H
theorem ok_check_hues (T : Txt K mg C) {f : Addr} {fd : FuncData} (F : Fun K "check_hues" "check_hues" s_check_hues f fd) (c_is_whole_in : Cal P w K mg base "is_whole_in" 2 spWholeIn) : FnOk P w K mg base CX0 3 f fd ["hues"] spCheckHues := by
  refine F.ok sc_check_hues (fun vs H Q E h => ?_) (fun cdv A outer s H vs Q E hr h => ?_)
  · obtain ⟨c, rfl, _⟩ := h; rfl
  · obtain ⟨c, rfl, h1, h2, q⟩ := h
    obtain ⟨mc, rd, _, ⟨u, cv⟩⟩ := T.con
    refine ⟨_, (pss_one (ps_if (pt_not (pt_val (pe_cal c_is_whole_in (hr.mono (by decide)) (pa_cons (pv 0) (pa_cons pe_int (pa_cons (cval_ K (pe_glob (v := .ref C) (by rfl) T.mgC rfl)) pa_nil))))))
      pss_never pss_nil)), ?_⟩
    refine ⟨_, rfl, C, mc, _, _, rfl, rd, cv, c, 2, 10, rfl, _, rfl, ifF ?_ q⟩
    rw [decide_eq_true h1, decide_eq_true h2] <;> rfl
abbrev s_is_wire : Stmt := top 14
theorem sc_is_wire : FnScope ["count", "value", "upper", "lower"] ["count", "value"] (defScope s_is_wire) := ⟨rfl, rfl, rfl, by decide +kernel, rfl, by decide +kernel, by decide +kernel⟩
-- slots of is_wire: 0 count, 1 value, 2 upper, 3 lower
def spIsWire : Sp := fun vs H Q _ => ∃ (c u l : Int) (t : Addr), vs = [.int c, .ref t] ∧ H t = some (.tup [.int u, .int l]) ∧ 0 ≤ u ∧ u < c ∧ 0 ≤ l ∧ l < c ∧ u ≠ l ∧ Q (.bl true) H
theorem ok_is_wire (T : Txt K mg C) {f : Addr} {fd : FuncData} (F : Fun K "is_wire" "is_wire" s_is_wire f fd) (c_is_whole_in : Cal P w K mg base "is_whole_in" 2 spWholeIn) : FnOk P w K mg base CX0 3 f fd ["count", "value"] spIsWire := by
  refine F.ok sc_is_wire (fun vs H Q E h => ?_) (fun cdv A outer s H vs Q E hr h => ?_)
  · obtain ⟨c, u, l, t, rfl, _⟩ := h; rfl
  · obtain ⟨c, u, l, t, rfl, ht, u0, u1, l0, l1, ne, q⟩ := h
    refine ⟨_, (pss_cons (ps_if (PW.pt (pw_or (pt_not (pt_val (pe_callB (isi_ K) (by rfl) T.isinstance b_isinstance (pa_cons (pv 1) (pa_cons (pe_bltn (v := .ty "tuple") (by rfl) T.tuple b_tuple rfl) pa_nil))))) (pw_or1 (pt_cmpR op_ne (pe_callB (lenS_ K) (by rfl) T.len b_len (pa_cons (pv 1) pa_nil)) pe_int (nomark _)))))
      (pss_one (ps_ret pe_bl)) pss_nil)
      (pss_cons (ps_asg (pv 1) (pg_tup (by rfl) (pgs_cons (pg_name (i := 2) sc_is_wire.nd rfl (by first | exact Or.inl rfl | exact Or.inr rfl)) (pgs_cons (pg_name (i := 3) sc_is_wire.nd rfl (by first | exact Or.inl rfl | exact Or.inr rfl)) pgs_nil))))
      (pss_one (ps_ret (pe_and (pe_cal c_is_whole_in (hr.mono (by decide)) (pa_cons (pv 2) (pa_cons pe_int (pa_cons (pe_op op_sub (pv 0) pe_int) pa_nil)))) (pe_and (pe_cal c_is_whole_in (hr.mono (by decide)) (pa_cons (pv 3) (pa_cons pe_int (pa_cons (pe_op op_sub (pv 0) pe_int) pa_nil)))) (pe_one (pe_cmpR op_ne (pv 2) (pv 3) (nomark _))))))))), ?_⟩
    refine ⟨_, rfl, _, _, _, _, true, rfl, .ty _, .base (.tup ht), kit_ty (by decide +kernel), true, rfl, iteF ?_⟩
    refine ⟨_, rfl, t, _, rfl, .inr (SqT.of ht), rfl, _, rfl, iteNS rfl ?_⟩
    refine ⟨_, rfl, t, _, rfl, SqT.of ht, rfl, _, _, rfl, _, _, rfl, rfl, ?_⟩
    refine ⟨_, rfl, _, rfl, _, _, rfl, rfl, u, 0, c - 1, rfl, _, rfl, ifT (by rw [decide_eq_true u0, decide_eq_true (by omega : u ≤ c - 1)] <;> rfl) ?_⟩
    refine ⟨_, rfl, _, rfl, _, _, rfl, rfl, l, 0, c - 1, rfl, _, rfl, ifT (by rw [decide_eq_true l0, decide_eq_true (by omega : l ≤ c - 1)] <;> rfl) ?_⟩
    refine ⟨_, rfl, _, rfl, rfl, ?_⟩
    have e : decide (V.int u = V.int l) = false := decide_eq_false fun z => ne (by injection z)
    rw [e]
    exact q
/-! ### the lamps beneath -/
abbrev s_with_wire : Stmt := top 16
theorem sc_with_wire : FnScope ["beneath", "upper", "lower", "gained", "lamp", "lamps"] ["beneath", "upper", "lower"] (defScope s_with_wire) := ⟨rfl, rfl, rfl, by decide +kernel, rfl, by decide +kernel, by decide +kernel⟩
-- slots of with_wire: 0 beneath, 1 upper, 2 lower, 3 gained, 4 lamp, 5 lamps
def spWithWire : Sp := fun vs H Q _ => ∃ (b : Addr) (n u l : Nat) (R : Rel), vs = [.ref b, .int u, .int l] ∧ n ≤ 16 ∧ u < n ∧ l < n ∧ Rows H b (relRows n R) ∧
  ∀ (H' : Hp) (p : Addr), Same H H' → Rows H' p (relRows n (addW R u l)) → Q (.ref p) H'
theorem ok_with_wire (T : Txt K mg C) {f : Addr} {fd : FuncData} (F : Fun K "with_wire" "with_wire" s_with_wire f fd) : FnOk P w K mg base CX0 1 f fd ["beneath", "upper", "lower"] spWithWire := by
  refine F.ok sc_with_wire (fun vs H Q E h => ?_) (fun cdv A outer s H vs Q E hr h => ?_)
  · obtain ⟨b, n, u, l, R, rfl, _⟩ := h; rfl
  · obtain ⟨b, n, u, l, R, rfl, hn, hu, hl, rw0, q⟩ := h
    obtain ⟨xs, al, hb, hxs, hal, hL⟩ := rw0.at (relRows_at (R := R) hl)
    refine ⟨_, (pss_cons (ps_set (i := 3) sc_with_wire.nd rfl (by first | exact Or.inl rfl | exact Or.inr rfl) (pe_lst (pa_cons (pv 2) (star_ K (pe_ix (ixL_ K) (pv 0) (pv 2) (fun _ _ => rfl)) pa_nil))))
      (pss_one (ps_ret (pe_lc (own := [("lamp", 4), ("lamps", 5)]) (g := gTup K 2 (gCons (gName 4) (gCons (gName 5) gNil))) (tt := tYes) rfl sc_with_wire.nd (pi_enum (by rfl) T.enumerate (pa_cons (pv 0) pa_nil)) (blkOk_by (by kernel_rfl)) (fun _ _ _ _ _ => (pg_tup (by rfl) (pgs_cons (pg_name (i := 4) sc_with_wire.nd rfl (by first | exact Or.inl rfl | exact Or.inr rfl)) (pgs_cons (pg_name (i := 5) sc_with_wire.nd rfl (by first | exact Or.inl rfl | exact Or.inr rfl)) pgs_nil)))) (fun _ _ _ _ _ => pts_nil) (fun _ _ _ _ _ => (pe_ifExp (PW.pt (pw_or (pt_cmpR op_eq (pv 4) (pv 1) (nomark _)) (pw_or1 (pt_cmpR (inS_ K) (pv 1) (pv 5) (by rfl))))) (pe_callB (sortedSet_ w rfl) (by rfl) T.sorted b_sorted (pa_cons (pe_callTy (setL_ K w rfl) (by rfl) T.set b_set (pa_cons (pe_op op_cat (pv 5) (pv 3)) pa_nil)) pa_nil)) (pv 5))))))), ?_⟩
    -- gained = [lower, *beneath[lower]]
    refine ⟨_, rfl, _, rfl, _, rfl, b, xs, _, _, rfl, rfl, SqL.of hb, atI_nat hal, al, _, rfl, .inr (SqL.of hL), ?_, fun g hg => ?_⟩
    · have := Bel_len n R l
      rw [List.length_cons, List.length_append, nL_len, List.length_nil, sizeLine_eq]
      omega
    have eg : (V.int (l : Int) :: (nL (Bel n R l) ++ [])) = nL (l :: Bel n R l) := by rw [List.append_nil]; rfl
    rw [eg]
    have s1 : Same H (upd H g (.lst (nL (l :: Bel n R l)))) := same_new hg
    have hg1 : (upd H g (.lst (nL (l :: Bel n R l)))) g = some (.lst (nL (l :: Bel n R l))) := upd_same
    generalize upd H g (.lst (nL (l :: Bel n R l))) = H1 at s1 hg1 ⊢
    have rw1 := rw0.same s1
    obtain ⟨as0, hb1, las0, hrow⟩ := id rw1
    rw [relRows_len] at las0
    refine ⟨_, rfl, b, as0.map V.ref, rfl, SqL.of hb1, fun D hD => lc_it walk_enum (fun i H2 => ∃ as : List Addr, H2 D = some (.lst (as.map V.ref)) ∧ as.length = i ∧ Same H1 H2 ∧ ∀ (j : Nat) a, as[j]? = some a → a ≠ D ∧ H2 a = some (.lst (nL (Bel n (addW R u l) j))))
      ⟨[], upd_same, rfl, same_new hD, fun j a e => by simp at e⟩ (fun i H2 _ ⟨_, _, _, s2, _⟩ => SqL.of (s2 _ _ hb1)) ?_ ?_⟩
    · rintro i x H2 H3 hi ⟨as, h1, h2, s2, h3⟩ ⟨t, x1, y, rfl, ht, rfl, e1, e2⟩
      cases e1
      rw [List.length_map, las0] at hi
      obtain ⟨a, ha, rfl⟩ : ∃ a, as0[i]? = some a ∧ y = V.ref a := by
        have e3 : (as0.map V.ref)[i]? = some y := e2
        rw [List.getElem?_map] at e3
        obtain ⟨a, h, e⟩ := Option.map_eq_some_iff.mp e3
        exact ⟨a, h, e.symm⟩
      have hrow_i := hrow i a _ ha (relRows_at hi)
      have hz : as.length < sizeLine := by rw [h2, sizeLine_eq]; omega
      have nDt : D ≠ t := ne_of_none h1 ht
      have s3 : Same H1 (upd H2 t (.tup [.int (i : Int), .ref a])) := same_then s2 ht
      have h1' : (upd H2 t (.tup [.int (i : Int), .ref a])) D = some (.lst (as.map V.ref)) := by rw [upd_ne nDt]; exact h1
      have h3' : ∀ (j : Nat) c, as[j]? = some c → c ≠ D ∧ (upd H2 t (.tup [.int (i : Int), .ref a])) c = some (.lst (nL (Bel n (addW R u l) j))) := fun j c e => ⟨(h3 j c e).1, by rw [upd_ne (ne_of_none (h3 j c e).2 ht)]; exact (h3 j c e).2⟩
      have htt : (upd H2 t (.tup [.int (i : Int), .ref a])) t = some (.tup [.int (i : Int), .ref a]) := upd_same
      generalize upd H2 t (.tup [.int (i : Int), .ref a]) = H3 at s3 h1' h3' htt ⊢
      refine ⟨t, _, rfl, SqT.of htt, rfl, _, _, rfl, _, _, rfl, rfl, rfl, yesT ?_⟩
      -- what a turn ends with
      have fin : ∀ (H4 : Hp) (c : Addr), Same H3 H4 → c ≠ D → H4 c = some (.lst (nL (Bel n (addW R u l) i))) → ∃ acc, H4 D = some (.lst acc) ∧ acc.length < sizeLine ∧
          ∃ as : List Addr, (upd H4 D (.lst (acc ++ [V.ref c]))) D = some (.lst (as.map V.ref)) ∧ as.length = i + 1 ∧ Same H1 (upd H4 D (.lst (acc ++ [V.ref c]))) ∧ ∀ (j : Nat) a, as[j]? = some a → a ≠ D ∧ (upd H4 D (.lst (acc ++ [V.ref c]))) a = some (.lst (nL (Bel n (addW R u l) j))) := by
        intro H4 c s4 nc hc
        refine ⟨_, s4 _ _ h1', by rw [List.length_map]; exact hz, as ++ [c], by rw [upd_same, List.map_append]; rfl, by rw [List.length_append, h2]; rfl, same_upd (s3.trans s4) hD, fun j c2 e => ?_⟩
        rcases Nat.lt_or_ge j as.length with lt | ge
        · rw [List.getElem?_append_left lt] at e
          obtain ⟨n1, n2⟩ := h3' j c2 e
          exact ⟨n1, by rw [upd_ne n1]; exact s4 _ _ n2⟩
        · rw [List.getElem?_append_right ge] at e
          have j0 : j - as.length = 0 := by
            rcases Nat.eq_zero_or_pos (j - as.length) with z | z
            · exact z
            · rw [List.getElem?_eq_none (by rw [List.length_singleton]; exact z)] at e; cases e
          rw [j0] at e
          cases e
          have ji : j = i := by omega
          rw [ji]
          exact ⟨nc, by rw [upd_ne nc]; exact hc⟩
      -- the new row
      have grow : (i = u ∨ R i u = true) → tCB (rSortedSet w) (tCons (tCB (rHuSetL K w) (tCons (tOp rCat (tVar 5) (tVar 3)) tNil)) tNil)
          [some (.ref b), some (.int u), some (.int l), some (.ref g), some (.int (i : Int)), some (.ref a)] H3 fun y H4 => ∃ acc, H4 D = some (.lst acc) ∧ acc.length < sizeLine ∧
          ∃ as : List Addr, (upd H4 D (.lst (acc ++ [y]))) D = some (.lst (as.map V.ref)) ∧ as.length = i + 1 ∧ Same H1 (upd H4 D (.lst (acc ++ [y]))) ∧ ∀ (j : Nat) a, as[j]? = some a → a ≠ D ∧ (upd H4 D (.lst (acc ++ [y]))) a = some (.lst (nL (Bel n (addW R u l) j))) := by
        intro hcond
        have b1 := Bel_len n R i
        have b2 := Bel_len n R l
        refine ⟨_, rfl, _, rfl, a, g, _, _, rfl, rfl, s3 _ _ hrow_i, s3 _ _ hg1, ?_, fun c hc => ?_⟩
        · rw [nL_len, nL_len, List.length_cons, sizeLine_eq]; omega
        refine ⟨c, nI (Bel n R i ++ l :: Bel n R l), rfl, SqL.of (by rw [upd_same, ← nL_app]; rfl), by rw [nI_len, List.length_append, List.length_cons]; omega, fun d k hd hk => ?_⟩
        refine ⟨d, _, k, rfl, upd_same, ?_, fun ns p asc mem _ hp => ?_⟩
        · rw [nI_len, List.length_append, List.length_cons] at hk; omega
        have ens : ns = nI (Bel n (addW R u l) i) := by
          refine asc_ext asc (Bel_asc ..) fun z => ?_
          rw [mem, decide_eq_true_eq, mem_nI, mem_nI]
          constructor
          · rintro ⟨m, hm, rfl⟩
            refine ⟨m, mem_Bel.mpr ?_, rfl⟩
            unfold addW
            rcases List.mem_append.mp hm with hm | hm
            · obtain ⟨m1, m2⟩ := mem_Bel.mp hm
              exact ⟨m1, by rw [m2, Bool.true_or]⟩
            · have c1 : (i == u || R i u) = true := by
                rcases hcond with e | e
                · rw [e]; simp
                · rw [e, Bool.or_true]
              rcases List.mem_cons.mp hm with e | hm
              · rw [e, c1]; exact ⟨hl, by simp⟩
              · obtain ⟨m1, m2⟩ := mem_Bel.mp hm
                exact ⟨m1, by rw [c1, m2]; simp⟩
          · rintro ⟨m, hm, rfl⟩
            refine ⟨m, ?_, rfl⟩
            obtain ⟨m1, m2⟩ := mem_Bel.mp hm
            unfold addW at m2
            rw [Bool.or_eq_true, Bool.and_eq_true, Bool.or_eq_true, Bool.or_eq_true, beq_iff_eq, beq_iff_eq] at m2
            rcases m2 with e | ⟨_, e | e⟩
            · exact List.mem_append_left _ (mem_Bel.mpr ⟨m1, e⟩)
            · exact List.mem_append_right _ (by rw [e]; exact List.mem_cons_self)
            · exact List.mem_append_right _ (List.mem_cons_of_mem _ (mem_Bel.mpr ⟨m1, e⟩))
        have s4 := ((same_new (o := .lst (nL (Bel n R i) ++ nL (l :: Bel n R l))) hc).trans (same_new (o := SetO w d (fun j => decide (j ∈ nI (Bel n R i ++ l :: Bel n R l))) k) hd)).trans (same_new (o := .lst (ns.map V.int)) hp)
        refine fin _ p s4 ?_ (by rw [upd_same, ens]; rfl)
        intro e
        have z := (((same_new (o := .lst (nL (Bel n R i) ++ nL (l :: Bel n R l))) hc).trans (same_new (o := SetO w d (fun j => decide (j ∈ nI (Bel n R i ++ l :: Bel n R l))) k) hd)) _ _ h1')
        rw [← e, hp] at z
        cases z
      refine ⟨_, rfl, _, rfl, rfl, _, rfl, ?_⟩
      refine ite2 (fun he => ?_) (fun hne => ?_)
      · have e0 : i = u := by
          have z := of_decide_eq_true he
          injection z with z
          omega
        exact iteT (grow (.inl e0))
      · refine ⟨_, rfl, _, rfl, a, _, rfl, .inl (SqL.of (s3 _ _ hrow_i)), rfl, flat_nL _, _, rfl, ?_⟩
        have nu : ¬ i = u := fun z => hne (by rw [z]; exact decide_eq_true rfl)
        show if (inV (V.int (u : Int)) (nL (Bel n R i))) = true then _ else _
        rw [in_nL]
        refine ite2 (fun he => ?_) (fun hne2 => ?_)
        · exact grow (.inr (mem_Bel.mp (of_decide_eq_true he)).2)
        · refine ⟨_, rfl, fin H3 a (Same.refl _) (fun z => ?_) ?_⟩
          · have q1 := hrow_i
            rw [z, hD] at q1
            cases q1
          · rw [s3 _ _ hrow_i]
            have nR : R i u = false := by
              cases e : R i u with
              | false => rfl
              | true => exact absurd (decide_eq_true (mem_Bel.mpr ⟨hu, e⟩)) hne2
            rw [Bel_congr (S := addW R u l) (i := i) fun j _ => ?_]
            unfold addW
            rw [nR, Bool.or_false, beq_eq_false_iff_ne.mpr nu, Bool.false_and, Bool.or_false]
    · rintro H2 ⟨as, h1, h2, s2, h3⟩
      rw [List.length_map, las0] at h2
      refine q H2 D (s1.trans s2) ⟨as, h1, by rw [h2, relRows_len], fun i a r ha hr => ?_⟩
      have hi : i < n := by rw [← h2]; exact (List.getElem?_eq_some_iff.mp ha).1
      rw [relRows_at hi] at hr
      cases hr
      exact (h3 i a ha).2
abbrev s_lamps_beneath : Stmt := top 15
theorem sc_lamps_beneath : FnScope ["count", "wires", "beneath", "_", "earlier", "index", "wire", "upper", "lower"] ["count", "wires"] (defScope s_lamps_beneath) := ⟨rfl, rfl, rfl, by decide +kernel, rfl, by decide +kernel, by decide +kernel⟩
-- slots of lamps_beneath: 0 count, 1 wires, 2 beneath, 3 _, 4 earlier, 5 index, 6 wire, 7 upper, 8 lower
/-- at a: a list of the tuples ts, which are the pairs ps: wires down a rank -/
def Wires (K : PySem.W.Frag) (H : Hp) (a : Addr) (n : Nat) (ps : List (Nat × Nat)) : Prop :=
  (∃ ts : List Addr, SqA K H a (ts.map V.ref) ∧ Pairs H ts ps) ∧ ps.Nodup ∧ ps.length < 4900 ∧ (∀ p ∈ ps, p.1 < n ∧ p.2 < n) ∧ ∃ ρ : Nat → Nat, ∀ p ∈ ps, ρ p.1 < ρ p.2
def spLampsBeneath (K : PySem.W.Frag) : Sp := fun vs H Q _ => ∃ (a : Addr) (n : Nat) (ps : List (Nat × Nat)), vs = [.int n, .ref a] ∧ n ≤ 16 ∧ Wires K H a n ps ∧
  ∀ (H' : Hp) (p : Addr), Same H H' → Rows H' p (relRows n (relOf ps)) → Q (.ref p) H'
theorem ok_lamps_beneath (T : Txt K mg C) {f : Addr} {fd : FuncData} (F : Fun K "lamps_beneath" "lamps_beneath" s_lamps_beneath f fd) (c_is_wire : Cal P w K mg base "is_wire" 3 spIsWire) (c_with_wire : Cal P w K mg base "with_wire" 1 spWithWire) : FnOk P w K mg base CX0 4 f fd ["count", "wires"] (spLampsBeneath K) := by
  refine F.ok sc_lamps_beneath (fun vs H Q E h => ?_) (fun cdv A outer s H vs Q E hr h => ?_)
  · obtain ⟨a, n, ps, rfl, _⟩ := h; rfl
  · obtain ⟨a, n, ps, rfl, hn, ⟨⟨ts, ha, hps⟩, nd, few, lt, ρ, rank⟩, q⟩ := h
    refine ⟨_, (pss_cons (ps_setLc (i := 2) (own := [("_", 3)]) (g := gName 3) (tt := tYes) rfl sc_lamps_beneath.nd rfl rfl (sw_true rfl rfl rfl (by kernel_rfl)) (pi_range1 (by rfl) T.range (pa_cons (pv 0) pa_nil)) (blkOk_by (by kernel_rfl)) (fun _ _ _ _ _ => (pg_name (i := 3) sc_lamps_beneath.nd rfl (by first | exact Or.inl rfl | exact Or.inr rfl))) (fun _ _ _ _ _ => pts_nil) (fun _ _ _ _ _ => (pe_lst pa_nil)))
      (pss_cons (ps_set (i := 4) sc_lamps_beneath.nd rfl (by first | exact Or.inl rfl | exact Or.inr rfl) (pe_callTy0 cr_b0 (by rfl) T.set b_set))
      (pss_cons (ps_for PassesOwn.never rfl (piA_ K (by rfl) T.enumerate (pa_cons (pv 1) pa_nil)) (pg_tup (by rfl) (pgs_cons (pg_name (i := 5) sc_lamps_beneath.nd rfl (by first | exact Or.inl rfl | exact Or.inr rfl)) (pgs_cons (pg_name (i := 6) sc_lamps_beneath.nd rfl (by first | exact Or.inl rfl | exact Or.inr rfl)) pgs_nil)))
      (pss_cons (ps_if (pt_not (pt_val (pe_cal c_is_wire (hr.mono (by decide)) (pa_cons (pv 0) (pa_cons (pv 6) pa_nil)))))
      pss_never pss_nil)
      (pss_cons (ps_if (pt_cmpR (bIn_ P w hr.units) (pv 6) (pv 4) (by rfl))
      pss_never pss_nil)
      (pss_cons (ps_asg (pv 6) (pg_tup (by rfl) (pgs_cons (pg_name (i := 7) sc_lamps_beneath.nd rfl (by first | exact Or.inl rfl | exact Or.inr rfl)) (pgs_cons (pg_name (i := 8) sc_lamps_beneath.nd rfl (by first | exact Or.inl rfl | exact Or.inr rfl)) pgs_nil))))
      (pss_cons (ps_if (pt_cmpR (inS_ K) (pv 7) (pe_ix (ixL_ K) (pv 2) (pv 8) (fun _ _ => rfl)) (by rfl))
      pss_never pss_nil)
      (pss_cons (ps_expr (pe_bAdd hr.units (pv 4) (pa_cons (pv 6) pa_nil)))
      (pss_one (ps_set (i := 2) sc_lamps_beneath.nd rfl (by first | exact Or.inl rfl | exact Or.inr rfl) (pe_cal c_with_wire (hr.mono (by decide)) (pa_cons (pv 2) (pa_cons (pv 7) (pa_cons (pv 8) pa_nil))))))))))))
      (pss_one (ps_ret (pv 2)))))), ?_⟩
    -- beneath = [[] for _ in range(count)]
    refine ⟨_, rfl, _, rfl, by omega, by omega, fun D hD => ?_⟩
    rw [Int.toNat_natCast]
    refine lc_range (fun i H2 => ∃ as : List Addr, H2 D = some (.lst (as.map V.ref)) ∧ as.length = i ∧ Same H H2 ∧ ∀ (j : Nat) a, as[j]? = some a → a ≠ D ∧ H2 a = some (.lst []))
      ⟨[], upd_same, rfl, same_new hD, fun j a e => by simp at e⟩ ?_ ?_
    · rintro i H2 hi ⟨as, h1, h2, s2, h3⟩
      refine ⟨rfl, yesT ⟨by decide, fun p hp => ?_⟩⟩
      have nDp : D ≠ p := ne_of_none h1 hp
      refine ⟨_, by rw [upd_ne nDp]; exact h1, by rw [List.length_map, h2, sizeLine_eq]; omega, as ++ [p], by rw [upd_same, List.map_append]; rfl, by rw [List.length_append, h2]; rfl, same_upd (same_then s2 hp) hD, fun j c e => ?_⟩
      rcases Nat.lt_or_ge j as.length with l | g
      · rw [List.getElem?_append_left l] at e
        obtain ⟨n1, n2⟩ := h3 j c e
        exact ⟨n1, by rw [upd_ne n1, upd_ne (ne_of_none n2 hp)]; exact n2⟩
      · rw [List.getElem?_append_right g] at e
        have j0 : j - as.length = 0 := by
          rcases Nat.eq_zero_or_pos (j - as.length) with z | z
          · exact z
          · rw [List.getElem?_eq_none (by rw [List.length_singleton]; exact z)] at e; cases e
        rw [j0] at e
        cases e
        exact ⟨nDp.symm, by rw [upd_ne nDp.symm, upd_same]⟩
    rintro H1 ⟨as, h1, h2, s1, h3⟩
    have rows1 : Rows H1 D (relRows n fun _ _ => false) := ⟨as, h1, by rw [h2, relRows_len], fun i a r hi hr => by
      have il : i < n := by rw [← h2]; exact (List.getElem?_eq_some_iff.mp hi).1
      rw [relRows_at il] at hr
      cases hr
      have e0 : Bel n (fun _ _ => false) i = [] := by unfold Bel; simp
      rw [e0]
      exact (h3 i a hi).2⟩
    -- earlier = set()
    refine ⟨rfl, fun e he => ?_⟩
    have s2 : Same H (upd H1 e (BigHO P w e [])) := same_then s1 he
    have h0e : H e = Option.none := s1.free he
    refine ⟨_, rfl, a, ts.map V.ref, rfl, ?_⟩
    refine for_enumA ha s2 (fun i σ H2 => ∃ (b : Addr) (L : List (Addr × List Int)) (v5 v6 v7 v8 : Option V), σ = [some (.int n), some (.ref a), some (.ref b), Option.none, some (.ref e), v5, v6, v7, v8] ∧ Same H H2 ∧
        Rows H2 b (relRows n (relOf (ps.take i))) ∧ HasB K P w H2 e L ∧ L.length = i ∧ ∀ k, k ∈ L.map (·.2) → ∃ p ∈ ps.take i, k = [(p.1 : Int), (p.2 : Int)])
      ⟨D, [], _, _, _, _, rfl, s2, rows1.same (same_new he), ⟨upd_same, fun p hp => by cases hp⟩, rfl, fun k hk => by cases hk⟩ (fun i σ H2 _ ⟨_, _, _, _, _, _, _, s, _⟩ => s) ?_ ?_
    · rintro i x σ H2 H3 hi ⟨b, L, v5, v6, v7, v8, rfl, s3, rows, hasT, lenL, memL⟩ ⟨tp, x1, y, rfl, htp, rfl, e1, e2⟩
      cases e1
      rw [List.length_map] at hi
      have e3 : (ts.map V.ref)[i]? = some y := e2
      rw [List.getElem?_map] at e3
      obtain ⟨t, ht, rfl⟩ := Option.map_eq_some_iff.mp e3
      have hip : i < ps.length := by rw [← hps.1]; exact hi
      obtain ⟨p, hp⟩ : ∃ p, ps[i]? = some p := ⟨_, List.getElem?_eq_getElem hip⟩
      have pmem : p ∈ ps := List.mem_of_getElem? hp
      obtain ⟨plt1, plt2⟩ := lt p pmem
      have prank := rank p pmem
      have tup0 : H t = some (.tup [.int (p.1 : Int), .int (p.2 : Int)]) := hps.2 i t p ht hp
      have s4 : Same H2 (upd H2 tp (.tup [.int (i : Int), .ref t])) := same_new htp
      have rows4 := rows.same s4
      have hasT4 : HasB K P w (upd H2 tp (.tup [.int (i : Int), .ref t])) e L := ⟨s4 _ _ hasT.1, fun q hq => Same.tup s4 (hasT.2 q hq)⟩
      have s5 := s3.trans s4
      have htt : (upd H2 tp (.tup [.int (i : Int), .ref t])) tp = some (.tup [.int (i : Int), .ref t]) := upd_same
      generalize upd H2 tp (.tup [.int (i : Int), .ref t]) = H4 at s4 rows4 hasT4 s5 htt ⊢
      have tup4 := s5 _ _ tup0
      have new : [(p.1 : Int), (p.2 : Int)] ∉ L.map (·.2) := by
        intro z
        obtain ⟨p2, m2, e⟩ := memL _ z
        injection e with z1 z2
        injection z2 with z2 _
        have ep : p2 = p := by
          obtain ⟨a1, a2⟩ := p
          obtain ⟨b1, b2⟩ := p2
          simp only at z1 z2
          rw [Prod.mk.injEq]
          omega
        rw [ep] at m2
        obtain ⟨j, hj, ej⟩ := List.getElem_of_mem m2
        rw [List.length_take] at hj
        rw [List.getElem_take] at ej
        have ei : ps[i] = p := by
          have z := List.getElem?_eq_getElem hip
          rw [hp] at z
          exact (Option.some.inj z).symm
        exact absurd (ej.trans ei.symm) (List.pairwise_iff_getElem.mp nd j i (by omega) hip (by omega))
      refine ⟨tp, _, rfl, SqT.of htt, rfl, _, _, rfl, _, _, rfl, rfl, ?_⟩
      refine ⟨_, rfl, _, rfl, n, p.1, p.2, t, rfl, tup4, by omega, by omega, by omega, by omega, fun z => ?_, true, rfl, iteF ?_⟩
      · have : p.1 = p.2 := by omega
        rw [this] at prank
        exact Nat.lt_irrefl _ prank
      refine ⟨_, rfl, _, rfl, t, e, [(p.1 : Int), (p.2 : Int)], L, rfl, rfl, SqT.of tup4, hasT4, _, rfl, ifF (decide_eq_false new) ?_⟩
      refine ⟨_, rfl, t, _, rfl, SqT.of tup4, rfl, _, _, rfl, _, _, rfl, rfl, ?_⟩
      obtain ⟨xs, al, hb, _, hal, hL⟩ := rows4.at (relRows_at (R := relOf (ps.take i)) plt2)
      refine ⟨_, rfl, _, rfl, _, rfl, b, xs, _, _, rfl, rfl, SqL.of hb, atI_nat hal, al, _, rfl, .inl (SqL.of hL), rfl, flat_nL _, _, rfl, ?_⟩
      refine ifF ?_ ?_
      · show inV (V.int (p.1 : Int)) (nL (Bel n (relOf (ps.take i)) p.2)) = false
        rw [in_nL, decide_eq_false_iff_not]
        intro z
        have r1 := relOf_rank (ρ := ρ) (ps := ps.take i) (fun q hq => rank q (List.mem_of_mem_take hq)) _ _ (mem_Bel.mp z).2
        omega
      refine ⟨_, rfl, ⟨e, L, rfl, hasT4.1⟩, _, rfl, e, t, [(p.1 : Int), (p.2 : Int)], L, rfl, rfl, SqT.of tup4, hasT4, by omega, fun z => absurd z new, fun _ L2 pm => ?_⟩
      have rows5 : Rows (upd H4 e (BigHO P w e L2)) b (relRows n (relOf (ps.take i))) := rows4.ext hasT4.1
      refine ⟨_, rfl, _, rfl, _, rfl, b, n, p.1, p.2, relOf (ps.take i), rfl, hn, plt1, plt2, rows5, fun H6 c s6 rows6 => ?_⟩
      have s7 : Same H H6 := (same_upd s5 h0e).trans s6
      refine ⟨c, L2, _, _, _, _, rfl, s7, by rw [relOf_more hp]; exact rows6, ⟨s6 _ _ upd_same, fun r hr => ?_⟩, ?_, fun k hk => ?_⟩
      · rcases List.mem_cons.mp (pm.mem_iff.mp hr) with z | z
        · rw [z]; exact SqT.of (s7 _ _ tup0)
        · refine Same.tup s6 ?_
          have w0 := hasT4.2 r z
          rcases w0 with (w0 | ⟨o, w0⟩) | w0
          · refine .inl (.inl ?_)
            rw [upd_ne (ne_of w0 hasT4.1 (by intro z; cases z))]; exact w0
          · refine .inl (.inr ⟨o, ?_⟩)
            rw [upd_ne (ne_of w0 hasT4.1 (by intro z; cases z))]; exact w0
          · exact .inr w0
      · rw [pm.length_eq, List.length_cons, lenL]
      · have pm2 := (pm.map (·.2)).mem_iff.mp hk
        rw [List.map_cons] at pm2
        rcases List.mem_cons.mp pm2 with z | z
        · refine ⟨p, ?_, z⟩
          rw [List.take_add_one, hp]
          exact List.mem_append_right _ List.mem_cons_self
        · obtain ⟨p2, m2, e⟩ := memL k z
          refine ⟨p2, ?_, e⟩
          rw [List.take_add_one]
          exact List.mem_append_left _ m2
    · rintro σ H2 ⟨b, L, v5, v6, v7, v8, rfl, s3, rows, _⟩
      rw [List.length_map, hps.1, List.take_length] at rows
      exact ⟨_, rfl, q H2 b s3 rows⟩
end
end Hue

end
section
set_option maxRecDepth 100000
namespace Hue
open PySem PySem.Spec PyProof.Rows L2
section
variable {P : Program} {w : World} {K : PySem.W.Frag} {mg : Str → Option Value} {base : Heap} {C : Addr}
/-! ### the order list -/
abbrev s_is_next : Stmt := top 18
theorem sc_is_next : FnScope ["above", "order", "lamp", "upper"] ["above", "order", "lamp"] (defScope s_is_next) := ⟨rfl, rfl, rfl, by decide +kernel, rfl, by decide +kernel, by decide +kernel⟩
-- slots of is_next: 0 above, 1 order, 2 lamp, 3 upper
def spIsNext : Sp := fun vs H Q _ => ∃ (ab o : Addr) (n k : Nat) (R : Rel) (ord : List Nat), vs = [.ref ab, .ref o, .int k] ∧ n ≤ 16 ∧ k < n ∧ Rows H ab (relRows n (flip R)) ∧ H o = some (.lst (nL ord)) ∧
  ∀ H', Same H H' → Q (.bl (nxt n R ord k)) H'
theorem ok_is_next (T : Txt K mg C) {f : Addr} {fd : FuncData} (F : Fun K "is_next" "is_next" s_is_next f fd) : FnOk P w K mg base CX0 1 f fd ["above", "order", "lamp"] spIsNext := by
  refine F.ok sc_is_next (fun vs H Q E h => ?_) (fun cdv A outer s H vs Q E hr h => ?_)
  · obtain ⟨ab, o, n, k, R, ord, rfl, _⟩ := h; rfl
  · obtain ⟨ab, o, n, k, R, ord, rfl, hn, hk, rows, ho, q⟩ := h
    refine ⟨_, (pss_one (ps_ret (pe_and (pe_cmpR (ninS_ K) (pv 2) (pv 1) (by rfl)) (pe_one (pe_callB (all_ K rfl) (by rfl) T.all b_all (pa_cons (pe_lc (own := [("upper", 3)]) (g := gName 3) (tt := tYes) rfl sc_is_next.nd (pil_ K (pe_ix (ixL_ K) (pv 0) (pv 2) (fun _ _ => rfl))) (blkOk_by (by kernel_rfl)) (fun _ _ _ _ _ => (pg_name (i := 3) sc_is_next.nd rfl (by first | exact Or.inl rfl | exact Or.inr rfl))) (fun _ _ _ _ _ => pts_nil) (fun _ _ _ _ _ => (pe_cmpR (inS_ K) (pv 3) (pv 1) (by rfl)))) pa_nil)))))), ?_⟩
    refine ⟨_, rfl, _, rfl, o, _, rfl, .inl (SqL.of ho), rfl, flat_nL _, _, rfl, ?_⟩
    show if (!inV (V.int (k : Int)) (nL ord)) = true then _ else _
    rw [in_nL]
    refine ite2 (fun h1 => ?_) (fun h1 => ?_)
    · obtain ⟨xs, al, hb, _, hal, hL⟩ := rows.at (relRows_at (R := flip R) hk)
      refine ⟨_, rfl, _, rfl, ab, xs, _, _, rfl, rfl, SqL.of hb, atI_nat hal, al, rfl, ⟨_, SqL.of hL⟩, fun D hD => ?_⟩
      refine lc_list (xs := nL (Bel n (flip R) k)) (fun i H2 => H2 D = some (.lst ((((Bel n (flip R) k).take i).map fun j => decide (j ∈ ord)).map V.bl)) ∧ Same H H2)
        ⟨upd_same, same_new hD⟩ (fun i H2 _ ⟨_, s⟩ => SqL.of (s _ _ hL)) ?_ ?_
      · rintro i x H2 hx ⟨h2, s2⟩
        obtain ⟨j, hj, rfl⟩ : ∃ j, (Bel n (flip R) k)[i]? = some j ∧ x = V.int (j : Int) := by
          unfold nL nI at hx
          rw [List.map_map, List.getElem?_map] at hx
          obtain ⟨j, hj, e⟩ := Option.map_eq_some_iff.mp hx
          exact ⟨j, hj, e.symm⟩
        refine ⟨rfl, yesT ⟨_, rfl, _, rfl, o, _, rfl, .inl (SqL.of (s2 _ _ ho)), rfl, flat_nL _, _, h2, ?_, ?_, same_upd s2 hD⟩⟩
        · rw [List.length_map, List.length_map, List.length_take, sizeLine_eq]
          have := Bel_len n (flip R) k
          omega
        · rw [upd_same, List.take_add_one, hj, List.map_append, List.map_append]
          show some (HO.lst (_ ++ [V.bl (inV (V.int (j : Int)) (nL ord))])) = _
          rw [in_nL]
          rfl
      · rintro H2 ⟨h2, s2⟩
        rw [nL_len, List.take_length] at h2
        refine ⟨D, _, rfl, SqL.of h2, ?_⟩
        have e : nxt n R ord k = ((Bel n (flip R) k).map fun j => decide (j ∈ ord)).all id := by
          unfold nxt
          rw [h1, Bool.true_and, List.all_map]
          rfl
        rw [← e]
        exact q H2 s2
    · have e : nxt n R ord k = false := by
        unfold nxt
        rw [Bool.eq_false_iff.mpr h1, Bool.false_and]
      rw [← e]
      exact q H (Same.refl H)
abbrev s_order_list : Stmt := top 17
theorem sc_order_list : FnScope ["above", "order", "lamp"] ["above"] (defScope s_order_list) := ⟨rfl, rfl, rfl, by decide +kernel, rfl, by decide +kernel, by decide +kernel⟩
-- slots of order_list: 0 above, 1 order, 2 lamp
def spOrderList : Sp := fun vs H Q _ => ∃ (ab : Addr) (n : Nat) (R : Rel), vs = [.ref ab] ∧ n ≤ 16 ∧ Ranked R ∧ Rows H ab (relRows n (flip R)) ∧
  ∀ (H' : Hp) (p : Addr), Same H H' → H p = Option.none → H' p = some (.lst (nL (ordN n R n))) → Q (.ref p) H'
theorem ok_order_list (T : Txt K mg C) {f : Addr} {fd : FuncData} (F : Fun K "order_list" "order_list" s_order_list f fd) (c_is_next : Cal P w K mg base "is_next" 1 spIsNext) : FnOk P w K mg base CX0 2 f fd ["above"] spOrderList := by
  refine F.ok sc_order_list (fun vs H Q E h => ?_) (fun cdv A outer s H vs Q E hr h => ?_)
  · obtain ⟨ab, n, R, rfl, _⟩ := h; rfl
  · obtain ⟨ab, n, R, rfl, hn, hR, rows, q⟩ := h
    refine ⟨_, (pss_cons (ps_set (i := 1) sc_order_list.nd rfl (by first | exact Or.inl rfl | exact Or.inr rfl) (pe_lst pa_nil))
      (pss_cons (ps_while PassesOwn.never (pt_cmpR op_lt (pe_callB (lenS_ K) (by rfl) T.len b_len (pa_cons (pv 1) pa_nil)) (pe_callB (lenS_ K) (by rfl) T.len b_len (pa_cons (pv 0) pa_nil)) (nomark _))
      (pss_one (ps_expr (pe_bm PySem.F.plainAttrs_list PySem.F.slot_list_append PySem.F.type_list_append mt_append (pv 1) (pa_cons (pe_callB (min_ K rfl) (by rfl) T.min b_min (pa_cons (pe_lc (own := [("lamp", 2)]) (g := gName 2) rfl sc_order_list.nd (pi_range1 (by rfl) T.range (pa_cons (pe_callB (lenS_ K) (by rfl) T.len b_len (pa_cons (pv 0) pa_nil)) pa_nil)) (blkOk_by (by kernel_rfl)) (fun _ _ _ _ _ => (pg_name (i := 2) sc_order_list.nd rfl (by first | exact Or.inl rfl | exact Or.inr rfl))) (fun _ _ _ _ _ => (pts_one (pt_val (pe_cal c_is_next (hr.mono (by decide)) (pa_cons (pv 0) (pa_cons (pv 1) (pa_cons (pv 2) pa_nil))))))) (fun _ _ _ _ _ => (pv 2))) pa_nil)) pa_nil)))))
      (pss_one (ps_ret (pv 1))))), ?_⟩
    refine ⟨by decide, fun o ho => ?_⟩
    refine ⟨fun m σ H2 => ∃ k, m = n - k ∧ k ≤ n ∧ ∃ v, σ = [some (.ref ab), some (.ref o), v] ∧ Same H H2 ∧ H2 o = some (.lst (nL (ordN n R k))),
      ⟨n - 0, 0, rfl, Nat.zero_le _, _, rfl, same_new ho, upd_same⟩, ?_⟩
    rintro m σ H2 ⟨k, rfl, hk, v, rfl, s2, h2⟩
    have rows2 := rows.same s2
    obtain ⟨as, hab, las, _⟩ := id rows2
    rw [relRows_len] at las
    obtain ⟨len, ok⟩ := ordN_ok hR k hk
    refine ⟨_, rfl, o, _, rfl, .inl (SqL.of h2), _, rfl, ab, _, rfl, .inl (SqL.of hab), _, _, rfl, rfl, _, rfl, ?_⟩
    rw [nL_len, len, List.length_map, las]
    refine ite2 (fun hlt => ?_) (fun hge => ?_)
    · have klt : k < n := by have := of_decide_eq_true hlt; omega
      refine ⟨fun σ' H' => ∃ v, σ' = [some (.ref ab), some (.ref o), v] ∧ Same H H' ∧ H' o = some (.lst (nL (ordN n R (k + 1)))), fun σ' H' ⟨v, e1, e2, e3⟩ => ⟨n - (k + 1), by omega, k + 1, rfl, klt, v, e1, e2, e3⟩, ?_⟩
      obtain ⟨c, rest, ec⟩ := cands_ne (n := n) hR (ord := ordN n R k) (by omega)
      refine ⟨_, rfl, .inl ⟨rfl, _, SqL.of h2⟩, _, rfl, ab, _, rfl, .inl (SqL.of hab), _, rfl, ?_, ?_, fun D hD => ?_⟩
      · rw [List.length_map, las]; omega
      · rw [List.length_map, las]; omega
      rw [List.length_map, las, Int.toNat_natCast]
      refine lc_range (fun i H3 => H3 D = some (.lst (nL ((List.range i).filter (nxt n R (ordN n R k))))) ∧ Same H2 H3) ⟨upd_same, same_new hD⟩ ?_ ?_
      · rintro i H3 hi ⟨h3, s3⟩
        have e0 : (0 : Int) + (i : Int) = (i : Int) := by omega
        rw [e0]
        refine ⟨rfl, _, rfl, _, rfl, _, rfl, ab, o, n, i, R, ordN n R k, rfl, hn, hi, rows2.same s3, s3 _ _ h2, fun H4 s4 => ⟨_, rfl, ?_⟩⟩
        have h4 := s4 _ _ h3
        have grown : (List.range (i + 1)).filter (nxt n R (ordN n R k)) = (List.range i).filter (nxt n R (ordN n R k)) ++ (if nxt n R (ordN n R k) i = true then [i] else []) := by
          rw [List.range_succ, List.filter_append, List.filter_cons]
          rfl
        refine ite2 (fun hx => ?_) (fun hx => ?_)
        · refine ⟨_, rfl, _, h4, ?_, ?_, same_upd (s3.trans s4) hD⟩
          · rw [nL_len, sizeLine_eq]
            have := List.length_filter_le (nxt n R (ordN n R k)) (List.range i)
            rw [List.length_range] at this
            omega
          · rw [upd_same, grown, if_pos hx, nL_app]; rfl
        · refine ⟨?_, s3.trans s4⟩
          rw [h4, grown, if_neg hx, List.append_nil]
      · rintro H3 ⟨h3, s3⟩
        refine ⟨D, nI (cands n R (ordN n R k)), rfl, SqL.of h3, ?_, fun mm hm hle => ?_⟩
        · rw [nI_len, ec]; exact Nat.succ_pos _
        have em := cands_min ec hm hle
        rw [em]
        refine ⟨o, _, _, rfl, rfl, s3 _ _ h2, ?_, _, rfl, same_upd (s2.trans s3) ho, ?_⟩
        · rw [nL_len, len, sizeLine_eq]; omega
        · rw [upd_same, ordN_succ ec, nL_app]; rfl
    · have kn : k = n := by
        have z : ¬ ((k : Int) < (n : Int)) := fun z => hge (decide_eq_true z)
        omega
      rw [kn] at h2
      exact ⟨_, rfl, q H2 o s2 ho h2⟩
/-! ### the house -/
/-- the lamps directly beneath i, in the order of the wires qs -/
def dirL (qs : List (Nat × Nat)) (i : Nat) : List Nat := (qs.filter fun p => p.1 == i).map (·.2)
theorem mem_dirL {qs : List (Nat × Nat)} {i j : Nat} : j ∈ dirL qs i ↔ (i, j) ∈ qs := by
  unfold dirL
  rw [List.mem_map]
  constructor
  · rintro ⟨⟨a, b⟩, hm, rfl⟩
    obtain ⟨h1, h2⟩ := List.mem_filter.mp hm
    have e : a = i := by simpa using h2
    rw [← e]; exact h1
  · exact fun h => ⟨(i, j), List.mem_filter.mpr ⟨h, by simp⟩, rfl⟩
theorem dirL_few (qs : List (Nat × Nat)) (i : Nat) : (dirL qs i).length ≤ qs.length := by
  unfold dirL
  rw [List.length_map]
  exact List.length_filter_le ..
theorem dirL_more {qs : List (Nat × Nat)} {i j : Nat} {p : Nat × Nat} (h : qs[j]? = some p) : dirL (qs.take (j + 1)) i = dirL (qs.take j) i ++ (if p.1 = i then [p.2] else []) := by
  unfold dirL
  rw [List.take_add_one, h, List.filter_append, List.map_append]
  congr 1
  by_cases e : p.1 = i
  · simp [e]
  · simp [e]
/-- a list of the same tuples in another order -/
theorem pairs_perm {H : Hp} {ts : List Addr} {ps : List (Nat × Nat)} {ys : List V} (hp : Pairs H ts ps) (perm : ys.Perm (ts.map V.ref)) : ∃ (us : List Addr) (qs : List (Nat × Nat)), ys = us.map V.ref ∧ Pairs H us qs ∧ qs.Perm ps := by
  let pv : V → Nat × Nat := fun v => match v with
    | .ref t => match H t with
      | some (.tup [.int i, .int j]) => (i.toNat, j.toNat)
      | _ => (0, 0)
    | _ => (0, 0)
  let av : V → Addr := fun v => match v with
    | .ref t => t
    | _ => 0
  have pvt : ∀ (i : Nat) t p, ts[i]? = some t → ps[i]? = some p → pv (.ref t) = p := fun i t p a b => by
    show (match H t with
      | some (.tup [.int i, .int j]) => (i.toNat, j.toNat)
      | _ => (0, 0)) = p
    rw [hp.2 i t p a b]
    rfl
  have eps : (ts.map V.ref).map pv = ps := by
    refine List.ext_getElem? fun i => ?_
    rw [List.getElem?_map, List.getElem?_map]
    cases e : ts[i]? with
    | none =>
      rw [List.getElem?_eq_none_iff] at e
      rw [show ps[i]? = none from List.getElem?_eq_none_iff.mpr (by rw [← hp.1]; exact e)]
      rfl
    | some t =>
      have il : i < ps.length := by rw [← hp.1]; exact (List.getElem?_eq_some_iff.mp e).1
      rw [List.getElem?_eq_getElem il]
      exact congrArg some (pvt i t _ e (List.getElem?_eq_getElem il))
  have isr : ∀ y ∈ ys, ∃ (i : Nat) (t : Addr), y = V.ref t ∧ ts[i]? = some t := fun y hy => by
    obtain ⟨t, ht, rfl⟩ := List.mem_map.mp (perm.mem_iff.mp hy)
    obtain ⟨i, hi, e⟩ := List.getElem_of_mem ht
    exact ⟨i, t, rfl, by rw [List.getElem?_eq_getElem hi, e]⟩
  refine ⟨ys.map av, ys.map pv, ?_, ⟨by rw [List.length_map, List.length_map], fun i t p a b => ?_⟩, ?_⟩
  · rw [List.map_map]
    refine (List.map_id _).symm.trans (List.map_congr_left fun y hy => ?_)
    obtain ⟨_, t, rfl, _⟩ := isr y hy
    rfl
  · rw [List.getElem?_map] at a b
    obtain ⟨y, hy, rfl⟩ := Option.map_eq_some_iff.mp a
    rw [hy] at b
    cases b
    obtain ⟨j, t, rfl, hj⟩ := isr y (List.mem_of_getElem? hy)
    have jl : j < ps.length := by rw [← hp.1]; exact (List.getElem?_eq_some_iff.mp hj).1
    have e := pvt j t _ hj (List.getElem?_eq_getElem jl)
    rw [e]
    exact hp.2 j t _ hj (List.getElem?_eq_getElem jl)
  · have z := perm.map pv
    rw [eps] at z
    exact z
theorem Coll.rowsF {H1 H2 : Hp} {D : Addr} {n : Nat} {f : Nat → List Nat} (c : Coll H1 D (fun j => nL (f j)) n H2) : Rows H2 D ((List.range n).map f) := by
  obtain ⟨as, h1, h2, _, h3⟩ := c
  refine ⟨as, h1, by rw [h2, List.length_map, List.length_range], fun i a r ha hr => ?_⟩
  have hi : i < n := by rw [← h2]; exact (List.getElem?_eq_some_iff.mp ha).1
  rw [List.getElem?_map, List.getElem?_range hi] at hr
  cases hr
  exact (h3 i a ha).2
/-- pairs in order -/
def leP (p q : Nat × Nat) : Prop := ¬ (q.1 < p.1 ∨ (q.1 = p.1 ∧ q.2 < p.2))
def PermS (qs ps : List (Nat × Nat)) : Prop := qs.Perm ps ∧ qs.Pairwise leP
def kOf (H : Hp) : V → Int × Int := fun v => match v with
  | .ref t => match H t with
    | some (.tup [.int i, .int j]) => (i, j)
    | _ => (0, 0)
  | _ => (0, 0)
theorem kOf_ref {H : Hp} {t : Addr} {i j : Int} (h : H t = some (.tup [.int i, .int j])) : kOf H (.ref t) = (i, j) := by
  show (match H t with
    | some (.tup [.int i, .int j]) => (i, j)
    | _ => (0, 0)) = (i, j)
  rw [h]
/-- the names of the methods -/
def mNames : List Str := ["order", "beneath", "above", "direct", "depth", "tops", "bottoms", "is_beneath", "is_comparable", "closed", "reduced"]
theorem mN {m f : Str} (hm : m ∈ mNames) (hf : f ∉ mNames) : ¬ m = f := fun e => hf (e ▸ hm)
/-- the rest of what a house keeps -/
def HouseX (C : Addr) (H : Hp) (x : Addr) (n : Nat) (ps : List (Nat × Nat)) : Prop := ∃ (dx : Addr) (fs : List (Str × V)) (ab di l : Addr) (us : List Addr) (qs : List (Nat × Nat)), H x = some (.ins C dx fs) ∧ fs.lookup ("_above" : Str) = some (.ref ab) ∧ Rows H ab (relRows n (flip (relOf ps))) ∧
  fs.lookup ("_direct" : Str) = some (.ref di) ∧ Rows H di ((List.range n).map (dirL qs)) ∧ fs.lookup ("wires" : Str) = some (.ref l) ∧ H l = some (.tup (us.map V.ref)) ∧ Pairs H us qs ∧ PermS qs ps ∧ ∀ m ∈ mNames, fs.lookup m = Option.none
theorem HouseX.same {H H' : Hp} {x : Addr} {n : Nat} {ps : List (Nat × Nat)} (a : HouseX C H x n ps) (s : Same H H') : HouseX C H' x n ps := by
  obtain ⟨dx, fs, ab, di, l, us, qs, h1, h2, h3, h4, h5, h6, h7, h8, h9, h10⟩ := a
  exact ⟨dx, fs, ab, di, l, us, qs, s _ _ h1, h2, h3.same s, h4, h5.same s, h6, s _ _ h7, h8.same s, h9, h10⟩
abbrev s_House___init__ : Stmt := inClass (top 9) 2
theorem sc_House___init__ : FnScope ["self", "count", "hues", "wires", "lamps", "upper", "lamp", "lower"] ["self", "count", "hues", "wires"] (defScope s_House___init__) := ⟨rfl, rfl, rfl, by decide +kernel, rfl, by decide +kernel, by decide +kernel⟩
-- slots of House.__init__: 0 self, 1 count, 2 hues, 3 wires, 4 lamps, 5 upper, 6 lamp, 7 lower
def HouseAt (C : Addr) (H : Hp) (x : Addr) (n h : Nat) (R : Rel) : Prop := ∃ (dx : Addr) (fs : List (Str × V)) (be o : Addr), H x = some (.ins C dx fs) ∧ fs.lookup ("count" : Str) = some (.int n) ∧ fs.lookup ("hues" : Str) = some (.int h) ∧
  fs.lookup ("_beneath" : Str) = some (.ref be) ∧ Rows H be (relRows n R) ∧ fs.lookup ("_order" : Str) = some (.ref o) ∧ H o = some (.lst (nL (ordN n R n))) ∧ fs.lookup ("order" : Str) = Option.none ∧ fs.lookup ("beneath" : Str) = Option.none
def spInit (K : PySem.W.Frag) (C : Addr) : Sp := fun vs H Q _ => ∃ (x dx a : Addr) (n h : Nat) (ps : List (Nat × Nat)), vs = [.ref x, .int n, .int h, .ref a] ∧ H x = some (.ins C dx []) ∧ 1 ≤ n ∧ n ≤ 16 ∧ 2 ≤ h ∧ h ≤ 10 ∧ Wires K H a n ps ∧
  ∀ H', SB x H H' → HouseAt C H' x n h (relOf ps) → HouseX C H' x n ps → Q .non H'
theorem ok_init (T : Txt K mg C) {f : Addr} {fd : FuncData} (F : FunV K "__init__" "House.__init__" s_House___init__ f fd) (c_check_count : Cal P w K mg base "check_count" 3 spCheckCount) (c_check_hues : Cal P w K mg base "check_hues" 3 spCheckHues)
    (c_lamps_beneath : Cal P w K mg base "lamps_beneath" 4 (spLampsBeneath K)) (c_order_list : Cal P w K mg base "order_list" 2 spOrderList) : FnOk P w K mg base CX0 5 f fd ["self", "count", "hues", "wires"] (spInit K C) := by
  refine F.ok sc_House___init__ (fun vs H Q E h => ?_) (fun cdv A outer s H vs Q E hr h => ?_)
  · obtain ⟨x, dx, a, n, h, ps, rfl, _⟩ := h; rfl
  · obtain ⟨x, dx, a, n, h, ps, rfl, hx, n1, n16, h2, h10, W, q⟩ := h
    refine ⟨_, (pss_cons (ps_expr (pe_cal c_check_count (hr.mono (by decide)) (pa_cons (pv 1) pa_nil)))
      (pss_cons (ps_expr (pe_cal c_check_hues (hr.mono (by decide)) (pa_cons (pv 2) pa_nil)))
      (pss_cons (ps_fld (pv 0) (pv 1) rfl)
      (pss_cons (ps_fld (pv 0) (pv 2) rfl)
      (pss_cons (ps_fld (pv 0) (pe_cal c_lamps_beneath (hr.mono (by decide)) (pa_cons (pv 1) (pa_cons (pv 3) pa_nil))) rfl)
      (pss_cons (ps_fld (pv 0) (pe_callTy (tupOf_ K) (by rfl) T.tuple b_tuple (pa_cons (pe_callB (sortPS_ K) (by rfl) T.sorted b_sorted (pa_cons (pv 3) pa_nil)) pa_nil)) rfl)
      (pss_cons (ps_set (i := 4) sc_House___init__.nd rfl (by first | exact Or.inl rfl | exact Or.inr rfl) (pe_callTy hu_cr_range1 (by rfl) T.range b_range (pa_cons (pv 1) pa_nil)))
      (pss_cons (ps_fld (pv 0) (pe_lc (own := [("lamp", 6)]) (g := gName 6) (tt := tYes) rfl sc_House___init__.nd (hu_pi_rng (pv 4)) (blkOk_by (by kernel_rfl)) (fun _ _ _ _ _ => (pg_name (i := 6) sc_House___init__.nd rfl (by first | exact Or.inl rfl | exact Or.inr rfl))) (fun _ _ _ _ _ => pts_nil) (fun _ _ _ _ _ => (pe_lc (own := [("upper", 5)]) (g := gName 5) rfl sc_House___init__.nd (hu_pi_rng (pv 4)) (blkOk_by (by kernel_rfl)) (fun _ _ _ _ _ => (pg_name (i := 5) sc_House___init__.nd rfl (by first | exact Or.inl rfl | exact Or.inr rfl))) (fun _ _ _ _ _ => (pts_one (pt_cmpR (inS_ K) (pv 6) (pe_ix (ixL_ K) (fld_ K (pv 0)) (pv 5) (fun _ _ => rfl)) (by rfl)))) (fun _ _ _ _ _ => (pv 5))))) rfl)
      (pss_cons (ps_fld (pv 0) (pe_lc (own := [("lamp", 6)]) (g := gName 6) (tt := tYes) rfl sc_House___init__.nd (hu_pi_rng (pv 4)) (blkOk_by (by kernel_rfl)) (fun _ _ _ _ _ => (pg_name (i := 6) sc_House___init__.nd rfl (by first | exact Or.inl rfl | exact Or.inr rfl))) (fun _ _ _ _ _ => pts_nil) (fun _ _ _ _ _ => (pe_lc (own := [("upper", 5), ("lower", 7)]) (g := gTup K 2 (gCons (gName 5) (gCons (gName 7) gNil))) rfl sc_House___init__.nd (pit_ K (fld_ K (pv 0))) (blkOk_by (by kernel_rfl)) (fun _ _ _ _ _ => (pg_tup (by rfl) (pgs_cons (pg_name (i := 5) sc_House___init__.nd rfl (by first | exact Or.inl rfl | exact Or.inr rfl)) (pgs_cons (pg_name (i := 7) sc_House___init__.nd rfl (by first | exact Or.inl rfl | exact Or.inr rfl)) pgs_nil)))) (fun _ _ _ _ _ => (pts_one (pt_cmpR op_eq (pv 5) (pv 6) (nomark _)))) (fun _ _ _ _ _ => (pv 7))))) rfl)
      (pss_one (ps_fld (pv 0) (pe_cal c_order_list (hr.mono (by decide)) (pa_cons (fld_ K (pv 0)) pa_nil)) rfl))))))))))), ?_⟩
    refine ⟨_, rfl, n, rfl, by omega, by omega, _, rfl, h, rfl, by omega, by omega, ?_⟩
    -- self.count, self.hues
    refine ⟨_, rfl, _, rfl, x, C, dx, _, rfl, hx, T.cl, T.nCount, by decide, ?_⟩
    refine ⟨_, rfl, _, rfl, x, C, dx, _, rfl, upd_same, T.cl, T.nHues, Nat.lt_of_le_of_lt (put_few (Nat.le_refl 0)) (by decide), ?_⟩
    rw [upd_upd]
    have sb1 : SB x H (upd H x (.ins C dx (putF "hues" (.int h) (putF "count" (.int n) [])))) := (SB.refl x H).upd
    have hx1 : (upd H x (.ins C dx (putF "hues" (.int h) (putF "count" (.int n) [])))) x = some (.ins C dx (putF "hues" (.int h) (putF "count" (.int n) []))) := upd_same
    have lk1 : (putF "hues" (.int h) (putF "count" (.int n) []) : List (Str × V)).length ≤ 2 := put_few (put_few (Nat.le_refl 0))
    generalize upd H x (.ins C dx (putF "hues" (.int h) (putF "count" (.int n) []))) = H1 at sb1 hx1 ⊢
    obtain ⟨⟨ts, ha, hps⟩, nd, few, lt, ρ, rank⟩ := id W
    have W1 : Wires K H1 a n ps := ⟨⟨ts, ha.sb hx sb1, hps.1, fun i t p e1 e2 => sb1 _ _ (ne_of (hps.2 i t p e1 e2) hx (by intro z; cases z)) (hps.2 i t p e1 e2)⟩, nd, few, lt, ρ, rank⟩
    -- self._beneath
    refine ⟨_, rfl, _, rfl, a, n, ps, rfl, n16, W1, fun H2 be s2 rows2 => ?_⟩
    refine ⟨_, rfl, x, C, dx, _, rfl, s2 _ _ hx1, T.cl, T.nBen, by omega, ?_⟩
    have sb3 : SB x H (upd H2 x (.ins C dx (putF "_beneath" (.ref be) (putF "hues" (.int h) (putF "count" (.int n) []))))) := (sb1.trans (SB.of s2)).upd
    have rows3 : Rows (upd H2 x (.ins C dx (putF "_beneath" (.ref be) (putF "hues" (.int h) (putF "count" (.int n) []))))) be (relRows n (relOf ps)) := SB.rows ((SB.refl x H2).upd) (s2 _ _ hx1) rows2
    have hx3 : (upd H2 x (.ins C dx (putF "_beneath" (.ref be) (putF "hues" (.int h) (putF "count" (.int n) []))))) x = some (.ins C dx (putF "_beneath" (.ref be) (putF "hues" (.int h) (putF "count" (.int n) [])))) := upd_same
    have lk3 : (putF "_beneath" (.ref be) (putF "hues" (.int h) (putF "count" (.int n) [])) : List (Str × V)).length ≤ 3 := put_few lk1
    generalize upd H2 x (.ins C dx (putF "_beneath" (.ref be) (putF "hues" (.int h) (putF "count" (.int n) [])))) = H3 at sb3 rows3 hx3 ⊢
    -- self.wires
    have ha3 := ha.sb hx sb3
    refine ⟨_, rfl, a, ts.map V.ref, kOf H3, rfl, ha3, fun y hy => ?_, fun ys c perm so nc => ?_⟩
    · obtain ⟨t, ht, rfl⟩ := List.mem_map.mp hy
      obtain ⟨j, hj, e⟩ := List.getElem_of_mem ht
      have jl : j < ps.length := by rw [← hps.1]; exact hj
      have e2 := hps.2 j t ps[j] (by rw [List.getElem?_eq_getElem hj, e]) (List.getElem?_eq_getElem jl)
      have e3 := sb3 _ _ (ne_of e2 hx (by intro z; cases z)) e2
      exact ⟨t, rfl, by rw [kOf_ref e3]; exact e3⟩
    refine ⟨c, ys, rfl, .inl ⟨SqL.of upd_same, fun l nl => ?_⟩⟩
    have s4 : Same H3 (upd (upd H3 c (.lst ys)) l (.tup ys)) := (same_new nc).trans (same_new nl)
    have hl4 : (upd (upd H3 c (.lst ys)) l (.tup ys)) l = some (.tup ys) := upd_same
    generalize upd (upd H3 c (.lst ys)) l (.tup ys) = H4 at s4 hl4 ⊢
    refine ⟨_, rfl, x, C, dx, _, rfl, s4 _ _ hx3, T.cl, T.nWires, by omega, ?_⟩
    have nlx : l ≠ x := ne_of hl4 (s4 _ _ hx3) (by intro z; cases z)
    generalize hf5 : putF "wires" (.ref l) (putF "_beneath" (.ref be) (putF "hues" (.int h) (putF "count" (.int n) []))) = fs5
    have lk5 : fs5.length ≤ 4 := by rw [← hf5]; exact put_few lk3
    have ben5 : fs5.lookup ("_beneath" : Str) = some (.ref be) := by rw [← hf5, lk_ne _ _ (by decide +kernel), lk_same]
    have wir5 : fs5.lookup ("wires" : Str) = some (.ref l) := by rw [← hf5, lk_same]
    have cnt5 : fs5.lookup ("count" : Str) = some (.int n) := by rw [← hf5, lk_ne _ _ (by decide +kernel), lk_ne _ _ (by decide +kernel), lk_ne _ _ (by decide +kernel), lk_same]
    have hue5 : fs5.lookup ("hues" : Str) = some (.int h) := by rw [← hf5, lk_ne _ _ (by decide +kernel), lk_ne _ _ (by decide +kernel), lk_same]
    have ord5 : fs5.lookup ("order" : Str) = Option.none := by rw [← hf5, lk_ne _ _ (by decide +kernel), lk_ne _ _ (by decide +kernel), lk_ne _ _ (by decide +kernel), lk_ne _ _ (by decide +kernel)] <;> rfl
    have bnt5 : fs5.lookup ("beneath" : Str) = Option.none := by rw [← hf5, lk_ne _ _ (by decide +kernel), lk_ne _ _ (by decide +kernel), lk_ne _ _ (by decide +kernel), lk_ne _ _ (by decide +kernel)] <;> rfl
    have mth5 : ∀ m ∈ mNames, fs5.lookup m = Option.none := fun m hm => by rw [← hf5, lk_ne _ _ (mN hm (by decide +kernel)), lk_ne _ _ (mN hm (by decide +kernel)), lk_ne _ _ (mN hm (by decide +kernel)), lk_ne _ _ (mN hm (by decide +kernel))] <;> rfl
    have sb5 : SB x H (upd H4 x (.ins C dx fs5)) := (sb3.trans (SB.of s4)).upd
    have rows5 : Rows (upd H4 x (.ins C dx fs5)) be (relRows n (relOf ps)) := SB.rows ((SB.refl x H4).upd) (s4 _ _ hx3) (rows3.same s4)
    have hl5 : (upd H4 x (.ins C dx fs5)) l = some (.tup ys) := by rw [upd_ne nlx]; exact hl4
    have hx5 : (upd H4 x (.ins C dx fs5)) x = some (.ins C dx fs5) := upd_same
    generalize upd H4 x (.ins C dx fs5) = H5 at sb5 rows5 hl5 hx5 ⊢
    have hps5 : Pairs H5 ts ps := ⟨hps.1, fun i t p e1 e2 => sb5 _ _ (ne_of (hps.2 i t p e1 e2) hx (by intro z; cases z)) (hps.2 i t p e1 e2)⟩
    obtain ⟨us, qs, eys, hus5, pqs⟩ := pairs_perm hps5 perm
    have kq : ∀ (i : Nat) t r, us[i]? = some t → qs[i]? = some r → kOf H3 (.ref t) = ((r.1 : Int), (r.2 : Int)) := by
      intro i t r e1 e2
      have m : V.ref t ∈ ts.map V.ref := perm.mem_iff.mp (by rw [eys]; exact List.mem_map.mpr ⟨t, List.mem_of_getElem? e1, rfl⟩)
      obtain ⟨t', ht', et⟩ := List.mem_map.mp m
      cases et
      obtain ⟨j, hj, e⟩ := List.getElem_of_mem ht'
      have jl : j < ps.length := by rw [← hps.1]; exact hj
      have h0 := hps.2 j t ps[j] (by rw [List.getElem?_eq_getElem hj, e]) (List.getElem?_eq_getElem jl)
      have ntx := ne_of h0 hx (by intro z; cases z)
      have h5 := hus5.2 i t r e1 e2
      rw [sb5 _ _ ntx h0] at h5
      injection h5 with h5
      injection h5 with h5
      injection h5 with a1 a2
      injection a1 with a1
      injection a2 with a2 _
      injection a2 with a2
      rw [kOf_ref (sb3 _ _ ntx h0), a1, a2]
    have pqs : PermS qs ps := ⟨pqs, by
      rw [List.pairwise_iff_getElem]
      intro i j hi hj ij
      have li : i < us.length := by rw [hus5.1]; exact hi
      have lj : j < us.length := by rw [hus5.1]; exact hj
      rw [eys, List.pairwise_map, List.pairwise_iff_getElem] at so
      have z := so i j li lj ij
      rw [kq i _ _ (List.getElem?_eq_getElem li) (List.getElem?_eq_getElem hi), kq j _ _ (List.getElem?_eq_getElem lj) (List.getElem?_eq_getElem hj)] at z
      show ¬ (qs[j].1 < qs[i].1 ∨ (qs[j].1 = qs[i].1 ∧ qs[j].2 < qs[i].2))
      intro y
      refine z ?_
      show ((qs[j].1 : Int) < (qs[i].1 : Int) ∨ ((qs[j].1 : Int) = (qs[i].1 : Int) ∧ (qs[j].2 : Int) < (qs[i].2 : Int)))
      omega⟩
    have ys5 : ∀ y ∈ ys, ∃ (t : Addr) (i j : Nat), y = V.ref t ∧ H5 t = some (.tup [.int (i : Int), .int (j : Int)]) := by
      intro y hy
      obtain ⟨t, ht, rfl⟩ := List.mem_map.mp (perm.mem_iff.mp hy)
      obtain ⟨j, hj, e⟩ := List.getElem_of_mem ht
      have jl : j < ps.length := by rw [← hps.1]; exact hj
      have e2 := hps.2 j t ps[j] (by rw [List.getElem?_eq_getElem hj, e]) (List.getElem?_eq_getElem jl)
      exact ⟨t, _, _, rfl, sb5 _ _ (ne_of e2 hx (by intro z; cases z)) e2⟩
    have ysl : ys.length < 4900 := by rw [perm.length_eq, List.length_map, hps.1]; exact few
    -- lamps = range(count)
    refine ⟨_, rfl, _, rfl, fun r nr => ?_⟩
    have s6 : Same H5 (upd H5 r (.rng 0 (n : Int))) := same_new nr
    have hr6 : (upd H5 r (.rng 0 (n : Int))) r = some (.rng 0 (n : Int)) := upd_same
    generalize upd H5 r (.rng 0 (n : Int)) = H6 at s6 hr6 ⊢
    have nrx : r ≠ x := ne_of hr6 (s6 _ _ hx5) (by intro z; cases z)
    have rows6 := rows5.same s6
    -- self._above
    refine ⟨_, rfl, r, 0, n, rfl, hr6, ⟨by omega, by omega, by omega, by omega⟩, fun D hD => ?_⟩
    rw [show ((n : Int) - 0).toNat = n by omega]
    refine lc_range (fun i H7 => Coll H6 D (fun j => nL (Bel n (flip (relOf ps)) j)) i H7) (Coll.start hD) ?_ ?_
    · intro i H7 hi c7
      have e0 : (0 : Int) + (i : Int) = (i : Int) := by omega
      rw [e0]
      obtain ⟨_, hD7, _, s7, _⟩ := id c7
      refine ⟨rfl, yesT ⟨_, rfl, r, 0, n, rfl, s7 _ _ hr6, ⟨by omega, by omega, by omega, by omega⟩, fun D2 hD2 => ?_⟩⟩
      rw [show ((n : Int) - 0).toNat = n by omega]
      refine lc_range (fun j H8 => H8 D2 = some (.lst (nL ((List.range j).filter (flip (relOf ps) i)))) ∧ Same H7 H8) ⟨upd_same, same_new hD2⟩ ?_ ?_
      · rintro j H8 hj ⟨h8, s8⟩
        have e0 : (0 : Int) + (j : Int) = (j : Int) := by omega
        rw [e0]
        have s68 : Same H6 H8 := s7.trans s8
        obtain ⟨xs, al, hb, _, hal, hL⟩ := (rows6.same s68).at (relRows_at (R := relOf ps) hj)
        refine ⟨rfl, _, rfl, _, rfl, x, C, dx, _, _, rfl, s68 _ _ (s6 _ _ hx5), T.cl, T.nBen, ben5, _, rfl, be, xs, _, _, rfl, rfl, SqL.of hb, atI_nat hal, al, _, rfl, .inl (SqL.of hL), rfl, flat_nL _, _, rfl, ?_⟩
        have grown : (List.range (j + 1)).filter (flip (relOf ps) i) = (List.range j).filter (flip (relOf ps) i) ++ (if flip (relOf ps) i j = true then [j] else []) := by
          rw [List.range_succ, List.filter_append, List.filter_cons]
          rfl
        have same_test : inV (V.int (i : Int)) (nL (Bel n (relOf ps) j)) = flip (relOf ps) i j := by
          rw [in_nL, Bool.eq_iff_iff, decide_eq_true_eq, mem_Bel]
          exact ⟨fun z => z.2, fun z => ⟨hi, z⟩⟩
        show if inV (V.int (i : Int)) (nL (Bel n (relOf ps) j)) = true then _ else _
        rw [same_test]
        refine ite2 (fun hx' => ?_) (fun hx' => ?_)
        · refine ⟨_, rfl, _, h8, ?_, ?_, same_upd s8 hD2⟩
          · rw [nL_len, sizeLine_eq]
            have := List.length_filter_le (flip (relOf ps) i) (List.range j)
            rw [List.length_range] at this
            omega
          · rw [upd_same, grown, if_pos hx', nL_app]; rfl
        · refine ⟨?_, s8⟩
          rw [h8, grown, if_neg hx', List.append_nil]
      · rintro H8 ⟨h8, s8⟩
        exact c7.more hD s8 (fun z => by rw [z, hD7] at hD2; cases hD2) h8 (by omega)
    intro H7 c7
    have rowsA := c7.rows
    obtain ⟨_, hD7, _, s7, _⟩ := id c7
    refine ⟨_, rfl, x, C, dx, _, rfl, s7 _ _ (s6 _ _ hx5), T.cl, T.nAbove, by omega, ?_⟩
    generalize hf8 : putF "_above" (.ref D) fs5 = fs8
    have lk8 : fs8.length ≤ 5 := by rw [← hf8]; exact put_few lk5
    have ben8 : fs8.lookup ("_beneath" : Str) = some (.ref be) := by rw [← hf8, lk_ne _ _ (by decide +kernel)]; exact ben5
    have wir8 : fs8.lookup ("wires" : Str) = some (.ref l) := by rw [← hf8, lk_ne _ _ (by decide +kernel)]; exact wir5
    have cnt8 : fs8.lookup ("count" : Str) = some (.int n) := by rw [← hf8, lk_ne _ _ (by decide +kernel)]; exact cnt5
    have hue8 : fs8.lookup ("hues" : Str) = some (.int h) := by rw [← hf8, lk_ne _ _ (by decide +kernel)]; exact hue5
    have ord8 : fs8.lookup ("order" : Str) = Option.none := by rw [← hf8, lk_ne _ _ (by decide +kernel)]; exact ord5
    have bnt8 : fs8.lookup ("beneath" : Str) = Option.none := by rw [← hf8, lk_ne _ _ (by decide +kernel)]; exact bnt5
    have abv8 : fs8.lookup ("_above" : Str) = some (.ref D) := by rw [← hf8, lk_same]
    have mth8 : ∀ m ∈ mNames, fs8.lookup m = Option.none := fun m hm => by rw [← hf8, lk_ne _ _ (mN hm (by decide +kernel))]; exact mth5 m hm
    have s67 := s6.trans s7
    have sb8 : SB x H (upd H7 x (.ins C dx fs8)) := (sb5.trans (SB.of s67)).upd
    have rows8 : Rows (upd H7 x (.ins C dx fs8)) be (relRows n (relOf ps)) := SB.rows ((SB.refl x H7).upd) (s67 _ _ hx5) (rows6.same s7)
    have rowsA8 : Rows (upd H7 x (.ins C dx fs8)) D (relRows n (flip (relOf ps))) := SB.rows ((SB.refl x H7).upd) (s67 _ _ hx5) rowsA
    have hl8 : (upd H7 x (.ins C dx fs8)) l = some (.tup ys) := by rw [upd_ne nlx]; exact s67 _ _ hl5
    have hr8 : (upd H7 x (.ins C dx fs8)) r = some (.rng 0 (n : Int)) := by rw [upd_ne nrx]; exact s7 _ _ hr6
    have hx8 : (upd H7 x (.ins C dx fs8)) x = some (.ins C dx fs8) := upd_same
    have ys8 : ∀ y ∈ ys, ∃ (t : Addr) (i j : Nat), y = V.ref t ∧ (upd H7 x (.ins C dx fs8)) t = some (.tup [.int (i : Int), .int (j : Int)]) := by
      intro y hy
      obtain ⟨t, i, j, e1, e2⟩ := ys5 y hy
      exact ⟨t, i, j, e1, by rw [upd_ne (ne_of e2 hx5 (by intro z; cases z))]; exact s67 _ _ e2⟩
    have hus8 : Pairs (upd H7 x (.ins C dx fs8)) us qs := ⟨hus5.1, fun i t p e1 e2 => by rw [upd_ne (ne_of (hus5.2 i t p e1 e2) hx5 (by intro z; cases z))]; exact s67 _ _ (hus5.2 i t p e1 e2)⟩
    generalize upd H7 x (.ins C dx fs8) = H8 at sb8 rows8 rowsA8 hl8 hr8 hx8 ys8 hus8 ⊢
    -- self._direct
    refine ⟨_, rfl, r, 0, n, rfl, hr8, ⟨by omega, by omega, by omega, by omega⟩, fun D3 hD3 => ?_⟩
    rw [show ((n : Int) - 0).toNat = n by omega]
    have lq : qs.length < 4900 := by rw [pqs.1.length_eq]; exact few
    refine lc_range (fun i H9 => Coll H8 D3 (fun i => nL (dirL qs i)) i H9) (Coll.start hD3) ?_ ?_
    · intro i H9 hi c9
      have e0 : (0 : Int) + (i : Int) = (i : Int) := by omega
      rw [e0]
      obtain ⟨_, hD9, _, s9, _⟩ := id c9
      refine ⟨rfl, yesT ⟨_, rfl, x, C, dx, _, _, rfl, s9 _ _ hx8, T.cl, T.nWires, wir8, l, rfl, ⟨_, SqT.of (s9 _ _ hl8)⟩, fun D4 hD4 => ?_⟩⟩
      refine lc_it (walk_tup (xs := ys)) (fun j H10 => H10 D4 = some (.lst (nL (dirL (qs.take j) i))) ∧ Same H9 H10) ⟨upd_same, same_new hD4⟩ (fun j H10 _ ⟨_, s10⟩ => SqT.of (s10 _ _ (s9 _ _ hl8))) ?_ ?_
      · rintro j y H10 H11 hj ⟨h10, s10⟩ ⟨rfl, hy⟩
        rw [eys, List.getElem?_map] at hy
        obtain ⟨t, ht, rfl⟩ := Option.map_eq_some_iff.mp hy
        have jl : j < qs.length := by rw [← hus8.1]; exact (List.getElem?_eq_some_iff.mp ht).1
        obtain ⟨p, hp⟩ : ∃ p, qs[j]? = some p := ⟨_, List.getElem?_eq_getElem jl⟩
        have htp := hus8.2 j t p ht hp
        have fewj : (dirL (qs.take j) i).length < 4900 := Nat.lt_of_le_of_lt (dirL_few _ _) (by rw [List.length_take]; omega)
        refine ⟨t, _, rfl, SqT.of (s10 _ _ (s9 _ _ htp)), rfl, _, _, rfl, _, _, rfl, rfl, rfl, ?_⟩
        refine ⟨_, rfl, _, rfl, rfl, _, rfl, ?_⟩
        refine ite2 (fun he => ?_) (fun hne => ?_)
        · have e : p.1 = i := by
            have z := of_decide_eq_true he
            injection z with z
            omega
          refine ⟨_, rfl, _, h10, by rw [nL_len, sizeLine_eq]; omega, ?_, same_upd s10 hD4⟩
          rw [upd_same, dirL_more hp, if_pos e, nL_app]; rfl
        · have ne : ¬ p.1 = i := fun z => hne (decide_eq_true (by rw [z]))
          refine ⟨?_, s10⟩
          rw [h10, dirL_more hp, if_neg ne, List.append_nil]
      · rintro H10 ⟨h10, s10⟩
        have e : ys.length = qs.length := by rw [eys, List.length_map, hus8.1]
        rw [e, List.take_length] at h10
        exact c9.more hD3 s10 (fun z => by rw [z, hD9] at hD4; cases hD4) h10 (by omega)
    rintro H9 c9
    have rowsD := c9.rowsF
    have s9 := c9.same
    refine ⟨_, rfl, x, C, dx, _, rfl, s9 _ _ hx8, T.cl, T.nDirect, by omega, ?_⟩
    generalize hf10 : putF "_direct" (.ref D3) fs8 = fs10
    have lk10 : fs10.length ≤ 6 := by rw [← hf10]; exact put_few lk8
    have ben10 : fs10.lookup ("_beneath" : Str) = some (.ref be) := by rw [← hf10, lk_ne _ _ (by decide +kernel)]; exact ben8
    have cnt10 : fs10.lookup ("count" : Str) = some (.int n) := by rw [← hf10, lk_ne _ _ (by decide +kernel)]; exact cnt8
    have hue10 : fs10.lookup ("hues" : Str) = some (.int h) := by rw [← hf10, lk_ne _ _ (by decide +kernel)]; exact hue8
    have ord10 : fs10.lookup ("order" : Str) = Option.none := by rw [← hf10, lk_ne _ _ (by decide +kernel)]; exact ord8
    have bnt10 : fs10.lookup ("beneath" : Str) = Option.none := by rw [← hf10, lk_ne _ _ (by decide +kernel)]; exact bnt8
    have abv10 : fs10.lookup ("_above" : Str) = some (.ref D) := by rw [← hf10, lk_ne _ _ (by decide +kernel)]; exact abv8
    have dir10 : fs10.lookup ("_direct" : Str) = some (.ref D3) := by rw [← hf10, lk_same]
    have wir10 : fs10.lookup ("wires" : Str) = some (.ref l) := by rw [← hf10, lk_ne _ _ (by decide +kernel)]; exact wir8
    have mth10 : ∀ m ∈ mNames, fs10.lookup m = Option.none := fun m hm => by rw [← hf10, lk_ne _ _ (mN hm (by decide +kernel))]; exact mth8 m hm
    have rowsD10 : Rows (upd H9 x (.ins C dx fs10)) D3 ((List.range n).map (dirL qs)) := SB.rows ((SB.refl x H9).upd) (s9 _ _ hx8) rowsD
    have hl10 : (upd H9 x (.ins C dx fs10)) l = some (.tup ys) := by rw [upd_ne nlx]; exact s9 _ _ hl8
    have hus10 : Pairs (upd H9 x (.ins C dx fs10)) us qs := ⟨hus8.1, fun i t p e1 e2 => by rw [upd_ne (ne_of (hus8.2 i t p e1 e2) hx8 (by intro z; cases z))]; exact s9 _ _ (hus8.2 i t p e1 e2)⟩
    have sb10 : SB x H (upd H9 x (.ins C dx fs10)) := (sb8.trans (SB.of s9)).upd
    have rows10 : Rows (upd H9 x (.ins C dx fs10)) be (relRows n (relOf ps)) := SB.rows ((SB.refl x H9).upd) (s9 _ _ hx8) (rows8.same s9)
    have rowsA10 : Rows (upd H9 x (.ins C dx fs10)) D (relRows n (flip (relOf ps))) := SB.rows ((SB.refl x H9).upd) (s9 _ _ hx8) (rowsA8.same s9)
    have hx10 : (upd H9 x (.ins C dx fs10)) x = some (.ins C dx fs10) := upd_same
    generalize upd H9 x (.ins C dx fs10) = H10 at sb10 rows10 rowsA10 hx10 rowsD10 hl10 hus10 ⊢
    -- self._order
    refine ⟨_, rfl, x, C, dx, _, _, rfl, hx10, T.cl, T.nAbove, abv10, D, n, relOf ps, rfl, n16, relOf_ranked rank, rowsA10, fun H11 o s11 no ho => ?_⟩
    refine ⟨_, rfl, x, C, dx, _, rfl, s11 _ _ hx10, T.cl, T.nOrder, by omega, ?_⟩
    have nox : o ≠ x := ne_of ho (s11 _ _ hx10) (by intro z; cases z)
    refine q _ (sb10.trans (SB.of s11)).upd ⟨dx, _, be, o, upd_same, ?_, ?_, ?_, SB.rows ((SB.refl x H11).upd) (s11 _ _ hx10) (rows10.same s11), ?_, by rw [upd_ne nox]; exact ho, ?_, ?_⟩ ⟨dx, _, D, D3, l, us, qs, upd_same, ?_, SB.rows ((SB.refl x H11).upd) (s11 _ _ hx10) (rowsA10.same s11), ?_, SB.rows ((SB.refl x H11).upd) (s11 _ _ hx10) (rowsD10.same s11), ?_, by rw [upd_ne nlx, ← eys]; exact s11 _ _ hl10, ⟨hus10.1, fun i t p e1 e2 => by rw [upd_ne (ne_of (hus10.2 i t p e1 e2) hx10 (by intro z; cases z))]; exact s11 _ _ (hus10.2 i t p e1 e2)⟩, pqs, fun m hm => ?_⟩
    · rw [lk_ne _ _ (by decide +kernel)]; exact cnt10
    · rw [lk_ne _ _ (by decide +kernel)]; exact hue10
    · rw [lk_ne _ _ (by decide +kernel)]; exact ben10
    · rw [lk_same]
    · rw [lk_ne _ _ (by decide +kernel)]; exact ord10
    · rw [lk_ne _ _ (by decide +kernel)]; exact bnt10
    · rw [lk_ne _ _ (by decide +kernel)]; exact abv10
    · rw [lk_ne _ _ (by decide +kernel)]; exact dir10
    · rw [lk_ne _ _ (by decide +kernel)]; exact wir10
    · rw [lk_ne _ _ (mN hm (by decide +kernel))]; exact mth10 m hm
end
end Hue

end
section
set_option maxRecDepth 100000
set_option maxHeartbeats 4000000
namespace Hue
open PySem PySem.Spec PyProof.Rows L2
section
variable {P : Program} {w : World} {K : PySem.W.Frag} {mg : Str → Option Value} {base : Heap} {C CL : Addr}
theorem HouseAt.same {H H' : Hp} {x : Addr} {n h : Nat} {R : Rel} (a : HouseAt C H x n h R) (s : Same H H') : HouseAt C H' x n h R := by
  obtain ⟨dx, fs, be, o, h1, h2, h3, h4, h5, h6, h7, h8, h9⟩ := a
  exact ⟨dx, fs, be, o, s _ _ h1, h2, h3, h4, h5.same s, h6, s _ _ h7, h8, h9⟩
abbrev s_InvalidLamp___init__ : Stmt := inClass (top 4) 0
theorem sc_InvalidLamp___init__ : FnScope ["self", "lamp"] ["self", "lamp"] (defScope s_InvalidLamp___init__) := ⟨rfl, rfl, rfl, by decide +kernel, rfl, by decide +kernel, by decide +kernel⟩
-- slots of InvalidLamp.__init__: 0 self, 1 lamp
theorem ok_InvalidLamp {f : Addr} {fd : FuncData} (F : Fun K "__init__" "InvalidLamp.__init__" s_InvalidLamp___init__ f fd) : FnOk P w K mg base CX0 1 f fd ["self", "lamp"] (spKeep K "lamp") := by
  refine F.ok sc_InvalidLamp___init__ (fun vs H Q E h => ?_) (fun cdv A outer s H vs Q E hr h => ?_)
  · obtain ⟨a, D, v, rfl, _⟩ := h; rfl
  · obtain ⟨a, D, v, rfl, T, no, ha, q⟩ := h
    refine ⟨_, (pss_one (ps_ost (pv 0) (pv 1))), ?_⟩
    exact ⟨_, rfl, _, rfl, a, D, rfl, T, no, .inl ⟨ha, fun dx nd ne => q dx nd ne⟩⟩
abbrev s_House_order : Stmt := inClass (top 9) 10
theorem sc_House_order : FnScope ["self"] ["self"] (defScope s_House_order) := ⟨rfl, rfl, rfl, by decide +kernel, rfl, by decide +kernel, by decide +kernel⟩
-- slots of House.order: 0 self
def spOrder (C : Addr) : Sp := fun vs H Q _ => ∃ (x : Addr) (n h : Nat) (R : Rel), vs = [.ref x] ∧ HouseAt C H x n h R ∧ ∀ (H' : Hp) (p : Addr), Same H H' → H p = Option.none → H' p = some (.lst (nL (ordN n R n))) → Q (.ref p) H'
theorem ok_order (T : Txt K mg C) {f : Addr} {fd : FuncData} (F : Fun K "order" "House.order" s_House_order f fd) : FnOk P w K mg base CX0 1 f fd ["self"] (spOrder C) := by
  refine F.ok sc_House_order (fun vs H Q E h => ?_) (fun cdv A outer s H vs Q E hr h => ?_)
  · obtain ⟨x, n, h, R, rfl, _⟩ := h; rfl
  · obtain ⟨x, n, h, R, rfl, ⟨dx, fs, be, o, h1, h2, h3, h4, h5, h6, h7, h8, h9⟩, q⟩ := h
    refine ⟨_, (pss_one (ps_ret (pe_callTy (lstOf_ K) (by rfl) T.list b_list (pa_cons (fld_ K (pv 0)) pa_nil)))), ?_⟩
    exact ⟨_, rfl, x, C, dx, _, _, rfl, h1, T.cl, T.nOrder, h6, o, _, rfl, .inl (SqL.of h7), fun l nl => q _ l (same_new nl) nl upd_same⟩
abbrev s_is_lamp : Stmt := top 10
theorem sc_is_lamp : FnScope ["house", "value"] ["house", "value"] (defScope s_is_lamp) := ⟨rfl, rfl, rfl, by decide +kernel, rfl, by decide +kernel, by decide +kernel⟩
-- slots of is_lamp: 0 house, 1 value
def spIsLampV (C : Addr) : Sp := fun vs H Q _ => ∃ (x : Addr) (n h : Nat) (R : Rel) (v : V), vs = [.ref x, v] ∧ HouseAt C H x n h R ∧ Kd H v ∧ Q (.bl (inI v 0 ((n : Int) - 1))) H
theorem ok_is_lamp (T : Txt K mg C) {f : Addr} {fd : FuncData} (F : Fun K "is_lamp" "is_lamp" s_is_lamp f fd) (c_is_whole_in : Cal P w K mg base "is_whole_in" 2 spWholeInV) : FnOk P w K mg base CX0 3 f fd ["house", "value"] (spIsLampV C) := by
  refine F.ok sc_is_lamp (fun vs H Q E h => ?_) (fun cdv A outer s H vs Q E hr h => ?_)
  · obtain ⟨x, n, h, R, i, rfl, _⟩ := h; rfl
  · obtain ⟨x, n, h, R, v, rfl, ⟨dx, fs, be, o, h1, h2, h3, h4, h5, h6, h7, h8, h9⟩, k, q⟩ := h
    refine ⟨_, (pss_one (ps_ret (pe_cal c_is_whole_in (hr.mono (by decide)) (pa_cons (pv 1) (pa_cons pe_int (pa_cons (pe_op op_sub (fld_ K (pv 0)) pe_int) pa_nil)))))), ?_⟩
    exact ⟨_, rfl, _, rfl, x, C, dx, _, _, rfl, h1, T.cl, T.nCount, h2, _, _, rfl, rfl, v, 0, (n : Int) - 1, rfl, k, q⟩
abbrev s_check_lamp : Stmt := top 11
theorem sc_check_lamp : FnScope ["house", "lamp"] ["house", "lamp"] (defScope s_check_lamp) := ⟨rfl, rfl, rfl, by decide +kernel, rfl, by decide +kernel, by decide +kernel⟩
-- slots of check_lamp: 0 house, 1 lamp
/-- the wish where v is no lamp -/
def Odd1 (CL : Addr) (f : Str) (v : V) (H : Hp) (E : XK) : Prop := ∀ (d : Addr) (H' : Hp), H d = Option.none → Same H H' → H' d = some (.xd [(f, v)]) → E (.ref CL) (some d) H'
theorem Odd1.after {CL : Addr} {f : Str} {v : V} {H H1 : Hp} {E : XK} (o : Odd1 CL f v H E) (s : Same H H1) : Odd1 CL f v H1 E := fun d H' nd s' hd => o d H' (s.free nd) (s.trans s') hd
def spCheckLampX (C CL : Addr) : Sp := fun vs H Q E => ∃ (x : Addr) (n h : Nat) (R : Rel) (v : V), vs = [.ref x, v] ∧ HouseAt C H x n h R ∧ Kd H v ∧ (inI v 0 ((n : Int) - 1) = true → Q .non H) ∧ (inI v 0 ((n : Int) - 1) = false → Odd1 CL "lamp" v H E)
theorem ok_check_lamp (T : Txt K mg C) (M_lamp : XMk P w K mg base CL "InvalidLamp" "lamp") {f : Addr} {fd : FuncData} (F : Fun K "check_lamp" "check_lamp" s_check_lamp f fd) (c_is_lamp : Cal P w K mg base "is_lamp" 3 (spIsLampV C)) : FnOk P w K mg base (L2.CX P w) 4 f fd ["house", "lamp"] (spCheckLampX C CL) := by
  refine F.okX sc_check_lamp (fun vs H Q E h => ?_) (fun cdv A outer s H vs Q E hr h => ?_)
  · obtain ⟨x, n, h, R, v, rfl, _⟩ := h; rfl
  · obtain ⟨x, n, h, R, v, rfl, ha, k, q1, q2⟩ := h
    refine ⟨_, (pss_one (ps_if (pt_not (pt_val (pe_cal c_is_lamp (hr.mono (by decide)) (pa_cons (pv 0) (pa_cons (pv 1) pa_nil)))))
      (pss_one (ps_raiseM M_lamp rfl (takes_of rfl rfl rfl rfl) (hr.mono (by decide)) (pa_cons (pv 1) pa_nil))) pss_nil)), ?_⟩
    refine ⟨_, rfl, _, rfl, x, n, h, R, v, rfl, ha, k, _, rfl, ?_⟩
    cases e : inI v 0 ((n : Int) - 1) with
    | true => exact iteF (q1 e)
    | false => exact iteT ⟨_, rfl, by show 1 ≤ 1000; decide, fun a na => keep_raised M_lamp.cls.oex M_lamp.no (q2 e) a na⟩
theorem check_int (vs : List V) (H : Hp) (Q : VK) (E : XK) (h : ∃ (x : Addr) (n h : Nat) (R : Rel) (i : Int), vs = [.ref x, .int i] ∧ HouseAt C H x n h R ∧ 0 ≤ i ∧ i < (n : Int) ∧ Q .non H) : spCheckLampX C CL vs H Q fun _ _ _ => False := by
  obtain ⟨x, n, h, R, i, e, ha, i0, i1, q⟩ := h
  have z : inI (.int i) 0 ((n : Int) - 1) = true := by
    show (decide (0 ≤ i) && decide (i ≤ (n : Int) - 1)) = true
    rw [decide_eq_true i0, decide_eq_true (by omega : i ≤ (n : Int) - 1)]
    rfl
  exact ⟨x, n, h, R, .int i, e, ha, .int i, fun _ => q, fun y => by rw [z] at y; cases y⟩
/-! ### tops and bottoms -/
theorem nL_it2 {l : List Nat} {i : Nat} {y : V} (h : (nL l)[i]? = some y) : ∃ k, l[i]? = some k ∧ y = V.int (k : Int) := by
  unfold nL nI at h
  rw [List.map_map, List.getElem?_map] at h
  obtain ⟨k, hk, e⟩ := Option.map_eq_some_iff.mp h
  exact ⟨k, hk, e.symm⟩
theorem filt_more' (f : Nat → Bool) (i : Nat) : (List.range (i + 1)).filter f = (List.range i).filter f ++ (if f i = true then [i] else []) := by
  rw [List.range_succ, List.filter_append, List.filter_cons]
  rfl
theorem filt_few' (f : Nat → Bool) (i : Nat) : ((List.range i).filter f).length ≤ i := by
  have := List.length_filter_le f (List.range i)
  rw [List.length_range] at this
  exact this
theorem isEmpty_nL (l : List Nat) : (!(nL l).isEmpty) = !decide (l = []) := by
  cases l <;> simp [nL, nI]
/-! ### the depth -/
def depStep (ps : List (Nat × Nat)) (d : Nat → Nat) (u : Nat) : Nat → Nat := fun j => if (u, j) ∈ ps then max (d j) (d u + 1) else d j
def depO (ps : List (Nat × Nat)) (ord : List Nat) : Nat → Nat := ord.foldl (depStep ps) fun _ => 0
theorem depStep_congr {ps qs : List (Nat × Nat)} (h : ∀ p, p ∈ ps ↔ p ∈ qs) : depStep ps = depStep qs := by
  funext d u j
  unfold depStep
  simp only [h]
theorem depO_congr {ps qs : List (Nat × Nat)} (h : ∀ p, p ∈ ps ↔ p ∈ qs) (ord : List Nat) : depO ps ord = depO qs ord := by
  unfold depO
  rw [depStep_congr h]
theorem depO_more {ps : List (Nat × Nat)} {ord : List Nat} {i u : Nat} (h : ord[i]? = some u) : depO ps (ord.take (i + 1)) = depStep ps (depO ps (ord.take i)) u := by
  unfold depO
  rw [List.take_add_one, h, List.foldl_append]
  rfl
/-- n numbers -/
def nF (n : Nat) (f : Nat → Nat) : List V := nL ((List.range n).map f)
theorem nF_len (n : Nat) (f : Nat → Nat) : (nF n f).length = n := by unfold nF; rw [nL_len, List.length_map, List.length_range]
theorem nF_get {n : Nat} {f : Nat → Nat} {j : Nat} (h : j < n) : (nF n f)[j]? = some (V.int (f j : Nat)) := nL_get (by rw [List.getElem?_map, List.getElem?_range h]; rfl)
theorem nF_set {n : Nat} {f : Nat → Nat} {k m : Nat} : (nF n f).set k (V.int (m : Nat)) = nF n fun j => if j = k then m else f j := by
  refine List.ext_getElem? fun i => ?_
  rw [List.getElem?_set, nF_len]
  by_cases hi : i < n
  · rw [nF_get (f := fun j => if j = k then m else f j) hi]
    by_cases e : k = i
    · rw [if_pos e, if_pos (by omega), if_pos e.symm]
    · rw [if_neg e, nF_get hi, if_neg (fun z => e z.symm)]
  · rw [List.getElem?_eq_none (l := nF n fun j => if j = k then m else f j) (by rw [nF_len]; omega), List.getElem?_eq_none (l := nF n f) (by rw [nF_len]; omega)]
    by_cases e : k = i
    · rw [if_pos e, if_neg (by omega)]
    · rw [if_neg e]
theorem nF_congr {n : Nat} {f g : Nat → Nat} (h : ∀ j, j < n → f j = g j) : nF n f = nF n g := by
  unfold nF
  rw [List.map_congr_left fun j hj => h j (List.mem_range.mp hj)]
theorem rep0 (n : Nat) : (List.replicate ((n : Int)).toNat [V.int 0]).flatten = nF n fun _ => 0 := by
  rw [Int.toNat_natCast]
  refine List.ext_getElem? fun i => ?_
  have e : (List.replicate n [V.int 0]).flatten = List.replicate n (V.int 0) := by
    induction n with
    | zero => rfl
    | succ n ih => rw [List.replicate_succ, List.flatten_cons, ih, List.replicate_succ]; rfl
  rw [e, List.getElem?_replicate]
  by_cases hi : i < n
  · rw [if_pos hi, nF_get hi]; rfl
  · rw [if_neg hi, List.getElem?_eq_none (by rw [nF_len]; omega)]
theorem max_nat (a b : Nat) : (V.int (if ((b : Nat) : Int) + 1 > ((a : Nat) : Int) then ((b : Nat) : Int) + 1 else ((a : Nat) : Int))) = V.int ((max a (b + 1) : Nat) : Int) := by
  congr 1
  by_cases h : ((b : Nat) : Int) + 1 > ((a : Nat) : Int)
  · rw [if_pos h]; omega
  · rw [if_neg h]; omega
end
end Hue

end
section
set_option maxRecDepth 100000
set_option maxHeartbeats 4000000
namespace Hue
open PySem PySem.Spec PyProof.Rows L2
section
variable {P : Program} {w : World} {K : PySem.W.Frag} {mg : Str → Option Value} {base : Heap} {C CL : Addr}
theorem inI_nat {v : V} {n : Nat} (hin : inI v 0 ((n : Int) - 1) = true) : ∃ k : Nat, k < n ∧ v = .int (k : Nat) := by
  cases v with
  | int i =>
    have z : (decide (0 ≤ i) && decide (i ≤ (n : Int) - 1)) = true := hin
    rw [Bool.and_eq_true, decide_eq_true_eq, decide_eq_true_eq] at z
    exact ⟨i.toNat, by omega, by congr 1; omega⟩
  | _ => cases hin
theorem nat_inI {k n : Nat} (h : k < n) : inI (.int (k : Nat)) 0 ((n : Int) - 1) = true := by
  show (decide (0 ≤ (k : Int)) && decide ((k : Int) ≤ (n : Int) - 1)) = true
  rw [decide_eq_true (by omega), decide_eq_true (by omega)]
  rfl
theorem in_Bel {n : Nat} {R : Rel} {i j : Nat} (h : i < n) : decide (i ∈ Bel n R j) = R j i := by
  rw [Bool.eq_iff_iff, decide_eq_true_eq, mem_Bel]
  exact ⟨fun z => z.2, fun z => ⟨h, z⟩⟩
/-! ### methods that check a lamp and hand out a list -/
abbrev s_House_beneath : Stmt := inClass (top 9) 5
theorem sc_House_beneath : FnScope ["self", "lamp"] ["self", "lamp"] (defScope s_House_beneath) := ⟨rfl, rfl, rfl, by decide +kernel, rfl, by decide +kernel, by decide +kernel⟩
-- slots of House.beneath: 0 self, 1 lamp
def spBeneathX (C CL : Addr) : Sp := fun vs H Q E => ∃ (x : Addr) (n h : Nat) (R : Rel) (v : V), vs = [.ref x, v] ∧ HouseAt C H x n h R ∧ Kd H v ∧
  (∀ k : Nat, k < n → v = .int (k : Nat) → ∀ (H' : Hp) (p : Addr), Same H H' → H p = Option.none → H' p = some (.lst (nL (Bel n R k))) → Q (.ref p) H') ∧ (inI v 0 ((n : Int) - 1) = false → Odd1 CL "lamp" v H E)
theorem ok_beneath (T : Txt K mg C) {f : Addr} {fd : FuncData} (F : Fun K "beneath" "House.beneath" s_House_beneath f fd) (c_check_lamp : CalX P w K mg base "check_lamp" 4 (spCheckLampX C CL)) : FnOk P w K mg base (L2.CX P w) 5 f fd ["self", "lamp"] (spBeneathX C CL) := by
  refine F.okX sc_House_beneath (fun vs H Q E h => ?_) (fun cdv A outer s H vs Q E hr h => ?_)
  · obtain ⟨x, n, h, R, v, rfl, _⟩ := h; rfl
  · obtain ⟨x, n, h, R, v, rfl, ha, kd, q1, q2⟩ := h
    obtain ⟨dx, fs, be, o, h1, h2, h3, h4, h5, h6, h7, h8, h9⟩ := id ha
    refine ⟨_, (pss_cons (ps_expr (pe_calX c_check_lamp (takes_of rfl rfl rfl rfl) (hr.mono (by decide)) (pa_cons (pv 0) (pa_cons (pv 1) pa_nil))))
      (pss_one (ps_ret (pe_callTy (lstOf_ K) (by rfl) T.list b_list (pa_cons (pe_ix (ixL_ K) (fld_ K (pv 0)) (pv 1) (fun _ _ => rfl)) pa_nil))))), ?_⟩
    refine ⟨_, rfl, _, rfl, x, n, h, R, v, rfl, ha, kd, fun hin => ?_, q2⟩
    obtain ⟨k, hk, rfl⟩ := inI_nat hin
    obtain ⟨xs, al, hb, _, hal, hL⟩ := h5.at (relRows_at (R := R) hk)
    exact ⟨_, rfl, x, C, dx, _, _, rfl, h1, T.cl, T.nBen, h4, _, rfl, be, xs, _, _, rfl, rfl, SqL.of hb, atI_nat hal, al, _, rfl, .inl (SqL.of hL), fun p np => q1 k hk rfl _ p (same_new np) np upd_same⟩
abbrev s_House_above : Stmt := inClass (top 9) 6
theorem sc_House_above : FnScope ["self", "lamp"] ["self", "lamp"] (defScope s_House_above) := ⟨rfl, rfl, rfl, by decide +kernel, rfl, by decide +kernel, by decide +kernel⟩
-- slots of House.above: 0 self, 1 lamp
def spAboveX (C CL : Addr) : Sp := fun vs H Q E => ∃ (x : Addr) (n h : Nat) (ps : List (Nat × Nat)) (v : V), vs = [.ref x, v] ∧ HouseAt C H x n h (relOf ps) ∧ HouseX C H x n ps ∧ Kd H v ∧
  (∀ k : Nat, k < n → v = .int (k : Nat) → ∀ (H' : Hp) (p : Addr), Same H H' → H p = Option.none → H' p = some (.lst (nL (Bel n (flip (relOf ps)) k))) → Q (.ref p) H') ∧ (inI v 0 ((n : Int) - 1) = false → Odd1 CL "lamp" v H E)
theorem ok_above (T : Txt K mg C) {f : Addr} {fd : FuncData} (F : Fun K "above" "House.above" s_House_above f fd) (c_check_lamp : CalX P w K mg base "check_lamp" 4 (spCheckLampX C CL)) : FnOk P w K mg base (L2.CX P w) 5 f fd ["self", "lamp"] (spAboveX C CL) := by
  refine F.okX sc_House_above (fun vs H Q E h => ?_) (fun cdv A outer s H vs Q E hr h => ?_)
  · obtain ⟨x, n, h, ps, v, rfl, _⟩ := h; rfl
  · obtain ⟨x, n, h, ps, v, rfl, ha, hX, kd, q1, q2⟩ := h
    obtain ⟨dx, fs, ab, di, l, us, qs, g1, g2, g3, g4, g5, g6, g7, g8, g9, g10⟩ := id hX
    refine ⟨_, (pss_cons (ps_expr (pe_calX c_check_lamp (takes_of rfl rfl rfl rfl) (hr.mono (by decide)) (pa_cons (pv 0) (pa_cons (pv 1) pa_nil))))
      (pss_one (ps_ret (pe_callTy (lstOf_ K) (by rfl) T.list b_list (pa_cons (pe_ix (ixL_ K) (fld_ K (pv 0)) (pv 1) (fun _ _ => rfl)) pa_nil))))), ?_⟩
    refine ⟨_, rfl, _, rfl, x, n, h, relOf ps, v, rfl, ha, kd, fun hin => ?_, q2⟩
    obtain ⟨k, hk, rfl⟩ := inI_nat hin
    obtain ⟨xs, al, hb, _, hal, hL⟩ := g3.at (relRows_at (R := flip (relOf ps)) hk)
    exact ⟨_, rfl, x, C, dx, _, _, rfl, g1, T.cl, T.nAbove, g2, _, rfl, ab, xs, _, _, rfl, rfl, SqL.of hb, atI_nat hal, al, _, rfl, .inl (SqL.of hL), fun p np => q1 k hk rfl _ p (same_new np) np upd_same⟩
/-! ### two lamps -/
/-- two values of which the first that is no lamp is told -/
def Two (CL : Addr) (n : Nat) (a b : V) (H : Hp) (E : XK) : Prop := (inI a 0 ((n : Int) - 1) = false → Odd1 CL "lamp" a H E) ∧ (inI a 0 ((n : Int) - 1) = true → inI b 0 ((n : Int) - 1) = false → Odd1 CL "lamp" b H E)
end
end Hue

end
section
set_option maxRecDepth 100000
set_option maxHeartbeats 4000000
namespace Hue
open PySem PySem.Spec PyProof.Rows L2
section
variable {P : Program} {w : World} {K : PySem.W.Frag} {mg : Str → Option Value} {base : Heap} {C : Addr}
/-! ### the box of draws -/
def bx5 (ga la : Addr) (i1 i2 i3 : Int) : List V := [.ref ga, .int i1, .int i2, .int i3, .ref la]
/-- the box at b, with its two lists -/
structure Bx (H : Hp) (b ga la : Addr) : Prop where
  nga : ga ≠ b
  nla : la ≠ b
  ex : ∃ (gs ls : List Int) (i1 i2 i3 : Int), H b = some (.lst (bx5 ga la i1 i2 i3)) ∧ H ga = some (.lst (gs.map V.int)) ∧ H la = some (.lst (ls.map V.int)) ∧ (∀ z ∈ gs, 0 ≤ z) ∧ 0 ≤ i1 ∧ 0 ≤ i2 ∧ gs.length ≤ 63 ∧ ls.length ≤ 63
namespace Bx
variable {H H' : Hp} {b ga la a : Addr} {o : HO}
theorem same (h : Bx H b ga la) (s : Same H H') : Bx H' b ga la := by
  obtain ⟨n1, n2, gs, ls, i1, i2, i3, e, g, l, r⟩ := h
  exact ⟨n1, n2, gs, ls, i1, i2, i3, s _ _ e, s _ _ g, s _ _ l, r⟩
theorem upd (h : Bx H b ga la) (n : a ≠ b) (m : a ≠ ga) (k : a ≠ la) : Bx (upd H a o) b ga la := by
  obtain ⟨n1, n2, gs, ls, i1, i2, i3, e, g, l, r⟩ := h
  exact ⟨n1, n2, gs, ls, i1, i2, i3, by rw [upd_ne n.symm]; exact e, by rw [upd_ne m.symm]; exact g, by rw [upd_ne k.symm]; exact l, r⟩
theorem new (h : Bx H b ga la) (n : H a = Option.none) : a ≠ b ∧ a ≠ ga ∧ a ≠ la := by
  obtain ⟨n1, n2, gs, ls, i1, i2, i3, e, g, l, r⟩ := h
  exact ⟨(ne_of_none e n).symm, (ne_of_none g n).symm, (ne_of_none l n).symm⟩
theorem at' (h : Bx H b ga la) : ∃ xs, H b = some (.lst xs) := let ⟨_, _, _, _, _, _, _, e, _⟩ := h; ⟨_, e⟩
end Bx
/-- what stood in H0, where the box was not, stands still -/
theorem SB.past {H0 H H' : Hp} {b : Addr} (s : Same H0 H) (n : H0 b = Option.none) (t : SB b H H') : Same H0 H' := fun a o e => t a o (ne_of_none e n) (s a o e)
theorem mod_nat {i : Int} {m : Nat} (hm : 1 ≤ m) : ∃ d : Nat, d < m ∧ i % (m : Int) = (d : Int) := by
  have h1 := Int.emod_nonneg i (by omega : (m : Int) ≠ 0)
  have h2 := Int.emod_lt_of_pos i (by omega : (0 : Int) < m)
  exact ⟨(i % (m : Int)).toNat, by omega, by omega⟩
theorem rem_small (x : Int) {m : Int} (m0 : 0 < m) (m1 : m ≤ 4294967296) : -(2 ^ 64) < x % m ∧ x % m < 2 ^ 64 := by
  have h1 := Int.emod_nonneg x (by omega : m ≠ 0)
  have h2 := Int.emod_lt_of_pos x m0
  omega
theorem Same.sqL {K : PySem.W.Frag} {H H' : Hp} {a : Addr} {xs : List V} (e : Same H H') (h : SqL K H a xs) : SqL K H' a xs := by
  rcases h with (h | ⟨o, h⟩) | h
  · exact .inl (.inl (e _ _ h))
  · exact .inl (.inr ⟨o, e _ _ h⟩)
  · exact .inr h
theorem cut_front {α : Type} {xs : List V} {l : List α} {g : α → V} (e : xs = l.map g) (k : Nat) : cutV xs none (some (k : Int)) = (l.take k).map g := by
  unfold cutV
  rw [HT.sIx_none, HT.sIx_nat, e, List.length_map, List.drop_zero, Nat.sub_zero, ← List.map_take]
  congr 1
  rcases Nat.lt_or_ge k l.length with h | h
  · rw [Nat.min_eq_left (by omega)]
  · rw [Nat.min_eq_right h, List.take_length, List.take_of_length_le h]
abbrev s__law_box : Stmt := top 31
theorem sc__law_box : FnScope ["script", "great", "cell", "lesser"] ["script"] (defScope s__law_box) := ⟨rfl, rfl, rfl, by decide +kernel, rfl, by decide +kernel, by decide +kernel⟩
-- slots of _law_box: 0 script, 1 great, 2 cell, 3 lesser
def spBox (K : PySem.W.Frag) : Sp := fun vs H Q _ => ∃ (a : Addr) (ns : List Int), vs = [.ref a] ∧ SqL K H a (ns.map V.int) ∧ ns.length ≤ 63 ∧ ∀ (H' : Hp) (b ga la : Addr), Same H H' → H b = Option.none → H ga = Option.none → H la = Option.none → Bx H' b ga la → Q (.ref b) H'
theorem filt_more {α : Type} (f : α → Bool) (l : List α) (i : Nat) {z : α} (h : l[i]? = some z) : (l.take (i + 1)).filter f = (l.take i).filter f ++ (if f z = true then [z] else []) := by
  rw [List.take_add_one, h, List.filter_append]
  show _ ++ List.filter f [z] = _
  rw [List.filter_cons]
  rfl
theorem ok__law_box (T : Txt K mg C) {f : Addr} {fd : FuncData} (F : Fun K "_law_box" "_law_box" s__law_box f fd) : FnOk P w K mg base CX0 1 f fd ["script"] (spBox K) := by
  refine F.ok sc__law_box (fun vs H Q E h => ?_) (fun cdv A outer s H vs Q E hr h => ?_)
  · obtain ⟨a, ns, rfl, _⟩ := h; rfl
  · obtain ⟨a, ns, rfl, ha, few, q⟩ := h
    refine ⟨_, (pss_cons (ps_setLc (i := 1) (own := [("cell", 2)]) (g := gName 2) rfl sc__law_box.nd rfl rfl (sw_true rfl rfl rfl (by kernel_rfl)) (pil_ K (pv 0)) (blkOk_by (by kernel_rfl)) (fun _ _ _ _ _ => (pg_name (i := 2) sc__law_box.nd rfl (by first | exact Or.inl rfl | exact Or.inr rfl))) (fun _ _ _ _ _ => (pts_one (pt_cmpR op_ge (pv 2) (pe_op op_pow pe_int pe_int) (nomark _)))) (fun _ _ _ _ _ => (pv 2)))
      (pss_cons (ps_setLc (i := 3) (own := [("cell", 2)]) (g := gName 2) rfl sc__law_box.nd rfl rfl (sw_true rfl rfl rfl (by kernel_rfl)) (pil_ K (pv 0)) (blkOk_by (by kernel_rfl)) (fun _ _ _ _ _ => (pg_name (i := 2) sc__law_box.nd rfl (by first | exact Or.inl rfl | exact Or.inr rfl))) (fun _ _ _ _ _ => (pts_one (pt_cmpR op_lt (pv 2) (pe_op op_pow pe_int pe_int) (nomark _)))) (fun _ _ _ _ _ => (pv 2)))
      (pss_one (ps_ret (pe_lst (pa_cons (pe_slice (slL_ K) (pv 1) po_none (po_some pe_int)) (pa_cons pe_int (pa_cons pe_int (pa_cons pe_int (pa_cons (pe_slice (slL_ K) (pv 3) po_none (po_some pe_int)) pa_nil)))))))))), ?_⟩
    refine ⟨_, rfl, a, rfl, ⟨_, ha⟩, fun D hD => ?_⟩
    refine lc_list (xs := ns.map V.int) (fun i H3 => H3 D = some (.lst (((ns.take i).filter fun z => decide ((10 : Int) ^ 18 ≤ z)).map V.int)) ∧ Same H H3) ⟨upd_same, same_new hD⟩ (fun i H3 _ ⟨_, s⟩ => Same.sqL s ha) ?_ ?_
    · rintro i x H3 hx ⟨h3, s3⟩
      rw [List.getElem?_map] at hx
      obtain ⟨z, hz, rfl⟩ := Option.map_eq_some_iff.mp hx
      have few' : ((ns.take i).filter fun z => decide ((10 : Int) ^ 18 ≤ z)).length ≤ i := Nat.le_trans (List.length_filter_le _ _) (List.length_take_le _ _)
      have ilt : i < ns.length := (List.getElem?_eq_some_iff.mp hz).1
      refine ⟨rfl, _, rfl, _, _, rfl, rfl, ⟨by decide, by decide, by decide⟩, _, _, rfl, rfl, _, rfl, ?_⟩
      refine ite2 (fun hy => ?_) (fun hn => ?_)
      · have hy : decide ((10 : Int) ^ 18 ≤ z) = true := hy
        refine ⟨_, rfl, _, h3, by rw [List.length_map, sizeLine_eq]; omega, ?_, same_upd s3 hD⟩
        rw [upd_same, filt_more _ _ _ hz, if_pos hy, List.map_append]; rfl
      · have hn : ¬ decide ((10 : Int) ^ 18 ≤ z) = true := hn
        refine ⟨?_, s3⟩
        rw [h3, filt_more _ _ _ hz, if_neg hn, List.append_nil]
    rintro H3 ⟨h3, s3⟩
    rw [List.length_map, List.take_length] at h3
    obtain ⟨gs, egs⟩ : ∃ gs, (ns.filter fun z => decide ((10 : Int) ^ 18 ≤ z)) = gs := ⟨_, rfl⟩
    have g0 : ∀ z ∈ gs, (0 : Int) ≤ z := fun z hz => by
      rw [← egs] at hz
      have := of_decide_eq_true (List.mem_filter.mp hz).2
      exact Int.le_trans (by decide) this
    rw [egs] at h3
    refine ⟨_, rfl, a, rfl, ⟨_, Same.sqL s3 ha⟩, fun E1 hE => ?_⟩
    have s4 : Same H3 (upd H3 E1 (.lst [])) := same_new hE
    refine lc_list (xs := ns.map V.int) (fun i H4 => H4 E1 = some (.lst (((ns.take i).filter fun z => decide (z < (10 : Int) ^ 18)).map V.int)) ∧ Same H3 H4) ⟨upd_same, s4⟩ (fun i H4 _ ⟨_, s⟩ => Same.sqL (s3.trans s) ha) ?_ ?_
    · rintro i x H4 hx ⟨h4, s5⟩
      rw [List.getElem?_map] at hx
      obtain ⟨z, hz, rfl⟩ := Option.map_eq_some_iff.mp hx
      have few' : ((ns.take i).filter fun z => decide (z < (10 : Int) ^ 18)).length ≤ i := Nat.le_trans (List.length_filter_le _ _) (List.length_take_le _ _)
      have ilt : i < ns.length := (List.getElem?_eq_some_iff.mp hz).1
      refine ⟨rfl, _, rfl, _, _, rfl, rfl, ⟨by decide, by decide, by decide⟩, _, _, rfl, rfl, _, rfl, ?_⟩
      refine ite2 (fun hy => ?_) (fun hn => ?_)
      · have hy : decide (z < (10 : Int) ^ 18) = true := hy
        refine ⟨_, rfl, _, h4, by rw [List.length_map, sizeLine_eq]; omega, ?_, same_upd s5 hE⟩
        rw [upd_same, filt_more _ _ _ hz, if_pos hy, List.map_append]; rfl
      · have hn : ¬ decide (z < (10 : Int) ^ 18) = true := hn
        refine ⟨?_, s5⟩
        rw [h4, filt_more _ _ _ hz, if_neg hn, List.append_nil]
    rintro H4 ⟨h4, s5⟩
    rw [List.length_map, List.take_length] at h4
    obtain ⟨ls, els⟩ : ∃ ls, (ns.filter fun z => decide (z < (10 : Int) ^ 18)) = ls := ⟨_, rfl⟩
    rw [els] at h4
    have h3' := s5 _ _ h3
    have e63 : ∀ l : List Int, cutV (l.map V.int) none (some 63) = (l.take 63).map V.int := fun l => cut_front rfl 63
    have n4 : Same H H4 := s3.trans s5
    refine ⟨_, rfl, _, rfl, D, _, rfl, SqL.of h3', fun p np => ?_⟩
    rw [e63]
    have s6 : Same H4 (upd H4 p (.lst ((gs.take 63).map V.int))) := same_new np
    have hp : (upd H4 p (.lst ((gs.take 63).map V.int))) p = some (.lst ((gs.take 63).map V.int)) := upd_same
    have p0 := n4.free np
    generalize upd H4 p (.lst ((gs.take 63).map V.int)) = H5 at s6 hp ⊢
    refine ⟨_, rfl, _, rfl, E1, _, rfl, SqL.of (s6 _ _ h4), fun p2 np2 => ?_⟩
    rw [e63]
    have s7 : Same H5 (upd H5 p2 (.lst ((ls.take 63).map V.int))) := same_new np2
    have hp2 : (upd H5 p2 (.lst ((ls.take 63).map V.int))) p2 = some (.lst ((ls.take 63).map V.int)) := upd_same
    have p20 := (n4.trans s6).free np2
    generalize upd H5 p2 (.lst ((ls.take 63).map V.int)) = H6 at s7 hp2 ⊢
    refine ⟨by show 5 ≤ sizeLine; decide, fun b nb => ?_⟩
    have s8 : Same H6 (upd H6 b (.lst (bx5 p p2 0 0 0))) := same_new nb
    have n6 := (n4.trans s6).trans s7
    refine q _ b p p2 (n6.trans s8) (n6.free nb) p0 p20 ⟨ne_of_none (s7 _ _ hp) nb, ne_of_none hp2 nb, gs.take 63, ls.take 63, 0, 0, 0, upd_same, s8 _ _ (s7 _ _ hp), s8 _ _ hp2, fun z hz => g0 z (List.mem_of_mem_take hz), by decide, by decide, List.length_take_le _ _, List.length_take_le _ _⟩
abbrev s__law_take : Stmt := top 32
theorem sc__law_take : FnScope ["box", "many", "digit", "cell", "first", "second", "third"] ["box", "many"] (defScope s__law_take) := ⟨rfl, rfl, rfl, by decide +kernel, rfl, by decide +kernel, by decide +kernel⟩
-- slots of _law_take: 0 box, 1 many, 2 digit, 3 cell, 4 first, 5 second, 6 third
def spTake : Sp := fun vs H Q _ => ∃ (b ga la : Addr) (m : Nat), vs = [.ref b, .int m] ∧ 1 ≤ m ∧ m < 1000000 ∧ Bx H b ga la ∧ ∀ (d : Nat) (H' : Hp), d < m → SB b H H' → Bx H' b ga la → Q (.int d) H'
section
variable {ga la : Addr} {i1 i2 i3 : Int}
theorem b50 : atI (bx5 ga la i1 i2 i3) 0 = some (V.ref ga) := atI_nat (j := 0) rfl
theorem b51 : atI (bx5 ga la i1 i2 i3) 1 = some (V.int i1) := atI_nat (j := 1) rfl
theorem b52 : atI (bx5 ga la i1 i2 i3) 2 = some (V.int i2) := atI_nat (j := 2) rfl
theorem b53 : atI (bx5 ga la i1 i2 i3) 3 = some (V.int i3) := atI_nat (j := 3) rfl
theorem b54 : atI (bx5 ga la i1 i2 i3) 4 = some (V.ref la) := atI_nat (j := 4) rfl
theorem b5x {k : Nat} (h : k < 5) : ixN (bx5 ga la i1 i2 i3).length (k : Int) = some k := ixN_nat h
end
theorem ok__law_take (T : Txt K mg C) {f : Addr} {fd : FuncData} (F : Fun K "_law_take" "_law_take" s__law_take f fd) : FnOk P w K mg base CX0 1 f fd ["box", "many"] spTake := by
  refine F.ok sc__law_take (fun vs H Q E h => ?_) (fun cdv A outer s H vs Q E hr h => ?_)
  · obtain ⟨b, ga, la, m, rfl, _⟩ := h; rfl
  · obtain ⟨b, ga, la, m, rfl, m1, m2, ⟨nga, nla, gs, ls, i1, i2, i3, hb, hg, hl, g0, j1, j2, lg, ll⟩, q⟩ := h
    refine ⟨_, (pss_cons (ps_asg (pe_op op_add (pe_ix (ixL_ K) (pv 0) pe_int (fun _ _ => rfl)) pe_int) (pg_sub (pv 0) pe_int set_list))
      (C8.pss_cut (ps_if (PW.pt (pw_and (pt_cmpR op_eq (pe_ix (ixL_ K) (pv 0) pe_int (fun _ _ => rfl)) pe_int (nomark _)) (pw_and1 (pt_cmpR op_lt (pe_ix (ixL_ K) (pv 0) pe_int (fun _ _ => rfl)) (pe_callB (lenS_ K) (by rfl) T.len b_len (pa_cons (pe_ix (ixL_ K) (pv 0) pe_int (fun _ _ => rfl)) pa_nil)) (nomark _)))))
      (pss_cons (ps_asg (pe_ix (ixL_ K) (pe_ix (ixL_ K) (pv 0) pe_int (fun _ _ => rfl)) (pe_ix (ixL_ K) (pv 0) pe_int (fun _ _ => rfl)) (fun _ _ => rfl)) (pg_sub (pv 0) pe_int set_list))
      (pss_one (ps_asg (pe_op op_add (pe_ix (ixL_ K) (pv 0) pe_int (fun _ _ => rfl)) pe_int) (pg_sub (pv 0) pe_int set_list)))) pss_nil)
      (pss_cons (ps_if (pt_cmpR op_gt (pe_ix (ixL_ K) (pv 0) pe_int (fun _ _ => rfl)) pe_int (nomark _))
      (pss_cons (ps_set (i := 2) sc__law_take.nd rfl (by first | exact Or.inl rfl | exact Or.inr rfl) (pe_op op_mod (pe_callTy call_int1 (by rfl) T.int b_int (pa_cons (pe_ix (ixL_ K) (pv 0) pe_int (fun _ _ => rfl)) pa_nil)) (pv 1)))
      (pss_cons (ps_asg (pe_op op_fdiv (pe_ix (ixL_ K) (pv 0) pe_int (fun _ _ => rfl)) (pv 1)) (pg_sub (pv 0) pe_int set_list))
      (pss_one (ps_ret (pv 2))))) pss_nil)
      (pss_cons (ps_set (i := 3) sc__law_take.nd rfl (by first | exact Or.inl rfl | exact Or.inr rfl) pe_int)
      (C8.pss_cut (ps_if (pt_cmpR op_gt (pe_callB (lenS_ K) (by rfl) T.len b_len (pa_cons (pe_ix (ixL_ K) (pv 0) pe_int (fun _ _ => rfl)) pa_nil)) pe_int (nomark _))
      (pss_one (ps_set (i := 3) sc__law_take.nd rfl (by first | exact Or.inl rfl | exact Or.inr rfl) (pe_ix (ixL_ K) (pe_ix (ixL_ K) (pv 0) pe_int (fun _ _ => rfl)) (pe_op op_mod (pe_ix (ixL_ K) (pv 0) pe_int (fun _ _ => rfl)) (pe_callB (lenS_ K) (by rfl) T.len b_len (pa_cons (pe_ix (ixL_ K) (pv 0) pe_int (fun _ _ => rfl)) pa_nil))) (fun _ _ => rfl)))) pss_nil)
      (pss_cons (ps_set (i := 4) sc__law_take.nd rfl (by first | exact Or.inl rfl | exact Or.inr rfl) (pe_op op_mod (pe_callTy call_int1 (by rfl) T.int b_int (pa_cons (pe_op op_add (pe_op op_add (pe_op op_mul (pv 3) pe_int) (pe_op op_mul (pe_ix (ixL_ K) (pv 0) pe_int (fun _ _ => rfl)) pe_int)) pe_int) pa_nil)) pe_int))
      (pss_cons (ps_set (i := 5) sc__law_take.nd rfl (by first | exact Or.inl rfl | exact Or.inr rfl) (pe_op op_mod (pe_callTy call_int1 (by rfl) T.int b_int (pa_cons (pe_op op_add (pe_op op_add (pe_op op_fdiv (pe_op op_mul (pv 4) (pv 4)) pe_int) (pe_op op_mul (pv 4) pe_int)) (pe_op op_mul (pe_ix (ixL_ K) (pv 0) pe_int (fun _ _ => rfl)) pe_int)) pa_nil)) pe_int))
      (pss_cons (ps_set (i := 6) sc__law_take.nd rfl (by first | exact Or.inl rfl | exact Or.inr rfl) (pe_op op_mod (pe_callTy call_int1 (by rfl) T.int b_int (pa_cons (pe_op op_add (pe_op op_fdiv (pe_op op_mul (pv 5) (pv 5)) pe_int) (pv 4)) pa_nil)) pe_int))
      (pss_one (ps_ret (pe_op op_mod (pe_callTy call_int1 (by rfl) T.int b_int (pa_cons (pv 6) pa_nil)) (pv 1)))))))))))), ?_⟩
    refine ⟨_, rfl, b, _, _, _, rfl, rfl, SqL.of hb, b53, _, _, rfl, rfl, _, rfl, set_at hb (b5x (k := 3) (by decide)) fun H0 s0 h0 => ?_⟩
    have h0 : H0 b = some (.lst (bx5 ga la i1 i2 (i3 + 1))) := h0
    have hg := s0 _ _ nga hg
    have hl := s0 _ _ nla hl
    generalize i3 + 1 = i3 at h0
    refine ⟨fun σ H2 => ∃ v2 v3 v4 v5 v6 : Option V, σ = [some (.ref b), some (.int m), v2, v3, v4, v5, v6] ∧ SB b H H2 ∧ ∃ (i1 i2 : Int), H2 b = some (.lst (bx5 ga la i1 i2 i3)) ∧ H2 ga = some (.lst (gs.map V.int)) ∧ H2 la = some (.lst (ls.map V.int)) ∧ 0 ≤ i1 ∧ 0 ≤ i2, ?_, ?_⟩
    · refine ⟨_, rfl, b, _, _, _, rfl, rfl, SqL.of h0, b52, rfl, _, rfl, ?_⟩
      refine ite2 (fun hz => ?_) (fun _ => ⟨_, _, _, _, _, rfl, s0, i1, i2, h0, hg, hl, j1, j2⟩)
      refine ⟨_, rfl, b, _, _, _, rfl, rfl, SqL.of h0, b51, _, rfl, b, _, _, _, rfl, rfl, SqL.of h0, b50, ga, _, rfl, .inl (SqL.of hg), _, _, rfl, rfl, _, rfl, ?_⟩
      refine ite2 (fun hlt => ?_) (fun _ => ⟨_, _, _, _, _, rfl, s0, i1, i2, h0, hg, hl, j1, j2⟩)
      have lt : i1 < ((gs.map V.int).length : Int) := of_decide_eq_true hlt
      rw [List.length_map] at lt
      obtain ⟨k, rfl⟩ : ∃ k : Nat, i1 = (k : Int) := ⟨i1.toNat, by omega⟩
      have klt : k < gs.length := by omega
      obtain ⟨z, hz⟩ : ∃ z, gs[k]? = some z := ⟨_, List.getElem?_eq_getElem klt⟩
      have hz' : (gs.map V.int)[k]? = some (V.int z) := by rw [List.getElem?_map, hz]; rfl
      refine ⟨_, rfl, b, _, _, _, rfl, rfl, SqL.of h0, b50, _, rfl, b, _, _, _, rfl, rfl, SqL.of h0, b51, ga, _, _, _, rfl, rfl, SqL.of hg, atI_nat hz', _, rfl, set_at h0 (b5x (k := 2) (by decide)) fun H1 s1 h1 => ?_⟩
      have h1 : H1 b = some (.lst (bx5 ga la (k : Int) z i3)) := h1
      refine ⟨_, rfl, b, _, _, _, rfl, rfl, SqL.of h1, b51, _, _, rfl, rfl, _, rfl, set_at h1 (b5x (k := 1) (by decide)) fun H2 s2 h2 => ?_⟩
      exact ⟨_, _, _, _, _, rfl, (s0.trans s1).trans s2, (k : Int) + 1, z, h2, s2 _ _ nga (s1 _ _ nga hg), s2 _ _ nla (s1 _ _ nla hl), by omega, g0 z (List.mem_of_getElem? hz)⟩
    · rintro σ H2 ⟨v2, v3, v4, v5, v6, rfl, s2, i1, i2, h2, hg2, hl2, j1, j2⟩
      refine ⟨_, rfl, b, _, _, _, rfl, rfl, SqL.of h2, b52, _, _, rfl, rfl, _, rfl, ?_⟩
      refine ite2 (fun hpos => ?_) (fun _ => ?_)
      · obtain ⟨d, hd, ed⟩ := mod_nat (i := i2) m1
        refine ⟨_, rfl, b, _, _, _, rfl, rfl, SqL.of h2, b52, .inl ⟨_, rfl, _, rfl, _, _, rfl, rfl, (by show (0 : Int) < (m : Int); omega), ?_⟩⟩
        refine ⟨_, rfl, b, _, _, _, rfl, rfl, SqL.of h2, b52, _, rfl, _, _, rfl, rfl, ⟨(by show (0 : Int) < (m : Int); omega), (by show (m : Int) < 1073741824; omega)⟩, _, rfl, set_at h2 (b5x (k := 2) (by decide)) fun H3 s3 h3 => ?_⟩
        refine ⟨_, rfl, ?_⟩
        show Q (V.int (i2 % (m : Int))) H3
        rw [ed]
        exact q d H3 hd (s2.trans s3) ⟨nga, nla, gs, ls, i1, i2 / (m : Int), i3, h3, s3 _ _ nga hg2, s3 _ _ nla hl2, g0, j1, Int.ediv_nonneg j2 (by omega), lg, ll⟩
      · refine ⟨fun σ H4 => H4 = H2 ∧ ∃ c : Int, σ = [some (.ref b), some (.int m), v2, some (.int c), v4, v5, v6], ?_, ?_⟩
        · refine ⟨_, rfl, b, _, _, _, rfl, rfl, SqL.of h2, b54, la, _, rfl, .inl (SqL.of hl2), _, _, rfl, rfl, _, rfl, ?_⟩
          refine ite2 (fun hp => ?_) (fun _ => ⟨rfl, _, rfl⟩)
          have lp : (0 : Int) < ((ls.map V.int).length : Int) := of_decide_eq_true hp
          rw [List.length_map] at lp
          obtain ⟨k, hk, ek⟩ := mod_nat (i := i3) (m := ls.length) (by omega)
          obtain ⟨z, hz⟩ : ∃ z, ls[k]? = some z := ⟨_, List.getElem?_eq_getElem hk⟩
          have hz' : (ls.map V.int)[k]? = some (V.int z) := by rw [List.getElem?_map, hz]; rfl
          refine ⟨_, rfl, b, _, _, _, rfl, rfl, SqL.of h2, b54, _, rfl, b, _, _, _, rfl, rfl, SqL.of h2, b53, _, rfl, b, _, _, _, rfl, rfl, SqL.of h2, b54, la, _, rfl, .inl (SqL.of hl2), _, _, rfl, rfl, (by rw [List.length_map]; exact lp), la, _, _, _, rfl, rfl, SqL.of hl2, (by rw [List.length_map, ek]; exact atI_nat hz'), rfl, _, rfl⟩
        rintro σ H4 ⟨rfl, c, rfl⟩
        refine ⟨_, rfl, _, _, rfl, rfl, .inr ⟨by decide, by decide⟩, _, rfl, b, _, _, _, rfl, rfl, SqL.of h2, b53, _, _, rfl, rfl, .inr ⟨by decide, by decide⟩, _, _, rfl, rfl, _, _, rfl, rfl, .inl ⟨_, rfl, _, _, rfl, rfl, (by show (0 : Int) < 2147483647; decide), ?_⟩⟩
        refine ⟨_, rfl, _, rfl, _, _, rfl, rfl, .inr (rem_small _ (by decide) (by decide)), _, _, rfl, rfl, ⟨by decide, by decide⟩, _, rfl, _, _, rfl, rfl, .inr ⟨by decide, by decide⟩, _, _, rfl, rfl, _, rfl, b, _, _, _, rfl, rfl, SqL.of h2, b53, _, _, rfl, rfl, .inr ⟨by decide, by decide⟩, _, _, rfl, rfl, .inl ⟨_, rfl, _, _, rfl, rfl, (by show (0 : Int) < 2147483629; decide), ?_⟩⟩
        refine ⟨_, rfl, _, rfl, _, _, rfl, rfl, .inr (rem_small _ (by decide) (by decide)), _, _, rfl, rfl, ⟨by decide, by decide⟩, _, rfl, _, _, rfl, rfl, .inl ⟨_, rfl, _, _, rfl, rfl, (by show (0 : Int) < 2147483587; decide), ?_⟩⟩
        refine ⟨_, rfl, .inl ⟨_, rfl, _, rfl, _, _, rfl, rfl, (by show (0 : Int) < (m : Int); omega), ?_⟩⟩
        generalize _ % (2147483587 : Int) = r
        obtain ⟨d, hd, ed⟩ := mod_nat (i := r) m1
        show Q (V.int (r % (m : Int))) H4
        rw [ed]
        exact q d H4 hd s2 ⟨nga, nla, gs, ls, i1, i2, i3, h2, hg2, hl2, g0, j1, j2, lg, ll⟩
end
end Hue

end
section
set_option maxRecDepth 100000
set_option maxHeartbeats 4000000
namespace Hue
open PySem PySem.Spec PyProof.Rows L2
section
variable {P : Program} {w : World} {K : PySem.W.Frag} {mg : Str → Option Value} {base : Heap} {C : Addr}
theorem Pairs.sb {H H' : Hp} {p : Addr} {xs : List V} {ts : List Addr} {ps : List (Nat × Nat)} (h : Pairs H ts ps) (hp : H p = some (.lst xs)) (s : SB p H H') : Pairs H' ts ps :=
  ⟨h.1, fun i t q a b => s _ _ (ne_of (h.2 i t q a b) hp (by intro z; cases z)) (h.2 i t q a b)⟩
theorem none_back {H H' : Hp} {a b : Addr} (s : SB b H H') (ne : a ≠ b) (n : H' a = Option.none) : H a = Option.none := by
  cases e : H a with
  | none => rfl
  | some o => rw [s _ _ ne e] at n; cases n
theorem nL_take (l : List Nat) (k : Nat) : (nL l).take k = nL (l.take k) := by unfold nL nI; rw [← List.map_take, ← List.map_take]
theorem nL_drop (l : List Nat) (k : Nat) : (nL l).drop k = nL (l.drop k) := by unfold nL nI; rw [← List.map_drop, ← List.map_drop]
theorem rg_nL (n : Nat) : rgV 0 (n : Int) = nL (List.range n) := by
  unfold rgV nL nI
  rw [List.map_map]
  have e : ((n : Int) - 0).toNat = n := by omega
  rw [e]
  refine List.map_congr_left fun i _ => ?_
  show V.int (0 + (i : Int)) = V.int (i : Int)
  rw [Int.zero_add]
theorem seqI_nat {n k : Nat} (h : k < n) : seqIndex? (k : Int) n = some k := by
  rw [PySem.seqIndex_of (by omega) (by omega)]; rfl
/-! ### the sizes -/
abbrev s__law_sizes : Stmt := top 33
theorem sc__law_sizes : FnScope ["box", "count", "hues"] ["box"] (defScope s__law_sizes) := ⟨rfl, rfl, rfl, by decide +kernel, rfl, by decide +kernel, by decide +kernel⟩
-- slots of _law_sizes: 0 box, 1 count, 2 hues
def spSizes : Sp := fun vs H Q _ => ∃ (b ga la : Addr), vs = [.ref b] ∧ Bx H b ga la ∧ ∀ (n h : Nat) (t : Addr) (H' : Hp), 1 ≤ n → n ≤ 16 → 2 ≤ h → h ≤ 10 → SB b H H' → Bx H' b ga la → H' t = some (.tup [.int (n : Nat), .int (h : Nat)]) → Q (.ref t) H'
theorem ok__law_sizes (T : Txt K mg C) {f : Addr} {fd : FuncData} (F : Fun K "_law_sizes" "_law_sizes" s__law_sizes f fd) (c__law_take : Cal P w K mg base "_law_take" 1 spTake) : FnOk P w K mg base CX0 2 f fd ["box"] spSizes := by
  refine F.ok sc__law_sizes (fun vs H Q E h => ?_) (fun cdv A outer s H vs Q E hr h => ?_)
  · obtain ⟨b, ga, la, rfl, _⟩ := h; rfl
  · obtain ⟨b, ga, la, rfl, hb, q⟩ := h
    refine ⟨_, (pss_cons (ps_set (i := 1) sc__law_sizes.nd rfl (by first | exact Or.inl rfl | exact Or.inr rfl) (pe_op op_add pe_int (pe_cal c__law_take (hr.mono (by decide)) (pa_cons (pv 0) (pa_cons pe_int pa_nil)))))
      (C8.pss_cut (ps_if (pt_cmpR op_eq (pe_cal c__law_take (hr.mono (by decide)) (pa_cons (pv 0) (pa_cons pe_int pa_nil))) pe_int (nomark _))
      (pss_one (ps_set (i := 1) sc__law_sizes.nd rfl (by first | exact Or.inl rfl | exact Or.inr rfl) (pe_op op_add pe_int (pe_cal c__law_take (hr.mono (by decide)) (pa_cons (pv 0) (pa_cons pe_int pa_nil)))))) pss_nil)
      (pss_cons (ps_set (i := 2) sc__law_sizes.nd rfl (by first | exact Or.inl rfl | exact Or.inr rfl) (pe_op op_add pe_int (pe_cal c__law_take (hr.mono (by decide)) (pa_cons (pv 0) (pa_cons pe_int pa_nil)))))
      (C8.pss_cut (ps_if (pt_cmpR op_eq (pe_cal c__law_take (hr.mono (by decide)) (pa_cons (pv 0) (pa_cons pe_int pa_nil))) pe_int (nomark _))
      (pss_one (ps_set (i := 2) sc__law_sizes.nd rfl (by first | exact Or.inl rfl | exact Or.inr rfl) (pe_op op_add pe_int (pe_cal c__law_take (hr.mono (by decide)) (pa_cons (pv 0) (pa_cons pe_int pa_nil)))))) pss_nil)
      (pss_one (ps_ret (pe_tup (pa_cons (pv 1) (pa_cons (pv 2) pa_nil))))))))), ?_⟩
    refine ⟨_, rfl, b, ga, la, 6, rfl, by decide, by decide, hb, fun d H1 hd s1 b1 => ⟨_, _, rfl, rfl, ?_⟩⟩
    refine ⟨fun σ H2 => ∃ (i : Int) (v2 : Option V), σ = [some (.ref b), some (.int i), v2] ∧ ∃ n : Nat, i = (n : Int) ∧ 1 ≤ n ∧ n ≤ 16 ∧ SB b H H2 ∧ Bx H2 b ga la, ?_, ?_⟩
    · refine ⟨_, rfl, b, ga, la, 4, rfl, by decide, by decide, b1, fun e H2 he s2 b2 => ⟨rfl, _, rfl, ?_⟩⟩
      refine ite2 (fun _ => ?_) (fun _ => ⟨_, _, rfl, d + 1, by omega, by omega, by omega, s1.trans s2, b2⟩)
      exact ⟨_, rfl, b, ga, la, 16, rfl, by decide, by decide, b2, fun e H3 he s3 b3 => ⟨_, _, rfl, rfl, _, _, rfl, e + 1, by omega, by omega, by omega, (s1.trans s2).trans s3, b3⟩⟩
    rintro σ H2 ⟨_, v2, rfl, n, rfl, n1, n16, s2, b2⟩
    refine ⟨_, rfl, b, ga, la, 3, rfl, by decide, by decide, b2, fun d H3 hd s3 b3 => ⟨_, _, rfl, rfl, ?_⟩⟩
    refine ⟨fun σ H4 => ∃ (i : Int), σ = [some (.ref b), some (.int (n : Nat)), some (.int i)] ∧ ∃ h : Nat, i = (h : Int) ∧ 2 ≤ h ∧ h ≤ 10 ∧ SB b H H4 ∧ Bx H4 b ga la, ?_, ?_⟩
    · refine ⟨_, rfl, b, ga, la, 4, rfl, by decide, by decide, b3, fun e H4 he s4 b4 => ⟨rfl, _, rfl, ?_⟩⟩
      refine ite2 (fun _ => ?_) (fun _ => ⟨_, rfl, d + 2, by omega, by omega, by omega, (s2.trans s3).trans s4, b4⟩)
      exact ⟨_, rfl, b, ga, la, 9, rfl, by decide, by decide, b4, fun e H5 he s5 b5 => ⟨_, _, rfl, rfl, _, rfl, e + 2, by omega, by omega, by omega, ((s2.trans s3).trans s4).trans s5, b5⟩⟩
    rintro σ H4 ⟨_, rfl, h, rfl, h2, h10, s4, b4⟩
    refine ⟨_, rfl, _, rfl, by show 2 ≤ sizeLine; decide, fun t nt => ?_⟩
    exact q n h t _ n1 n16 h2 h10 (s4.trans (SB.of (same_new nt))) (b4.same (same_new nt)) upd_same
/-! ### the row of the lamps -/
def LineOk (n : Nat) (line : List Nat) : Prop := line.length = n ∧ line.Nodup ∧ ∀ k ∈ line, k < n
abbrev s__law_row : Stmt := top 34
theorem sc__law_row : FnScope ["box", "count", "left", "row", "k"] ["box", "count"] (defScope s__law_row) := ⟨rfl, rfl, rfl, by decide +kernel, rfl, by decide +kernel, by decide +kernel⟩
-- slots of _law_row: 0 box, 1 count, 2 left, 3 row, 4 k
def spRow : Sp := fun vs H Q _ => ∃ (b ga la : Addr) (n : Nat), vs = [.ref b, .int n] ∧ n ≤ 16 ∧ Bx H b ga la ∧ ∀ (line : List Nat) (t : Addr) (H' : Hp), LineOk n line → SB b H H' → Bx H' b ga la → H t = Option.none → H' t = some (.lst (nL line)) → Q (.ref t) H'
theorem ok__law_row (T : Txt K mg C) {f : Addr} {fd : FuncData} (F : Fun K "_law_row" "_law_row" s__law_row f fd) (c__law_take : Cal P w K mg base "_law_take" 1 spTake) : FnOk P w K mg base CX0 2 f fd ["box", "count"] spRow := by
  refine F.ok sc__law_row (fun vs H Q E h => ?_) (fun cdv A outer s H vs Q E hr h => ?_)
  · obtain ⟨b, ga, la, n, rfl, _⟩ := h; rfl
  · obtain ⟨b, ga, la, n, rfl, n16, hb, q⟩ := h
    refine ⟨_, (pss_cons (ps_set (i := 2) sc__law_row.nd rfl (by first | exact Or.inl rfl | exact Or.inr rfl) (pe_listRg rfl (by rfl) T.list (prg_1 (by rfl) T.range (pv 1))))
      (pss_cons (ps_set (i := 3) sc__law_row.nd rfl (by first | exact Or.inl rfl | exact Or.inr rfl) (pe_lst pa_nil))
      (pss_cons (ps_for PassesOwn.never rfl (pi_range1 (by rfl) T.range (pa_cons (pv 1) pa_nil)) (pg_name (i := 4) sc__law_row.nd rfl (by first | exact Or.inl rfl | exact Or.inr rfl))
      (pss_one (ps_expr (pe_bm PySem.F.plainAttrs_list PySem.F.slot_list_append PySem.F.type_list_append mt_append (pv 3) (pa_cons (pe_bm PySem.F.plainAttrs_list PySem.F.slot_list_pop PySem.F.type_list_pop mt_popAt (pv 2) (pa_cons (pe_cal c__law_take (hr.mono (by decide)) (pa_cons (pv 0) (pa_cons (pe_callB (lenS_ K) (by rfl) T.len b_len (pa_cons (pv 2) pa_nil)) pa_nil))) pa_nil)) pa_nil)))))
      (pss_one (ps_ret (pv 3)))))), ?_⟩
    refine ⟨_, rfl, _, rfl, RgOk.of_le (by decide) (by omega) (by decide) (by omega), fun l nl => ?_⟩
    rw [rg_nL]
    obtain ⟨lb, lg, ll⟩ := hb.new nl
    have s1 : Same H (upd H l (.lst (nL (List.range n)))) := same_new nl
    have hl1 : (upd H l (.lst (nL (List.range n)))) l = some (.lst (nL (List.range n))) := upd_same
    have b1 := hb.same s1
    generalize upd H l (.lst (nL (List.range n))) = H1 at s1 hl1 b1 ⊢
    refine ⟨by decide, fun r nr => ?_⟩
    obtain ⟨rb, rg, rl⟩ := b1.new nr
    have rnl : r ≠ l := (ne_of_none hl1 nr).symm
    have nr0 := s1.free nr
    have s2 : Same H1 (upd H1 r (.lst [])) := same_new nr
    refine ⟨_, rfl, _, rfl, by omega, by omega, ?_⟩
    rw [Int.toNat_natCast]
    refine for_range (fun i σ H2 => ∃ (v : Option V) (left row : List Nat), σ = [some (.ref b), some (.int n), some (.ref l), some (.ref r), v] ∧ SB b H H2 ∧ Bx H2 b ga la ∧ H2 l = some (.lst (nL left)) ∧ H2 r = some (.lst (nL row)) ∧ (left ++ row).Perm (List.range n) ∧ row.length = i)
      ⟨_, List.range n, [], rfl, SB.of (s1.trans s2), b1.same s2, s2 _ _ hl1, upd_same, by rw [List.append_nil], rfl⟩ ?_ ?_
    · rintro i σ H2 hi ⟨v, left, row, rfl, sb2, b2, hl2, hr2, perm, len⟩
      have tot : left.length + row.length = n := by rw [← List.length_append, perm.length_eq, List.length_range]
      refine ⟨_, rfl, .inl ⟨rfl, _, SqL.of hr2⟩, _, rfl, .inl ⟨rfl, _, SqL.of hl2⟩, _, rfl, _, rfl, l, _, rfl, .inl (SqL.of hl2), b, ga, la, left.length, by rw [nL_len], by omega, by omega, b2, fun d H3 hd s3 b3 => ?_⟩
      have hl3 := s3 _ _ lb hl2
      have hr3 := s3 _ _ rb hr2
      obtain ⟨k, hk⟩ : ∃ k, left[d]? = some k := ⟨_, List.getElem?_eq_getElem hd⟩
      refine ⟨l, nL left, (d : Int), d, V.int (k : Nat), rfl, rfl, hl3, by omega, by omega, seqI_nat (by rw [nL_len]; exact hd), nL_get hk, ?_⟩
      refine ⟨r, nL row, _, rfl, rfl, by rw [upd_ne rnl]; exact hr3, by rw [nL_len, sizeLine_eq]; omega, ?_⟩
      rw [nL_erase, ← nL_one, ← nL_app]
      refine ⟨_, left.eraseIdx d, row ++ [k], rfl, fun a o na e => ?_, (b3.upd lb lg ll).upd rb rg rl, by rw [upd_ne rnl.symm, upd_same], upd_same, ?_, by rw [List.length_append, len]; rfl⟩
      · rw [upd_ne (ne_of_none e nr0), upd_ne (ne_of_none e nl)]
        exact (sb2.trans s3) a o na e
      · have p1 : (left.eraseIdx d ++ [k]).Perm left := by
          obtain ⟨e1, e2⟩ := List.getElem?_eq_some_iff.mp hk
          have e3 : left = left.take d ++ k :: left.drop (d + 1) := by
            rw [← e2, ← List.drop_eq_getElem_cons e1, List.take_append_drop]
          rw [List.eraseIdx_eq_take_drop_succ]
          conv => rhs; rw [e3]
          rw [List.append_assoc]
          exact List.Perm.append_left _ (List.perm_append_comm (l₁ := left.drop (d + 1)) (l₂ := [k]))
        have p2 : (left.eraseIdx d ++ (row ++ [k])).Perm (left ++ row) := by
          refine (List.Perm.append_left _ List.perm_append_comm).trans ?_
          rw [← List.append_assoc]
          exact p1.append_right _
        exact p2.trans perm
    · rintro σ H2 ⟨v, left, row, rfl, sb2, b2, hl2, hr2, perm, len⟩
      have tot : left.length + row.length = n := by rw [← List.length_append, perm.length_eq, List.length_range]
      have l0 : left = [] := List.length_eq_zero_iff.mp (by omega)
      rw [l0, List.nil_append] at perm
      exact ⟨_, rfl, q row r H2 ⟨len, perm.nodup_iff.mpr List.nodup_range, fun k hk => List.mem_range.mp (perm.mem_iff.mp hk)⟩ sb2 b2 nr0 hr2⟩
/-! ### the wires -/
/-- the pairs lead down the line, all drawn before (lo, hi) -/
def DownI (line : List Nat) (lo hi : Nat) (ps : List (Nat × Nat)) : Prop := ∀ p ∈ ps, ∃ h l, h < l ∧ (l < lo ∨ (l = lo ∧ h < hi)) ∧ line[h]? = some p.1 ∧ line[l]? = some p.2
def Down (line : List Nat) (ps : List (Nat × Nat)) : Prop := ∀ p ∈ ps, ∃ h l : Nat, h < l ∧ line[h]? = some p.1 ∧ line[l]? = some p.2
def Tri : Nat → Nat
  | 0 => 0
  | k + 1 => Tri k + k
theorem tri16 : ∀ n, n ≤ 16 → Tri n < 121 := by decide
theorem tri_mono {a b : Nat} (h : a ≤ b) : Tri a ≤ Tri b := by
  induction h with
  | refl => exact Nat.le_refl _
  | step _ ih => exact Nat.le_trans ih (Nat.le_add_right _ _)
theorem nodup_at {l : List Nat} (nd : l.Nodup) {i j k : Nat} (h1 : l[i]? = some k) (h2 : l[j]? = some k) : i = j := by
  obtain ⟨a1, a2⟩ := List.getElem?_eq_some_iff.mp h1
  obtain ⟨b1, b2⟩ := List.getElem?_eq_some_iff.mp h2
  rcases Nat.lt_trichotomy i j with h | h | h
  · exact absurd (a2.trans b2.symm) (List.pairwise_iff_getElem.mp nd i j a1 b1 h)
  · exact h
  · exact absurd (b2.trans a2.symm) (List.pairwise_iff_getElem.mp nd j i b1 a1 h)
theorem Pairs.app {H : Hp} {as bs : List Addr} {ps qs : List (Nat × Nat)} (h : Pairs H as ps) (g : Pairs H bs qs) : Pairs H (as ++ bs) (ps ++ qs) := by
  refine ⟨by rw [List.length_append, List.length_append, h.1, g.1], fun i t p e1 e2 => ?_⟩
  rcases Nat.lt_or_ge i as.length with lt | ge
  · rw [List.getElem?_append_left lt] at e1
    rw [List.getElem?_append_left (by rw [← h.1]; exact lt)] at e2
    exact h.2 i t p e1 e2
  · rw [List.getElem?_append_right ge] at e1
    rw [List.getElem?_append_right (by rw [← h.1]; exact ge), ← h.1] at e2
    exact g.2 _ t p e1 e2
theorem Pairs.take {H : Hp} {as : List Addr} {ps : List (Nat × Nat)} (h : Pairs H as ps) (d : Nat) : Pairs H (as.take d) (ps.take d) := by
  refine ⟨by rw [List.length_take, List.length_take, h.1], fun i t p e1 e2 => ?_⟩
  rw [List.getElem?_take] at e1 e2
  split at e1
  · rw [if_pos (by assumption)] at e2
    exact h.2 i t p e1 e2
  · cases e1
theorem Pairs.drop {H : Hp} {as : List Addr} {ps : List (Nat × Nat)} (h : Pairs H as ps) (d : Nat) : Pairs H (as.drop d) (ps.drop d) := by
  refine ⟨by rw [List.length_drop, List.length_drop, h.1], fun i t p e1 e2 => ?_⟩
  rw [List.getElem?_drop] at e1 e2
  exact h.2 _ t p e1 e2
theorem Pairs.one {H : Hp} {t : Addr} {p : Nat × Nat} (h : H t = some (.tup [.int (p.1 : Int), .int (p.2 : Int)])) : Pairs H [t] [p] := by
  refine ⟨rfl, fun i t' p' e1 e2 => ?_⟩
  match i with
  | 0 => cases e1; cases e2; exact h
  | i + 1 => cases e1
/-- the wires so far -/
structure WBox (H0 H : Hp) (b ga la wz : Addr) (line : List Nat) (lo hi : Nat) : Prop where
  sb : SB b H0 H
  box : Bx H b ga la
  ne : wz ≠ b
  ng : wz ≠ ga
  nl : wz ≠ la
  new : H0 wz = Option.none
  ex : ∃ (ts : List Addr) (ps : List (Nat × Nat)), H wz = some (.lst (ts.map V.ref)) ∧ Pairs H ts ps ∧ DownI line lo hi ps ∧ ps.Nodup ∧ ps.length ≤ Tri lo + hi
namespace WBox
variable {H0 H H' : Hp} {b ga la wz : Addr} {line : List Nat} {lo hi : Nat}
theorem draw (h : WBox H0 H b ga la wz line lo hi) (s : SB b H H') (box : Bx H' b ga la) : WBox H0 H' b ga la wz line lo hi := by
  obtain ⟨xs, hp⟩ := h.box.at'
  obtain ⟨ts, ps, a, c, r⟩ := h.ex
  exact ⟨h.sb.trans s, box, h.ne, h.ng, h.nl, h.new, ts, ps, s _ _ h.ne a, c.sb hp s, r⟩
theorem row (h : WBox H0 H b ga la wz line lo hi) (le : hi ≤ lo) : WBox H0 H b ga la wz line (lo + 1) 0 := by
  obtain ⟨ts, ps, a, b, c, d, e⟩ := h.ex
  refine ⟨h.sb, h.box, h.ne, h.ng, h.nl, h.new, ts, ps, a, b, fun q hq => ?_, d, ?_⟩
  · obtain ⟨x, y, h1, h2, h3⟩ := c q hq
    exact ⟨x, y, h1, by omega, h3⟩
  · show ps.length ≤ Tri lo + lo + 0
    omega
theorem upto (h : WBox H0 H b ga la wz line lo hi) {hj : Nat} (le : hi ≤ hj) : WBox H0 H b ga la wz line lo hj := by
  obtain ⟨ts, ps, a, b, c, d, e⟩ := h.ex
  refine ⟨h.sb, h.box, h.ne, h.ng, h.nl, h.new, ts, ps, a, b, fun q hq => ?_, d, by omega⟩
  obtain ⟨x, y, h1, h2, h3⟩ := c q hq
  exact ⟨x, y, h1, by omega, h3⟩
/-- one more at the place d -/
theorem ins (W : WBox H0 H b ga la wz line lo hi) (lnd : line.Nodup) {k1 k2 : Nat} (lt : hi < lo) (hk1 : line[hi]? = some k1) (hk2 : line[lo]? = some k2) {t : Addr} (nt : H t = Option.none) {ts : List Addr} {ps : List (Nat × Nat)} (d : Nat)
    (hw : H wz = some (.lst (ts.map V.ref))) (hps : Pairs H ts ps) (dn : DownI line lo hi ps) (nd : ps.Nodup) (len : ps.length ≤ Tri lo + hi) :
    WBox H0 (L2.upd (L2.upd H t (.tup [.int (k1 : Int), .int (k2 : Int)])) wz (.lst ((ts.map V.ref).take d ++ [V.ref t] ++ (ts.map V.ref).drop d))) b ga la wz line lo (hi + 1) := by
  have s11 : Same H (L2.upd H t (.tup [.int (k1 : Int), .int (k2 : Int)])) := same_new nt
  have nwt : t ≠ wz := (ne_of_none hw nt).symm
  have perm : (ps.take d ++ ([(k1, k2)] ++ ps.drop d)).Perm ((k1, k2) :: ps) := by
    have h := List.perm_middle (a := (k1, k2)) (l₁ := ps.take d) (l₂ := ps.drop d)
    rw [List.take_append_drop] at h
    exact h
  have keep : ∀ (as : List Addr) (qs : List (Nat × Nat)), Pairs (L2.upd H t (.tup [.int (k1 : Int), .int (k2 : Int)])) as qs → Pairs (L2.upd (L2.upd H t (.tup [.int (k1 : Int), .int (k2 : Int)])) wz (.lst ((ts.map V.ref).take d ++ [V.ref t] ++ (ts.map V.ref).drop d))) as qs := fun as qs h =>
    h.sb (s11 _ _ hw) fun c o n e => by rw [upd_ne n]; exact e
  refine ⟨fun c o nb e => ?_, (W.box.same s11).upd W.ne W.ng W.nl, W.ne, W.ng, W.nl, W.new, ts.take d ++ ([t] ++ ts.drop d), ps.take d ++ ([(k1, k2)] ++ ps.drop d), ?_, ?_, ?_, ?_, ?_⟩
  · rw [upd_ne (ne_of_none e W.new)]
    exact s11 _ _ (W.sb c o nb e)
  · rw [upd_same, List.map_append, List.map_append, List.map_take, List.map_drop, List.append_assoc]; rfl
  · exact keep _ _ (((hps.same s11).take d).app ((Pairs.one (p := (k1, k2)) upd_same).app ((hps.same s11).drop d)))
  · intro r hr
    rcases List.mem_cons.mp (perm.mem_iff.mp hr) with hr | hr
    · rw [hr]
      exact ⟨hi, lo, lt, .inr ⟨rfl, Nat.lt_succ_self _⟩, hk1, hk2⟩
    · obtain ⟨x, y, h1, h2, h3⟩ := dn r hr
      exact ⟨x, y, h1, by omega, h3⟩
  · rw [perm.nodup_iff, List.nodup_cons]
    refine ⟨fun hr => ?_, nd⟩
    obtain ⟨x, y, h1, h2, h3, h4⟩ := dn _ hr
    have e1 := nodup_at lnd h3 hk1
    have e2 := nodup_at lnd h4 hk2
    omega
  · rw [perm.length_eq, List.length_cons]; omega
end WBox
abbrev s__law_wires : Stmt := top 35
theorem sc__law_wires : FnScope ["box", "row", "thick", "wires", "low", "high"] ["box", "row"] (defScope s__law_wires) := ⟨rfl, rfl, rfl, by decide +kernel, rfl, by decide +kernel, by decide +kernel⟩
-- slots of _law_wires: 0 box, 1 row, 2 thick, 3 wires, 4 low, 5 high
def spWires : Sp := fun vs H Q _ => ∃ (b ga la a : Addr) (n : Nat) (line : List Nat), vs = [.ref b, .ref a] ∧ n ≤ 16 ∧ LineOk n line ∧ Bx H b ga la ∧ a ≠ b ∧ H a = some (.lst (nL line)) ∧
  ∀ (ts : List Addr) (ps : List (Nat × Nat)) (t : Addr) (H' : Hp), Down line ps → ps.Nodup → ps.length < 121 → SB b H H' → Bx H' b ga la → H t = Option.none → H' t = some (.lst (ts.map V.ref)) → Pairs H' ts ps → Q (.ref t) H'
theorem ok__law_wires (T : Txt K mg C) {f : Addr} {fd : FuncData} (F : Fun K "_law_wires" "_law_wires" s__law_wires f fd) (c__law_take : Cal P w K mg base "_law_take" 1 spTake) : FnOk P w K mg base CX0 2 f fd ["box", "row"] spWires := by
  refine F.ok sc__law_wires (fun vs H Q E h => ?_) (fun cdv A outer s H vs Q E hr h => ?_)
  · obtain ⟨b, ga, la, a, n, line, rfl, _⟩ := h; rfl
  · obtain ⟨b, ga, la, a, n, line, rfl, n16, ⟨ll, lnd, llt⟩, hb, nab, ha, q⟩ := h
    refine ⟨_, (pss_cons (ps_set (i := 2) sc__law_wires.nd rfl (by first | exact Or.inl rfl | exact Or.inr rfl) (pe_cal c__law_take (hr.mono (by decide)) (pa_cons (pv 0) (pa_cons pe_int pa_nil))))
      (pss_cons (ps_set (i := 3) sc__law_wires.nd rfl (by first | exact Or.inl rfl | exact Or.inr rfl) (pe_lst pa_nil))
      (pss_cons (ps_for PassesOwn.never rfl (pi_range1 (by rfl) T.range (pa_cons (pe_callB (lenS_ K) (by rfl) T.len b_len (pa_cons (pv 1) pa_nil)) pa_nil)) (pg_name (i := 4) sc__law_wires.nd rfl (by first | exact Or.inl rfl | exact Or.inr rfl))
      (pss_one (ps_for PassesOwn.never rfl (pi_range1 (by rfl) T.range (pa_cons (pv 4) pa_nil)) (pg_name (i := 5) sc__law_wires.nd rfl (by first | exact Or.inl rfl | exact Or.inr rfl))
      (pss_one (ps_if (pt_cmpR op_lt (pe_cal c__law_take (hr.mono (by decide)) (pa_cons (pv 0) (pa_cons pe_int pa_nil))) (pv 2) (nomark _))
      (pss_one (ps_expr (pe_bm PySem.F.plainAttrs_list PySem.F.slot_list_insert PySem.F.type_list_insert mt_insert (pv 3) (pa_cons (pe_cal c__law_take (hr.mono (by decide)) (pa_cons (pv 0) (pa_cons (pe_op op_add (pe_callB (lenS_ K) (by rfl) T.len b_len (pa_cons (pv 3) pa_nil)) pe_int) pa_nil))) (pa_cons (pe_tup (pa_cons (pe_ix (ixL_ K) (pv 1) (pv 5) (fun _ _ => rfl)) (pa_cons (pe_ix (ixL_ K) (pv 1) (pv 4) (fun _ _ => rfl)) pa_nil))) pa_nil))))) pss_nil)))))
      (pss_one (ps_ret (pv 3)))))), ?_⟩
    refine ⟨_, rfl, b, ga, la, 6, rfl, by decide, by decide, hb, fun sh H1 hsh s1 b1 => ?_⟩
    refine ⟨by decide, fun wz nw => ?_⟩
    obtain ⟨nwb, nwg, nwl⟩ := b1.new nw
    have hw0 : H wz = Option.none := none_back s1 nwb nw
    have W0 : WBox H (upd H1 wz (.lst [])) b ga la wz line 0 0 := ⟨s1.trans (SB.of (same_new nw)), b1.same (same_new nw), nwb, nwg, nwl, hw0, [], [], upd_same, ⟨rfl, fun i t q h => by simp at h⟩, fun q hq => absurd hq List.not_mem_nil, List.nodup_nil, Nat.zero_le _⟩
    generalize upd H1 wz (.lst []) = H2 at W0 ⊢
    refine ⟨_, rfl, a, _, rfl, .inl (SqL.of (W0.sb _ _ nab ha)), _, rfl, by rw [nL_len, ll]; omega, by rw [nL_len, ll]; omega, ?_⟩
    have en : (((nL line).length : Int)).toNat = n := by rw [nL_len, ll]; omega
    rw [en]
    refine for_range (fun i σ H4 => ∃ v4 v5 : Option V, σ = [some (.ref b), some (.ref a), some (.int sh), some (.ref wz), v4, v5] ∧ WBox H H4 b ga la wz line i 0)
      ⟨_, _, rfl, W0⟩ ?_ ?_
    · rintro lo σ H4 hi ⟨v4, v5, rfl, W4⟩
      have e0 : (0 : Int) + (lo : Int) = (lo : Int) := by omega
      rw [e0]
      have tri := tri16 lo (by omega)
      obtain ⟨k2, hk2⟩ : ∃ k, line[lo]? = some k := ⟨_, List.getElem?_eq_getElem (by omega)⟩
      refine ⟨_, rfl, _, rfl, by omega, by omega, ?_⟩
      rw [Int.toNat_natCast]
      refine for_range (fun j σ H7 => ∃ v5 : Option V, σ = [some (.ref b), some (.ref a), some (.int sh), some (.ref wz), some (.int lo), v5] ∧ WBox H H7 b ga la wz line lo j) ⟨_, rfl, W4⟩ ?_ ?_
      · rintro j σ H7 hj ⟨v5, rfl, W7⟩
        have e0 : (0 : Int) + (j : Int) = (j : Int) := by omega
        rw [e0]
        refine ⟨_, rfl, b, ga, la, 5, rfl, by decide, by decide, W7.box, fun d H8 _ s8 b8 => ⟨_, rfl, _, _, rfl, rfl, _, rfl, ?_⟩⟩
        have W8 := W7.draw s8 b8
        refine ite2 (fun _ => ?_) (fun _ => ⟨_, rfl, W8.upto (Nat.le_succ j)⟩)
        obtain ⟨ts, ps, hw, hps, dn, nd, len⟩ := W8.ex
        obtain ⟨k1, hk1⟩ : ∃ k, line[j]? = some k := ⟨_, List.getElem?_eq_getElem (by omega)⟩
        have lts : (ts.map V.ref).length = ps.length := by rw [List.length_map, hps.1]
        have e1 : ((ts.map V.ref).length : Int) + 1 = ((ps.length + 1 : Nat) : Int) := by rw [lts]; omega
        refine ⟨_, rfl, .inl ⟨rfl, _, SqL.of hw⟩, _, rfl, _, rfl, wz, _, rfl, .inl (SqL.of hw), _, _, rfl, rfl, b, ga, la, ps.length + 1, by rw [← e1], by omega, by omega, W8.box, fun d2 H9 hd2 s9 b9 => ?_⟩
        have W9 := W8.draw s9 b9
        obtain ⟨xs, hbx⟩ := W8.box.at'
        have hw9 := s9 _ _ W8.ne hw
        have hps9 := hps.sb hbx s9
        have ha9 := W9.sb _ _ nab ha
        refine ⟨_, rfl, _, rfl, a, _, _, _, rfl, rfl, SqL.of ha9, atI_nat (nL_get hk1), _, rfl, _, rfl, a, _, _, _, rfl, rfl, SqL.of ha9, atI_nat (nL_get hk2), by show 2 ≤ sizeLine; decide, fun t nt => ?_⟩
        refine ⟨wz, ts.map V.ref, (d2 : Int), V.ref t, rfl, rfl, same_new nt _ _ hw9, by rw [lts, sizeLine_eq]; omega, by omega, by omega, ?_⟩
        rw [Int.toNat_natCast]
        refine ⟨_, rfl, ?_⟩
        have := W9.ins lnd hj hk1 hk2 nt d2 hw9 hps9 dn nd len
        exact this
      · rintro σ H7 ⟨v5, rfl, W7⟩
        exact ⟨_, _, rfl, W7.row (Nat.le_refl lo)⟩
    · rintro σ H4 ⟨v4, v5, rfl, W4⟩
      obtain ⟨ts, ps, hw, hps, dn, nd, len⟩ := W4.ex
      have tri := tri16 n n16
      exact ⟨_, rfl, q ts ps wz H4 (fun r hr => let ⟨x, y, h1, _, h2⟩ := dn r hr; ⟨x, y, h1, h2⟩) nd (by omega) W4.sb W4.box hw0 hw hps⟩
end
end Hue

end
section
set_option maxRecDepth 100000
set_option maxHeartbeats 4000000
namespace Hue
open PySem PySem.Spec PyProof.Rows L2
section
variable {P : Program} {w : World} {K : PySem.W.Frag} {mg : Str → Option Value} {base : Heap} {C : Addr}
/-! ### odd lamps -/
/-- an odd value whose repr is short -/
inductive Od (H : Hp) : V → PyData → Prop
  | int (i : Int) (h0 : -100 < i) (h1 : i < 100) : Od H (.int i) (.int i)
  | bl (b : Bool) : Od H (.bl b) (.bool b)
  | non : Od H .non .none
  | str (k : Nat) (h : k < 16) : Od H (.str (toString (k : Int))) (.str (toString (k : Int)))
  | tup (k : Nat) (h : k < 16) {t : Addr} (e : H t = some (.tup [.int (k : Int)])) : Od H (.ref t) (.tuple [.int (k : Int)])
  | lst (k : Nat) (h : k < 16) {t : Addr} (e : H t = some (.lst [.int (k : Int)])) : Od H (.ref t) (.list [.int (k : Int)])
theorem Od.same {H H' : Hp} {v : V} {d : PyData} (o : Od H v d) (s : Same H H') : Od H' v d := by
  cases o with
  | int i h0 h1 => exact .int i h0 h1
  | bl b => exact .bl b
  | non => exact .non
  | str k h => exact .str k h
  | tup k h e => exact .tup k h (s _ _ e)
  | lst k h e => exact .lst k h (s _ _ e)
theorem Od.keep {H H' : Hp} {v : V} {d : PyData} (o : Od H v d) (s : ∀ t u, v = .ref t → H t = some u → H' t = some u) : Od H' v d := by
  cases o with
  | int i h0 h1 => exact .int i h0 h1
  | bl b => exact .bl b
  | non => exact .non
  | str k h => exact .str k h
  | tup k h e => exact .tup k h (s _ _ rfl e)
  | lst k h e => exact .lst k h (s _ _ rfl e)
theorem Od.kd {H : Hp} {v : V} {d : PyData} (o : Od H v d) : Kd H v := by
  cases o with
  | int i h0 h1 => exact .int i
  | bl b => exact .bl b
  | non => exact .non
  | str k h => exact .str _
  | tup k h e => exact .tup e
  | lst k h e => exact .lst e
def dOk (d : PyData) : Bool := d.showable && !d.hasDict && decide (d.depth ≤ 64) && decide (d.shown.length ≤ sizeLine)
theorem dOk_int : ∀ k : Nat, k < 100 → dOk (.int (k : Int)) = true ∧ dOk (.int (-(k : Int))) = true := by decide +kernel
theorem dOk_str : ∀ k : Nat, k < 16 → dOk (.str (toString (k : Int))) = true := by decide +kernel
theorem dOk_tup : ∀ k : Nat, k < 16 → dOk (.tuple [.int (k : Int)]) = true := by decide +kernel
theorem dOk_lst : ∀ k : Nat, k < 16 → dOk (.list [.int (k : Int)]) = true := by decide +kernel
theorem Od.data {H : Hp} {v : V} {d : PyData} (o : Od H v d) : Dp K H v d ∧ dOk d = true := by
  cases o with
  | int i h0 h1 =>
    refine ⟨.int i, ?_⟩
    by_cases h : i < 0
    · have := (dOk_int (-i).toNat (by omega)).2
      rw [show -(((-i).toNat : Nat) : Int) = i by omega] at this
      exact this
    · have := (dOk_int i.toNat (by omega)).1
      rw [show ((i.toNat : Nat) : Int) = i by omega] at this
      exact this
  | bl b => exact ⟨.bl b, by cases b <;> decide +kernel⟩
  | non => exact ⟨.non, by decide +kernel⟩
  | str k h => exact ⟨.str _, dOk_str k h⟩
  | tup k h e => exact ⟨.tup (.inl (.inl e)) (.cons (.int _) .nil), dOk_tup k h⟩
  | lst k h e => exact ⟨.lst (.inl (.inl e)) (.cons (.int _) .nil), dOk_lst k h⟩
/-- the repr of an odd value -/
theorem Od.repr {H : Hp} {v : V} {d : PyData} (o : Od H v d) {Q : VK} (q : Q (.str d.shown) H) : rRepr K [v] H Q := by
  obtain ⟨hd, ok⟩ := o.data (K := K)
  unfold dOk at ok
  rw [Bool.and_eq_true, Bool.and_eq_true, Bool.and_eq_true, decide_eq_true_eq, decide_eq_true_eq] at ok
  obtain ⟨⟨⟨o1, o2⟩, o3⟩, o4⟩ := ok
  exact ⟨v, d, rfl, hd, o1, by simpa using o2, o3, o4, q⟩
/-! ### numbers and lists that are right -/
abbrev s__law_number : Stmt := top 37
theorem sc__law_number : FnScope ["told", "due"] ["told", "due"] (defScope s__law_number) := ⟨rfl, rfl, rfl, by decide +kernel, rfl, by decide +kernel, by decide +kernel⟩
-- slots of _law_number: 0 told, 1 due
def spNumber : Sp := fun vs H Q _ => ∃ i : Int, vs = [.int i, .int i] ∧ Q (.bl true) H
theorem ok__law_number (T : Txt K mg C) {f : Addr} {fd : FuncData} (F : Fun K "_law_number" "_law_number" s__law_number f fd) : FnOk P w K mg base CX0 1 f fd ["told", "due"] spNumber := by
  refine F.ok sc__law_number (fun vs H Q E h => ?_) (fun cdv A outer s H vs Q E hr h => ?_)
  · obtain ⟨i, rfl, _⟩ := h; rfl
  · obtain ⟨i, rfl, q⟩ := h
    refine ⟨_, (pss_one (ps_ret (pe_and (pe_callB (isi_ K) (by rfl) T.isinstance b_isinstance (pa_cons (pv 0) (pa_cons (pe_bltn (v := .ty "int") (by rfl) T.int b_int rfl) pa_nil))) (pe_and (pe_not (pe_callB (isi_ K) (by rfl) T.isinstance b_isinstance (pa_cons (pv 0) (pa_cons (pe_bltn (v := .ty "bool") (by rfl) T.bool b_bool rfl) pa_nil)))) (pe_one (pe_cmpR op_eq (pv 0) (pv 1) (nomark _))))))), ?_⟩
    refine ⟨_, rfl, _, _, _, _, true, rfl, .ty _, .base (.int i), kit_ty (by decide +kernel), true, rfl, iteT ?_⟩
    refine ⟨_, rfl, _, _, _, _, false, rfl, .ty _, .base (.int i), kit_ty (by decide +kernel), false, rfl, true, rfl, iteT ?_⟩
    refine ⟨_, rfl, _, rfl, rfl, ?_⟩
    show Q (.bl (decide (V.int i = V.int i))) H
    rw [decide_eq_true rfl]
    exact q
abbrev s__law_list : Stmt := top 38
theorem sc__law_list : FnScope ["told", "due", "k"] ["told", "due"] (defScope s__law_list) := ⟨rfl, rfl, rfl, by decide +kernel, rfl, by decide +kernel, by decide +kernel⟩
-- slots of _law_list: 0 told, 1 due, 2 k
def spList : Sp := fun vs H Q _ => ∃ (a c : Addr) (l : List Nat), vs = [.ref a, .ref c] ∧ H a = some (.lst (nL l)) ∧ H c = some (.lst (nL l)) ∧ l.length ≤ 1000 ∧ Q (.bl true) H
theorem ok__law_list (T : Txt K mg C) {f : Addr} {fd : FuncData} (F : Fun K "_law_list" "_law_list" s__law_list f fd) (c__law_number : Cal P w K mg base "_law_number" 1 spNumber) : FnOk P w K mg base CX0 2 f fd ["told", "due"] spList := by
  refine F.ok sc__law_list (fun vs H Q E h => ?_) (fun cdv A outer s H vs Q E hr h => ?_)
  · obtain ⟨a, c, l, rfl, _⟩ := h; rfl
  · obtain ⟨a, c, l, rfl, ha, hc, few, q⟩ := h
    refine ⟨_, (pss_cons (ps_if (PW.pt (pw_or (pt_not (pt_val (pe_callB (isi_ K) (by rfl) T.isinstance b_isinstance (pa_cons (pv 0) (pa_cons (pe_bltn (v := .ty "list") (by rfl) T.list b_list rfl) pa_nil))))) (pw_or1 (pt_cmpR op_ne (pe_callB (lenS_ K) (by rfl) T.len b_len (pa_cons (pv 0) pa_nil)) (pe_callB (lenS_ K) (by rfl) T.len b_len (pa_cons (pv 1) pa_nil)) (nomark _)))))
      (pss_one (ps_ret pe_bl)) pss_nil)
      (pss_cons (ps_for PassesOwn.never rfl (pi_range1 (by rfl) T.range (pa_cons (pe_callB (lenS_ K) (by rfl) T.len b_len (pa_cons (pv 1) pa_nil)) pa_nil)) (pg_name (i := 2) sc__law_list.nd rfl (by first | exact Or.inl rfl | exact Or.inr rfl))
      (pss_one (ps_if (pt_not (pt_val (pe_cal c__law_number (hr.mono (by decide)) (pa_cons (pe_ix (ixL_ K) (pv 0) (pv 2) (fun _ _ => rfl)) (pa_cons (pe_ix (ixL_ K) (pv 1) (pv 2) (fun _ _ => rfl)) pa_nil)))))
      (pss_one (ps_ret pe_bl)) pss_nil)))
      (pss_one (ps_ret pe_bl)))), ?_⟩
    refine ⟨_, rfl, _, _, _, _, true, rfl, .ty _, .base (.lst ha), kit_ty (by decide +kernel), true, rfl, iteF ?_⟩
    refine ⟨_, rfl, a, _, rfl, .inl (SqL.of ha), _, rfl, c, _, rfl, .inl (SqL.of hc), rfl, _, rfl, ?_⟩
    refine ite2 (fun hn => ?_) (fun _ => ?_)
    · rw [decide_eq_true rfl] at hn
      cases hn
    refine ⟨_, rfl, c, _, rfl, .inl (SqL.of hc), _, rfl, by rw [nL_len]; omega, by rw [nL_len]; omega, ?_⟩
    have en : (((nL l).length : Int)).toNat = l.length := by rw [nL_len]; omega
    rw [en]
    refine for_range (fun i σ H2 => H2 = H ∧ ∃ v, σ = [some (.ref a), some (.ref c), v]) ⟨rfl, _, rfl⟩ ?_ ?_
    · rintro i σ H2 hi ⟨rfl, v, rfl⟩
      have e0 : (0 : Int) + (i : Int) = (i : Int) := by omega
      rw [e0]
      obtain ⟨k, hk⟩ : ∃ k, l[i]? = some k := ⟨_, List.getElem?_eq_getElem hi⟩
      exact ⟨_, rfl, _, rfl, a, _, _, _, rfl, rfl, SqL.of ha, atI_nat (nL_get hk), _, rfl, _, rfl, c, _, _, _, rfl, rfl, SqL.of hc, atI_nat (nL_get hk), _, rfl, true, rfl, iteF ⟨rfl, _, rfl⟩⟩
    · rintro σ H2 ⟨rfl, v, rfl⟩
      exact q
end
end Hue

end
section
set_option maxRecDepth 100000
set_option maxHeartbeats 4000000
namespace Hue
open PySem PySem.Spec PyProof.Rows L2
section
variable {P : Program} {w : World} {K : PySem.W.Frag} {mg : Str → Option Value} {base : Heap} {C : Addr}
theorem pair_at {H : Hp} {ts : List Addr} {ps : List (Nat × Nat)} (hps : Pairs H ts ps) {m : Nat} {y : V} (h : (ts.map V.ref)[m]? = some y) : ∃ (t : Addr) (p : Nat × Nat), y = .ref t ∧ ts[m]? = some t ∧ ps[m]? = some p ∧ H t = some (.tup [.int (p.1 : Int), .int (p.2 : Int)]) := by
  rw [List.getElem?_map] at h
  obtain ⟨t, ht, e⟩ := Option.map_eq_some_iff.mp h
  have lt : m < ps.length := by rw [← hps.1]; exact (List.getElem?_eq_some_iff.mp ht).1
  exact ⟨t, ps[m], e.symm, ht, List.getElem?_eq_getElem lt, hps.2 m t _ ht (List.getElem?_eq_getElem lt)⟩
/-! ### tables of bools -/
def bF (n : Nat) (g : Nat → Bool) : List V := (List.range n).map fun j => V.bl (g j)
theorem bF_len (n : Nat) (g : Nat → Bool) : (bF n g).length = n := by unfold bF; rw [List.length_map, List.length_range]
theorem bF_get {n : Nat} {g : Nat → Bool} {j : Nat} (h : j < n) : (bF n g)[j]? = some (V.bl (g j)) := by unfold bF; rw [List.getElem?_map, List.getElem?_range h]; rfl
theorem bF_set {n : Nat} {g : Nat → Bool} {k : Nat} {b : Bool} : (bF n g).set k (V.bl b) = bF n fun j => if j = k then b else g j := by
  refine List.ext_getElem? fun i => ?_
  rw [List.getElem?_set, bF_len]
  by_cases hi : i < n
  · rw [bF_get (g := fun j => if j = k then b else g j) hi]
    by_cases e : k = i
    · rw [if_pos e, if_pos (by omega), if_pos e.symm]
    · rw [if_neg e, bF_get hi, if_neg (fun z => e z.symm)]
  · rw [List.getElem?_eq_none (l := bF n fun j => if j = k then b else g j) (by rw [bF_len]; omega), List.getElem?_eq_none (l := bF n g) (by rw [bF_len]; omega)]
    by_cases e : k = i
    · rw [if_pos e, if_neg (by omega)]
    · rw [if_neg e]
theorem bF_congr {n : Nat} {f g : Nat → Bool} (h : ∀ j, j < n → f j = g j) : bF n f = bF n g := by
  unfold bF
  rw [List.map_congr_left fun j hj => by rw [h j (List.mem_range.mp hj)]]
theorem repB (n : Nat) : (List.replicate ((n : Int)).toNat [V.bl false]).flatten = bF n fun _ => false := by
  rw [Int.toNat_natCast]
  refine List.ext_getElem? fun i => ?_
  have e : (List.replicate n [V.bl false]).flatten = List.replicate n (V.bl false) := by
    induction n with
    | zero => rfl
    | succ n ih => rw [List.replicate_succ, List.flatten_cons, ih, List.replicate_succ]; rfl
  rw [e, List.getElem?_replicate]
  by_cases hi : i < n
  · rw [if_pos hi, bF_get hi]
  · rw [if_neg hi, List.getElem?_eq_none (by rw [bF_len]; omega)]
/-- the table at D, its rows at as -/
def TbA (H : Hp) (D : Addr) (as : List Addr) (n : Nat) (U : Nat → Nat → Bool) : Prop := H D = some (.lst (as.map V.ref)) ∧ ∀ i a, as[i]? = some a → H a = some (.lst (bF n (U i)))
structure AsOk (H : Hp) (D : Addr) (as : List Addr) (n : Nat) : Prop where
  len : as.length = n
  nd : as.Nodup
  no : ∀ a ∈ as, a ≠ D
  nw : ∀ a ∈ as, H a = none
theorem TbA.same {H H' : Hp} {D : Addr} {as : List Addr} {n : Nat} {U : Nat → Nat → Bool} (t : TbA H D as n U) (s : Same H H') : TbA H' D as n U := ⟨s _ _ t.1, fun i a h => s _ _ (t.2 i a h)⟩
theorem TbA.congr {H : Hp} {D : Addr} {as : List Addr} {n : Nat} {U W : Nat → Nat → Bool} (t : TbA H D as n U) (l : as.length = n) (h : ∀ i j, i < n → j < n → U i j = W i j) : TbA H D as n W :=
  ⟨t.1, fun i a e => by rw [t.2 i a e, bF_congr fun j hj => h i j (by rw [← l]; exact (List.getElem?_eq_some_iff.mp e).1) hj]⟩
theorem TbA.set {H0 H H' : Hp} {D a : Addr} {as : List Addr} {n i : Nat} {U : Nat → Nat → Bool} {g : Nat → Bool} (t : TbA H D as n U) (A : AsOk H0 D as n) (ha : as[i]? = some a) (s : SB a H H') (h : H' a = some (.lst (bF n g))) : TbA H' D as n fun r => if r = i then g else U r := by
  refine ⟨s _ _ (A.no a (List.mem_of_getElem? ha)).symm t.1, fun j c hc => ?_⟩
  by_cases e : j = i
  · rw [e, ha] at hc
    cases hc
    show H' a = some (.lst (bF n (if j = i then g else U j)))
    rw [if_pos e]
    exact h
  · show H' c = some (.lst (bF n (if j = i then g else U j)))
    rw [if_neg e]
    refine s _ _ (fun z => ?_) (t.2 j c hc)
    rw [z] at hc
    exact e (nodup_at A.nd hc ha)
theorem AsOk.at {H : Hp} {D : Addr} {as : List Addr} {n i : Nat} (A : AsOk H D as n) (h : i < n) : ∃ a, as[i]? = some a ∧ (as.map V.ref)[i]? = some (V.ref a) := by
  have l : i < as.length := by rw [A.len]; exact h
  exact ⟨as[i], List.getElem?_eq_getElem l, by rw [List.getElem?_map, List.getElem?_eq_getElem l]; rfl⟩
/-! ### what lies under what, by all middle lamps in turn -/
def stepW (U : Nat → Nat → Bool) (m : Nat) : Nat → Nat → Bool := fun i j => U i j || (U i m && U m j)
def closW (ps : List (Nat × Nat)) : Nat → Nat → Nat → Bool
  | 0 => fun i j => decide ((i, j) ∈ ps)
  | m + 1 => stepW (closW ps m) m
theorem stepW_iff {U : Nat → Nat → Bool} {m i j : Nat} : stepW U m i j = true ↔ U i j = true ∨ (U i m = true ∧ U m j = true) := by
  unfold stepW
  rw [Bool.or_eq_true, Bool.and_eq_true]
theorem closW_sub {ps : List (Nat × Nat)} : ∀ (m i j : Nat), closW ps m i j = true → relOf ps i j = true
  | 0, i, j, h => fold_wire ps _ (i, j) (of_decide_eq_true h)
  | m + 1, i, j, h => by
    rcases stepW_iff.mp h with h | ⟨h1, h2⟩
    · exact closW_sub m i j h
    · exact relOf_trans ps i m j (closW_sub m i m h1) (closW_sub m m j h2)
theorem closW_wire {ps : List (Nat × Nat)} {p : Nat × Nat} (h : p ∈ ps) : ∀ m, closW ps m p.1 p.2 = true
  | 0 => decide_eq_true h
  | m + 1 => stepW_iff.mpr (.inl (closW_wire h m))
theorem closW_tr {ps : List (Nat × Nat)} : ∀ (m i k j : Nat), k < m → closW ps m i k = true → closW ps m k j = true → closW ps m i j = true
  | m + 1, i, k, j, hk, h1, h2 => by
    rcases Nat.lt_or_ge k m with lt | ge
    · rcases stepW_iff.mp h1 with a | ⟨a, b⟩ <;> rcases stepW_iff.mp h2 with c | ⟨c, d⟩
      · exact stepW_iff.mpr (.inl (closW_tr m i k j lt a c))
      · exact stepW_iff.mpr (.inr ⟨closW_tr m i k m lt a c, d⟩)
      · exact stepW_iff.mpr (.inr ⟨a, closW_tr m m k j lt b c⟩)
      · exact stepW_iff.mpr (.inr ⟨a, d⟩)
    · obtain rfl : k = m := by omega
      have a : closW ps k i k = true := (stepW_iff.mp h1).elim id fun z => z.1
      have c : closW ps k k j = true := (stepW_iff.mp h2).elim id fun z => z.2
      exact stepW_iff.mpr (.inr ⟨a, c⟩)
theorem fold_sub {R : Rel} (tr : Trans R) : ∀ (ps : List (Nat × Nat)) (S : Rel), (∀ i j, S i j = true → R i j = true) → (∀ p ∈ ps, R p.1 p.2 = true) → ∀ i j, ps.foldl (fun R p => addW R p.1 p.2) S i j = true → R i j = true
  | [], S, h, _, i, j, z => h i j z
  | p :: ps, S, h, g, i, j, z => by
    refine fold_sub tr ps (addW S p.1 p.2) (fun i j y => ?_) (fun q hq => g q (List.mem_cons_of_mem _ hq)) i j z
    have r := g p List.mem_cons_self
    rcases addW_iff.mp y with y | ⟨y1, y2⟩
    · exact h i j y
    · have r1 : R i p.2 = true := by
        rcases y1 with e | e
        · rw [e]; exact r
        · exact tr _ _ _ (h _ _ e) r
      rcases y2 with e | e
      · rw [e]; exact r1
      · exact tr _ _ _ r1 (h _ _ e)
theorem closW_all {n : Nat} {ps : List (Nat × Nat)} (lt : ∀ p ∈ ps, p.1 < n ∧ p.2 < n) : closW ps n = relOf ps := by
  funext i j
  rw [Bool.eq_iff_iff]
  refine ⟨closW_sub n i j, fun h => fold_sub (R := closW ps n) (fun i k j h1 h2 => ?_) ps (fun _ _ => false) (fun i j z => by cases z) (fun p hp => closW_wire hp n) i j h⟩
  obtain ⟨u, hu, _⟩ := rel_last.mp (closW_sub n i k h1)
  exact closW_tr n i k j (lt _ hu).2 h1 h2
/-- in the middle of a turn -/
def midW (U : Nat → Nat → Bool) (m v : Nat) : Nat → Nat → Bool := fun i j => if i < v then stepW U m i j else U i j
def inW (U : Nat → Nat → Bool) (m v w : Nat) : Nat → Nat → Bool := fun i j => if i < v then stepW U m i j else if i = v ∧ j < w then U v j || U m j else U i j
theorem midW_row {U : Nat → Nat → Bool} {m v k : Nat} (h : U m m = false) : midW U m v m k = U m k := by
  unfold midW stepW
  rw [h, Bool.false_and, Bool.or_false, ite_self]
theorem inW_row {U : Nat → Nat → Bool} {m v k x : Nat} (h : U m m = false) (hv : U v m = true) : inW U m v x m k = U m k := by
  have ne : ¬ m = v := fun z => by rw [← z, h] at hv; cases hv
  unfold inW stepW
  rw [h, Bool.false_and, Bool.or_false, if_neg (fun z : m = v ∧ k < x => ne z.1), ite_self]
abbrev s__law_under : Stmt := top 36
theorem sc__law_under : FnScope ["count", "wires", "under", "v", "wire", "middle", "w"] ["count", "wires"] (defScope s__law_under) := ⟨rfl, rfl, rfl, by decide +kernel, rfl, by decide +kernel, by decide +kernel⟩
-- slots of _law_under: 0 count, 1 wires, 2 under, 3 v, 4 wire, 5 middle, 6 w
def Tb (H : Hp) (D : Addr) (n : Nat) (U : Nat → Nat → Bool) : Prop := ∃ as : List Addr, as.length = n ∧ TbA H D as n U
def spUnder : Sp := fun vs H Q _ => ∃ (a : Addr) (n : Nat) (ts : List Addr) (ps : List (Nat × Nat)), vs = [.int n, .ref a] ∧ n ≤ 16 ∧ H a = some (.lst (ts.map V.ref)) ∧ Pairs H ts ps ∧ (∀ p ∈ ps, p.1 < n ∧ p.2 < n) ∧ Ranked (relOf ps) ∧
  ∀ (t : Addr) (H' : Hp), Same H H' → Tb H' t n (relOf ps) → Q (.ref t) H'
theorem ok__law_under (T : Txt K mg C) {f : Addr} {fd : FuncData} (F : Fun K "_law_under" "_law_under" s__law_under f fd) : FnOk P w K mg base CX0 1 f fd ["count", "wires"] spUnder := by
  refine F.ok sc__law_under (fun vs H Q E h => ?_) (fun cdv A outer s H vs Q E hr h => ?_)
  · obtain ⟨a, n, ts, ps, rfl, _⟩ := h; rfl
  · obtain ⟨a, n, ts, ps, rfl, n16, ha, hps, lt, hR, q⟩ := h
    have irr : ∀ u, relOf ps u u = false := by
      obtain ⟨ρ, hρ⟩ := hR
      intro u
      cases z : relOf ps u u with
      | false => rfl
      | true => exact absurd (hρ u u z) (Nat.lt_irrefl _)
    refine ⟨_, (pss_cons (ps_setLc (i := 2) (own := [("v", 3)]) (g := gName 3) (tt := tYes) rfl sc__law_under.nd rfl rfl (sw_true rfl rfl rfl (by kernel_rfl)) (pi_range1 (by rfl) T.range (pa_cons (pv 0) pa_nil)) (blkOk_by (by kernel_rfl)) (fun _ _ _ _ _ => (pg_name (i := 3) sc__law_under.nd rfl (by first | exact Or.inl rfl | exact Or.inr rfl))) (fun _ _ _ _ _ => pts_nil) (fun _ _ _ _ _ => (pe_op op_rep (pe_lst (pa_cons pe_bl pa_nil)) (pv 0))))
      (pss_cons (ps_for PassesOwn.never rfl (pil_ K (pv 1)) (pg_name (i := 4) sc__law_under.nd rfl (by first | exact Or.inl rfl | exact Or.inr rfl))
      (pss_one (ps_asg pe_bl (pg_sub (pe_ix (ixL_ K) (pv 2) (pe_ix (ixT_ K) (pv 4) pe_int (fun _ _ => rfl)) (fun _ _ => rfl)) (pe_ix (ixT_ K) (pv 4) pe_int (fun _ _ => rfl)) set_list))))
      (pss_cons (ps_for PassesOwn.never rfl (pi_range1 (by rfl) T.range (pa_cons (pv 0) pa_nil)) (pg_name (i := 5) sc__law_under.nd rfl (by first | exact Or.inl rfl | exact Or.inr rfl))
      (pss_one (ps_for PassesOwn.never rfl (pi_range1 (by rfl) T.range (pa_cons (pv 0) pa_nil)) (pg_name (i := 3) sc__law_under.nd rfl (by first | exact Or.inl rfl | exact Or.inr rfl))
      (pss_one (ps_if (pt_val (pe_ix (ixL_ K) (pe_ix (ixL_ K) (pv 2) (pv 3) (fun _ _ => rfl)) (pv 5) (fun _ _ => rfl)))
      (pss_one (ps_for PassesOwn.never rfl (pi_range1 (by rfl) T.range (pa_cons (pv 0) pa_nil)) (pg_name (i := 6) sc__law_under.nd rfl (by first | exact Or.inl rfl | exact Or.inr rfl))
      (pss_one (ps_if (pt_val (pe_ix (ixL_ K) (pe_ix (ixL_ K) (pv 2) (pv 5) (fun _ _ => rfl)) (pv 6) (fun _ _ => rfl)))
      (pss_one (ps_asg pe_bl (pg_sub (pe_ix (ixL_ K) (pv 2) (pv 3) (fun _ _ => rfl)) (pv 6) set_list))) pss_nil)))) pss_nil)))))
      (pss_one (ps_ret (pv 2)))))), ?_⟩
    refine ⟨_, rfl, _, rfl, by omega, by omega, fun D hD => ?_⟩
    rw [Int.toNat_natCast]
    refine lc_range (fun i H2 => ∃ as : List Addr, AsOk H D as i ∧ H2 D = some (.lst (as.map V.ref)) ∧ (∀ a ∈ as, H2 a = some (.lst (bF n fun _ => false))) ∧ Same H H2) ⟨[], ⟨rfl, List.nodup_nil, fun a h => (by cases h), fun a h => (by cases h)⟩, upd_same, fun a h => (by cases h), same_new hD⟩ ?_ ?_
    · rintro i H2 hi ⟨as, A, hd, rows, s2⟩
      refine ⟨rfl, yesT ⟨by show 1 ≤ sizeLine; decide, fun zz nzz => ⟨_, rfl, zz, _, _, rfl, rfl, upd_same, by omega, by omega, ?_, fun dz ndz => ?_⟩⟩⟩
      · rw [Int.toNat_natCast, sizeLine_eq]; show 1 * n ≤ _; omega
      rw [repB]
      have s3 : Same H2 (upd (upd H2 zz (.lst [.bl false])) dz (.lst (bF n fun _ => false))) := (same_new nzz).trans (same_new ndz)
      have hdz : (upd (upd H2 zz (.lst [.bl false])) dz (.lst (bF n fun _ => false))) dz = some (.lst (bF n fun _ => false)) := upd_same
      have dz2 : H2 dz = none := (same_new nzz).free ndz
      generalize upd (upd H2 zz (.lst [.bl false])) dz (.lst (bF n fun _ => false)) = H3 at s3 hdz ⊢
      have dzD : dz ≠ D := (ne_of_none hd dz2).symm
      refine ⟨_, s3 _ _ hd, by rw [List.length_map, A.len, sizeLine_eq]; omega, as ++ [dz], ⟨by rw [List.length_append, A.len]; rfl, ?_, fun b hb => ?_, fun b hb => ?_⟩, by rw [upd_same, List.map_append]; rfl, fun b hb => ?_, same_upd (s2.trans s3) hD⟩
      · rw [List.nodup_append]
        exact ⟨A.nd, by simp, fun b hb c hc e => by
          rw [List.mem_singleton.mp hc] at e
          have := rows b hb
          rw [e, dz2] at this
          cases this⟩
      · rcases List.mem_append.mp hb with hb | hb
        · exact A.no b hb
        · rw [List.mem_singleton.mp hb]; exact dzD
      · rcases List.mem_append.mp hb with hb | hb
        · exact A.nw b hb
        · rw [List.mem_singleton.mp hb]; exact s2.free dz2
      · rcases List.mem_append.mp hb with hb | hb
        · rw [upd_ne (A.no b hb)]; exact s3 _ _ (rows b hb)
        · rw [List.mem_singleton.mp hb, upd_ne dzD]; exact hdz
    rintro H2 ⟨as, A, hd, rows, s2⟩
    have t0 : TbA H2 D as n (fun i j => decide ((i, j) ∈ ps.take 0)) := ⟨hd, fun i b hb => by rw [rows b (List.mem_of_getElem? hb)]; exact congrArg some (congrArg HO.lst (bF_congr fun j _ => by rw [List.take_zero]; rfl))⟩
    refine ⟨_, rfl, a, rfl, ⟨_, SqL.of (s2 _ _ ha)⟩, ?_⟩
    refine for_list (K := K) (a := a) (xs := ts.map V.ref) (fun m σ H3 => ∃ v3 v4 v5 v6 : Option V, σ = [some (.int n), some (.ref a), some (.ref D), v3, v4, v5, v6] ∧ Same H H3 ∧ TbA H3 D as n (fun i j => decide ((i, j) ∈ ps.take m)))
      ⟨_, _, _, _, rfl, s2, t0⟩ (fun i σ H3 _ ⟨_, _, _, _, _, s, _⟩ => SqL.of (s _ _ ha)) ?_ ?_
    · rintro m y σ H3 hy ⟨v3, v4, v5, v6, rfl, s3, t3⟩
      obtain ⟨t, p, rfl, ht, hp, hpt⟩ := pair_at hps hy
      obtain ⟨p1, p2⟩ := lt p (List.mem_of_getElem? hp)
      have hpt3 := s3 _ _ hpt
      obtain ⟨r, hr1, hr2⟩ := A.at p1
      have hrow := t3.2 _ _ hr1
      refine ⟨_, rfl, _, rfl, t, _, _, _, rfl, rfl, SqT.of hpt3, atI_nat (j := 0) rfl, D, _, _, _, rfl, rfl, SqL.of t3.1, atI_nat hr2, _, rfl, t, _, _, _, rfl, rfl, SqT.of hpt3, atI_nat (j := 1) rfl, set_at hrow (ixN_nat (by rw [bF_len]; exact p2)) fun H5 s5 h5 => ?_⟩
      rw [bF_set] at h5
      refine ⟨_, _, _, _, rfl, s5.to_same s3 (A.nw r (List.mem_of_getElem? hr1)), (t3.set A hr1 s5 h5).congr A.len fun i j _ _ => ?_⟩
      have mem : (i, j) ∈ ps.take (m + 1) ↔ (i, j) ∈ ps.take m ∨ (i, j) = p := by
        rw [List.take_add_one, hp, List.mem_append]
        exact or_congr_right List.mem_singleton
      show (if i = p.1 then (fun j => if j = p.2 then true else decide ((p.1, j) ∈ ps.take m)) else fun j => decide ((i, j) ∈ ps.take m)) j = _
      by_cases e : i = p.1
      · rw [if_pos e]
        show (if j = p.2 then true else decide ((p.1, j) ∈ ps.take m)) = _
        by_cases e2 : j = p.2
        · rw [if_pos e2, decide_eq_true (mem.mpr (.inr (by rw [e, e2])))]
        · rw [if_neg e2, decide_eq_decide.mpr ?_]
          rw [mem, e]
          exact ⟨.inl, fun z => z.elim id fun z => absurd (congrArg Prod.snd z) e2⟩
      · rw [if_neg e]
        refine decide_eq_decide.mpr ?_
        rw [mem]
        exact ⟨.inl, fun z => z.elim id fun z => absurd (congrArg Prod.fst z) e⟩
    rintro σ H3 ⟨v3, v4, v5, v6, rfl, s3, t3⟩
    rw [List.length_map, hps.1, List.take_length] at t3
    refine ⟨_, rfl, _, rfl, by omega, by omega, ?_⟩
    rw [Int.toNat_natCast]
    refine for_range (fun m σ H4 => ∃ v3 v4 v5 v6 : Option V, σ = [some (.int n), some (.ref a), some (.ref D), v3, v4, v5, v6] ∧ Same H H4 ∧ TbA H4 D as n (closW ps m)) ⟨_, _, _, _, rfl, s3, t3⟩ ?_ ?_
    · rintro m σ H4 hm ⟨v3, v4, v5, v6, rfl, s4, t4⟩
      have e0 : (0 : Int) + (m : Int) = (m : Int) := by omega
      rw [e0]
      have mm : closW ps m m m = false := by
        cases z : closW ps m m m with
        | false => rfl
        | true => have := closW_sub m m m z; rw [irr] at this; cases this
      generalize hU : closW ps m = U at t4 mm
      refine ⟨_, rfl, _, rfl, by omega, by omega, ?_⟩
      rw [Int.toNat_natCast]
      refine for_range (fun v σ H5 => ∃ v3 v4 v6 : Option V, σ = [some (.int n), some (.ref a), some (.ref D), v3, v4, some (.int (m : Nat)), v6] ∧ Same H H5 ∧ TbA H5 D as n (midW U m v)) ⟨_, _, _, rfl, s4, t4.congr A.len fun i j _ _ => by unfold midW; rw [if_neg (Nat.not_lt_zero i)]⟩ ?_ ?_
      · rintro v σ H5 hv ⟨v3, v4, v6, rfl, s5, t5⟩
        have e0 : (0 : Int) + (v : Int) = (v : Int) := by omega
        rw [e0]
        obtain ⟨rv, hv1, hv2⟩ := A.at hv
        obtain ⟨rm, hm1, hm2⟩ := A.at hm
        have rowv := t5.2 _ _ hv1
        have ev : midW U m v v m = U v m := by unfold midW; rw [if_neg (Nat.lt_irrefl v)]
        have gv : (bF n (midW U m v v))[m]? = some (V.bl (U v m)) := by rw [bF_get hm, ev]
        refine ⟨_, rfl, _, rfl, D, _, _, _, rfl, rfl, SqL.of t5.1, atI_nat hv2, _, rfl, rv, _, _, _, rfl, rfl, SqL.of rowv, atI_nat gv, _, rfl, ?_⟩
        refine ite2 (fun hx => ?_) (fun hx => ?_)
        · refine ⟨_, rfl, _, rfl, by omega, by omega, ?_⟩
          rw [Int.toNat_natCast]
          refine for_range (fun x σ H6 => ∃ v4 v6 : Option V, σ = [some (.int n), some (.ref a), some (.ref D), some (.int (v : Nat)), v4, some (.int (m : Nat)), v6] ∧ Same H H6 ∧ TbA H6 D as n (inW U m v x)) ⟨_, _, rfl, s5, t5.congr A.len fun i j _ _ => by unfold midW inW; rw [if_neg (fun z : i = v ∧ j < 0 => Nat.not_lt_zero j z.2)]⟩ ?_ ?_
          · rintro x σ H6 hxn ⟨v4, v6, rfl, s6, t6⟩
            have e0 : (0 : Int) + (x : Int) = (x : Int) := by omega
            rw [e0]
            have rowm := t6.2 _ _ hm1
            have rowv := t6.2 _ _ hv1
            have gm : (bF n (inW U m v x m))[x]? = some (V.bl (U m x)) := by rw [bF_get hxn, inW_row mm hx]
            refine ⟨_, rfl, _, rfl, D, _, _, _, rfl, rfl, SqL.of t6.1, atI_nat hm2, _, rfl, rm, _, _, _, rfl, rfl, SqL.of rowm, atI_nat gm, _, rfl, ?_⟩
            refine ite2 (fun hy => ?_) (fun hy => ?_)
            · refine ⟨_, rfl, _, rfl, D, _, _, _, rfl, rfl, SqL.of t6.1, atI_nat hv2, _, rfl, set_at rowv (ixN_nat (by rw [bF_len]; exact hxn)) fun H7 s7 h7 => ?_⟩
              rw [bF_set] at h7
              refine ⟨_, _, rfl, s7.to_same s6 (A.nw rv (List.mem_of_getElem? hv1)), (t6.set A hv1 s7 h7).congr A.len fun i j _ _ => ?_⟩
              show (if i = v then (fun j => if j = x then true else inW U m v x v j) else inW U m v x i) j = inW U m v (x + 1) i j
              by_cases e : i = v
              · rw [if_pos e, e]
                show (if j = x then true else inW U m v x v j) = inW U m v (x + 1) v j
                unfold inW
                rw [if_neg (Nat.lt_irrefl v), if_neg (Nat.lt_irrefl v)]
                by_cases e2 : j = x
                · rw [if_pos e2, if_pos ⟨rfl, by omega⟩, e2, hy, Bool.or_true]
                · rw [if_neg e2]
                  by_cases e3 : j < x
                  · rw [if_pos ⟨rfl, e3⟩, if_pos ⟨rfl, by omega⟩]
                  · rw [if_neg (fun z => e3 z.2), if_neg (fun z => e3 (by have := z.2; omega))]
              · rw [if_neg e]
                unfold inW
                rw [if_neg (fun z : i = v ∧ j < x => e z.1), if_neg (fun z : i = v ∧ j < x + 1 => e z.1)]
            · have hy : U m x = false := Bool.eq_false_iff.mpr hy
              refine ⟨_, _, rfl, s6, t6.congr A.len fun i j _ _ => ?_⟩
              unfold inW
              by_cases e : i = v ∧ j = x
              · obtain ⟨rfl, rfl⟩ := e
                rw [if_neg (Nat.lt_irrefl _), if_neg (Nat.lt_irrefl _), if_neg (fun z => Nat.lt_irrefl _ z.2), if_pos ⟨rfl, Nat.lt_succ_self _⟩, hy, Bool.or_false]
              · have e2 : (i = v ∧ j < x) ↔ (i = v ∧ j < x + 1) := ⟨fun z => ⟨z.1, by omega⟩, fun z => ⟨z.1, by
                  have := z.2
                  have : j ≠ x := fun y => e ⟨z.1, y⟩
                  omega⟩⟩
                simp only [e2]
          · rintro σ H6 ⟨v4, v6, rfl, s6, t6⟩
            refine ⟨_, _, _, rfl, s6, t6.congr A.len fun i j _ hj => ?_⟩
            unfold inW midW
            by_cases e : i = v
            · rw [e, if_neg (Nat.lt_irrefl v), if_pos ⟨rfl, hj⟩, if_pos (Nat.lt_succ_self v)]
              unfold stepW
              rw [hx, Bool.true_and]
            · rw [if_neg (fun z : i = v ∧ j < n => e z.1)]
              by_cases e2 : i < v
              · rw [if_pos e2, if_pos (by omega)]
              · rw [if_neg e2, if_neg (by omega)]
        · have hx : U v m = false := Bool.eq_false_iff.mpr hx
          refine ⟨_, _, _, rfl, s5, t5.congr A.len fun i j _ _ => ?_⟩
          unfold midW
          by_cases e : i = v
          · rw [e, if_neg (Nat.lt_irrefl v), if_pos (Nat.lt_succ_self v)]
            unfold stepW
            rw [hx, Bool.false_and, Bool.or_false]
          · by_cases e2 : i < v
            · rw [if_pos e2, if_pos (by omega)]
            · rw [if_neg e2, if_neg (by omega)]
      · rintro σ H5 ⟨v3, v4, v6, rfl, s5, t5⟩
        refine ⟨_, _, _, _, rfl, s5, t5.congr A.len fun i j hi _ => ?_⟩
        unfold midW
        rw [if_pos hi]
        show stepW U m i j = stepW (closW ps m) m i j
        rw [hU]
    · rintro σ H4 ⟨v3, v4, v5, v6, rfl, s4, t4⟩
      rw [closW_all lt] at t4
      exact ⟨_, rfl, q D H4 s4 ⟨as, A.len, t4⟩⟩
end
end Hue

end
section
set_option maxRecDepth 100000
set_option maxHeartbeats 4000000
namespace Hue
open PySem PySem.Spec PyProof.Rows L2
section
variable {P : Program} {w : World} {K : PySem.W.Frag} {mg : Str → Option Value} {base : Heap} {C CL : Addr}
structure HsOk (C : Addr) (H : Hp) (x : Addr) (n h : Nat) (ps : List (Nat × Nat)) : Prop where
  at_ : HouseAt C H x n h (relOf ps)
  x_ : HouseX C H x n ps
theorem HsOk.same {H H' : Hp} {x : Addr} {n h : Nat} {ps : List (Nat × Nat)} (a : HsOk C H x n h ps) (s : Same H H') : HsOk C H' x n h ps := ⟨a.at_.same s, a.x_.same s⟩
theorem HsOk.ins {H : Hp} {x : Addr} {n h : Nat} {ps : List (Nat × Nat)} (a : HsOk C H x n h ps) : ∃ dx fs, H x = some (.ins C dx fs) ∧ ∀ m ∈ mNames, fs.lookup m = Option.none := by
  obtain ⟨dx, fs, ab, di, l, us, qs, g1, g2, g3, g4, g5, g6, g7, g8, g9, g10⟩ := a.x_
  exact ⟨dx, fs, g1, g10⟩
/-- wires that a house may be made of -/
structure WsOk (n : Nat) (ps : List (Nat × Nat)) : Prop where
  nd : ps.Nodup
  few : ps.length < 1000
  rk : ∃ ρ : Nat → Nat, ∀ p ∈ ps, ρ p.1 < ρ p.2
  lt : ∀ p ∈ ps, p.1 < n ∧ p.2 < n
theorem WsOk.ranked {n : Nat} {ps : List (Nat × Nat)} (W : WsOk n ps) : Ranked (relOf ps) := let ⟨_, hρ⟩ := W.rk; relOf_ranked hρ
theorem made_house {H : Hp} {a : Addr} {n h : Nat} {ts : List Addr} {ps : List (Nat × Nat)} (n1 : 1 ≤ n) (n16 : n ≤ 16) (h2 : 2 ≤ h) (h10 : h ≤ 10) (ha : H a = some (.lst (ts.map V.ref)) ∨ H a = some (.tup (ts.map V.ref))) (hps : Pairs H ts ps) (W : WsOk n ps)
    {R : VK} {E : XK} {x dx : Addr} (nx : H x = none) (ndx : H dx = none) (ne : dx ≠ x) (q : ∀ H', Same H H' → HsOk C H' x n h ps → R .non H') :
    spInit K C (.ref x :: [.int (n : Nat), .int (h : Nat), .ref a]) (L2.upd (L2.upd H dx (.own x)) x (.ins C dx [])) R E := by
  have s1 : Same H (L2.upd H dx (.own x)) := same_new ndx
  have s2 : Same (L2.upd H dx (.own x)) (L2.upd (L2.upd H dx (.own x)) x (.ins C dx [])) := same_new (by rw [upd_ne ne.symm]; exact nx)
  have s12 := s1.trans s2
  refine ⟨x, dx, a, n, h, ps, rfl, upd_same, n1, n16, h2, h10, ⟨⟨ts, ?_, hps.same s12⟩, W.nd, by have := W.few; omega, W.lt, W.rk⟩, fun H' s a1 a2 => q H' (fun b o e => s b o (ne_of_none e nx) (s12 b o e)) ⟨a1, a2⟩⟩
  rcases ha with ha | ha
  · exact .inl (SqL.of (s12 _ _ ha))
  · exact .inr (SqT.of (s12 _ _ ha))
/-! ### all pairs, and those without one between -/
def rowP (n : Nat) (R : Rel) (f : Nat → Nat → Bool) (u : Nat) : List (Nat × Nat) := ((Bel n R u).filter (f u)).map fun l => (u, l)
def pairP (n : Nat) (R : Rel) (f : Nat → Nat → Bool) (k : Nat) : List (Nat × Nat) := (List.range k).flatMap (rowP n R f)
theorem mem_pairP {n k : Nat} {R : Rel} {f : Nat → Nat → Bool} {p : Nat × Nat} : p ∈ pairP n R f k ↔ p.1 < k ∧ p.2 < n ∧ R p.1 p.2 = true ∧ f p.1 p.2 = true := by
  unfold pairP rowP
  rw [List.mem_flatMap]
  constructor
  · rintro ⟨u, hu, hp⟩
    obtain ⟨l, hl, e⟩ := List.mem_map.mp hp
    obtain ⟨h1, h2⟩ := List.mem_filter.mp hl
    obtain ⟨h3, h4⟩ := mem_Bel.mp h1
    subst e
    exact ⟨List.mem_range.mp hu, h3, h4, h2⟩
  · rintro ⟨h1, h2, h3, h4⟩
    exact ⟨p.1, List.mem_range.mpr h1, List.mem_map.mpr ⟨p.2, List.mem_filter.mpr ⟨mem_Bel.mpr ⟨h2, h3⟩, h4⟩, rfl⟩⟩
theorem pairP_more (n k : Nat) (R : Rel) (f : Nat → Nat → Bool) : pairP n R f (k + 1) = pairP n R f k ++ rowP n R f k := by
  unfold pairP
  rw [List.range_succ, List.flatMap_append]
  simp
theorem rowP_len (n : Nat) (R : Rel) (f : Nat → Nat → Bool) (u : Nat) : (rowP n R f u).length ≤ n := by
  unfold rowP
  rw [List.length_map]
  exact Nat.le_trans (List.length_filter_le _ _) (Bel_len n R u)
theorem pairP_len (n : Nat) (R : Rel) (f : Nat → Nat → Bool) : ∀ k, (pairP n R f k).length ≤ k * n
  | 0 => by simp [pairP]
  | k + 1 => by
    have h := rowP_len n R f k
    have := pairP_len n R f k
    rw [pairP_more, List.length_append, Nat.succ_mul]
    omega
theorem pairP_nd (n : Nat) (R : Rel) (f : Nat → Nat → Bool) : ∀ k, (pairP n R f k).Nodup
  | 0 => by simp [pairP]
  | k + 1 => by
    rw [pairP_more, List.nodup_append]
    refine ⟨pairP_nd n R f k, ?_, fun a ha b hb e => ?_⟩
    · unfold rowP
      have nd : ((Bel n R k).filter (f k)).Nodup := (List.nodup_range.filter _).filter _
      exact List.pairwise_map.mpr (List.Pairwise.imp (fun ne e => ne (by injection e)) nd)
    · have h1 := (mem_pairP.mp ha).1
      obtain ⟨l, _, e2⟩ := List.mem_map.mp hb
      rw [e, ← e2] at h1
      exact Nat.lt_irrefl _ h1
theorem pairP_ws {n : Nat} {ps : List (Nat × Nat)} {f : Nat → Nat → Bool} (W : WsOk n ps) (n16 : n ≤ 16) : WsOk n (pairP n (relOf ps) f n) := by
  obtain ⟨ρ, hρ⟩ := W.ranked
  refine ⟨pairP_nd _ _ _ _, ?_, ⟨ρ, fun p hp => hρ _ _ (mem_pairP.mp hp).2.2.1⟩, fun p hp => ⟨(mem_pairP.mp hp).1, (mem_pairP.mp hp).2.1⟩⟩
  have h := pairP_len n (relOf ps) f n
  have : n * n ≤ 16 * 16 := Nat.mul_le_mul n16 n16
  omega
theorem rel_lt {n : Nat} {ps : List (Nat × Nat)} (W : WsOk n ps) {i j : Nat} (h : relOf ps i j = true) : i < n ∧ j < n := by
  obtain ⟨u, hu, _⟩ := rel_last.mp h
  have key : ∀ (i j : Nat), relOf ps i j = true → i < n := fun i j h => fold_sub (R := fun i _ => decide (i < n)) (fun i j k h _ => h) ps (fun _ _ => false) (fun i j z => by cases z) (fun p hp => decide_eq_true (W.lt p hp).1) i j h |> of_decide_eq_true
  exact ⟨key i j h, (W.lt _ hu).2⟩
theorem rel_eq {ps qs : List (Nat × Nat)} (h1 : ∀ p ∈ qs, relOf ps p.1 p.2 = true) (h2 : ∀ i j, relOf ps i j = true → relOf qs i j = true) : relOf qs = relOf ps := by
  funext i j
  rw [Bool.eq_iff_iff]
  exact ⟨fold_sub (relOf_trans ps) qs (fun _ _ => false) (fun i j z => by cases z) h1 i j, h2 i j⟩
def allP : Nat → Nat → Bool := fun _ _ => true
def bareP (n : Nat) (R : Rel) : Nat → Nat → Bool := fun u l => !(Bel n R u).any fun m => R m l
theorem rel_full {n : Nat} {ps : List (Nat × Nat)} (W : WsOk n ps) : relOf (pairP n (relOf ps) allP n) = relOf ps :=
  rel_eq (fun p hp => (mem_pairP.mp hp).2.2.1) fun i j h => fold_wire _ _ (i, j) (mem_pairP.mpr ⟨(rel_lt W h).1, (rel_lt W h).2, h, rfl⟩)
theorem rel_bare {n : Nat} {ps : List (Nat × Nat)} (W : WsOk n ps) : relOf (pairP n (relOf ps) (bareP n (relOf ps)) n) = relOf ps := by
  obtain ⟨ρ, hρ⟩ := W.ranked
  have key : ∀ (d i j : Nat), ρ j ≤ ρ i + d → relOf ps i j = true → relOf (pairP n (relOf ps) (bareP n (relOf ps)) n) i j = true := by
    intro d
    induction d with
    | zero => intro i j h r; have := hρ i j r; omega
    | succ d ih =>
      intro i j h r
      cases b : bareP n (relOf ps) i j with
      | true => exact fold_wire _ _ (i, j) (mem_pairP.mpr ⟨(rel_lt W r).1, (rel_lt W r).2, r, b⟩)
      | false =>
        have b' : ((Bel n (relOf ps) i).any fun m => relOf ps m j) = true := by
          unfold bareP at b
          rw [Bool.not_eq_false'] at b
          exact b
        obtain ⟨m, hm, r2⟩ := List.any_eq_true.mp b'
        have r1 := (mem_Bel.mp hm).2
        have a1 := hρ i m r1
        have a2 := hρ m j r2
        exact relOf_trans _ i m j (ih i m (by omega) r1) (ih m j (by omega) r2)
  exact rel_eq (fun p hp => (mem_pairP.mp hp).2.2.1) fun i j h => key (ρ j) i j (by omega) h
/-! ### closed -/
/-- a house with the wires qs is made of the house at x -/
def spMadeOf (C : Addr) (f : Nat → List (Nat × Nat) → List (Nat × Nat)) : Sp := fun vs H Q _ => ∃ (x : Addr) (n h : Nat) (ps : List (Nat × Nat)), vs = [.ref x] ∧ 1 ≤ n ∧ n ≤ 16 ∧ 2 ≤ h ∧ h ≤ 10 ∧ WsOk n ps ∧ HsOk C H x n h ps ∧
  ∀ (y : Addr) (H' : Hp), Same H H' → HsOk C H' y n h (f n ps) → Q (.ref y) H'
def fullL (n : Nat) (ps : List (Nat × Nat)) : List (Nat × Nat) := pairP n (relOf ps) allP n
def bareL (n : Nat) (ps : List (Nat × Nat)) : List (Nat × Nat) := pairP n (relOf ps) (bareP n (relOf ps)) n
/-- the pairs found so far: the rows before u, and of row u the first m lamps -/
def PrAt (H0 H : Hp) (D : Addr) (n : Nat) (R : Rel) (f : Nat → Nat → Bool) (u m : Nat) : Prop := ∃ ts : List Addr, H D = some (.lst (ts.map V.ref)) ∧ Pairs H ts (pairP n R f u ++ (((Bel n R u).take m).filter (f u)).map fun l => (u, l)) ∧ ts.length ≤ u * n + m ∧ Same H0 H
theorem PrAt.skip {H0 H : Hp} {D : Addr} {n : Nat} {R : Rel} {f : Nat → Nat → Bool} {u m l : Nat} (p : PrAt H0 H D n R f u m) (hl : (Bel n R u)[m]? = some l) (e : f u l = false) : PrAt H0 H D n R f u (m + 1) := by
  obtain ⟨ts, a, b, c, d⟩ := p
  refine ⟨ts, a, ?_, by omega, d⟩
  rw [filt_more _ _ _ hl, if_neg (by rw [e]; exact Bool.false_ne_true), List.append_nil]
  exact b
theorem PrAt.one {H0 H H1 : Hp} {D t : Addr} {n : Nat} {R : Rel} {f : Nat → Nat → Bool} {u m l : Nat} (p : PrAt H0 H D n R f u m) (hD : H0 D = none) (s : Same H H1) (nt : H1 t = none) (hl : (Bel n R u)[m]? = some l) (e : f u l = true) (few : u * n + m < 1000) :
    ∃ acc, (L2.upd H1 t (.tup [.int (u : Int), .int (l : Int)])) D = some (.lst acc) ∧ acc.length < sizeLine ∧ PrAt H0 (L2.upd (L2.upd H1 t (.tup [.int (u : Int), .int (l : Int)])) D (.lst (acc ++ [V.ref t]))) D n R f u (m + 1) := by
  obtain ⟨ts, a, b, c, d⟩ := p
  have s1 : Same H1 (L2.upd H1 t (.tup [.int (u : Int), .int (l : Int)])) := same_new nt
  have s2 := s.trans s1
  refine ⟨_, s2 _ _ a, by rw [List.length_map, sizeLine_eq]; omega, ts ++ [t], by rw [upd_same, List.map_append]; rfl, ?_, by rw [List.length_append, List.length_singleton]; omega, same_upd (d.trans s2) hD⟩
  rw [filt_more _ _ _ hl, if_pos e, List.map_append, ← List.append_assoc]
  have q := (b.same s2).app (Pairs.one (p := (u, l)) upd_same)
  exact q.sb (s2 _ _ a) fun c o n e => by rw [upd_ne n]; exact e
theorem PrAt.next {H0 H : Hp} {D : Addr} {n : Nat} {R : Rel} {f : Nat → Nat → Bool} {u : Nat} (p : PrAt H0 H D n R f u (Bel n R u).length) : PrAt H0 H D n R f (u + 1) 0 := by
  obtain ⟨ts, a, b, c, d⟩ := p
  have := Bel_len n R u
  refine ⟨ts, a, ?_, by rw [Nat.succ_mul]; omega, d⟩
  rw [List.take_length] at b
  rw [pairP_more, List.take_zero, List.filter_nil, List.map_nil, List.append_nil]
  exact b
theorem PrAt.start {H0 : Hp} {D : Addr} {n : Nat} {R : Rel} {f : Nat → Nat → Bool} (hD : H0 D = none) : PrAt H0 (L2.upd H0 D (.lst [])) D n R f 0 0 := by
  refine ⟨[], upd_same, ?_, Nat.zero_le _, same_new hD⟩
  rw [List.take_zero, List.filter_nil, List.map_nil, List.append_nil]
  exact ⟨rfl, fun i t q h => by simp at h⟩
end
end Hue

end
section
set_option maxRecDepth 100000
set_option maxHeartbeats 4000000
namespace Hue
open PySem PySem.Spec PyProof.Rows L2
section
variable {P : Program} {w : World} {K : PySem.W.Frag} {mg : Str → Option Value} {base : Heap} {C CL : Addr}
theorem eqDK {X : Cx} (K : PySem.W.Frag) (hu : X.A.units + 64 < cLine) (hK : X.K = K := by rfl) : OpR X (compareOp .Eq) (rEqD K) := by subst hK; exact op_eqD hu
/-- what the class House is for isinstance -/
structure TxH (K : PySem.W.Frag) (C : Addr) : Prop where
  ic : PySem.W.isClsIn K C = true
  ty : PySem.W.typeIn K (.ref C) = some (.type "type")
  ca : PySem.W.findIn K (.ref C) "__class__" = some (some (.builtin "object.__class__"))
  gs : PySem.W.specialIn K (.builtin "object.__class__") "__get__" = some (some (.builtin "getset_descriptor.__get__"))
  tk : PySem.W.takesIn K (.builtin "object.__class__") = some true
  mo : PySem.W.mroIn K C (.type "object") = some true
theorem kit_selfH {K : PySem.W.Frag} {S : Addr} : PySem.W.kitOne K (.ref S) (.ref S) = some true := by
  show (if ((Value.ref S) == (Value.ref S)) = true then some true else _) = some true
  rw [if_pos (beq_iff_eq.mpr rfl)]
theorem kit_bt {S : Addr} (TH : TxH K S) {T : String} (h : T ∈ ["NoneType", "int", "str", "tuple", "list"]) : PySem.W.kitOne K (.type T) (.ref S) = some false := by
  have e2 : ((PySem.W.clsIn K S).isSome && PySem.W.typeIn K (.ref S) == some (.type "type")) = true := by
    have h2' : (PySem.W.clsIn K S).isSome = true := TH.ic
    rw [h2', TH.ty] <;> rfl
  have ne : ¬ ((Value.type T) == (Value.ref S)) = true := fun z => by cases beq_iff_eq.mp z
  show (if ((Value.type T) == (Value.ref S)) = true then some true else (if ((PySem.W.clsIn K S).isSome && PySem.W.typeIn K (.ref S) == some (.type "type")) = true then PySem.W.subIn K (.type T) (.ref S) else none)) = some false
  rw [if_neg ne, if_pos e2]
  exact bt_sub h
theorem bt_ty {H : Hp} {y : V} {T : String} (b : Bt H y T) : TyX K H y (.type T) := by
  cases b with
  | non => exact .base .non
  | int i => exact .base (.int i)
  | str z => exact .base (.str z)
  | tup e => exact .base (.tup e)
  | lst e => exact .base (.lst e)
/-! ### wires that are equal -/
def prA (qs : List (Nat × Nat)) : List PyData := qs.map fun p => PyData.tuple [.int p.1, .int p.2]
theorem prA_all {H : Hp} : ∀ (ts : List Addr) (ps : List (Nat × Nat)), Pairs H ts ps → DpAll K H (ts.map V.ref) (prA ps)
  | [], [], _ => .nil
  | [], _ :: _, h => nomatch h.1
  | _ :: _, [], h => nomatch h.1
  | t :: ts, p :: ps, h => .cons (.tup (SqT.of (h.2 0 t p rfl rfl)) (.cons (.int _) (.cons (.int _) .nil))) (prA_all ts ps ⟨Nat.succ.inj h.1, fun i t p a b => h.2 (i + 1) t p a b⟩)
theorem prA_lay : ∀ ps : List (Nat × Nat), PyData.canLayAll0 (prA ps) = true
  | [] => by simp [prA, PyData.canLayAll0]
  | p :: ps => by
    have := prA_lay ps
    unfold prA at this ⊢
    simp [PyData.canLayAll0, PyData.canLay0, this]
theorem prA_deep : ∀ ps : List (Nat × Nat), PyData.depthAll (prA ps) ≤ 3
  | [] => by simp [prA, PyData.depthAll]
  | p :: ps => by
    have := prA_deep ps
    unfold prA at this ⊢
    simp only [List.map_cons, PyData.depthAll, PyData.depth]
    omega
theorem prT_shaped (ps : List (Nat × Nat)) : SeqAt.shaped (.tuple (prA ps)) = true := by
  have h1 := prA_deep ps
  have h2 : PyData.depth (.tuple (prA ps)) ≤ 64 := by
    simp only [PyData.depth]
    omega
  show (PyData.canLay0 (.tuple (prA ps)) && decide (PyData.depth (.tuple (prA ps)) ≤ 64)) = true
  rw [decide_eq_true h2, Bool.and_true]
  simp only [PyData.canLay0]
  exact prA_lay ps
theorem prA_eqv : ∀ ps qs : List (Nat × Nat), PyData.eqvAll (prA ps) (prA qs) = decide (ps = qs)
  | [], [] => by simp [prA, PyData.eqvAll]
  | [], q :: qs => by simp [prA, PyData.eqvAll]
  | p :: ps, [] => by simp [prA, PyData.eqvAll]
  | p :: ps, q :: qs => by
    have h := prA_eqv ps qs
    obtain ⟨a, b⟩ := p
    obtain ⟨c, d⟩ := q
    unfold prA at h ⊢
    rw [Bool.eq_iff_iff] at h ⊢
    rw [decide_eq_true_eq] at h ⊢
    simp only [List.map_cons, PyData.eqvAll, PyData.eqv, Bool.and_eq_true, Bool.and_true, h, beq_iff_eq, List.cons.injEq, Prod.mk.injEq]
    constructor
    · rintro ⟨⟨x, y⟩, z⟩; exact ⟨⟨by omega, by omega⟩, z⟩
    · rintro ⟨⟨x, y⟩, z⟩; exact ⟨⟨by omega, by omega⟩, z⟩
theorem leP_anti {p q : Nat × Nat} (a : leP p q) (b : leP q p) : p = q := by
  obtain ⟨p1, p2⟩ := p
  obtain ⟨q1, q2⟩ := q
  have a' : ¬ (q1 < p1 ∨ (q1 = p1 ∧ q2 < p2)) := a
  have b' : ¬ (p1 < q1 ∨ (p1 = q1 ∧ p2 < q2)) := b
  have e1 : p1 = q1 := by omega
  have e2 : p2 = q2 := by omega
  rw [e1, e2]
theorem srt_ext : ∀ {l m : List (Nat × Nat)}, l.Pairwise leP → m.Pairwise leP → l.Nodup → m.Nodup → (∀ p, p ∈ l ↔ p ∈ m) → l = m
  | [], m, _, _, _, _, h => (List.eq_nil_iff_forall_not_mem.mpr fun p hp => by cases (h p).mpr hp).symm
  | x :: l, [], _, _, _, _, h => by cases (h x).mp List.mem_cons_self
  | x :: l, y :: m, hl, hm, nl, nm, h => by
    obtain ⟨hl1, hl2⟩ := List.pairwise_cons.mp hl
    obtain ⟨hm1, hm2⟩ := List.pairwise_cons.mp hm
    obtain ⟨nl1, nl2⟩ := List.nodup_cons.mp nl
    obtain ⟨nm1, nm2⟩ := List.nodup_cons.mp nm
    have e : x = y := by
      rcases List.mem_cons.mp ((h x).mp List.mem_cons_self) with e | e
      · exact e
      · rcases List.mem_cons.mp ((h y).mpr List.mem_cons_self) with e2 | e2
        · exact e2.symm
        · exact leP_anti (hl1 y e2) (hm1 x e)
    subst e
    rw [srt_ext hl2 hm2 nl2 nm2 fun p => ?_]
    constructor
    · intro hp
      rcases List.mem_cons.mp ((h p).mp (List.mem_cons_of_mem _ hp)) with z | z
      · rw [z] at hp; exact absurd hp nl1
      · exact z
    · intro hp
      rcases List.mem_cons.mp ((h p).mpr (List.mem_cons_of_mem _ hp)) with z | z
      · rw [z] at hp; exact absurd hp nm1
      · exact z
theorem perm_eq {qs qs2 ps ps2 : List (Nat × Nat)} (a : PermS qs ps) (b : PermS qs2 ps2) (n1 : ps.Nodup) (n2 : ps2.Nodup) : qs = qs2 ↔ ∀ p, p ∈ ps ↔ p ∈ ps2 := by
  constructor
  · intro e p
    rw [← a.1.mem_iff, ← b.1.mem_iff, e]
  · intro h
    exact srt_ext a.2 b.2 (a.1.nodup_iff.mpr n1) (b.1.nodup_iff.mpr n2) fun p => by rw [a.1.mem_iff, b.1.mem_iff]; exact h p
abbrev s_House___len__ : Stmt := inClass (top 9) 4
theorem sc_House___len__ : FnScope ["self"] ["self"] (defScope s_House___len__) := ⟨rfl, rfl, rfl, by decide +kernel, rfl, by decide +kernel, by decide +kernel⟩
-- slots of House.__len__: 0 self
def spLenH (C : Addr) : Sp := fun vs H Q _ => ∃ (x : Addr) (n h : Nat) (ps : List (Nat × Nat)), vs = [.ref x] ∧ HsOk C H x n h ps ∧ Ranked (relOf ps) ∧ Q (.int (n : Nat)) H
theorem ok_len (T : Txt K mg C) {f : Addr} {fd : FuncData} (F : Fun K "__len__" "House.__len__" s_House___len__ f fd) : FnOk P w K mg base CX0 1 f fd ["self"] (spLenH C) := by
  refine F.ok sc_House___len__ (fun vs H Q E h => ?_) (fun cdv A outer s H vs Q E hr h => ?_)
  · obtain ⟨x, n, h, ps, rfl, _⟩ := h; rfl
  · obtain ⟨x, n, h, ps, rfl, hs, hR, q⟩ := h
    obtain ⟨dx, fs, be, o, g1, g2, g3, g4, g5, g6, g7, g8, g9⟩ := id hs.at_
    refine ⟨_, (pss_one (ps_ret (pe_callB (lenS_ K) (by rfl) T.len b_len (pa_cons (fld_ K (pv 0)) pa_nil)))), ?_⟩
    refine ⟨_, rfl, x, C, dx, _, _, rfl, g1, T.cl, T.nOrder, g6, o, _, rfl, .inl (SqL.of g7), ?_⟩
    rw [nL_len, (ordN_ok hR n (Nat.le_refl n)).1]
    exact q
abbrev s_House___eq__ : Stmt := inClass (top 9) 3
theorem sc_House___eq__ : FnScope ["self", "other"] ["self", "other"] (defScope s_House___eq__) := ⟨rfl, rfl, rfl, by decide +kernel, rfl, by decide +kernel, by decide +kernel⟩
-- slots of House.__eq__: 0 self, 1 other
def spEqH (C : Addr) : Sp := fun vs H Q _ => ∃ (x : Addr) (n h : Nat) (ps : List (Nat × Nat)) (y : V), vs = [.ref x, y] ∧ HsOk C H x n h ps ∧ ps.Nodup ∧
  ((∃ T, Bt H y T ∧ Q (.bl false) H) ∨ ∃ (x2 : Addr) (n2 h2 : Nat) (ps2 : List (Nat × Nat)), y = .ref x2 ∧ HsOk C H x2 n2 h2 ps2 ∧ ps2.Nodup ∧ ∀ b : Bool, (b = true ↔ n = n2 ∧ h = h2 ∧ ∀ p, p ∈ ps ↔ p ∈ ps2) → Q (.bl b) H)
theorem ok_eq (T : Txt K mg C) (TH : TxH K C) {f : Addr} {fd : FuncData} (F : Fun K "__eq__" "House.__eq__" s_House___eq__ f fd) : FnOk P w K mg base CX0 1 f fd ["self", "other"] (spEqH C) := by
  refine F.ok sc_House___eq__ (fun vs H Q E h => ?_) (fun cdv A outer s H vs Q E hr h => ?_)
  · obtain ⟨x, n, h, ps, y, rfl, _⟩ := h; rfl
  · obtain ⟨x, n, h, ps, y, rfl, hs, nd, q⟩ := h
    obtain ⟨dx, fs, be, o, g1, g2, g3, g4, g5, g6, g7, g8, g9⟩ := id hs.at_
    obtain ⟨dx', fs', ab, di, l, us, qs, k1, k2, k3, k4, k5, k6, k7, k8, k9, k10⟩ := id hs.x_
    refine ⟨_, (pss_one (ps_ret (pe_and (pe_callB (isi_ K) (by rfl) T.isinstance b_isinstance (pa_cons (pv 1) (pa_cons (pe_glob (v := .ref C) (by rfl) T.mgC rfl) pa_nil))) (pe_and (pe_cmpR op_eq (fld_ K (pv 0)) (fld_ K (pv 1)) (nomark _)) (pe_and (pe_cmpR op_eq (fld_ K (pv 0)) (fld_ K (pv 1)) (nomark _)) (pe_one (pe_cmpR (eqDK K hr.units) (fld_ K (pv 0)) (fld_ K (pv 1)) (nomark _)))))))), ?_⟩
    rcases q with ⟨Ty, bt, q⟩ | ⟨x2, n2, h2, ps2, rfl, hs2, nd2, q⟩
    · exact ⟨_, rfl, _, _, _, _, false, rfl, .own _, bt_ty bt, kit_bt TH bt.mem, false, rfl, iteF q⟩
    obtain ⟨ex, fx, be2, o2, e1, e2, e3, e4, e5, e6, e7, e8, e9⟩ := id hs2.at_
    obtain ⟨ex', fx', ab2, di2, l2, us2, qs2, m1, m2, m3, m4, m5, m6, m7, m8, m9, m10⟩ := id hs2.x_
    have gi : ∀ a b : Nat, decide (V.int (a : Int) = V.int (b : Int)) = decide (a = b) := fun a b => decide_eq_decide.mpr ⟨fun z => by injection z with z; omega, fun z => by rw [z]⟩
    refine ⟨_, rfl, _, _, _, _, true, rfl, .own _, .base (.ins e1 T.cl TH.ca TH.gs TH.tk TH.mo), kit_selfH, true, rfl, iteT ?_⟩
    refine ⟨_, rfl, x, C, dx, _, _, rfl, g1, T.cl, T.nCount, g2, _, rfl, x2, C, ex, _, _, rfl, e1, T.cl, T.nCount, e2, rfl, _, rfl, ?_⟩
    rw [gi]
    refine ite2 (fun zn => ?_) (fun zn => ?_)
    · have zn := of_decide_eq_true zn
      refine ⟨_, rfl, x, C, dx, _, _, rfl, g1, T.cl, T.nHues, g3, _, rfl, x2, C, ex, _, _, rfl, e1, T.cl, T.nHues, e3, rfl, _, rfl, ?_⟩
      rw [gi]
      refine ite2 (fun zh => ?_) (fun zh => ?_)
      · have zh := of_decide_eq_true zh
        refine ⟨_, rfl, x, C, dx', _, _, rfl, k1, T.cl, T.nWires, k6, _, rfl, x2, C, ex', _, _, rfl, m1, T.cl, T.nWires, m6, .tuple (prA qs), .tuple (prA qs2), .tup (SqT.of k7) (prA_all _ _ k8), .tup (SqT.of m7) (prA_all _ _ m8), prT_shaped _, prT_shaped _, ?_⟩
        have ee : PyData.eqv (.tuple (prA qs)) (.tuple (prA qs2)) = decide (qs = qs2) := by
          simp only [PyData.eqv]
          exact prA_eqv qs qs2
        show Q (.bl (PyData.eqv (.tuple (prA qs)) (.tuple (prA qs2)))) H
        rw [ee]
        exact q _ (by rw [decide_eq_true_eq, perm_eq k9 m9 nd nd2]; exact ⟨fun z => ⟨zn, zh, z⟩, fun z => z.2.2⟩)
      · have zh : ¬ h = h2 := fun z => zh (decide_eq_true z)
        exact q false ⟨fun z => (by cases z), fun z => absurd z.2.1 zh⟩
    · have zn : ¬ n = n2 := fun z => zn (decide_eq_true z)
      exact q false ⟨fun z => (by cases z), fun z => absurd z.1 zn⟩
end
end Hue

end
section
set_option maxRecDepth 100000
set_option maxHeartbeats 4000000
namespace L2
open PySem PySem.Spec PyProof.Rows
theorem lci_range {lo : Int} {n : Nat} {g : TG} {tt : TT} {B : St → Hp → (Hp → Prop) → Prop} {σ : St} {vs : List Nat} {H0 : Hp} {Qd : Hp → Prop} (Pv : Nat → Hp → Prop) (h0 : Pv 0 H0)
    (hs : ∀ i H, i < n → Pv i H → g (.int (lo + i)) (wipe σ vs) H fun σ2 H2 => wipe σ2 vs = wipe σ vs ∧ tt σ2 H2 fun b H3 => if b = true then B σ2 H3 (Pv (i + 1)) else Pv (i + 1) H3) (hd : ∀ H, Pv n H → Qd H) :
    ∃ W : Nat → Nat → Hp → Prop, (∃ m, W 0 m H0) ∧ ∀ i m H, W i m H →
      ((Itr lo n).stop i H ∧ Qd H) ∨ ((Itr lo n).go i H ∧ ∃ Nx : Hp → Prop, (∀ H', Nx H' → ∃ m', m' < m ∧ W (i + 1) m' H') ∧ ∀ x H', (Itr lo n).yld i H x H' → g x (wipe σ vs) H' fun σ2 H2 => wipe σ2 vs = wipe σ vs ∧ tt σ2 H2 fun b H3 => if b = true then B σ2 H3 Nx else Nx H3) := by
  refine ⟨fun i m H => m = n - i ∧ i ≤ n ∧ Pv i H, ⟨n, by simp, Nat.zero_le _, h0⟩, ?_⟩
  rintro i m H ⟨rfl, hi, p⟩
  by_cases hlt : i < n
  · refine .inr ⟨hlt, Pv (i + 1), fun H' p' => ⟨n - (i + 1), by omega, rfl, hlt, p'⟩, fun x H' y => ?_⟩
    obtain ⟨e, y⟩ := y
    subst e y
    exact hs i _ hlt p
  · have e : i = n := by omega
    subst e
    exact .inl ⟨Nat.le_refl _, hd H p⟩
end L2
namespace Hue
open PySem PySem.Spec PyProof.Rows L2
section
variable {P : Program} {w : World} {K : PySem.W.Frag} {mg : Str → Option Value} {base : Heap} {C CL : Addr}
theorem sub_len : ∀ {l m : List (Nat × Nat)}, l.Nodup → (∀ p ∈ l, p ∈ m) → l.length ≤ m.length
  | [], m, _, _ => Nat.zero_le _
  | x :: l, m, nd, h => by
    obtain ⟨n1, n2⟩ := List.nodup_cons.mp nd
    have xm := h x List.mem_cons_self
    have := sub_len (l := l) (m := m.erase x) n2 fun p hp => (List.mem_erase_of_ne (fun e => n1 (by rw [← e]; exact hp))).mpr (h p (List.mem_cons_of_mem _ hp))
    rw [List.length_erase_of_mem xm] at this
    have pos := List.length_pos_of_mem xm
    rw [List.length_cons]
    omega
/-! ### lists of pairs that grow -/
/-- at D, which is new since H0: the pairs ps -/
def PL (H0 H : Hp) (D : Addr) (ps : List (Nat × Nat)) : Prop := ∃ ts : List Addr, H D = some (.lst (ts.map V.ref)) ∧ Pairs H ts ps ∧ Same H0 H
theorem PL.nil {H0 : Hp} {D : Addr} (hD : H0 D = none) : PL H0 (upd H0 D (.lst [])) D [] := ⟨[], upd_same, ⟨rfl, fun i t p a _ => by simp at a⟩, same_new hD⟩
theorem PL.same {H0 H H' : Hp} {D : Addr} {ps : List (Nat × Nat)} (l : PL H0 H D ps) (s : Same H H') : PL H0 H' D ps := by
  obtain ⟨ts, a, b, c⟩ := l
  exact ⟨ts, s _ _ a, b.same s, c.trans s⟩
theorem PL.len {H0 H : Hp} {D : Addr} {ps : List (Nat × Nat)} (l : PL H0 H D ps) : ∃ xs, H D = some (.lst xs) ∧ xs.length = ps.length := by
  obtain ⟨ts, a, b, c⟩ := l
  exact ⟨_, a, by rw [List.length_map, b.1]⟩
/-- one more tuple, and it is put behind -/
theorem PL.one {H0 H H1 : Hp} {D t : Addr} {ps : List (Nat × Nat)} {p : Nat × Nat} {a b : Int} (l : PL H0 H D ps) (hD : H0 D = none) (s : Same H H1) (nt : H1 t = none) (ea : a = (p.1 : Int)) (eb : b = (p.2 : Int)) (few : ps.length < 10000) :
    ∃ acc, (L2.upd H1 t (.tup [.int a, .int b])) D = some (.lst acc) ∧ acc.length < sizeLine ∧ PL H0 (L2.upd (L2.upd H1 t (.tup [.int a, .int b])) D (.lst (acc ++ [V.ref t]))) D (ps ++ [p]) := by
  subst ea eb
  obtain ⟨ts, h1, h2, h3⟩ := l
  have s1 : Same H1 (L2.upd H1 t (.tup [.int (p.1 : Int), .int (p.2 : Int)])) := same_new nt
  have s2 := s.trans s1
  refine ⟨_, s2 _ _ h1, by rw [List.length_map, h2.1, sizeLine_eq]; omega, ts ++ [t], by rw [upd_same, List.map_append]; rfl, ?_, same_upd (h3.trans s2) hD⟩
  have q := (h2.same s2).app (Pairs.one (p := p) upd_same)
  exact q.sb (s2 _ _ h1) fun c o n e => by rw [upd_ne n]; exact e
/-- wires along the numbers -/
theorem ws_up {n : Nat} {ps : List (Nat × Nat)} (nd : ps.Nodup) (few : ps.length < 1000) (h : ∀ p ∈ ps, p.1 < p.2 ∧ p.2 < n) : WsOk n ps :=
  ⟨nd, few, ⟨fun k => k, fun p hp => (h p hp).1⟩, fun p hp => ⟨Nat.lt_trans (h p hp).1 (h p hp).2, (h p hp).2⟩⟩
/-! ### a chain -/
def chL (m : Nat) : List (Nat × Nat) := (List.range m).map fun k => (k, k + 1)
theorem chL_more (m : Nat) : chL (m + 1) = chL m ++ [(m, m + 1)] := by
  unfold chL
  rw [List.range_succ, List.map_append]
  rfl
theorem chL_len (m : Nat) : (chL m).length = m := by unfold chL; rw [List.length_map, List.length_range]
theorem nd_map {α β : Type} {f : α → β} (inj : ∀ a b, f a = f b → a = b) {l : List α} (nd : l.Nodup) : (l.map f).Nodup :=
  List.pairwise_map.mpr (nd.imp fun ne e => ne (inj _ _ e))
theorem chL_ws {n : Nat} (n16 : n ≤ 16) : WsOk n (chL (n - 1)) := by
  refine ws_up (nd_map (fun a b e => by injection e) List.nodup_range) (by rw [chL_len]; omega) fun p hp => ?_
  obtain ⟨k, hk, rfl⟩ := List.mem_map.mp hp
  have := List.mem_range.mp hk
  show k < k + 1 ∧ k + 1 < n
  omega
/-! ### stairs -/
def oV : Option Nat → V
  | none => .non
  | some k => .int (k : Nat)
def stF (pr : List (Option Nat)) (i : Nat) : List (Nat × Nat) := match pr[i]? with
  | some (some j) => [(j, i)]
  | _ => []
def stL (pr : List (Option Nat)) (m : Nat) : List (Nat × Nat) := (List.range m).flatMap (stF pr)
theorem flat_more {α : Type} (f : Nat → List α) (m : Nat) : (List.range (m + 1)).flatMap f = (List.range m).flatMap f ++ f m := by
  rw [List.range_succ, List.flatMap_append]
  simp
theorem stL_more (pr : List (Option Nat)) (m : Nat) : stL pr (m + 1) = stL pr m ++ stF pr m := flat_more _ m
def StairOk (pr : List (Option Nat)) : Prop := ∀ (i j : Nat), pr[i]? = some (some j) → j < i
theorem stF_mem {pr : List (Option Nat)} {i : Nat} {p : Nat × Nat} (h : p ∈ stF pr i) : p.2 = i ∧ pr[i]? = some (some p.1) := by
  unfold stF at h
  split at h
  · rename_i j e
    rw [List.mem_singleton.mp h]
    exact ⟨rfl, e⟩
  · cases h
theorem stF_len (pr : List (Option Nat)) (i : Nat) : (stF pr i).length ≤ 1 := by
  unfold stF
  split
  · exact Nat.le_refl _
  · exact Nat.zero_le _
theorem stL_len (pr : List (Option Nat)) : ∀ m, (stL pr m).length ≤ m
  | 0 => by simp [stL]
  | m + 1 => by
    have h1 := stL_len pr m
    have h2 := stF_len pr m
    rw [stL_more, List.length_append]
    omega
theorem stL_nd (pr : List (Option Nat)) : ∀ m, (stL pr m).Nodup
  | 0 => by simp [stL]
  | m + 1 => by
    rw [stL_more, List.nodup_append]
    refine ⟨stL_nd pr m, ?_, fun a ha b hb e => ?_⟩
    · unfold stF
      split <;> simp
    · obtain ⟨k, hk, h1⟩ := List.mem_flatMap.mp ha
      have e1 := (stF_mem h1).1
      have e2 := (stF_mem hb).1
      have := List.mem_range.mp hk
      rw [e] at e1
      omega
theorem stL_ws {pr : List (Option Nat)} (l : pr.length ≤ 16) (ok : StairOk pr) : WsOk pr.length (stL pr pr.length) := by
  have := stL_len pr pr.length
  refine ws_up (stL_nd _ _) (by omega) fun p hp => ?_
  obtain ⟨k, hk, h1⟩ := List.mem_flatMap.mp hp
  obtain ⟨e1, e2⟩ := stF_mem h1
  have := List.mem_range.mp hk
  have := ok k p.1 e2
  omega
/-! ### a hillside -/
def dnL (c m k : Nat) : List (Nat × Nat) := ((List.range k).filter fun v => decide (v + c < m)).map fun v => (v, v + c)
def acL (c k : Nat) : List (Nat × Nat) := ((List.range k).filter fun v => decide (0 < (v + 1) % c)).map fun v => (v, v + 1)
/-- what the law puts in, lamp by lamp -/
def hiF (c m v : Nat) : List (Nat × Nat) := (if v + c < m then [(v, v + c)] else []) ++ (if 0 < (v + 1) % c then [(v, v + 1)] else [])
def hiL (c m k : Nat) : List (Nat × Nat) := (List.range k).flatMap (hiF c m)
theorem hiL_more (c m k : Nat) : hiL c m (k + 1) = hiL c m k ++ hiF c m k := flat_more _ k
theorem dnL_more (c m k : Nat) : dnL c m (k + 1) = dnL c m k ++ (if decide (k + c < m) = true then [(k, k + c)] else []) := by
  unfold dnL
  rw [filt_more', List.map_append]
  split <;> rfl
theorem acL_more (c k : Nat) : acL c (k + 1) = acL c k ++ (if decide (0 < (k + 1) % c) = true then [(k, k + 1)] else []) := by
  unfold acL
  rw [filt_more', List.map_append]
  split <;> rfl
theorem mem_dn {c m k : Nat} {p : Nat × Nat} : p ∈ dnL c m k ↔ p.1 < k ∧ p.1 + c < m ∧ p.2 = p.1 + c := by
  unfold dnL
  rw [List.mem_map]
  constructor
  · rintro ⟨v, hv, rfl⟩
    obtain ⟨h1, h2⟩ := List.mem_filter.mp hv
    exact ⟨List.mem_range.mp h1, of_decide_eq_true h2, rfl⟩
  · rintro ⟨h1, h2, h3⟩
    exact ⟨p.1, List.mem_filter.mpr ⟨List.mem_range.mpr h1, decide_eq_true h2⟩, by rw [← h3]⟩
theorem mem_ac {c k : Nat} {p : Nat × Nat} : p ∈ acL c k ↔ p.1 < k ∧ 0 < (p.1 + 1) % c ∧ p.2 = p.1 + 1 := by
  unfold acL
  rw [List.mem_map]
  constructor
  · rintro ⟨v, hv, rfl⟩
    obtain ⟨h1, h2⟩ := List.mem_filter.mp hv
    exact ⟨List.mem_range.mp h1, of_decide_eq_true h2, rfl⟩
  · rintro ⟨h1, h2, h3⟩
    exact ⟨p.1, List.mem_filter.mpr ⟨List.mem_range.mpr h1, decide_eq_true h2⟩, by rw [← h3]⟩
theorem mem_hiF {c m v : Nat} {p : Nat × Nat} : p ∈ hiF c m v ↔ p.1 = v ∧ ((v + c < m ∧ p.2 = v + c) ∨ (0 < (v + 1) % c ∧ p.2 = v + 1)) := by
  obtain ⟨a, b⟩ := p
  unfold hiF
  rw [List.mem_append]
  constructor
  · rintro (h | h)
    · split at h
      · rename_i q
        have e := List.mem_singleton.mp h
        injection e with e1 e2
        exact ⟨e1, .inl ⟨q, e2⟩⟩
      · cases h
    · split at h
      · rename_i q
        have e := List.mem_singleton.mp h
        injection e with e1 e2
        exact ⟨e1, .inr ⟨q, e2⟩⟩
      · cases h
  · rintro ⟨e1, ⟨q, e2⟩ | ⟨q, e2⟩⟩
    · have e1 : a = v := e1
      have e2 : b = v + c := e2
      rw [if_pos q, e1, e2]
      exact .inl List.mem_cons_self
    · have e1 : a = v := e1
      have e2 : b = v + 1 := e2
      rw [if_pos q, e1, e2]
      exact .inr List.mem_cons_self
theorem mem_hi {c m k : Nat} {p : Nat × Nat} : p ∈ hiL c m k ↔ p ∈ dnL c m k ++ acL c k := by
  unfold hiL
  rw [List.mem_flatMap, List.mem_append, mem_dn, mem_ac]
  constructor
  · rintro ⟨v, hv, hp⟩
    obtain ⟨e, h | h⟩ := mem_hiF.mp hp
    · subst e; exact .inl ⟨List.mem_range.mp hv, h.1, h.2⟩
    · subst e; exact .inr ⟨List.mem_range.mp hv, h.1, h.2⟩
  · rintro (⟨h1, h2⟩ | ⟨h1, h2⟩)
    · exact ⟨p.1, List.mem_range.mpr h1, mem_hiF.mpr ⟨rfl, .inl h2⟩⟩
    · exact ⟨p.1, List.mem_range.mpr h1, mem_hiF.mpr ⟨rfl, .inr h2⟩⟩
theorem one_mod {v c : Nat} (h : 0 < (v + 1) % c) : c ≠ 1 := fun e => by rw [e, Nat.mod_one] at h; exact Nat.lt_irrefl _ h
theorem hiF_nd (c m v : Nat) : (hiF c m v).Nodup := by
  unfold hiF
  rw [List.nodup_append]
  refine ⟨by split <;> simp, by split <;> simp, fun a ha b hb e => ?_⟩
  split at ha
  · split at hb
    · rename_i q
      have e1 := List.mem_singleton.mp ha
      have e2 := List.mem_singleton.mp hb
      rw [e1, e2] at e
      injection e with _ e
      exact one_mod q (by omega)
    · cases hb
  · cases ha
theorem hiL_nd (c m : Nat) : ∀ k, (hiL c m k).Nodup
  | 0 => by simp [hiL]
  | k + 1 => by
    rw [hiL_more, List.nodup_append]
    refine ⟨hiL_nd c m k, hiF_nd c m k, fun a ha b hb e => ?_⟩
    obtain ⟨v, hv, h1⟩ := List.mem_flatMap.mp ha
    have e1 := (mem_hiF.mp h1).1
    have e2 := (mem_hiF.mp hb).1
    have := List.mem_range.mp hv
    rw [e] at e1
    omega
theorem dnac_nd (c m k : Nat) : (dnL c m k ++ acL c k).Nodup := by
  rw [List.nodup_append]
  refine ⟨nd_map (fun a b e => by injection e) (List.nodup_range.filter _), nd_map (fun a b e => by injection e) (List.nodup_range.filter _), fun a ha b hb e => ?_⟩
  have h1 := mem_dn.mp ha
  have h2 := mem_ac.mp hb
  rw [e] at h1
  exact one_mod h2.2.1 (by omega)
theorem dn_len (c m k : Nat) : (dnL c m k).length ≤ k := by
  unfold dnL; rw [List.length_map]; exact filt_few' _ k
theorem ac_len (c k : Nat) : (acL c k).length ≤ k := by
  unfold acL; rw [List.length_map]; exact filt_few' _ k
theorem hiF_len (c m v : Nat) : (hiF c m v).length ≤ 2 := by
  unfold hiF
  rw [List.length_append]
  split <;> split <;> simp
theorem hi_len (c m : Nat) : ∀ k, (hiL c m k).length ≤ 2 * k
  | 0 => by simp [hiL]
  | k + 1 => by
    have h1 := hi_len c m k
    have h2 := hiF_len c m k
    rw [hiL_more, List.length_append]
    omega
theorem mod_end {m c : Nat} (h : c ∣ m) {v : Nat} (hv : v < m) (q : 0 < (v + 1) % c) : v + 1 < m := by
  rcases Nat.lt_or_ge (v + 1) m with l | g
  · exact l
  · have e : v + 1 = m := by omega
    rw [e, Nat.mod_eq_zero_of_dvd h] at q
    exact absurd q (Nat.lt_irrefl _)
theorem dnac_ws {m c : Nat} (c1 : 1 ≤ c) (h : c ∣ m) (m16 : m ≤ 16) : WsOk m (dnL c m m ++ acL c m) := by
  have l1 := dn_len c m m
  have l2 := ac_len c m
  refine ws_up (dnac_nd c m m) (by rw [List.length_append]; omega) fun p hp => ?_
  rcases List.mem_append.mp hp with hp | hp
  · obtain ⟨h1, h2, h3⟩ := mem_dn.mp hp
    omega
  · obtain ⟨h1, h2, h3⟩ := mem_ac.mp hp
    have := mod_end h h1 h2
    omega
/-! ### all wires from some lamps to others -/
def awR (b c v : Nat) : List (Nat × Nat) := (List.range (c - b)).map fun j => (v, b + j)
def awL (a b c k : Nat) : List (Nat × Nat) := (List.range k).flatMap fun i => awR b c (a + i)
theorem awL_more (a b c k : Nat) : awL a b c (k + 1) = awL a b c k ++ awR b c (a + k) := flat_more _ k
def awP (b v m : Nat) : List (Nat × Nat) := (List.range m).map fun j => (v, b + j)
theorem awP_more (b v m : Nat) : awP b v (m + 1) = awP b v m ++ [(v, b + m)] := by
  unfold awP
  rw [List.range_succ, List.map_append]
  rfl
theorem mem_aw {a b c k : Nat} {p : Nat × Nat} : p ∈ awL a b c k ↔ a ≤ p.1 ∧ p.1 < a + k ∧ b ≤ p.2 ∧ p.2 < c := by
  unfold awL awR
  rw [List.mem_flatMap]
  constructor
  · rintro ⟨i, hi, hp⟩
    obtain ⟨j, hj, rfl⟩ := List.mem_map.mp hp
    have h1 := List.mem_range.mp hi
    have h2 := List.mem_range.mp hj
    show a ≤ a + i ∧ a + i < a + k ∧ b ≤ b + j ∧ b + j < c
    omega
  · rintro ⟨h1, h2, h3, h4⟩
    refine ⟨p.1 - a, List.mem_range.mpr (by omega), List.mem_map.mpr ⟨p.2 - b, List.mem_range.mpr (by omega), ?_⟩⟩
    obtain ⟨x, y⟩ := p
    have h1 : a ≤ x := h1
    have h3 : b ≤ y := h3
    show (a + (x - a), b + (y - b)) = (x, y)
    rw [Prod.mk.injEq]
    omega
theorem awR_nd (b c v : Nat) : (awR b c v).Nodup := nd_map (fun x y e => by injection e with _ e; omega) List.nodup_range
theorem awL_nd (a b c : Nat) : ∀ k, (awL a b c k).Nodup
  | 0 => by simp [awL]
  | k + 1 => by
    rw [awL_more, List.nodup_append]
    refine ⟨awL_nd a b c k, awR_nd _ _ _, fun x hx y hy e => ?_⟩
    have h1 := (mem_aw.mp hx).2.1
    obtain ⟨j, _, e2⟩ := List.mem_map.mp hy
    rw [e, ← e2] at h1
    exact Nat.lt_irrefl _ h1
theorem awL_len (a b c : Nat) : ∀ k, (awL a b c k).length = k * (c - b)
  | 0 => by simp [awL]
  | k + 1 => by
    rw [awL_more, List.length_append, awL_len a b c k, Nat.succ_mul]
    unfold awR
    rw [List.length_map, List.length_range]
/-! ### floors -/
def preS (sz : List Nat) (i : Nat) : Nat := (sz.take i).sum
theorem preS_more {sz : List Nat} {i a : Nat} (h : sz[i]? = some a) : preS sz (i + 1) = preS sz i + a := by
  unfold preS
  rw [List.take_add_one, h, List.sum_append]
  simp
theorem preS_mono (sz : List Nat) {i j : Nat} (h : i ≤ j) : preS sz i ≤ preS sz j := by
  induction h with
  | refl => exact Nat.le_refl _
  | @step j _ ih =>
    refine Nat.le_trans ih ?_
    cases e : sz[j]? with
    | none =>
      have : sz.length ≤ j := List.getElem?_eq_none_iff.mp e
      unfold preS
      rw [List.take_of_length_le this, List.take_of_length_le (by omega)]
      exact Nat.le_refl _
    | some a => rw [preS_more e]; exact Nat.le_add_right _ _
theorem preS_all (sz : List Nat) (i : Nat) : preS sz i ≤ sz.sum := by
  rcases Nat.lt_or_ge i sz.length with h | h
  · have := preS_mono sz (Nat.le_of_lt h)
    have e : preS sz sz.length = sz.sum := by unfold preS; rw [List.take_length]
    omega
  · unfold preS; rw [List.take_of_length_le h]; exact Nat.le_refl _
def flF (sz : List Nat) (i : Nat) : List (Nat × Nat) := awL (preS sz i) (preS sz (i + 1)) (preS sz (i + 2)) (preS sz (i + 1) - preS sz i)
def flL (sz : List Nat) (k : Nat) : List (Nat × Nat) := (List.range k).flatMap (flF sz)
theorem flL_more (sz : List Nat) (k : Nat) : flL sz (k + 1) = flL sz k ++ flF sz k := flat_more _ k
theorem mem_flF {sz : List Nat} {i : Nat} {p : Nat × Nat} : p ∈ flF sz i ↔ preS sz i ≤ p.1 ∧ p.1 < preS sz (i + 1) ∧ preS sz (i + 1) ≤ p.2 ∧ p.2 < preS sz (i + 2) := by
  have := preS_mono sz (show i ≤ i + 1 by omega)
  unfold flF
  rw [mem_aw]
  have e : preS sz i + (preS sz (i + 1) - preS sz i) = preS sz (i + 1) := by omega
  rw [e]
theorem flL_lt {sz : List Nat} {k : Nat} {p : Nat × Nat} (h : p ∈ flL sz k) : p.1 < preS sz k ∧ p.1 < p.2 ∧ p.2 < sz.sum := by
  obtain ⟨i, hi, hp⟩ := List.mem_flatMap.mp h
  obtain ⟨h1, h2, h3, h4⟩ := mem_flF.mp hp
  have := List.mem_range.mp hi
  have := preS_mono sz (show i + 1 ≤ k by omega)
  have := preS_all sz (i + 2)
  omega
theorem flL_nd (sz : List Nat) : ∀ k, (flL sz k).Nodup
  | 0 => by simp [flL]
  | k + 1 => by
    rw [flL_more, List.nodup_append]
    refine ⟨flL_nd sz k, awL_nd _ _ _ _, fun x hx y hy e => ?_⟩
    have h1 := (flL_lt hx).1
    have h2 := (mem_flF.mp hy).1
    rw [e] at h1
    omega
theorem sq_len {n : Nat} {l : List (Nat × Nat)} (nd : l.Nodup) (h : ∀ p ∈ l, p.1 < n ∧ p.2 < n) : l.length ≤ n * n := by
  have := sub_len (m := awL 0 0 n n) nd fun p hp => mem_aw.mpr (by have := h p hp; omega)
  rw [awL_len] at this
  exact this
theorem flL_ws {sz : List Nat} (k : Nat) (s16 : sz.sum ≤ 16) : WsOk sz.sum (flL sz k) := by
  refine ws_up (flL_nd sz k) ?_ fun p hp => (flL_lt hp).2
  have l := sq_len (n := sz.sum) (flL_nd sz k) fun p hp => by have := flL_lt hp; omega
  have : sz.sum * sz.sum ≤ 16 * 16 := Nat.mul_le_mul s16 s16
  omega
/-! ### two houses -/
def shL (n : Nat) (qs : List (Nat × Nat)) : List (Nat × Nat) := qs.map fun q => (n + q.1, n + q.2)
theorem mem_sh {n : Nat} {qs : List (Nat × Nat)} {p : Nat × Nat} : p ∈ shL n qs ↔ n ≤ p.1 ∧ n ≤ p.2 ∧ (p.1 - n, p.2 - n) ∈ qs := by
  unfold shL
  rw [List.mem_map]
  constructor
  · rintro ⟨q, hq, rfl⟩
    refine ⟨Nat.le_add_right _ _, Nat.le_add_right _ _, ?_⟩
    show (n + q.1 - n, n + q.2 - n) ∈ qs
    rw [Nat.add_sub_cancel_left, Nat.add_sub_cancel_left]
    exact hq
  · rintro ⟨h1, h2, h3⟩
    refine ⟨_, h3, ?_⟩
    obtain ⟨x, y⟩ := p
    have h1 : n ≤ x := h1
    have h2 : n ≤ y := h2
    show (n + (x - n), n + (y - n)) = (x, y)
    rw [Prod.mk.injEq]
    omega
theorem sh_more {n i : Nat} {qs : List (Nat × Nat)} {q : Nat × Nat} (h : qs[i]? = some q) : shL n (qs.take (i + 1)) = shL n (qs.take i) ++ [(n + q.1, n + q.2)] := by
  unfold shL
  rw [List.take_add_one, h, List.map_append]
  rfl
theorem sh_len (n : Nat) (qs : List (Nat × Nat)) : (shL n qs).length = qs.length := by unfold shL; rw [List.length_map]
theorem sh_nd {n : Nat} {qs : List (Nat × Nat)} (nd : qs.Nodup) : (shL n qs).Nodup := nd_map (fun a b e => by
  obtain ⟨a1, a2⟩ := a
  obtain ⟨b1, b2⟩ := b
  injection e with e1 e2
  have e1 : n + a1 = n + b1 := e1
  have e2 : n + a2 = n + b2 := e2
  rw [Prod.mk.injEq]
  omega) nd
def bothL (n : Nat) (ps qs : List (Nat × Nat)) : List (Nat × Nat) := ps ++ shL n qs
/-- the greatest rank of the first lamps -/
theorem rank_top (ρ : Nat → Nat) : ∀ n, ∃ M, ∀ v, v < n → ρ v < M
  | 0 => ⟨0, fun v h => absurd h (Nat.not_lt_zero v)⟩
  | n + 1 => by
    obtain ⟨M, h⟩ := rank_top ρ n
    refine ⟨max M (ρ n + 1), fun v hv => ?_⟩
    rcases Nat.lt_or_ge v n with l | g
    · have := h v l; omega
    · have e : v = n := by omega
      rw [e]; omega
theorem both_rank {n m : Nat} {ps qs : List (Nat × Nat)} (W1 : WsOk n ps) (W2 : WsOk m qs) : ∃ ρ : Nat → Nat, (∀ p ∈ bothL n ps qs, ρ p.1 < ρ p.2) ∧ ∀ v w, v < n → n ≤ w → ρ v < ρ w := by
  obtain ⟨ρ1, h1⟩ := W1.rk
  obtain ⟨ρ2, h2⟩ := W2.rk
  obtain ⟨M, hM⟩ := rank_top ρ1 n
  refine ⟨fun v => if v < n then ρ1 v else M + ρ2 (v - n), fun p hp => ?_, fun v w hv hw => ?_⟩
  · rcases List.mem_append.mp hp with hp | hp
    · have l := W1.lt p hp
      show (if p.1 < n then ρ1 p.1 else M + ρ2 (p.1 - n)) < (if p.2 < n then ρ1 p.2 else M + ρ2 (p.2 - n))
      rw [if_pos l.1, if_pos l.2]
      exact h1 p hp
    · obtain ⟨a, b, c⟩ := mem_sh.mp hp
      have := h2 _ c
      show (if p.1 < n then ρ1 p.1 else M + ρ2 (p.1 - n)) < (if p.2 < n then ρ1 p.2 else M + ρ2 (p.2 - n))
      rw [if_neg (by omega), if_neg (by omega)]
      have t : ρ2 (p.1 - n) < ρ2 (p.2 - n) := this
      omega
  · show (if v < n then ρ1 v else M + ρ2 (v - n)) < (if w < n then ρ1 w else M + ρ2 (w - n))
    rw [if_pos hv, if_neg (by omega)]
    have := hM v hv
    omega
theorem both_lt {n m : Nat} {ps qs : List (Nat × Nat)} (W1 : WsOk n ps) (W2 : WsOk m qs) : ∀ p ∈ bothL n ps qs, p.1 < n + m ∧ p.2 < n + m := fun p hp => by
  rcases List.mem_append.mp hp with hp | hp
  · have := W1.lt p hp; omega
  · obtain ⟨a, b, c⟩ := mem_sh.mp hp
    have := W2.lt _ c
    have t : p.1 - n < m ∧ p.2 - n < m := this
    omega
theorem both_nd {n m : Nat} {ps qs : List (Nat × Nat)} (W1 : WsOk n ps) (W2 : WsOk m qs) : (bothL n ps qs).Nodup := by
  unfold bothL
  rw [List.nodup_append]
  refine ⟨W1.nd, sh_nd W2.nd, fun a ha b hb e => ?_⟩
  have h1 := (W1.lt a ha).1
  have h2 := (mem_sh.mp hb).1
  rw [e] at h1
  omega
theorem few_of {n : Nat} {l : List (Nat × Nat)} (n16 : n ≤ 16) (nd : l.Nodup) (h : ∀ p ∈ l, p.1 < n ∧ p.2 < n) : l.length < 1000 := by
  have l1 := sq_len nd h
  have : n * n ≤ 16 * 16 := Nat.mul_le_mul n16 n16
  omega
theorem both_ws {n m : Nat} {ps qs : List (Nat × Nat)} (W1 : WsOk n ps) (W2 : WsOk m qs) (nm : n + m ≤ 16) : WsOk (n + m) (bothL n ps qs) := by
  obtain ⟨ρ, h, _⟩ := both_rank W1 W2
  exact ⟨both_nd W1 W2, few_of nm (both_nd W1 W2) (both_lt W1 W2), ⟨ρ, h⟩, both_lt W1 W2⟩
def overL (n m : Nat) (ps qs : List (Nat × Nat)) : List (Nat × Nat) := bothL n ps qs ++ awL 0 n (n + m) n
theorem over_ws {n m : Nat} {ps qs : List (Nat × Nat)} (W1 : WsOk n ps) (W2 : WsOk m qs) (nm : n + m ≤ 16) : WsOk (n + m) (overL n m ps qs) := by
  obtain ⟨ρ, h, h2⟩ := both_rank W1 W2
  have lt : ∀ p ∈ overL n m ps qs, p.1 < n + m ∧ p.2 < n + m := fun p hp => by
    rcases List.mem_append.mp hp with hp | hp
    · exact both_lt W1 W2 p hp
    · have := mem_aw.mp hp; omega
  have nd : (overL n m ps qs).Nodup := by
    unfold overL
    rw [List.nodup_append]
    refine ⟨both_nd W1 W2, awL_nd _ _ _ _, fun a ha b hb e => ?_⟩
    have h1 := mem_aw.mp hb
    rw [← e] at h1
    rcases List.mem_append.mp ha with ha | ha
    · have := W1.lt a ha; omega
    · have := mem_sh.mp ha; omega
  refine ⟨nd, few_of nm nd lt, ⟨ρ, fun p hp => ?_⟩, lt⟩
  rcases List.mem_append.mp hp with hp | hp
  · exact h p hp
  · have := mem_aw.mp hp
    exact h2 p.1 p.2 (by omega) (by omega)
end
end Hue

end
section
set_option maxRecDepth 100000
set_option maxHeartbeats 4000000
namespace Hue
open PySem PySem.Spec PyProof.Rows L2
section
variable {P : Program} {w : World} {K : PySem.W.Frag} {mg : Str → Option Value} {base : Heap} {C CL : Addr}
/-- a house of the wires ps comes back -/
def Gives (C : Addr) (H : Hp) (Q : VK) (n h : Nat) (ps : List (Nat × Nat)) : Prop := ∀ (x : Addr) (H' : Hp), Same H H' → HsOk C H' x n h ps → Q (.ref x) H'
theorem PL.make {H0 H : Hp} {D : Addr} {n h : Nat} {ps : List (Nat × Nat)} (l : PL H0 H D ps) (n1 : 1 ≤ n) (n16 : n ≤ 16) (h2 : 2 ≤ h) (h10 : h ≤ 10) (W : WsOk n ps) {Q : VK} {E : XK} {H00 : Hp} (s0 : Same H00 H0) (g : Gives C H00 Q n h ps) {x dx : Addr} (nx : H x = none) (ndx : H dx = none) (ne : dx ≠ x) :
    spInit K C (.ref x :: [.int (n : Nat), .int (h : Nat), .ref D]) (L2.upd (L2.upd H dx (.own x)) x (.ins C dx [])) (fun v H2 => v = .non ∧ Q (.ref x) H2) E := by
  obtain ⟨ts, a, b, c⟩ := l
  exact made_house n1 n16 h2 h10 (.inl a) b W nx ndx ne fun H' s hs => ⟨rfl, g x H' ((s0.trans c).trans s) hs⟩
/-- .. and it stands without what is at a -/
def GivesO (C a : Addr) (H : Hp) (Q : VK) (n h : Nat) (ps : List (Nat × Nat)) : Prop := ∀ (x : Addr) (H' H0 : Hp), Same H H' → H0 a = none → Same H0 H' → HsOk C H0 x n h ps → Q (.ref x) H'
theorem makeO {H : Hp} {a D : Addr} {n h : Nat} {xs : List V} {ts : List Addr} {ps : List (Nat × Nat)} (ha : H a = some (.lst xs)) (hD : H D = some (.lst (ts.map V.ref))) (ne : D ≠ a) (hp : Pairs H ts ps) (n1 : 1 ≤ n) (n16 : n ≤ 16) (h2 : 2 ≤ h) (h10 : h ≤ 10) (W : WsOk n ps) {Q : VK} {E : XK} {H00 : Hp} (s0 : Same H00 H) (g : GivesO C a H00 Q n h ps) {x dx : Addr} (nx : H x = none) (ndx : H dx = none) (nxd : dx ≠ x) :
    Off (spInit K C) (.ref x :: [.int (n : Nat), .int (h : Nat), .ref D]) (L2.upd (L2.upd H dx (.own x)) x (.ins C dx [])) (fun v H2 => v = .non ∧ Q (.ref x) H2) E := by
  have nxa : x ≠ a := (ne_of_none ha nx).symm
  have s12 : Same H (L2.upd (L2.upd H dx (.own x)) x (.ins C dx [])) := fun c o e => by
    rw [upd_ne (ne_of_none e nx), upd_ne (ne_of_none e ndx)]; exact e
  have hx2 : (L2.upd (L2.upd H dx (.own x)) x (.ins C dx [])) x = some (.ins C dx []) := upd_same
  generalize L2.upd (L2.upd H dx (.own x)) x (.ins C dx []) = H2 at s12 hx2 ⊢
  have pr : Pairs (hide H2 a) ts ps := ⟨hp.1, fun i t p e1 e2 => by
    have e := hp.2 i t p e1 e2
    rw [hide_ne (ne_of e ha (by intro z; cases z))]
    exact s12 _ _ e⟩
  refine ⟨a, xs, s12 _ _ ha, x, dx, D, n, h, ps, rfl, by rw [hide_ne nxa]; exact hx2, n1, n16, h2, h10, ⟨⟨ts, .inl (SqL.of (by rw [hide_ne ne]; exact s12 _ _ hD)), pr⟩, W.nd, by have := W.few; omega, W.lt, W.rk⟩, fun H3 sb3 at_ x_ nb3 => ⟨rfl, g x _ H3 (fun b o e => ?_) nb3 (same_new nb3) ⟨at_, x_⟩⟩⟩
  have e1 := s0 b o e
  by_cases z : b = a
  · rw [z, ha] at e1
    rw [z, upd_same]
    exact e1
  · rw [upd_ne z]
    exact sb3 _ _ (ne_of_none e1 nx) (by rw [hide_ne z]; exact s12 _ _ e1)
abbrev s_check_size : Stmt := top 26
theorem sc_check_size : FnScope ["size", "index"] ["size", "index"] (defScope s_check_size) := ⟨rfl, rfl, rfl, by decide +kernel, rfl, by decide +kernel, by decide +kernel⟩
-- slots of check_size: 0 size, 1 index
def spCheckSize : Sp := fun vs H Q _ => ∃ (s i : Int), vs = [.int s, .int i] ∧ 1 ≤ s ∧ Q .non H
theorem ok_check_size (T : Txt K mg C) {f : Addr} {fd : FuncData} (F : Fun K "check_size" "check_size" s_check_size f fd) (c_is_whole : Cal P w K mg base "is_whole" 1 spWholeV) : FnOk P w K mg base CX0 2 f fd ["size", "index"] spCheckSize := by
  refine F.ok sc_check_size (fun vs H Q E h => ?_) (fun cdv A outer s H vs Q E hr h => ?_)
  · obtain ⟨s, i, rfl, _⟩ := h; rfl
  · obtain ⟨s, i, rfl, h1, q⟩ := h
    refine ⟨_, (pss_one (ps_if (PW.pt (pw_or (pt_not (pt_val (pe_cal c_is_whole (hr.mono (by decide)) (pa_cons (pv 0) pa_nil)))) (pw_or1 (pt_cmpR op_lt (pv 0) pe_int (nomark _)))))
      pss_never pss_nil)), ?_⟩
    refine ⟨_, rfl, .int s, rfl, .int s, true, rfl, iteF ?_⟩
    refine ⟨_, rfl, _, _, rfl, rfl, _, rfl, ifF ?_ q⟩
    exact decide_eq_false (by omega)
abbrev s_check_pair : Stmt := top 27
theorem sc_check_pair : FnScope ["first", "second"] ["first", "second"] (defScope s_check_pair) := ⟨rfl, rfl, rfl, by decide +kernel, rfl, by decide +kernel, by decide +kernel⟩
-- slots of check_pair: 0 first, 1 second
def spCheckPair (C : Addr) : Sp := fun vs H Q _ => ∃ (x y : Addr) (n m h : Nat) (ps qs : List (Nat × Nat)), vs = [.ref x, .ref y] ∧ HsOk C H x n h ps ∧ HsOk C H y m h qs ∧ 1 ≤ n ∧ n + m ≤ 16 ∧ Q .non H
theorem ok_check_pair (T : Txt K mg C) {f : Addr} {fd : FuncData} (F : Fun K "check_pair" "check_pair" s_check_pair f fd) (c_check_count : Cal P w K mg base "check_count" 3 spCheckCount) : FnOk P w K mg base CX0 4 f fd ["first", "second"] (spCheckPair C) := by
  refine F.ok sc_check_pair (fun vs H Q E h => ?_) (fun cdv A outer s H vs Q E hr h => ?_)
  · obtain ⟨x, y, n, m, h, ps, qs, rfl, _⟩ := h; rfl
  · obtain ⟨x, y, n, m, h, ps, qs, rfl, hx, hy, n1, nm, q⟩ := h
    obtain ⟨dx, fs, be, o, g1, g2, g3, _⟩ := id hx.at_
    obtain ⟨ex, es, be2, o2, e1, e2, e3, _⟩ := id hy.at_
    refine ⟨_, (pss_cons (ps_expr (pe_cal c_check_count (hr.mono (by decide)) (pa_cons (pe_op op_add (fld_ K (pv 0)) (fld_ K (pv 1))) pa_nil)))
      (pss_one (ps_if (pt_cmpR op_ne (fld_ K (pv 0)) (fld_ K (pv 1)) (nomark _))
      pss_never pss_nil))), ?_⟩
    refine ⟨_, rfl, x, C, dx, _, _, rfl, g1, T.cl, T.nCount, g2, _, rfl, y, C, ex, _, _, rfl, e1, T.cl, T.nCount, e2, _, _, rfl, rfl, _, rfl, by omega, by omega, ?_⟩
    refine ⟨_, rfl, x, C, dx, _, _, rfl, g1, T.cl, T.nHues, g3, _, rfl, y, C, ex, _, _, rfl, e1, T.cl, T.nHues, e3, rfl, _, rfl, ifF ?_ q⟩
    show (!decide (V.int (h : Int) = V.int (h : Int))) = false
    rw [decide_eq_true rfl]
    rfl
abbrev s_all_wires : Stmt := top 29
theorem sc_all_wires : FnScope ["start", "middle", "end", "upper", "lower"] ["start", "middle", "end"] (defScope s_all_wires) := ⟨rfl, rfl, rfl, by decide +kernel, rfl, by decide +kernel, by decide +kernel⟩
-- slots of all_wires: 0 start, 1 middle, 2 end, 3 upper, 4 lower
def spAllWires : Sp := fun vs H Q _ => ∃ (a b c : Nat), vs = [.int a, .int b, .int c] ∧ a ≤ 1000 ∧ b ≤ 1000 ∧ c ≤ 1000 ∧ (b - a) * (c - b) < 1000 ∧ ∀ (D : Addr) (H' : Hp), H D = none → PL H H' D (awL a b c (b - a)) → Q (.ref D) H'
theorem ok_all_wires (T : Txt K mg C) {f : Addr} {fd : FuncData} (F : Fun K "all_wires" "all_wires" s_all_wires f fd) : FnOk P w K mg base CX0 1 f fd ["start", "middle", "end"] spAllWires := by
  refine F.ok sc_all_wires (fun vs H Q E h => ?_) (fun cdv A outer s H vs Q E hr h => ?_)
  · obtain ⟨a, b, c, rfl, _⟩ := h; rfl
  · obtain ⟨a, b, c, rfl, ha, hb, hc, few, q⟩ := h
    refine ⟨_, (pss_one (ps_ret (pe_lc2 (own := [("upper", 3), ("lower", 4)]) (vs1 := [4]) (g := gName 3) (tt := tYes) (g1 := gName 4) (tt1 := tYes) rfl sc_all_wires.nd (pi_range2 (by rfl) T.range (pa_cons (pv 0) (pa_cons (pv 1) pa_nil))) (blkOk_by (by kernel_rfl)) (by decide) (fun _ _ _ _ _ => (pg_name (i := 3) sc_all_wires.nd rfl (by first | exact Or.inl rfl | exact Or.inr rfl))) (fun _ _ _ _ _ => pts_nil) (fun _ _ _ _ _ => (pi_range2 (by rfl) T.range (pa_cons (pv 1) (pa_cons (pv 2) pa_nil)))) (fun _ _ _ _ _ => (pg_name (i := 4) sc_all_wires.nd rfl (by first | exact Or.inl rfl | exact Or.inr rfl))) (fun _ _ _ _ _ => pts_nil) (fun _ _ _ _ _ => (pe_tup (pa_cons (pv 3) (pa_cons (pv 4) pa_nil))))))), ?_⟩
    refine ⟨_, rfl, _, rfl, _, _, rfl, ⟨by omega, by omega, by omega, by omega⟩, fun D hD => ?_⟩
    rw [show ((b : Int) - (a : Int)).toNat = b - a by omega]
    refine lc2_range (fun i H2 => PL H H2 D (awL a b c i)) (PL.nil hD) ?_ ?_
    · intro i H2 hi l2
      refine ⟨rfl, yesT ⟨_, rfl, _, rfl, _, _, rfl, ⟨by omega, by omega, by omega, by omega⟩, ?_⟩⟩
      rw [show ((c : Int) - (b : Int)).toNat = c - b by omega]
      refine lci_range (fun j H3 => PL H H3 D (awL a b c i ++ awP b (a + i) j)) ?_ ?_ ?_
      · rw [show awP b (a + i) 0 = [] from rfl, List.append_nil]; exact l2
      · intro j H3 hj l3
        refine ⟨rfl, yesT ⟨_, rfl, _, rfl, by show 2 ≤ sizeLine; decide, fun t nt => ?_⟩⟩
        rw [awP_more, ← List.append_assoc]
        refine l3.one hD (Same.refl _) nt ?_ ?_ ?_
        · show (a : Int) + (i : Int) = ((a + i : Nat) : Int); omega
        · show (b : Int) + (j : Int) = ((b + j : Nat) : Int); omega
        · have h1 := awL_len a b c i
          have h2 : (awP b (a + i) j).length = j := by unfold awP; rw [List.length_map, List.length_range]
          have h3 : i * (c - b) ≤ (b - a) * (c - b) := Nat.mul_le_mul_right _ (Nat.le_of_lt hi)
          rw [List.length_append]
          omega
      · intro H3 l3
        show PL H H3 D (awL a b c (i + 1))
        rw [awL_more]
        exact l3
    · intro H2 l2
      exact q D H2 hD l2
abbrev s_chain : Stmt := top 20
theorem sc_chain : FnScope ["count", "hues", "lamp"] ["count", "hues"] (defScope s_chain) := ⟨rfl, rfl, rfl, by decide +kernel, rfl, by decide +kernel, by decide +kernel⟩
-- slots of chain: 0 count, 1 hues, 2 lamp
def spChain (C : Addr) : Sp := fun vs H Q _ => ∃ (n h : Nat), vs = [.int n, .int h] ∧ 1 ≤ n ∧ n ≤ 16 ∧ 2 ≤ h ∧ h ≤ 10 ∧ Gives C H Q n h (chL (n - 1))
theorem ok_chain (T : Txt K mg C) {f : Addr} {fd : FuncData} (F : Fun K "chain" "chain" s_chain f fd) (c_check_count : Cal P w K mg base "check_count" 3 spCheckCount) (c_House : NCal P w K mg base C "House" 5 (spInit K C)) : FnOk P w K mg base CX0 7 f fd ["count", "hues"] (spChain C) := by
  refine F.ok sc_chain (fun vs H Q E h => ?_) (fun cdv A outer s H vs Q E hr h => ?_)
  · obtain ⟨n, h, rfl, _⟩ := h; rfl
  · obtain ⟨n, h, rfl, n1, n16, h2, h10, q⟩ := h
    refine ⟨_, (pss_cons (ps_expr (pe_cal c_check_count (hr.mono (by decide)) (pa_cons (pv 0) pa_nil)))
      (pss_one (ps_ret (pe_ncal c_House (hr.mono (by decide)) (pa_cons (pv 0) (pa_cons (pv 1) (pa_cons (pe_lc (own := [("lamp", 2)]) (g := gName 2) (tt := tYes) rfl sc_chain.nd (pi_range1 (by rfl) T.range (pa_cons (pe_op op_sub (pv 0) pe_int) pa_nil)) (blkOk_by (by kernel_rfl)) (fun _ _ _ _ _ => (pg_name (i := 2) sc_chain.nd rfl (by first | exact Or.inl rfl | exact Or.inr rfl))) (fun _ _ _ _ _ => pts_nil) (fun _ _ _ _ _ => (pe_tup (pa_cons (pv 2) (pa_cons (pe_op op_add (pv 2) pe_int) pa_nil))))) pa_nil))))))), ?_⟩
    refine ⟨_, rfl, _, rfl, by omega, by omega, ?_⟩
    refine ⟨_, rfl, _, rfl, _, rfl, _, _, rfl, rfl, _, rfl, by omega, by omega, fun D hD => ?_⟩
    rw [show ((n : Int) - 1).toNat = n - 1 by omega]
    refine lc_range (fun i H2 => PL H H2 D (chL i)) (PL.nil hD) ?_ ?_
    · intro i H2 hi l2
      have e0 : (0 : Int) + (i : Int) = (i : Int) := by omega
      rw [e0]
      refine ⟨rfl, yesT ⟨_, rfl, _, rfl, _, _, rfl, rfl, by show 2 ≤ sizeLine; decide, fun t nt => ?_⟩⟩
      rw [chL_more]
      exact l2.one hD (Same.refl _) nt rfl (by show (i : Int) + 1 = ((i + 1 : Nat) : Int); omega) (by rw [chL_len]; omega)
    · intro H2 l2
      exact fun x dx nx ndx ne => l2.make n1 n16 h2 h10 (chL_ws n16) (Same.refl _) q nx ndx ne
abbrev s_stairs : Stmt := top 21
theorem sc_stairs : FnScope ["parents", "hues", "lamp", "parent", "wires"] ["parents", "hues"] (defScope s_stairs) := ⟨rfl, rfl, rfl, by decide +kernel, rfl, by decide +kernel, by decide +kernel⟩
-- slots of stairs: 0 parents, 1 hues, 2 lamp, 3 parent, 4 wires
def spStairs (C : Addr) : Sp := fun vs H Q _ => ∃ (a : Addr) (pr : List (Option Nat)) (h : Nat), vs = [.ref a, .int h] ∧ H a = some (.lst (pr.map oV)) ∧ 1 ≤ pr.length ∧ pr.length ≤ 16 ∧ StairOk pr ∧ 2 ≤ h ∧ h ≤ 10 ∧ GivesO C a H Q pr.length h (stL pr pr.length)
theorem ok_stairs (T : Txt K mg C) {f : Addr} {fd : FuncData} (F : Fun K "stairs" "stairs" s_stairs f fd) (c_check_count : Cal P w K mg base "check_count" 3 spCheckCount) (c_check_hues : Cal P w K mg base "check_hues" 3 spCheckHues) (c_is_whole_in : Cal P w K mg base "is_whole_in" 2 spWholeIn) (c_HouseO : NCal P w K mg base C "House" 5 (Off (spInit K C))) : FnOk P w K mg base CX0 7 f fd ["parents", "hues"] (spStairs C) := by
  refine F.ok sc_stairs (fun vs H Q E h => ?_) (fun cdv A outer s H vs Q E hr h => ?_)
  · obtain ⟨a, pr, h, rfl, _⟩ := h; rfl
  · obtain ⟨a, pr, h, rfl, ha, n1, n16, ok, h2, h10, q⟩ := h
    have lp : (pr.map oV).length = pr.length := List.length_map _
    refine ⟨_, (pss_cons (ps_expr (pe_cal c_check_count (hr.mono (by decide)) (pa_cons (pe_callB (lenS_ K) (by rfl) T.len b_len (pa_cons (pv 0) pa_nil)) pa_nil)))
      (pss_cons (ps_expr (pe_cal c_check_hues (hr.mono (by decide)) (pa_cons (pv 1) pa_nil)))
      (pss_cons (ps_for PassesOwn.never rfl (pi_enum (by rfl) T.enumerate (pa_cons (pv 0) pa_nil)) (pg_tup (by rfl) (pgs_cons (pg_name (i := 2) sc_stairs.nd rfl (by first | exact Or.inl rfl | exact Or.inr rfl)) (pgs_cons (pg_name (i := 3) sc_stairs.nd rfl (by first | exact Or.inl rfl | exact Or.inr rfl)) pgs_nil)))
      (pss_one (ps_if (PW.pt (pw_and (pt_cmpR op_notN (pv 3) pe_non (nomark _)) (pw_and1 (pt_not (pt_val (pe_cal c_is_whole_in (hr.mono (by decide)) (pa_cons (pv 3) (pa_cons pe_int (pa_cons (pe_op op_sub (pv 2) pe_int) pa_nil)))))))))
      pss_never pss_nil)))
      (pss_cons (ps_setLc (i := 4) (own := [("lamp", 2), ("parent", 3)]) (g := gTup K 2 (gCons (gName 2) (gCons (gName 3) gNil))) rfl sc_stairs.nd rfl rfl (sw_true rfl rfl rfl (by kernel_rfl)) (pi_enum (by rfl) T.enumerate (pa_cons (pv 0) pa_nil)) (blkOk_by (by kernel_rfl)) (fun _ _ _ _ _ => (pg_tup (by rfl) (pgs_cons (pg_name (i := 2) sc_stairs.nd rfl (by first | exact Or.inl rfl | exact Or.inr rfl)) (pgs_cons (pg_name (i := 3) sc_stairs.nd rfl (by first | exact Or.inl rfl | exact Or.inr rfl)) pgs_nil)))) (fun _ _ _ _ _ => (pts_one (pt_cmpR op_notN (pv 3) pe_non (nomark _)))) (fun _ _ _ _ _ => (pe_tup (pa_cons (pv 3) (pa_cons (pv 2) pa_nil)))))
      (pss_one (ps_ret (pe_ncal c_HouseO (hr.mono (by decide)) (pa_cons (pe_callB (lenS_ K) (by rfl) T.len b_len (pa_cons (pv 0) pa_nil)) (pa_cons (pv 1) (pa_cons (pv 4) pa_nil)))))))))), ?_⟩
    refine ⟨_, rfl, a, _, rfl, .inl (SqL.of ha), ?_⟩
    rw [lp]
    refine ⟨_, rfl, by omega, by omega, ?_⟩
    refine ⟨_, rfl, _, rfl, by omega, by omega, ?_⟩
    refine ⟨_, rfl, a, pr.map oV, rfl, SqL.of ha, for_it walk_enum (fun i σ H2 => ∃ v2 v3 : Option V, σ = [some (.ref a), some (.int h), v2, v3, none] ∧ Same H H2) ⟨_, _, rfl, Same.refl _⟩ (fun i σ H2 _ ⟨_, _, _, s⟩ => SqL.of (s _ _ ha)) ?_ ?_⟩
    · rintro i x σ H2 H3 hi ⟨v2, v3, rfl, s2⟩ ⟨t, x1, y, rfl, ht, rfl, e1, e2⟩
      cases e1
      have e2 : (pr.map oV)[i]? = some y := e2
      rw [List.getElem?_map] at e2
      obtain ⟨o, ho, rfl⟩ := Option.map_eq_some_iff.mp e2
      have s3 : Same H2 (upd H2 t (.tup [.int (i : Int), oV o])) := same_new ht
      have htt : (upd H2 t (.tup [.int (i : Int), oV o])) t = some (.tup [.int (i : Int), oV o]) := upd_same
      generalize upd H2 t (.tup [.int (i : Int), oV o]) = H3 at s3 htt ⊢
      refine ⟨t, _, rfl, SqT.of htt, rfl, _, _, rfl, _, _, rfl, rfl, ?_⟩
      refine ⟨_, rfl, rfl, _, rfl, ?_⟩
      cases o with
      | none => exact iteF ⟨_, _, rfl, s2.trans s3⟩
      | some j =>
        have ji := ok i j ho
        refine iteT ⟨_, rfl, _, rfl, _, _, rfl, rfl, j, 0, (i : Int) - 1, rfl, _, rfl, ?_⟩
        rw [decide_eq_true (by omega : (0 : Int) ≤ (j : Int)), decide_eq_true (by omega : (j : Int) ≤ (i : Int) - 1)]
        exact iteF ⟨_, _, rfl, s2.trans s3⟩
    rintro σ H2 ⟨v2, v3, rfl, s2⟩
    refine ⟨_, rfl, a, pr.map oV, rfl, SqL.of (s2 _ _ ha), fun D hD => lc_it walk_enum (fun i H3 => PL H2 H3 D (stL pr i)) (PL.nil hD) (fun i H3 _ ⟨_, _, _, s⟩ => SqL.of (s _ _ (s2 _ _ ha))) ?_ ?_⟩
    · rintro i x H3 H4 hi l3 ⟨t, x1, y, rfl, ht, rfl, e1, e2⟩
      cases e1
      have e2 : (pr.map oV)[i]? = some y := e2
      rw [List.getElem?_map] at e2
      obtain ⟨o, ho, rfl⟩ := Option.map_eq_some_iff.mp e2
      have s3 : Same H3 (upd H3 t (.tup [.int (i : Int), oV o])) := same_new ht
      have htt : (upd H3 t (.tup [.int (i : Int), oV o])) t = some (.tup [.int (i : Int), oV o]) := upd_same
      generalize upd H3 t (.tup [.int (i : Int), oV o]) = H4 at s3 htt ⊢
      have il : i < pr.length := by rw [← lp]; exact hi
      have sl := stL_len pr i
      rw [stL_more]
      refine ⟨t, _, rfl, SqT.of htt, rfl, _, _, rfl, _, _, rfl, rfl, rfl, ?_⟩
      refine ⟨_, rfl, rfl, _, rfl, ?_⟩
      cases o with
      | none =>
        refine iteF ?_
        have e : stF pr i = [] := by unfold stF; rw [ho]
        rw [e, List.append_nil]
        exact l3.same s3
      | some j =>
        have e : stF pr i = [(j, i)] := by unfold stF; rw [ho]
        rw [e]
        refine iteT ⟨_, rfl, _, rfl, by show 2 ≤ sizeLine; decide, fun t2 nt2 => ?_⟩
        exact (l3.same s3).one hD (Same.refl _) nt2 rfl rfl (by omega)
    intro H3 l3
    rw [lp] at l3
    obtain ⟨ts, hd, hp, s3⟩ := l3
    have s03 : Same H H3 := s2.trans s3
    have aD : D ≠ a := (ne_of_none (s2 _ _ ha) hD).symm
    refine ⟨_, rfl, a, _, rfl, .inl (SqL.of (s03 _ _ ha)), ?_⟩
    rw [lp]
    exact ⟨_, rfl, _, rfl, fun x dx nx ndx ne => makeO (s03 _ _ ha) hd aD hp n1 n16 h2 h10 (stL_ws n16 ok) s03 q nx ndx ne⟩
abbrev s_hillside : Stmt := top 22
theorem sc_hillside : FnScope ["rows", "columns", "hues", "lamps", "down", "lamp", "across"] ["rows", "columns", "hues"] (defScope s_hillside) := ⟨rfl, rfl, rfl, by decide +kernel, rfl, by decide +kernel, by decide +kernel⟩
-- slots of hillside: 0 rows, 1 columns, 2 hues, 3 lamps, 4 down, 5 lamp, 6 across
def spHillside (C : Addr) : Sp := fun vs H Q _ => ∃ (r c h : Nat), vs = [.int r, .int c, .int h] ∧ 1 ≤ r ∧ 1 ≤ c ∧ r * c ≤ 16 ∧ 2 ≤ h ∧ h ≤ 10 ∧ Gives C H Q (r * c) h (dnL c (r * c) (r * c) ++ acL c (r * c))
theorem ok_hillside (T : Txt K mg C) {f : Addr} {fd : FuncData} (F : Fun K "hillside" "hillside" s_hillside f fd) (c_check_size : Cal P w K mg base "check_size" 2 spCheckSize) (c_check_count : Cal P w K mg base "check_count" 3 spCheckCount) (c_House : NCal P w K mg base C "House" 5 (spInit K C)) : FnOk P w K mg base CX0 7 f fd ["rows", "columns", "hues"] (spHillside C) := by
  refine F.ok sc_hillside (fun vs H Q E h => ?_) (fun cdv A outer s H vs Q E hr h => ?_)
  · obtain ⟨r, c, h, rfl, _⟩ := h; rfl
  · obtain ⟨r, c, h, rfl, r1, c1, rc, h2, h10, q⟩ := h
    have r16 : r ≤ 16 := Nat.le_trans (Nat.le_mul_of_pos_right r c1) rc
    have c16 : c ≤ 16 := Nat.le_trans (Nat.le_mul_of_pos_left c r1) rc
    have m1 : 1 ≤ r * c := Nat.mul_pos r1 c1
    have ec : (r : Int) * (c : Int) = ((r * c : Nat) : Int) := (Int.natCast_mul r c).symm
    have dv : c ∣ r * c := Nat.dvd_mul_left c r
    refine ⟨_, (pss_cons (ps_expr (pe_cal c_check_size (hr.mono (by decide)) (pa_cons (pv 0) (pa_cons pe_int pa_nil))))
      (pss_cons (ps_expr (pe_cal c_check_size (hr.mono (by decide)) (pa_cons (pv 1) (pa_cons pe_int pa_nil))))
      (pss_cons (ps_expr (pe_cal c_check_count (hr.mono (by decide)) (pa_cons (pe_op op_mul (pv 0) (pv 1)) pa_nil)))
      (pss_cons (ps_set (i := 3) sc_hillside.nd rfl (by first | exact Or.inl rfl | exact Or.inr rfl) (pe_callTy hu_cr_range1 (by rfl) T.range b_range (pa_cons (pe_op op_mul (pv 0) (pv 1)) pa_nil)))
      (pss_cons (ps_setLc (i := 4) (own := [("lamp", 5)]) (g := gName 5) rfl sc_hillside.nd rfl rfl (sw_true rfl rfl rfl (by kernel_rfl)) (hu_pi_rng (pv 3)) (blkOk_by (by kernel_rfl)) (fun _ _ _ _ _ => (pg_name (i := 5) sc_hillside.nd rfl (by first | exact Or.inl rfl | exact Or.inr rfl))) (fun _ _ _ _ _ => (pts_one (pt_cmpR op_lt (pe_op op_add (pv 5) (pv 1)) (pe_op op_mul (pv 0) (pv 1)) (nomark _)))) (fun _ _ _ _ _ => (pe_tup (pa_cons (pv 5) (pa_cons (pe_op op_add (pv 5) (pv 1)) pa_nil)))))
      (pss_cons (ps_setLc (i := 6) (own := [("lamp", 5)]) (g := gName 5) rfl sc_hillside.nd rfl rfl (sw_true rfl rfl rfl (by kernel_rfl)) (hu_pi_rng (pv 3)) (blkOk_by (by kernel_rfl)) (fun _ _ _ _ _ => (pg_name (i := 5) sc_hillside.nd rfl (by first | exact Or.inl rfl | exact Or.inr rfl))) (fun _ _ _ _ _ => (pts_one (pt_cmpR op_gt (pe_op op_mod (pe_op op_add (pv 5) pe_int) (pv 1)) pe_int (nomark _)))) (fun _ _ _ _ _ => (pe_tup (pa_cons (pv 5) (pa_cons (pe_op op_add (pv 5) pe_int) pa_nil)))))
      (pss_one (ps_ret (pe_ncal c_House (hr.mono (by decide)) (pa_cons (pe_op op_mul (pv 0) (pv 1)) (pa_cons (pv 2) (pa_cons (pe_op op_cat (pv 4) (pv 6)) pa_nil)))))))))))), ?_⟩
    refine ⟨_, rfl, _, _, rfl, by omega, ?_⟩
    refine ⟨_, rfl, _, _, rfl, by omega, ?_⟩
    refine ⟨_, rfl, _, rfl, _, _, rfl, rfl, .inr ⟨by omega, by omega⟩, ?_⟩
    dsimp only
    rw [ec]
    generalize r * c = m at *
    refine ⟨_, rfl, by omega, by omega, ?_⟩
    refine ⟨_, rfl, _, rfl, _, _, rfl, rfl, .inr ⟨by omega, by omega⟩, ?_⟩
    dsimp only
    rw [ec]
    refine ⟨_, rfl, fun z nz => ?_⟩
    have s1 : Same H (upd H z (.rng 0 (m : Int))) := same_new nz
    have hz : (upd H z (.rng 0 (m : Int))) z = some (.rng 0 (m : Int)) := upd_same
    generalize upd H z (.rng 0 (m : Int)) = H1 at s1 hz ⊢
    refine ⟨_, rfl, z, 0, m, rfl, hz, ⟨by omega, by omega, by omega, by omega⟩, fun D hD => ?_⟩
    rw [show ((m : Int) - 0).toNat = m by omega]
    refine lc_range (fun i H2 => PL H1 H2 D (dnL c m i)) (PL.nil hD) ?_ ?_
    · intro i H2 hi l2
      have e0 : (0 : Int) + (i : Int) = (i : Int) := by omega
      rw [e0]
      have few := dn_len c m i
      refine ⟨rfl, _, rfl, _, rfl, _, _, rfl, rfl, _, rfl, _, rfl, _, _, rfl, rfl, .inr ⟨by omega, by omega⟩, ?_⟩
      dsimp only
      rw [ec]
      refine ⟨_, _, rfl, rfl, _, rfl, ?_⟩
      have ed : decide ((i : Int) + (c : Int) < (m : Int)) = decide (i + c < m) := decide_eq_decide.mpr (by omega)
      rw [ed, dnL_more]
      refine ite2 (fun hy => ?_) (fun hn => ?_)
      · rw [if_pos hy]
        refine ⟨_, rfl, _, rfl, _, rfl, _, _, rfl, rfl, by show 2 ≤ sizeLine; decide, fun t nt => ?_⟩
        exact l2.one hD (Same.refl _) nt rfl (by show (i : Int) + (c : Int) = ((i + c : Nat) : Int); omega) (by omega)
      · rw [if_neg hn, List.append_nil]
        exact l2
    intro H2 l2
    have s2 : Same H1 H2 := let ⟨_, _, _, s⟩ := l2; s
    refine ⟨_, rfl, z, 0, m, rfl, s2 _ _ hz, ⟨by omega, by omega, by omega, by omega⟩, fun D2 hD2 => ?_⟩
    rw [show ((m : Int) - 0).toNat = m by omega]
    refine lc_range (fun i H3 => PL H2 H3 D2 (acL c i)) (PL.nil hD2) ?_ ?_
    · intro i H3 hi l3
      have e0 : (0 : Int) + (i : Int) = (i : Int) := by omega
      rw [e0]
      have few := ac_len c i
      refine ⟨rfl, _, rfl, _, _, rfl, rfl, _, rfl, _, _, rfl, rfl, (by show (0 : Int) < (c : Int); omega), _, _, rfl, rfl, _, rfl, ?_⟩
      have ed : decide (((i : Int) + 1) % (c : Int) > 0) = decide (0 < (i + 1) % c) := decide_eq_decide.mpr (by
        have e : ((i : Int) + 1) % (c : Int) = (((i + 1) % c : Nat) : Int) := by rw [Int.natCast_emod]; rfl
        rw [e]; omega)
      rw [ed, acL_more]
      refine ite2 (fun hy => ?_) (fun hn => ?_)
      · rw [if_pos hy]
        refine ⟨_, rfl, _, rfl, _, _, rfl, rfl, by show 2 ≤ sizeLine; decide, fun t nt => ?_⟩
        exact l3.one hD2 (Same.refl _) nt rfl (by show (i : Int) + 1 = ((i + 1 : Nat) : Int); omega) (by omega)
      · rw [if_neg hn, List.append_nil]
        exact l3
    intro H3 l3
    obtain ⟨ts, hd, hp, _⟩ := id l2
    obtain ⟨ts2, hd2, hp2, s3⟩ := id l3
    have l1 := dn_len c m m
    have l4 := ac_len c m
    refine ⟨_, rfl, _, rfl, _, _, rfl, rfl, .inr ⟨by omega, by omega⟩, ?_⟩
    dsimp only
    rw [ec]
    refine ⟨_, rfl, _, rfl, _, rfl, D, D2, _, _, rfl, rfl, s3 _ _ hd, hd2, by rw [List.length_map, List.length_map, hp.1, hp2.1, sizeLine_eq]; omega, fun z2 nz2 => ?_⟩
    rw [← List.map_append]
    have s4 : Same H3 (upd H3 z2 (.lst ((ts ++ ts2).map V.ref))) := same_new nz2
    exact fun x dx nx ndx ne => made_house m1 rc h2 h10 (.inl upd_same) (((hp.same s3).app hp2).same s4) (dnac_ws c1 dv rc) nx ndx ne fun H' s hs => ⟨rfl, q x H' ((((s1.trans s2).trans s3).trans s4).trans s) hs⟩
end
end Hue

end
section
set_option maxRecDepth 100000
set_option maxHeartbeats 4000000
namespace Hue
open PySem PySem.Spec PyProof.Rows L2
section
variable {P : Program} {w : World} {K : PySem.W.Frag} {mg : Str → Option Value} {base : Heap} {C CL : Addr}
theorem nI_sum (l : List Nat) : (nI l).sum = ((l.sum : Nat) : Int) := by
  unfold nI
  induction l with
  | nil => rfl
  | cons a l ih => rw [List.map_cons, List.sum_cons, ih, List.sum_cons]; omega
theorem nL_tail (l : List Nat) : cutV (nL l) (some 1) none = nL (l.drop 1) := by
  unfold cutV
  rw [HT.sIx_none, show (1 : Int) = ((1 : Nat) : Int) from rfl, HT.sIx_nat]
  rcases Nat.eq_zero_or_pos l.length with z | z
  · have e : l = [] := List.eq_nil_of_length_eq_zero z
    rw [e]; rfl
  · rw [nL_len, Nat.min_eq_left (by omega), List.take_of_length_le (by rw [List.length_drop, nL_len]; omega), nL_drop]
/-- the sizes of floors -/
structure SzOk (sz : List Nat) : Prop where
  ne : 1 ≤ sz.length
  few : sz.length ≤ 1000
  pos : ∀ a ∈ sz, 1 ≤ a
  sum : sz.sum ≤ 16
theorem SzOk.sum1 {sz : List Nat} (o : SzOk sz) : 1 ≤ sz.sum := by
  obtain ⟨h1, _, h2, _⟩ := o
  match sz, h1 with
  | a :: l, _ =>
    have := h2 a List.mem_cons_self
    rw [List.sum_cons]
    omega
abbrev s_floors : Stmt := top 23
theorem sc_floors : FnScope ["sizes", "hues", "index", "size", "wires", "start", "upper_size", "lower_size", "middle"] ["sizes", "hues"] (defScope s_floors) := ⟨rfl, rfl, rfl, by decide +kernel, rfl, by decide +kernel, by decide +kernel⟩
-- slots of floors: 0 sizes, 1 hues, 2 index, 3 size, 4 wires, 5 start, 6 upper_size, 7 lower_size, 8 middle
def spFloors (C : Addr) : Sp := fun vs H Q _ => ∃ (a : Addr) (sz : List Nat) (h : Nat), vs = [.ref a, .int h] ∧ H a = some (.lst (nL sz)) ∧ SzOk sz ∧ 2 ≤ h ∧ h ≤ 10 ∧ GivesO C a H Q sz.sum h (flL sz (sz.length - 1))
theorem ok_floors (T : Txt K mg C) {f : Addr} {fd : FuncData} (F : Fun K "floors" "floors" s_floors f fd) (c_check_size : Cal P w K mg base "check_size" 2 spCheckSize) (c_check_count : Cal P w K mg base "check_count" 3 spCheckCount) (c_all_wires : Cal P w K mg base "all_wires" 1 spAllWires) (c_HouseO : NCal P w K mg base C "House" 5 (Off (spInit K C))) : FnOk P w K mg base CX0 7 f fd ["sizes", "hues"] (spFloors C) := by
  refine F.ok sc_floors (fun vs H Q E h => ?_) (fun cdv A outer s H vs Q E hr h => ?_)
  · obtain ⟨a, sz, h, rfl, _⟩ := h; rfl
  · obtain ⟨a, sz, h, rfl, ha, ok, h2, h10, q⟩ := h
    have s1 := ok.sum1
    have s16 := ok.sum
    have ne := ok.ne
    refine ⟨_, (pss_cons (ps_for PassesOwn.never rfl (pi_enum (by rfl) T.enumerate (pa_cons (pv 0) pa_nil)) (pg_tup (by rfl) (pgs_cons (pg_name (i := 2) sc_floors.nd rfl (by first | exact Or.inl rfl | exact Or.inr rfl)) (pgs_cons (pg_name (i := 3) sc_floors.nd rfl (by first | exact Or.inl rfl | exact Or.inr rfl)) pgs_nil)))
      (pss_one (ps_expr (pe_cal c_check_size (hr.mono (by decide)) (pa_cons (pv 3) (pa_cons (pv 2) pa_nil))))))
      (pss_cons (ps_expr (pe_cal c_check_count (hr.mono (by decide)) (pa_cons (pe_callB (sum_ K rfl) (by rfl) T.sum b_sum (pa_cons (pv 0) pa_nil)) pa_nil)))
      (pss_cons (ps_set (i := 4) sc_floors.nd rfl (by first | exact Or.inl rfl | exact Or.inr rfl) (pe_lst pa_nil))
      (pss_cons (ps_set (i := 5) sc_floors.nd rfl (by first | exact Or.inl rfl | exact Or.inr rfl) pe_int)
      (pss_cons (ps_for PassesOwn.never rfl (pi_zip (by rfl) T.zip (pa_cons (pv 0) (pa_cons (pe_slice (slL_ K) (pv 0) (po_some pe_int) po_none) pa_nil))) (pg_tup (by rfl) (pgs_cons (pg_name (i := 6) sc_floors.nd rfl (by first | exact Or.inl rfl | exact Or.inr rfl)) (pgs_cons (pg_name (i := 7) sc_floors.nd rfl (by first | exact Or.inl rfl | exact Or.inr rfl)) pgs_nil)))
      (pss_cons (ps_set (i := 8) sc_floors.nd rfl (by first | exact Or.inl rfl | exact Or.inr rfl) (pe_op op_add (pv 5) (pv 6)))
      (pss_cons (ps_expr (pe_bm PySem.F.plainAttrs_list PySem.F.slot_list_extend PySem.F.type_list_extend mt_extend (pv 4) (pa_cons (pe_cal c_all_wires (hr.mono (by decide)) (pa_cons (pv 5) (pa_cons (pv 8) (pa_cons (pe_op op_add (pv 8) (pv 7)) pa_nil)))) pa_nil)))
      (pss_one (ps_set (i := 5) sc_floors.nd rfl (by first | exact Or.inl rfl | exact Or.inr rfl) (pv 8))))))
      (pss_one (ps_ret (pe_ncal c_HouseO (hr.mono (by decide)) (pa_cons (pe_callB (sum_ K rfl) (by rfl) T.sum b_sum (pa_cons (pv 0) pa_nil)) (pa_cons (pv 1) (pa_cons (pv 4) pa_nil))))))))))), ?_⟩
    refine ⟨_, rfl, a, nL sz, rfl, SqL.of ha, for_it walk_enum (fun i σ H2 => ∃ v2 v3 : Option V, σ = [some (.ref a), some (.int h), v2, v3, none, none, none, none, none] ∧ Same H H2) ⟨_, _, rfl, Same.refl _⟩ (fun i σ H2 _ ⟨_, _, _, s⟩ => SqL.of (s _ _ ha)) ?_ ?_⟩
    · rintro i x σ H2 H3 hi ⟨v2, v3, rfl, s2⟩ ⟨t, x1, y, rfl, ht, rfl, e1, e2⟩
      cases e1
      have e2 : (nL sz)[i]? = some y := e2
      obtain ⟨k, hk, rfl⟩ := nL_it2 e2
      have s3 : Same H2 (upd H2 t (.tup [.int (i : Int), .int (k : Int)])) := same_new ht
      have htt : (upd H2 t (.tup [.int (i : Int), .int (k : Int)])) t = some (.tup [.int (i : Int), .int (k : Int)]) := upd_same
      generalize upd H2 t (.tup [.int (i : Int), .int (k : Int)]) = H3 at s3 htt ⊢
      have k1 := ok.pos k (List.mem_of_getElem? hk)
      refine ⟨t, _, rfl, SqT.of htt, rfl, _, _, rfl, _, _, rfl, rfl, ?_⟩
      exact ⟨_, rfl, _, rfl, _, _, rfl, by omega, _, _, rfl, s2.trans s3⟩
    rintro σ H2 ⟨v2, v3, rfl, s2⟩
    have ha2 := s2 _ _ ha
    refine ⟨_, rfl, a, nI sz, rfl, SqL.of ha2, ?_⟩
    rw [nI_sum]
    refine ⟨_, rfl, by omega, by omega, ?_⟩
    refine ⟨by decide, fun D hD => ?_⟩
    have l0 : PL H2 (upd H2 D (.lst [])) D [] := PL.nil hD
    generalize upd H2 D (.lst []) = H3 at l0 ⊢
    obtain ⟨_, _, _, s3⟩ := id l0
    have aD : a ≠ D := ne_of_none ha2 hD
    refine ⟨_, rfl, _, rfl, _, rfl, a, _, rfl, SqL.of (s3 _ _ ha2), fun B hB => ?_⟩
    rw [nL_tail]
    have s4 : Same H3 (upd H3 B (.lst (nL (sz.drop 1)))) := same_new hB
    have hB4 : (upd H3 B (.lst (nL (sz.drop 1)))) B = some (.lst (nL (sz.drop 1))) := upd_same
    have l4 := l0.same s4
    have BD : B ≠ D := fun z => by
      obtain ⟨xs, hx, _⟩ := l0.len
      rw [z, hx] at hB
      cases hB
    have hB2 : H2 B = none := s3.free hB
    generalize upd H3 B (.lst (nL (sz.drop 1))) = H4 at s4 hB4 l4 ⊢
    have hn : sz.length - 1 = min (nL sz).length (nL (sz.drop 1)).length := by rw [nL_len, nL_len, List.length_drop]; omega
    refine ⟨a, B, _, _, rfl, SqL.of (s4 _ _ (s3 _ _ ha2)), SqL.of hB4, for_it (walk_zip hn) (fun i σ H5 => ∃ v6 v7 v8 : Option V, σ = [some (.ref a), some (.int h), v2, v3, some (.ref D), some (.int (preS sz i : Nat)), v6, v7, v8] ∧ PL H2 H5 D (flL sz i) ∧ H5 B = some (.lst (nL (sz.drop 1)))) ⟨_, _, _, rfl, l4, hB4⟩ (fun i σ H5 _ ⟨_, _, _, _, l5, b5⟩ => ⟨SqL.of ((let ⟨_, _, _, s⟩ := l5; s) _ _ ha2), SqL.of b5⟩) ?_ ?_⟩
    · rintro i x σ H5 H6 hi ⟨v6, v7, v8, rfl, l5, b5⟩ ⟨t, x1, y, rfl, ht, rfl, e1, e2⟩
      have e1 : (nL sz)[i]? = some x1 := e1
      have e2 : (nL (sz.drop 1))[i]? = some y := e2
      obtain ⟨u, hu, rfl⟩ := nL_it2 e1
      obtain ⟨v, hv, rfl⟩ := nL_it2 e2
      rw [List.getElem?_drop, Nat.add_comm] at hv
      have s6 : Same H5 (upd H5 t (.tup [.int (u : Int), .int (v : Int)])) := same_new ht
      have htt : (upd H5 t (.tup [.int (u : Int), .int (v : Int)])) t = some (.tup [.int (u : Int), .int (v : Int)]) := upd_same
      have l6 := l5.same s6
      have b6 := s6 _ _ b5
      generalize upd H5 t (.tup [.int (u : Int), .int (v : Int)]) = H6 at s6 htt l6 b6 ⊢
      have p1 : preS sz (i + 1) = preS sz i + u := preS_more hu
      have p2 : preS sz (i + 2) = preS sz (i + 1) + v := preS_more hv
      have a1 := preS_all sz (i + 1)
      have a2 := preS_all sz (i + 2)
      refine ⟨t, _, rfl, SqT.of htt, rfl, _, _, rfl, _, _, rfl, rfl, ?_⟩
      refine ⟨_, rfl, _, rfl, _, _, rfl, rfl, ?_⟩
      dsimp only
      rw [show ((preS sz i : Nat) : Int) + (u : Int) = ((preS sz (i + 1) : Nat) : Int) by omega]
      obtain ⟨xs6, hx6, hl6⟩ := l6.len
      refine ⟨_, rfl, .inl ⟨rfl, _, SqL.of hx6⟩, _, rfl, _, rfl, _, rfl, _, rfl, _, _, rfl, rfl, ?_⟩
      dsimp only
      rw [show ((preS sz (i + 1) : Nat) : Int) + (v : Int) = ((preS sz (i + 2) : Nat) : Int) by omega]
      refine ⟨preS sz i, preS sz (i + 1), preS sz (i + 2), rfl, by omega, by omega, by omega, ?_, fun W H7 hW lw => ?_⟩
      · have := Nat.mul_le_mul (show preS sz (i + 1) - preS sz i ≤ 16 by omega) (show preS sz (i + 2) - preS sz (i + 1) ≤ 16 by omega)
        omega
      obtain ⟨ws, hw, hpw, s7⟩ := lw
      have l7 := l6.same s7
      have b7 := s7 _ _ b6
      obtain ⟨ts, hd, hpd, s02⟩ := l7
      have f1 := (flL_ws (sz := sz) i s16).few
      have f2 : (awL (preS sz i) (preS sz (i + 1)) (preS sz (i + 2)) (preS sz (i + 1) - preS sz i)).length < 1000 := by
        rw [awL_len]
        have := Nat.mul_le_mul (show preS sz (i + 1) - preS sz i ≤ 16 by omega) (show preS sz (i + 2) - preS sz (i + 1) ≤ 16 by omega)
        omega
      refine ⟨D, W, _, _, rfl, rfl, hd, hw, by rw [List.length_map, List.length_map, hpd.1, hpw.1, sizeLine_eq]; omega, ?_⟩
      refine ⟨_, rfl, _, _, _, rfl, ?_, by rw [upd_ne BD]; exact b7⟩
      refine ⟨ts ++ ws, by rw [upd_same, List.map_append], ?_, same_upd s02 hD⟩
      rw [flL_more]
      exact (hpd.app hpw).sb hd fun c o n e => by rw [upd_ne n]; exact e
    · rintro σ H5 ⟨v6, v7, v8, rfl, l5, b5⟩
      have s5 : Same H2 H5 := let ⟨_, _, _, s⟩ := l5; s
      refine ⟨_, rfl, a, nI sz, rfl, SqL.of (s5 _ _ ha2), ?_⟩
      rw [nI_sum]
      obtain ⟨ts, hd, hp, _⟩ := l5
      exact ⟨_, rfl, _, rfl, fun x dx nx ndx ne => makeO (s5 _ _ ha2) hd aD.symm hp s1 s16 h2 h10 (flL_ws _ s16) (s2.trans s5) q nx ndx ne⟩
abbrev s_wires_of_both : Stmt := top 28
theorem sc_wires_of_both : FnScope ["first", "second", "shift", "upper", "lower"] ["first", "second"] (defScope s_wires_of_both) := ⟨rfl, rfl, rfl, by decide +kernel, rfl, by decide +kernel, by decide +kernel⟩
-- slots of wires_of_both: 0 first, 1 second, 2 shift, 3 upper, 4 lower
def spWiresOfBoth (C : Addr) : Sp := fun vs H Q _ => ∃ (x y : Addr) (n m h : Nat) (ps qs : List (Nat × Nat)), vs = [.ref x, .ref y] ∧ HsOk C H x n h ps ∧ HsOk C H y m h qs ∧ ps.length < 1000 ∧ qs.length < 1000 ∧
  ∀ (D : Addr) (H' : Hp) (ps1 qs1 : List (Nat × Nat)), ps1.Perm ps → qs1.Perm qs → H D = none → PL H H' D (bothL n ps1 qs1) → Q (.ref D) H'
theorem ok_wires_of_both (T : Txt K mg C) {f : Addr} {fd : FuncData} (F : Fun K "wires_of_both" "wires_of_both" s_wires_of_both f fd) : FnOk P w K mg base CX0 1 f fd ["first", "second"] (spWiresOfBoth C) := by
  refine F.ok sc_wires_of_both (fun vs H Q E h => ?_) (fun cdv A outer s H vs Q E hr h => ?_)
  · obtain ⟨x, y, n, m, h, ps, qs, rfl, _⟩ := h; rfl
  · obtain ⟨x, y, n, m, h, ps, qs, rfl, hx, hy, fp, fq, q⟩ := h
    obtain ⟨dx, fs, be, o, g1, g2, g3, _⟩ := id hx.at_
    obtain ⟨dx', fs', ab, di, l, us, ps1, k1, k2, k3, k4, k5, k6, k7, k8, k9, k10⟩ := id hx.x_
    obtain ⟨ey, es', ab2, di2, l2, us2, qs1, e1, e2, e3, e4, e5, e6, e7, e8, e9, e10⟩ := id hy.x_
    have lp : us.length < 1000 := by rw [k8.1, k9.1.length_eq]; exact fp
    have lq : qs1.length < 1000 := by rw [e9.1.length_eq]; exact fq
    refine ⟨_, (pss_cons (ps_set (i := 2) sc_wires_of_both.nd rfl (by first | exact Or.inl rfl | exact Or.inr rfl) (fld_ K (pv 0)))
      (pss_one (ps_ret (pe_op op_cat (pe_callTy (lstOf_ K) (by rfl) T.list b_list (pa_cons (fld_ K (pv 0)) pa_nil)) (pe_lc (own := [("upper", 3), ("lower", 4)]) (g := gTup K 2 (gCons (gName 3) (gCons (gName 4) gNil))) (tt := tYes) rfl sc_wires_of_both.nd (pit_ K (fld_ K (pv 1))) (blkOk_by (by kernel_rfl)) (fun _ _ _ _ _ => (pg_tup (by rfl) (pgs_cons (pg_name (i := 3) sc_wires_of_both.nd rfl (by first | exact Or.inl rfl | exact Or.inr rfl)) (pgs_cons (pg_name (i := 4) sc_wires_of_both.nd rfl (by first | exact Or.inl rfl | exact Or.inr rfl)) pgs_nil)))) (fun _ _ _ _ _ => pts_nil) (fun _ _ _ _ _ => (pe_tup (pa_cons (pe_op op_add (pv 3) (pv 2)) (pa_cons (pe_op op_add (pv 4) (pv 2)) pa_nil))))))))), ?_⟩
    refine ⟨_, rfl, x, C, dx, _, _, rfl, g1, T.cl, T.nCount, g2, ?_⟩
    refine ⟨_, rfl, x, C, dx', _, _, rfl, k1, T.cl, T.nWires, k6, l, _, rfl, .inr (SqT.of k7), fun A1 nA => ?_⟩
    have s1 : Same H (upd H A1 (.lst (us.map V.ref))) := same_new nA
    have hA : (upd H A1 (.lst (us.map V.ref))) A1 = some (.lst (us.map V.ref)) := upd_same
    generalize upd H A1 (.lst (us.map V.ref)) = H1 at s1 hA ⊢
    refine ⟨_, rfl, y, C, ey, _, _, rfl, s1 _ _ e1, T.cl, T.nWires, e6, l2, rfl, ⟨_, SqT.of (s1 _ _ e7)⟩, fun D hD => ?_⟩
    refine lc_tup (xs := us2.map V.ref) (fun i H2 => PL H1 H2 D (shL n (qs1.take i))) (PL.nil hD) (fun i H2 _ ⟨_, _, _, s⟩ => SqT.of (s _ _ (s1 _ _ e7))) ?_ ?_
    · intro i v H2 hv l2'
      have s2 : Same H1 H2 := let ⟨_, _, _, s⟩ := l2'; s
      obtain ⟨t, p, rfl, ht, hp, hpt⟩ := pair_at e8 hv
      have hpt2 := s2 _ _ (s1 _ _ hpt)
      refine ⟨t, _, rfl, SqT.of hpt2, rfl, _, _, rfl, _, _, rfl, rfl, rfl, yesT ?_⟩
      refine ⟨_, rfl, _, rfl, _, _, rfl, rfl, _, rfl, _, rfl, _, _, rfl, rfl, by show 2 ≤ sizeLine; decide, fun t2 nt2 => ?_⟩
      rw [sh_more hp]
      refine l2'.one hD (Same.refl _) nt2 (by show (p.1 : Int) + (n : Int) = ((n + p.1 : Nat) : Int); omega) (by show (p.2 : Int) + (n : Int) = ((n + p.2 : Nat) : Int); omega) ?_
      rw [sh_len, List.length_take]; omega
    intro H2 l2'
    rw [List.length_map, e8.1, List.take_length] at l2'
    obtain ⟨ws, hd, hpd, s2⟩ := l2'
    refine ⟨A1, D, _, _, rfl, rfl, s2 _ _ hA, hd, by rw [List.length_map, List.length_map, hpd.1, sh_len, sizeLine_eq]; omega, fun p np => ?_⟩
    rw [← List.map_append]
    have s3 : Same H2 (upd H2 p (.lst ((us ++ ws).map V.ref))) := same_new np
    have p2 := ((k8.same (s1.trans s2)).app hpd).same s3
    exact q p _ ps1 qs1 k9.1 e9.1 ((s1.trans s2).free np) ⟨us ++ ws, upd_same, p2, (s1.trans s2).trans s3⟩
theorem WsOk.perm {n : Nat} {ps qs : List (Nat × Nat)} (W : WsOk n ps) (h : qs.Perm ps) : WsOk n qs := by
  obtain ⟨ρ, hρ⟩ := W.rk
  exact ⟨h.nodup_iff.mpr W.nd, by rw [h.length_eq]; exact W.few, ⟨ρ, fun p hp => hρ p (h.mem_iff.mp hp)⟩, fun p hp => W.lt p (h.mem_iff.mp hp)⟩
abbrev s_side_by_side : Stmt := top 24
theorem sc_side_by_side : FnScope ["first", "second"] ["first", "second"] (defScope s_side_by_side) := ⟨rfl, rfl, rfl, by decide +kernel, rfl, by decide +kernel, by decide +kernel⟩
-- slots of side_by_side: 0 first, 1 second
/-- two houses are made to one -/
def spTwo (C : Addr) (f : Nat → Nat → List (Nat × Nat) → List (Nat × Nat) → List (Nat × Nat)) : Sp := fun vs H Q _ => ∃ (x y : Addr) (n m h : Nat) (ps qs : List (Nat × Nat)), vs = [.ref x, .ref y] ∧ HsOk C H x n h ps ∧ HsOk C H y m h qs ∧ WsOk n ps ∧ WsOk m qs ∧ 1 ≤ n ∧ n + m ≤ 16 ∧ 2 ≤ h ∧ h ≤ 10 ∧
  ∀ ps1 qs1, ps1.Perm ps → qs1.Perm qs → Gives C H Q (n + m) h (f n m ps1 qs1)
theorem ok_side_by_side (T : Txt K mg C) {f : Addr} {fd : FuncData} (F : Fun K "side_by_side" "side_by_side" s_side_by_side f fd) (c_check_pair : Cal P w K mg base "check_pair" 4 (spCheckPair C)) (c_wires_of_both : Cal P w K mg base "wires_of_both" 1 (spWiresOfBoth C)) (c_House : NCal P w K mg base C "House" 5 (spInit K C)) : FnOk P w K mg base CX0 7 f fd ["first", "second"] (spTwo C fun n _ => bothL n) := by
  refine F.ok sc_side_by_side (fun vs H Q E h => ?_) (fun cdv A outer s H vs Q E hr h => ?_)
  · obtain ⟨x, y, n, m, h, ps, qs, rfl, _⟩ := h; rfl
  · obtain ⟨x, y, n, m, h, ps, qs, rfl, hx, hy, W1, W2, n1, nm, h2, h10, q⟩ := h
    obtain ⟨dx, fs, be, o, g1, g2, g3, _⟩ := id hx.at_
    obtain ⟨ex, es, be2, o2, e1, e2, e3, _⟩ := id hy.at_
    refine ⟨_, (pss_cons (ps_expr (pe_cal c_check_pair (hr.mono (by decide)) (pa_cons (pv 0) (pa_cons (pv 1) pa_nil))))
      (pss_one (ps_ret (pe_ncal c_House (hr.mono (by decide)) (pa_cons (pe_op op_add (fld_ K (pv 0)) (fld_ K (pv 1))) (pa_cons (fld_ K (pv 0)) (pa_cons (pe_cal c_wires_of_both (hr.mono (by decide)) (pa_cons (pv 0) (pa_cons (pv 1) pa_nil))) pa_nil))))))), ?_⟩
    refine ⟨_, rfl, _, rfl, x, y, n, m, h, ps, qs, rfl, hx, hy, n1, nm, ?_⟩
    refine ⟨_, rfl, x, C, dx, _, _, rfl, g1, T.cl, T.nCount, g2, _, rfl, y, C, ex, _, _, rfl, e1, T.cl, T.nCount, e2, _, _, rfl, rfl, ?_⟩
    dsimp only
    rw [show (n : Int) + (m : Int) = ((n + m : Nat) : Int) by omega]
    refine ⟨_, rfl, x, C, dx, _, _, rfl, g1, T.cl, T.nHues, g3, _, rfl, _, rfl, x, y, n, m, h, ps, qs, rfl, hx, hy, W1.few, W2.few, fun D H' ps1 qs1 p1 p2 hD l => ?_⟩
    exact fun x dx nx ndx ne => l.make (by omega) nm h2 h10 (both_ws (W1.perm p1) (W2.perm p2) nm) (Same.refl _) (q ps1 qs1 p1 p2) nx ndx ne
abbrev s_stacked : Stmt := top 25
theorem sc_stacked : FnScope ["first", "second", "count", "between"] ["first", "second"] (defScope s_stacked) := ⟨rfl, rfl, rfl, by decide +kernel, rfl, by decide +kernel, by decide +kernel⟩
-- slots of stacked: 0 first, 1 second, 2 count, 3 between
theorem ok_stacked (T : Txt K mg C) {f : Addr} {fd : FuncData} (F : Fun K "stacked" "stacked" s_stacked f fd) (c_check_pair : Cal P w K mg base "check_pair" 4 (spCheckPair C)) (c_all_wires : Cal P w K mg base "all_wires" 1 spAllWires) (c_wires_of_both : Cal P w K mg base "wires_of_both" 1 (spWiresOfBoth C)) (c_House : NCal P w K mg base C "House" 5 (spInit K C)) : FnOk P w K mg base CX0 7 f fd ["first", "second"] (spTwo C overL) := by
  refine F.ok sc_stacked (fun vs H Q E h => ?_) (fun cdv A outer s H vs Q E hr h => ?_)
  · obtain ⟨x, y, n, m, h, ps, qs, rfl, _⟩ := h; rfl
  · obtain ⟨x, y, n, m, h, ps, qs, rfl, hx, hy, W1, W2, n1, nm, h2, h10, q⟩ := h
    obtain ⟨dx, fs, be, o, g1, g2, g3, _⟩ := id hx.at_
    obtain ⟨ex, es, be2, o2, e1, e2, e3, _⟩ := id hy.at_
    refine ⟨_, (pss_cons (ps_expr (pe_cal c_check_pair (hr.mono (by decide)) (pa_cons (pv 0) (pa_cons (pv 1) pa_nil))))
      (pss_cons (ps_set (i := 2) sc_stacked.nd rfl (by first | exact Or.inl rfl | exact Or.inr rfl) (pe_op op_add (fld_ K (pv 0)) (fld_ K (pv 1))))
      (pss_cons (ps_set (i := 3) sc_stacked.nd rfl (by first | exact Or.inl rfl | exact Or.inr rfl) (pe_cal c_all_wires (hr.mono (by decide)) (pa_cons pe_int (pa_cons (fld_ K (pv 0)) (pa_cons (pv 2) pa_nil)))))
      (pss_one (ps_ret (pe_ncal c_House (hr.mono (by decide)) (pa_cons (pv 2) (pa_cons (fld_ K (pv 0)) (pa_cons (pe_op op_cat (pe_cal c_wires_of_both (hr.mono (by decide)) (pa_cons (pv 0) (pa_cons (pv 1) pa_nil))) (pv 3)) pa_nil))))))))), ?_⟩
    refine ⟨_, rfl, _, rfl, x, y, n, m, h, ps, qs, rfl, hx, hy, n1, nm, ?_⟩
    refine ⟨_, rfl, x, C, dx, _, _, rfl, g1, T.cl, T.nCount, g2, _, rfl, y, C, ex, _, _, rfl, e1, T.cl, T.nCount, e2, _, _, rfl, rfl, ?_⟩
    dsimp only
    rw [show (n : Int) + (m : Int) = ((n + m : Nat) : Int) by omega]
    refine ⟨_, rfl, x, C, dx, _, _, rfl, g1, T.cl, T.nCount, g2, _, rfl, 0, n, n + m, rfl, by omega, by omega, by omega, ?_, fun B H1 hB lB => ?_⟩
    · have := Nat.mul_le_mul (show n - 0 ≤ 16 by omega) (show n + m - n ≤ 16 by omega)
      omega
    obtain ⟨bs, hb, hpb, s1⟩ := lB
    refine ⟨_, rfl, _, rfl, x, C, dx, _, _, rfl, s1 _ _ g1, T.cl, T.nHues, g3, _, rfl, _, rfl, x, y, n, m, h, ps, qs, rfl, hx.same s1, hy.same s1, W1.few, W2.few, fun D H2 ps1 qs1 p1 p2 hD l => ?_⟩
    obtain ⟨ts, hd, hpd, s2⟩ := l
    have W := over_ws (W1.perm p1) (W2.perm p2) nm
    have few := W.few
    have el : (overL n m ps1 qs1).length = (bothL n ps1 qs1).length + (awL 0 n (n + m) n).length := List.length_append
    refine ⟨_, rfl, D, B, _, _, rfl, rfl, hd, s2 _ _ hb, by rw [List.length_map, List.length_map, hpd.1, hpb.1, sizeLine_eq, Nat.sub_zero]; omega, fun p np => ?_⟩
    rw [← List.map_append]
    have s3 : Same H2 (upd H2 p (.lst ((ts ++ bs).map V.ref))) := same_new np
    have pr : Pairs (upd H2 p (.lst ((ts ++ bs).map V.ref))) (ts ++ bs) (overL n m ps1 qs1) := (hpd.app (hpb.same s2)).same s3
    exact fun x dx nx ndx ne => made_house (by omega) nm h2 h10 (.inl upd_same) pr W nx ndx ne fun H' s hs => ⟨rfl, q ps1 qs1 p1 p2 x H' (((s1.trans s2).trans s3).trans s) hs⟩
end
end Hue

end
section
set_option maxRecDepth 100000
set_option maxHeartbeats 4000000
namespace Hue
open PySem PySem.Spec PyProof.Rows L2
section
variable {P : Program} {w : World} {K : PySem.W.Frag} {mg : Str → Option Value} {base : Heap} {C CL : Addr}
theorem neDK {X : Cx} (K : PySem.W.Frag) (hu : X.A.units + 64 < cLine) (hK : X.K = K := by rfl) : OpR X (compareOp .NotEq) (rNeD K) := by subst hK; exact op_neD hu
theorem no_int {k n : Nat} {X : Prop} (h : k < n) (z : inI (.int (k : Nat)) 0 ((n : Int) - 1) = false) : X := by rw [nat_inI h] at z; cases z
theorem int_eq {i j : Nat} (h : V.int (i : Nat) = V.int (j : Nat)) : i = j := by injection h with h; omega
def spBeneathI (C : Addr) : Sp := fun vs H Q _ => ∃ (x : Addr) (n h : Nat) (ps : List (Nat × Nat)) (k : Nat), vs = [.ref x, .int (k : Nat)] ∧ HsOk C H x n h ps ∧ k < n ∧ ∀ (H' : Hp) (p : Addr), Same H H' → H p = Option.none → H' p = some (.lst (nL (Bel n (relOf ps) k))) → Q (.ref p) H'
def spAboveI (C : Addr) : Sp := fun vs H Q _ => ∃ (x : Addr) (n h : Nat) (ps : List (Nat × Nat)) (k : Nat), vs = [.ref x, .int (k : Nat)] ∧ HsOk C H x n h ps ∧ k < n ∧ ∀ (H' : Hp) (p : Addr), Same H H' → H p = Option.none → H' p = some (.lst (nL (Bel n (flip (relOf ps)) k))) → Q (.ref p) H'
theorem beneath_int (vs : List V) (H : Hp) (Q : VK) (E : XK) (g : spBeneathI C vs H Q E) : spBeneathX C CL vs H Q fun _ _ _ => False := by
  obtain ⟨x, n, h, ps, k, e, hs, kn, q⟩ := g
  exact ⟨x, n, h, relOf ps, _, e, hs.at_, .int _, fun j _ ej => by rw [← int_eq ej]; exact q, fun z => no_int kn z⟩
theorem above_int (vs : List V) (H : Hp) (Q : VK) (E : XK) (g : spAboveI C vs H Q E) : spAboveX C CL vs H Q fun _ _ _ => False := by
  obtain ⟨x, n, h, ps, k, e, hs, kn, q⟩ := g
  exact ⟨x, n, h, ps, _, e, hs.at_, hs.x_, .int _, fun j _ ej => by rw [← int_eq ej]; exact q, fun z => no_int kn z⟩
theorem pairs_get {H : Hp} {ts : List Addr} {ps : List (Nat × Nat)} (h : Pairs H ts ps) {i : Nat} {p : Nat × Nat} (hp : ps[i]? = some p) : ∃ t, ts[i]? = some t ∧ (ts.map V.ref)[i]? = some (V.ref t) ∧ H t = some (.tup [.int (p.1 : Int), .int (p.2 : Int)]) := by
  have l : i < ts.length := by rw [h.1]; exact (List.getElem?_eq_some_iff.mp hp).1
  exact ⟨ts[i], List.getElem?_eq_getElem l, by rw [List.getElem?_map, List.getElem?_eq_getElem l]; rfl, h.2 i _ _ (List.getElem?_eq_getElem l) hp⟩
abbrev s__law_pairs : Stmt := top 39
theorem sc__law_pairs : FnScope ["told", "due", "k"] ["told", "due"] (defScope s__law_pairs) := ⟨rfl, rfl, rfl, by decide +kernel, rfl, by decide +kernel, by decide +kernel⟩
-- slots of _law_pairs: 0 told, 1 due, 2 k
def spPairs : Sp := fun vs H Q _ => ∃ (a c : Addr) (us ts : List Addr) (ps : List (Nat × Nat)), vs = [.ref a, .ref c] ∧ H a = some (.tup (us.map V.ref)) ∧ Pairs H us ps ∧ H c = some (.lst (ts.map V.ref)) ∧ Pairs H ts ps ∧ ps.length < 1000 ∧ Q (.bl true) H
theorem ok__law_pairs (T : Txt K mg C) {f : Addr} {fd : FuncData} (F : Fun K "_law_pairs" "_law_pairs" s__law_pairs f fd) (c__law_number : Cal P w K mg base "_law_number" 1 spNumber) : FnOk P w K mg base CX0 2 f fd ["told", "due"] spPairs := by
  refine F.ok sc__law_pairs (fun vs H Q E h => ?_) (fun cdv A outer s H vs Q E hr h => ?_)
  · obtain ⟨a, c, us, ts, ps, rfl, _⟩ := h; rfl
  · obtain ⟨a, c, us, ts, ps, rfl, ha, hu, hc, ht, few, q⟩ := h
    refine ⟨_, (pss_cons (ps_if (PW.pt (pw_or (pt_not (pt_val (pe_callB (isi_ K) (by rfl) T.isinstance b_isinstance (pa_cons (pv 0) (pa_cons (pe_bltn (v := .ty "tuple") (by rfl) T.tuple b_tuple rfl) pa_nil))))) (pw_or1 (pt_cmpR op_ne (pe_callB (lenS_ K) (by rfl) T.len b_len (pa_cons (pv 0) pa_nil)) (pe_callB (lenS_ K) (by rfl) T.len b_len (pa_cons (pv 1) pa_nil)) (nomark _)))))
      (pss_one (ps_ret pe_bl)) pss_nil)
      (pss_cons (ps_for PassesOwn.never rfl (pi_range1 (by rfl) T.range (pa_cons (pe_callB (lenS_ K) (by rfl) T.len b_len (pa_cons (pv 1) pa_nil)) pa_nil)) (pg_name (i := 2) sc__law_pairs.nd rfl (by first | exact Or.inl rfl | exact Or.inr rfl))
      (pss_cons (ps_if (PW.pt (pw_or (pt_not (pt_val (pe_callB (isi_ K) (by rfl) T.isinstance b_isinstance (pa_cons (pe_ix (ixT_ K) (pv 0) (pv 2) (fun _ _ => rfl)) (pa_cons (pe_bltn (v := .ty "tuple") (by rfl) T.tuple b_tuple rfl) pa_nil))))) (pw_or1 (pt_cmpR op_ne (pe_callB (lenS_ K) (by rfl) T.len b_len (pa_cons (pe_ix (ixT_ K) (pv 0) (pv 2) (fun _ _ => rfl)) pa_nil)) pe_int (nomark _)))))
      (pss_one (ps_ret pe_bl)) pss_nil)
      (pss_one (ps_if (PW.pt (pw_or (pt_not (pt_val (pe_cal c__law_number (hr.mono (by decide)) (pa_cons (pe_ix (ixT_ K) (pe_ix (ixT_ K) (pv 0) (pv 2) (fun _ _ => rfl)) pe_int (fun _ _ => rfl)) (pa_cons (pe_ix (ixT_ K) (pe_ix (ixL_ K) (pv 1) (pv 2) (fun _ _ => rfl)) pe_int (fun _ _ => rfl)) pa_nil))))) (pw_or1 (pt_not (pt_val (pe_cal c__law_number (hr.mono (by decide)) (pa_cons (pe_ix (ixT_ K) (pe_ix (ixT_ K) (pv 0) (pv 2) (fun _ _ => rfl)) pe_int (fun _ _ => rfl)) (pa_cons (pe_ix (ixT_ K) (pe_ix (ixL_ K) (pv 1) (pv 2) (fun _ _ => rfl)) pe_int (fun _ _ => rfl)) pa_nil))))))))
      (pss_one (ps_ret pe_bl)) pss_nil))))
      (pss_one (ps_ret pe_bl)))), ?_⟩
    refine ⟨_, rfl, _, _, _, _, true, rfl, .ty _, .base (.tup ha), kit_ty (by decide +kernel), true, rfl, iteF ?_⟩
    refine ⟨_, rfl, a, _, rfl, .inr (SqT.of ha), _, rfl, c, _, rfl, .inl (SqL.of hc), rfl, _, rfl, ?_⟩
    refine ite2 (fun hn => ?_) (fun _ => ?_)
    · rw [List.length_map, List.length_map, hu.1, ht.1, decide_eq_true rfl] at hn
      cases hn
    refine ⟨_, rfl, c, _, rfl, .inl (SqL.of hc), _, rfl, by rw [List.length_map, ht.1]; omega, by rw [List.length_map, ht.1]; omega, ?_⟩
    have en : (((ts.map V.ref).length : Int)).toNat = ps.length := by rw [List.length_map, ht.1]; omega
    rw [en]
    refine for_range (fun i σ H2 => H2 = H ∧ ∃ v, σ = [some (.ref a), some (.ref c), v]) ⟨rfl, _, rfl⟩ ?_ ?_
    · rintro i σ H2 hi ⟨rfl, v, rfl⟩
      have e0 : (0 : Int) + (i : Int) = (i : Int) := by omega
      rw [e0]
      obtain ⟨p, hp⟩ : ∃ p, ps[i]? = some p := ⟨_, List.getElem?_eq_getElem hi⟩
      obtain ⟨u, hu1, hu2, hu3⟩ := pairs_get hu hp
      obtain ⟨t, ht1, ht2, ht3⟩ := pairs_get ht hp
      refine ⟨_, rfl, _, rfl, a, _, _, _, rfl, rfl, SqT.of ha, atI_nat hu2, _, _, _, _, true, rfl, .ty _, .base (.tup hu3), kit_ty (by decide +kernel), true, rfl, iteF ?_⟩
      refine ⟨_, rfl, _, rfl, a, _, _, _, rfl, rfl, SqT.of ha, atI_nat hu2, u, _, rfl, .inr (SqT.of hu3), rfl, _, rfl, ?_⟩
      refine ite2 (fun hn => ?_) (fun _ => ?_)
      · cases hn
      refine ⟨_, rfl, _, rfl, a, _, _, _, rfl, rfl, SqT.of ha, atI_nat hu2, u, _, _, _, rfl, rfl, SqT.of hu3, atI_nat (j := 0) rfl, _, rfl, _, rfl, c, _, _, _, rfl, rfl, SqL.of hc, atI_nat ht2, t, _, _, _, rfl, rfl, SqT.of ht3, atI_nat (j := 0) rfl, _, rfl, true, rfl, iteF ?_⟩
      exact ⟨_, rfl, _, rfl, a, _, _, _, rfl, rfl, SqT.of ha, atI_nat hu2, u, _, _, _, rfl, rfl, SqT.of hu3, atI_nat (j := 1) rfl, _, rfl, _, rfl, c, _, _, _, rfl, rfl, SqL.of hc, atI_nat ht2, t, _, _, _, rfl, rfl, SqT.of ht3, atI_nat (j := 1) rfl, _, rfl, true, rfl, iteF ⟨rfl, _, rfl⟩⟩
    · rintro σ H2 ⟨rfl, v, rfl⟩
      exact q

/-! ### sorted lists of pairs -/
theorem keyP {H : Hp} {ts : List Addr} {ps : List (Nat × Nat)} (hp : Pairs H ts ps) : ∀ v ∈ ts.map V.ref, ∃ t, v = V.ref t ∧ H t = some (.tup [.int (kOf H v).1, .int (kOf H v).2]) := fun v hv => by
  obtain ⟨j, hj, e⟩ := List.getElem_of_mem hv
  obtain ⟨t, r, rfl, _, _, hr⟩ := pair_at hp (m := j) (by rw [List.getElem?_eq_getElem hj, e])
  exact ⟨t, rfl, by rw [kOf_ref hr]; exact hr⟩
theorem sortP {H : Hp} {ts : List Addr} {ps : List (Nat × Nat)} {ys : List V} (hp : Pairs H ts ps) (perm : ys.Perm (ts.map V.ref)) (so : ys.Pairwise fun x y => ¬ ((kOf H y).1 < (kOf H x).1 ∨ ((kOf H y).1 = (kOf H x).1 ∧ (kOf H y).2 < (kOf H x).2))) :
    ∃ (us : List Addr) (qs : List (Nat × Nat)), ys = us.map V.ref ∧ Pairs H us qs ∧ qs.Perm ps ∧ qs.Pairwise leP := by
  obtain ⟨us, qs, rfl, hus, pqs⟩ := pairs_perm hp perm
  refine ⟨us, qs, rfl, hus, pqs, ?_⟩
  rw [List.pairwise_iff_getElem]
  intro i j hi hj ij
  have li : i < us.length := by rw [hus.1]; exact hi
  have lj : j < us.length := by rw [hus.1]; exact hj
  rw [List.pairwise_map, List.pairwise_iff_getElem] at so
  have z := so i j li lj ij
  rw [kOf_ref (hus.2 i _ _ (List.getElem?_eq_getElem li) (List.getElem?_eq_getElem hi)), kOf_ref (hus.2 j _ _ (List.getElem?_eq_getElem lj) (List.getElem?_eq_getElem hj))] at z
  show ¬ (qs[j].1 < qs[i].1 ∨ (qs[j].1 = qs[i].1 ∧ qs[j].2 < qs[i].2))
  intro y
  refine z ?_
  show ((qs[j].1 : Int) < (qs[i].1 : Int) ∨ ((qs[j].1 : Int) = (qs[i].1 : Int) ∧ (qs[j].2 : Int) < (qs[i].2 : Int)))
  omega
theorem rel_perm {ps qs : List (Nat × Nat)} (h : ∀ p, p ∈ qs ↔ p ∈ ps) : relOf qs = relOf ps := rel_eq (fun p hp => fold_wire ps _ p ((h p).mp hp)) fun i j hij => fold_sub (relOf_trans _) ps (fun _ _ => false) (fun i j z => by cases z) (fun p hp => fold_wire _ _ p ((h p).mpr hp)) i j hij
theorem WsOk.mem {n : Nat} {ps qs : List (Nat × Nat)} (W : WsOk n ps) (n16 : n ≤ 16) (nd : qs.Nodup) (h : ∀ p, p ∈ qs ↔ p ∈ ps) : WsOk n qs := by
  obtain ⟨ρ, hρ⟩ := W.rk
  have lt : ∀ p ∈ qs, p.1 < n ∧ p.2 < n := fun p hp => W.lt p ((h p).mp hp)
  exact ⟨nd, few_of n16 nd lt, ⟨ρ, fun p hp => hρ p ((h p).mp hp)⟩, lt⟩
abbrev s__law_same_house : Stmt := top 40
theorem sc__law_same_house : FnScope ["told", "count", "hues", "wires", "due", "under", "lamp", "w", "v"] ["told", "count", "hues", "wires"] (defScope s__law_same_house) := ⟨rfl, rfl, rfl, by decide +kernel, rfl, by decide +kernel, by decide +kernel⟩
-- slots of _law_same_house: 0 told, 1 count, 2 hues, 3 wires, 4 due, 5 under, 6 lamp, 7 w, 8 v
def spSameH (C : Addr) : Sp := fun vs H Q _ => ∃ (x c : Addr) (n h : Nat) (ps due : List (Nat × Nat)) (ts : List Addr), vs = [.ref x, .int (n : Nat), .int (h : Nat), .ref c] ∧ 1 ≤ n ∧ n ≤ 16 ∧ 2 ≤ h ∧ h ≤ 10 ∧ WsOk n ps ∧ HsOk C H x n h ps ∧ H c = some (.lst (ts.map V.ref)) ∧ Pairs H ts due ∧ (∀ p, p ∈ due ↔ p ∈ ps) ∧ due.Nodup ∧ ∀ H', Same H H' → Q (.bl true) H'
theorem ok__law_same_house (T : Txt K mg C) (TH : TxH K C) {f : Addr} {fd : FuncData} (F : Fun K "_law_same_house" "_law_same_house" s__law_same_house f fd) (OE : OwnE P w K mg base C 1 (spEqH C)) (c__law_number : Cal P w K mg base "_law_number" 1 spNumber) (c__law_pairs : Cal P w K mg base "_law_pairs" 2 spPairs) (c_House : NCal P w K mg base C "House" 5 (spInit K C)) (c__law_under : Cal P w K mg base "_law_under" 1 spUnder) (M_beneath : MCal P w K mg base C "beneath" 5 (spBeneathI C)) (M_above : MCal P w K mg base C "above" 5 (spAboveI C)) (c__law_list : Cal P w K mg base "_law_list" 2 spList) : FnOk P w K mg base CX0 7 f fd ["told", "count", "hues", "wires"] (spSameH C) := by
  refine F.ok sc__law_same_house (fun vs H Q E h => ?_) (fun cdv A outer s H vs Q E hr h => ?_)
  · obtain ⟨x, c, n, h, ps, due, ts, rfl, _⟩ := h; rfl
  · obtain ⟨x, c, n, h, ps, due, ts, rfl, n1, n16, h2, h10, W, hs, hc, ht, mem, nd, q⟩ := h
    obtain ⟨f_beneath, fd_beneath, ps_beneath, F_beneath, m_beneath, b_beneath⟩ := M_beneath.ex
    obtain ⟨f_above, fd_above, ps_above, F_above, m_above, b_above⟩ := M_above.ex
    refine ⟨_, (pss_cons (ps_set (i := 4) sc__law_same_house.nd rfl (by first | exact Or.inl rfl | exact Or.inr rfl) (pe_callB (sortPS_ K) (by rfl) T.sorted b_sorted (pa_cons (pv 3) pa_nil)))
      (pss_cons (ps_if (PW.pt (pw_or (pt_not (pt_val (pe_callB (isi_ K) (by rfl) T.isinstance b_isinstance (pa_cons (pv 0) (pa_cons (pe_glob (v := .ref C) (by rfl) T.mgC rfl) pa_nil))))) (pw_or1 (pt_not (pt_val (pe_cal c__law_number (hr.mono (by decide)) (pa_cons (fld_ K (pv 0)) (pa_cons (pv 1) pa_nil))))))))
      (pss_one (ps_ret pe_bl)) pss_nil)
      (pss_cons (ps_if (pt_not (pt_val (pe_cal c__law_number (hr.mono (by decide)) (pa_cons (fld_ K (pv 0)) (pa_cons (pv 2) pa_nil)))))
      (pss_one (ps_ret pe_bl)) pss_nil)
      (pss_cons (ps_if (PW.pt (pw_or (pt_not (pt_val (pe_cal c__law_pairs (hr.mono (by decide)) (pa_cons (fld_ K (pv 0)) (pa_cons (pv 4) pa_nil))))) (pw_or1 (pt_not (pt_cmpR (op_eqL OE (hr.mono (by decide))) (pv 0) (pe_ncal c_House (hr.mono (by decide)) (pa_cons (pv 1) (pa_cons (pv 2) (pa_cons (pv 4) pa_nil)))) (nomark _))))))
      (pss_one (ps_ret pe_bl)) pss_nil)
      (pss_cons (ps_set (i := 5) sc__law_same_house.nd rfl (by first | exact Or.inl rfl | exact Or.inr rfl) (pe_cal c__law_under (hr.mono (by decide)) (pa_cons (pv 1) (pa_cons (pv 4) pa_nil))))
      (pss_cons (ps_for PassesOwn.never rfl (pi_range1 (by rfl) T.range (pa_cons (pv 1) pa_nil)) (pg_name (i := 6) sc__law_same_house.nd rfl (by first | exact Or.inl rfl | exact Or.inr rfl))
      (pss_cons (ps_if (pt_not (pt_val (pe_cal c__law_list (hr.mono (by decide)) (pa_cons (pe_meth (pv 0) T.cl m_beneath F_beneath (hr.mono (by decide)) b_beneath .nil pass0 (pa_cons (pv 6) pa_nil)) (pa_cons (pe_lc (own := [("w", 7)]) (g := gName 7) rfl sc__law_same_house.nd (pi_range1 (by rfl) T.range (pa_cons (pv 1) pa_nil)) (blkOk_by (by kernel_rfl)) (fun _ _ _ _ _ => (pg_name (i := 7) sc__law_same_house.nd rfl (by first | exact Or.inl rfl | exact Or.inr rfl))) (fun _ _ _ _ _ => (pts_one (pt_val (pe_ix (ixL_ K) (pe_ix (ixL_ K) (pv 5) (pv 6) (fun _ _ => rfl)) (pv 7) (fun _ _ => rfl))))) (fun _ _ _ _ _ => (pv 7))) pa_nil)))))
      (pss_one (ps_ret pe_bl)) pss_nil)
      (pss_one (ps_if (pt_not (pt_val (pe_cal c__law_list (hr.mono (by decide)) (pa_cons (pe_meth (pv 0) T.cl m_above F_above (hr.mono (by decide)) b_above .nil pass0 (pa_cons (pv 6) pa_nil)) (pa_cons (pe_lc (own := [("v", 8)]) (g := gName 8) rfl sc__law_same_house.nd (pi_range1 (by rfl) T.range (pa_cons (pv 1) pa_nil)) (blkOk_by (by kernel_rfl)) (fun _ _ _ _ _ => (pg_name (i := 8) sc__law_same_house.nd rfl (by first | exact Or.inl rfl | exact Or.inr rfl))) (fun _ _ _ _ _ => (pts_one (pt_val (pe_ix (ixL_ K) (pe_ix (ixL_ K) (pv 5) (pv 8) (fun _ _ => rfl)) (pv 6) (fun _ _ => rfl))))) (fun _ _ _ _ _ => (pv 8))) pa_nil)))))
      (pss_one (ps_ret pe_bl)) pss_nil))))
      (pss_one (ps_ret pe_bl)))))))), ?_⟩
    refine ⟨_, rfl, c, ts.map V.ref, kOf H, rfl, .inl (SqL.of hc), keyP ht, fun ys p perm so np => ?_⟩
    obtain ⟨us, qs, rfl, hus, pqs, srt⟩ := sortP ht perm so
    have s1 : Same H (upd H p (.lst (us.map V.ref))) := same_new np
    have hp : (upd H p (.lst (us.map V.ref))) p = some (.lst (us.map V.ref)) := upd_same
    have hus := hus.same s1
    have hs := hs.same s1
    generalize upd H p (.lst (us.map V.ref)) = H1 at s1 hp hus hs ⊢
    have memq : ∀ r, r ∈ qs ↔ r ∈ ps := fun r => by rw [pqs.mem_iff]; exact mem r
    have ndq : qs.Nodup := pqs.nodup_iff.mpr nd
    have Wq : WsOk n qs := W.mem n16 ndq memq
    have er : relOf qs = relOf ps := rel_perm memq
    obtain ⟨dx, fs, be, o, g1, g2, g3, g4, g5, g6, g7, g8, g9⟩ := id hs.at_
    obtain ⟨dx', fs', ab, di, l, vs2, qs2, k1, k2, k3, k4, k5, k6, k7, k8, k9, k10⟩ := id hs.x_
    have eq : qs2 = qs := srt_ext k9.2 srt (k9.1.nodup_iff.mpr W.nd) ndq fun r => by rw [k9.1.mem_iff, memq]
    rw [eq] at k8 k9
    refine ⟨_, rfl, _, _, _, _, true, rfl, .own _, .base (.ins g1 T.cl TH.ca TH.gs TH.tk TH.mo), kit_selfH, true, rfl, iteF ?_⟩
    refine ⟨_, rfl, x, C, dx, _, _, rfl, g1, T.cl, T.nCount, g2, _, rfl, _, rfl, true, rfl, iteF ?_⟩
    refine ⟨_, rfl, x, C, dx, _, _, rfl, g1, T.cl, T.nHues, g3, _, rfl, _, rfl, true, rfl, iteF ?_⟩
    refine ⟨_, rfl, x, C, dx', _, _, rfl, k1, T.cl, T.nWires, k6, _, rfl, l, p, vs2, us, qs, rfl, k7, k8, hp, hus, Wq.few, true, rfl, iteF ?_⟩
    refine ⟨_, rfl, _, rfl, _, rfl, _, rfl, fun y dy ny ndy ne => made_house n1 n16 h2 h10 (.inl hp) hus Wq ny ndy ne fun H2 s2 hy => ⟨rfl, ?_⟩⟩
    obtain ⟨dx, fx, gx, mx⟩ := (hs.same s2).ins
    obtain ⟨dy, fy, gy, _⟩ := hy.ins
    refine ⟨x, dx, fx, rfl, gx, .inr ⟨y, dy, fy, rfl, gy⟩, x, n, h, ps, .ref y, rfl, hs.same s2, W.nd, .inr ⟨y, n, h, qs, rfl, hy, ndq, fun b hb => ?_⟩⟩
    have bt : b = true := hb.mpr ⟨rfl, rfl, fun r => (memq r).symm⟩
    subst bt
    refine ⟨⟨true, rfl⟩, true, rfl, iteF ?_⟩
    have s12 := s1.trans s2
    refine ⟨_, rfl, _, rfl, p, n, us, qs, rfl, n16, s2 _ _ hp, hus.same s2, Wq.lt, Wq.ranked, fun U H3 s3 tb => ?_⟩
    rw [er] at tb
    obtain ⟨as, las, tb⟩ := tb
    have s23 := s2.trans s3
    have hs3 := hs.same s23
    have gx3 := s3 _ _ gx
    have asat : ∀ i, i < n → ∃ r, as[i]? = some r ∧ (as.map V.ref)[i]? = some (V.ref r) := fun i hi => by
      have l : i < as.length := by rw [las]; exact hi
      exact ⟨as[i], List.getElem?_eq_getElem l, by rw [List.getElem?_map, List.getElem?_eq_getElem l]; rfl⟩
    refine ⟨_, rfl, _, rfl, by omega, by omega, ?_⟩
    rw [Int.toNat_natCast]
    refine for_range (fun i σ G => ∃ v6 v7 v8 : Option V, σ = [some (.ref x), some (.int (n : Nat)), some (.int (h : Nat)), some (.ref c), some (.ref p), some (.ref U), v6, v7, v8] ∧ Same H3 G) ⟨_, _, _, rfl, Same.refl _⟩ ?_ ?_
    · rintro i σ G hi ⟨v6, v7, v8, rfl, sG⟩
      have e0 : (0 : Int) + (i : Int) = (i : Int) := by omega
      rw [e0]
      have hx := hs3.same sG
      have lb : ∀ R : Rel, (Bel n R i).length ≤ 16 := fun R => Nat.le_trans (Bel_len _ _ _) n16
      refine ⟨_, rfl, x, dx, fx, rfl, sG _ _ gx3, mx _ (by decide +kernel), _, rfl, x, n, h, ps, i, rfl, hx, hi, fun G1 l1 t1 m1 hl1 => ?_⟩
      have sG1 := sG.trans t1
      refine ⟨_, rfl, _, rfl, by omega, by omega, fun B hB => ?_⟩
      rw [Int.toNat_natCast]
      refine lc_range (fun j H2 => H2 B = some (.lst (nL ((List.range j).filter fun k => relOf ps i k))) ∧ Same G1 H2) ⟨upd_same, same_new hB⟩ ?_ ?_
      · rintro j H2 hj ⟨h2', s2'⟩
        have e0 : (0 : Int) + (j : Int) = (j : Int) := by omega
        rw [e0]
        have sg2 := sG1.trans s2'
        obtain ⟨r, hr1, hr2⟩ := asat i hi
        have fewi := filt_few' (fun k => relOf ps i k) j
        refine ⟨rfl, _, rfl, _, rfl, U, _, _, _, rfl, rfl, SqL.of (sg2 _ _ tb.1), atI_nat hr2, _, rfl, r, _, _, _, rfl, rfl, SqL.of (sg2 _ _ (tb.2 _ _ hr1)), atI_nat (bF_get hj), _, rfl, ?_⟩
        refine ite2 (fun hy => ?_) (fun hn => ?_)
        · refine ⟨_, rfl, _, h2', by rw [nL_len, sizeLine_eq]; omega, ?_, same_upd s2' hB⟩
          rw [upd_same, filt_more', if_pos hy, nL_app]; rfl
        · refine ⟨?_, s2'⟩
          rw [h2', filt_more', if_neg hn, List.append_nil]
      rintro G2 ⟨hb, t2⟩
      have := lb (relOf ps)
      refine ⟨l1, B, _, rfl, t2 _ _ hl1, hb, by show (Bel n (relOf ps) i).length ≤ 1000; omega, true, rfl, iteF ?_⟩
      have sG2 := sG1.trans t2
      refine ⟨_, rfl, x, dx, fx, rfl, sG2 _ _ gx3, mx _ (by decide +kernel), _, rfl, x, n, h, ps, i, rfl, hs3.same sG2, hi, fun G3 l3 t3 m3 hl3 => ?_⟩
      have sG3 := sG2.trans t3
      refine ⟨_, rfl, _, rfl, by omega, by omega, fun B hB => ?_⟩
      rw [Int.toNat_natCast]
      refine lc_range (fun j H2 => H2 B = some (.lst (nL ((List.range j).filter fun k => flip (relOf ps) i k))) ∧ Same G3 H2) ⟨upd_same, same_new hB⟩ ?_ ?_
      · rintro j H2 hj ⟨h2', s2'⟩
        have e0 : (0 : Int) + (j : Int) = (j : Int) := by omega
        rw [e0]
        have sg2 := sG3.trans s2'
        obtain ⟨r, hr1, hr2⟩ := asat j hj
        have fewi := filt_few' (fun k => flip (relOf ps) i k) j
        refine ⟨rfl, _, rfl, _, rfl, U, _, _, _, rfl, rfl, SqL.of (sg2 _ _ tb.1), atI_nat hr2, _, rfl, r, _, _, _, rfl, rfl, SqL.of (sg2 _ _ (tb.2 _ _ hr1)), atI_nat (bF_get hi), _, rfl, ?_⟩
        show if flip (relOf ps) i j = true then _ else _
        refine ite2 (fun hy => ?_) (fun hn => ?_)
        · refine ⟨_, rfl, _, h2', by rw [nL_len, sizeLine_eq]; omega, ?_, same_upd s2' hB⟩
          rw [upd_same, filt_more', if_pos hy, nL_app]; rfl
        · refine ⟨?_, s2'⟩
          rw [h2', filt_more', if_neg hn, List.append_nil]
      rintro G4 ⟨hb, t4⟩
      have := lb (flip (relOf ps))
      exact ⟨l3, B, _, rfl, t4 _ _ hl3, hb, by show (Bel n (flip (relOf ps)) i).length ≤ 1000; omega, true, rfl, iteF ⟨_, _, _, rfl, sG3.trans t4⟩⟩
    · rintro σ G ⟨v6, v7, v8, rfl, sG⟩
      exact q G ((s1.trans s23).trans sG)
end
end Hue

end
section
set_option maxRecDepth 100000
set_option maxHeartbeats 4000000
namespace Hue
open PySem PySem.Spec PyProof.Rows L2
section
variable {P : Program} {w : World} {K : PySem.W.Frag} {mg : Str → Option Value} {base : Heap} {C CL : Addr}
/-! ### the parents of stairs -/
theorem stair_more {pr : List (Option Nat)} (ok : StairOk pr) {o : Option Nat} (h : ∀ j, o = some j → j < pr.length) : StairOk (pr ++ [o]) := fun i j e => by
  rcases Nat.lt_or_ge i pr.length with l | g
  · rw [List.getElem?_append_left l] at e
    exact ok i j e
  · rw [List.getElem?_append_right g] at e
    have z : i - pr.length = 0 := by
      rcases Nat.eq_zero_or_pos (i - pr.length) with z | z
      · exact z
      · rw [List.getElem?_eq_none (by rw [List.length_singleton]; exact z)] at e; cases e
    rw [z] at e
    injection e with e
    have := h j e
    omega
abbrev s__law_parents : Stmt := top 41
theorem sc__law_parents : FnScope ["box", "count", "parents", "lamp", "pick"] ["box", "count"] (defScope s__law_parents) := ⟨rfl, rfl, rfl, by decide +kernel, rfl, by decide +kernel, by decide +kernel⟩
-- slots of _law_parents: 0 box, 1 count, 2 parents, 3 lamp, 4 pick
def spParents : Sp := fun vs H Q _ => ∃ (b ga la : Addr) (n : Nat), vs = [.ref b, .int n] ∧ n ≤ 16 ∧ Bx H b ga la ∧ ∀ (pr : List (Option Nat)) (t : Addr) (H' : Hp), pr.length = n → StairOk pr → SB b H H' → Bx H' b ga la → H t = none → H' t = some (.lst (pr.map oV)) → Q (.ref t) H'
theorem ok__law_parents (T : Txt K mg C) {f : Addr} {fd : FuncData} (F : Fun K "_law_parents" "_law_parents" s__law_parents f fd) (c__law_take : Cal P w K mg base "_law_take" 1 spTake) : FnOk P w K mg base CX0 2 f fd ["box", "count"] spParents := by
  refine F.ok sc__law_parents (fun vs H Q E h => ?_) (fun cdv A outer s H vs Q E hr h => ?_)
  · obtain ⟨b, ga, la, n, rfl, _⟩ := h; rfl
  · obtain ⟨b, ga, la, n, rfl, n16, hb, q⟩ := h
    refine ⟨_, (pss_cons (ps_set (i := 2) sc__law_parents.nd rfl (by first | exact Or.inl rfl | exact Or.inr rfl) (pe_lst pa_nil))
      (pss_cons (ps_for PassesOwn.never rfl (pi_range1 (by rfl) T.range (pa_cons (pv 1) pa_nil)) (pg_name (i := 3) sc__law_parents.nd rfl (by first | exact Or.inl rfl | exact Or.inr rfl))
      (pss_cons (ps_set (i := 4) sc__law_parents.nd rfl (by first | exact Or.inl rfl | exact Or.inr rfl) (pe_cal c__law_take (hr.mono (by decide)) (pa_cons (pv 0) (pa_cons (pe_op op_add (pv 3) pe_int) pa_nil))))
      (pss_one (ps_if (pt_cmpR op_eq (pv 4) (pv 3) (nomark _))
      (pss_one (ps_expr (pe_bm PySem.F.plainAttrs_list PySem.F.slot_list_append PySem.F.type_list_append mt_append (pv 2) (pa_cons pe_non pa_nil)))) (pss_one (ps_expr (pe_bm PySem.F.plainAttrs_list PySem.F.slot_list_append PySem.F.type_list_append mt_append (pv 2) (pa_cons (pv 4) pa_nil))))))))
      (pss_one (ps_ret (pv 2))))), ?_⟩
    refine ⟨by decide, fun D hD => ?_⟩
    obtain ⟨Db, Dg, Dl⟩ := hb.new hD
    refine ⟨_, rfl, _, rfl, by omega, by omega, ?_⟩
    rw [Int.toNat_natCast]
    refine for_range (fun i σ H2 => ∃ (v3 v4 : Option V) (pr : List (Option Nat)), σ = [some (.ref b), some (.int n), some (.ref D), v3, v4] ∧ SB b H H2 ∧ Bx H2 b ga la ∧ H2 D = some (.lst (pr.map oV)) ∧ pr.length = i ∧ StairOk pr)
      ⟨_, _, [], rfl, SB.of (same_new hD), hb.upd Db Dg Dl, upd_same, rfl, fun i j e => by simp at e⟩ ?_ ?_
    · rintro i σ H2 hi ⟨v3, v4, pr, rfl, s2, b2, h2, lp, ok⟩
      have e0 : (0 : Int) + (i : Int) = (i : Int) := by omega
      rw [e0]
      refine ⟨_, rfl, _, rfl, _, _, rfl, rfl, b, ga, la, i + 1, rfl, by omega, by omega, b2, fun d H3 hd s3 b3 => ?_⟩
      have h3 := s3 _ _ Db h2
      refine ⟨_, rfl, _, rfl, rfl, _, rfl, ?_⟩
      have fin : ∀ o : Option Nat, (∀ j, o = some j → j < pr.length) → ∃ (v3 v4 : Option V) (pr : List (Option Nat)), ([some (.ref b), some (.int n), some (.ref D), some (.int (i : Int)), some (.int (d : Int))] : L2.St) = [some (.ref b), some (.int n), some (.ref D), v3, v4] ∧ SB b H (L2.upd H3 D (.lst (pr.map oV))) ∧ Bx (L2.upd H3 D (.lst (pr.map oV))) b ga la ∧ (L2.upd H3 D (.lst (pr.map oV))) D = some (.lst (pr.map oV)) ∧ pr.length = i + 1 ∧ StairOk pr := fun o ho =>
        ⟨_, _, pr ++ [o], rfl, fun c p nc e => by rw [upd_ne (ne_of_none e hD)]; exact (s2.trans s3) c p nc e, b3.upd Db Dg Dl, upd_same, by rw [List.length_append, lp]; rfl, stair_more ok ho⟩
      refine ite2 (fun hz => ?_) (fun hz => ?_)
      · refine ⟨_, rfl, .inl ⟨rfl, _, SqL.of h3⟩, D, _, _, rfl, rfl, h3, by rw [List.length_map, sizeLine_eq]; omega, ?_⟩
        refine ⟨_, _, pr ++ [none], rfl, fun c p nc e => by rw [upd_ne (ne_of_none e hD)]; exact (s2.trans s3) c p nc e, b3.upd Db Dg Dl, by rw [upd_same, List.map_append]; rfl, by rw [List.length_append, lp]; rfl, stair_more ok fun j e => by cases e⟩
      · refine ⟨_, rfl, .inl ⟨rfl, _, SqL.of h3⟩, _, rfl, D, _, _, rfl, rfl, h3, by rw [List.length_map, sizeLine_eq]; omega, ?_⟩
        have dn : d ≠ i := fun e => hz (decide_eq_true (by rw [e]))
        refine ⟨_, _, pr ++ [some d], rfl, fun c p nc e => by rw [upd_ne (ne_of_none e hD)]; exact (s2.trans s3) c p nc e, b3.upd Db Dg Dl, by rw [upd_same, List.map_append]; rfl, by rw [List.length_append, lp]; rfl, stair_more ok fun j e => by injection e with e; omega⟩
    · rintro σ H2 ⟨v3, v4, pr, rfl, s2, b2, h2, lp, ok⟩
      exact ⟨_, rfl, q pr D H2 lp ok s2 b2 hD h2⟩
/-! ### lists of parents, compared -/
def oD : Option Nat → PyData
  | none => .none
  | some k => .int k
theorem oD_all {K : PySem.W.Frag} {H : Hp} : ∀ pr : List (Option Nat), DpAll K H (pr.map oV) (pr.map oD)
  | [] => .nil
  | none :: pr => .cons .non (oD_all pr)
  | some k :: pr => .cons (.int _) (oD_all pr)
theorem oD_lay : ∀ pr : List (Option Nat), PyData.canLayAll0 (pr.map oD) = true
  | [] => by simp [PyData.canLayAll0]
  | o :: pr => by
    have := oD_lay pr
    cases o <;> simp [PyData.canLayAll0, PyData.canLay0, oD, this]
theorem oD_deep : ∀ pr : List (Option Nat), PyData.depthAll (pr.map oD) ≤ 1
  | [] => by simp [PyData.depthAll]
  | o :: pr => by
    have := oD_deep pr
    cases o <;> (simp only [List.map_cons, oD, PyData.depthAll, PyData.depth]; omega)
theorem listD_lay {ds : List PyData} (h : PyData.canLayAll0 ds = true) : PyData.canLay0 (.list ds) = true := by
  simp only [PyData.canLay0]
  exact h
theorem listD_shaped {ds : List PyData} (h : PyData.canLayAll0 ds = true) (d : PyData.depthAll ds ≤ 1) : SeqAt.shaped (.list ds) = true := by
  have h2 : PyData.depth (.list ds) ≤ 64 := by
    simp only [PyData.depth]
    omega
  show (PyData.canLay0 (.list ds) && decide (PyData.depth (.list ds) ≤ 64)) = true
  rw [decide_eq_true h2, Bool.and_true]
  exact listD_lay h
theorem iD_all {K : PySem.W.Frag} {H : Hp} : ∀ l : List Nat, DpAll K H (nL l) ((nI l).map .int)
  | [] => .nil
  | k :: l => .cons (.int _) (iD_all l)
theorem iD_lay : ∀ l : List Nat, PyData.canLayAll0 ((nI l).map .int) = true
  | [] => by simp [nI, PyData.canLayAll0]
  | k :: l => by
    have := iD_lay l
    unfold nI at this ⊢
    simp [PyData.canLayAll0, PyData.canLay0]
    simpa using this
theorem iD_deep : ∀ l : List Nat, PyData.depthAll ((nI l).map .int) ≤ 1
  | [] => by simp [nI, PyData.depthAll]
  | k :: l => by
    have := iD_deep l
    unfold nI at this ⊢
    simp only [List.map_cons, PyData.depthAll, PyData.depth]
    omega
abbrev s__law_stairs_right : Stmt := top 42
theorem sc__law_stairs_right : FnScope ["box", "count", "hues", "parents", "handed", "told", "due", "lamp"] ["box", "count", "hues"] (defScope s__law_stairs_right) := ⟨rfl, rfl, rfl, by decide +kernel, rfl, by decide +kernel, by decide +kernel⟩
-- slots of _law_stairs_right: 0 box, 1 count, 2 hues, 3 parents, 4 handed, 5 told, 6 due, 7 lamp
def spBoxed : Sp := fun vs H Q _ => ∃ (b ga la : Addr) (n h : Nat), vs = [.ref b, .int n, .int h] ∧ 1 ≤ n ∧ n ≤ 16 ∧ 2 ≤ h ∧ h ≤ 10 ∧ Bx H b ga la ∧ ∀ H', SB b H H' → Bx H' b ga la → Q (.bl true) H'
theorem ok__law_stairs_right (T : Txt K mg C) {f : Addr} {fd : FuncData} (F : Fun K "_law_stairs_right" "_law_stairs_right" s__law_stairs_right f fd) (c__law_parents : Cal P w K mg base "_law_parents" 2 spParents) (c_stairs : Cal P w K mg base "stairs" 7 (spStairs C)) (c__law_same_house : Cal P w K mg base "_law_same_house" 7 (spSameH C)) : FnOk P w K mg base CX0 8 f fd ["box", "count", "hues"] spBoxed := by
  refine F.ok sc__law_stairs_right (fun vs H Q E h => ?_) (fun cdv A outer s H vs Q E hr h => ?_)
  · obtain ⟨b, ga, la, n, h, rfl, _⟩ := h; rfl
  · obtain ⟨b, ga, la, n, h, rfl, n1, n16, h2, h10, hb, q⟩ := h
    refine ⟨_, (pss_cons (ps_set (i := 3) sc__law_stairs_right.nd rfl (by first | exact Or.inl rfl | exact Or.inr rfl) (pe_cal c__law_parents (hr.mono (by decide)) (pa_cons (pv 0) (pa_cons (pv 1) pa_nil))))
      (pss_cons (ps_set (i := 4) sc__law_stairs_right.nd rfl (by first | exact Or.inl rfl | exact Or.inr rfl) (pe_callTy (lstOf_ K) (by rfl) T.list b_list (pa_cons (pv 3) pa_nil)))
      (pss_cons (ps_set (i := 5) sc__law_stairs_right.nd rfl (by first | exact Or.inl rfl | exact Or.inr rfl) (pe_cal c_stairs (hr.mono (by decide)) (pa_cons (pv 4) (pa_cons (pv 2) pa_nil))))
      (pss_cons (ps_if (pt_cmpR (neDK K hr.units) (pv 4) (pv 3) (nomark _))
      (pss_one (ps_ret pe_bl)) pss_nil)
      (pss_cons (ps_expr (pe_bm PySem.F.plainAttrs_list PySem.F.slot_list_append PySem.F.type_list_append mt_append (pv 4) (pa_cons pe_int pa_nil)))
      (pss_cons (ps_asg pe_int (pg_sub (pv 4) pe_int set_list))
      (pss_cons (ps_setLc (i := 6) (own := [("lamp", 7)]) (g := gName 7) rfl sc__law_stairs_right.nd rfl rfl (sw_true rfl rfl rfl (by kernel_rfl)) (pi_range1 (by rfl) T.range (pa_cons (pv 1) pa_nil)) (blkOk_by (by kernel_rfl)) (fun _ _ _ _ _ => (pg_name (i := 7) sc__law_stairs_right.nd rfl (by first | exact Or.inl rfl | exact Or.inr rfl))) (fun _ _ _ _ _ => (pts_one (pt_cmpR op_notN (pe_ix (ixL_ K) (pv 3) (pv 7) (fun _ _ => rfl)) pe_non (nomark _)))) (fun _ _ _ _ _ => (pe_tup (pa_cons (pe_ix (ixL_ K) (pv 3) (pv 7) (fun _ _ => rfl)) (pa_cons (pv 7) pa_nil)))))
      (pss_one (ps_ret (pe_cal c__law_same_house (hr.mono (by decide)) (pa_cons (pv 5) (pa_cons (pv 1) (pa_cons (pv 2) (pa_cons (pv 6) pa_nil)))))))))))))), ?_⟩
    refine ⟨_, rfl, _, rfl, b, ga, la, n, rfl, n16, hb, fun pr D H1 lp ok s1 b1 nD hD => ?_⟩
    subst lp
    refine ⟨_, rfl, D, _, rfl, .inl (SqL.of hD), fun A1 nA => ?_⟩
    have s2 : Same H1 (upd H1 A1 (.lst (pr.map oV))) := same_new nA
    have hA : (upd H1 A1 (.lst (pr.map oV))) A1 = some (.lst (pr.map oV)) := upd_same
    have AD : A1 ≠ D := (ne_of_none hD nA).symm
    generalize upd H1 A1 (.lst (pr.map oV)) = H2 at s2 hA ⊢
    have hD2 := s2 _ _ hD
    refine ⟨_, rfl, _, rfl, A1, pr, h, rfl, hA, n1, n16, ok, h2, h10, fun x H3 H0 s3 n0 s0 hs => ?_⟩
    have hA3 := s3 _ _ hA
    have hD3 := s3 _ _ hD2
    refine ⟨_, rfl, _, rfl, .list (pr.map oD), .list (pr.map oD), .lst (SqL.of hA3) (oD_all pr), .lst (SqL.of hD3) (oD_all pr), listD_shaped (oD_lay pr) (oD_deep pr), listD_shaped (oD_lay pr) (oD_deep pr), _, rfl, ?_⟩
    rw [SeqAt.eqv_refl _ (listD_lay (oD_lay pr))]
    refine iteF ?_
    refine ⟨_, rfl, .inl ⟨rfl, _, SqL.of hA3⟩, A1, _, _, rfl, rfl, hA3, by rw [List.length_map, sizeLine_eq]; omega, ?_⟩
    have sb4 : SB A1 H3 (upd H3 A1 (.lst (pr.map oV ++ [.int 0]))) := (SB.refl A1 H3).upd
    have hA4 : (upd H3 A1 (.lst (pr.map oV ++ [.int 0]))) A1 = some (.lst (pr.map oV ++ [.int 0])) := upd_same
    generalize upd H3 A1 (.lst (pr.map oV ++ [.int 0])) = H4 at sb4 hA4 ⊢
    refine ⟨_, rfl, set_at hA4 (ixN_nat (k := 0) (by rw [List.length_append]; show 0 < _ + 1; omega)) fun H5 s5 h5 => ?_⟩
    have sb5 : SB A1 H3 H5 := sb4.trans s5
    have hs5 : HsOk C H5 x pr.length h (stL pr pr.length) := hs.same (SB.past s0 n0 sb5)
    have hD5 := sb5 _ _ AD.symm hD3
    have A0 : H A1 = none := by
      cases e : H A1 with
      | none => rfl
      | some o =>
        have nb : A1 ≠ b := (b1.new nA).1
        rw [s1 _ _ nb e] at nA
        cases nA
    have sbb : SB b H H5 := fun c o nc e => sb5 _ _ (ne_of_none e A0) (s3 _ _ (s2 _ _ (s1 _ _ nc e)))
    have b5 : Bx H5 b ga la := by
      obtain ⟨nb, ng, nl⟩ := b1.new nA
      obtain ⟨n1', n2', gs, ls, i1, i2, i3, e, g, l, r⟩ := b1
      exact ⟨n1', n2', gs, ls, i1, i2, i3, sb5 _ _ nb.symm (s3 _ _ (s2 _ _ e)), sb5 _ _ ng.symm (s3 _ _ (s2 _ _ g)), sb5 _ _ nl.symm (s3 _ _ (s2 _ _ l)), r⟩
    refine ⟨_, rfl, _, rfl, by omega, by omega, fun B hB => ?_⟩
    rw [Int.toNat_natCast]
    refine lc_range (fun i H6 => PL H5 H6 B (stL pr i)) (PL.nil hB) ?_ ?_
    · intro i H6 hi l6
      have e0 : (0 : Int) + (i : Int) = (i : Int) := by omega
      rw [e0]
      have s6 : Same H5 H6 := let ⟨_, _, _, s⟩ := l6; s
      have hD6 := s6 _ _ hD5
      obtain ⟨o, ho⟩ : ∃ o, pr[i]? = some o := ⟨_, List.getElem?_eq_getElem hi⟩
      have hv : (pr.map oV)[i]? = some (oV o) := by rw [List.getElem?_map, ho]; rfl
      have sl := stL_len pr i
      rw [stL_more]
      refine ⟨rfl, _, rfl, _, rfl, D, _, _, _, rfl, rfl, SqL.of hD6, atI_nat hv, rfl, _, rfl, ?_⟩
      cases o with
      | none =>
        refine iteF ?_
        have e : stF pr i = [] := by unfold stF; rw [ho]
        rw [e, List.append_nil]
        exact l6
      | some j =>
        have e : stF pr i = [(j, i)] := by unfold stF; rw [ho]
        rw [e]
        refine iteT ⟨_, rfl, _, rfl, D, _, _, _, rfl, rfl, SqL.of hD6, atI_nat hv, _, rfl, by show 2 ≤ sizeLine; decide, fun t2 nt2 => ?_⟩
        exact l6.one hB (Same.refl _) nt2 rfl rfl (by omega)
    · rintro H6 l6
      obtain ⟨ts, hB6, hp6, s6⟩ := l6
      have W := stL_ws n16 ok
      exact ⟨_, rfl, _, rfl, _, rfl, _, rfl, x, B, pr.length, h, _, _, ts, rfl, n1, n16, h2, h10, W, hs5.same s6, hB6, hp6, fun p => Iff.rfl, W.nd, fun H7 s7 => q H7 (sbb.trans (SB.of (s6.trans s7))) (b5.same (s6.trans s7))⟩
/-! ### a hillside -/
theorem hill_dn {r c i j : Nat} (hi : i < r) (hj : j < c) : i * c + j + c < r * c ↔ i + 1 < r := by
  constructor
  · intro h
    rcases Nat.lt_or_ge (i + 1) r with l | g
    · exact l
    · have : r * c ≤ (i + 1) * c := Nat.mul_le_mul_right c g
      rw [Nat.succ_mul] at this
      omega
  · intro h
    have : (i + 2) * c ≤ r * c := Nat.mul_le_mul_right c h
    rw [Nat.succ_mul, Nat.succ_mul] at this
    omega
theorem hill_ac {c i j : Nat} (hj : j < c) : 0 < (i * c + j + 1) % c ↔ j + 1 < c := by
  have e : (i * c + j + 1) % c = (j + 1) % c := by rw [Nat.add_assoc, Nat.add_comm, Nat.add_mul_mod_self_right]
  rw [e]
  constructor
  · intro h
    rcases Nat.lt_or_ge (j + 1) c with l | g
    · exact l
    · have z : j + 1 = c := by omega
      rw [z, Nat.mod_self] at h
      exact absurd h (Nat.lt_irrefl _)
  · intro h
    rw [Nat.mod_eq_of_lt h]
    omega
theorem hill_in {r c i j : Nat} (hi : i < r) (hj : j < c) : i * c + j < r * c := by
  have : (i + 1) * c ≤ r * c := Nat.mul_le_mul_right c hi
  rw [Nat.succ_mul] at this
  omega
abbrev s__law_hillside_right : Stmt := top 43
theorem sc__law_hillside_right : FnScope ["rows", "columns", "hues", "due", "i", "j"] ["rows", "columns", "hues"] (defScope s__law_hillside_right) := ⟨rfl, rfl, rfl, by decide +kernel, rfl, by decide +kernel, by decide +kernel⟩
-- slots of _law_hillside_right: 0 rows, 1 columns, 2 hues, 3 due, 4 i, 5 j
def spHillRight : Sp := fun vs H Q _ => ∃ (r c h : Nat), vs = [.int r, .int c, .int h] ∧ 1 ≤ r ∧ 1 ≤ c ∧ r * c ≤ 16 ∧ 2 ≤ h ∧ h ≤ 10 ∧ ∀ H', Same H H' → Q (.bl true) H'
theorem ok__law_hillside_right (T : Txt K mg C) {f : Addr} {fd : FuncData} (F : Fun K "_law_hillside_right" "_law_hillside_right" s__law_hillside_right f fd) (c_hillside : Cal P w K mg base "hillside" 7 (spHillside C)) (c__law_same_house : Cal P w K mg base "_law_same_house" 7 (spSameH C)) : FnOk P w K mg base CX0 8 f fd ["rows", "columns", "hues"] spHillRight := by
  refine F.ok sc__law_hillside_right (fun vs H Q E h => ?_) (fun cdv A outer s H vs Q E hr h => ?_)
  · obtain ⟨r, c, h, rfl, _⟩ := h; rfl
  · obtain ⟨r, c, h, rfl, r1, c1, rc, h2, h10, q⟩ := h
    have r16 : r ≤ 16 := Nat.le_trans (Nat.le_mul_of_pos_right r c1) rc
    have c16 : c ≤ 16 := Nat.le_trans (Nat.le_mul_of_pos_left c r1) rc
    have m1 : 1 ≤ r * c := Nat.mul_pos r1 c1
    have ec : (r : Int) * (c : Int) = ((r * c : Nat) : Int) := (Int.natCast_mul r c).symm
    refine ⟨_, (pss_cons (ps_set (i := 3) sc__law_hillside_right.nd rfl (by first | exact Or.inl rfl | exact Or.inr rfl) (pe_lst pa_nil))
      (pss_cons (ps_for PassesOwn.never rfl (pi_range1 (by rfl) T.range (pa_cons (pv 0) pa_nil)) (pg_name (i := 4) sc__law_hillside_right.nd rfl (by first | exact Or.inl rfl | exact Or.inr rfl))
      (pss_one (ps_for PassesOwn.never rfl (pi_range1 (by rfl) T.range (pa_cons (pv 1) pa_nil)) (pg_name (i := 5) sc__law_hillside_right.nd rfl (by first | exact Or.inl rfl | exact Or.inr rfl))
      (C8.pss_cut (ps_if (pt_cmpR op_lt (pe_op op_add (pv 4) pe_int) (pv 0) (nomark _))
      (pss_one (ps_expr (pe_bm PySem.F.plainAttrs_list PySem.F.slot_list_append PySem.F.type_list_append mt_append (pv 3) (pa_cons (pe_tup (pa_cons (pe_op op_add (pe_op op_mul (pv 4) (pv 1)) (pv 5)) (pa_cons (pe_op op_add (pe_op op_mul (pe_op op_add (pv 4) pe_int) (pv 1)) (pv 5)) pa_nil))) pa_nil)))) pss_nil)
      (pss_one (ps_if (pt_cmpR op_lt (pe_op op_add (pv 5) pe_int) (pv 1) (nomark _))
      (pss_one (ps_expr (pe_bm PySem.F.plainAttrs_list PySem.F.slot_list_append PySem.F.type_list_append mt_append (pv 3) (pa_cons (pe_tup (pa_cons (pe_op op_add (pe_op op_mul (pv 4) (pv 1)) (pv 5)) (pa_cons (pe_op op_add (pe_op op_add (pe_op op_mul (pv 4) (pv 1)) (pv 5)) pe_int) pa_nil))) pa_nil)))) pss_nil))))))
      (pss_one (ps_ret (pe_cal c__law_same_house (hr.mono (by decide)) (pa_cons (pe_cal c_hillside (hr.mono (by decide)) (pa_cons (pv 0) (pa_cons (pv 1) (pa_cons (pv 2) pa_nil)))) (pa_cons (pe_op op_mul (pv 0) (pv 1)) (pa_cons (pv 2) (pa_cons (pv 3) pa_nil))))))))), ?_⟩
    refine ⟨by decide, fun D hD => ?_⟩
    refine ⟨_, rfl, _, rfl, by omega, by omega, ?_⟩
    rw [Int.toNat_natCast]
    refine for_range (fun i σ H2 => ∃ v4 v5 : Option V, σ = [some (.int r), some (.int c), some (.int h), some (.ref D), v4, v5] ∧ PL H H2 D (hiL c (r * c) (i * c))) ⟨_, _, rfl, by rw [Nat.zero_mul]; exact PL.nil hD⟩ ?_ ?_
    · rintro i σ H2 hi ⟨v4, v5, rfl, l2⟩
      have e0 : (0 : Int) + (i : Int) = (i : Int) := by omega
      rw [e0]
      refine ⟨_, rfl, _, rfl, by omega, by omega, ?_⟩
      rw [Int.toNat_natCast]
      refine for_range (fun j σ H3 => ∃ v5 : Option V, σ = [some (.int r), some (.int c), some (.int h), some (.ref D), some (.int (i : Int)), v5] ∧ PL H H3 D (hiL c (r * c) (i * c + j))) ⟨_, rfl, l2⟩ ?_ ?_
      · rintro j σ H3 hj ⟨v5, rfl, l3⟩
        have e0 : (0 : Int) + (j : Int) = (j : Int) := by omega
        rw [e0]
        have em : (i : Int) * (c : Int) = ((i * c : Nat) : Int) := (Int.natCast_mul i c).symm
        have em1 : ((i : Int) + 1) * (c : Int) = ((i * c + c : Nat) : Int) := by rw [Int.add_mul, Int.one_mul, em]; omega
        have few := hi_len c (r * c) (i * c + j)
        have inn := hill_in hi hj
        have cuts : ∀ (X : Prop), decide ((i : Int) + 1 < (r : Int)) = decide (i * c + j + c < r * c) := fun _ => decide_eq_decide.mpr (by rw [hill_dn hi hj]; omega)
        refine ⟨fun σ H4 => σ = [some (.int r), some (.int c), some (.int h), some (.ref D), some (.int (i : Int)), some (.int (j : Int))] ∧ PL H H4 D (hiL c (r * c) (i * c + j) ++ (if i * c + j + c < r * c then [(i * c + j, i * c + j + c)] else [])), ?_, ?_⟩
        · refine ⟨_, rfl, _, _, rfl, rfl, _, rfl, _, _, rfl, rfl, _, rfl, ?_⟩
          refine ite2 (fun hy => ?_) (fun hn => ?_)
          · have hy2 : i * c + j + c < r * c := (hill_dn hi hj).mpr (by have := of_decide_eq_true hy; omega)
            rw [if_pos hy2]
            obtain ⟨xs, hx, lx⟩ := l3.len
            refine ⟨_, rfl, .inl ⟨rfl, _, SqL.of hx⟩, ?_⟩
            refine ⟨_, rfl, _, rfl, _, _, rfl, rfl, .inr ⟨by omega, by omega⟩, _, rfl, _, _, rfl, rfl, _, rfl, _, _, rfl, rfl, _, rfl, _, _, rfl, rfl, .inr ⟨by omega, by omega⟩, _, rfl, _, _, rfl, rfl, by show 2 ≤ sizeLine; decide, fun t nt => ?_⟩
            obtain ⟨acc, a1, a2, a3⟩ := l3.one (p := (i * c + j, i * c + j + c)) hD (Same.refl _) nt (a := (i : Int) * (c : Int) + (j : Int)) (b := ((i : Int) + 1) * (c : Int) + (j : Int)) (by rw [em]; show ((i * c : Nat) : Int) + (j : Int) = ((i * c + j : Nat) : Int); omega) (by rw [em1]; show ((i * c + c : Nat) : Int) + (j : Int) = ((i * c + j + c : Nat) : Int); omega) (by omega)
            exact ⟨D, acc, _, rfl, rfl, a1, a2, rfl, a3⟩
          · have hn2 : ¬ i * c + j + c < r * c := fun z => hn (decide_eq_true (by have := (hill_dn hi hj).mp z; omega))
            rw [if_neg hn2, List.append_nil]
            exact ⟨rfl, l3⟩
        rintro σ H4 ⟨rfl, l4⟩
        have fewh := hiF_len c (r * c) (i * c + j)
        have eh : hiL c (r * c) (i * c + (j + 1)) = (hiL c (r * c) (i * c + j) ++ (if i * c + j + c < r * c then [(i * c + j, i * c + j + c)] else [])) ++ (if 0 < (i * c + j + 1) % c then [(i * c + j, i * c + j + 1)] else []) := by
          rw [← Nat.add_assoc, hiL_more, List.append_assoc]
          rfl
        rw [eh]
        have fewd : (hiL c (r * c) (i * c + j) ++ (if i * c + j + c < r * c then [(i * c + j, i * c + j + c)] else [])).length < 10000 := by
          rw [List.length_append]
          split <;> simp <;> omega
        generalize hiL c (r * c) (i * c + j) ++ (if i * c + j + c < r * c then [(i * c + j, i * c + j + c)] else []) = dd at l4 fewd
        refine ⟨_, rfl, _, _, rfl, rfl, _, rfl, _, _, rfl, rfl, _, rfl, ?_⟩
        refine ite2 (fun hy => ?_) (fun hn => ?_)
        · have hy2 : 0 < (i * c + j + 1) % c := (hill_ac hj).mpr (by have := of_decide_eq_true hy; omega)
          rw [if_pos hy2]
          obtain ⟨xs, hx, lx⟩ := l4.len
          refine ⟨_, rfl, .inl ⟨rfl, _, SqL.of hx⟩, ?_⟩
          refine ⟨_, rfl, _, rfl, _, _, rfl, rfl, .inr ⟨by omega, by omega⟩, _, rfl, _, _, rfl, rfl, _, rfl, _, rfl, _, _, rfl, rfl, .inr ⟨by omega, by omega⟩, _, rfl, _, _, rfl, rfl, _, _, rfl, rfl, by show 2 ≤ sizeLine; decide, fun t nt => ?_⟩
          obtain ⟨acc, a1, a2, a3⟩ := l4.one (p := (i * c + j, i * c + j + 1)) hD (Same.refl _) nt (a := (i : Int) * (c : Int) + (j : Int)) (b := (i : Int) * (c : Int) + (j : Int) + 1) (by rw [em]; show ((i * c : Nat) : Int) + (j : Int) = ((i * c + j : Nat) : Int); omega) (by rw [em]; show ((i * c : Nat) : Int) + (j : Int) + 1 = ((i * c + j + 1 : Nat) : Int); omega) fewd
          exact ⟨D, acc, _, rfl, rfl, a1, a2, _, rfl, a3⟩
        · have hn2 : ¬ 0 < (i * c + j + 1) % c := fun z => hn (decide_eq_true (by have := (hill_ac hj).mp z; omega))
          rw [if_neg hn2, List.append_nil]
          exact ⟨_, rfl, l4⟩
      · rintro σ H3 ⟨v5, rfl, l3⟩
        refine ⟨_, _, rfl, ?_⟩
        rw [Nat.succ_mul]
        exact l3
    · rintro σ H2 ⟨v4, v5, rfl, l2⟩
      obtain ⟨ts, hd, hp, s2⟩ := l2
      refine ⟨_, rfl, _, rfl, _, rfl, r, c, h, rfl, r1, c1, rc, h2, h10, fun x H3 s3 hs => ?_⟩
      refine ⟨_, rfl, _, rfl, _, _, rfl, rfl, .inr ⟨by omega, by omega⟩, ?_⟩
      dsimp only
      rw [ec]
      exact ⟨_, rfl, _, rfl, x, D, r * c, h, _, _, ts, rfl, m1, rc, h2, h10, dnac_ws c1 (Nat.dvd_mul_left c r) rc, hs, s3 _ _ hd, hp.same s3, fun p => mem_hi, hiL_nd _ _ _, fun H4 s4 => q H4 ((s2.trans s3).trans s4)⟩
end
end Hue

end
section
set_option maxRecDepth 100000
set_option maxHeartbeats 4000000
namespace Hue
open PySem PySem.Spec PyProof.Rows L2
section
variable {P : Program} {w : World} {K : PySem.W.Frag} {mg : Str → Option Value} {base : Heap} {C CL : Addr}
theorem vi {a b : Int} (h : a = b) : [V.int a] = [V.int b] := by rw [h]
theorem vi2 {a b c d : Int} (h : a = b) (g : c = d) : [V.int a, V.int c] = [V.int b, V.int d] := by rw [h, g]
/-! ### sizes of floors -/
abbrev s__law_sizes_list : Stmt := top 44
theorem sc__law_sizes_list : FnScope ["box", "most", "left", "found", "k"] ["box", "most"] (defScope s__law_sizes_list) := ⟨rfl, rfl, rfl, by decide +kernel, rfl, by decide +kernel, by decide +kernel⟩
-- slots of _law_sizes_list: 0 box, 1 most, 2 left, 3 found, 4 k
def spSizesList : Sp := fun vs H Q _ => ∃ (b ga la : Addr) (m : Nat), vs = [.ref b, .int m] ∧ 1 ≤ m ∧ m ≤ 16 ∧ Bx H b ga la ∧ ∀ (sz : List Nat) (t : Addr) (H' : Hp), SzOk sz → SB b H H' → Bx H' b ga la → H t = none → H' t = some (.lst (nL sz)) → Q (.ref t) H'
theorem ok__law_sizes_list (T : Txt K mg C) {f : Addr} {fd : FuncData} (F : Fun K "_law_sizes_list" "_law_sizes_list" s__law_sizes_list f fd) (c__law_take : Cal P w K mg base "_law_take" 1 spTake) : FnOk P w K mg base CX0 2 f fd ["box", "most"] spSizesList := by
  refine F.ok sc__law_sizes_list (fun vs H Q E h => ?_) (fun cdv A outer s H vs Q E hr h => ?_)
  · obtain ⟨b, ga, la, m, rfl, _⟩ := h; rfl
  · obtain ⟨b, ga, la, m, rfl, m1, m16, hb, q⟩ := h
    refine ⟨_, (pss_cons (ps_set (i := 2) sc__law_sizes_list.nd rfl (by first | exact Or.inl rfl | exact Or.inr rfl) (pv 1))
      (pss_cons (ps_set (i := 3) sc__law_sizes_list.nd rfl (by first | exact Or.inl rfl | exact Or.inr rfl) (pe_lst pa_nil))
      (pss_cons (ps_for PassesOwn.never rfl (pi_range1 (by rfl) T.range (pa_cons (pv 1) pa_nil)) (pg_name (i := 4) sc__law_sizes_list.nd rfl (by first | exact Or.inl rfl | exact Or.inr rfl))
      (pss_one (ps_if (pt_cmpR op_gt (pv 2) pe_int (nomark _))
      (pss_cons (ps_expr (pe_bm PySem.F.plainAttrs_list PySem.F.slot_list_append PySem.F.type_list_append mt_append (pv 3) (pa_cons (pe_op op_add pe_int (pe_cal c__law_take (hr.mono (by decide)) (pa_cons (pv 0) (pa_cons (pv 2) pa_nil)))) pa_nil)))
      (pss_cons (ps_set (i := 2) sc__law_sizes_list.nd rfl (by first | exact Or.inl rfl | exact Or.inr rfl) (pe_op op_sub (pv 2) (pe_ix (ixL_ K) (pv 3) (pe_un un_neg pe_int) (fun _ _ => rfl))))
      (pss_one (ps_if (pt_cmpR op_eq (pe_cal c__law_take (hr.mono (by decide)) (pa_cons (pv 0) (pa_cons pe_int pa_nil))) pe_int (nomark _))
      (pss_one (ps_set (i := 2) sc__law_sizes_list.nd rfl (by first | exact Or.inl rfl | exact Or.inr rfl) pe_int)) pss_nil)))) pss_nil)))
      (pss_one (ps_ret (pv 3)))))), ?_⟩
    refine ⟨_, rfl, by decide, fun D hD => ?_⟩
    obtain ⟨Db, Dg, Dl⟩ := hb.new hD
    refine ⟨_, rfl, _, rfl, by omega, by omega, ?_⟩
    rw [Int.toNat_natCast]
    refine for_range (fun i σ H2 => ∃ (v4 : Option V) (left : Nat) (sz : List Nat), σ = [some (.ref b), some (.int m), some (.int (left : Nat)), some (.ref D), v4] ∧ SB b H H2 ∧ Bx H2 b ga la ∧ H2 D = some (.lst (nL sz)) ∧ sz.length ≤ i ∧ (∀ a ∈ sz, 1 ≤ a) ∧ sz.sum + left ≤ m ∧ (sz.length = 0 → i = 0 ∧ left = m))
      ⟨_, m, [], rfl, SB.of (same_new hD), hb.upd Db Dg Dl, upd_same, Nat.le_refl _, fun a h => (by cases h), by simp, fun _ => ⟨rfl, rfl⟩⟩ ?_ ?_
    · rintro i σ H2 hi ⟨v4, left, sz, rfl, s2, b2, h2, ls, pos, sm, st⟩
      refine ⟨_, rfl, _, _, rfl, rfl, _, rfl, ?_⟩
      refine ite2 (fun hp => ?_) (fun hp => ?_)
      · have lp : 1 ≤ left := by have := of_decide_eq_true hp; omega
        refine ⟨_, rfl, .inl ⟨rfl, _, SqL.of h2⟩, _, rfl, _, rfl, b, ga, la, left, rfl, lp, by omega, b2, fun d H3 hd s3 b3 => ⟨_, _, rfl, rfl, ?_⟩⟩
        have h3 := s3 _ _ Db h2
        refine ⟨D, _, _, rfl, rfl, h3, by rw [nL_len, sizeLine_eq]; omega, ?_⟩
        dsimp only
        have e1 : V.int ((1 : Int) + (d : Int)) = V.int ((d + 1 : Nat) : Int) := by congr 1; omega
        rw [e1, ← nL_one, ← nL_app]
        have b4 := b3.upd (o := .lst (nL (sz ++ [d + 1]))) Db Dg Dl
        have h4 : (upd H3 D (.lst (nL (sz ++ [d + 1])))) D = some (.lst (nL (sz ++ [d + 1]))) := upd_same
        have s4 : SB b H (upd H3 D (.lst (nL (sz ++ [d + 1])))) := fun c o nc e => by rw [upd_ne (ne_of_none e hD)]; exact (s2.trans s3) c o nc e
        generalize upd H3 D (.lst (nL (sz ++ [d + 1]))) = H4 at b4 h4 s4 ⊢
        have al : atI (nL (sz ++ [d + 1])) (-1) = some (V.int ((d + 1 : Nat) : Int)) := by
          rw [nL_app, nL_one]; exact atI_last _ _
        refine ⟨_, rfl, _, rfl, _, rfl, D, _, _, _, rfl, rfl, SqL.of h4, al, _, _, rfl, rfl, ?_⟩
        dsimp only
        rw [show (left : Int) - ((d + 1 : Nat) : Int) = ((left - (d + 1) : Nat) : Int) by omega]
        refine ⟨_, rfl, b, ga, la, 5, rfl, by decide, by decide, b4, fun e H5 he s5 b5 => ?_⟩
        have h5 := s5 _ _ Db h4
        have pos' : ∀ a ∈ sz ++ [d + 1], 1 ≤ a := fun a ha => by
          rcases List.mem_append.mp ha with ha | ha
          · exact pos a ha
          · rw [List.mem_singleton.mp ha]; omega
        have sum' : (sz ++ [d + 1]).sum = sz.sum + (d + 1) := by rw [List.sum_append]; simp
        have len' : (sz ++ [d + 1]).length = sz.length + 1 := by rw [List.length_append]; rfl
        refine ⟨rfl, _, rfl, ?_⟩
        refine ite2 (fun _ => ?_) (fun _ => ?_)
        · exact ⟨_, 0, _, rfl, s4.trans s5, b5, h5, by omega, pos', by omega, fun z => (by omega)⟩
        · exact ⟨_, left - (d + 1), _, rfl, s4.trans s5, b5, h5, by omega, pos', by omega, fun z => (by omega)⟩
      · have l0 : left = 0 := by
          rcases Nat.eq_zero_or_pos left with z | z
          · exact z
          · exact absurd (decide_eq_true (by omega)) hp
        refine ⟨_, left, sz, rfl, s2, b2, h2, by omega, pos, sm, fun z => ?_⟩
        have := (st z).2
        omega
    · rintro σ H2 ⟨v4, left, sz, rfl, s2, b2, h2, ls, pos, sm, st⟩
      have ne : 1 ≤ sz.length := by
        rcases Nat.eq_zero_or_pos sz.length with z | z
        · have := (st z).1; omega
        · exact z
      exact ⟨_, rfl, q sz D H2 ⟨ne, by omega, pos, by omega⟩ s2 b2 hD h2⟩
abbrev s__law_floors_right : Stmt := top 45
theorem sc__law_floors_right : FnScope ["box", "most", "hues", "many", "due", "start", "k", "v", "w", "handed", "told"] ["box", "most", "hues"] (defScope s__law_floors_right) := ⟨rfl, rfl, rfl, by decide +kernel, rfl, by decide +kernel, by decide +kernel⟩
-- slots of _law_floors_right: 0 box, 1 most, 2 hues, 3 many, 4 due, 5 start, 6 k, 7 v, 8 w, 9 handed, 10 told
theorem ok__law_floors_right (T : Txt K mg C) {f : Addr} {fd : FuncData} (F : Fun K "_law_floors_right" "_law_floors_right" s__law_floors_right f fd) (c__law_sizes_list : Cal P w K mg base "_law_sizes_list" 2 spSizesList) (c_floors : Cal P w K mg base "floors" 7 (spFloors C)) (c__law_same_house : Cal P w K mg base "_law_same_house" 7 (spSameH C)) : FnOk P w K mg base CX0 8 f fd ["box", "most", "hues"] spBoxed := by
  refine F.ok sc__law_floors_right (fun vs H Q E h => ?_) (fun cdv A outer s H vs Q E hr h => ?_)
  · obtain ⟨b, ga, la, n, h, rfl, _⟩ := h; rfl
  · obtain ⟨b, ga, la, n, h, rfl, n1, n16, h2, h10, hb, q⟩ := h
    refine ⟨_, (pss_cons (ps_set (i := 3) sc__law_floors_right.nd rfl (by first | exact Or.inl rfl | exact Or.inr rfl) (pe_cal c__law_sizes_list (hr.mono (by decide)) (pa_cons (pv 0) (pa_cons (pv 1) pa_nil))))
      (pss_cons (ps_set (i := 4) sc__law_floors_right.nd rfl (by first | exact Or.inl rfl | exact Or.inr rfl) (pe_lst pa_nil))
      (pss_cons (ps_set (i := 5) sc__law_floors_right.nd rfl (by first | exact Or.inl rfl | exact Or.inr rfl) pe_int)
      (pss_cons (ps_for PassesOwn.never rfl (pi_range1 (by rfl) T.range (pa_cons (pe_op op_sub (pe_callB (lenS_ K) (by rfl) T.len b_len (pa_cons (pv 3) pa_nil)) pe_int) pa_nil)) (pg_name (i := 6) sc__law_floors_right.nd rfl (by first | exact Or.inl rfl | exact Or.inr rfl))
      (pss_cons (ps_for PassesOwn.never rfl (pi_range2 (by rfl) T.range (pa_cons (pv 5) (pa_cons (pe_op op_add (pv 5) (pe_ix (ixL_ K) (pv 3) (pv 6) (fun _ _ => rfl))) pa_nil))) (pg_name (i := 7) sc__law_floors_right.nd rfl (by first | exact Or.inl rfl | exact Or.inr rfl))
      (pss_one (ps_for PassesOwn.never rfl (pi_range2 (by rfl) T.range (pa_cons (pe_op op_add (pv 5) (pe_ix (ixL_ K) (pv 3) (pv 6) (fun _ _ => rfl))) (pa_cons (pe_op op_add (pe_op op_add (pv 5) (pe_ix (ixL_ K) (pv 3) (pv 6) (fun _ _ => rfl))) (pe_ix (ixL_ K) (pv 3) (pe_op op_add (pv 6) pe_int) (fun _ _ => rfl))) pa_nil))) (pg_name (i := 8) sc__law_floors_right.nd rfl (by first | exact Or.inl rfl | exact Or.inr rfl))
      (pss_one (ps_expr (pe_bm PySem.F.plainAttrs_list PySem.F.slot_list_append PySem.F.type_list_append mt_append (pv 4) (pa_cons (pe_tup (pa_cons (pv 7) (pa_cons (pv 8) pa_nil))) pa_nil)))))))
      (pss_one (ps_set (i := 5) sc__law_floors_right.nd rfl (by first | exact Or.inl rfl | exact Or.inr rfl) (pe_op op_add (pv 5) (pe_ix (ixL_ K) (pv 3) (pv 6) (fun _ _ => rfl)))))))
      (pss_cons (ps_set (i := 9) sc__law_floors_right.nd rfl (by first | exact Or.inl rfl | exact Or.inr rfl) (pe_callTy (lstOf_ K) (by rfl) T.list b_list (pa_cons (pv 3) pa_nil)))
      (pss_cons (ps_set (i := 10) sc__law_floors_right.nd rfl (by first | exact Or.inl rfl | exact Or.inr rfl) (pe_cal c_floors (hr.mono (by decide)) (pa_cons (pv 9) (pa_cons (pv 2) pa_nil))))
      (pss_cons (ps_if (pt_cmpR (neDK K hr.units) (pv 9) (pv 3) (nomark _))
      (pss_one (ps_ret pe_bl)) pss_nil)
      (pss_cons (ps_expr (pe_bm PySem.F.plainAttrs_list PySem.F.slot_list_append PySem.F.type_list_append mt_append (pv 9) (pa_cons pe_int pa_nil)))
      (pss_cons (ps_asg (pe_op op_add (pe_ix (ixL_ K) (pv 9) pe_int (fun _ _ => rfl)) pe_int) (pg_sub (pv 9) pe_int set_list))
      (pss_one (ps_ret (pe_cal c__law_same_house (hr.mono (by decide)) (pa_cons (pv 10) (pa_cons (pe_callB (sum_ K rfl) (by rfl) T.sum b_sum (pa_cons (pv 3) pa_nil)) (pa_cons (pv 2) (pa_cons (pv 4) pa_nil)))))))))))))))), ?_⟩
    refine ⟨_, rfl, _, rfl, b, ga, la, n, rfl, n1, n16, hb, fun sz M H1 ok s1 b1 nM hM => ?_⟩
    have sum1 := ok.sum1
    have s16 := ok.sum
    have ne := ok.ne
    have fewz := ok.few
    refine ⟨by decide, fun D hD => ?_⟩
    have l1 : PL H1 (upd H1 D (.lst [])) D [] := PL.nil hD
    generalize upd H1 D (.lst []) = H2 at l1 ⊢
    refine ⟨_, rfl, M, _, rfl, .inl (SqL.of ((let ⟨_, _, _, s⟩ := l1; s) _ _ hM)), _, _, rfl, rfl, ?_⟩
    refine ⟨((sz.length - 1 : Nat) : Int), vi (by rw [nL_len]; omega), by omega, by omega, ?_⟩
    rw [Int.toNat_natCast]
    refine for_range (fun k σ H3 => ∃ v6 v7 v8 v9 v10 : Option V, σ = [some (.ref b), some (.int n), some (.int h), some (.ref M), some (.ref D), some (.int (preS sz k : Nat)), v6, v7, v8, v9, v10] ∧ PL H1 H3 D (flL sz k)) ?_ ?_ ?_
    · exact ⟨_, _, _, _, _, by rw [show preS sz 0 = 0 from rfl]; rfl, l1⟩
    · rintro k σ H3 hk ⟨v6, v7, v8, v9, v10, rfl, l3⟩
      have e0 : (0 : Int) + (k : Int) = (k : Int) := by omega
      rw [e0]
      obtain ⟨u, hu⟩ : ∃ u, sz[k]? = some u := ⟨_, List.getElem?_eq_getElem (by omega : k < sz.length)⟩
      obtain ⟨v, hv⟩ : ∃ v, sz[k + 1]? = some v := ⟨_, List.getElem?_eq_getElem (by omega : k + 1 < sz.length)⟩
      have p1 : preS sz (k + 1) = preS sz k + u := preS_more hu
      have p2 : preS sz (k + 2) = preS sz (k + 1) + v := preS_more hv
      have a1 := preS_all sz (k + 1)
      have a2 := preS_all sz (k + 2)
      have hM3 := (let ⟨_, _, _, s⟩ := l3; s) _ _ hM
      have eu : ((preS sz k : Nat) : Int) + (u : Int) = ((preS sz (k + 1) : Nat) : Int) := by omega
      have ev : ((preS sz (k + 1) : Nat) : Int) + (v : Int) = ((preS sz (k + 2) : Nat) : Int) := by omega
      refine ⟨_, rfl, _, rfl, _, rfl, _, rfl, M, _, _, _, rfl, rfl, SqL.of hM3, atI_nat (nL_get hu), _, _, rfl, rfl, ?_⟩
      refine ⟨((preS sz k : Nat) : Int), ((preS sz (k + 1) : Nat) : Int), vi2 rfl eu, ⟨by omega, by omega, by omega, by omega⟩, ?_⟩
      rw [show (((preS sz (k + 1) : Nat) : Int) - ((preS sz k : Nat) : Int)).toNat = preS sz (k + 1) - preS sz k by omega]
      have few0 := (flL_ws (sz := sz) k s16).few
      refine for_range (fun i σ H4 => ∃ v7 v8 v9 v10 : Option V, σ = [some (.ref b), some (.int n), some (.int h), some (.ref M), some (.ref D), some (.int (preS sz k : Nat)), some (.int (k : Int)), v7, v8, v9, v10] ∧ PL H1 H4 D (flL sz k ++ awL (preS sz k) (preS sz (k + 1)) (preS sz (k + 2)) i)) ⟨_, _, _, _, rfl, by rw [show awL (preS sz k) (preS sz (k + 1)) (preS sz (k + 2)) 0 = [] from rfl, List.append_nil]; exact l3⟩ ?_ ?_
      · rintro i σ H4 hi ⟨v7, v8, v9, v10, rfl, l4⟩
        have hM4 := (let ⟨_, _, _, s⟩ := l4; s) _ _ hM
        refine ⟨_, rfl, _, rfl, _, rfl, M, _, _, _, rfl, rfl, SqL.of hM4, atI_nat (nL_get hu), _, _, rfl, rfl, ?_⟩
        refine ⟨_, rfl, _, rfl, _, rfl, M, _, _, _, rfl, rfl, SqL.of hM4, atI_nat (nL_get hu), _, _, rfl, rfl, ?_⟩
        refine ⟨_, rfl, _, rfl, _, _, rfl, rfl, M, _, _, _, rfl, rfl, SqL.of hM4, atI_nat (nL_get (i := k + 1) hv), _, _, rfl, rfl, ?_⟩
        refine ⟨((preS sz (k + 1) : Nat) : Int), ((preS sz (k + 2) : Nat) : Int), vi2 eu (by rw [eu, ev]), ⟨by omega, by omega, by omega, by omega⟩, ?_⟩
        rw [show (((preS sz (k + 2) : Nat) : Int) - ((preS sz (k + 1) : Nat) : Int)).toNat = preS sz (k + 2) - preS sz (k + 1) by omega]
        have lw := awL_len (preS sz k) (preS sz (k + 1)) (preS sz (k + 2)) i
        have lm : i * (preS sz (k + 2) - preS sz (k + 1)) ≤ 16 * 16 := Nat.mul_le_mul (by omega) (by omega)
        refine for_range (fun j σ H5 => ∃ v8 v9 v10 : Option V, σ = [some (.ref b), some (.int n), some (.int h), some (.ref M), some (.ref D), some (.int (preS sz k : Nat)), some (.int (k : Int)), some (.int ((preS sz k : Nat) + (i : Int))), v8, v9, v10] ∧ PL H1 H5 D (flL sz k ++ awL (preS sz k) (preS sz (k + 1)) (preS sz (k + 2)) i ++ awP (preS sz (k + 1)) (preS sz k + i) j)) ⟨_, _, _, rfl, by rw [show awP (preS sz (k + 1)) (preS sz k + i) 0 = [] from rfl, List.append_nil]; exact l4⟩ ?_ ?_
        · rintro j σ H5 hj ⟨v8, v9, v10, rfl, l5⟩
          obtain ⟨xs, hx, lx⟩ := l5.len
          have lp : (awP (preS sz (k + 1)) (preS sz k + i) j).length = j := by unfold awP; rw [List.length_map, List.length_range]
          refine ⟨_, rfl, .inl ⟨rfl, _, SqL.of hx⟩, _, rfl, _, rfl, by show 2 ≤ sizeLine; decide, fun t nt => ?_⟩
          obtain ⟨acc, c1, c2, c3⟩ := l5.one (p := (preS sz k + i, preS sz (k + 1) + j)) hD (Same.refl _) nt (a := ((preS sz k : Nat) : Int) + (i : Int)) (b := ((preS sz (k + 1) : Nat) : Int) + (j : Int)) (by show _ = ((preS sz k + i : Nat) : Int); omega) (by show _ = ((preS sz (k + 1) + j : Nat) : Int); omega) (by rw [List.length_append, List.length_append]; omega)
          refine ⟨D, acc, _, rfl, rfl, c1, c2, _, _, _, rfl, ?_⟩
          rw [awP_more, ← List.append_assoc]
          exact c3
        · rintro σ H5 ⟨v8, v9, v10, rfl, l5⟩
          refine ⟨_, _, _, _, rfl, ?_⟩
          rw [awL_more, ← List.append_assoc]
          exact l5
      · rintro σ H4 ⟨v7, v8, v9, v10, rfl, l4⟩
        have hM4 := (let ⟨_, _, _, s⟩ := l4; s) _ _ hM
        refine ⟨_, rfl, _, rfl, _, rfl, M, _, _, _, rfl, rfl, SqL.of hM4, atI_nat (nL_get hu), _, _, rfl, rfl, ?_⟩
        refine ⟨some (.int (k : Int)), v7, v8, v9, v10, ?_, ?_⟩
        · show [some (V.ref b), some (V.int n), some (V.int h), some (V.ref M), some (V.ref D), some (V.int (((preS sz k : Nat) : Int) + (u : Int))), some (V.int (k : Int)), v7, v8, v9, v10] = _
          rw [eu]
        · rw [flL_more]
          exact l4
    · rintro σ H3 ⟨v6, v7, v8, v9, v10, rfl, l3⟩
      obtain ⟨ts, hD3, hp3, s3⟩ := l3
      have hM3 := s3 _ _ hM
      refine ⟨_, rfl, M, _, rfl, .inl (SqL.of hM3), fun A1 nA => ?_⟩
      have t1 : Same H3 (upd H3 A1 (.lst (nL sz))) := same_new nA
      have hA : (upd H3 A1 (.lst (nL sz))) A1 = some (.lst (nL sz)) := upd_same
      have AD : A1 ≠ D := (ne_of_none hD3 nA).symm
      have AM : A1 ≠ M := (ne_of_none hM3 nA).symm
      have nA1 : H1 A1 = none := s3.free nA
      generalize upd H3 A1 (.lst (nL sz)) = H4 at t1 hA ⊢
      refine ⟨_, rfl, _, rfl, A1, sz, h, rfl, hA, ok, h2, h10, fun x H5 H0 s5 n0 s0 hs => ?_⟩
      have hA5 := s5 _ _ hA
      have hM5 := s5 _ _ (t1 _ _ hM3)
      refine ⟨_, rfl, _, rfl, .list ((nI sz).map .int), .list ((nI sz).map .int), .lst (SqL.of hA5) (iD_all sz), .lst (SqL.of hM5) (iD_all sz), listD_shaped (iD_lay sz) (iD_deep sz), listD_shaped (iD_lay sz) (iD_deep sz), _, rfl, ?_⟩
      rw [SeqAt.eqv_refl _ (listD_lay (iD_lay sz))]
      refine iteF ?_
      refine ⟨_, rfl, .inl ⟨rfl, _, SqL.of hA5⟩, A1, _, _, rfl, rfl, hA5, by rw [nL_len, sizeLine_eq]; omega, ?_⟩
      have sb6 : SB A1 H5 (upd H5 A1 (.lst (nL sz ++ [.int 1]))) := (SB.refl A1 H5).upd
      have hA6 : (upd H5 A1 (.lst (nL sz ++ [.int 1]))) A1 = some (.lst (nL sz ++ [.int 1])) := upd_same
      generalize upd H5 A1 (.lst (nL sz ++ [.int 1])) = H6 at sb6 hA6 ⊢
      obtain ⟨z0, hz0⟩ : ∃ z, sz[0]? = some z := ⟨_, List.getElem?_eq_getElem (by omega : 0 < sz.length)⟩
      have a0 : (nL sz ++ [V.int 1])[0]? = some (V.int (z0 : Int)) := by rw [List.getElem?_append_left (by rw [nL_len]; omega)]; exact nL_get hz0
      refine ⟨_, rfl, A1, _, _, _, rfl, rfl, SqL.of hA6, atI_nat (j := 0) a0, _, _, rfl, rfl, _, rfl, set_at hA6 (ixN_nat (k := 0) (by rw [List.length_append]; show 0 < _ + 1; omega)) fun H7 s7 h7 => ?_⟩
      have sb7 : SB A1 H5 H7 := sb6.trans s7
      have hs7 := hs.same (SB.past s0 n0 sb7)
      have hD7 := sb7 _ _ AD.symm (s5 _ _ (t1 _ _ hD3))
      have hM7 := sb7 _ _ AM.symm hM5
      have hp7 : Pairs H7 ts (flL sz (sz.length - 1)) := ⟨hp3.1, fun i t p e1 e2 => by
        have e := s5 _ _ (t1 _ _ (hp3.2 i t p e1 e2))
        exact sb7 _ _ (ne_of e hA5 (by intro z; cases z)) e⟩
      have t17 : ∀ c o, c ≠ A1 → H1 c = some o → H7 c = some o := fun c o nc e => sb7 _ _ nc (s5 _ _ (t1 _ _ (s3 _ _ e)))
      have nb := b1.new nA1
      have sbb : SB b H H7 := fun c o nc e => t17 c o (fun z => by rw [z] at e nc; rw [s1 _ _ nc e] at nA1; cases nA1) (s1 _ _ nc e)
      have b7 : Bx H7 b ga la := by
        obtain ⟨nb1, ng, nl⟩ := nb
        obtain ⟨n1', n2', gs, ls, i1, i2, i3, e, g, l, r⟩ := b1
        exact ⟨n1', n2', gs, ls, i1, i2, i3, t17 _ _ nb1.symm e, t17 _ _ ng.symm g, t17 _ _ nl.symm l, r⟩
      have W := flL_ws (sz := sz) (sz.length - 1) s16
      refine ⟨_, rfl, _, rfl, M, nI sz, rfl, SqL.of hM7, ?_⟩
      rw [nI_sum]
      exact ⟨_, rfl, _, rfl, x, D, sz.sum, h, _, _, ts, rfl, sum1, s16, h2, h10, W, hs7, hD7, hp7, fun p => Iff.rfl, W.nd, fun H8 s8 => q H8 (sbb.trans (SB.of s8)) (b7.same s8)⟩
end
end Hue

end
section
set_option maxRecDepth 100000
set_option maxHeartbeats 4000000
namespace Hue
open PySem PySem.Spec PyProof.Rows L2
section
variable {P : Program} {w : World} {K : PySem.W.Frag} {mg : Str → Option Value} {base : Heap} {C CL : Addr}
theorem both_mem {n : Nat} {ps ps1 qs qs1 : List (Nat × Nat)} (h1 : ps1.Perm ps) (h2 : qs1.Perm qs) (p : Nat × Nat) : p ∈ bothL n ps qs ↔ p ∈ bothL n ps1 qs1 := by
  unfold bothL
  rw [List.mem_append, List.mem_append, h1.mem_iff, mem_sh, mem_sh, h2.mem_iff]
theorem over_mem {n m : Nat} {ps ps1 qs qs1 : List (Nat × Nat)} (h1 : ps1.Perm ps) (h2 : qs1.Perm qs) (p : Nat × Nat) : p ∈ overL n m ps qs ↔ p ∈ overL n m ps1 qs1 := by
  unfold overL
  rw [List.mem_append, List.mem_append, both_mem h1 h2]
theorem aw_row (n m v : Nat) : awL 0 n (n + m) (v + 1) = awL 0 n (n + m) v ++ awP n v m := by
  rw [awL_more]
  unfold awR awP
  rw [Nat.zero_add, Nat.add_sub_cancel_left]
abbrev s__law_both_right : Stmt := top 46
theorem sc__law_both_right : FnScope ["one", "wires", "two", "others", "hues", "first", "second", "upper_house", "lower_house", "due", "wire", "turn", "v", "w"] ["one", "wires", "two", "others", "hues"] (defScope s__law_both_right) := ⟨rfl, rfl, rfl, by decide +kernel, rfl, by decide +kernel, by decide +kernel⟩
-- slots of _law_both_right: 0 one, 1 wires, 2 two, 3 others, 4 hues, 5 first, 6 second, 7 upper_house, 8 lower_house, 9 due, 10 wire, 11 turn, 12 v, 13 w
def spBothRight : Sp := fun vs H Q _ => ∃ (o1 wz o2 mz : Addr) (h : Nat) (l1 l2 : List Nat) (ts ts2 : List Addr) (ps ps2 : List (Nat × Nat)), vs = [.ref o1, .ref wz, .ref o2, .ref mz, .int h] ∧ H o1 = some (.lst (nL l1)) ∧ H o2 = some (.lst (nL l2)) ∧ H wz = some (.lst (ts.map V.ref)) ∧ Pairs H ts ps ∧ H mz = some (.lst (ts2.map V.ref)) ∧ Pairs H ts2 ps2 ∧
  WsOk l1.length ps ∧ WsOk l2.length ps2 ∧ 1 ≤ l1.length ∧ 1 ≤ l2.length ∧ l1.length + l2.length ≤ 16 ∧ 2 ≤ h ∧ h ≤ 10 ∧ ∀ H', Same H H' → Q (.bl true) H'
theorem ok__law_both_right (T : Txt K mg C) {f : Addr} {fd : FuncData} (F : Fun K "_law_both_right" "_law_both_right" s__law_both_right f fd) (c_House : NCal P w K mg base C "House" 5 (spInit K C)) (c_side_by_side : Cal P w K mg base "side_by_side" 7 (spTwo C fun n _ => bothL n)) (c_stacked : Cal P w K mg base "stacked" 7 (spTwo C overL)) (c__law_same_house : Cal P w K mg base "_law_same_house" 7 (spSameH C)) : FnOk P w K mg base CX0 8 f fd ["one", "wires", "two", "others", "hues"] spBothRight := by
  refine F.ok sc__law_both_right (fun vs H Q E h => ?_) (fun cdv A outer s H vs Q E hr h => ?_)
  · obtain ⟨o1, wz, o2, mz, h, l1, l2, ts, ts2, ps, ps2, rfl, _⟩ := h; rfl
  · obtain ⟨o1, wz, o2, mz, h, l1, l2, ts, ts2, ps, ps2, rfl, h1, h2, hw, hps, hm, hps2, W1, W2, n1, m1, nm, hh2, h10, q⟩ := h
    refine ⟨_, (pss_cons (ps_set (i := 5) sc__law_both_right.nd rfl (by first | exact Or.inl rfl | exact Or.inr rfl) (pe_callB (lenS_ K) (by rfl) T.len b_len (pa_cons (pv 0) pa_nil)))
      (pss_cons (ps_set (i := 6) sc__law_both_right.nd rfl (by first | exact Or.inl rfl | exact Or.inr rfl) (pe_callB (lenS_ K) (by rfl) T.len b_len (pa_cons (pv 2) pa_nil)))
      (pss_cons (ps_set (i := 7) sc__law_both_right.nd rfl (by first | exact Or.inl rfl | exact Or.inr rfl) (pe_ncal c_House (hr.mono (by decide)) (pa_cons (pv 5) (pa_cons (pv 4) (pa_cons (pe_callTy (lstOf_ K) (by rfl) T.list b_list (pa_cons (pv 1) pa_nil)) pa_nil)))))
      (pss_cons (ps_set (i := 8) sc__law_both_right.nd rfl (by first | exact Or.inl rfl | exact Or.inr rfl) (pe_ncal c_House (hr.mono (by decide)) (pa_cons (pv 6) (pa_cons (pv 4) (pa_cons (pe_callTy (tupOf_ K) (by rfl) T.tuple b_tuple (pa_cons (pv 3) pa_nil)) pa_nil)))))
      (pss_cons (ps_set (i := 9) sc__law_both_right.nd rfl (by first | exact Or.inl rfl | exact Or.inr rfl) (pe_op op_cat (pv 1) (pe_lc (own := [("wire", 10)]) (g := gName 10) (tt := tYes) rfl sc__law_both_right.nd (pil_ K (pv 3)) (blkOk_by (by kernel_rfl)) (fun _ _ _ _ _ => (pg_name (i := 10) sc__law_both_right.nd rfl (by first | exact Or.inl rfl | exact Or.inr rfl))) (fun _ _ _ _ _ => pts_nil) (fun _ _ _ _ _ => (pe_tup (pa_cons (pe_op op_add (pv 5) (pe_ix (ixT_ K) (pv 10) pe_int (fun _ _ => rfl))) (pa_cons (pe_op op_add (pv 5) (pe_ix (ixT_ K) (pv 10) pe_int (fun _ _ => rfl))) pa_nil)))))))
      (pss_cons (ps_for PassesOwn.never rfl (pi_range1 (by rfl) T.range (pa_cons pe_int pa_nil)) (pg_name (i := 11) sc__law_both_right.nd rfl (by first | exact Or.inl rfl | exact Or.inr rfl))
      (pss_one (ps_if (pt_not (pt_val (pe_cal c__law_same_house (hr.mono (by decide)) (pa_cons (pe_cal c_side_by_side (hr.mono (by decide)) (pa_cons (pv 7) (pa_cons (pv 8) pa_nil))) (pa_cons (pe_op op_add (pv 5) (pv 6)) (pa_cons (pv 4) (pa_cons (pv 9) pa_nil)))))))
      (pss_one (ps_ret pe_bl)) pss_nil)))
      (pss_cons (ps_for PassesOwn.never rfl (pi_range1 (by rfl) T.range (pa_cons (pv 5) pa_nil)) (pg_name (i := 12) sc__law_both_right.nd rfl (by first | exact Or.inl rfl | exact Or.inr rfl))
      (pss_one (ps_set (i := 9) sc__law_both_right.nd rfl (by first | exact Or.inl rfl | exact Or.inr rfl) (pe_op op_cat (pv 9) (pe_lc (own := [("w", 13)]) (g := gName 13) (tt := tYes) rfl sc__law_both_right.nd (pi_range1 (by rfl) T.range (pa_cons (pv 6) pa_nil)) (blkOk_by (by kernel_rfl)) (fun _ _ _ _ _ => (pg_name (i := 13) sc__law_both_right.nd rfl (by first | exact Or.inl rfl | exact Or.inr rfl))) (fun _ _ _ _ _ => pts_nil) (fun _ _ _ _ _ => (pe_tup (pa_cons (pv 12) (pa_cons (pe_op op_add (pv 5) (pv 13)) pa_nil)))))))))
      (pss_cons (ps_if (pt_not (pt_val (pe_cal c__law_same_house (hr.mono (by decide)) (pa_cons (pe_cal c_stacked (hr.mono (by decide)) (pa_cons (pv 7) (pa_cons (pv 8) pa_nil))) (pa_cons (pe_op op_add (pv 5) (pv 6)) (pa_cons (pv 4) (pa_cons (pv 9) pa_nil)))))))
      (pss_one (ps_ret pe_bl)) pss_nil)
      (pss_cons (ps_if (pt_not (pt_val (pe_cal c__law_same_house (hr.mono (by decide)) (pa_cons (pv 7) (pa_cons (pv 5) (pa_cons (pv 4) (pa_cons (pv 1) pa_nil)))))))
      (pss_one (ps_ret pe_bl)) pss_nil)
      (pss_one (ps_ret (pe_cal c__law_same_house (hr.mono (by decide)) (pa_cons (pv 8) (pa_cons (pv 6) (pa_cons (pv 4) (pa_cons (pv 3) pa_nil)))))))))))))))), ?_⟩
    have e1 := nL_len l1
    have e2 := nL_len l2
    generalize hn : l1.length = n at W1 n1 nm e1
    generalize hmm : l2.length = m at W2 m1 nm e2
    refine ⟨_, rfl, o1, _, rfl, .inl (SqL.of h1), ?_⟩
    rw [e1]
    refine ⟨_, rfl, o2, _, rfl, .inl (SqL.of h2), ?_⟩
    rw [e2]
    refine ⟨_, rfl, _, rfl, _, rfl, wz, _, rfl, .inl (SqL.of hw), fun p np x dx nx ndx ne => made_house n1 (by omega) hh2 h10 (.inl upd_same) (hps.same (same_new np)) W1 nx ndx ne fun H1 t1 hx => ⟨rfl, ?_⟩⟩
    have s1 := (same_new (o := .lst (ts.map V.ref)) np).trans t1
    have hw1 := s1 _ _ hw
    have hm1 := s1 _ _ hm
    have hps1 := hps.same s1
    have hps21 := hps2.same s1
    refine ⟨_, rfl, _, rfl, _, rfl, mz, _, rfl, .inl ⟨SqL.of hm1, fun p np y dy ny ndy ne => made_house m1 (by omega) hh2 h10 (.inr upd_same) (hps21.same (same_new np)) W2 ny ndy ne fun H2 t2 hy => ⟨rfl, ?_⟩⟩⟩
    have s2 := (same_new (o := .tup (ts2.map V.ref)) np).trans t2
    have hx2 := hx.same s2
    have hw2 := s2 _ _ hw1
    have hm2 := s2 _ _ hm1
    have hps2' := hps1.same s2
    have hps22 := hps21.same s2
    have s02 := s1.trans s2
    have f1 := W1.few
    have f2 := W2.few
    refine ⟨_, rfl, _, rfl, mz, rfl, ⟨_, SqL.of hm2⟩, fun D hD => ?_⟩
    refine lc_list (xs := ts2.map V.ref) (fun i H3 => PL H2 H3 D (shL n (ps2.take i))) (PL.nil hD) (fun i H3 _ ⟨_, _, _, s⟩ => SqL.of (s _ _ hm2)) ?_ ?_
    · intro i v H3 hv l3
      have s3 : Same H2 H3 := let ⟨_, _, _, s⟩ := l3; s
      obtain ⟨t, r, rfl, ht, hr', hrt⟩ := pair_at hps22 hv
      have hrt3 := s3 _ _ hrt
      refine ⟨rfl, yesT ⟨_, rfl, _, rfl, t, _, _, _, rfl, rfl, SqT.of hrt3, atI_nat (j := 0) rfl, _, _, rfl, rfl, _, rfl, _, rfl, t, _, _, _, rfl, rfl, SqT.of hrt3, atI_nat (j := 1) rfl, _, _, rfl, rfl, by show 2 ≤ sizeLine; decide, fun t2 nt2 => ?_⟩⟩
      rw [sh_more hr']
      refine l3.one hD (Same.refl _) nt2 rfl rfl ?_
      rw [sh_len, List.length_take]; omega
    intro H3 l3
    rw [List.length_map, hps22.1, List.take_length] at l3
    obtain ⟨ds, hd, hpd, s3⟩ := l3
    refine ⟨wz, D, _, _, rfl, rfl, s3 _ _ hw2, hd, by rw [List.length_map, List.length_map, hpd.1, sh_len, hps2'.1, sizeLine_eq]; omega, fun B hB => ?_⟩
    rw [← List.map_append]
    have s4 : Same H3 (upd H3 B (.lst ((ts ++ ds).map V.ref))) := same_new hB
    have hB4 : (upd H3 B (.lst ((ts ++ ds).map V.ref))) B = some (.lst ((ts ++ ds).map V.ref)) := upd_same
    have pB : Pairs (upd H3 B (.lst ((ts ++ ds).map V.ref))) (ts ++ ds) (bothL n ps ps2) := ((hps2'.same s3).app hpd).same s4
    generalize upd H3 B (.lst ((ts ++ ds).map V.ref)) = H4 at s4 hB4 pB ⊢
    have s24 := s3.trans s4
    have hx4 := hx2.same s24
    have hy4 := hy.same s24
    have WB := both_ws W1 W2 nm
    refine ⟨_, rfl, by decide, by decide, ?_⟩
    refine for_range (n := 2) (fun i σ G => ∃ v9 v10 v11 v12 : Option V, σ = [some (.ref o1), some (.ref wz), some (.ref o2), some (.ref mz), some (.int h), some (.int (n : Nat)), some (.int (m : Nat)), some (.ref x), some (.ref y), some (.ref B), v9, v10, v11, v12] ∧ Same H4 G) ⟨_, _, _, _, rfl, Same.refl _⟩ ?_ ?_
    · rintro i σ G _ ⟨v9, v10, v11, v12, rfl, sG⟩
      refine ⟨_, rfl, _, rfl, x, y, n, m, h, ps, ps2, rfl, hx4.same sG, hy4.same sG, W1, W2, n1, nm, hh2, h10, fun ps1 qs1 p1 p2 z G1 t1 hz => ?_⟩
      have sG1 := sG.trans t1
      refine ⟨_, rfl, _, rfl, _, _, rfl, rfl, ?_⟩
      dsimp only
      rw [show (n : Int) + (m : Int) = ((n + m : Nat) : Int) by omega]
      exact ⟨_, rfl, _, rfl, z, B, n + m, h, _, _, _, rfl, by omega, nm, hh2, h10, both_ws (W1.perm p1) (W2.perm p2) nm, hz, sG1 _ _ hB4, pB.same sG1, both_mem p1 p2, WB.nd, fun G2 t2 => ⟨true, rfl, iteF ⟨_, _, _, _, rfl, sG1.trans t2⟩⟩⟩
    · rintro σ G ⟨v9, v10, v11, v12, rfl, sG⟩
      refine ⟨_, rfl, _, rfl, by omega, by omega, ?_⟩
      rw [Int.toNat_natCast]
      refine for_range (fun v σ G1 => ∃ (v11 v12 : Option V) (B : Addr) (us : List Addr) (v9 v10 : Option V), σ = [some (.ref o1), some (.ref wz), some (.ref o2), some (.ref mz), some (.int h), some (.int (n : Nat)), some (.int (m : Nat)), some (.ref x), some (.ref y), some (.ref B), v9, v10, v11, v12] ∧ Same H4 G1 ∧ G1 B = some (.lst (us.map V.ref)) ∧ Pairs G1 us (bothL n ps ps2 ++ awL 0 n (n + m) v))
        ⟨_, _, B, _, _, _, rfl, sG, sG _ _ hB4, by rw [show awL 0 n (n + m) 0 = [] from rfl, List.append_nil]; exact pB.same sG⟩ ?_ ?_
      · rintro v σ G1 hv ⟨v11, v12, B, us, v9, v10, rfl, sG1, hB1, pB1⟩
        have e0 : (0 : Int) + (v : Int) = (v : Int) := by omega
        rw [e0]
        refine ⟨_, rfl, _, rfl, _, rfl, by omega, by omega, fun D2 hD2 => ?_⟩
        rw [Int.toNat_natCast]
        refine lc_range (fun j G2 => PL G1 G2 D2 (awP n v j)) (PL.nil hD2) ?_ ?_
        · intro j G2 hj l2
          have lp : (awP n v j).length = j := by unfold awP; rw [List.length_map, List.length_range]
          refine ⟨rfl, yesT ⟨_, rfl, _, rfl, _, rfl, _, _, rfl, rfl, by show 2 ≤ sizeLine; decide, fun t2 nt2 => ?_⟩⟩
          rw [awP_more]
          exact l2.one hD2 (Same.refl _) nt2 rfl (by show (n : Int) + ((0 : Int) + (j : Int)) = ((n + j : Nat) : Int); omega) (by omega)
        intro G2 l2
        obtain ⟨es, he, hpe, t2⟩ := l2
        have lp : (awP n v m).length = m := by unfold awP; rw [List.length_map, List.length_range]
        have lB : us.length ≤ 10000 := by
          have c1 := WB.few
          have c2 := awL_len 0 n (n + m) v
          have c3 : v * (n + m - n) ≤ 16 * 16 := Nat.mul_le_mul (by omega) (by omega)
          rw [pB1.1, List.length_append]
          omega
        refine ⟨B, D2, _, _, rfl, rfl, t2 _ _ hB1, he, by rw [List.length_map, List.length_map, hpe.1, lp, sizeLine_eq]; omega, fun B2 hB2 => ?_⟩
        rw [← List.map_append]
        have t3 : Same G2 (upd G2 B2 (.lst ((us ++ es).map V.ref))) := same_new hB2
        refine ⟨_, _, B2, us ++ es, _, _, rfl, (sG1.trans t2).trans t3, upd_same, ?_⟩
        rw [aw_row, ← List.append_assoc]
        exact ((pB1.same t2).app hpe).same t3
      · rintro σ G1 ⟨v11, v12, B, us, v9, v10, rfl, sG1, hB1, pB1⟩
        have W3 := over_ws W1 W2 nm
        refine ⟨_, rfl, _, rfl, x, y, n, m, h, ps, ps2, rfl, hx4.same sG1, hy4.same sG1, W1, W2, n1, nm, hh2, h10, fun ps1 qs1 p1 p2 z G2 t2 hz => ?_⟩
        have sG2 := sG1.trans t2
        refine ⟨_, rfl, _, rfl, _, _, rfl, rfl, ?_⟩
        dsimp only
        rw [show (n : Int) + (m : Int) = ((n + m : Nat) : Int) by omega]
        refine ⟨_, rfl, _, rfl, z, B, n + m, h, _, overL n m ps ps2, us, rfl, by omega, nm, hh2, h10, over_ws (W1.perm p1) (W2.perm p2) nm, hz, t2 _ _ hB1, pB1.same t2, over_mem p1 p2, W3.nd, fun G3 t3 => ⟨true, rfl, iteF ?_⟩⟩
        have sG3 := sG2.trans t3
        have s0 := s24.trans sG3
        refine ⟨_, rfl, _, rfl, _, rfl, _, rfl, x, wz, n, h, ps, ps, ts, rfl, n1, by omega, hh2, h10, W1, hx4.same sG3, s0 _ _ hw2, hps2'.same s0, fun p => Iff.rfl, W1.nd, fun G4 t4 => ⟨true, rfl, iteF ?_⟩⟩
        have sG4 := sG3.trans t4
        have s04 := s24.trans sG4
        exact ⟨_, rfl, _, rfl, _, rfl, _, rfl, y, mz, m, h, ps2, ps2, ts2, rfl, m1, by omega, hh2, h10, W2, hy4.same sG4, s04 _ _ hm2, hps22.same s04, fun p => Iff.rfl, W2.nd, fun G5 t5 => q G5 (s02.trans (s04.trans t5))⟩
abbrev s__law_with_itself_right : Stmt := top 47
theorem sc__law_with_itself_right : FnScope ["row", "wires", "hues", "count", "house", "due", "wire", "v", "w"] ["row", "wires", "hues"] (defScope s__law_with_itself_right) := ⟨rfl, rfl, rfl, by decide +kernel, rfl, by decide +kernel, by decide +kernel⟩
-- slots of _law_with_itself_right: 0 row, 1 wires, 2 hues, 3 count, 4 house, 5 due, 6 wire, 7 v, 8 w
def spItself : Sp := fun vs H Q _ => ∃ (o1 wz : Addr) (h : Nat) (l1 : List Nat) (ts : List Addr) (ps : List (Nat × Nat)), vs = [.ref o1, .ref wz, .int h] ∧ H o1 = some (.lst (nL l1)) ∧ H wz = some (.lst (ts.map V.ref)) ∧ Pairs H ts ps ∧
  WsOk l1.length ps ∧ 1 ≤ l1.length ∧ l1.length ≤ 16 ∧ 2 ≤ h ∧ h ≤ 10 ∧ ∀ H', Same H H' → Q (.bl true) H'
theorem ok__law_with_itself_right (T : Txt K mg C) {f : Addr} {fd : FuncData} (F : Fun K "_law_with_itself_right" "_law_with_itself_right" s__law_with_itself_right f fd) (c_House : NCal P w K mg base C "House" 5 (spInit K C)) (c_side_by_side : Cal P w K mg base "side_by_side" 7 (spTwo C fun n _ => bothL n)) (c_stacked : Cal P w K mg base "stacked" 7 (spTwo C overL)) (c__law_same_house : Cal P w K mg base "_law_same_house" 7 (spSameH C)) : FnOk P w K mg base CX0 8 f fd ["row", "wires", "hues"] spItself := by
  refine F.ok sc__law_with_itself_right (fun vs H Q E h => ?_) (fun cdv A outer s H vs Q E hr h => ?_)
  · obtain ⟨o1, wz, h, l1, ts, ps, rfl, _⟩ := h; rfl
  · obtain ⟨o1, wz, h, l1, ts, ps, rfl, h1, hw, hps, W1, n1, n16, hh2, h10, q⟩ := h
    refine ⟨_, (pss_cons (ps_set (i := 3) sc__law_with_itself_right.nd rfl (by first | exact Or.inl rfl | exact Or.inr rfl) (pe_callB (lenS_ K) (by rfl) T.len b_len (pa_cons (pv 0) pa_nil)))
      (pss_cons (ps_if (pt_cmpR op_gt (pv 3) pe_int (nomark _))
      (pss_one (ps_ret pe_bl)) pss_nil)
      (pss_cons (ps_set (i := 4) sc__law_with_itself_right.nd rfl (by first | exact Or.inl rfl | exact Or.inr rfl) (pe_ncal c_House (hr.mono (by decide)) (pa_cons (pv 3) (pa_cons (pv 2) (pa_cons (pe_callTy (lstOf_ K) (by rfl) T.list b_list (pa_cons (pv 1) pa_nil)) pa_nil)))))
      (pss_cons (ps_set (i := 5) sc__law_with_itself_right.nd rfl (by first | exact Or.inl rfl | exact Or.inr rfl) (pe_op op_cat (pv 1) (pe_lc (own := [("wire", 6)]) (g := gName 6) (tt := tYes) rfl sc__law_with_itself_right.nd (pil_ K (pv 1)) (blkOk_by (by kernel_rfl)) (fun _ _ _ _ _ => (pg_name (i := 6) sc__law_with_itself_right.nd rfl (by first | exact Or.inl rfl | exact Or.inr rfl))) (fun _ _ _ _ _ => pts_nil) (fun _ _ _ _ _ => (pe_tup (pa_cons (pe_op op_add (pv 3) (pe_ix (ixT_ K) (pv 6) pe_int (fun _ _ => rfl))) (pa_cons (pe_op op_add (pv 3) (pe_ix (ixT_ K) (pv 6) pe_int (fun _ _ => rfl))) pa_nil)))))))
      (pss_cons (ps_if (pt_not (pt_val (pe_cal c__law_same_house (hr.mono (by decide)) (pa_cons (pe_cal c_side_by_side (hr.mono (by decide)) (pa_cons (pv 4) (pa_cons (pv 4) pa_nil))) (pa_cons (pe_op op_mul pe_int (pv 3)) (pa_cons (pv 2) (pa_cons (pv 5) pa_nil)))))))
      (pss_one (ps_ret pe_bl)) pss_nil)
      (pss_cons (ps_for PassesOwn.never rfl (pi_range1 (by rfl) T.range (pa_cons (pv 3) pa_nil)) (pg_name (i := 7) sc__law_with_itself_right.nd rfl (by first | exact Or.inl rfl | exact Or.inr rfl))
      (pss_one (ps_set (i := 5) sc__law_with_itself_right.nd rfl (by first | exact Or.inl rfl | exact Or.inr rfl) (pe_op op_cat (pv 5) (pe_lc (own := [("w", 8)]) (g := gName 8) (tt := tYes) rfl sc__law_with_itself_right.nd (pi_range1 (by rfl) T.range (pa_cons (pv 3) pa_nil)) (blkOk_by (by kernel_rfl)) (fun _ _ _ _ _ => (pg_name (i := 8) sc__law_with_itself_right.nd rfl (by first | exact Or.inl rfl | exact Or.inr rfl))) (fun _ _ _ _ _ => pts_nil) (fun _ _ _ _ _ => (pe_tup (pa_cons (pv 7) (pa_cons (pe_op op_add (pv 3) (pv 8)) pa_nil)))))))))
      (pss_cons (ps_if (pt_not (pt_val (pe_cal c__law_same_house (hr.mono (by decide)) (pa_cons (pe_cal c_stacked (hr.mono (by decide)) (pa_cons (pv 4) (pa_cons (pv 4) pa_nil))) (pa_cons (pe_op op_mul pe_int (pv 3)) (pa_cons (pv 2) (pa_cons (pv 5) pa_nil)))))))
      (pss_one (ps_ret pe_bl)) pss_nil)
      (pss_one (ps_ret (pe_cal c__law_same_house (hr.mono (by decide)) (pa_cons (pv 4) (pa_cons (pv 3) (pa_cons (pv 2) (pa_cons (pv 1) pa_nil)))))))))))))), ?_⟩
    have e1 := nL_len l1
    generalize hn : l1.length = n at W1 n1 n16 e1
    refine ⟨_, rfl, o1, _, rfl, .inl (SqL.of h1), ?_⟩
    rw [e1]
    refine ⟨_, rfl, _, _, rfl, rfl, _, rfl, ?_⟩
    refine ite2 (fun _ => q H (Same.refl H)) (fun n8 => ?_)
    have nm : n + n ≤ 16 := by
      rcases Nat.lt_or_ge 8 n with z | z
      · exact absurd (decide_eq_true (by omega)) n8
      · omega
    refine ⟨_, rfl, _, rfl, _, rfl, wz, _, rfl, .inl (SqL.of hw), fun p np x dx nx ndx ne => made_house n1 (by omega) hh2 h10 (.inl upd_same) (hps.same (same_new np)) W1 nx ndx ne fun H2 t2 hx => ⟨rfl, ?_⟩⟩
    have s02 := (same_new (o := .lst (ts.map V.ref)) np).trans t2
    have hw2 := s02 _ _ hw
    have hps2 := hps.same s02
    have f1 := W1.few
    refine ⟨_, rfl, _, rfl, wz, rfl, ⟨_, SqL.of hw2⟩, fun D hD => ?_⟩
    refine lc_list (xs := ts.map V.ref) (fun i H3 => PL H2 H3 D (shL n (ps.take i))) (PL.nil hD) (fun i H3 _ ⟨_, _, _, s⟩ => SqL.of (s _ _ hw2)) ?_ ?_
    · intro i v H3 hv l3
      have s3 : Same H2 H3 := let ⟨_, _, _, s⟩ := l3; s
      obtain ⟨t, r, rfl, ht, hr', hrt⟩ := pair_at hps2 hv
      have hrt3 := s3 _ _ hrt
      refine ⟨rfl, yesT ⟨_, rfl, _, rfl, t, _, _, _, rfl, rfl, SqT.of hrt3, atI_nat (j := 0) rfl, _, _, rfl, rfl, _, rfl, _, rfl, t, _, _, _, rfl, rfl, SqT.of hrt3, atI_nat (j := 1) rfl, _, _, rfl, rfl, by show 2 ≤ sizeLine; decide, fun t2 nt2 => ?_⟩⟩
      rw [sh_more hr']
      refine l3.one hD (Same.refl _) nt2 rfl rfl ?_
      rw [sh_len, List.length_take]; omega
    intro H3 l3
    rw [List.length_map, hps2.1, List.take_length] at l3
    obtain ⟨ds, hd, hpd, s3⟩ := l3
    refine ⟨wz, D, _, _, rfl, rfl, s3 _ _ hw2, hd, by rw [List.length_map, List.length_map, hpd.1, sh_len, hps2.1, sizeLine_eq]; omega, fun B hB => ?_⟩
    rw [← List.map_append]
    have s4 : Same H3 (upd H3 B (.lst ((ts ++ ds).map V.ref))) := same_new hB
    have hB4 : (upd H3 B (.lst ((ts ++ ds).map V.ref))) B = some (.lst ((ts ++ ds).map V.ref)) := upd_same
    have pB : Pairs (upd H3 B (.lst ((ts ++ ds).map V.ref))) (ts ++ ds) (bothL n ps ps) := ((hps2.same s3).app hpd).same s4
    generalize upd H3 B (.lst ((ts ++ ds).map V.ref)) = H4 at s4 hB4 pB ⊢
    have s24 := s3.trans s4
    have hx4 := hx.same s24
    have WB := both_ws W1 W1 nm
    have e2n : (2 : Int) * (n : Int) = ((n + n : Nat) : Int) := by omega
    refine ⟨_, rfl, _, rfl, x, x, n, n, h, ps, ps, rfl, hx4, hx4, W1, W1, n1, nm, hh2, h10, fun ps1 qs1 p1 p2 z G1 t1 hz => ?_⟩
    refine ⟨_, rfl, _, _, rfl, rfl, .inr ⟨by omega, by omega⟩, ?_⟩
    dsimp only
    rw [e2n]
    refine ⟨_, rfl, _, rfl, z, B, n + n, h, _, _, _, rfl, by omega, nm, hh2, h10, both_ws (W1.perm p1) (W1.perm p2) nm, hz, t1 _ _ hB4, pB.same t1, both_mem p1 p2, WB.nd, fun G2 t2 => ⟨true, rfl, iteF ?_⟩⟩
    have sG := t1.trans t2
    refine ⟨_, rfl, _, rfl, by omega, by omega, ?_⟩
    rw [Int.toNat_natCast]
    refine for_range (fun v σ G1 => ∃ (v6 v7 : Option V) (B : Addr) (us : List Addr), σ = [some (.ref o1), some (.ref wz), some (.int h), some (.int (n : Nat)), some (.ref x), some (.ref B), v6, v7, none] ∧ Same H4 G1 ∧ G1 B = some (.lst (us.map V.ref)) ∧ Pairs G1 us (bothL n ps ps ++ awL 0 n (n + n) v))
      ⟨_, _, B, _, rfl, sG, sG _ _ hB4, by rw [show awL 0 n (n + n) 0 = [] from rfl, List.append_nil]; exact pB.same sG⟩ ?_ ?_
    · rintro v σ G1 hv ⟨v6, v7, B, us, rfl, sG1, hB1, pB1⟩
      have e0 : (0 : Int) + (v : Int) = (v : Int) := by omega
      rw [e0]
      refine ⟨_, rfl, _, rfl, _, rfl, by omega, by omega, fun D2 hD2 => ?_⟩
      rw [Int.toNat_natCast]
      refine lc_range (fun j G2 => PL G1 G2 D2 (awP n v j)) (PL.nil hD2) ?_ ?_
      · intro j G2 hj l2
        have lp : (awP n v j).length = j := by unfold awP; rw [List.length_map, List.length_range]
        refine ⟨rfl, yesT ⟨_, rfl, _, rfl, _, rfl, _, _, rfl, rfl, by show 2 ≤ sizeLine; decide, fun t2 nt2 => ?_⟩⟩
        rw [awP_more]
        exact l2.one hD2 (Same.refl _) nt2 rfl (by show (n : Int) + ((0 : Int) + (j : Int)) = ((n + j : Nat) : Int); omega) (by omega)
      intro G2 l2
      obtain ⟨es, he, hpe, t2⟩ := l2
      have lp : (awP n v n).length = n := by unfold awP; rw [List.length_map, List.length_range]
      have lB : us.length ≤ 10000 := by
        have c1 := WB.few
        have c2 := awL_len 0 n (n + n) v
        have c3 : v * (n + n - n) ≤ 16 * 16 := Nat.mul_le_mul (by omega) (by omega)
        rw [pB1.1, List.length_append]
        omega
      refine ⟨B, D2, _, _, rfl, rfl, t2 _ _ hB1, he, by rw [List.length_map, List.length_map, hpe.1, lp, sizeLine_eq]; omega, fun B2 hB2 => ?_⟩
      rw [← List.map_append]
      have t3 : Same G2 (upd G2 B2 (.lst ((us ++ es).map V.ref))) := same_new hB2
      refine ⟨_, _, B2, us ++ es, rfl, (sG1.trans t2).trans t3, upd_same, ?_⟩
      rw [aw_row, ← List.append_assoc]
      exact ((pB1.same t2).app hpe).same t3
    · rintro σ G1 ⟨v6, v7, B, us, rfl, sG1, hB1, pB1⟩
      have W3 := over_ws W1 W1 nm
      refine ⟨_, rfl, _, rfl, x, x, n, n, h, ps, ps, rfl, hx4.same sG1, hx4.same sG1, W1, W1, n1, nm, hh2, h10, fun ps1 qs1 p1 p2 z G2 t2 hz => ?_⟩
      have sG2 := sG1.trans t2
      refine ⟨_, rfl, _, _, rfl, rfl, .inr ⟨by omega, by omega⟩, ?_⟩
      dsimp only
      rw [e2n]
      refine ⟨_, rfl, _, rfl, z, B, n + n, h, _, overL n n ps ps, us, rfl, by omega, nm, hh2, h10, over_ws (W1.perm p1) (W1.perm p2) nm, hz, t2 _ _ hB1, pB1.same t2, over_mem p1 p2, W3.nd, fun G3 t3 => ⟨true, rfl, iteF ?_⟩⟩
      have sG3 := sG2.trans t3
      have s0 := s24.trans sG3
      exact ⟨_, rfl, _, rfl, _, rfl, _, rfl, x, wz, n, h, ps, ps, ts, rfl, n1, by omega, hh2, h10, W1, hx4.same sG3, s0 _ _ hw2, hps2.same s0, fun p => Iff.rfl, W1.nd, fun G4 t4 => q G4 (s02.trans (s0.trans t4))⟩
end
end Hue

end
section
set_option maxRecDepth 100000
set_option maxHeartbeats 8000000
namespace Hue
open PySem PySem.Spec PyProof.Rows L2
section
variable {P : Program} {w : World} {K : PySem.W.Frag} {mg : Str → Option Value} {base : Heap} {C CL : Addr}
theorem rank_of {line : List Nat} (nd : line.Nodup) : ∃ ρ : Nat → Nat, ∀ (i : Nat) k, line[i]? = some k → ρ k = i := by
  classical
  refine ⟨fun k => if h : ∃ i : Nat, line[i]? = some k then Classical.choose h else 0, fun i k hi => ?_⟩
  have h : ∃ i : Nat, line[i]? = some k := ⟨i, hi⟩
  show (if h : ∃ i : Nat, line[i]? = some k then Classical.choose h else 0) = i
  rw [dif_pos h]
  exact nodup_at nd (Classical.choose_spec h) hi
theorem ws_of {n : Nat} {line : List Nat} {ps : List (Nat × Nat)} (l : LineOk n line) (dn : Down line ps) (nd : ps.Nodup) (few : ps.length < 121) : WsOk n ps := by
  obtain ⟨ρ, hρ⟩ := rank_of l.2.1
  refine ⟨nd, by omega, ⟨ρ, fun r hr => ?_⟩, fun r hr => ?_⟩
  · obtain ⟨x, y, h1, h2, h3⟩ := dn r hr
    rw [hρ x _ h2, hρ y _ h3]; exact h1
  · obtain ⟨x, y, h1, h2, h3⟩ := dn r hr
    exact ⟨l.2.2 _ (List.mem_of_getElem? h2), l.2.2 _ (List.mem_of_getElem? h3)⟩

abbrev s_House_scattered : Stmt := inClass (top 9) 16
theorem sc_House_scattered : FnScope ["count", "hues"] ["count", "hues"] (defScope s_House_scattered) := ⟨rfl, rfl, rfl, by decide +kernel, rfl, by decide +kernel, by decide +kernel⟩
-- slots of House.scattered: 0 count, 1 hues
def spScattered (C : Addr) : Sp := fun vs H Q _ => ∃ (n h : Nat), vs = [.int n, .int h] ∧ 1 ≤ n ∧ n ≤ 16 ∧ 2 ≤ h ∧ h ≤ 10 ∧ Gives C H Q n h []
theorem ws_nil (n : Nat) : WsOk n [] := ⟨List.nodup_nil, by show 0 < 1000; decide, ⟨fun _ => 0, fun p hp => by cases hp⟩, fun p hp => by cases hp⟩
theorem ok_scattered (T : Txt K mg C) {T0 : Addr} (hT0 : ∀ H : Hp, SqT K H T0 []) {f : Addr} {fd : FuncData} (F : Fun K "scattered" "House.scattered" s_House_scattered f fd) (c_House0 : NCalD P w K mg base C "House" 5 (spInit K C) [.ref T0]) : FnOk P w K mg base CX0 7 f fd ["count", "hues"] (spScattered C) := by
  refine F.ok sc_House_scattered (fun vs H Q E h => ?_) (fun cdv A outer s H vs Q E hr h => ?_)
  · obtain ⟨n, h, rfl, _⟩ := h; rfl
  · obtain ⟨n, h, rfl, n1, n16, h2, h10, q⟩ := h
    refine ⟨_, (pss_one (ps_ret (pe_ncalD c_House0 (hr.mono (by decide)) (pa_cons (pv 0) (pa_cons (pv 1) pa_nil))))), ?_⟩
    refine ⟨_, rfl, _, rfl, fun x dx nx ndx ne => ?_⟩
    have s1 : Same H (L2.upd H dx (.own x)) := same_new ndx
    have s2 : Same (L2.upd H dx (.own x)) (L2.upd (L2.upd H dx (.own x)) x (.ins C dx [])) := same_new (by rw [upd_ne ne.symm]; exact nx)
    have s12 := s1.trans s2
    exact ⟨x, dx, T0, n, h, [], rfl, upd_same, n1, n16, h2, h10, ⟨⟨[], .inr (hT0 _), ⟨rfl, fun i t p a _ => by simp at a⟩⟩, List.nodup_nil, by decide, fun p hp => (by cases hp), fun _ => 0, fun p hp => (by cases hp)⟩, fun H' s a1 a2 => ⟨rfl, q x H' (fun b o e => s b o (ne_of_none e nx) (s12 b o e)) ⟨a1, a2⟩⟩⟩
theorem min_nat (n : Nat) : (if (15 : Int) < (n : Int) then (15 : Int) else (n : Int)) = ((min n 15 : Nat) : Int) := by
  split <;> omega
theorem min_nat6 (n : Nat) (h : n ≤ 16) : (if (16 : Int) - (n : Int) < 6 then (16 : Int) - (n : Int) else 6) = ((min 6 (16 - n) : Nat) : Int) := by
  split <;> omega
abbrev s_law : Stmt := top 48
theorem sc_law : FnScope ["script", "box", "count", "hues", "due", "lamp", "rows", "columns", "most", "one", "wires", "second", "two"] ["script"] (defScope s_law) := ⟨rfl, rfl, rfl, by decide +kernel, rfl, by decide +kernel, by decide +kernel⟩
-- slots of law: 0 script, 1 box, 2 count, 3 hues, 4 due, 5 lamp, 6 rows, 7 columns, 8 most, 9 one, 10 wires, 11 second, 12 two
def spLaw (K : PySem.W.Frag) : Sp := fun vs H Q _ => ∃ (a : Addr) (ns : List Int), vs = [.ref a] ∧ SqL K H a (ns.map V.int) ∧ ns.length ≤ 63 ∧ ∀ H', Q (.bl true) H'
theorem ok_law (T : Txt K mg C) {f : Addr} {fd : FuncData} (F : Fun K "law" "law" s_law f fd) (c__law_box : Cal P w K mg base "_law_box" 1 (spBox K)) (c__law_sizes : Cal P w K mg base "_law_sizes" 2 spSizes) (c_chain : Cal P w K mg base "chain" 7 (spChain C)) (c__law_same_house : Cal P w K mg base "_law_same_house" 7 (spSameH C)) {mc : Value} (cr_House : ClX.CRead K C mc) (c_scattered : SCal P w K mg base C mc "scattered" 7 (spScattered C))
    (c__law_stairs_right : Cal P w K mg base "_law_stairs_right" 8 spBoxed) (c__law_take : Cal P w K mg base "_law_take" 1 spTake) (c__law_hillside_right : Cal P w K mg base "_law_hillside_right" 8 spHillRight) (c__law_floors_right : Cal P w K mg base "_law_floors_right" 8 spBoxed) (c__law_row : Cal P w K mg base "_law_row" 2 spRow) (c__law_wires : Cal P w K mg base "_law_wires" 2 spWires)
    (c__law_both_right : Cal P w K mg base "_law_both_right" 8 spBothRight) (c__law_with_itself_right : Cal P w K mg base "_law_with_itself_right" 8 spItself) : GOk P w K mg base CX0 10 f fd ["script"] (spLaw K) := by
  refine F.okG sc_law (fun vs H Q E h => ?_) (fun cdv A gA outer s H vs Q E hr h => ?_)
  · obtain ⟨a, ns, rfl, _⟩ := h; rfl
  · obtain ⟨a, ns, rfl, ha, few, q⟩ := h
    refine ⟨_, (pss_cons (ps_set (i := 1) sc_law.nd rfl (by first | exact Or.inl rfl | exact Or.inr rfl) (pe_cal c__law_box (hr.mono (by decide)) (pa_cons (pv 0) pa_nil)))
      (pss_cons (ps_asg (pe_cal c__law_sizes (hr.mono (by decide)) (pa_cons (pv 1) pa_nil)) (pg_tup (by rfl) (pgs_cons (pg_name (i := 2) sc_law.nd rfl (by first | exact Or.inl rfl | exact Or.inr rfl)) (pgs_cons (pg_name (i := 3) sc_law.nd rfl (by first | exact Or.inl rfl | exact Or.inr rfl)) pgs_nil))))
      (pss_cons (ps_setLc (i := 4) (own := [("lamp", 5)]) (g := gName 5) (tt := tYes) rfl sc_law.nd rfl rfl (sw_true rfl rfl rfl (by kernel_rfl)) (pi_range1 (by rfl) T.range (pa_cons (pe_op op_sub (pv 2) pe_int) pa_nil)) (blkOk_by (by kernel_rfl)) (fun _ _ _ _ _ => (pg_name (i := 5) sc_law.nd rfl (by first | exact Or.inl rfl | exact Or.inr rfl))) (fun _ _ _ _ _ => pts_nil) (fun _ _ _ _ _ => (pe_tup (pa_cons (pv 5) (pa_cons (pe_op op_add (pv 5) pe_int) pa_nil)))))
      (pss_cons (ps_if (pt_not (pt_val (pe_cal c__law_same_house (hr.mono (by decide)) (pa_cons (pe_cal c_chain (hr.mono (by decide)) (pa_cons (pv 2) (pa_cons (pv 3) pa_nil))) (pa_cons (pv 2) (pa_cons (pv 3) (pa_cons (pv 4) pa_nil)))))))
      (pss_one (ps_ret pe_bl)) pss_nil)
      (pss_cons (ps_if (pt_not (pt_val (pe_cal c__law_same_house (hr.mono (by decide)) (pa_cons (pe_smeth (pe_glob (v := .ref C) (by rfl) T.mgC rfl) cr_House c_scattered (hr.mono (by decide)) (pa_cons (pv 2) (pa_cons (pv 3) pa_nil))) (pa_cons (pv 2) (pa_cons (pv 3) (pa_cons (pe_lst pa_nil) pa_nil)))))))
      (pss_one (ps_ret pe_bl)) pss_nil)
      (pss_cons (ps_if (pt_not (pt_val (pe_cal c__law_stairs_right (hr.mono (by decide)) (pa_cons (pv 1) (pa_cons (pv 2) (pa_cons (pv 3) pa_nil))))))
      (pss_one (ps_ret pe_bl)) pss_nil)
      (pss_cons (ps_set (i := 6) sc_law.nd rfl (by first | exact Or.inl rfl | exact Or.inr rfl) (pe_op op_add pe_int (pe_cal c__law_take (hr.mono (by decide)) (pa_cons (pv 1) (pa_cons pe_int pa_nil)))))
      (pss_cons (ps_set (i := 7) sc_law.nd rfl (by first | exact Or.inl rfl | exact Or.inr rfl) (pe_op op_add pe_int (pe_cal c__law_take (hr.mono (by decide)) (pa_cons (pv 1) (pa_cons (pe_op op_fdiv pe_int (pv 6)) pa_nil)))))
      (pss_cons (ps_if (PW.pt (pw_or (pt_not (pt_val (pe_cal c__law_hillside_right (hr.mono (by decide)) (pa_cons (pv 6) (pa_cons (pv 7) (pa_cons (pv 3) pa_nil)))))) (pw_or1 (pt_not (pt_val (pe_cal c__law_hillside_right (hr.mono (by decide)) (pa_cons (pv 7) (pa_cons (pv 6) (pa_cons (pv 3) pa_nil)))))))))
      (pss_one (ps_ret pe_bl)) pss_nil)
      (pss_cons (ps_if (pt_not (pt_val (pe_cal c__law_floors_right (hr.mono (by decide)) (pa_cons (pv 1) (pa_cons (pv 2) (pa_cons (pv 3) pa_nil))))))
      (pss_one (ps_ret pe_bl)) pss_nil)
      (pss_cons (ps_if (pt_not (pt_val (pe_cal c__law_floors_right (hr.mono (by decide)) (pa_cons (pv 1) (pa_cons pe_int (pa_cons (pv 3) pa_nil))))))
      (pss_one (ps_ret pe_bl)) pss_nil)
      (pss_cons (ps_set (i := 8) sc_law.nd rfl (by first | exact Or.inl rfl | exact Or.inr rfl) (pe_callB (call_min2 rfl) (by rfl) T.min b_min (pa_cons (pv 2) (pa_cons pe_int pa_nil))))
      (pss_cons (ps_set (i := 9) sc_law.nd rfl (by first | exact Or.inl rfl | exact Or.inr rfl) (pe_cal c__law_row (hr.mono (by decide)) (pa_cons (pv 1) (pa_cons (pv 8) pa_nil))))
      (pss_cons (ps_set (i := 10) sc_law.nd rfl (by first | exact Or.inl rfl | exact Or.inr rfl) (pe_cal c__law_wires (hr.mono (by decide)) (pa_cons (pv 1) (pa_cons (pv 9) pa_nil))))
      (pss_cons (ps_set (i := 11) sc_law.nd rfl (by first | exact Or.inl rfl | exact Or.inr rfl) (pe_op op_add pe_int (pe_cal c__law_take (hr.mono (by decide)) (pa_cons (pv 1) (pa_cons (pe_callB (call_min2 rfl) (by rfl) T.min b_min (pa_cons pe_int (pa_cons (pe_op op_sub pe_int (pv 8)) pa_nil))) pa_nil)))))
      (C8.pss_cut (ps_if (pt_cmpR op_eq (pe_cal c__law_take (hr.mono (by decide)) (pa_cons (pv 1) (pa_cons pe_int pa_nil))) pe_int (nomark _))
      (pss_one (ps_set (i := 11) sc_law.nd rfl (by first | exact Or.inl rfl | exact Or.inr rfl) (pe_op op_add pe_int (pe_cal c__law_take (hr.mono (by decide)) (pa_cons (pv 1) (pa_cons (pe_op op_sub pe_int (pv 8)) pa_nil)))))) pss_nil)
      (pss_cons (ps_set (i := 12) sc_law.nd rfl (by first | exact Or.inl rfl | exact Or.inr rfl) (pe_cal c__law_row (hr.mono (by decide)) (pa_cons (pv 1) (pa_cons (pv 11) pa_nil))))
      (pss_cons (ps_if (pt_not (pt_val (pe_cal c__law_both_right (hr.mono (by decide)) (pa_cons (pv 9) (pa_cons (pv 10) (pa_cons (pv 12) (pa_cons (pe_cal c__law_wires (hr.mono (by decide)) (pa_cons (pv 1) (pa_cons (pv 12) pa_nil))) (pa_cons (pv 3) pa_nil))))))))
      (pss_one (ps_ret pe_bl)) pss_nil)
      (pss_one (ps_ret (pe_cal c__law_with_itself_right (hr.mono (by decide)) (pa_cons (pv 9) (pa_cons (pv 10) (pa_cons (pv 3) pa_nil)))))))))))))))))))))))), ?_⟩
    refine ⟨_, rfl, a, ns, rfl, ha, few, fun H1 b ga la s1 nb nga nla b1 => ?_⟩
    refine ⟨_, rfl, b, ga, la, rfl, b1, fun n h t H2 n1 n16 h2 h10 s2 b2 ht => ?_⟩
    refine ⟨t, _, rfl, SqT.of ht, rfl, _, _, rfl, _, _, rfl, rfl, ?_⟩
    refine ⟨_, rfl, _, _, rfl, rfl, ((n - 1 : Nat) : Int), vi (by omega), by omega, by omega, fun D hD => ?_⟩
    rw [Int.toNat_natCast]
    refine lc_range (fun i H3 => PL H2 H3 D (chL i)) (PL.nil hD) ?_ ?_
    · intro i H3 hi l2
      have e0 : (0 : Int) + (i : Int) = (i : Int) := by omega
      rw [e0]
      refine ⟨rfl, yesT ⟨_, rfl, _, rfl, _, _, rfl, rfl, by show 2 ≤ sizeLine; decide, fun t nt => ?_⟩⟩
      rw [chL_more]
      exact l2.one hD (Same.refl _) nt rfl (by show (i : Int) + 1 = ((i + 1 : Nat) : Int); omega) (by rw [chL_len]; omega)
    intro H3 l3
    obtain ⟨ds, hd, hpd, s3⟩ := l3
    have Wc := chL_ws n16
    have b3 := b2.same s3
    refine ⟨_, rfl, _, rfl, n, h, rfl, n1, n16, h2, h10, fun x H4 s4 hx => ?_⟩
    refine ⟨_, rfl, _, rfl, _, rfl, x, D, n, h, _, _, ds, rfl, n1, n16, h2, h10, Wc, hx, s4 _ _ hd, hpd.same s4, fun p => Iff.rfl, Wc.nd, fun H5 s5 => ⟨true, rfl, iteF ?_⟩⟩
    have b5 := (b3.same s4).same s5
    clear hx hpd hd
    refine ⟨rfl, _, rfl, _, rfl, n, h, rfl, n1, n16, h2, h10, fun y H6 s6 hy => ?_⟩
    refine ⟨_, rfl, _, rfl, by decide, fun e ne => ?_⟩
    have s7 : Same H6 (upd H6 e (.lst [])) := same_new ne
    have he : (upd H6 e (.lst [])) e = some (.lst (([] : List Addr).map V.ref)) := upd_same
    generalize upd H6 e (.lst []) = H7 at s7 he ⊢
    refine ⟨y, e, n, h, [], [], [], rfl, n1, n16, h2, h10, ws_nil n, hy.same s7, he, ⟨rfl, fun i t p a _ => by simp at a⟩, fun p => Iff.rfl, List.nodup_nil, fun H8 s8 => ⟨true, rfl, iteF ?_⟩⟩
    have b8 := ((b5.same s6).same s7).same s8
    clear hy he
    refine ⟨_, rfl, _, rfl, _, rfl, b, ga, la, n, h, rfl, n1, n16, h2, h10, b8, fun H9 s9 b9 => ⟨true, rfl, iteF ?_⟩⟩
    refine ⟨_, rfl, b, ga, la, 16, rfl, by decide, by decide, b9, fun d H10 hd s10 b10 => ⟨_, _, rfl, rfl, ?_⟩⟩
    obtain ⟨r, er, r1, r16⟩ : ∃ r : Nat, (1 : Int) + (d : Int) = (r : Int) ∧ 1 ≤ r ∧ r ≤ 16 := ⟨1 + d, by omega, by omega, by omega⟩
    show gName _ (V.int ((1 : Int) + (d : Int))) _ _ _
    rw [er]
    have q1 : 1 ≤ 16 / r := (Nat.one_le_div_iff (by omega)).mpr r16
    have q2 : 16 / r ≤ 16 := Nat.div_le_self 16 r
    have eq : [V.ref b, V.int ((16 : Int) / (r : Int))] = [V.ref b, V.int ((16 / r : Nat) : Int)] := by rw [Int.natCast_ediv]; rfl
    refine ⟨_, rfl, _, rfl, _, _, rfl, rfl, ⟨(by show (0 : Int) < (r : Int); omega), (by show (r : Int) < 1073741824; omega)⟩, b, ga, la, 16 / r, eq, q1, by omega, b10, fun d2 H11 hd2 s11 b11 => ⟨_, _, rfl, rfl, ?_⟩⟩
    obtain ⟨c, ec, c1, c16⟩ : ∃ c : Nat, (1 : Int) + (d2 : Int) = (c : Int) ∧ 1 ≤ c ∧ c ≤ 16 / r := ⟨1 + d2, by omega, by omega, by omega⟩
    show gName _ (V.int ((1 : Int) + (d2 : Int))) _ _ _
    rw [ec]
    have rc : r * c ≤ 16 := Nat.le_trans (Nat.mul_le_mul_left r c16) (Nat.mul_div_le 16 r)
    refine ⟨_, rfl, _, rfl, _, rfl, r, c, h, rfl, r1, c1, rc, h2, h10, fun H12 s12 => ⟨true, rfl, iteF ?_⟩⟩
    refine ⟨_, rfl, _, rfl, _, rfl, c, r, h, rfl, c1, r1, by rw [Nat.mul_comm]; exact rc, h2, h10, fun H13 s13 => ⟨true, rfl, iteF ?_⟩⟩
    have b13 := (b11.same s12).same s13
    refine ⟨_, rfl, _, rfl, _, rfl, b, ga, la, n, h, rfl, n1, n16, h2, h10, b13, fun H14 s14 b14 => ⟨true, rfl, iteF ?_⟩⟩
    refine ⟨_, rfl, _, rfl, b, ga, la, 16, h, rfl, by decide, by decide, h2, h10, b14, fun H15 s15 b15 => ⟨true, rfl, iteF ?_⟩⟩
    refine ⟨_, rfl, _, _, rfl, ?_⟩
    dsimp only
    rw [min_nat]
    obtain ⟨m, em, m1, m15⟩ : ∃ m : Nat, min n 15 = m ∧ 1 ≤ m ∧ m ≤ 15 := ⟨_, rfl, by omega, by omega⟩
    rw [em]
    refine ⟨_, rfl, _, rfl, b, ga, la, m, rfl, by omega, b15, fun line r1' H16 lok s16 b16 nr hr1 => ?_⟩
    have r1b := (b15.new nr).1
    have hlen := lok.1
    refine ⟨_, rfl, _, rfl, b, ga, la, r1', m, line, rfl, by omega, lok, b16, r1b, hr1, fun ts ps wz H17 dn nd fw s17 b17 nw hw hps => ?_⟩
    have W1 := ws_of lok dn nd fw
    have wzb := (b16.new nw).1
    have hr17 := s17 _ _ r1b hr1
    clear hr1 dn nd fw
    have em6 := min_nat6 m (by omega)
    refine ⟨_, rfl, _, rfl, _, _, rfl, rfl, _, _, rfl, b, ga, la, min 6 (16 - m), ?_, by omega, by omega, b17, fun d3 H18 hd3 s18 b18 => ⟨_, _, rfl, rfl, ?_⟩⟩
    · show [V.ref b, V.int (if (16 : Int) - (m : Int) < 6 then (16 : Int) - (m : Int) else 6)] = _
      rw [em6]
    have hw18 := s18 _ _ wzb hw
    have hr18 := s18 _ _ r1b hr17
    obtain ⟨xs17, hx17⟩ := b17.at'
    have hps18 := hps.sb hx17 s18
    clear hw hr17 hps
    refine ⟨fun σ G => ∃ (v13 : Option V) (k : Nat), σ = [some (.ref a), some (.ref b), some (.int (n : Nat)), some (.int (h : Nat)), some (.ref D), none, some (.int (r : Nat)), some (.int (c : Nat)), some (.int (m : Nat)), some (.ref r1'), some (.ref wz), some (.int (k : Nat)), v13] ∧ 1 ≤ k ∧ k ≤ 16 - m ∧ Bx G b ga la ∧ G wz = some (.lst (ts.map V.ref)) ∧ G r1' = some (.lst (nL line)) ∧ Pairs G ts ps, ?_, ?_⟩
    · refine ⟨_, rfl, b, ga, la, 4, rfl, by decide, by decide, b18, fun e4 H19 he4 s19 b19 => ⟨rfl, _, rfl, ?_⟩⟩
      obtain ⟨xs18, hx18⟩ := b18.at'
      have hw19 := s19 _ _ wzb hw18
      have hr19 := s19 _ _ r1b hr18
      have hps19 := hps18.sb hx18 s19
      refine ite2 (fun _ => ?_) (fun _ => ⟨none, 1 + d3, ?_, by omega, by omega, b19, hw19, hr19, hps19⟩)
      · refine ⟨_, rfl, _, rfl, _, _, rfl, rfl, b, ga, la, 16 - m, ?_, by omega, by omega, b19, fun d5 H20 hd5 s20 b20 => ⟨_, _, rfl, rfl, ?_⟩⟩
        · show [V.ref b, V.int ((16 : Int) - (m : Int))] = _
          rw [show (16 : Int) - (m : Int) = ((16 - m : Nat) : Int) by omega]
        obtain ⟨xs19, hx19⟩ := b19.at'
        refine ⟨none, 1 + d5, ?_, by omega, by omega, b20, s20 _ _ wzb hw19, s20 _ _ r1b hr19, hps19.sb hx19 s20⟩
        rw [show ((1 + d5 : Nat) : Int) = (1 : Int) + (d5 : Int) by omega]
        rfl
      · rw [show ((1 + d3 : Nat) : Int) = (1 : Int) + (d3 : Int) by omega]
        rfl
    rintro σ G ⟨v13, k, rfl, k1, k16, bG, hwG, hrG, hpsG⟩
    refine ⟨_, rfl, _, rfl, b, ga, la, k, rfl, by omega, bG, fun line2 r2 G1 lok2 t1 bG1 nr2 hr2 => ?_⟩
    have r2b := (bG.new nr2).1
    obtain ⟨xsG, hxG⟩ := bG.at'
    have hwG1 := t1 _ _ wzb hwG
    have hrG1 := t1 _ _ r1b hrG
    have hpsG1 := hpsG.sb hxG t1
    refine ⟨_, rfl, _, rfl, _, rfl, _, rfl, _, rfl, b, ga, la, r2, k, line2, rfl, by omega, lok2, bG1, r2b, hr2, fun ts2 ps2 mz G2 dn2 nd2 fw2 t2 bG2 nm2 hm2 hps2 => ?_⟩
    have W2 := ws_of lok2 dn2 nd2 fw2
    obtain ⟨xsG1, hxG1⟩ := bG1.at'
    have hwG2 := t2 _ _ wzb hwG1
    have hrG2 := t2 _ _ r1b hrG1
    have hr2G := t2 _ _ r2b hr2
    have hpsG2 := hpsG1.sb hxG1 t2
    have ll1 := lok.1
    have ll2 := lok2.1
    refine ⟨_, rfl, r1', wz, r2, mz, h, line, line2, ts, ts2, ps, ps2, rfl, hrG2, hr2G, hwG2, hpsG2, hm2, hps2, by rw [ll1]; exact W1, by rw [ll2]; exact W2, by omega, by omega, by omega, h2, h10, fun G3 t3 => ⟨true, rfl, iteF ?_⟩⟩
    exact ⟨_, rfl, _, rfl, _, rfl, r1', wz, h, line, ts, ps, rfl, t3 _ _ hrG2, t3 _ _ hwG2, hpsG2.same t3, by rw [ll1]; exact W1, by omega, by omega, h2, h10, fun G4 t4 => q G4⟩
end
end Hue

end
section
set_option maxRecDepth 100000
set_option maxHeartbeats 4000000
namespace Hue
open PySem PySem.Spec PyProof.Rows L2
/-! ### the end: what the top has written, and the head -/
theorem binds_init {K : PySem.W.Frag} {T E : Addr} {ocT : Value} {odT : Option Addr} {itT : Value} {nT : Nat} {slT : Array (Option Value)} (lT : K.lookup T = some ⟨ocT, odT, .seq #[itT] nT, slT⟩) {kV dc pm cd ct : Value} {an : Option Addr} :
    Binds K (PySem.W.fnOf "__init__" "House.__init__" (defArgs s_House___init__) (defBody s_House___init__) (defScope s_House___init__) (.ref T) kV dc pm an cd ct) ["self", "count", "hues", "wires"] [] := fun s us X hl => by
  rw [List.append_nil] at hl ⊢
  match us, hl with
  | [a, b, c, d], _ =>
    refine BindsTo.of_looks fun M => ?_
    have e : ∃ k, bindArgs (PySem.W.fnOf "__init__" "House.__init__" (defArgs s_House___init__) (defBody s_House___init__) (defScope s_House___init__) (.ref T) kV dc pm an cd ct) ⟨[a, b, c, d], []⟩ = seqItems? (.ref T) >>= k ∧ k (some #[itT]) = pure ((["self", "count", "hues", "wires"] : List Str).zip [a, b, c, d]) := ⟨_, rfl, rfl⟩
    obtain ⟨k, e1, e2⟩ := e
    rw [e1]
    exact looks_items X lT rfl (.of_pure e2)
theorem binds_init0 {K : PySem.W.Frag} {T : Addr} {ocT : Value} {odT : Option Addr} {itT : Value} {nT : Nat} {slT : Array (Option Value)} (lT : K.lookup T = some ⟨ocT, odT, .seq #[itT] nT, slT⟩) {kV dc pm cd ct : Value} {an : Option Addr} :
    Binds K (PySem.W.fnOf "__init__" "House.__init__" (defArgs s_House___init__) (defBody s_House___init__) (defScope s_House___init__) (.ref T) kV dc pm an cd ct) ["self", "count", "hues", "wires"] [itT] := fun s us X hl => by
  have l3 : us.length = 3 := by
    rw [List.length_append] at hl
    exact Nat.succ.inj hl
  match us, l3 with
  | [a, b, c], _ =>
    refine BindsTo.of_looks fun M => ?_
    have e : ∃ k, bindArgs (PySem.W.fnOf "__init__" "House.__init__" (defArgs s_House___init__) (defBody s_House___init__) (defScope s_House___init__) (.ref T) kV dc pm an cd ct) ⟨[a, b, c], []⟩ = seqItems? (.ref T) >>= k ∧ k (some #[itT]) = pure ((["self", "count", "hues", "wires"] : List Str).zip [a, b, c, itT]) := ⟨_, rfl, rfl⟩
    obtain ⟨k, e1, e2⟩ := e
    rw [e1]
    exact looks_items X lT rfl (.of_pure e2)
theorem exm_of {K : PySem.W.Frag} {S E : Addr} {b : Bool} (h1 : PySem.W.subIn K (.ref E) (.type "BaseException") = some true) (h2 : PySem.W.isClsIn K E = true) (h3 : PySem.W.typeIn K (.ref E) = some (.type "type")) (h4 : PySem.W.subIn K (.ref S) (.ref E) = some b) : PySem.W.exmOne K (.ref S) (.ref E) = some b := by
  have e1 : (PySem.W.subIn K (.ref E) (.type "BaseException") == some true) = true := by rw [h1] <;> rfl
  have e2 : ((PySem.W.clsIn K E).isSome && PySem.W.typeIn K (.ref E) == some (.type "type")) = true := by
    have h2' : (PySem.W.clsIn K E).isSome = true := h2
    rw [h2', h3] <;> rfl
  show (if (PySem.W.subIn K (.ref E) (.type "BaseException") == some true) = true then (if ((PySem.W.clsIn K E).isSome && PySem.W.typeIn K (.ref E) == some (.type "type")) = true then PySem.W.subIn K (.ref S) (.ref E) else none) else none) = some b
  rw [if_pos e1, if_pos e2]
  exact h4
theorem kit_self {K : PySem.W.Frag} {S : Addr} : PySem.W.kitOne K (.ref S) (.ref S) = some true := by
  show (if ((Value.ref S) == (Value.ref S)) = true then some true else _) = some true
  rw [if_pos (beq_iff_eq.mpr rfl)]
theorem kit_no {K : PySem.W.Frag} {S E : Addr} (h2 : PySem.W.isClsIn K E = true) (h3 : PySem.W.typeIn K (.ref E) = some (.type "type")) (h4 : PySem.W.subIn K (.ref S) (.ref E) = some false) (h5 : PySem.W.subIn K (.ref S) (.ref S) = some true) : PySem.W.kitOne K (.ref S) (.ref E) = some false := by
  have ne : ¬ ((Value.ref S) == (Value.ref E)) = true := fun z => by
    have e := beq_iff_eq.mp z
    rw [← e, h5] at h4
    cases h4
  have e2 : ((PySem.W.clsIn K E).isSome && PySem.W.typeIn K (.ref E) == some (.type "type")) = true := by
    have h2' : (PySem.W.clsIn K E).isSome = true := h2
    rw [h2', h3] <;> rfl
  show (if ((Value.ref S) == (Value.ref E)) = true then some true else (if ((PySem.W.clsIn K E).isSome && PySem.W.typeIn K (.ref E) == some (.type "type")) = true then PySem.W.subIn K (.ref S) (.ref E) else none)) = some false
  rw [if_neg ne, if_pos e2]
  exact h4
theorem kit_no3 {K : PySem.W.Frag} {S A B D : Addr} (a : PySem.W.kitOne K (.ref S) (.ref A) = some false) (b : PySem.W.kitOne K (.ref S) (.ref B) = some false) (c : PySem.W.kitOne K (.ref S) (.ref D) = some false) : PySem.W.kitAny K (.ref S) [.ref A, .ref B, .ref D] = some false := by
  unfold PySem.W.kitAny
  rw [a]
  show PySem.W.kitAny K (.ref S) [.ref B, .ref D] = some false
  unfold PySem.W.kitAny
  rw [b]
  show PySem.W.kitAny K (.ref S) [.ref D] = some false
  unfold PySem.W.kitAny
  rw [c]
  rfl
theorem all_mk {l : PySem.W.OpenLaw} {w : World} {K : PySem.W.Frag} {h : Heap} {mg : Str → Option Value} {fa : Addr} (X : K.In h) (G : h.Ns mainGlobals mg) (hfa : mg "law" = some (.ref fa))
    {f0 : Addr} {od0 an0 : Option Addr} {sl0 : Array (Option Value)} {oc0 kV0 dc0 pm0 cd0 ct0 : Value}
    {f1 : Addr} {od1 an1 : Option Addr} {sl1 : Array (Option Value)} {oc1 kV1 dc1 pm1 cd1 ct1 : Value}
    {f2 : Addr} {od2 an2 : Option Addr} {sl2 : Array (Option Value)} {oc2 kV2 dc2 pm2 cd2 ct2 : Value}
    {f3 : Addr} {od3 an3 : Option Addr} {sl3 : Array (Option Value)} {oc3 kV3 dc3 pm3 cd3 ct3 : Value}
    {f4 : Addr} {od4 an4 : Option Addr} {sl4 : Array (Option Value)} {oc4 kV4 dc4 pm4 cd4 ct4 : Value}
    {f5 : Addr} {od5 an5 : Option Addr} {sl5 : Array (Option Value)} {oc5 kV5 dc5 pm5 cd5 ct5 : Value}
    {f6 : Addr} {od6 an6 : Option Addr} {sl6 : Array (Option Value)} {oc6 kV6 dc6 pm6 cd6 ct6 : Value}
    {f7 : Addr} {od7 an7 : Option Addr} {sl7 : Array (Option Value)} {oc7 kV7 dc7 pm7 cd7 ct7 : Value}
    {f8 : Addr} {od8 an8 : Option Addr} {sl8 : Array (Option Value)} {oc8 kV8 dc8 pm8 cd8 ct8 : Value}
    {f9 : Addr} {od9 an9 : Option Addr} {sl9 : Array (Option Value)} {oc9 kV9 dc9 pm9 cd9 ct9 : Value}
    {f10 : Addr} {od10 an10 : Option Addr} {sl10 : Array (Option Value)} {oc10 kV10 dc10 pm10 cd10 ct10 : Value}
    {f11 : Addr} {od11 an11 : Option Addr} {sl11 : Array (Option Value)} {oc11 kV11 dc11 pm11 cd11 ct11 : Value}
    {f12 : Addr} {od12 an12 : Option Addr} {sl12 : Array (Option Value)} {oc12 kV12 dc12 pm12 cd12 ct12 : Value}
    {f13 : Addr} {od13 an13 : Option Addr} {sl13 : Array (Option Value)} {oc13 kV13 dc13 pm13 cd13 ct13 : Value}
    {f14 : Addr} {od14 an14 : Option Addr} {sl14 : Array (Option Value)} {oc14 kV14 dc14 pm14 cd14 ct14 : Value}
    {f15 : Addr} {od15 an15 : Option Addr} {sl15 : Array (Option Value)} {oc15 kV15 dc15 pm15 cd15 ct15 : Value}
    {f16 : Addr} {od16 an16 : Option Addr} {sl16 : Array (Option Value)} {oc16 kV16 dc16 pm16 cd16 ct16 : Value}
    {f17 : Addr} {od17 an17 : Option Addr} {sl17 : Array (Option Value)} {oc17 kV17 dc17 pm17 cd17 ct17 : Value}
    {f18 : Addr} {od18 an18 : Option Addr} {sl18 : Array (Option Value)} {oc18 kV18 dc18 pm18 cd18 ct18 : Value}
    {f19 : Addr} {od19 an19 : Option Addr} {sl19 : Array (Option Value)} {oc19 kV19 dc19 pm19 cd19 ct19 : Value}
    {f20 : Addr} {od20 an20 : Option Addr} {sl20 : Array (Option Value)} {oc20 kV20 dc20 pm20 cd20 ct20 : Value}
    {f21 : Addr} {od21 an21 : Option Addr} {sl21 : Array (Option Value)} {oc21 kV21 dc21 pm21 cd21 ct21 : Value}
    {f22 : Addr} {od22 an22 : Option Addr} {sl22 : Array (Option Value)} {oc22 kV22 dc22 pm22 cd22 ct22 : Value}
    {f23 : Addr} {od23 an23 : Option Addr} {sl23 : Array (Option Value)} {oc23 kV23 dc23 pm23 cd23 ct23 : Value}
    {f24 : Addr} {od24 an24 : Option Addr} {sl24 : Array (Option Value)} {oc24 kV24 dc24 pm24 cd24 ct24 : Value}
    {f25 : Addr} {od25 an25 : Option Addr} {sl25 : Array (Option Value)} {oc25 kV25 dc25 pm25 cd25 ct25 : Value}
    {f26 : Addr} {od26 an26 : Option Addr} {sl26 : Array (Option Value)} {oc26 kV26 dc26 pm26 cd26 ct26 : Value}
    {f27 : Addr} {od27 an27 : Option Addr} {sl27 : Array (Option Value)} {oc27 kV27 dc27 pm27 cd27 ct27 : Value}
    {f28 : Addr} {od28 an28 : Option Addr} {sl28 : Array (Option Value)} {oc28 kV28 dc28 pm28 cd28 ct28 : Value}
    {f29 : Addr} {od29 an29 : Option Addr} {sl29 : Array (Option Value)} {oc29 kV29 dc29 pm29 cd29 ct29 : Value}
    {f30 : Addr} {od30 an30 : Option Addr} {sl30 : Array (Option Value)} {oc30 kV30 dc30 pm30 cd30 ct30 : Value}
    {f31 : Addr} {od31 an31 : Option Addr} {sl31 : Array (Option Value)} {oc31 kV31 dc31 pm31 cd31 ct31 : Value}
    {f32 : Addr} {od32 an32 : Option Addr} {sl32 : Array (Option Value)} {oc32 kV32 dc32 pm32 cd32 ct32 : Value}
    {f33 : Addr} {od33 an33 : Option Addr} {sl33 : Array (Option Value)} {oc33 kV33 dc33 pm33 cd33 ct33 : Value}
    {f34 : Addr} {od34 an34 : Option Addr} {sl34 : Array (Option Value)} {oc34 kV34 dc34 pm34 cd34 ct34 : Value}
    {f35 : Addr} {od35 an35 : Option Addr} {sl35 : Array (Option Value)} {oc35 kV35 dc35 pm35 cd35 ct35 : Value}
    {f36 : Addr} {od36 an36 : Option Addr} {sl36 : Array (Option Value)} {oc36 kV36 dc36 pm36 cd36 ct36 : Value}
    {f37 : Addr} {od37 an37 : Option Addr} {sl37 : Array (Option Value)} {oc37 kV37 dc37 pm37 cd37 ct37 : Value}
    {f38 : Addr} {od38 an38 : Option Addr} {sl38 : Array (Option Value)} {oc38 kV38 dc38 pm38 cd38 ct38 : Value}
    {fM0 : Addr} {odM0 anM0 : Option Addr} {slM0 : Array (Option Value)} {ocM0 kVM0 dcM0 pmM0 cdM0 ctM0 : Value}
    {fM1 : Addr} {odM1 anM1 : Option Addr} {slM1 : Array (Option Value)} {ocM1 kVM1 dcM1 pmM1 cdM1 ctM1 : Value}
    {C T0 E0 : Addr} {ocT ocE : Value} {odT odE : Option Addr} {nT nE : Nat} {slT slE : Array (Option Value)} {u1 u2 : Value}
    {fI : Addr} {odI anI : Option Addr} {slI : Array (Option Value)} {ocI kVI dcI pmI cdI ctI : Value}
    {fS0 pS0 : Addr} {restS0 : List Value} {odS0 anS0 : Option Addr} {slS0 : Array (Option Value)} {ocS0 kVS0 dcS0 pmS0 cdS0 ctS0 : Value}
    {CL CE NL fX : Addr} {nmL qL : Str} {bsL : List Value} {snL : List Str} {subL : List Value} {abL : Bool} {colL : Option Bool} {ddL : Option Addr} {m0L m1L m2L m3L m5L : Option Value} {odX anX : Option Addr} {slX : Array (Option Value)} {ocX kVX dcX pmX cdX ctX : Value}
    {fQE : Addr} {odQE anQE : Option Addr} {slQE : Array (Option Value)} {ocQE kVQE dcQE pmQE cdQE ctQE : Value}
    (aC : PySem.W.nsIn K mainGlobals "House" = some (some (.ref C)))
    (a0 : PySem.W.nsIn K mainGlobals "is_whole" = some (some (.ref f0))) (l0 : K.lookup f0 = some ⟨oc0, od0, .func (PySem.W.fnOf "is_whole" "is_whole" (defArgs s_is_whole) (defBody s_is_whole) (defScope s_is_whole) .none kV0 dc0 pm0 an0 cd0 ct0), sl0⟩) (c0 : PySem.W.codeIn K cd0 "is_whole" = true) (k0 : PySem.W.keepIn K (.ref f0) = true)
    (a1 : PySem.W.nsIn K mainGlobals "is_whole_in" = some (some (.ref f1))) (l1 : K.lookup f1 = some ⟨oc1, od1, .func (PySem.W.fnOf "is_whole_in" "is_whole_in" (defArgs s_is_whole_in) (defBody s_is_whole_in) (defScope s_is_whole_in) .none kV1 dc1 pm1 an1 cd1 ct1), sl1⟩) (c1 : PySem.W.codeIn K cd1 "is_whole_in" = true) (k1 : PySem.W.keepIn K (.ref f1) = true)
    (a2 : PySem.W.nsIn K mainGlobals "check_count" = some (some (.ref f2))) (l2 : K.lookup f2 = some ⟨oc2, od2, .func (PySem.W.fnOf "check_count" "check_count" (defArgs s_check_count) (defBody s_check_count) (defScope s_check_count) .none kV2 dc2 pm2 an2 cd2 ct2), sl2⟩) (c2 : PySem.W.codeIn K cd2 "check_count" = true) (k2 : PySem.W.keepIn K (.ref f2) = true)
    (a3 : PySem.W.nsIn K mainGlobals "check_hues" = some (some (.ref f3))) (l3 : K.lookup f3 = some ⟨oc3, od3, .func (PySem.W.fnOf "check_hues" "check_hues" (defArgs s_check_hues) (defBody s_check_hues) (defScope s_check_hues) .none kV3 dc3 pm3 an3 cd3 ct3), sl3⟩) (c3 : PySem.W.codeIn K cd3 "check_hues" = true) (k3 : PySem.W.keepIn K (.ref f3) = true)
    (a4 : PySem.W.nsIn K mainGlobals "is_wire" = some (some (.ref f4))) (l4 : K.lookup f4 = some ⟨oc4, od4, .func (PySem.W.fnOf "is_wire" "is_wire" (defArgs s_is_wire) (defBody s_is_wire) (defScope s_is_wire) .none kV4 dc4 pm4 an4 cd4 ct4), sl4⟩) (c4 : PySem.W.codeIn K cd4 "is_wire" = true) (k4 : PySem.W.keepIn K (.ref f4) = true)
    (a5 : PySem.W.nsIn K mainGlobals "with_wire" = some (some (.ref f5))) (l5 : K.lookup f5 = some ⟨oc5, od5, .func (PySem.W.fnOf "with_wire" "with_wire" (defArgs s_with_wire) (defBody s_with_wire) (defScope s_with_wire) .none kV5 dc5 pm5 an5 cd5 ct5), sl5⟩) (c5 : PySem.W.codeIn K cd5 "with_wire" = true) (k5 : PySem.W.keepIn K (.ref f5) = true)
    (a6 : PySem.W.nsIn K mainGlobals "lamps_beneath" = some (some (.ref f6))) (l6 : K.lookup f6 = some ⟨oc6, od6, .func (PySem.W.fnOf "lamps_beneath" "lamps_beneath" (defArgs s_lamps_beneath) (defBody s_lamps_beneath) (defScope s_lamps_beneath) .none kV6 dc6 pm6 an6 cd6 ct6), sl6⟩) (c6 : PySem.W.codeIn K cd6 "lamps_beneath" = true) (k6 : PySem.W.keepIn K (.ref f6) = true)
    (a7 : PySem.W.nsIn K mainGlobals "is_next" = some (some (.ref f7))) (l7 : K.lookup f7 = some ⟨oc7, od7, .func (PySem.W.fnOf "is_next" "is_next" (defArgs s_is_next) (defBody s_is_next) (defScope s_is_next) .none kV7 dc7 pm7 an7 cd7 ct7), sl7⟩) (c7 : PySem.W.codeIn K cd7 "is_next" = true) (k7 : PySem.W.keepIn K (.ref f7) = true)
    (a8 : PySem.W.nsIn K mainGlobals "order_list" = some (some (.ref f8))) (l8 : K.lookup f8 = some ⟨oc8, od8, .func (PySem.W.fnOf "order_list" "order_list" (defArgs s_order_list) (defBody s_order_list) (defScope s_order_list) .none kV8 dc8 pm8 an8 cd8 ct8), sl8⟩) (c8 : PySem.W.codeIn K cd8 "order_list" = true) (k8 : PySem.W.keepIn K (.ref f8) = true)
    (a9 : PySem.W.nsIn K mainGlobals "is_lamp" = some (some (.ref f9))) (l9 : K.lookup f9 = some ⟨oc9, od9, .func (PySem.W.fnOf "is_lamp" "is_lamp" (defArgs s_is_lamp) (defBody s_is_lamp) (defScope s_is_lamp) .none kV9 dc9 pm9 an9 cd9 ct9), sl9⟩) (c9 : PySem.W.codeIn K cd9 "is_lamp" = true) (k9 : PySem.W.keepIn K (.ref f9) = true)
    (a10 : PySem.W.nsIn K mainGlobals "check_lamp" = some (some (.ref f10))) (l10 : K.lookup f10 = some ⟨oc10, od10, .func (PySem.W.fnOf "check_lamp" "check_lamp" (defArgs s_check_lamp) (defBody s_check_lamp) (defScope s_check_lamp) .none kV10 dc10 pm10 an10 cd10 ct10), sl10⟩) (c10 : PySem.W.codeIn K cd10 "check_lamp" = true) (k10 : PySem.W.keepIn K (.ref f10) = true)
    (a11 : PySem.W.nsIn K mainGlobals "check_size" = some (some (.ref f11))) (l11 : K.lookup f11 = some ⟨oc11, od11, .func (PySem.W.fnOf "check_size" "check_size" (defArgs s_check_size) (defBody s_check_size) (defScope s_check_size) .none kV11 dc11 pm11 an11 cd11 ct11), sl11⟩) (c11 : PySem.W.codeIn K cd11 "check_size" = true) (k11 : PySem.W.keepIn K (.ref f11) = true)
    (a12 : PySem.W.nsIn K mainGlobals "check_pair" = some (some (.ref f12))) (l12 : K.lookup f12 = some ⟨oc12, od12, .func (PySem.W.fnOf "check_pair" "check_pair" (defArgs s_check_pair) (defBody s_check_pair) (defScope s_check_pair) .none kV12 dc12 pm12 an12 cd12 ct12), sl12⟩) (c12 : PySem.W.codeIn K cd12 "check_pair" = true) (k12 : PySem.W.keepIn K (.ref f12) = true)
    (a13 : PySem.W.nsIn K mainGlobals "all_wires" = some (some (.ref f13))) (l13 : K.lookup f13 = some ⟨oc13, od13, .func (PySem.W.fnOf "all_wires" "all_wires" (defArgs s_all_wires) (defBody s_all_wires) (defScope s_all_wires) .none kV13 dc13 pm13 an13 cd13 ct13), sl13⟩) (c13 : PySem.W.codeIn K cd13 "all_wires" = true) (k13 : PySem.W.keepIn K (.ref f13) = true)
    (a14 : PySem.W.nsIn K mainGlobals "chain" = some (some (.ref f14))) (l14 : K.lookup f14 = some ⟨oc14, od14, .func (PySem.W.fnOf "chain" "chain" (defArgs s_chain) (defBody s_chain) (defScope s_chain) .none kV14 dc14 pm14 an14 cd14 ct14), sl14⟩) (c14 : PySem.W.codeIn K cd14 "chain" = true) (k14 : PySem.W.keepIn K (.ref f14) = true)
    (a15 : PySem.W.nsIn K mainGlobals "stairs" = some (some (.ref f15))) (l15 : K.lookup f15 = some ⟨oc15, od15, .func (PySem.W.fnOf "stairs" "stairs" (defArgs s_stairs) (defBody s_stairs) (defScope s_stairs) .none kV15 dc15 pm15 an15 cd15 ct15), sl15⟩) (c15 : PySem.W.codeIn K cd15 "stairs" = true) (k15 : PySem.W.keepIn K (.ref f15) = true)
    (a16 : PySem.W.nsIn K mainGlobals "hillside" = some (some (.ref f16))) (l16 : K.lookup f16 = some ⟨oc16, od16, .func (PySem.W.fnOf "hillside" "hillside" (defArgs s_hillside) (defBody s_hillside) (defScope s_hillside) .none kV16 dc16 pm16 an16 cd16 ct16), sl16⟩) (c16 : PySem.W.codeIn K cd16 "hillside" = true) (k16 : PySem.W.keepIn K (.ref f16) = true)
    (a17 : PySem.W.nsIn K mainGlobals "floors" = some (some (.ref f17))) (l17 : K.lookup f17 = some ⟨oc17, od17, .func (PySem.W.fnOf "floors" "floors" (defArgs s_floors) (defBody s_floors) (defScope s_floors) .none kV17 dc17 pm17 an17 cd17 ct17), sl17⟩) (c17 : PySem.W.codeIn K cd17 "floors" = true) (k17 : PySem.W.keepIn K (.ref f17) = true)
    (a18 : PySem.W.nsIn K mainGlobals "wires_of_both" = some (some (.ref f18))) (l18 : K.lookup f18 = some ⟨oc18, od18, .func (PySem.W.fnOf "wires_of_both" "wires_of_both" (defArgs s_wires_of_both) (defBody s_wires_of_both) (defScope s_wires_of_both) .none kV18 dc18 pm18 an18 cd18 ct18), sl18⟩) (c18 : PySem.W.codeIn K cd18 "wires_of_both" = true) (k18 : PySem.W.keepIn K (.ref f18) = true)
    (a19 : PySem.W.nsIn K mainGlobals "side_by_side" = some (some (.ref f19))) (l19 : K.lookup f19 = some ⟨oc19, od19, .func (PySem.W.fnOf "side_by_side" "side_by_side" (defArgs s_side_by_side) (defBody s_side_by_side) (defScope s_side_by_side) .none kV19 dc19 pm19 an19 cd19 ct19), sl19⟩) (c19 : PySem.W.codeIn K cd19 "side_by_side" = true) (k19 : PySem.W.keepIn K (.ref f19) = true)
    (a20 : PySem.W.nsIn K mainGlobals "stacked" = some (some (.ref f20))) (l20 : K.lookup f20 = some ⟨oc20, od20, .func (PySem.W.fnOf "stacked" "stacked" (defArgs s_stacked) (defBody s_stacked) (defScope s_stacked) .none kV20 dc20 pm20 an20 cd20 ct20), sl20⟩) (c20 : PySem.W.codeIn K cd20 "stacked" = true) (k20 : PySem.W.keepIn K (.ref f20) = true)
    (a21 : PySem.W.nsIn K mainGlobals "_law_box" = some (some (.ref f21))) (l21 : K.lookup f21 = some ⟨oc21, od21, .func (PySem.W.fnOf "_law_box" "_law_box" (defArgs s__law_box) (defBody s__law_box) (defScope s__law_box) .none kV21 dc21 pm21 an21 cd21 ct21), sl21⟩) (c21 : PySem.W.codeIn K cd21 "_law_box" = true) (k21 : PySem.W.keepIn K (.ref f21) = true)
    (a22 : PySem.W.nsIn K mainGlobals "_law_take" = some (some (.ref f22))) (l22 : K.lookup f22 = some ⟨oc22, od22, .func (PySem.W.fnOf "_law_take" "_law_take" (defArgs s__law_take) (defBody s__law_take) (defScope s__law_take) .none kV22 dc22 pm22 an22 cd22 ct22), sl22⟩) (c22 : PySem.W.codeIn K cd22 "_law_take" = true) (k22 : PySem.W.keepIn K (.ref f22) = true)
    (a23 : PySem.W.nsIn K mainGlobals "_law_sizes" = some (some (.ref f23))) (l23 : K.lookup f23 = some ⟨oc23, od23, .func (PySem.W.fnOf "_law_sizes" "_law_sizes" (defArgs s__law_sizes) (defBody s__law_sizes) (defScope s__law_sizes) .none kV23 dc23 pm23 an23 cd23 ct23), sl23⟩) (c23 : PySem.W.codeIn K cd23 "_law_sizes" = true) (k23 : PySem.W.keepIn K (.ref f23) = true)
    (a24 : PySem.W.nsIn K mainGlobals "_law_row" = some (some (.ref f24))) (l24 : K.lookup f24 = some ⟨oc24, od24, .func (PySem.W.fnOf "_law_row" "_law_row" (defArgs s__law_row) (defBody s__law_row) (defScope s__law_row) .none kV24 dc24 pm24 an24 cd24 ct24), sl24⟩) (c24 : PySem.W.codeIn K cd24 "_law_row" = true) (k24 : PySem.W.keepIn K (.ref f24) = true)
    (a25 : PySem.W.nsIn K mainGlobals "_law_wires" = some (some (.ref f25))) (l25 : K.lookup f25 = some ⟨oc25, od25, .func (PySem.W.fnOf "_law_wires" "_law_wires" (defArgs s__law_wires) (defBody s__law_wires) (defScope s__law_wires) .none kV25 dc25 pm25 an25 cd25 ct25), sl25⟩) (c25 : PySem.W.codeIn K cd25 "_law_wires" = true) (k25 : PySem.W.keepIn K (.ref f25) = true)
    (a26 : PySem.W.nsIn K mainGlobals "_law_number" = some (some (.ref f26))) (l26 : K.lookup f26 = some ⟨oc26, od26, .func (PySem.W.fnOf "_law_number" "_law_number" (defArgs s__law_number) (defBody s__law_number) (defScope s__law_number) .none kV26 dc26 pm26 an26 cd26 ct26), sl26⟩) (c26 : PySem.W.codeIn K cd26 "_law_number" = true) (k26 : PySem.W.keepIn K (.ref f26) = true)
    (a27 : PySem.W.nsIn K mainGlobals "_law_list" = some (some (.ref f27))) (l27 : K.lookup f27 = some ⟨oc27, od27, .func (PySem.W.fnOf "_law_list" "_law_list" (defArgs s__law_list) (defBody s__law_list) (defScope s__law_list) .none kV27 dc27 pm27 an27 cd27 ct27), sl27⟩) (c27 : PySem.W.codeIn K cd27 "_law_list" = true) (k27 : PySem.W.keepIn K (.ref f27) = true)
    (a28 : PySem.W.nsIn K mainGlobals "_law_under" = some (some (.ref f28))) (l28 : K.lookup f28 = some ⟨oc28, od28, .func (PySem.W.fnOf "_law_under" "_law_under" (defArgs s__law_under) (defBody s__law_under) (defScope s__law_under) .none kV28 dc28 pm28 an28 cd28 ct28), sl28⟩) (c28 : PySem.W.codeIn K cd28 "_law_under" = true) (k28 : PySem.W.keepIn K (.ref f28) = true)
    (a29 : PySem.W.nsIn K mainGlobals "_law_pairs" = some (some (.ref f29))) (l29 : K.lookup f29 = some ⟨oc29, od29, .func (PySem.W.fnOf "_law_pairs" "_law_pairs" (defArgs s__law_pairs) (defBody s__law_pairs) (defScope s__law_pairs) .none kV29 dc29 pm29 an29 cd29 ct29), sl29⟩) (c29 : PySem.W.codeIn K cd29 "_law_pairs" = true) (k29 : PySem.W.keepIn K (.ref f29) = true)
    (a30 : PySem.W.nsIn K mainGlobals "_law_same_house" = some (some (.ref f30))) (l30 : K.lookup f30 = some ⟨oc30, od30, .func (PySem.W.fnOf "_law_same_house" "_law_same_house" (defArgs s__law_same_house) (defBody s__law_same_house) (defScope s__law_same_house) .none kV30 dc30 pm30 an30 cd30 ct30), sl30⟩) (c30 : PySem.W.codeIn K cd30 "_law_same_house" = true) (k30 : PySem.W.keepIn K (.ref f30) = true)
    (a31 : PySem.W.nsIn K mainGlobals "_law_parents" = some (some (.ref f31))) (l31 : K.lookup f31 = some ⟨oc31, od31, .func (PySem.W.fnOf "_law_parents" "_law_parents" (defArgs s__law_parents) (defBody s__law_parents) (defScope s__law_parents) .none kV31 dc31 pm31 an31 cd31 ct31), sl31⟩) (c31 : PySem.W.codeIn K cd31 "_law_parents" = true) (k31 : PySem.W.keepIn K (.ref f31) = true)
    (a32 : PySem.W.nsIn K mainGlobals "_law_stairs_right" = some (some (.ref f32))) (l32 : K.lookup f32 = some ⟨oc32, od32, .func (PySem.W.fnOf "_law_stairs_right" "_law_stairs_right" (defArgs s__law_stairs_right) (defBody s__law_stairs_right) (defScope s__law_stairs_right) .none kV32 dc32 pm32 an32 cd32 ct32), sl32⟩) (c32 : PySem.W.codeIn K cd32 "_law_stairs_right" = true) (k32 : PySem.W.keepIn K (.ref f32) = true)
    (a33 : PySem.W.nsIn K mainGlobals "_law_hillside_right" = some (some (.ref f33))) (l33 : K.lookup f33 = some ⟨oc33, od33, .func (PySem.W.fnOf "_law_hillside_right" "_law_hillside_right" (defArgs s__law_hillside_right) (defBody s__law_hillside_right) (defScope s__law_hillside_right) .none kV33 dc33 pm33 an33 cd33 ct33), sl33⟩) (c33 : PySem.W.codeIn K cd33 "_law_hillside_right" = true) (k33 : PySem.W.keepIn K (.ref f33) = true)
    (a34 : PySem.W.nsIn K mainGlobals "_law_sizes_list" = some (some (.ref f34))) (l34 : K.lookup f34 = some ⟨oc34, od34, .func (PySem.W.fnOf "_law_sizes_list" "_law_sizes_list" (defArgs s__law_sizes_list) (defBody s__law_sizes_list) (defScope s__law_sizes_list) .none kV34 dc34 pm34 an34 cd34 ct34), sl34⟩) (c34 : PySem.W.codeIn K cd34 "_law_sizes_list" = true) (k34 : PySem.W.keepIn K (.ref f34) = true)
    (a35 : PySem.W.nsIn K mainGlobals "_law_floors_right" = some (some (.ref f35))) (l35 : K.lookup f35 = some ⟨oc35, od35, .func (PySem.W.fnOf "_law_floors_right" "_law_floors_right" (defArgs s__law_floors_right) (defBody s__law_floors_right) (defScope s__law_floors_right) .none kV35 dc35 pm35 an35 cd35 ct35), sl35⟩) (c35 : PySem.W.codeIn K cd35 "_law_floors_right" = true) (k35 : PySem.W.keepIn K (.ref f35) = true)
    (a36 : PySem.W.nsIn K mainGlobals "_law_both_right" = some (some (.ref f36))) (l36 : K.lookup f36 = some ⟨oc36, od36, .func (PySem.W.fnOf "_law_both_right" "_law_both_right" (defArgs s__law_both_right) (defBody s__law_both_right) (defScope s__law_both_right) .none kV36 dc36 pm36 an36 cd36 ct36), sl36⟩) (c36 : PySem.W.codeIn K cd36 "_law_both_right" = true) (k36 : PySem.W.keepIn K (.ref f36) = true)
    (a37 : PySem.W.nsIn K mainGlobals "_law_with_itself_right" = some (some (.ref f37))) (l37 : K.lookup f37 = some ⟨oc37, od37, .func (PySem.W.fnOf "_law_with_itself_right" "_law_with_itself_right" (defArgs s__law_with_itself_right) (defBody s__law_with_itself_right) (defScope s__law_with_itself_right) .none kV37 dc37 pm37 an37 cd37 ct37), sl37⟩) (c37 : PySem.W.codeIn K cd37 "_law_with_itself_right" = true) (k37 : PySem.W.keepIn K (.ref f37) = true)
    (a38 : PySem.W.nsIn K mainGlobals "law" = some (some (.ref f38))) (l38 : K.lookup f38 = some ⟨oc38, od38, .func (PySem.W.fnOf "law" "law" (defArgs s_law) (defBody s_law) (defScope s_law) .none kV38 dc38 pm38 an38 cd38 ct38), sl38⟩) (c38 : PySem.W.codeIn K cd38 "law" = true) (k38 : PySem.W.keepIn K (.ref f38) = true)
    (aM0 : PySem.W.findIn K (.ref C) "beneath" = some (some (.ref fM0))) (iM0 : PySem.W.isFn K (.ref fM0) = true) (lM0 : K.lookup fM0 = some ⟨ocM0, odM0, .func (PySem.W.fnOf "beneath" "House.beneath" (defArgs s_House_beneath) (defBody s_House_beneath) (defScope s_House_beneath) .none kVM0 dcM0 pmM0 anM0 cdM0 ctM0), slM0⟩) (cM0 : PySem.W.codeIn K cdM0 "House.beneath" = true) (kM0 : PySem.W.keepIn K (.ref fM0) = true)
    (aM1 : PySem.W.findIn K (.ref C) "above" = some (some (.ref fM1))) (iM1 : PySem.W.isFn K (.ref fM1) = true) (lM1 : K.lookup fM1 = some ⟨ocM1, odM1, .func (PySem.W.fnOf "above" "House.above" (defArgs s_House_above) (defBody s_House_above) (defScope s_House_above) .none kVM1 dcM1 pmM1 anM1 cdM1 ctM1), slM1⟩) (cM1 : PySem.W.codeIn K cdM1 "House.above" = true) (kM1 : PySem.W.keepIn K (.ref fM1) = true)
    (aI : PySem.W.findIn K (.ref C) "__init__" = some (some (.ref fI))) (iI : PySem.W.isFn K (.ref fI) = true) (lI : K.lookup fI = some ⟨ocI, odI, .func (PySem.W.fnOf "__init__" "House.__init__" (defArgs s_House___init__) (defBody s_House___init__) (defScope s_House___init__) (.ref T0) kVI dcI pmI anI cdI ctI), slI⟩) (cI : PySem.W.codeIn K cdI "House.__init__" = true) (kI : PySem.W.keepIn K (.ref fI) = true)
    (lT : K.lookup T0 = some ⟨ocT, odT, .seq #[.ref E0] nT, slT⟩) (lE : K.lookup E0 = some ⟨ocE, odE, .seq #[] nE, slE⟩) (eE : ocE = .type "tuple")
    (pg : PySem.W.plainGet K C Str.empty = true) (hd : PySem.W.hasDictIn K C = true) (po : PySem.W.plainOver K C = true) (sa : PySem.W.findIn K (.ref C) "__setattr__" = some (some (.builtin "object.__setattr__"))) (mk : PySem.W.makesIn K C = true) (kc : PySem.W.keepIn K (.ref C) = true)
    (nCount : PySem.W.findIn K (.ref C) "count" = some none)
    (nHues : PySem.W.findIn K (.ref C) "hues" = some none)
    (nBen : PySem.W.findIn K (.ref C) "_beneath" = some none)
    (nWires : PySem.W.findIn K (.ref C) "wires" = some none)
    (nAbove : PySem.W.findIn K (.ref C) "_above" = some none)
    (nDirect : PySem.W.findIn K (.ref C) "_direct" = some none)
    (nOrder : PySem.W.findIn K (.ref C) "_order" = some none)
    (rd : PySem.W.readsIn K C (.type "type") = true) (ga : PySem.W.specialIn K (.ref C) "__getattribute__" = some (some (.builtin "type.__getattribute__"))) (v1 : PySem.W.findCls K (.ref C) (.type "type") "MOST_LAMPS" = some (.val u1)) (r1 : ∃ t, u1 = .int 16 t) (v2 : PySem.W.findCls K (.ref C) (.type "type") "MOST_HUES" = some (.val u2)) (r2 : ∃ t, u2 = .int 10 t)
    (b_len : PySem.W.nsIn K mainGlobals "len" = some none)
    (b_range : PySem.W.nsIn K mainGlobals "range" = some none)
    (b_isinstance : PySem.W.nsIn K mainGlobals "isinstance" = some none)
    (b_int : PySem.W.nsIn K mainGlobals "int" = some none)
    (b_bool : PySem.W.nsIn K mainGlobals "bool" = some none)
    (b_tuple : PySem.W.nsIn K mainGlobals "tuple" = some none)
    (b_list : PySem.W.nsIn K mainGlobals "list" = some none)
    (b_set : PySem.W.nsIn K mainGlobals "set" = some none)
    (b_enumerate : PySem.W.nsIn K mainGlobals "enumerate" = some none)
    (b_sorted : PySem.W.nsIn K mainGlobals "sorted" = some none)
    (b_min : PySem.W.nsIn K mainGlobals "min" = some none)
    (b_all : PySem.W.nsIn K mainGlobals "all" = some none)
    (b_any : PySem.W.nsIn K mainGlobals "any" = some none)
    (b_abs : PySem.W.nsIn K mainGlobals "abs" = some none)
    (b_reversed : PySem.W.nsIn K mainGlobals "reversed" = some none)
    (b_max : PySem.W.nsIn K mainGlobals "max" = some none)
    (b_str : PySem.W.nsIn K mainGlobals "str" = some none)
    (b_repr : PySem.W.nsIn K mainGlobals "repr" = some none)
    (b_zip : PySem.W.nsIn K mainGlobals "zip" = some none)
    (b_sum : PySem.W.nsIn K mainGlobals "sum" = some none)
    (aS0 : PySem.W.findCls K (.ref C) (.type "type") "scattered" = some (.get (.builtin "staticmethod.__get__") (.ref pS0) .none (.ref C))) (rS0 : PySem.W.recIn K pS0 "staticmethod" = some (.ref fS0 :: restS0)) (lS0 : K.lookup fS0 = some ⟨ocS0, odS0, .func (PySem.W.fnOf "scattered" "House.scattered" (defArgs s_House_scattered) (defBody s_House_scattered) (defScope s_House_scattered) .none kVS0 dcS0 pmS0 anS0 cdS0 ctS0), slS0⟩) (cS0 : PySem.W.codeIn K cdS0 "House.scattered" = true) (kS0 : PySem.W.keepIn K (.ref fS0) = true)
    (xaE : PySem.W.nsIn K mainGlobals "HuefallError" = some (some (.ref CE))) (xaL : PySem.W.nsIn K mainGlobals "InvalidLamp" = some (some (.ref CL))) (xlL : K.lookup CL = some (excClassObj nmL qL CL NL bsL [.ref CE, .type "ValueError", .type "Exception", .type "BaseException", .type "object"] true snL subL abL colL ddL m0L m1L m2L m3L m5L "ValueError.__new__")) (xsa : PySem.W.findIn K (.ref CL) "__setattr__" = some (some (.builtin "object.__setattr__"))) (xga : PySem.W.findIn K (.ref CL) "__getattribute__" = some (some (.builtin "BaseException.__getattribute__"))) (xgg : PySem.W.findIn K (.ref CL) "__getattr__" = some none) (xca : PySem.W.findIn K (.ref CL) "__class__" = some (some (.builtin "object.__class__"))) (xnl : PySem.W.findIn K (.ref CL) "lamp" = some none) (xiL : PySem.W.findIn K (.ref CL) "__init__" = some (some (.ref fX))) (xtX : PySem.W.typeIn K (.ref fX) = some (.type "function")) (xlX : K.lookup fX = some ⟨ocX, odX, .func (PySem.W.fnOf "__init__" "InvalidLamp.__init__" (defArgs s_InvalidLamp___init__) (defBody s_InvalidLamp___init__) (defScope s_InvalidLamp___init__) .none kVX dcX pmX anX cdX ctX), slX⟩) (xcX : PySem.W.codeIn K cdX "InvalidLamp.__init__" = true) (xkX : PySem.W.keepIn K (.ref fX) = true) (xkL : PySem.W.keepIn K (.ref CL) = true) (xeL : PySem.W.subIn K (.ref CL) (.type "BaseException") = some true) (xtL : PySem.W.typeIn K (.ref CL) = some (.type "type")) (xhL : PySem.W.hasDictIn K CL = true) (xmL : PySem.W.mroIn K CL (.type "object") = some true) (xsL : PySem.W.subIn K (.ref CL) (.ref CL) = some true) (xeE : PySem.W.subIn K (.ref CE) (.type "BaseException") = some true) (xiE : PySem.W.isClsIn K CE = true) (xtE : PySem.W.typeIn K (.ref CE) = some (.type "type")) (xsE : PySem.W.subIn K (.ref CL) (.ref CE) = some true) (xgs : PySem.W.specialIn K (.builtin "object.__class__") "__get__" = some (some (.builtin "getset_descriptor.__get__"))) (xtk : PySem.W.takesIn K (.builtin "object.__class__") = some true) (qaE : PySem.W.findIn K (.ref C) "__eq__" = some (some (.ref fQE))) (qiE : PySem.W.isFn K (.ref fQE) = true) (qlE : K.lookup fQE = some ⟨ocQE, odQE, .func (PySem.W.fnOf "__eq__" "House.__eq__" (defArgs s_House___eq__) (defBody s_House___eq__) (defScope s_House___eq__) .none kVQE dcQE pmQE anQE cdQE ctQE), slQE⟩) (qcE : PySem.W.codeIn K cdQE "House.__eq__" = true) (qkE : PySem.W.keepIn K (.ref fQE) = true) (qn0 : PySem.W.subIn K (.ref C) (.type "NoneType") = some false) (qn1 : PySem.W.subIn K (.ref C) (.type "int") = some false) (qn2 : PySem.W.subIn K (.ref C) (.type "str") = some false) (qn3 : PySem.W.subIn K (.ref C) (.type "tuple") = some false) (qn4 : PySem.W.subIn K (.ref C) (.type "list") = some false) (qic : PySem.W.isClsIn K C = true) (qty : PySem.W.typeIn K (.ref C) = some (.type "type")) (qca : PySem.W.findIn K (.ref C) "__class__" = some (some (.builtin "object.__class__"))) (qmo : PySem.W.mroIn K C (.type "object") = some true)
    : ∃ fd : FuncData, (∀ (s : Shared) (v : Value), BindsTo s fd ⟨[v], []⟩ [("script", v)]) ∧ ∀ base : Heap, K.In base → base.Ns mainGlobals mg → GOk l.prog w K mg base CX0 10 fa fd ["script"] (spLaw K) := by
  have e := hfa.symm.trans (PySem.W.mg_of X G a38)
  cases e
  have T : Txt K mg C := { cl := ⟨pg, hd, po, sa⟩, nCount := nCount, nHues := nHues, nBen := nBen, nWires := nWires, nAbove := nAbove, nDirect := nDirect, nOrder := nOrder, mgC := PySem.W.mg_of X G aC, con := ⟨.type "type", ⟨rd, ga⟩, ⟨u1, v1, r1⟩, ⟨u2, v2, r2⟩⟩, len := PySem.W.mg_none_of X G b_len, range := PySem.W.mg_none_of X G b_range, isinstance := PySem.W.mg_none_of X G b_isinstance, int := PySem.W.mg_none_of X G b_int, bool := PySem.W.mg_none_of X G b_bool, tuple := PySem.W.mg_none_of X G b_tuple, list := PySem.W.mg_none_of X G b_list, set := PySem.W.mg_none_of X G b_set, enumerate := PySem.W.mg_none_of X G b_enumerate, sorted := PySem.W.mg_none_of X G b_sorted, min := PySem.W.mg_none_of X G b_min, all := PySem.W.mg_none_of X G b_all, any := PySem.W.mg_none_of X G b_any, abs := PySem.W.mg_none_of X G b_abs, reversed := PySem.W.mg_none_of X G b_reversed, max := PySem.W.mg_none_of X G b_max, str := PySem.W.mg_none_of X G b_str, repr := PySem.W.mg_none_of X G b_repr, zip := PySem.W.mg_none_of X G b_zip, sum := PySem.W.mg_none_of X G b_sum }
  have XC : XCls K CL := ⟨⟨⟨_, _, _, _, _, _, _, _, _, _, _, _, _, _, _, xlL, by rfl⟩, xsa, xeL, xtL, xkL⟩, ⟨xga, xgg, xeL, xhL⟩, xca, xmL⟩
  have TH : TxH K C := ⟨qic, qty, qca, xgs, xtk, qmo⟩
  have FE := fun_mk (st := s_House___eq__) qlE qcE qkE
  refine ⟨PySem.W.fnOf "law" "law" (defArgs s_law) (defBody s_law) (defScope s_law) .none kV38 dc38 pm38 an38 cd38 ct38, fun s v => .of_eq rfl, fun base _ _ => ?_⟩
  have OE : OwnE l.prog w K mg base C 1 (spEqH C) := ⟨⟨_, _, _, ok_eq T TH FE, qaE, qiE, FE.binds fun _ _ _ _ _ _ us hl => match us, hl with | [_, _], _ => rfl⟩, fun T_ h_ => by simp only [List.mem_cons, List.not_mem_nil, or_false] at h_; rcases h_ with rfl | rfl | rfl | rfl | rfl <;> assumption⟩
  have F_lampI : Fun K "__init__" "InvalidLamp.__init__" s_InvalidLamp___init__ fX _ := fun_mk (st := s_InvalidLamp___init__) xlX xcX xkX
  have M_lamp : XMk l.prog w K mg base CL "InvalidLamp" "lamp" := ⟨⟨_, _, _, ok_InvalidLamp F_lampI, F_lampI.binds fun _ _ _ _ _ _ us hl => match us, hl with | [_, _], _ => rfl, xiL, xtX⟩, PySem.W.mg_of X G xaL, XC, xnl⟩
  have F_is_whole := fun_mk (st := s_is_whole) l0 c0 k0
  have c_is_whole : Cal l.prog w K mg base "is_whole" 1 spWholeV := ⟨⟨_, _, _, ok_is_whole T F_is_whole, PySem.W.mg_of X G a0, k0, F_is_whole.binds fun _ _ _ _ _ _ us hl => match us, hl with | [_], _ => rfl⟩⟩
  have F_is_whole_in := fun_mk (st := s_is_whole_in) l1 c1 k1
  have c_is_whole_in : Cal l.prog w K mg base "is_whole_in" 2 spWholeInV := ⟨⟨_, _, _, ok_is_whole_in T F_is_whole_in c_is_whole, PySem.W.mg_of X G a1, k1, F_is_whole_in.binds fun _ _ _ _ _ _ us hl => match us, hl with | [_, _, _], _ => rfl⟩⟩
  have c_int : Cal l.prog w K mg base "is_whole_in" 2 spWholeIn := c_is_whole_in.imp whole_in_int
  have F_check_count := fun_mk (st := s_check_count) l2 c2 k2
  have c_check_count : Cal l.prog w K mg base "check_count" 3 spCheckCount := ⟨⟨_, _, _, ok_check_count T F_check_count c_int, PySem.W.mg_of X G a2, k2, F_check_count.binds fun _ _ _ _ _ _ us hl => match us, hl with | [_], _ => rfl⟩⟩
  have F_check_hues := fun_mk (st := s_check_hues) l3 c3 k3
  have c_check_hues : Cal l.prog w K mg base "check_hues" 3 spCheckHues := ⟨⟨_, _, _, ok_check_hues T F_check_hues c_int, PySem.W.mg_of X G a3, k3, F_check_hues.binds fun _ _ _ _ _ _ us hl => match us, hl with | [_], _ => rfl⟩⟩
  have F_is_wire := fun_mk (st := s_is_wire) l4 c4 k4
  have c_is_wire : Cal l.prog w K mg base "is_wire" 3 spIsWire := ⟨⟨_, _, _, ok_is_wire T F_is_wire c_int, PySem.W.mg_of X G a4, k4, F_is_wire.binds fun _ _ _ _ _ _ us hl => match us, hl with | [_, _], _ => rfl⟩⟩
  have F_with_wire := fun_mk (st := s_with_wire) l5 c5 k5
  have c_with_wire : Cal l.prog w K mg base "with_wire" 1 spWithWire := ⟨⟨_, _, _, ok_with_wire T F_with_wire, PySem.W.mg_of X G a5, k5, F_with_wire.binds fun _ _ _ _ _ _ us hl => match us, hl with | [_, _, _], _ => rfl⟩⟩
  have F_lamps_beneath := fun_mk (st := s_lamps_beneath) l6 c6 k6
  have c_lamps_beneath : Cal l.prog w K mg base "lamps_beneath" 4 (spLampsBeneath K) := ⟨⟨_, _, _, ok_lamps_beneath T F_lamps_beneath c_is_wire c_with_wire, PySem.W.mg_of X G a6, k6, F_lamps_beneath.binds fun _ _ _ _ _ _ us hl => match us, hl with | [_, _], _ => rfl⟩⟩
  have F_is_next := fun_mk (st := s_is_next) l7 c7 k7
  have c_is_next : Cal l.prog w K mg base "is_next" 1 spIsNext := ⟨⟨_, _, _, ok_is_next T F_is_next, PySem.W.mg_of X G a7, k7, F_is_next.binds fun _ _ _ _ _ _ us hl => match us, hl with | [_, _, _], _ => rfl⟩⟩
  have F_order_list := fun_mk (st := s_order_list) l8 c8 k8
  have c_order_list : Cal l.prog w K mg base "order_list" 2 spOrderList := ⟨⟨_, _, _, ok_order_list T F_order_list c_is_next, PySem.W.mg_of X G a8, k8, F_order_list.binds fun _ _ _ _ _ _ us hl => match us, hl with | [_], _ => rfl⟩⟩
  have F_is_lamp := fun_mk (st := s_is_lamp) l9 c9 k9
  have c_is_lamp : Cal l.prog w K mg base "is_lamp" 3 (spIsLampV C) := ⟨⟨_, _, _, ok_is_lamp T F_is_lamp c_is_whole_in, PySem.W.mg_of X G a9, k9, F_is_lamp.binds fun _ _ _ _ _ _ us hl => match us, hl with | [_, _], _ => rfl⟩⟩
  have F_check_lamp := fun_mk (st := s_check_lamp) l10 c10 k10
  have c_check_lamp : CalX l.prog w K mg base "check_lamp" 4 (spCheckLampX C CL) := ⟨⟨_, _, _, ok_check_lamp T M_lamp F_check_lamp c_is_lamp, PySem.W.mg_of X G a10, k10, F_check_lamp.binds fun _ _ _ _ _ _ us hl => match us, hl with | [_, _], _ => rfl⟩⟩
  have F_check_size := fun_mk (st := s_check_size) l11 c11 k11
  have c_check_size : Cal l.prog w K mg base "check_size" 2 spCheckSize := ⟨⟨_, _, _, ok_check_size T F_check_size c_is_whole, PySem.W.mg_of X G a11, k11, F_check_size.binds fun _ _ _ _ _ _ us hl => match us, hl with | [_, _], _ => rfl⟩⟩
  have F_check_pair := fun_mk (st := s_check_pair) l12 c12 k12
  have c_check_pair : Cal l.prog w K mg base "check_pair" 4 (spCheckPair C) := ⟨⟨_, _, _, ok_check_pair T F_check_pair c_check_count, PySem.W.mg_of X G a12, k12, F_check_pair.binds fun _ _ _ _ _ _ us hl => match us, hl with | [_, _], _ => rfl⟩⟩
  have F_all_wires := fun_mk (st := s_all_wires) l13 c13 k13
  have c_all_wires : Cal l.prog w K mg base "all_wires" 1 spAllWires := ⟨⟨_, _, _, ok_all_wires T F_all_wires, PySem.W.mg_of X G a13, k13, F_all_wires.binds fun _ _ _ _ _ _ us hl => match us, hl with | [_, _, _], _ => rfl⟩⟩
  have F_init : FunV K "__init__" "House.__init__" s_House___init__ fI _ := ⟨⟨_, _, _, _, _, _, _, _, _, _, rfl, lI, cI⟩, kI⟩
  have i_ok := ok_init T F_init c_check_count c_check_hues c_lamps_beneath c_order_list
  have c_House : NCal l.prog w K mg base C "House" 5 (spInit K C) := ⟨⟨_, _, _, i_ok, ⟨mk, aI, iI, kc⟩, binds_init (E := 0) lT⟩, PySem.W.mg_of X G aC⟩
  have c_HouseO : NCal l.prog w K mg base C "House" 5 (Off (spInit K C)) := ⟨⟨_, _, _, i_ok.off, ⟨mk, aI, iI, kc⟩, binds_init (E := 0) lT⟩, PySem.W.mg_of X G aC⟩
  have c_House0 : NCalD l.prog w K mg base C "House" 5 (spInit K C) [.ref E0] := ⟨⟨_, _, _, _, i_ok, ⟨mk, aI, iI, kc⟩, binds_init0 lT, .cons rfl .nil⟩, PySem.W.mg_of X G aC⟩
  have hT0 : ∀ H : Hp, SqT K H E0 [] := fun H => .inr ⟨_, _, _, lE, eE, rfl, Nat.zero_le _, .nil⟩
  have F_scattered := fun_mk (st := s_House_scattered) lS0 cS0 kS0
  have cr_House : ClX.CRead K C (.type "type") := ⟨rd, ga⟩
  have c_scattered : SCal l.prog w K mg base C (.type "type") "scattered" 7 (spScattered C) := ⟨⟨_, _, _, _, _, ok_scattered T hT0 F_scattered c_House0, aS0, rS0, kS0, F_scattered.binds fun _ _ _ _ _ _ us hl => match us, hl with | [_, _], _ => rfl⟩⟩
  have F_chain := fun_mk (st := s_chain) l14 c14 k14
  have c_chain : Cal l.prog w K mg base "chain" 7 (spChain C) := ⟨⟨_, _, _, ok_chain T F_chain c_check_count c_House, PySem.W.mg_of X G a14, k14, F_chain.binds fun _ _ _ _ _ _ us hl => match us, hl with | [_, _], _ => rfl⟩⟩
  have F_stairs := fun_mk (st := s_stairs) l15 c15 k15
  have c_stairs : Cal l.prog w K mg base "stairs" 7 (spStairs C) := ⟨⟨_, _, _, ok_stairs T F_stairs c_check_count c_check_hues c_int c_HouseO, PySem.W.mg_of X G a15, k15, F_stairs.binds fun _ _ _ _ _ _ us hl => match us, hl with | [_, _], _ => rfl⟩⟩
  have F_hillside := fun_mk (st := s_hillside) l16 c16 k16
  have c_hillside : Cal l.prog w K mg base "hillside" 7 (spHillside C) := ⟨⟨_, _, _, ok_hillside T F_hillside c_check_size c_check_count c_House, PySem.W.mg_of X G a16, k16, F_hillside.binds fun _ _ _ _ _ _ us hl => match us, hl with | [_, _, _], _ => rfl⟩⟩
  have F_floors := fun_mk (st := s_floors) l17 c17 k17
  have c_floors : Cal l.prog w K mg base "floors" 7 (spFloors C) := ⟨⟨_, _, _, ok_floors T F_floors c_check_size c_check_count c_all_wires c_HouseO, PySem.W.mg_of X G a17, k17, F_floors.binds fun _ _ _ _ _ _ us hl => match us, hl with | [_, _], _ => rfl⟩⟩
  have F_wires_of_both := fun_mk (st := s_wires_of_both) l18 c18 k18
  have c_wires_of_both : Cal l.prog w K mg base "wires_of_both" 1 (spWiresOfBoth C) := ⟨⟨_, _, _, ok_wires_of_both T F_wires_of_both, PySem.W.mg_of X G a18, k18, F_wires_of_both.binds fun _ _ _ _ _ _ us hl => match us, hl with | [_, _], _ => rfl⟩⟩
  have F_side_by_side := fun_mk (st := s_side_by_side) l19 c19 k19
  have c_side_by_side : Cal l.prog w K mg base "side_by_side" 7 (spTwo C fun n _ => bothL n) := ⟨⟨_, _, _, ok_side_by_side T F_side_by_side c_check_pair c_wires_of_both c_House, PySem.W.mg_of X G a19, k19, F_side_by_side.binds fun _ _ _ _ _ _ us hl => match us, hl with | [_, _], _ => rfl⟩⟩
  have F_stacked := fun_mk (st := s_stacked) l20 c20 k20
  have c_stacked : Cal l.prog w K mg base "stacked" 7 (spTwo C overL) := ⟨⟨_, _, _, ok_stacked T F_stacked c_check_pair c_all_wires c_wires_of_both c_House, PySem.W.mg_of X G a20, k20, F_stacked.binds fun _ _ _ _ _ _ us hl => match us, hl with | [_, _], _ => rfl⟩⟩
  have F_beneath := fun_mk (st := s_House_beneath) lM0 cM0 kM0
  have M_beneath : MCalX l.prog w K mg base C "beneath" 5 (spBeneathX C CL) := ⟨⟨_, _, _, ok_beneath T F_beneath c_check_lamp, ⟨aM0, iM0, kM0⟩, F_beneath.binds fun _ _ _ _ _ _ us hl => match us, hl with | [_, _], _ => rfl⟩⟩
  have M_beneathI : MCal l.prog w K mg base C "beneath" 5 (spBeneathI C) := M_beneath.calm fun vs H Q E h => beneath_int vs H Q E h
  have F_above := fun_mk (st := s_House_above) lM1 cM1 kM1
  have M_above : MCalX l.prog w K mg base C "above" 5 (spAboveX C CL) := ⟨⟨_, _, _, ok_above T F_above c_check_lamp, ⟨aM1, iM1, kM1⟩, F_above.binds fun _ _ _ _ _ _ us hl => match us, hl with | [_, _], _ => rfl⟩⟩
  have M_aboveI : MCal l.prog w K mg base C "above" 5 (spAboveI C) := M_above.calm fun vs H Q E h => above_int vs H Q E h
  have F__law_box := fun_mk (st := s__law_box) l21 c21 k21
  have c__law_box : Cal l.prog w K mg base "_law_box" 1 (spBox K) := ⟨⟨_, _, _, ok__law_box T F__law_box, PySem.W.mg_of X G a21, k21, F__law_box.binds fun _ _ _ _ _ _ us hl => match us, hl with | [_], _ => rfl⟩⟩
  have F__law_take := fun_mk (st := s__law_take) l22 c22 k22
  have c__law_take : Cal l.prog w K mg base "_law_take" 1 spTake := ⟨⟨_, _, _, ok__law_take T F__law_take, PySem.W.mg_of X G a22, k22, F__law_take.binds fun _ _ _ _ _ _ us hl => match us, hl with | [_, _], _ => rfl⟩⟩
  have F__law_sizes := fun_mk (st := s__law_sizes) l23 c23 k23
  have c__law_sizes : Cal l.prog w K mg base "_law_sizes" 2 spSizes := ⟨⟨_, _, _, ok__law_sizes T F__law_sizes c__law_take, PySem.W.mg_of X G a23, k23, F__law_sizes.binds fun _ _ _ _ _ _ us hl => match us, hl with | [_], _ => rfl⟩⟩
  have F__law_row := fun_mk (st := s__law_row) l24 c24 k24
  have c__law_row : Cal l.prog w K mg base "_law_row" 2 spRow := ⟨⟨_, _, _, ok__law_row T F__law_row c__law_take, PySem.W.mg_of X G a24, k24, F__law_row.binds fun _ _ _ _ _ _ us hl => match us, hl with | [_, _], _ => rfl⟩⟩
  have F__law_wires := fun_mk (st := s__law_wires) l25 c25 k25
  have c__law_wires : Cal l.prog w K mg base "_law_wires" 2 spWires := ⟨⟨_, _, _, ok__law_wires T F__law_wires c__law_take, PySem.W.mg_of X G a25, k25, F__law_wires.binds fun _ _ _ _ _ _ us hl => match us, hl with | [_, _], _ => rfl⟩⟩
  have F__law_number := fun_mk (st := s__law_number) l26 c26 k26
  have c__law_number : Cal l.prog w K mg base "_law_number" 1 spNumber := ⟨⟨_, _, _, ok__law_number T F__law_number, PySem.W.mg_of X G a26, k26, F__law_number.binds fun _ _ _ _ _ _ us hl => match us, hl with | [_, _], _ => rfl⟩⟩
  have F__law_list := fun_mk (st := s__law_list) l27 c27 k27
  have c__law_list : Cal l.prog w K mg base "_law_list" 2 spList := ⟨⟨_, _, _, ok__law_list T F__law_list c__law_number, PySem.W.mg_of X G a27, k27, F__law_list.binds fun _ _ _ _ _ _ us hl => match us, hl with | [_, _], _ => rfl⟩⟩
  have F__law_under := fun_mk (st := s__law_under) l28 c28 k28
  have c__law_under : Cal l.prog w K mg base "_law_under" 1 spUnder := ⟨⟨_, _, _, ok__law_under T F__law_under, PySem.W.mg_of X G a28, k28, F__law_under.binds fun _ _ _ _ _ _ us hl => match us, hl with | [_, _], _ => rfl⟩⟩
  have F__law_pairs := fun_mk (st := s__law_pairs) l29 c29 k29
  have c__law_pairs : Cal l.prog w K mg base "_law_pairs" 2 spPairs := ⟨⟨_, _, _, ok__law_pairs T F__law_pairs c__law_number, PySem.W.mg_of X G a29, k29, F__law_pairs.binds fun _ _ _ _ _ _ us hl => match us, hl with | [_, _], _ => rfl⟩⟩
  have F__law_same_house := fun_mk (st := s__law_same_house) l30 c30 k30
  have c__law_same_house : Cal l.prog w K mg base "_law_same_house" 7 (spSameH C) := ⟨⟨_, _, _, ok__law_same_house T TH F__law_same_house OE c__law_number c__law_pairs c_House c__law_under M_beneathI M_aboveI c__law_list, PySem.W.mg_of X G a30, k30, F__law_same_house.binds fun _ _ _ _ _ _ us hl => match us, hl with | [_, _, _, _], _ => rfl⟩⟩
  have F__law_parents := fun_mk (st := s__law_parents) l31 c31 k31
  have c__law_parents : Cal l.prog w K mg base "_law_parents" 2 spParents := ⟨⟨_, _, _, ok__law_parents T F__law_parents c__law_take, PySem.W.mg_of X G a31, k31, F__law_parents.binds fun _ _ _ _ _ _ us hl => match us, hl with | [_, _], _ => rfl⟩⟩
  have F__law_stairs_right := fun_mk (st := s__law_stairs_right) l32 c32 k32
  have c__law_stairs_right : Cal l.prog w K mg base "_law_stairs_right" 8 spBoxed := ⟨⟨_, _, _, ok__law_stairs_right T F__law_stairs_right c__law_parents c_stairs c__law_same_house, PySem.W.mg_of X G a32, k32, F__law_stairs_right.binds fun _ _ _ _ _ _ us hl => match us, hl with | [_, _, _], _ => rfl⟩⟩
  have F__law_hillside_right := fun_mk (st := s__law_hillside_right) l33 c33 k33
  have c__law_hillside_right : Cal l.prog w K mg base "_law_hillside_right" 8 spHillRight := ⟨⟨_, _, _, ok__law_hillside_right T F__law_hillside_right c_hillside c__law_same_house, PySem.W.mg_of X G a33, k33, F__law_hillside_right.binds fun _ _ _ _ _ _ us hl => match us, hl with | [_, _, _], _ => rfl⟩⟩
  have F__law_sizes_list := fun_mk (st := s__law_sizes_list) l34 c34 k34
  have c__law_sizes_list : Cal l.prog w K mg base "_law_sizes_list" 2 spSizesList := ⟨⟨_, _, _, ok__law_sizes_list T F__law_sizes_list c__law_take, PySem.W.mg_of X G a34, k34, F__law_sizes_list.binds fun _ _ _ _ _ _ us hl => match us, hl with | [_, _], _ => rfl⟩⟩
  have F__law_floors_right := fun_mk (st := s__law_floors_right) l35 c35 k35
  have c__law_floors_right : Cal l.prog w K mg base "_law_floors_right" 8 spBoxed := ⟨⟨_, _, _, ok__law_floors_right T F__law_floors_right c__law_sizes_list c_floors c__law_same_house, PySem.W.mg_of X G a35, k35, F__law_floors_right.binds fun _ _ _ _ _ _ us hl => match us, hl with | [_, _, _], _ => rfl⟩⟩
  have F__law_both_right := fun_mk (st := s__law_both_right) l36 c36 k36
  have c__law_both_right : Cal l.prog w K mg base "_law_both_right" 8 spBothRight := ⟨⟨_, _, _, ok__law_both_right T F__law_both_right c_House c_side_by_side c_stacked c__law_same_house, PySem.W.mg_of X G a36, k36, F__law_both_right.binds fun _ _ _ _ _ _ us hl => match us, hl with | [_, _, _, _, _], _ => rfl⟩⟩
  have F__law_with_itself_right := fun_mk (st := s__law_with_itself_right) l37 c37 k37
  have c__law_with_itself_right : Cal l.prog w K mg base "_law_with_itself_right" 8 spItself := ⟨⟨_, _, _, ok__law_with_itself_right T F__law_with_itself_right c_House c_side_by_side c_stacked c__law_same_house, PySem.W.mg_of X G a37, k37, F__law_with_itself_right.binds fun _ _ _ _ _ _ us hl => match us, hl with | [_, _, _], _ => rfl⟩⟩
  exact ok_law T (fun_mk (st := s_law) l38 c38 k38) c__law_box c__law_sizes c_chain c__law_same_house cr_House c_scattered c__law_stairs_right c__law_take c__law_hillside_right c__law_floors_right c__law_row c__law_wires c__law_both_right c__law_with_itself_right
theorem walk {l : PySem.W.OpenLaw} {q : Program} {loose : List Str} {XP : (Str → Option Value) → Heap → Prop} {YP : World → Heap → Prop} {d : DefRec} {K : Params → PySem.W.Frag} (hn : l.most = some 63) (hdf : d.params.defaults = [])
    (hY : ∀ (w : World) (h : Heap), YP w h → (K w.params).In h)
    (F : ∀ (w : World) (mg : Str → Option Value) (fa : Addr) (h : Heap), (K w.params).In h → h.Ns mainGlobals mg → mg d.name = some (.ref fa) →
      ∃ fd : FuncData, (∀ (s : Shared) (u : Value), BindsTo s fd ⟨[u], []⟩ [("script", u)]) ∧ ∀ base : Heap, (K w.params).In base → base.Ns mainGlobals mg → GOk l.prog w (K w.params) mg base CX0 10 fa fd ["script"] (spLaw (K w.params))) :
    PySem.W.WalkO q loose XP YP l.row.toRowW d [] (fun f vs => PySem.call f vs) :=
  L2.walk_ofG (n := 63) (k := 10) (x := "script") (sp := fun w => spLaw (K w.params)) hn (by decide) hdf ⟨rfl, by decide, by decide⟩ hY F (fun _ _ a ns hl _ hS => ⟨a, ns, rfl, hS, hl, fun _ => rfl⟩)
end Hue

end
section


open PySem PySem.W PyProof.Rows in
set_option maxRecDepth 100000 in
set_option maxHeartbeats 0 in
theorem PySem.Challenge.cw_huefall_k04_shapes_holds : PySem.Challenge.rw_huefall_k04_shapes.Holds := by
  w_on; o_law; k_head; (case hw => w_witness2)
  k_fill
  refine Hue.walk (l := PySem.Challenge.rw_huefall_k04_shapes) rfl rfl (fun w h Y => PySem.W.kIn_of Y) ?F
  case F =>
    intro w mg fa h KX G hmg
    refine' Hue.all_mk KX G hmg ?aC ?a0 ?l0 ?c0 ?k0 ?a1 ?l1 ?c1 ?k1 ?a2 ?l2 ?c2 ?k2 ?a3 ?l3 ?c3 ?k3 ?a4 ?l4 ?c4 ?k4 ?a5 ?l5 ?c5 ?k5 ?a6 ?l6 ?c6 ?k6 ?a7 ?l7 ?c7 ?k7 ?a8 ?l8 ?c8 ?k8 ?a9 ?l9 ?c9 ?k9 ?a10 ?l10 ?c10 ?k10 ?a11 ?l11 ?c11 ?k11 ?a12 ?l12 ?c12 ?k12 ?a13 ?l13 ?c13 ?k13 ?a14 ?l14 ?c14 ?k14 ?a15 ?l15 ?c15 ?k15 ?a16 ?l16 ?c16 ?k16 ?a17 ?l17 ?c17 ?k17 ?a18 ?l18 ?c18 ?k18 ?a19 ?l19 ?c19 ?k19 ?a20 ?l20 ?c20 ?k20 ?a21 ?l21 ?c21 ?k21 ?a22 ?l22 ?c22 ?k22 ?a23 ?l23 ?c23 ?k23 ?a24 ?l24 ?c24 ?k24 ?a25 ?l25 ?c25 ?k25 ?a26 ?l26 ?c26 ?k26 ?a27 ?l27 ?c27 ?k27 ?a28 ?l28 ?c28 ?k28 ?a29 ?l29 ?c29 ?k29 ?a30 ?l30 ?c30 ?k30 ?a31 ?l31 ?c31 ?k31 ?a32 ?l32 ?c32 ?k32 ?a33 ?l33 ?c33 ?k33 ?a34 ?l34 ?c34 ?k34 ?a35 ?l35 ?c35 ?k35 ?a36 ?l36 ?c36 ?k36 ?a37 ?l37 ?c37 ?k37 ?a38 ?l38 ?c38 ?k38 ?aM0 ?iM0 ?lM0 ?cM0 ?kM0 ?aM1 ?iM1 ?lM1 ?cM1 ?kM1 ?aI ?iI ?lI ?cI ?kI ?lT ?lE ?eE ?pg ?hd ?po ?sa ?mk ?kc ?nCount ?nHues ?nBen ?nWires ?nAbove ?nDirect ?nOrder ?rd ?ga ?v1 ?r1 ?v2 ?r2 ?b_len ?b_range ?b_isinstance ?b_int ?b_bool ?b_tuple ?b_list ?b_set ?b_enumerate ?b_sorted ?b_min ?b_all ?b_any ?b_abs ?b_reversed ?b_max ?b_str ?b_repr ?b_zip ?b_sum ?aS0 ?rS0 ?lS0 ?cS0 ?kS0 ?xaE ?xaL ?xlL ?xsa ?xga ?xgg ?xca ?xnl ?xiL ?xtX ?xlX ?xcX ?xkX ?xkL ?xeL ?xtL ?xhL ?xmL ?xsL ?xeE ?xiE ?xtE ?xsE ?xgs ?xtk ?qaE ?qiE ?qlE ?qcE ?qkE ?qn0 ?qn1 ?qn2 ?qn3 ?qn4 ?qic ?qty ?qca ?qmo
    (case aC => k_is)
    (case a0 => k_is)
    (case l0 => k_is)
    (case c0 => k_is)
    (case k0 => k_is)
    (case a1 => k_is)
    (case l1 => k_is)
    (case c1 => k_is)
    (case k1 => k_is)
    (case a2 => k_is)
    (case l2 => k_is)
    (case c2 => k_is)
    (case k2 => k_is)
    (case a3 => k_is)
    (case l3 => k_is)
    (case c3 => k_is)
    (case k3 => k_is)
    (case a4 => k_is)
    (case l4 => k_is)
    (case c4 => k_is)
    (case k4 => k_is)
    (case a5 => k_is)
    (case l5 => k_is)
    (case c5 => k_is)
    (case k5 => k_is)
    (case a6 => k_is)
    (case l6 => k_is)
    (case c6 => k_is)
    (case k6 => k_is)
    (case a7 => k_is)
    (case l7 => k_is)
    (case c7 => k_is)
    (case k7 => k_is)
    (case a8 => k_is)
    (case l8 => k_is)
    (case c8 => k_is)
    (case k8 => k_is)
    (case a9 => k_is)
    (case l9 => k_is)
    (case c9 => k_is)
    (case k9 => k_is)
    (case a10 => k_is)
    (case l10 => k_is)
    (case c10 => k_is)
    (case k10 => k_is)
    (case a11 => k_is)
    (case l11 => k_is)
    (case c11 => k_is)
    (case k11 => k_is)
    (case a12 => k_is)
    (case l12 => k_is)
    (case c12 => k_is)
    (case k12 => k_is)
    (case a13 => k_is)
    (case l13 => k_is)
    (case c13 => k_is)
    (case k13 => k_is)
    (case a14 => k_is)
    (case l14 => k_is)
    (case c14 => k_is)
    (case k14 => k_is)
    (case a15 => k_is)
    (case l15 => k_is)
    (case c15 => k_is)
    (case k15 => k_is)
    (case a16 => k_is)
    (case l16 => k_is)
    (case c16 => k_is)
    (case k16 => k_is)
    (case a17 => k_is)
    (case l17 => k_is)
    (case c17 => k_is)
    (case k17 => k_is)
    (case a18 => k_is)
    (case l18 => k_is)
    (case c18 => k_is)
    (case k18 => k_is)
    (case a19 => k_is)
    (case l19 => k_is)
    (case c19 => k_is)
    (case k19 => k_is)
    (case a20 => k_is)
    (case l20 => k_is)
    (case c20 => k_is)
    (case k20 => k_is)
    (case a21 => k_is)
    (case l21 => k_is)
    (case c21 => k_is)
    (case k21 => k_is)
    (case a22 => k_is)
    (case l22 => k_is)
    (case c22 => k_is)
    (case k22 => k_is)
    (case a23 => k_is)
    (case l23 => k_is)
    (case c23 => k_is)
    (case k23 => k_is)
    (case a24 => k_is)
    (case l24 => k_is)
    (case c24 => k_is)
    (case k24 => k_is)
    (case a25 => k_is)
    (case l25 => k_is)
    (case c25 => k_is)
    (case k25 => k_is)
    (case a26 => k_is)
    (case l26 => k_is)
    (case c26 => k_is)
    (case k26 => k_is)
    (case a27 => k_is)
    (case l27 => k_is)
    (case c27 => k_is)
    (case k27 => k_is)
    (case a28 => k_is)
    (case l28 => k_is)
    (case c28 => k_is)
    (case k28 => k_is)
    (case a29 => k_is)
    (case l29 => k_is)
    (case c29 => k_is)
    (case k29 => k_is)
    (case a30 => k_is)
    (case l30 => k_is)
    (case c30 => k_is)
    (case k30 => k_is)
    (case a31 => k_is)
    (case l31 => k_is)
    (case c31 => k_is)
    (case k31 => k_is)
    (case a32 => k_is)
    (case l32 => k_is)
    (case c32 => k_is)
    (case k32 => k_is)
    (case a33 => k_is)
    (case l33 => k_is)
    (case c33 => k_is)
    (case k33 => k_is)
    (case a34 => k_is)
    (case l34 => k_is)
    (case c34 => k_is)
    (case k34 => k_is)
    (case a35 => k_is)
    (case l35 => k_is)
    (case c35 => k_is)
    (case k35 => k_is)
    (case a36 => k_is)
    (case l36 => k_is)
    (case c36 => k_is)
    (case k36 => k_is)
    (case a37 => k_is)
    (case l37 => k_is)
    (case c37 => k_is)
    (case k37 => k_is)
    (case a38 => k_is)
    (case l38 => k_is)
    (case c38 => k_is)
    (case k38 => k_is)
    (case aM0 => k_is)
    (case iM0 => k_is)
    (case lM0 => k_is)
    (case cM0 => k_is)
    (case kM0 => k_is)
    (case aM1 => k_is)
    (case iM1 => k_is)
    (case lM1 => k_is)
    (case cM1 => k_is)
    (case kM1 => k_is)
    (case aI => k_is)
    (case iI => k_is)
    (case lI => k_is)
    (case cI => k_is)
    (case kI => k_is)
    (case lT => k_is)
    (case lE => k_is)
    (case eE => rfl)
    (case pg => k_is)
    (case hd => k_is)
    (case po => k_is)
    (case sa => k_is)
    (case mk => k_is)
    (case kc => k_is)
    (case nCount => k_is)
    (case nHues => k_is)
    (case nBen => k_is)
    (case nWires => k_is)
    (case nAbove => k_is)
    (case nDirect => k_is)
    (case nOrder => k_is)
    (case rd => k_is)
    (case ga => k_is)
    (case v1 => k_is)
    (case r1 => exact ⟨_, rfl⟩)
    (case v2 => k_is)
    (case r2 => exact ⟨_, rfl⟩)
    (case b_len => k_is)
    (case b_range => k_is)
    (case b_isinstance => k_is)
    (case b_int => k_is)
    (case b_bool => k_is)
    (case b_tuple => k_is)
    (case b_list => k_is)
    (case b_set => k_is)
    (case b_enumerate => k_is)
    (case b_sorted => k_is)
    (case b_min => k_is)
    (case b_all => k_is)
    (case b_any => k_is)
    (case b_abs => k_is)
    (case b_reversed => k_is)
    (case b_max => k_is)
    (case b_str => k_is)
    (case b_repr => k_is)
    (case b_zip => k_is)
    (case b_sum => k_is)
    (case aS0 => k_is)
    (case rS0 => k_is)
    (case lS0 => k_is)
    (case cS0 => k_is)
    (case kS0 => k_is)
    (case xaE => first | k_is | rfl)
    (case xaL => first | k_is | rfl)
    (case xlL => first | k_is | rfl)
    (case xsa => first | k_is | rfl)
    (case xga => first | k_is | rfl)
    (case xgg => first | k_is | rfl)
    (case xca => first | k_is | rfl)
    (case xnl => first | k_is | rfl)
    (case xiL => first | k_is | rfl)
    (case xtX => first | k_is | rfl)
    (case xlX => first | k_is | rfl)
    (case xcX => first | k_is | rfl)
    (case xkX => first | k_is | rfl)
    (case xkL => first | k_is | rfl)
    (case xeL => first | k_is | rfl)
    (case xtL => first | k_is | rfl)
    (case xhL => first | k_is | rfl)
    (case xmL => first | k_is | rfl)
    (case xsL => first | k_is | rfl)
    (case xeE => first | k_is | rfl)
    (case xiE => first | k_is | rfl)
    (case xtE => first | k_is | rfl)
    (case xsE => first | k_is | rfl)
    (case xgs => first | k_is | rfl)
    (case xtk => first | k_is | rfl)
    (case qaE => first | k_is | rfl)
    (case qiE => first | k_is | rfl)
    (case qlE => first | k_is | rfl)
    (case qcE => first | k_is | rfl)
    (case qkE => first | k_is | rfl)
    (case qn0 => first | k_is | rfl)
    (case qn1 => first | k_is | rfl)
    (case qn2 => first | k_is | rfl)
    (case qn3 => first | k_is | rfl)
    (case qn4 => first | k_is | rfl)
    (case qic => first | k_is | rfl)
    (case qty => first | k_is | rfl)
    (case qca => first | k_is | rfl)
    (case qmo => first | k_is | rfl)

end
