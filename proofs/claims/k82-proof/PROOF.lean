import PyProof.Rows.All
import Wide.All
import OpenK.AllK
import Wide.FinOn
import HandS.TupSets
import HandS.Sort
import HandS.SetFor
import HandS.Strs
import HandS.ForMost
import HandS.Flow
import HandS.Style
import HandS.IsInst
import HandS.Conv
import HandS.ClsMeth
import HandS.SortRule
import HandS.TupLen
import HandS.Star
import HandS.TupAny
import HandS.Codes
import HandS.SortInts
import HandS.Walk
import KE.GoesEnum
import HandS.Iter
import PyProof.TupleOfSeq
import HandS.SortOrd
import PyProof.ReprRoads
import PyProof.CallFns
import HandS.Ends
import HandS.WordsExc
import KE.KExcIs
import KE.KIsAll
import HandS.Exc
import HandS.ExcOwn
import HandS.ExcInit
import HandS.ExcField
import HandS.TupMul
import PyProof.ReprReads
import PyProof.ReprLen
import PyProof.PureStr
import HandS.WideBits
import HandS.Comp
import HandS.HotCalls
import HandS.Defaults
import PyProof.FitsInt
import HandS.Deep
import HandS.NoneIn
import PySem.Challenge.RW_huefall_k82_lowest_lit_lamps_agree
set_option Elab.async false
set_option linter.all false
section
set_option maxRecDepth 100000
set_option maxHeartbeats 2000000
namespace L2
open PySem PySem.Spec PyProof.Rows
/-! ### ranges as values, walked by their name -/
section
variable {X : Cx} {tg e : Expr} {te : TE}
theorem hu_cr_range1 : CallR X (.type "range") (fun vs H Q => ∃ j, vs = [V.int j] ∧ ∀ p, H p = none → Q (.ref p) (upd H p (.rng 0 j))) := by
  intro pins s σ H vs us Q I r h
  obtain ⟨j, rfl, q⟩ := h
  cases r with
  | cons rj rr =>
    cases rr
    obtain ⟨t, rfl⟩ := rj
    have lay := I.laid (a := s.heap.objs.size) (o := .rng 0 j) (t' := s.toks + 1 + 1) (h' := s.heap.push { cls := .type "range", data := .fields #[.int 0 s.toks, .int j t, .int 1 (s.toks + 1)] })
      (fun b o ho => Heap.get?_push_of_some _ ho) (Nat.le_refl _) ⟨s.toks, t, s.toks + 1, Heap.get?_push_size _ rfl⟩
    exact call_range_1 ⟨.ref s.heap.objs.size, _, lay, rfl, q _ (I.hok.fresh (Nat.le_refl _))⟩
def iHuRng (te : TE) : TI := fun σ H R => te σ H fun v H1 => ∃ a lo hi, v = .ref a ∧ H1 a = some (.rng lo hi) ∧ (-(2 ^ 62) ≤ lo ∧ lo < 2 ^ 62 ∧ -(2 ^ 62) ≤ hi ∧ hi < 2 ^ 62) ∧ R (Itr lo (hi - lo).toNat) H1
theorem hu_pi_rng (he : PE X e te) : PI X tg e (iHuRng te) := by
  refine ⟨fun pins s σ H R I h => ?_⟩
  refine thn (he.run pins s σ H _ I h) fun v s1 ⟨x, H1, I1, r1, q1⟩ => ?_
  obtain ⟨a, lo, hi, rfl, ha, ⟨b1, b2, b3, b4⟩, q⟩ := q1
  cases r1
  obtain ⟨t, u, w, ho⟩ := I1.hok a _ ha
  have ho' : IsRange s1.heap a lo hi 1 t u w := ho
  refine wpAny_pyIter_range ho' (small_one b1 b2 b3 b4) ?_
  refine ⟨s1.heap.objs.size, [s1.heap.objs.size], _, _, H1, rfl, I1.kept (t' := s1.toks) fun b o eo => Heap.get?_push_of_some _ eo, turn_range _ lo (hi - lo).toNat, ?_, fun b hb => ?_, q⟩
  · have z1 : lo + ((0 : Nat) : Int) * 1 = lo := by simp
    have z2 : (((hi - lo).toNat : Nat) : Int) - ((0 : Nat) : Int) = Builtin.Range.rangeSize lo hi 1 := by
      rw [rangeSize_one]; split <;> omega
    show IsRangeIter _ _ (lo + ((0 : Nat) : Int) * 1) ((((hi - lo).toNat : Nat) : Int) - ((0 : Nat) : Int)) 1
    rw [z1, z2]
    exact Heap.get?_push_size _ rfl
  · obtain rfl : b = s1.heap.objs.size := by simpa using hb
    exact I1.fpOk (Nat.le_refl _) (I1.hok.fresh (Nat.le_refl _))
end
/-! ### set(xs), xs a list of ints -/
section
variable {P : Program} {w : World} {A : Around} {E : Value → Shared → Prop} {s : Shared}
/-- the new set's record -/
abbrev newSetO (w : World) : Obj := { cls := .type "set", dict := none, data := .set #[] 0 (.fresh 0 0 (!w.params.followText "set-order")) }
set_option maxHeartbeats 3200000 in
theorem hu_call_set_list {l : Addr} {its : Array Value} (ns : List Int) {Q : Value → Shared → Prop} (nh : A.handled = none) (isl : s.heap.IsList l its) (hin : IntsAre its.toList ns) (small : ns.length + 1 < scanBound)
    (fin : ∀ (g : Heap) (tk c : Nat), SetR w g s.heap.objs.size (fun j => decide (j ∈ ns)) c → c ≤ ns.length → (∀ b o, s.heap.get? b = some o → g.get? b = some o) → Q (.ref s.heap.objs.size) { s with heap := g, toks := tk }) :
    wpAny (model P w) A (call (.type "set") [.ref l]) Q E s := by
  have size_eq : its.size = ns.length := by
    have z := IntsAre.length hin
    rwa [Array.length_toList] at z
  obtain ⟨c, tl, hmro⟩ := F.called_set.mro
  have made := F.called_set.made
  have sub := F.called_set.sub
  refine wpAny_call (codeAny_of_tree ?_)
  show wpAny _ _ (callAny (.type "set") _) _ _ _
  refine wpAny_pure ⟨Code.quiet_builtin _ (by decide +kernel), codeAny_builtin F.entry_type_call ?_⟩
  rw [Around.under_plain (weight_type_call_type "set" [.ref l] []) rfl]
  have nt := F.called_set.notType
  have cc := F.called_set.canCreate
  have tc := F.typeCall_set_1 (.ref l)
  repeat (any_goals (first | assumption | wp_step))
  refine codeAny_mono (code_set_led1 (.ref l) (E := E) (Q₁ := fun obj s1 => obj = .ref s.heap.objs.size ∧ s1 = { s with heap := s.heap.push (newSetO w) }) ⟨rfl, rfl⟩) fun r s1 hr => ?_
  cases r with
  | error e => exact hr
  | ok fl =>
    cases fl with
    | ret obj =>
      obtain ⟨rfl, rfl⟩ := hr
      have gS : (s.heap.push (newSetO w)).get? s.heap.objs.size = some (newSetO w) := Heap.get?_push_size _ rfl
      have tS : Shared.TypeIs { s with heap := s.heap.push (newSetO w) } (.ref s.heap.objs.size) "set" := ⟨_, gS, rfl⟩
      have il := F.called_set.init.lookup
      have ib := F.called_set.init.bind (.ref s.heap.objs.size)
      repeat (any_goals (first | assumption | wp_step))
      refine codeAny_mono (codeAny_call_builtin (R := wants (fun r s2 => r = .none ∧ ∃ g tk c, s2 = { s with heap := g, toks := tk } ∧ SetR w g s.heap.objs.size (fun j => decide (j ∈ ns)) c ∧ c ≤ ns.length ∧
          (∀ b o, s.heap.get? b = some o → g.get? b = some o)) E) F.called_set.init.plain F.entry_set_init (check_set_init_1 tS ?_)) fun r2 s2 hr2 => ?_
      · obtain ⟨⟨oc, od, odat, osl⟩, hol, hcl, nl, hdl⟩ := isl
        simp only at hcl hdl
        subst hcl; subst hdl
        have hol1 : (s.heap.push (newSetO w)).get? l = some { cls := .type "list", dict := od, data := .seq its nl, slots := osl } := Heap.get?_push_of_some _ hol
        have k1 := F.sub_list_set
        have k2 := F.sub_list_frozenset
        have k3 : (Value.type "list" == Value.type "dict") = false := by decide
        have isl1 : (s.heap.push (newSetO w)).IsList l its := ⟨_, hol1, rfl, nl, rfl⟩
        unfold Builtin.«set.__init__» noKeywords Builtin.Frozenset.updateFrom
        generalize hPI : pyIter = PI
        wp_walk
        subst hPI
        refine wpAny_pyIter_list isl1 ?_
        refine wpAny_bind (wpAny_runValue ?_)
        have lt : l < s.heap.objs.size := Heap.lt_size hol
        have nh3 : A.in1.in1.in1.handled = none := by simp [nh]
        have ne1 : l ≠ (s.heap.push (newSetO w)).objs.size := by
          rw [Heap.size_push]; exact Nat.ne_of_lt (Nat.lt_succ_of_lt lt)
        have nin : s.heap.objs.size ∉ [(s.heap.push (newSetO w)).objs.size, l] := by
          rw [Heap.size_push]
          simp only [List.mem_cons, List.mem_singleton, List.not_mem_nil, or_false, not_or]
          exact ⟨Nat.ne_of_lt (Nat.lt_succ_self _), Nat.ne_of_gt lt⟩
        have val : ∀ (i : Nat) (v : Value), its[i]? = some v → ∃ k t, ns[i]? = some k ∧ v = .int k t := fun i v hv => by
          have hi : i < ns.length := by rw [← size_eq]; exact (Array.getElem?_eq_some_iff.mp hv).1
          obtain ⟨t, e⟩ := PyProof.Rows.IntsAre.int_at hin i v (by rw [Array.getElem?_toList]; exact hv)
          refine ⟨ns[i], t, List.getElem?_eq_getElem hi, ?_⟩
          rw [e, List.getD_eq_getElem?_getD, List.getElem?_eq_getElem hi] <;> rfl
        refine set_update_ints ((Walks.list nh3 _ l ne1 its).toS) s.heap.objs.size nin ns size_eq small val (its.size - 0) 0 _ (by omega) (Nat.zero_le _)
          ⟨⟨_, Heap.get?_push_size _ rfl, rfl, rfl⟩, (isl1.push _)⟩ ?start ?ends
        case start =>
          exact ⟨0, Nat.le_refl 0, setR_new_at (Heap.get?_push_of_some _ gS)⟩
        case ends =>
          intro s3 c3 mv hc3 hS3
          obtain ⟨g3, gn3, d3, tk3, os3⟩ := s3
          obtain rfl : gn3 = s.gens := mv.gens
          obtain rfl : d3 = s.drawn := mv.drawn
          obtain rfl : os3 = s.os := mv.os
          show wpAny _ _ _ _ _ _
          refine wpAny_pure ?_
          show wpAny _ _ (ret Value.none) _ _ _
          rw [size_eq] at hc3
          refine wpAny_pure ⟨rfl, g3, tk3, c3, rfl, hS3, hc3, fun b o e => ?_⟩
          have b0 : b < s.heap.objs.size := Heap.lt_size e
          have b2 : b ≠ (s.heap.push (newSetO w)).objs.size := by
            rw [Heap.size_push]; exact Nat.ne_of_lt (Nat.lt_succ_of_lt b0)
          refine mv.heap b o ?_ (Heap.get?_push_of_some _ (Heap.get?_push_of_some _ e))
          simp only [List.mem_cons, List.mem_singleton, List.not_mem_nil, or_false, not_or]
          exact ⟨Nat.ne_of_lt b0, b2⟩
      · cases r2 with
        | error e => exact hr2
        | ok fl2 =>
          cases fl2 with
          | ret r =>
            obtain ⟨rfl, g, tk, c, rfl, hS, hc, hk⟩ := hr2
            repeat (any_goals (first | assumption | wp_step))
            exact fin _ _ _ hS hc hk
          | _ => exact hr2.elim
    | _ => exact hr.elim
end
section
variable {X : Cx}
/-- set(xs) of a list of ints -/
def rHuSetL (K : PySem.W.Frag) (w : World) : List V → Hp → VK → Prop := fun vs H Q => ∃ (a : Addr) (ns : List Int), vs = [V.ref a] ∧ SqL K H a (ns.map V.int) ∧ ns.length ≤ 1000 ∧
  ∀ p c, H p = none → c ≤ ns.length → Q (.ref p) (upd H p (SetO w p (fun j => decide (j ∈ ns)) c))
theorem hu_cr_setL (hc : X.calm = true) : CallR X (.type "set") (rHuSetL X.K X.w) := by
  intro pins s σ H vs us Q I r h
  obtain ⟨a, ns, rfl, hl, hn, q⟩ := h
  rw [Vals.ref1 r]
  obtain ⟨its, rv, pl, hz⟩ := I.list hl
  refine hu_call_set_list (P := X.prog) (w := X.w) ns (I.ok.hd hc) pl.isList (by simpa using rv.ints) (by unfold scanBound; omega) fun g tk c hS hle hk => ?_
  exact ⟨.ref s.heap.objs.size, _, I.laid (t' := tk) hk (Nat.le_refl _) (setO_new hS), rfl, q _ c (I.hok.fresh (Nat.le_refl _)) hle⟩
end
end L2

end
section
set_option maxRecDepth 100000
set_option maxHeartbeats 2000000
namespace L2
open PySem PySem.Spec PyProof.Rows
/-! ### sets of tuples of ints: in, add, set() -/
section
variable {P : Program} {w : World} {A : Around} {E : Value → Shared → Prop} {s : Shared}
variable {a : Addr} {L : List (Addr × List Int)} {es : Array (Int × Value)} {ep : Nat} {t : SetTable}
/-- the c-th place that a search for the hash comes to -/
abbrev pAt (m : Nat) (h : Int) (c : Nat) : SetTable.Probe := nth m (runAt m (SetTable.bits h % (m + 1)) (SetTable.bits h)) c
theorem pAt_dummy (m : Nat) (h : Int) (c : Nat) : (pAt m h c).dummy = none := by
  have all : ∀ (n : Nat) (p : SetTable.Probe), p.dummy = none → (nth m p n).dummy = none := by
    intro n
    induction n with
    | zero => exact fun p hp => hp
    | succ n ih =>
      intro p hp
      refine ih (adv m p) ?_
      unfold adv
      split <;> exact hp
  exact all c _ rfl
theorem pAt_on (m : Nat) (h : Int) (c q : Nat) : nth m (pAt m h c) q = pAt m h (c + q) := (nth_add m c _ q).symm
/-- a search that only asks -/
theorem find_from (R : SetTR P w s.heap a L es ep t) {x : Addr} {k : List Int} (hx : IsT P w s.heap k x) (hu : A.units < cLine) {K : Nat} (fuelK : K < 10 * SetTable.turns t.mask)
    (freeK : way t.mask (thash P w k) K ∉ t.place.toList) (below : ∀ c, c < K → way t.mask (thash P w k) c ∈ t.place.toList) {Q : SetFound → Shared → Prop}
    (yes : ∀ i, k ∈ L.map (·.2) → Q (.there (some i)) s) (no : k ∉ L.map (·.2) → Q (.free (way t.mask (thash P w k) K) false) s) :
    ∀ (f c : Nat) (stand : Option SetTable.Probe), stand.getD (t.probeStart (thash P w k)) = pAt t.mask (thash P w k) c → c ≤ K → K - c < f →
      (∀ (i : Nat) p, L[i]? = some p → p.2 = k → ∃ d, c ≤ d ∧ d < K ∧ t.place.toList[i]? = some (way t.mask (thash P w k) d)) →
      wpAny (model P w) A (setSearchFrom a (.ref x) (thash P w k) false f stand) Q E s
  | 0, _, _, _, _, lt, _ => absurd lt (Nat.not_lt_zero _)
  | f + 1, c, stand, st, cK, lt, left => by
    obtain ⟨o, ho, hex, hd⟩ := R.ob
    rw [setSearchFrom_succ]
    refine wpAny_bind (wpAny_setState_of ho hd R.fits ?_)
    dsimp only
    refine wp_if_neg R.gw ?_
    try refine wpAny_bind (wpAny_pure ?_)
    have jq : ∀ q, (nth t.mask (pAt t.mask (thash P w k) c) q).j = way t.mask (thash P w k) (c + q) := fun q => congrArg SetTable.Probe.j (pAt_on ..)
    have hashAt : ∀ (i : Nat) p, L[i]? = some p → (es[i]?.map (·.1)).getD 0 = thash P w p.2 := fun i p hp => by
      rw [R.entry hp] <;> rfl
    rcases go_spec t R.tab.ris R.tab.dm (fun i => (es[i]?.map (·.1)).getD 0) (thash P w k) (10 * SetTable.turns t.mask) (K - c) _ (pAt_dummy t.mask (thash P w k) c) (by omega)
      (fun q hq => by rw [jq]; exact below (c + q) (by omega)) (by rw [jq, show c + (K - c) = K by omega]; exact freeK) with ⟨q, i, hq, hi, hh, hno, hpr⟩ | ⟨hno, hpr⟩
    · have pr : t.probe (fun i => (es[i]?.map (·.1)).getD 0) (thash P w k) (stand.getD (t.probeStart (thash P w k))) = some (.candidate (way t.mask (thash P w k) (c + q)) i (pAt t.mask (thash P w k) (c + (q + 1)))) := by
        rw [st, ← jq, ← pAt_on]
        exact hpr
      rw [pr]
      dsimp only
      rw [jq] at hi
      have il : i < L.length := by
        have z1 : i < t.place.toList.length := (List.getElem?_eq_some_iff.mp hi).1
        have z2 := R.tab.sz
        rw [List.length_map] at z2
        rw [Array.length_toList] at z1
        omega
      obtain ⟨p, hp⟩ : ∃ p, L[i]? = some p := ⟨_, List.getElem?_eq_getElem il⟩
      have mem : p ∈ L := List.mem_of_getElem? hp
      have live : t.slot (way t.mask (thash P w k) (c + q)) = .live i := slot_live R.tab.ris hi
      have cont : wpAny (model P w) A (searchRest a (.ref x) (thash P w k) false f es t (way t.mask (thash P w k) (c + q)) i (pAt t.mask (thash P w k) (c + (q + 1)))) Q E s := by
        unfold searchRest
        rw [R.entry hp]
        dsimp only
        refine wpAny_bind (wpAny_holding (wpAny_eqBool_tuple hu (R.tup p mem) hx ?_))
        refine wpAny_bind (wpAny_setState_of ho hd R.fits ?_)
        dsimp only
        refine wp_if_neg (by simp) ?_
        try refine wpAny_bind (wpAny_pure ?_)
        rw [sameMem]
        dsimp only
        simp only [if_true, live, R.entry hp]
        refine wpAny_bind (wpAny_isSame_ref_self (wpAny_bind (wpAny_pure ?_)))
        simp only [if_true]
        by_cases kk : p.2 = k
        · refine wp_if_pos (by simp [kk]) ?_
          exact wpAny_pure (yes i (List.mem_map.mpr ⟨p, mem, kk⟩))
        · refine wp_if_neg (by simp [kk]) ?_
          refine find_from R hx hu fuelK freeK below yes no f (c + (q + 1)) _ rfl (by omega) (by omega) fun i0 p0 h0 k0 => ?_
          obtain ⟨d, d1, d2, d3⟩ := left i0 p0 h0 k0
          refine ⟨d, ?_, d2, d3⟩
          have e0 : (es[i0]?.map (·.1)).getD 0 = thash P w k := (hashAt i0 p0 h0).trans (congrArg (thash P w) k0)
          rcases Nat.lt_trichotomy d (c + q) with z | z | z
          · exact absurd e0 (hno (d - c) i0 (by omega) (by rw [jq, show c + (d - c) = d by omega]; exact d3))
          · exfalso
            rw [z] at d3
            have live0 := slot_live R.tab.ris d3
            rw [live] at live0
            injection live0 with ei
            rw [← ei, hp] at h0
            exact kk ((congrArg Prod.snd (Option.some.inj h0)).trans k0)
          · omega
      by_cases led : t.led = true
      · refine wp_if_neg (by simp [led]) ?_
        try refine wpAny_bind (wpAny_pure ?_)
        exact cont
      · refine wp_if_pos (by simp [led]) ?_
        refine wpAny_bind (seen_tup hx (fun y hy => ?_) ?_)
        · obtain ⟨e, he, ee⟩ := List.mem_map.mp hy
          have he1 : e ∈ es ∧ e.1 = thash P w k := by simpa using he
          have he2 : e ∈ es.toList := by simpa using he1.1
          rw [R.rows] at he2
          obtain ⟨p2, hp2, e2⟩ := List.mem_map.mp he2
          exact ⟨p2.2, p2.1, by rw [← ee, ← e2], R.tup p2 hp2⟩
        · refine wp_if_neg (by decide) ?_
          try refine wpAny_bind (wpAny_pure ?_)
          exact cont
    · have pr : t.probe (fun i => (es[i]?.map (·.1)).getD 0) (thash P w k) (stand.getD (t.probeStart (thash P w k))) = some (.empty (way t.mask (thash P w k) K) none) := by
        have eK : way t.mask (thash P w k) K = (nth t.mask (pAt t.mask (thash P w k) c) (K - c)).j := by
          rw [jq, show c + (K - c) = K by omega]
        rw [st, eK]
        exact hpr
      rw [pr]
      dsimp only
      refine wpAny_pure (no fun hm => ?_)
      obtain ⟨p0, h0, k0⟩ := List.mem_map.mp hm
      obtain ⟨i0, hi0, e0⟩ := List.getElem_of_mem h0
      have at0 : L[i0]? = some p0 := by rw [List.getElem?_eq_getElem hi0, e0]
      obtain ⟨d, d1, d2, d3⟩ := left i0 p0 at0 k0
      exact hno (d - c) i0 (by omega) (by rw [jq, show c + (d - c) = d by omega]; exact d3) ((hashAt i0 p0 at0).trans (congrArg (thash P w) k0))
/-- x in the set -/
theorem find_at (R : SetTR P w s.heap a L es ep t) {x : Addr} {k : List Int} (hx : IsT P w s.heap k x) (hu : A.units < cLine) {Q : Option Nat → Shared → Prop}
    (h : ∀ r : Option Nat, r.isSome = decide (k ∈ L.map (·.2)) → Q r s) : wpAny (model P w) A (setFind a (.ref x) (thash P w k)) Q E s := by
  obtain ⟨o, ho, hex, hd⟩ := R.ob
  have room := R.room
  obtain ⟨K, fuelK, freeK, below⟩ := R.tab.first (by rw [List.length_map]; omega) (thash P w k)
  have big : K < 100000 := by
    have z : 10 * SetTable.turns t.mask ≤ 1420 := by
      unfold SetTable.turns
      rcases R.tab.mok with e | e | e <;> omega
    omega
  unfold setFind
  rw [show (100000 : Nat) = 99999 + 1 from rfl]
  unfold setFindIn
  refine wpAny_bind (wpAny_setState_of ho hd R.fits ?_)
  dsimp only
  refine wp_if_neg (by simp [byScan, Value.scannable]) ?_
  try refine wpAny_bind (wpAny_pure ?_)
  unfold setSearch
  refine wpAny_bind (find_from R hx hu fuelK freeK below (fun i hm => ?_) (fun hm => ?_) 100000 0 none rfl (Nat.zero_le _) (by omega) fun i p hp hk => ?_)
  · exact wpAny_pure (h _ (by rw [decide_eq_true hm] <;> rfl))
  · exact wpAny_pure (h _ (by rw [decide_eq_false hm] <;> rfl))
  · have hi : (L.map fun p => thash P w p.2)[i]? = some (thash P w k) := by rw [List.getElem?_map, hp, ← hk] <;> rfl
    have il : i < t.place.toList.length := by
      have z1 : i < L.length := (List.getElem?_eq_some_iff.mp hp).1
      have z2 := R.tab.sz
      rw [List.length_map] at z2
      rw [Array.length_toList]
      omega
    have hj := List.getElem?_eq_getElem il
    obtain ⟨c, hc, e⟩ := R.tab.before freeK hi hj
    exact ⟨c, Nat.zero_le _, hc, by rw [hj, e]⟩
theorem SetTR.typ (R : SetTR P w s.heap a L es ep t) : s.TypeIs (.ref a) "set" := let ⟨o, ho, hex, _⟩ := R.ob; ⟨o, ho, hex.1⟩
theorem in_tupset (R : SetTR P w s.heap a L es ep t) {x : Addr} {k : List Int} (hx : IsT P w s.heap k x) (hu : A.units + 64 < cLine) {Q : Value → Shared → Prop}
    (h : ∀ tk, Q (.bool (decide (k ∈ L.map (·.2)))) { s with toks := tk }) : wpAny (model P w) A (compareOp .In (.ref x) (.ref a)) Q E s := by
  show wpAny _ _ (do return .bool (← contains (.ref a) (.ref x))) Q E s
  refine wpAny_bind ?_
  unfold contains
  try with_reducible refine wpAny_holding ?_
  refine wpAny_bind (wpAny_specialOf R.typ F.slot_set_contains.lookup ?_)
  show wpAny _ _ (if (some (Value.builtin "set.__contains__") == some Value.none) = true then _ else _) _ E s
  rw [if_neg (by rw [beq_builtin_none]; exact Bool.false_ne_true)]
  refine wpAny_bind (wpAny_callSpecialUnlessNone?_slot (name := Str.ofString "__contains__") R.typ F.slot_set_contains
    (wpAny_call_entry F.slot_set_contains R.typ entry_set_contains ?_ (F.args_set_contains_2 _ _)))
  unfold Builtin.«frozenset.__contains__» Builtin.Frozenset.oneOther
  simp only [List.isEmpty_nil, bind_assoc]
  unfold Builtin.Frozenset.addrOf Builtin.Frozenset.withSetAsKey setContains
  refine wpAny_bind (wpAny_pure ?_)
  try dsimp only
  refine wpAny_bind (wpAny_pure ?_)
  try dsimp only
  refine wpAny_bind (wpAny_tryCatch ?_)
  refine wpAny_holding ?_
  refine wpAny_bind (wpAny_pyHash_tuple ?_ hx ?_)
  · show A.units + 1 < cLine
    omega
  refine wpAny_bind (find_at (s := { s with toks := s.toks + (k.length + 1) }) R hx ?_ fun r hr => ?_)
  · show A.units + 1 < cLine
    omega
  refine wpAny_pure ?_
  show wpAny _ _ (ret (Value.bool r.isSome)) _ _ _
  rw [hr]
  exact wpAny_pure ⟨_, rfl, wpAny_truthy_bool (wpAny_pure (h _))⟩
theorem add_tupset (R : SetTR P w s.heap a L es ep t) {x : Addr} {k : List Int} (hx : IsT P w s.heap k x) (hu : A.units + 64 < cLine) (few : L.length + 1 < 64) {Q : Value → Shared → Prop}
    (h : ∀ g tk L2 es2 ep2 t2, Heap.SameBut a s.heap g → SetTR P w g a L2 es2 ep2 t2 → (k ∈ L.map (·.2) → L2 = L) → (k ∉ L.map (·.2) → L2.Perm ((x, k) :: L)) → Q .none { s with heap := g, toks := tk }) :
    wpAny (model P w) A (call (.builtin "set.add") [.ref a, .ref x]) Q E s := by
  refine wpAny_call_entry F.slot_set_add R.typ F.entry_set_add ?_ (F.args_set_add_2 _ _)
  unfold Builtin.«set.add» Builtin.Frozenset.oneOther
  simp only [List.isEmpty_nil, bind_assoc]
  unfold Builtin.Frozenset.addrOf setAdd
  refine wpAny_bind (wpAny_pure ?_)
  try dsimp only
  refine wpAny_bind (wpAny_pure ?_)
  try dsimp only
  refine wpAny_bind ?_
  refine wpAny_holding ?_
  refine wpAny_bind (wpAny_pyHash_tuple ?_ hx ?_)
  · show A.units + 1 < cLine
    omega
  refine add_at (s := { s with toks := s.toks + (k.length + 1) }) R hx ?_ few fun b g L2 es2 ep2 t2 sb R2 c1 c2 => ?_
  · show A.units + 1 < cLine
    omega
  show wpAny _ _ (ret Value.none) _ _ _
  exact wpAny_pure ⟨_, rfl, h g _ L2 es2 ep2 t2 sb R2 c1 c2⟩
end
section
variable {X : Cx}
/-- the set at a holds the tuples L, each still readable -/
def HasT (K : PySem.W.Frag) (P : Program) (w : World) (H : Hp) (a : Addr) (L : List (Addr × List Int)) : Prop :=
  H a = some (SetTO P w a L) ∧ ∀ p ∈ L, SqT K H p.1 (p.2.map V.int)
theorem HasT.full {pins : List (Addr × Obj)} {σ : St} {H : Hp} {s : Shared} {a : Addr} {L : List (Addr × List Int)} (I : Inv X pins σ H s) (h : HasT X.K X.prog X.w H a L) : ∃ es ep t, SetTR X.prog X.w s.heap a L es ep t := by
  have R0 : SetT0 X.prog X.w s.heap a L := (I.hok a _ h.1).1
  exact R0.full fun p hp => I.isT (h.2 p hp)
def rHuSet0T (P : Program) (w : World) : List V → Hp → VK → Prop := fun vs H Q => vs = [] ∧ ∀ p, H p = none → Q (.ref p) (upd H p (SetTO P w p []))
theorem hu_cr_set0T : CallR X (.type "set") (rHuSet0T X.prog X.w) := by
  intro pins s σ H vs us Q I r h
  obtain ⟨rfl, q⟩ := h
  cases r
  refine setR_new fun _ => ?_
  have R := setTR_fresh (P := X.prog) (w := X.w) (h := s.heap.push { cls := .type "set", dict := none, data := .set #[] 0 (.fresh 0 0 (!X.w.params.followText "set-order")) }) (a := s.heap.objs.size) (Heap.get?_push_size _ rfl)
  exact ⟨.ref _, _, I.laid (t' := s.toks) (fun b u e => Heap.get?_push_of_some _ e) (Nat.le_refl _) (setTO_new R.t0), rfl, q _ (I.hok.fresh (Nat.le_refl _))⟩
/-- k in found -/
def rHuInT (K : PySem.W.Frag) (P : Program) (w : World) : V → V → Hp → VK → Prop := fun x y H Q => ∃ (b a : Addr) (k : List Int) (L : List (Addr × List Int)), x = V.ref b ∧ y = V.ref a ∧ SqT K H b (k.map V.int) ∧ HasT K P w H a L ∧ Q (.bl (decide (k ∈ L.map (·.2)))) H
theorem hu_or_inT (hu : X.A.units + 64 < cLine) : OpR X (compareOp .In) (rHuInT X.K X.prog X.w) := by
  intro pins s σ H x y v u Q I rx ry h
  obtain ⟨b, a, k, L, rfl, rfl, hb, ha, q⟩ := h
  cases rx
  cases ry
  obtain ⟨es, ep, t, R⟩ := ha.full I
  exact in_tupset R (I.isT hb) hu fun tk => ⟨.bl _, H, I.tok _, rfl, q⟩
/-- found.add(k) -/
def rHuAddT (K : PySem.W.Frag) (P : Program) (w : World) : V → List V → Hp → VK → Prop := fun x vs H Q => ∃ (a b : Addr) (k : List Int) (L : List (Addr × List Int)), x = V.ref a ∧ vs = [V.ref b] ∧ SqT K H b (k.map V.int) ∧ HasT K P w H a L ∧ L.length + 1 < 64 ∧
  k ∉ L.map (·.2) ∧ ∀ L2, L2.Perm ((b, k) :: L) → Q .non (upd H a (SetTO P w a L2))
theorem hu_mt_addT (hu : X.A.units + 64 < cLine) : MtR X "set.add" (rHuAddT X.K X.prog X.w) := by
  intro pins s σ H x vs v us Q I rx rxs h
  obtain ⟨a, b, k, L, rfl, rfl, hb, ha, few, new, q⟩ := h
  cases rx
  rw [Vals.ref1 rxs]
  obtain ⟨es, ep, t, R⟩ := ha.full I
  refine add_tupset R (I.isT hb) hu few fun g tk L2 es2 ep2 t2 sb R2 _ c2 => ?_
  obtain ⟨o2, ho2, _⟩ := R2.ob
  exact ⟨.non, _, I.write (e := a) (t' := tk) (by rw [ha.1]; trivial) (.inl rfl) (fun c u hc hu => (sb.2 c hc).trans hu) ⟨o2, ho2⟩ (setTO_new R2.t0), rfl, q L2 (c2 new)⟩
def tHuAddT (K : PySem.W.Frag) (P : Program) (w : World) (to : TE) (t : TA) : TE := fun σ H Q => to σ H fun x H1 => (∃ a L, x = V.ref a ∧ H1 a = some (SetTO P w a L)) ∧ t σ H1 fun xs H2 => rHuAddT K P w x xs H2 Q
variable {o e : Expr} {es : List Expr} {to : TE} {t : TA} {apos cpos : Pos}
theorem hu_pe_addT (hu : X.A.units + 64 < cLine) (ho : PE X o to) (ha : PA X (e :: es) t)
    (hbase : attributeBase o "add" X.env (eval o X.env) = eval o X.env := by rfl)
    (hfew : ((backTo cpos (starEach (e :: es) X.env)).all (fun x => !x.1) && (backToKw cpos (keywordEach [] X.env)).all (fun x => x.1.isSome)
      && decide ((e :: es).length + ([] : List Keyword).length + (if ([] : List Keyword).isEmpty then 0 else 1) < 30)) = true := by rfl)
    (hline : (apos.endLine == cpos.line) = true := by rfl) (hs : starEach (e :: es) X.env = (false, eval e X.env) :: starEach es X.env := by rfl) (hplain : (backTo cpos (starEach es X.env)).any (·.1) = false := by rfl) :
    PE X (.Call (.Attribute o "add" apos) (e :: es) [] cpos) (tHuAddT X.K X.prog X.w to t) := by
  refine ⟨fun pins s σ H Q I h => ?_⟩
  refine wpAny_Call_method_late hbase hfew hline rfl (thn (ho.run pins s σ H _ I h) fun v s1 ⟨x, H1, I1, r1, ⟨a, L, ex, hka⟩, q1⟩ => ?_)
  subst ex
  have R0 : SetT0 X.prog X.w s1.heap a L := (I1.hok a _ hka).1
  obtain ⟨es0, ep0, t0, ⟨o0, ho0, hex0, _⟩, _⟩ := R0.ex
  cases r1
  refine ⟨"set", "set.add", F.plainAttrs_set, F.slot_set_add, F.type_set_add, ⟨o0, ho0, hex0.1⟩, ?_, ?_⟩
  · intro b eb
    injection eb with eb
    subst eb
    exact ⟨o0, ho0, by first | exact hex0.2.1 | exact hex0.2.2⟩
  have hA := ha.run cpos pins s1 σ H1 _ I1 q1
  rw [hs] at hA ⊢
  refine Calls.callWith_builtin (by show (false || (backTo cpos (starEach es X.env)).any (·.1)) = false; rw [hplain] <;> rfl) (Calls.evalArgs_plain ?_)
  exact thn hA fun us s2 ⟨vs, H2, I2, r2, q2⟩ => hu_mt_addT hu pins s2 σ H2 (.ref a) vs (.ref a) us Q I2 rfl r2 q2
end
end L2

end
section
set_option maxRecDepth 100000
set_option maxHeartbeats 2000000
namespace L2
open PySem PySem.Spec PyProof.Rows
/-! ### sets of tuples of ints, up to 4914 of them -/
section
/-- the masks of such a set -/
def Wid (m : Nat) : Prop := m = 7 ∨ m = 31 ∨ m = 127 ∨ m = 511 ∨ m = 2047 ∨ m = 8191
theorem Wid.pow {m : Nat} (h : Wid m) : ∃ k, m + 1 = 2 ^ k := by
  rcases h with e | e | e | e | e | e
  · exact ⟨3, by rw [e]⟩
  · exact ⟨5, by rw [e]⟩
  · exact ⟨7, by rw [e]⟩
  · exact ⟨9, by rw [e]⟩
  · exact ⟨11, by rw [e]⟩
  · exact ⟨13, by rw [e]⟩
theorem Wid.bounds {m : Nat} (h : Wid m) : 7 ≤ m ∧ m ≤ 8191 ∧ m % 2 = 1 := by
  rcases h with e | e | e | e | e | e <;> omega

/-- five times and one more, again and again -/
def five : Nat → Nat → Nat
  | x, 0 => x
  | x, n + 1 => five (5 * x + 1) n
theorem five_add : ∀ (a x b : Nat), five x (a + b) = five (five x a) b
  | 0, x, b => by rw [Nat.zero_add] <;> rfl
  | a + 1, x, b => by
    have e : a + 1 + b = (a + b) + 1 := by omega
    rw [e]
    exact five_add a (5 * x + 1) b
/-- 2^k of these steps: x goes to x + 2^k, but for a multiple of 2^(k+1) -/
theorem five_pow (k : Nat) : ∃ a b : Nat, ∀ x, five x (2 ^ k) = (1 + 4 * (2 ^ k * a)) * x + 2 ^ k * (1 + 2 * b) := by
  induction k with
  | zero =>
    refine ⟨1, 0, fun x => ?_⟩
    show 5 * x + 1 = (1 + 4 * (2 ^ 0 * 1)) * x + 2 ^ 0 * (1 + 2 * 0)
    omega
  | succ k ih =>
    obtain ⟨a, b, h⟩ := ih
    refine ⟨a + 2 * (2 ^ k * a * a), b + 2 ^ k * a + 2 * (2 ^ k * a * b), fun x => ?_⟩
    have e : (2 : Nat) ^ (k + 1) = 2 ^ k + 2 ^ k := by rw [Nat.pow_succ]; omega
    rw [e, five_add, h, h]
    generalize (2 : Nat) ^ k = N
    grind
theorem five_shift (k x : Nat) : five x (2 ^ k) % 2 ^ (k + 1) = (x + 2 ^ k) % 2 ^ (k + 1) := by
  obtain ⟨a, b, h⟩ := five_pow k
  rw [h x]
  have e : (1 + 4 * (2 ^ k * a)) * x + 2 ^ k * (1 + 2 * b) = (x + 2 ^ k) + 2 ^ (k + 1) * (2 * (a * x) + b) := by
    rw [Nat.pow_succ]
    generalize (2 : Nat) ^ k = N
    grind
  rw [e, Nat.add_mul_mod_self_left]
/-- each remainder comes -/
theorem five_covers (x j : Nat) : ∀ k, ∃ n, n < 2 ^ k ∧ five x n % 2 ^ k = j % 2 ^ k
  | 0 => ⟨0, by decide, by rw [Nat.pow_zero, Nat.mod_one, Nat.mod_one]⟩
  | k + 1 => by
    obtain ⟨n, hn, e⟩ := five_covers x j k
    have hp : 0 < (2 : Nat) ^ k := Nat.pow_pos (by decide)
    have e2 : (2 : Nat) ^ (k + 1) = 2 ^ k * 2 := Nat.pow_succ ..
    by_cases c : five x n / 2 ^ k % 2 = j / 2 ^ k % 2
    · refine ⟨n, by omega, ?_⟩
      rw [e2, Nat.mod_mul, Nat.mod_mul, e, c]
    · refine ⟨n + 2 ^ k, by omega, ?_⟩
      rw [five_add, five_shift, e2, Nat.mod_mul, Nat.mod_mul, Nat.add_mod_right, e, Nat.add_div_right _ hp]
      have d : (five x n / 2 ^ k).succ % 2 = j / 2 ^ k % 2 := by omega
      rw [d]
theorem lcgI_five (m i : Nat) (hi : i ≤ m) : ∀ n, lcgI m i n = five i n % (m + 1)
  | 0 => (Nat.mod_eq_of_lt (Nat.lt_succ_of_le hi)).symm
  | n + 1 => by
    have e : five i (n + 1) = 5 * five i n + 1 := by rw [five_add] <;> rfl
    show (lcgI m i n * 5 + 1) % (m + 1) = _
    rw [lcgI_five m i hi n, e, Nat.add_mod, Nat.mul_mod, Nat.mod_mod, ← Nat.mul_mod, ← Nat.add_mod, Nat.mul_comm]
theorem Wid.covers {m : Nat} (h : Wid m) {i j : Nat} (hi : i ≤ m) (hj : j ≤ m) : ∃ n, n ≤ m ∧ lcgI m i n = j := by
  obtain ⟨k, hk⟩ := h.pow
  obtain ⟨n, hn, e⟩ := five_covers i j k
  rw [← hk] at hn e
  exact ⟨n, Nat.le_of_lt_succ hn, by rw [lcgI_five m i hi, e, Nat.mod_eq_of_lt (Nat.lt_succ_of_le hj)]⟩
/-- a run starts at each place, soon enough -/
theorem Wid.start {m : Nat} (wd : Wid m) (g : Int) {j : Nat} (hj : j ≤ m) : ∃ n, n ≤ m + 12 ∧ runI m (SetTable.bits g) n = j := by
  obtain ⟨n, hn, e⟩ := wd.covers (runI_le m (SetTable.bits g) 12) hj
  refine ⟨12 + n, by omega, ?_⟩
  rw [runI_tail (bits_lt g), e]
theorem Wid.comes {m : Nat} (wd : Wid m) (g : Int) {j : Nat} (hj : j ≤ m) : ∃ c, c < 10 * SetTable.turns m ∧ way m g c = j := by
  obtain ⟨n, hn, e⟩ := wd.start g hj
  obtain ⟨c, hc, e2⟩ := run_nth m (SetTable.bits g) n
  have e3 : way m g c = runI m (SetTable.bits g) n := congrArg SetTable.Probe.j e2
  exact ⟨c, by unfold SetTable.turns; omega, e3.trans e⟩
theorem way_low (m : Nat) (g : Int) (c : Nat) : way m g c ≤ m := by
  have b0 : SetTable.bits g % (m + 1) ≤ m := Nat.le_of_lt_succ (Nat.mod_lt _ (Nat.succ_pos m))
  have b1 := runEnd_bd b0
  have b2 := nth_in (m := m) c (runAt m (SetTable.bits g % (m + 1)) (SetTable.bits g)) (by
    show SetTable.bits g % (m + 1) + (SetTable.runEnd m (SetTable.bits g % (m + 1)) - SetTable.bits g % (m + 1)) ≤ m
    omega)
  exact Nat.le_trans (Nat.le_add_right _ _) b2

/-- a table in which a search for a hash passes its places -/
structure Lay (t : SetTable) (hs : List Int) : Prop where
  wid : Wid t.mask
  up : Ris t.place.toList
  bare : t.dummies = #[]
  many : t.place.size = hs.length
  low : ∀ j ∈ t.place.toList, j ≤ t.mask
  path : ∀ (i : Nat) (g : Int) (j : Nat), hs[i]? = some g → t.place.toList[i]? = some j → ∃ n, way t.mask g n = j ∧ ∀ c, c < n → way t.mask g c ∈ t.place.toList
variable {t : SetTable} {hs : List Int}
theorem Lay.hole (T : Lay t hs) (le : hs.length ≤ t.mask) (g : Int) : ∃ n, n < 10 * SetTable.turns t.mask ∧ way t.mask g n ∉ t.place.toList ∧ ∀ c, c < n → way t.mask g c ∈ t.place.toList := by
  obtain ⟨j, lt, out⟩ := st_missing t.place.toList (t.mask + 1) (by rw [Array.length_toList, T.many]; omega)
  obtain ⟨c0, lt0, e0⟩ := T.wid.comes g (Nat.le_of_lt_succ lt)
  obtain ⟨n, n1, n2, n3⟩ := st_least (p := fun c => way t.mask g c ∉ t.place.toList) c0 (fun hm => out (e0 ▸ hm))
  exact ⟨n, Nat.lt_of_le_of_lt n1 lt0, n2, fun c hc => Classical.not_not.mp (n3 c hc)⟩
theorem Lay.ahead (T : Lay t hs) {g : Int} {n i j : Nat} (out : way t.mask g n ∉ t.place.toList) (hi : hs[i]? = some g) (hj : t.place.toList[i]? = some j) : ∃ c, c < n ∧ way t.mask g c = j := by
  obtain ⟨c, e, bef⟩ := T.path i g j hi hj
  refine ⟨c, Nat.lt_of_not_le fun le => ?_, e⟩
  rcases Nat.lt_or_eq_of_le le with lt | eq
  · exact out (bef n lt)
  · rw [eq, e] at out
    exact out (List.mem_of_getElem? hj)
theorem Lay.put (T : Lay t hs) {g : Int} {n : Nat} (out : way t.mask g n ∉ t.place.toList) (bef : ∀ c, c < n → way t.mask g c ∈ t.place.toList) :
    SetTable.below t.place (way t.mask g n) ≤ hs.length ∧ Lay (t.put (way t.mask g n)).1 (hs.take (SetTable.below t.place (way t.mask g n)) ++ g :: hs.drop (SetTable.below t.place (way t.mask g n))) ∧
    (t.put (way t.mask g n)).1.fill = hs.length + 1 := by
  have jm := way_low t.mask g n
  obtain ⟨j, ej⟩ : ∃ j, way t.mask g n = j := ⟨_, rfl⟩
  rw [ej] at out jm ⊢
  have b1 : SetTable.below t.place j ≤ t.place.size := (below_cut T.up j).1
  have b2 : SetTable.below t.place j ≤ t.place.toList.length := by rw [Array.length_toList]; exact b1
  have b3 : SetTable.below t.place j ≤ hs.length := by rw [← T.many]; exact b1
  have pl := put_place t j
  have inn : ∀ x ∈ t.place.toList, x ∈ (t.put j).1.place.toList := fun x hx => by
    rw [pl]
    exact mem_ins.2 (.inr hx)
  have sz : (t.put j).1.place.size = hs.length + 1 := by
    rw [← Array.length_toList, pl, len_ins _ b2, Array.length_toList, T.many]
  refine ⟨b3, ⟨T.wid, ?_, put_dm T.bare j, by rw [len_ins _ b3]; exact sz, fun x hx => ?_, fun i g' j' h1 h2 => ?_⟩, ?_⟩
  · exact ris_insert T.up fun e => out (List.mem_of_getElem? (by rw [Array.getElem?_toList]; exact e))
  · rw [pl] at hx
    rcases mem_ins.1 hx with e | hx
    · rw [e]
      exact jm
    · exact T.low x hx
  · rw [pl, tins_get _ b2] at h2
    rw [tins_get hs b3] at h1
    have old : ∀ i0, hs[i0]? = some g' → t.place.toList[i0]? = some j' → ∃ n0, way t.mask g' n0 = j' ∧ ∀ c, c < n0 → way t.mask g' c ∈ (t.put j).1.place.toList := fun i0 a1 a2 => by
      obtain ⟨n0, x1, x2⟩ := T.path i0 g' j' a1 a2
      exact ⟨n0, x1, fun c hc => inn _ (x2 c hc)⟩
    rcases Nat.lt_trichotomy i (SetTable.below t.place j) with c | c | c
    · rw [if_pos c] at h1 h2
      exact old i h1 h2
    · rw [if_neg (by omega), if_pos c] at h1 h2
      obtain rfl := Option.some.inj h1
      obtain rfl := Option.some.inj h2
      exact ⟨n, ej, fun c hc => inn _ (bef c hc)⟩
    · rw [if_neg (by omega), if_neg (by omega)] at h1 h2
      exact old (i - 1) h1 h2
  · show (t.put j).1.place.size + (t.put j).1.dummies.size = _
    rw [sz, put_dm T.bare j] <;> rfl

/-! the table laid out again -/
theorem Wid.free {m : Nat} (wd : Wid m) (owner : Array (Option Nat)) (g : Int) {j : Nat} (hj : j ≤ m) (none0 : oAt owner j = none) :
    ∃ n, SetTable.layClean.free m owner (SetTable.turns m) (SetTable.bits g % (m + 1)) (SetTable.bits g) = some (way m g n) ∧ oAt owner (way m g n) = none ∧ ∀ c, c < n → oAt owner (way m g c) ≠ none := by
  obtain ⟨r, le, e⟩ := wd.start g hj
  have at_ : way m g (off m (SetTable.bits g % (m + 1)) (SetTable.bits g) r) = j := by
    refine Eq.trans (congrArg SetTable.Probe.j (nth_off m r _ _)) ?_
    rw [itL_run]
    exact e
  obtain ⟨n, n1, n2, n3⟩ := st_least (p := fun c => oAt owner (way m g c) = none) _ (show oAt owner (way m g _) = none by rw [at_]; exact none0)
  refine ⟨n, free_spec m owner _ r _ _ n (by unfold SetTable.turns; omega) n1 (fun c hc => ?_) ?_, n2, n3⟩
  · cases z : oAt owner (way m g c) with
    | none => exact absurd z (n3 c hc)
    | some q => rfl
  · exact (congrArg Option.isNone n2)
theorem Wid.own {m : Nat} (wd : Wid m) {done : List Int} {owner : Array (Option Nat)} (W : Own m done owner) (few : done.length ≤ m) (g : Int) :
    ∃ j, SetTable.layClean.free m owner (SetTable.turns m) (SetTable.bits g % (m + 1)) (SetTable.bits g) = some j ∧ Own m (done ++ [g]) (owner.setIfInBounds j (some done.length)) := by
  obtain ⟨ps, lp, cov⟩ := W.ps
  obtain ⟨j0, lt0, out0⟩ := st_missing ps (m + 1) (by omega)
  have no0 : oAt owner j0 = none := Classical.byContradiction fun z => out0 (cov j0 (Nat.le_of_lt_succ lt0) z)
  obtain ⟨n, f, vac, bef⟩ := wd.free owner g (Nat.le_of_lt_succ lt0) no0
  have lm := way_low m g n
  refine ⟨_, f, ?_⟩
  generalize hj : way m g n = j at vac lm
  have slf := oAt_set_self (owner := owner) (some done.length) (j := j) (by rw [W.sz]; omega)
  have keep : ∀ i, oAt owner i ≠ none → oAt (owner.setIfInBounds j (some done.length)) i ≠ none := fun i hi => by
    by_cases c : i = j
    · rw [c, slf]
      exact Option.some_ne_none _
    · rw [oAt_set_ne _ c]
      exact hi
  constructor
  · rw [Array.size_setIfInBounds, W.sz]
  · intro i k hi e
    by_cases c : i = j
    · rw [c, slf] at e
      obtain rfl := Option.some.inj e
      refine ⟨g, n, ?_, hj.trans c.symm, fun c hc => keep _ (bef c hc)⟩
      rw [List.getElem?_append_right (Nat.le_refl _), Nat.sub_self] <;> rfl
    · rw [oAt_set_ne _ c] at e
      obtain ⟨g', n', x1, x2, x3⟩ := W.at_ i k hi e
      exact ⟨g', n', by rw [List.getElem?_append_left (List.getElem?_eq_some_iff.mp x1).1]; exact x1, x2, fun c hc => keep _ (x3 c hc)⟩
  · intro k hk
    rw [List.length_append, List.length_singleton] at hk
    rcases Nat.lt_or_eq_of_le (Nat.le_of_lt_succ hk) with c | c
    · obtain ⟨i, hi, e⟩ := W.all k c
      have ne : i ≠ j := fun z => by
        rw [z, vac] at e
        exact nomatch e
      exact ⟨i, hi, by rw [oAt_set_ne _ ne]; exact e⟩
    · exact ⟨j, lm, by rw [slf, c]⟩
  · refine ⟨j :: ps, by rw [List.length_cons, lp, List.length_append] <;> rfl, fun i hi e => ?_⟩
    by_cases c : i = j
    · rw [c]
      exact .head _
    · rw [oAt_set_ne _ c] at e
      exact .tail _ (cov i hi e)
theorem Wid.lays {m : Nat} (wd : Wid m) : ∀ (rest done : List Int) (owner : Array (Option Nat)), Own m done owner → done.length + rest.length ≤ m →
    ∃ o2, rest.foldl (stepF m) (some (owner, done.length)) = some (o2, (done ++ rest).length) ∧ Own m (done ++ rest) o2
  | [], done, owner, W, _ => by
    rw [List.append_nil]
    exact ⟨owner, rfl, W⟩
  | g :: rest, done, owner, W, le => by
    have lc : (g :: rest).length = rest.length + 1 := rfl
    have ls : (done ++ [g]).length = done.length + 1 := by rw [List.length_append] <;> rfl
    obtain ⟨j, f, W1⟩ := wd.own W (by omega) g
    obtain ⟨o2, h1, h2⟩ := wd.lays rest (done ++ [g]) _ W1 (by omega)
    rw [ls, List.append_assoc] at h1
    rw [List.append_assoc] at h2
    exact ⟨o2, by rw [List.foldl_cons, stepF_some f]; exact h1, h2⟩
theorem Wid.relaid {M : Nat} (wd : Wid M) (t : SetTable) {hs : Array Int} {wanted : Nat} (hw : SetTable.sizeAbove wanted - 1 = M) (le : hs.size ≤ M) :
    ∃ t2 order, t.relaid hs wanted = some (t2, order) ∧ order.toList.Perm (List.range hs.size) ∧ Lay t2 (order.toList.map fun i => hs.getD i 0) ∧ t2.mask = M ∧ t2.led = t.led ∧ t2.plain = t.plain := by
  obtain ⟨owner, f, W⟩ := wd.lays hs.toList [] _ (Own.init M) (by rw [Array.length_toList]; show 0 + hs.size ≤ M; omega)
  rw [List.nil_append] at f W
  have lay : SetTable.layClean M hs = some owner := by
    rw [layClean_eq]
    exact (congrArg (Option.map (·.1)) f)
  generalize hLv : liveOf M owner = Lv
  have mem : ∀ j k, (j, k) ∈ Lv ↔ j ≤ M ∧ oAt owner j = some k := fun j k => by
    rw [← hLv]
    exact mem_live W.sz
  have up : Ris (Lv.map (·.1)) ∧ ∀ x ∈ Lv.map (·.1), x ∈ List.range (M + 1) := by
    rw [← hLv]
    exact ris_live (fun j => owner.getD j none) (List.range (M + 1)) (by
      unfold Ris
      first | exact List.pairwise_lt_range | exact List.pairwise_lt_range _)
  have ks : ∀ k, k < hs.size → k ∈ Lv.map (·.2) := fun k hk => by
    obtain ⟨j, j1, j2⟩ := W.all k (by rw [Array.length_toList]; exact hk)
    exact List.mem_map.mpr ⟨(j, k), (mem j k).2 ⟨j1, j2⟩, rfl⟩
  have cnt : (Lv.map (·.2)).length = hs.size := by
    obtain ⟨ps, lp, cov⟩ := W.ps
    have fs : (Lv.map (·.1)).Nodup := List.Pairwise.imp (fun h => Nat.ne_of_lt h) up.1
    have c1 := nat_nodup_len (Lv.map (·.1)) ps fs fun x hx => by
      obtain ⟨⟨j, k⟩, jk, rfl⟩ := List.mem_map.mp hx
      obtain ⟨x1, x2⟩ := (mem j k).1 jk
      exact cov j x1 (by rw [x2]; exact Option.some_ne_none k)
    have c2 := nat_nodup_len (List.range hs.size) (Lv.map (·.2)) List.nodup_range fun k hk => ks k (List.mem_range.mp hk)
    have z : hs.toList.length = hs.size := rfl
    rw [List.length_map, lp] at c1
    rw [List.length_range, List.length_map] at c2
    rw [List.length_map]
    omega
  refine ⟨tabOf t M owner, (Lv.map (·.2)).toArray, ?_, perm_range hs.size _ cnt ks, ⟨wd, ?_, rfl, ?_, fun j hj => ?_, fun i g j h1 h2 => ?_⟩, rfl, rfl, rfl⟩
  · rw [relaid_eq, hw, lay, ← hLv] <;> rfl
  · show Ris ((liveOf M owner).map (·.1))
    rw [hLv]
    exact up.1
  · show ((liveOf M owner).map (·.1)).toArray.size = _
    rw [hLv, List.size_toArray, List.length_map, List.length_map, List.length_map]
  · have hj' : j ∈ (liveOf M owner).map (·.1) := hj
    rw [hLv] at hj'
    exact Nat.le_of_lt_succ (List.mem_range.mp (up.2 j hj'))
  · have h2' : ((liveOf M owner).map (·.1))[i]? = some j := h2
    have h1' : ((Lv.map (·.2)).map fun i => hs.getD i 0)[i]? = some g := h1
    rw [hLv, List.getElem?_map] at h2'
    rw [List.getElem?_map, List.getElem?_map] at h1'
    obtain ⟨⟨y, k⟩, q1, rfl⟩ := Option.map_eq_some_iff.mp h2'
    rw [q1] at h1'
    obtain rfl := Option.some.inj h1'
    obtain ⟨m1, m2⟩ := (mem y k).1 (List.mem_of_getElem? q1)
    obtain ⟨g0, n, d1, d2, d3⟩ := W.at_ y k m1 m2
    have eg : hs.getD k 0 = g0 := by
      rw [Array.getD_eq_getD_getElem?, ← Array.getElem?_toList, d1] <;> rfl
    show ∃ n, way M (hs.getD k 0) n = y ∧ ∀ c, c < n → way M (hs.getD k 0) c ∈ (liveOf M owner).map (·.1)
    rw [eg, hLv]
    refine ⟨n, d2, fun c hc => ?_⟩
    obtain ⟨k2, e2⟩ := Option.ne_none_iff_exists'.mp (d3 c hc)
    exact List.mem_map.mpr ⟨(way M g0 c, k2), (mem _ _).2 ⟨way_low M g0 c, e2⟩, rfl⟩
end
end L2

end
section
set_option maxRecDepth 100000
set_option maxHeartbeats 2000000
namespace L2
open PySem PySem.Spec PyProof.Rows
/-! ### a set of up to 4914 tuples of ints: searching, adding -/
section
variable {P : Program} {w : World} {A : Around} {E : Value → Shared → Prop} {s : Shared}
variable {a : Addr} {L : List (Addr × List Int)} {es : Array (Int × Value)} {ep : Nat} {t : SetTable}
/-- the hashes of the rows -/
abbrev hsh (P : Program) (w : World) (L : List (Addr × List Int)) : List Int := L.map fun p => thash P w p.2
/-- the object at a is a set whose entries are L -/
structure BigO (P : Program) (w : World) (h : Heap) (a : Addr) (L : List (Addr × List Int)) (es : Array (Int × Value)) (ep : Nat) (t : SetTable) : Prop where
  obj : ∃ o, h.get? a = some o ∧ o.ExactSet ∧ o.data = .set es ep t
  ent : es.toList = rowsOf P w L
  lay : Lay t (hsh P w L)
  dif : (L.map (·.2)).Nodup
  pln : t.plain = true
  seq : w.params.followText "set-order" = true ∨ t.led = true
  gap : L.length * 5 < t.mask * 3
theorem rowsOf_len {es : Array (Int × Value)} (h : es.toList = rowsOf P w L) : es.size = L.length := by
  have e := congrArg List.length h
  rw [Array.length_toList] at e
  exact e.trans (List.length_map ..)
namespace BigO
theorem size (R : BigO P w s.heap a L es ep t) : es.size = L.length := rowsOf_len R.ent
theorem many (R : BigO P w s.heap a L es ep t) : t.place.size = L.length := R.lay.many.trans (List.length_map ..)
theorem fits (R : BigO P w s.heap a L es ep t) : t.fits es.size = true := by
  have g := R.gap
  have c1 : t.place.size = es.size := R.many.trans R.size.symm
  have c2 : t.place.size + t.dummies.size ≤ t.mask := by
    rw [R.lay.bare, R.many]
    show L.length + 0 ≤ _
    omega
  unfold SetTable.fits SetTable.fill
  rw [Bool.and_eq_true, beq_iff_eq, decide_eq_true_eq]
  exact ⟨c1, c2⟩
theorem row (R : BigO P w s.heap a L es ep t) {i : Nat} {p : Addr × List Int} (h : L[i]? = some p) : es[i]? = some (thash P w p.2, Value.ref p.1) := by
  rw [← Array.getElem?_toList, R.ent]
  refine (List.getElem?_map ..).trans ?_
  rw [h] <;> rfl
theorem whole (R : BigO P w s.heap a L es ep t) : ¬ t.gaveWay = true := by
  unfold SetTable.gaveWay
  rw [R.lay.wid.bounds.2.2]
  decide
end BigO
/-- a search, from its c-th place on: for adding, or for asking -/
theorem big_from (R : BigO P w s.heap a L es ep t) (tup : ∀ p ∈ L, IsT P w s.heap p.2 p.1) {x : Addr} {k : List Int} (hx : IsT P w s.heap k x) (hu : A.units < cLine) (adding : Bool) {n : Nat} (fuel : n < 10 * SetTable.turns t.mask)
    (out : way t.mask (thash P w k) n ∉ t.place.toList) (bef : ∀ c, c < n → way t.mask (thash P w k) c ∈ t.place.toList) {Q : SetFound → Shared → Prop}
    (yes : ∀ r, (adding = true → r = none) → (adding = false → r.isSome = true) → k ∈ L.map (·.2) → Q (.there r) s) (no : k ∉ L.map (·.2) → Q (.free (way t.mask (thash P w k) n) false) s) :
    ∀ (f c : Nat) (stand : Option SetTable.Probe), stand.getD (t.probeStart (thash P w k)) = pAt t.mask (thash P w k) c → c ≤ n → n - c < f →
      (∀ (i : Nat) p, L[i]? = some p → p.2 = k → ∃ d, c ≤ d ∧ d < n ∧ t.place.toList[i]? = some (way t.mask (thash P w k) d)) →
      wpAny (model P w) A (setSearchFrom a (.ref x) (thash P w k) adding f stand) Q E s
  | 0, _, _, _, _, lt, _ => absurd lt (Nat.not_lt_zero _)
  | f + 1, c, stand, st, cn, lt, left => by
    obtain ⟨o, ho, hex, hd⟩ := R.obj
    rw [setSearchFrom_succ]
    refine wpAny_bind (wpAny_setState_of ho hd R.fits ?_)
    dsimp only
    refine wp_if_neg R.whole ?_
    try refine wpAny_bind (wpAny_pure ?_)
    have step : ∀ q, (nth t.mask (pAt t.mask (thash P w k) c) q).j = way t.mask (thash P w k) (c + q) := fun q => congrArg SetTable.Probe.j (pAt_on t.mask (thash P w k) c q)
    have rest : n - c + c = n := Nat.sub_add_cancel cn
    have hash : ∀ (i : Nat) p, L[i]? = some p → (es[i]?.map (·.1)).getD 0 = thash P w p.2 := fun i p hp => by
      rw [R.row hp] <;> rfl
    have last : (nth t.mask (pAt t.mask (thash P w k) c) (n - c)).j = way t.mask (thash P w k) n := by rw [step, Nat.add_comm c, rest]
    have spec := go_spec t R.lay.up R.lay.bare (fun i => (es[i]?.map (·.1)).getD 0) (thash P w k) (10 * SetTable.turns t.mask) (n - c) _ (pAt_dummy t.mask (thash P w k) c) (by omega)
      (fun q hq => by rw [step]; exact bef (c + q) (by omega)) (by rw [last]; exact out)
    rcases spec with ⟨q, i, hq, hi, hh, before, pr⟩ | ⟨before, pr⟩
    · rw [step] at hi pr
      rw [show stand.getD (t.probeStart (thash P w k)) = pAt t.mask (thash P w k) c from st]
      rw [show t.probe (fun i => (es[i]?.map (·.1)).getD 0) (thash P w k) (pAt t.mask (thash P w k) c) = _ from pr]
      dsimp only
      have il : i < L.length := by
        have z := (List.getElem?_eq_some_iff.mp hi).1
        rw [Array.length_toList, R.many] at z
        exact z
      obtain ⟨p, hp⟩ : ∃ p, L[i]? = some p := ⟨_, List.getElem?_eq_getElem il⟩
      have mem : p ∈ L := List.mem_of_getElem? hp
      have live : t.slot (way t.mask (thash P w k) (c + q)) = .live i := slot_live R.lay.up hi
      have cont : wpAny (model P w) A (searchRest a (.ref x) (thash P w k) adding f es t (way t.mask (thash P w k) (c + q)) i (nth t.mask (pAt t.mask (thash P w k) c) (q + 1))) Q E s := by
        unfold searchRest
        rw [R.row hp]
        dsimp only
        refine wpAny_bind (wpAny_holding (wpAny_eqBool_tuple hu (tup p mem) hx ?_))
        refine wpAny_bind (wpAny_setState_of ho hd R.fits ?_)
        dsimp only
        by_cases kk : p.2 = k
        · have km : k ∈ L.map (·.2) := List.mem_map.mpr ⟨p, mem, kk⟩
          cases adding with
          | true =>
            refine wp_if_pos (by simp [kk]) ?_
            exact wpAny_pure (yes none (fun _ => rfl) (fun z => nomatch z) km)
          | false =>
            refine wp_if_neg (by simp) ?_
            try refine wpAny_bind (wpAny_pure ?_)
            rw [sameMem]
            dsimp only
            simp only [if_true, live, R.row hp]
            refine wpAny_bind (wpAny_isSame_ref_self (wpAny_bind (wpAny_pure ?_)))
            simp only [if_true]
            refine wp_if_pos (by simp [kk]) ?_
            exact wpAny_pure (yes (some i) (fun z => nomatch z) (fun _ => rfl) km)
        · refine wp_if_neg (by simp [kk]) ?_
          try refine wpAny_bind (wpAny_pure ?_)
          rw [sameMem]
          dsimp only
          simp only [if_true, live, R.row hp]
          refine wpAny_bind (wpAny_isSame_ref_self (wpAny_bind (wpAny_pure ?_)))
          simp only [if_true]
          refine wp_if_neg (by simp [kk]) ?_
          refine big_from R tup hx hu adding fuel out bef yes no f (c + (q + 1)) _ (pAt_on ..) (by omega) (by omega) fun i0 p0 h0 k0 => ?_
          obtain ⟨d, d1, d2, d3⟩ := left i0 p0 h0 k0
          refine ⟨d, Nat.lt_of_not_le fun le => ?_, d2, d3⟩
          have h1 : (es[i0]?.map (·.1)).getD 0 = thash P w k := (hash i0 p0 h0).trans (congrArg (thash P w) k0)
          have le2 : d ≤ c + q := le
          rcases Nat.lt_or_eq_of_le le2 with z | z
          · refine before (d - c) i0 (by omega) ?_ h1
            rw [step, show c + (d - c) = d by omega]
            exact d3
          · rw [z] at d3
            have two := live.symm.trans (slot_live R.lay.up d3)
            injection two with two
            rw [← two, hp] at h0
            exact kk ((congrArg Prod.snd (Option.some.inj h0)).trans k0)
      by_cases led : t.led = true
      · refine wp_if_neg (by simp [led]) ?_
        try refine wpAny_bind (wpAny_pure ?_)
        exact cont
      · refine wp_if_pos (by simp [led]) ?_
        refine wpAny_bind (seen_tup hx (fun y hy => ?_) (wp_if_neg (by decide) ?_))
        · obtain ⟨e, he, rfl⟩ := List.mem_map.mp hy
          have he2 : e ∈ es ∧ e.1 = thash P w k := by simpa using he
          have he3 : e ∈ rowsOf P w L := by
            rw [← R.ent]
            simpa using he2.1
          obtain ⟨p2, m2, rfl⟩ := List.mem_map.mp he3
          exact ⟨p2.2, p2.1, rfl, tup p2 m2⟩
        · try refine wpAny_bind (wpAny_pure ?_)
          exact cont
    · rw [last] at pr
      rw [show stand.getD (t.probeStart (thash P w k)) = pAt t.mask (thash P w k) c from st]
      rw [show t.probe (fun i => (es[i]?.map (·.1)).getD 0) (thash P w k) (pAt t.mask (thash P w k) c) = _ from pr]
      dsimp only
      refine wpAny_pure (no fun hm => ?_)
      obtain ⟨p0, m0, k0⟩ := List.mem_map.mp hm
      obtain ⟨i0, l0, e0⟩ := List.getElem_of_mem m0
      have h0 : L[i0]? = some p0 := (List.getElem?_eq_getElem l0).trans (congrArg some e0)
      obtain ⟨d, d1, d2, d3⟩ := left i0 p0 h0 k0
      refine before (d - c) i0 (by omega) ?_ ((hash i0 p0 h0).trans (congrArg (thash P w) k0))
      rw [step, show c + (d - c) = d by omega]
      exact d3
/-- the whole search -/
theorem big_search (R : BigO P w s.heap a L es ep t) (tup : ∀ p ∈ L, IsT P w s.heap p.2 p.1) {x : Addr} {k : List Int} (hx : IsT P w s.heap k x) (hu : A.units < cLine) (adding : Bool) {Q : SetFound → Shared → Prop}
    (yes : ∀ r, (adding = true → r = none) → (adding = false → r.isSome = true) → k ∈ L.map (·.2) → Q (.there r) s)
    (no : ∀ n, k ∉ L.map (·.2) → way t.mask (thash P w k) n ∉ t.place.toList → (∀ c, c < n → way t.mask (thash P w k) c ∈ t.place.toList) → Q (.free (way t.mask (thash P w k) n) false) s) :
    wpAny (model P w) A (setSearch a (.ref x) (thash P w k) adding) Q E s := by
  have g := R.gap
  obtain ⟨n, fuel, out, bef⟩ := R.lay.hole (by rw [List.length_map]; omega) (thash P w k)
  have big : n < 100000 := by
    have b := R.lay.wid.bounds.2.1
    unfold SetTable.turns at fuel
    omega
  unfold setSearch
  refine big_from R tup hx hu adding fuel out bef yes (fun nm => no n nm out bef) 100000 0 none rfl (Nat.zero_le _) (by omega) fun i p hp hk => ?_
  have hi : (hsh P w L)[i]? = some (thash P w k) := by
    refine (List.getElem?_map ..).trans ?_
    rw [hp, ← hk] <;> rfl
  have il : i < t.place.toList.length := by
    rw [Array.length_toList, R.many]
    exact (List.getElem?_eq_some_iff.mp hp).1
  obtain ⟨c, c1, c2⟩ := R.lay.ahead out hi (List.getElem?_eq_getElem il)
  exact ⟨c, Nat.zero_le c, c1, by rw [c2]; exact List.getElem?_eq_getElem il⟩
theorem BigO.typ (R : BigO P w s.heap a L es ep t) : s.TypeIs (.ref a) "set" := let ⟨o, ho, hex, _⟩ := R.obj; ⟨o, ho, hex.1⟩
/-- k in the set -/
theorem big_in (R : BigO P w s.heap a L es ep t) (tup : ∀ p ∈ L, IsT P w s.heap p.2 p.1) {x : Addr} {k : List Int} (hx : IsT P w s.heap k x) (hu : A.units + 64 < cLine) {Q : Value → Shared → Prop}
    (h : ∀ tk, Q (.bool (decide (k ∈ L.map (·.2)))) { s with toks := tk }) : wpAny (model P w) A (compareOp .In (.ref x) (.ref a)) Q E s := by
  show wpAny _ _ (do return .bool (← contains (.ref a) (.ref x))) Q E s
  refine wpAny_bind ?_
  unfold contains
  try with_reducible refine wpAny_holding ?_
  refine wpAny_bind (wpAny_specialOf R.typ F.slot_set_contains.lookup ?_)
  show wpAny _ _ (if (some (Value.builtin "set.__contains__") == some Value.none) = true then _ else _) _ E s
  rw [if_neg (by rw [beq_builtin_none]; exact Bool.false_ne_true)]
  refine wpAny_bind (wpAny_callSpecialUnlessNone?_slot (name := Str.ofString "__contains__") R.typ F.slot_set_contains
    (wpAny_call_entry F.slot_set_contains R.typ entry_set_contains ?_ (F.args_set_contains_2 _ _)))
  unfold Builtin.«frozenset.__contains__» Builtin.Frozenset.oneOther
  simp only [List.isEmpty_nil, bind_assoc]
  unfold Builtin.Frozenset.addrOf Builtin.Frozenset.withSetAsKey setContains
  refine wpAny_bind (wpAny_pure ?_)
  try dsimp only
  refine wpAny_bind (wpAny_pure ?_)
  try dsimp only
  refine wpAny_bind (wpAny_tryCatch ?_)
  refine wpAny_holding ?_
  refine wpAny_bind (wpAny_pyHash_tuple ?_ hx ?_)
  · show A.units + 1 < cLine
    omega
  have R2 : BigO P w ({ s with toks := s.toks + (k.length + 1) } : Shared).heap a L es ep t := R
  obtain ⟨o, ho, hex, hd⟩ := R2.obj
  have fin : ∀ r : Option Nat, r.isSome = decide (k ∈ L.map (·.2)) → wpAny (model P w) A (pure (Value.bool r.isSome)) (fun v s' => Q v s') E { s with toks := s.toks + (k.length + 1) } := fun r hr => by
    rw [hr]
    exact wpAny_pure (h _)
  refine wpAny_bind (Q := _) (m := setFind a (.ref x) (thash P w k)) ?_
  unfold setFind
  rw [show (100000 : Nat) = 99999 + 1 from rfl]
  unfold setFindIn
  refine wpAny_bind (wpAny_setState_of ho hd R2.fits ?_)
  dsimp only
  refine wp_if_neg (by simp [byScan, Value.scannable]) ?_
  try refine wpAny_bind (wpAny_pure ?_)
  refine wpAny_bind (big_search R2 tup hx (by show A.units + 1 < cLine; omega) false (fun r _ hr hm => ?_) (fun n nm out bef => ?_))
  · refine wpAny_pure ?_
    refine wpAny_pure ?_
    show wpAny _ _ (ret (Value.bool r.isSome)) _ _ _
    rw [hr rfl, ← decide_eq_true hm]
    exact wpAny_pure ⟨_, rfl, wpAny_truthy_bool (wpAny_pure (h _))⟩
  · refine wpAny_pure ?_
    refine wpAny_pure ?_
    show wpAny _ _ (ret (Value.bool (none : Option Nat).isSome)) _ _ _
    rw [show (none : Option Nat).isSome = decide (k ∈ L.map (·.2)) from (decide_eq_false nm).symm]
    exact wpAny_pure ⟨_, rfl, wpAny_truthy_bool (wpAny_pure (h _))⟩

theorem grow_size {n m : Nat} (wd : Wid m) (lt : n * 5 < m * 3) (ge : (n + 1) * 5 ≥ m * 3) (few : n + 1 < 4915) : ∃ M, SetTable.sizeAbove (SetTable.grown (n + 1)) = M + 1 ∧ Wid M ∧ (n + 1) * 5 < M * 3 ∧ M ≤ 8191 := by
  rcases wd with e | e | e | e | e | e
  · obtain rfl : n = 4 := by omega
    exact ⟨31, by decide +kernel, .inr (.inl rfl), by omega, by omega⟩
  · obtain rfl : n = 18 := by omega
    exact ⟨127, by decide +kernel, .inr (.inr (.inl rfl)), by omega, by omega⟩
  · obtain rfl : n = 76 := by omega
    exact ⟨511, by decide +kernel, .inr (.inr (.inr (.inl rfl))), by omega, by omega⟩
  · obtain rfl : n = 306 := by omega
    exact ⟨2047, by decide +kernel, .inr (.inr (.inr (.inr (.inl rfl)))), by omega, by omega⟩
  · obtain rfl : n = 1228 := by omega
    exact ⟨8191, by decide +kernel, .inr (.inr (.inr (.inr (.inr rfl)))), by omega, by omega⟩
  · omega
/-- the set's table laid out anew, larger -/
theorem big_relay {o : Obj} (ho : s.heap.get? a = some o) (hex : o.ExactSet) (hd : o.data = .set es ep t) (ent : es.toList = rowsOf P w L) (lay : Lay t (hsh P w L)) (le : L.length ≤ t.mask)
    (dif : (L.map (·.2)).Nodup) (pln : t.plain = true) (seq : w.params.followText "set-order" = true ∨ t.led = true) {wanted M : Nat}
    (hw : SetTable.sizeAbove wanted = M + 1) (wd : Wid M) (room : L.length * 5 < M * 3) {Q : Unit → Shared → Prop}
    (q : ∀ g L2 es2 ep2 t2, Heap.SameBut a s.heap g → BigO P w g a L2 es2 ep2 t2 → L2.Perm L → Q () { s with heap := g }) : wpAny (model P w) A (setRelay a wanted) Q E s := by
  have sz : es.size = L.length := rowsOf_len ent
  have many : t.place.size = L.length := lay.many.trans (List.length_map ..)
  have fits : t.fits es.size = true := by
    unfold SetTable.fits SetTable.fill
    rw [Bool.and_eq_true, beq_iff_eq, decide_eq_true_eq, lay.bare, many, sz]
    exact ⟨rfl, by show L.length + 0 ≤ _; omega⟩
  have bM := wd.bounds
  obtain ⟨t2, order, e, pm, lay2, em, el, ep2⟩ := wd.relaid t (hs := es.map (·.1)) (wanted := wanted) (by omega) (by rw [Array.size_map, sz]; omega)
  rw [Array.size_map, sz] at pm
  obtain ⟨L2, r1, r2, r3⟩ := order_rows L es order ent pm
  have lay3 : Lay t2 (hsh P w L2) := by
    show Lay t2 (L2.map fun p => thash P w p.2)
    rw [r3]
    exact lay2
  have sz2 : (order.filterMap (es[·]?)).size = es.size := by rw [rowsOf_len r1, r2.length_eq, sz]
  rw [setRelay_eq]
  refine wpAny_bind (wpAny_setState_of ho hd fits ?_)
  dsimp only
  refine wp_if_neg (by rw [hw, sizeLine_eq]; omega) ?_
  try refine wpAny_bind (wpAny_pure ?_)
  rw [e]
  dsimp only
  refine wpAny_bind (wp_if_neg (by rw [sz2]; simp) ?_)
  try refine wpAny_bind (wpAny_pure ?_)
  refine wpAny_pure ?_
  dsimp only
  refine wpAny_storeSet_of ho hd ?_ (by rw [sz2, sz, sizeLine_eq]; omega)
  refine q _ L2 (order.filterMap (es[·]?)) (ep + 1) t2 (Heap.SameBut.update ..) ?_ r2
  exact ⟨⟨_, store_at ho hd, ⟨hex.1, hex.2.1, hex.2.2⟩, rfl⟩, r1, lay3, (r2.map (·.2)).nodup_iff.mpr dif, ep2.trans pln, by rw [el]; exact seq, by rw [r2.length_eq, em]; exact room⟩
/-- one more tuple -/
theorem big_add (R : BigO P w s.heap a L es ep t) (tup : ∀ p ∈ L, IsT P w s.heap p.2 p.1) {x : Addr} {k : List Int} (hx : IsT P w s.heap k x) (hu : A.units < cLine) (few : L.length + 1 < 4915) {Q : Bool → Shared → Prop}
    (q : ∀ b g L2 es2 ep2 t2, Heap.SameBut a s.heap g → BigO P w g a L2 es2 ep2 t2 → (k ∈ L.map (·.2) → L2 = L) → (k ∉ L.map (·.2) → L2.Perm ((x, k) :: L)) → Q b { s with heap := g }) :
    wpAny (model P w) A (setAddHashed a (.ref x) (thash P w k)) Q E s := by
  obtain ⟨o, ho, hex, hd⟩ := R.obj
  have sz := R.size
  unfold setAddHashed
  refine wpAny_holding ?_
  rw [show (100000 : Nat) = 99999 + 1 from rfl, setAddHashedIn_succ]
  refine wpAny_bind (wpAny_setState_of ho hd R.fits ?_)
  dsimp only
  refine wp_if_neg (by simp [byScan, Value.scannable]) ?_
  try refine wpAny_bind (wpAny_pure ?_)
  refine wpAny_bind (big_search R tup hx hu true (fun r hr _ hm => ?_) fun n nm out bef => ?_)
  · dsimp only
    exact wpAny_pure (q false s.heap L es ep t (Heap.SameBut.refl a s.heap) R (fun _ => rfl) fun z => absurd hm z)
  dsimp only
  refine wpAny_bind (wpAny_setState_of ho hd R.fits ?_)
  dsimp only
  obtain ⟨le, lay1, fill1⟩ := R.lay.put out bef
  have m1 : (t.put (way t.mask (thash P w k) n)).1.mask = t.mask := rfl
  have p1 : (t.put (way t.mask (thash P w k) n)).1.plain = true := R.pln
  have l1 : w.params.followText "set-order" = true ∨ (t.put (way t.mask (thash P w k) n)).1.led = true := R.seq
  have at1 : (t.put (way t.mask (thash P w k) n)).2 = SetTable.below t.place (way t.mask (thash P w k) n) := rfl
  generalize hp1 : t.put (way t.mask (thash P w k) n) = pt at lay1 fill1 m1 p1 l1 at1 ⊢
  obtain ⟨t1, i⟩ := pt
  dsimp only at lay1 fill1 m1 p1 l1 at1 ⊢
  rw [← at1] at lay1
  first
    | (refine wpAny_bind ?_; refine wp_if_pos p1 ?_; refine hashBy_tup hx ?_)
    | refine wp_if_pos p1 (wpAny_bind (hashBy_tup hx ?_))
  simp only [if_true]
  have pm := put_perm L i (x, k)
  have ent1 : (SetTable.insertAt es i (thash P w k, Value.ref x)).toList = rowsOf P w (L.take i ++ (x, k) :: L.drop i) := by
    rw [SetTable.toList_insertAt, rows_put, R.ent]
  have lay2 : Lay t1 (hsh P w (L.take i ++ (x, k) :: L.drop i)) := by
    show Lay t1 ((L.take i ++ (x, k) :: L.drop i).map fun p => thash P w p.2)
    rw [List.map_append, List.map_cons, List.map_take, List.map_drop]
    exact lay1
  generalize SetTable.insertAt es i (thash P w k, Value.ref x) = es1 at ent1 ⊢
  generalize L.take i ++ (x, k) :: L.drop i = L1 at pm ent1 lay2
  have len1 : L1.length = L.length + 1 := pm.length_eq
  have sz1 : es1.size = L.length + 1 := (rowsOf_len ent1).trans len1
  have dif1 : (L1.map (·.2)).Nodup := (pm.map (·.2)).nodup_iff.mpr (by rw [List.map_cons]; exact List.nodup_cons.mpr ⟨nm, R.dif⟩)
  refine wpAny_bind (wpAny_storeSet_of ho hd ?_ (by rw [sz1, sizeLine_eq]; omega))
  have ho1 := store_at (es' := es1) (t' := t1) ho hd
  have sb : Heap.SameBut a s.heap (s.heap.update a (Obj.putSet es1 t1)) := Heap.SameBut.update ..
  generalize s.heap.update a (Obj.putSet es1 t1) = g1 at ho1 sb ⊢
  have gap := R.gap
  rw [List.length_map] at fill1
  by_cases full : t1.tooFull = true
  · have ge : (L.length + 1) * 5 ≥ t.mask * 3 := by
      have z := full
      unfold SetTable.tooFull at z
      rw [decide_eq_true_eq, fill1, m1] at z
      exact z
    obtain ⟨M, e1, e2, e3, e4⟩ := grow_size R.lay.wid gap ge few
    first
      | (refine wpAny_bind ?_; refine wp_if_pos (by simp [full]) ?_)
      | (refine wp_if_pos (by simp [full]) ?_; refine wpAny_bind ?_)
    rw [sz]
    refine big_relay (s := { s with heap := g1 }) ho1 ⟨hex.1, hex.2.1, hex.2.2⟩ rfl ent1 lay2 (by rw [len1, m1]; have := R.lay.wid.bounds; omega) dif1 p1 l1 e1 e2 (by rw [len1]; exact e3) fun g2 L2 es2 ep2 t2 sb2 R2 pm2 => ?_
    exact wpAny_pure (q true g2 L2 es2 ep2 t2 (sb.trans sb2) R2 (fun z => absurd z nm) fun _ => pm2.trans pm)
  · first
      | refine wp_if_neg (by simp [full]) ?_
      | (refine wpAny_bind ?_; refine wp_if_neg (by simp [full]) ?_; refine wpAny_pure ?_)
    refine wpAny_pure (q true g1 L1 es1 (ep + 1) t1 sb ⟨⟨_, ho1, ⟨hex.1, hex.2.1, hex.2.2⟩, rfl⟩, ent1, lay2, dif1, p1, l1, ?_⟩ (fun z => absurd z nm) fun _ => pm)
    have z := full
    unfold SetTable.tooFull at z
    rw [decide_eq_true_eq, fill1, m1] at z
    rw [len1, m1]
    omega
end
end L2

end
section
set_option maxRecDepth 100000
set_option maxHeartbeats 2000000
namespace L2
open PySem PySem.Spec PyProof.Rows
section
variable {P : Program} {w : World} {A : Around} {E : Value → Shared → Prop} {s : Shared}
variable {a : Addr} {L : List (Addr × List Int)} {es : Array (Int × Value)} {ep : Nat} {t : SetTable}
/-- the call that adds -/
theorem big_add_call (R : BigO P w s.heap a L es ep t) (tup : ∀ p ∈ L, IsT P w s.heap p.2 p.1) {x : Addr} {k : List Int} (hx : IsT P w s.heap k x) (hu : A.units + 64 < cLine) (few : L.length + 1 < 4915) {Q : Value → Shared → Prop}
    (h : ∀ g tk L2 es2 ep2 t2, Heap.SameBut a s.heap g → BigO P w g a L2 es2 ep2 t2 → (k ∈ L.map (·.2) → L2 = L) → (k ∉ L.map (·.2) → L2.Perm ((x, k) :: L)) → Q .none { s with heap := g, toks := tk }) :
    wpAny (model P w) A (call (.builtin "set.add") [.ref a, .ref x]) Q E s := by
  refine wpAny_call_entry F.slot_set_add R.typ F.entry_set_add ?_ (F.args_set_add_2 _ _)
  unfold Builtin.«set.add» Builtin.Frozenset.oneOther
  simp only [List.isEmpty_nil, bind_assoc]
  unfold Builtin.Frozenset.addrOf setAdd
  refine wpAny_bind (wpAny_pure ?_)
  try dsimp only
  refine wpAny_bind (wpAny_pure ?_)
  try dsimp only
  refine wpAny_bind (wpAny_holding (wpAny_bind (wpAny_pyHash_tuple (by show A.units + 1 < cLine; omega) hx ?_)))
  have R2 : BigO P w ({ s with toks := s.toks + (k.length + 1) } : Shared).heap a L es ep t := R
  refine big_add (s := { s with toks := s.toks + (k.length + 1) }) R2 tup hx (by show A.units + 1 < cLine; omega) few fun b g L2 es2 ep2 t2 sb R3 c1 c2 => ?_
  show wpAny _ _ (ret Value.none) _ _ _
  exact wpAny_pure ⟨_, rfl, h g _ L2 es2 ep2 t2 sb R3 c1 c2⟩
/-- the set() that was just made -/
theorem bigO_new {h : Heap} {a : Addr} (ho : h.get? a = some { cls := .type "set", dict := none, data := .set #[] 0 (.fresh 0 0 (!w.params.followText "set-order")) }) : BigO P w h a [] #[] 0 (.fresh 0 0 (!w.params.followText "set-order")) := by
  refine ⟨⟨_, ho, ⟨rfl, rfl, rfl⟩, rfl⟩, rfl, ⟨.inl rfl, .nil, rfl, rfl, (fun j hj => nomatch hj), (fun i g j h => nomatch h)⟩, .nil, rfl, ?_, by show 0 * 5 < 7 * 3; decide⟩
  show _ ∨ (!w.params.followText "set-order") = true
  cases w.params.followText "set-order"
  · exact .inr rfl
  · exact .inl rfl
end
section
/-- as an object of the heap -/
def BigSet (P : Program) (w : World) (h : Heap) (a : Addr) (L : List (Addr × List Int)) : Prop := ∃ es ep t, BigO P w h a L es ep t
def BigHO (P : Program) (w : World) (a : Addr) (L : List (Addr × List Int)) : HO := .ext fun h => BigSet P w h a L
theorem bigHO_new {P : Program} {w : World} {H : Hp} {h : Heap} {a : Addr} {L : List (Addr × List Int)} (R : BigSet P w h a L) : ObjOk P w H h a (BigHO P w a L) := by
  have ⟨es, ep, t, B⟩ := R
  have ⟨o, ho, _⟩ := B.obj
  refine ⟨R, ⟨o, ho⟩, fun h1 h2 p k => ?_⟩
  have ⟨es', ep', t', B'⟩ := (p : BigSet P w h1 a L)
  have ⟨o', ho', r'⟩ := B'.obj
  exact ⟨es', ep', t', ⟨⟨o', k o' ho', r'⟩, B'.ent, B'.lay, B'.dif, B'.pln, B'.seq, B'.gap⟩⟩
variable {X : Cx}
/-- a's set has the tuples L, and they are still there to be read -/
def HasB (K : PySem.W.Frag) (P : Program) (w : World) (H : Hp) (a : Addr) (L : List (Addr × List Int)) : Prop := H a = some (BigHO P w a L) ∧ ∀ p ∈ L, SqT K H p.1 (p.2.map V.int)
theorem HasB.get {pins : List (Addr × Obj)} {σ : St} {H : Hp} {s : Shared} {a : Addr} {L : List (Addr × List Int)} (I : Inv X pins σ H s) (h : HasB X.K X.prog X.w H a L) :
    (∃ es ep t, BigO X.prog X.w s.heap a L es ep t) ∧ ∀ p ∈ L, IsT X.prog X.w s.heap p.2 p.1 := ⟨(I.hok a _ h.1).1, fun p hp => I.isT (h.2 p hp)⟩
def rB0 (P : Program) (w : World) : List V → Hp → VK → Prop := fun vs H Q => vs = [] ∧ ∀ p, H p = none → Q (.ref p) (upd H p (BigHO P w p []))
theorem cr_b0 : CallR X (.type "set") (rB0 X.prog X.w) := by
  intro pins s σ H vs us Q I r h
  obtain ⟨rfl, q⟩ := h
  cases r
  refine setR_new fun _ => ?_
  have R := bigO_new (P := X.prog) (w := X.w) (h := s.heap.push { cls := .type "set", dict := none, data := .set #[] 0 (.fresh 0 0 (!X.w.params.followText "set-order")) }) (a := s.heap.objs.size) (Heap.get?_push_size _ rfl)
  exact ⟨.ref _, _, I.laid (t' := s.toks) (fun b u e => Heap.get?_push_of_some _ e) (Nat.le_refl _) (bigHO_new ⟨_, _, _, R⟩), rfl, q _ (I.hok.fresh (Nat.le_refl _))⟩
def rBIn (K : PySem.W.Frag) (P : Program) (w : World) : V → V → Hp → VK → Prop := fun x y H Q => ∃ (b a : Addr) (k : List Int) (L : List (Addr × List Int)), x = V.ref b ∧ y = V.ref a ∧ SqT K H b (k.map V.int) ∧ HasB K P w H a L ∧ Q (.bl (decide (k ∈ L.map (·.2)))) H
theorem or_bIn (hu : X.A.units + 64 < cLine) : OpR X (compareOp .In) (rBIn X.K X.prog X.w) := by
  intro pins s σ H x y v u Q I rx ry h
  obtain ⟨b, a, k, L, rfl, rfl, hb, ha, q⟩ := h
  cases rx
  cases ry
  obtain ⟨⟨es, ep, t, R⟩, tup⟩ := ha.get I
  exact big_in R tup (I.isT hb) hu fun tk => ⟨.bl _, H, I.tok _, rfl, q⟩
theorem bIn_ {K : PySem.W.Frag} (P : Program) (w : World) (hu : X.A.units + 64 < cLine) (hP : X.prog = P := by rfl) (hw : X.w = w := by rfl) (hK : X.K = K := by rfl) : OpR X (compareOp .In) (rBIn K P w) := by subst hK hP hw; exact or_bIn hu
def rBAdd (K : PySem.W.Frag) (P : Program) (w : World) : V → List V → Hp → VK → Prop := fun x vs H Q => ∃ (a b : Addr) (k : List Int) (L : List (Addr × List Int)), x = V.ref a ∧ vs = [V.ref b] ∧ SqT K H b (k.map V.int) ∧ HasB K P w H a L ∧ L.length + 1 < 4915 ∧
  (k ∈ L.map (·.2) → Q .non (upd H a (BigHO P w a L))) ∧ (k ∉ L.map (·.2) → ∀ L2, L2.Perm ((b, k) :: L) → Q .non (upd H a (BigHO P w a L2)))
theorem mt_bAdd (hu : X.A.units + 64 < cLine) : MtR X "set.add" (rBAdd X.K X.prog X.w) := by
  intro pins s σ H x vs v us Q I rx rxs h
  obtain ⟨a, b, k, L, rfl, rfl, hb, ha, few, q1, q2⟩ := h
  cases rx
  rw [Vals.ref1 rxs]
  obtain ⟨⟨es, ep, t, R⟩, tup⟩ := ha.get I
  refine big_add_call R tup (I.isT hb) hu few fun g tk L2 es2 ep2 t2 sb R2 c1 c2 => ?_
  obtain ⟨o2, ho2, _⟩ := R2.obj
  refine ⟨.non, _, I.write (e := a) (t' := tk) (by rw [ha.1]; trivial) (.inl rfl) (fun c u hc hu => (sb.2 c hc).trans hu) ⟨o2, ho2⟩ (bigHO_new ⟨_, _, _, R2⟩), rfl, ?_⟩
  by_cases m : k ∈ L.map (·.2)
  · rw [c1 m]
    exact q1 m
  · exact q2 m L2 (c2 m)
def tBAdd (K : PySem.W.Frag) (P : Program) (w : World) (to : TE) (t : TA) : TE := fun σ H Q => to σ H fun x H1 => (∃ a L, x = V.ref a ∧ H1 a = some (BigHO P w a L)) ∧ t σ H1 fun xs H2 => rBAdd K P w x xs H2 Q
variable {o e : Expr} {es : List Expr} {to : TE} {t : TA} {apos cpos : Pos}
theorem pe_bAdd (hu : X.A.units + 64 < cLine) (ho : PE X o to) (ha : PA X (e :: es) t)
    (late : attributeBase o "add" X.env (eval o X.env) = eval o X.env := by rfl)
    (less30 : ((backTo cpos (starEach (e :: es) X.env)).all (fun x => !x.1) && (backToKw cpos (keywordEach [] X.env)).all (fun x => x.1.isSome)
        && decide ((e :: es).length + ([] : List Keyword).length + (if ([] : List Keyword).isEmpty then 0 else 1) < 30)) = true := by rfl)
    (oneRow : (apos.endLine == cpos.line) = true := by rfl) (first1 : starEach (e :: es) X.env = (false, eval e X.env) :: starEach es X.env := by rfl)
    (noStar : (backTo cpos (starEach es X.env)).any (·.1) = false := by rfl) : PE X (.Call (.Attribute o "add" apos) (e :: es) [] cpos) (tBAdd X.K X.prog X.w to t) := by
  refine ⟨fun pins s σ H Q I h => ?_⟩
  refine wpAny_Call_method_late late less30 oneRow rfl (thn (ho.run pins s σ H _ I h) fun v s1 ⟨x, H1, I1, r1, ⟨a, L, ex, hka⟩, q1⟩ => ?_)
  subst ex
  obtain ⟨es0, ep0, t0, B⟩ := (show BigSet X.prog X.w s1.heap a L from (I1.hok a _ hka).1)
  obtain ⟨o0, ho0, hex0, _⟩ := B.obj
  cases r1
  refine ⟨"set", "set.add", F.plainAttrs_set, F.slot_set_add, F.type_set_add, ⟨o0, ho0, hex0.1⟩, fun b eb => ?_, ?_⟩
  · obtain rfl : a = b := by injection eb
    exact ⟨o0, ho0, by first | exact hex0.2.1 | exact hex0.2.2⟩
  have hA := ha.run cpos pins s1 σ H1 _ I1 q1
  rw [first1] at hA ⊢
  refine Calls.callWith_builtin (by show (false || (backTo cpos (starEach es X.env)).any (·.1)) = false; rw [noStar] <;> rfl) (Calls.evalArgs_plain ?_)
  exact thn hA fun us s2 ⟨vs, H2, I2, r2, q2⟩ => mt_bAdd hu pins s2 σ H2 (.ref a) vs (.ref a) us Q I2 rfl r2 q2
end
end L2

end
section
set_option maxRecDepth 100000
namespace L2
open PySem PySem.Spec PyProof.Rows
/-! ### a def of the text under its name: its promise, its level, how it is bound -/
structure Cal (P : Program) (w : World) (K : PySem.W.Frag) (mg : Str → Option Value) (base : Heap) (x : Str) (k : Nat) (sp : Sp) : Prop where
  ex : ∃ (f : Addr) (fd : FuncData) (ps : List Str), FnOk P w K mg base CX0 k f fd ps sp ∧ mg x = some (.ref f) ∧ PySem.W.keepIn K (.ref f) = true ∧ Binds K fd ps []
/-- a method of the class at C -/
structure MCal (P : Program) (w : World) (K : PySem.W.Frag) (mg : Str → Option Value) (base : Heap) (C : Addr) (m : Str) (k : Nat) (sp : Sp) : Prop where
  ex : ∃ (f : Addr) (fd : FuncData) (ps : List Str), FnOk P w K mg base CX0 k f fd ps sp ∧ Meth K C m f ∧ Binds K fd ps []
/-- the making of an instance of the class at C, named x; k: the level of its __init__ -/
structure NCal (P : Program) (w : World) (K : PySem.W.Frag) (mg : Str → Option Value) (base : Heap) (C : Addr) (x : Str) (k : Nat) (sp : Sp) : Prop where
  ex : ∃ (f : Addr) (fd : FuncData) (ps : List Str), FnOk P w K mg base CX0 k f fd ps sp ∧ Mk K C f ∧ Binds K fd ps []
  mg : mg x = some (.ref C)
section
variable {X : Cx} {e o : Expr} {es : List Expr} {t : TA} {ta : TE} {x m : Str} {k : Nat} {sp : Sp} {C : Addr} {p pos apos : Pos}
theorem tCall_nil {t : TA} {E : XK} {σ : St} {H : Hp} {Q : VK} (h : t σ H fun vs H1 => sp vs H1 Q E) : tCall sp [] E t σ H Q := by
  unfold tCall
  simpa only [List.append_nil] using h
def tCal (sp : Sp) (t : TA) : TE := fun σ H Q => t σ H fun vs H1 => sp vs H1 Q E0
def tMCal (C : Addr) (m : Str) (sp : Sp) (to : TE) (t : TA) : TE := fun σ H Q => to σ H fun x H1 => ∃ a dx fs, x = .ref a ∧ H1 a = some (.ins C dx fs) ∧ fs.lookup m = none ∧ t σ H1 fun vs H2 => sp (x :: vs) H2 Q E0
def tNCal (C : Addr) (sp : Sp) (t : TA) : TE := fun σ H Q => t σ H fun vs H1 => ∀ x dx, H1 x = none → H1 dx = none → dx ≠ x → sp (.ref x :: vs) (upd (upd H1 dx (.own x)) x (.ins C dx [])) (fun v H2 => v = .non ∧ Q (.ref x) H2) E0
theorem PE.to {t u : TE} (h : PE X e t) (le : ∀ σ H Q, u σ H Q → t σ H Q) : PE X e u := ⟨fun pins s σ H Q I q => h.run pins s σ H Q I (le σ H Q q)⟩
theorem pe_cal (c : Cal X.prog X.w X.K X.mg X.base x k sp) (hr : Room k X.A) (ha : PA X (e :: es) t) (hg : Gl X x := by rfl) (hdb : (x == ("__debug__" : Str)) = false := by decide)
    (he : starEach (e :: es) X.env = (false, eval e X.env) :: starEach es X.env := by rfl) (hpl : (backTo pos (starEach es X.env)).any (·.1) = false := by rfl) :
    PE X (.Call (.Name x p) (e :: es) [] pos) (tCal sp t) := by
  obtain ⟨f, fd, ps, F, hm, hk, hb⟩ := c.ex
  exact (pe_call F hr hg hm hk hb .nil pass0 ha hdb he hpl).to fun σ H Q q => tCall_nil q
theorem pe_cal0 (c : Cal X.prog X.w X.K X.mg X.base x k sp) (hr : Room k X.A) (hg : Gl X x := by rfl) (hdb : (x == ("__debug__" : Str)) = false := by decide) :
    PE X (.Call (.Name x p) [] [] pos) (tCal sp tNil) := by
  obtain ⟨f, fd, ps, F, hm, hk, hb⟩ := c.ex
  exact (pe_call0 F hr hg hm hk hb .nil pass0 hdb).to fun σ H Q q => tCall_nil q
theorem pe_ncal (c : NCal X.prog X.w X.K X.mg X.base C x k sp) (hr : Room (k + 1) X.A) (ha : PA X (e :: es) t) (hg : Gl X x := by rfl) (hdb : (x == ("__debug__" : Str)) = false := by decide)
    (he : starEach (e :: es) X.env = (false, eval e X.env) :: starEach es X.env := by rfl) (hpl : (backTo pos (starEach es X.env)).any (·.1) = false := by rfl) :
    PE X (.Call (.Name x p) (e :: es) [] pos) (tNCal C sp t) := by
  obtain ⟨f, fd, ps, F, M, hb⟩ := c.ex
  refine (pe_make M F hr hg c.mg hb .nil pass0 ha hdb he hpl).to fun σ H Q q => ?_
  unfold tNCal at q
  unfold tMake
  simpa only [List.append_nil] using q
theorem setL_ (K : PySem.W.Frag) (w : World) (hc : X.calm = true) (hK : X.K = K := by rfl) (hw : X.w = w := by rfl) : CallR X (.type "set") (rHuSetL K w) := by
  subst hK hw; exact hu_cr_setL hc
theorem sortedSet_ (w : World) (hc : X.calm = true) (hw : X.w = w := by rfl) : CallR X (.builtin "sorted") (rSortedSet w) := by
  subst hw; exact cr_sortedSet hc
section
variable (K : PySem.W.Frag)
theorem all_ (hc : X.calm = true) (hK : X.K = K := by rfl) : CallR X (.builtin "all") (rAll K) := by subst hK; exact cr_all hc
theorem any_ (hc : X.calm = true) (hK : X.K = K := by rfl) : CallR X (.builtin "any") (rAny K) := by subst hK; exact cr_any hc
theorem sum_ (hc : X.calm = true) (hK : X.K = K := by rfl) : CallR X (.builtin "sum") (rSum K) := by subst hK; exact cr_sum hc
theorem min_ (hc : X.calm = true) (hK : X.K = K := by rfl) : CallR X (.builtin "min") (rMin K) := by subst hK; exact cr_min hc
theorem sortedI_ (hK : X.K = K := by rfl) : CallR X (.builtin "sorted") (rSortedI K) := by subst hK; exact cr_sortedI
theorem sortedPO_ (hK : X.K = K := by rfl) : CallR X (.builtin "sorted") (rSortedPO K) := by subst hK; exact cr_sortedPO
theorem isi_ (hK : X.K = K := by rfl) : CallR X (.builtin "isinstance") (rIsi K) := by subst hK; exact call_isi
theorem inS_ (hK : X.K = K := by rfl) : OpR X (compareOp .In) (rIn K false) := by subst hK; exact op_in_seq
theorem ninS_ (hK : X.K = K := by rfl) : OpR X (compareOp .NotIn) (rIn K true) := by subst hK; exact op_notIn_seq
theorem ixL_ (hK : X.K = K := by rfl) : IxR X (rIxL K) := by subst hK; exact ix_list
theorem ixT_ (hK : X.K = K := by rfl) : IxR X (rIxT K) := by subst hK; exact ix_tup
theorem slL_ (hK : X.K = K := by rfl) : SlR X (rSlL K) := by subst hK; exact sl_list
theorem slT_ (hK : X.K = K := by rfl) : SlR X (rSlT K) := by subst hK; exact sl_tup
theorem catT_ (hK : X.K = K := by rfl) : OpR X (binaryOp .Add) (rCatT K) := by subst hK; exact op_catT
theorem catA_ (hK : X.K = K := by rfl) : OpR X (binaryOp .Add) (rCatA K) := by subst hK; exact op_catA
theorem eqD_ (hu : X.A.units + 64 < cLine) (hK : X.K = K := by rfl) : OpR X (compareOp .Eq) (rEqD K) := by subst hK; exact op_eqD hu
theorem neD_ (hu : X.A.units + 64 < cLine) (hK : X.K = K := by rfl) : OpR X (compareOp .NotEq) (rNeD K) := by subst hK; exact op_neD hu
def rLenS (K : PySem.W.Frag) : List V → Hp → VK → Prop := fun xs H Q => ∃ p ys, xs = [.ref p] ∧ (SqL K H p ys ∨ SqT K H p ys) ∧ Q (.int ys.length) H
theorem lenS_ (hK : X.K = K := by rfl) : CallR X (.builtin "len") (rLenS K) := by subst hK; exact call_len_seq
def rLstOf (K : PySem.W.Frag) : List V → Hp → VK → Prop := fun xs H Q => ∃ p ys, xs = [.ref p] ∧ (SqL K H p ys ∨ SqT K H p ys) ∧ ∀ l, H l = none → Q (.ref l) (upd H l (.lst ys))
theorem lstOf_ (hK : X.K = K := by rfl) : CallR X (.type "list") (rLstOf K) := by subst hK; exact call_list_of
def rTupOf (K : PySem.W.Frag) : List V → Hp → VK → Prop := fun xs H Q => ∃ p ys, xs = [.ref p] ∧ ((SqL K H p ys ∧ ∀ l, H l = none → Q (.ref l) (upd H l (.tup ys))) ∨ (SqT K H p ys ∧ Q (.ref p) H))
theorem tupOf_ (hK : X.K = K := by rfl) : CallR X (.type "tuple") (rTupOf K) := by subst hK; exact call_tuple_of
theorem inT_ (P : Program) (w : World) (hu : X.A.units + 64 < cLine) (hP : X.prog = P := by rfl) (hw : X.w = w := by rfl) (hK : X.K = K := by rfl) : OpR X (compareOp .In) (rHuInT K P w) := by subst hK hP hw; exact hu_or_inT hu
theorem fld_ {f : Str} (he : PE X e ta) (hb : attributeBase e f X.env (eval e X.env) = eval e X.env := by rfl) (hK : X.K = K := by rfl) : PE X (.Attribute e f pos) (tFld K ta f) := by subst hK; exact pe_fld he hb
theorem cval_ {f : Str} (he : PE X e ta) (hb : attributeBase e f X.env (eval e X.env) = eval e X.env := by rfl) (hK : X.K = K := by rfl) : PE X (.Attribute e f pos) (ClX.tCVal K ta f) := by subst hK; exact ClX.pe_cval he hb
theorem pil_ {tg l : Expr} {tl : TE} (hl : PE X l tl) (hK : X.K = K := by rfl) : PI X tg l (iList K tl) := by subst hK; exact pi_list hl
theorem pit_ {tg l : Expr} {tl : TE} (hl : PE X l tl) (hK : X.K = K := by rfl) : PI X tg l (iTup K tl) := by subst hK; exact pi_tup hl
theorem star_ {te : TE} (he : PE X e te) (hr : PA X es t) (hK : X.K = K := by rfl) : PA X (.Starred e p :: es) (StX.tStar K te t) := by subst hK; exact StX.pa_star he hr
theorem revL_ {te : TE} {j : Nat} {p1 p2 p3 : Pos} (he : PE X e te) (hK : X.K = K := by rfl) : PE X (.Subscript e (.Slice none none (some (.UnaryOp .USub (.Constant (.int 1) j p1) p2)) p3) pos) (tRevL K te) := by subst hK; exact pe_revL he
def tTru (K : PySem.W.Frag) (ta : TE) : TT := fun σ H Q => ta σ H fun x H' => ∃ k, TruV K x H' k ∧ Q k H'
theorem truth_ (he : PE X e ta) (hh : ∀ whole, isTrue e X.env whole = (do let v ← whole; standAt e.pos; holding [v] (truthy v)) := by intro _; rfl) (hK : X.K = K := by rfl) : PT X e (tTru K ta) := by subst hK; exact pt_truth he hh
end
end
theorem b_len : bootBuiltins ("len" : Str) = some (.builtin "len") := by decide +kernel
theorem b_abs : bootBuiltins ("abs" : Str) = some (.builtin "abs") := by decide +kernel
theorem b_min : bootBuiltins ("min" : Str) = some (.builtin "min") := by decide +kernel
theorem b_max : bootBuiltins ("max" : Str) = some (.builtin "max") := by decide +kernel
theorem b_all : bootBuiltins ("all" : Str) = some (.builtin "all") := by decide +kernel
theorem b_any : bootBuiltins ("any" : Str) = some (.builtin "any") := by decide +kernel
theorem b_sum : bootBuiltins ("sum" : Str) = some (.builtin "sum") := by decide +kernel
theorem b_sorted : bootBuiltins ("sorted" : Str) = some (.builtin "sorted") := by decide +kernel
theorem b_isinstance : bootBuiltins ("isinstance" : Str) = some (.builtin "isinstance") := by decide +kernel
theorem b_int : bootBuiltins ("int" : Str) = some (.type "int") := by decide +kernel
theorem b_bool : bootBuiltins ("bool" : Str) = some (.type "bool") := by decide +kernel
theorem b_tuple : bootBuiltins ("tuple" : Str) = some (.type "tuple") := by decide +kernel
theorem b_list : bootBuiltins ("list" : Str) = some (.type "list") := by decide +kernel
theorem b_set : bootBuiltins ("set" : Str) = some (.type "set") := by decide +kernel
theorem b_range : bootBuiltins ("range" : Str) = some (.type "range") := by decide +kernel
theorem b_str : bootBuiltins ("str" : Str) = some (.type "str") := by decide +kernel
end L2

end
section
set_option maxRecDepth 100000
namespace Hue
open PySem PySem.Spec PyProof.Rows L2
/-! ### heaps -/
theorem same_new {H : Hp} {p : Addr} {o : HO} (h : H p = Option.none) : Same H (upd H p o) := fun b u e => by
  rw [upd_ne (ne_of_none e h)]; exact e
theorem same_upd {H0 H : Hp} {p : Addr} {o : HO} (s : Same H0 H) (h : H0 p = Option.none) : Same H0 (upd H p o) := fun b u e => by
  rw [upd_ne (ne_of_none e h)]; exact s b u e
theorem same_then {H0 H : Hp} {p : Addr} {o : HO} (s : Same H0 H) (h : H p = Option.none) : Same H0 (upd H p o) := s.trans (same_new h)
theorem Same.tup {K : PySem.W.Frag} {H H' : Hp} {a : Addr} {xs : List V} (e : Same H H') (h : SqT K H a xs) : SqT K H' a xs := by
  rcases h with (h | ⟨o, h⟩) | h
  · exact .inl (.inl (e _ _ h))
  · exact .inl (.inr ⟨o, e _ _ h⟩)
  · exact .inr h
theorem ifT {c : Bool} {A B : Prop} (hc : c = true) (h : A) : if c = true then A else B := by rw [if_pos hc]; exact h
theorem ifF {c : Bool} {A B : Prop} (hc : c = false) (h : B) : if c = true then A else B := by rw [hc, if_neg Bool.false_ne_true]; exact h
theorem yesT {σ : L2.St} {H : Hp} {X Y : Hp → Prop} (h : X H) : tYes σ H (fun b H3 => if b = true then X H3 else Y H3) := h
/-! ### lists of numbers -/
def nI (l : List Nat) : List Int := l.map fun k : Nat => (k : Int)
def nL (l : List Nat) : List V := (nI l).map V.int
theorem nL_get {l : List Nat} {i k : Nat} (h : l[i]? = some k) : (nL l)[i]? = some (V.int (k : Int)) := by
  unfold nL nI; simp [List.getElem?_map, h]
theorem nL_len (l : List Nat) : (nL l).length = l.length := by unfold nL nI; simp
theorem nI_len (l : List Nat) : (nI l).length = l.length := by unfold nI; simp
theorem mem_nI {l : List Nat} {z : Int} : z ∈ nI l ↔ ∃ k, k ∈ l ∧ (k : Int) = z := by unfold nI; simp
theorem nL_app (a b : List Nat) : nL (a ++ b) = nL a ++ nL b := by unfold nL nI; simp
theorem nL_one (k : Nat) : nL [k] = [V.int (k : Int)] := rfl
theorem asc_ext : ∀ {a b : List Int}, a.Pairwise (· < ·) → b.Pairwise (· < ·) → (∀ k, k ∈ a ↔ k ∈ b) → a = b
  | [], [], _, _, _ => rfl
  | [], y :: b, _, _, h => absurd ((h y).mpr List.mem_cons_self) List.not_mem_nil
  | x :: a, [], _, _, h => absurd ((h x).mp List.mem_cons_self) List.not_mem_nil
  | x :: a, y :: b, ha, hb, h => by
    rw [List.pairwise_cons] at ha hb
    have exy : x = y := by
      rcases List.mem_cons.mp ((h x).mp List.mem_cons_self) with e | e
      · exact e
      · rcases List.mem_cons.mp ((h y).mpr List.mem_cons_self) with f | f
        · exact f.symm
        · have h1 := hb.1 x e
          have h2 := ha.1 y f
          omega
    subst exy
    rw [asc_ext ha.2 hb.2 fun k => ⟨fun hk => ?_, fun hk => ?_⟩]
    · rcases List.mem_cons.mp ((h k).mp (List.mem_cons_of_mem _ hk)) with e | e
      · have := ha.1 k hk; omega
      · exact e
    · rcases List.mem_cons.mp ((h k).mpr (List.mem_cons_of_mem _ hk)) with e | e
      · have := hb.1 k hk; omega
      · exact e
/-! ### relations on lamps -/
abbrev Rel := Nat → Nat → Bool
def Bel (n : Nat) (R : Rel) (i : Nat) : List Nat := (List.range n).filter fun j => R i j
theorem mem_Bel {n : Nat} {R : Rel} {i j : Nat} : j ∈ Bel n R i ↔ j < n ∧ R i j = true := by unfold Bel; simp
theorem Bel_asc (n : Nat) (R : Rel) (i : Nat) : (nI (Bel n R i)).Pairwise (· < ·) := by
  unfold nI
  rw [List.pairwise_map]
  have h : (List.range n).Pairwise (· < ·) := List.pairwise_lt_range
  refine List.Pairwise.imp ?_ (List.Pairwise.filter _ h)
  intro a b hab; omega
theorem Bel_len (n : Nat) (R : Rel) (i : Nat) : (Bel n R i).length ≤ n := by
  unfold Bel
  refine Nat.le_trans (List.length_filter_le ..) ?_
  rw [List.length_range]; exact Nat.le_refl _
theorem Bel_congr {n : Nat} {R S : Rel} {i : Nat} (h : ∀ j, j < n → R i j = S i j) : Bel n R i = Bel n S i := by
  unfold Bel
  refine List.filter_congr fun j hj => ?_
  exact h j (List.mem_range.mp hj)
def addW (R : Rel) (u l : Nat) : Rel := fun i j => R i j || ((i == u || R i u) && (j == l || R l j))
/-- at b: a list of lists of numbers -/
def Rows (H : Hp) (b : Addr) (rows : List (List Nat)) : Prop :=
  ∃ as : List Addr, H b = some (.lst (as.map V.ref)) ∧ as.length = rows.length ∧ ∀ (i : Nat) a r, as[i]? = some a → rows[i]? = some r → H a = some (.lst (nL r))
theorem Rows.same {H H' : Hp} {b : Addr} {rows : List (List Nat)} (h : Rows H b rows) (s : Same H H') : Rows H' b rows := by
  obtain ⟨as, h1, h2, h3⟩ := h
  exact ⟨as, s _ _ h1, h2, fun i a r ha hr => s _ _ (h3 i a r ha hr)⟩
/-- the row at i, as Python reads it -/
theorem Rows.at {H : Hp} {b : Addr} {rows : List (List Nat)} (h : Rows H b rows) {i : Nat} {r : List Nat} (hr : rows[i]? = some r) : ∃ xs a, H b = some (.lst xs) ∧ xs.length = rows.length ∧ xs[i]? = some (V.ref a) ∧ H a = some (.lst (nL r)) := by
  obtain ⟨as, h1, h2, h3⟩ := h
  have hi : i < as.length := by rw [h2]; exact (List.getElem?_eq_some_iff.mp hr).1
  refine ⟨_, as[i], h1, by rw [List.length_map, h2], by rw [List.getElem?_map, List.getElem?_eq_getElem hi]; rfl, h3 i _ r (List.getElem?_eq_getElem hi) hr⟩
def relRows (n : Nat) (R : Rel) : List (List Nat) := (List.range n).map (Bel n R)
theorem relRows_at {n : Nat} {R : Rel} {i : Nat} (h : i < n) : (relRows n R)[i]? = some (Bel n R i) := by
  unfold relRows; rw [List.getElem?_map, List.getElem?_range h]; rfl
theorem relRows_len (n : Nat) (R : Rel) : (relRows n R).length = n := by unfold relRows; simp
theorem flat_nL (l : List Nat) : (nL l).all flatV = true := by
  unfold nL; rw [List.all_eq_true]; intro x hx
  obtain ⟨z, _, rfl⟩ := List.mem_map.mp hx
  rfl
theorem in_nL {k : Nat} {l : List Nat} : inV (V.int (k : Int)) (nL l) = decide (k ∈ l) := by
  unfold inV nL nI
  rw [Bool.eq_iff_iff, List.any_eq_true, decide_eq_true_eq]
  constructor
  · rintro ⟨x, hx, e⟩
    obtain ⟨z, hz, rfl⟩ := List.mem_map.mp hx
    obtain ⟨m, hm, rfl⟩ := List.mem_map.mp hz
    have e2 : ((m : Int) == (k : Int)) = true := e
    have e3 : (m : Int) = (k : Int) := by simpa using e2
    have e4 : m = k := by omega
    rw [← e4]; exact hm
  · intro hk
    refine ⟨V.int k, List.mem_map.mpr ⟨k, List.mem_map.mpr ⟨k, hk, rfl⟩, rfl⟩, ?_⟩
    show ((k : Int) == (k : Int)) = true
    simp
theorem Rows.ext {H : Hp} {b e : Addr} {rows : List (List Nat)} {φ : Heap → Prop} {o : HO} (h : Rows H b rows) (he : H e = some (.ext φ)) : Rows (upd H e o) b rows := by
  obtain ⟨as, h1, h2, h3⟩ := h
  refine ⟨as, ?_, h2, fun i a r ha hr => ?_⟩
  · rw [upd_ne (ne_of h1 he (by intro z; cases z))]; exact h1
  · rw [upd_ne (ne_of (h3 i a r ha hr) he (by intro z; cases z))]; exact h3 i a r ha hr
/-- the tuples at ts are the pairs ps -/
def Pairs (H : Hp) (ts : List Addr) (ps : List (Nat × Nat)) : Prop :=
  ts.length = ps.length ∧ ∀ (i : Nat) t p, ts[i]? = some t → ps[i]? = some p → H t = some (.tup [.int (p.1 : Int), .int (p.2 : Int)])
theorem Pairs.same {H H' : Hp} {ts : List Addr} {ps : List (Nat × Nat)} (h : Pairs H ts ps) (s : Same H H') : Pairs H' ts ps := ⟨h.1, fun i t p a b => s _ _ (h.2 i t p a b)⟩
def relOf (ps : List (Nat × Nat)) : Rel := ps.foldl (fun R p => addW R p.1 p.2) fun _ _ => false
theorem relOf_more {ps : List (Nat × Nat)} {i : Nat} {p : Nat × Nat} (h : ps[i]? = some p) : relOf (ps.take (i + 1)) = addW (relOf (ps.take i)) p.1 p.2 := by
  unfold relOf
  rw [List.take_add_one, h, List.foldl_append]
  rfl
/-- along a rank the relation goes up -/
theorem relOf_rank {ρ : Nat → Nat} : ∀ {ps : List (Nat × Nat)}, (∀ p ∈ ps, ρ p.1 < ρ p.2) → ∀ i j, relOf ps i j = true → ρ i < ρ j := by
  have key : ∀ (ps : List (Nat × Nat)) (R : Rel), (∀ i j, R i j = true → ρ i < ρ j) → (∀ p ∈ ps, ρ p.1 < ρ p.2) → ∀ i j, ps.foldl (fun R p => addW R p.1 p.2) R i j = true → ρ i < ρ j := by
    intro ps
    induction ps with
    | nil => intro R hR _; exact hR
    | cons p ps ih =>
      intro R hR hp
      refine ih (addW R p.1 p.2) (fun i j h => ?_) fun q hq => hp q (List.mem_cons_of_mem _ hq)
      have hp0 := hp p List.mem_cons_self
      unfold addW at h
      rw [Bool.or_eq_true, Bool.and_eq_true, Bool.or_eq_true, Bool.or_eq_true, beq_iff_eq, beq_iff_eq] at h
      rcases h with h | ⟨h1, h2⟩
      · exact hR i j h
      · have a1 : ρ i ≤ ρ p.1 := by
          rcases h1 with e | e
          · rw [e]; exact Nat.le_refl _
          · exact Nat.le_of_lt (hR _ _ e)
        have a2 : ρ p.2 ≤ ρ j := by
          rcases h2 with e | e
          · rw [e]; exact Nat.le_refl _
          · exact Nat.le_of_lt (hR _ _ e)
        omega
  intro ps hp i j h
  exact key ps _ (fun i j h => by cases h) hp i j h
theorem mem_take_of {α : Type} {l : List α} {n : Nat} {x : α} (h : x ∈ l.take n) : x ∈ l := List.mem_of_mem_take h
/-! ### lists that a comprehension collects -/
def Coll (H1 : Hp) (D : Addr) (f : Nat → List V) (i : Nat) (H2 : Hp) : Prop :=
  ∃ as : List Addr, H2 D = some (.lst (as.map V.ref)) ∧ as.length = i ∧ Same H1 H2 ∧ ∀ (j : Nat) a, as[j]? = some a → a ≠ D ∧ H2 a = some (.lst (f j))
theorem Coll.start {H1 : Hp} {D : Addr} {f : Nat → List V} (hD : H1 D = Option.none) : Coll H1 D f 0 (upd H1 D (.lst [])) := ⟨[], upd_same, rfl, same_new hD, fun j a e => by simp at e⟩
theorem Coll.more {H1 H2 H3 : Hp} {D a : Addr} {f : Nat → List V} {i : Nat} (c : Coll H1 D f i H2) (hD : H1 D = Option.none) (s : Same H2 H3) (na : a ≠ D) (ha : H3 a = some (.lst (f i))) (hi : i < 1000) :
    ∃ acc, H3 D = some (.lst acc) ∧ acc.length < sizeLine ∧ Coll H1 D f (i + 1) (upd H3 D (.lst (acc ++ [V.ref a]))) := by
  obtain ⟨as, h1, h2, s2, h3⟩ := c
  refine ⟨_, s _ _ h1, by rw [List.length_map, h2, sizeLine_eq]; omega, as ++ [a], by rw [upd_same, List.map_append]; rfl, by rw [List.length_append, h2]; rfl, same_upd (s2.trans s) hD, fun j c2 e => ?_⟩
  rcases Nat.lt_or_ge j as.length with lt | ge
  · rw [List.getElem?_append_left lt] at e
    obtain ⟨n1, n2⟩ := h3 j c2 e
    exact ⟨n1, by rw [upd_ne n1]; exact s _ _ n2⟩
  · rw [List.getElem?_append_right ge] at e
    have j0 : j - as.length = 0 := by
      rcases Nat.eq_zero_or_pos (j - as.length) with z | z
      · exact z
      · rw [List.getElem?_eq_none (by rw [List.length_singleton]; exact z)] at e; cases e
    rw [j0] at e
    cases e
    have ji : j = i := by omega
    rw [ji]
    exact ⟨na, by rw [upd_ne na]; exact ha⟩
theorem Coll.same {H1 H2 : Hp} {D : Addr} {f : Nat → List V} {i : Nat} (c : Coll H1 D f i H2) : Same H1 H2 := let ⟨_, _, _, s, _⟩ := c; s
theorem Coll.rows {H1 H2 : Hp} {D : Addr} {n : Nat} {R : Rel} (c : Coll H1 D (fun j => nL (Bel n R j)) n H2) : Rows H2 D (relRows n R) := by
  obtain ⟨as, h1, h2, _, h3⟩ := c
  refine ⟨as, h1, by rw [h2, relRows_len], fun i a r ha hr => ?_⟩
  have hi : i < n := by rw [← h2]; exact (List.getElem?_eq_some_iff.mp ha).1
  rw [relRows_at hi] at hr
  cases hr
  exact (h3 i a ha).2
/-! ### all but one place as it was -/
def SB (x : Addr) (H H' : Hp) : Prop := ∀ b o, b ≠ x → H b = some o → H' b = some o
theorem SB.of {x : Addr} {H H' : Hp} (s : Same H H') : SB x H H' := fun b o _ e => s b o e
theorem SB.trans {x : Addr} {H H1 H2 : Hp} (a : SB x H H1) (b : SB x H1 H2) : SB x H H2 := fun c o n e => b c o n (a c o n e)
theorem SB.refl (x : Addr) (H : Hp) : SB x H H := fun _ _ _ e => e
theorem SB.upd {x : Addr} {H H1 : Hp} {o : HO} (a : SB x H H1) : SB x H (upd H1 x o) := fun c u n e => by rw [upd_ne n]; exact a c u n e
theorem SB.rows {x b : Addr} {H H' : Hp} {rows : List (List Nat)} {C dx : Addr} {fs : List (Str × V)} (s : SB x H H') (hx : H x = some (.ins C dx fs)) (h : Rows H b rows) : Rows H' b rows := by
  obtain ⟨as, h1, h2, h3⟩ := h
  exact ⟨as, s _ _ (ne_of h1 hx (by intro z; cases z)) h1, h2, fun i a r ha hr => s _ _ (ne_of (h3 i a r ha hr) hx (by intro z; cases z)) (h3 i a r ha hr)⟩
theorem lk_same (f : Str) (v : V) (fs : List (Str × V)) : (putF f v fs).lookup f = some v := by rw [lookup_putF, if_pos rfl]
theorem lk_ne {f g : Str} (v : V) (fs : List (Str × V)) (h : ¬ g = f) : (putF f v fs).lookup g = fs.lookup g := by rw [lookup_putF, if_neg h]
theorem put_few {f : Str} {v : V} {fs : List (Str × V)} {k : Nat} (h : fs.length ≤ k) : (putF f v fs).length ≤ k + 1 := by
  have := length_putF f v fs; omega
/-! ### a def with defaults, all parameters given -/
structure FunV (K : PySem.W.Frag) (x qual : Str) (st : Stmt) (f : Addr) (fd : FuncData) : Prop where
  ex : ∃ (oc : Value) (od : Option Addr) (dV kV doc pm : Value) (an : Option Addr) (cdv ct : Value) (osl : Array (Option Value)),
    fd = PySem.W.fnOf x qual (defArgs st) (defBody st) (defScope st) dV kV doc pm an cdv ct ∧ K.lookup f = some ⟨oc, od, .func fd, osl⟩ ∧ PySem.W.codeIn K cdv qual = true
  kp : PySem.W.keepIn K (.ref f) = true
theorem FunV.ok {P : Program} {w : World} {K : PySem.W.Frag} {mg : Str → Option Value} {base : Heap} {x qual : Str} {st : Stmt} {f : Addr} {fd : FuncData} {N ps : List Str} {k : Nat} {sp : Sp} (F : FunV K x qual st f fd) (S : FnScope N ps (defScope st)) (len : ∀ vs H Q E, sp vs H Q E → vs.length = ps.length)
    (hbody : ∀ (cdv : Value) (A : Around) (outer : List Env) (s : Shared) (H : Hp) (vs : List V) (Q : VK) (E : XK), Room k (A.deeper (envOfC qual (defScope st) s.heap.objs.size f cdv)) → sp vs H Q E →
      ∃ t, PSs (cxOf CX0 P w K mg base N qual (defScope st) f cdv A outer s H E).nox (defBody st) t ∧ t { nx := fun _ H' => Q .non H', rt := Q } (start N vs) H) : FnOk P w K mg base CX0 (k + 1) f fd ps sp := by
  obtain ⟨oc, od, dV, kV, doc, pm, an, cdv, ct, osl, rfl, lk, hcd⟩ := F.ex
  refine fn_of lk hcd S len fun A outer s H vs Q E hr hsp => ?_
  obtain ⟨t, h, q⟩ := hbody cdv A outer s H vs Q E hr hsp
  exact ⟨t, h.nox, q⟩
/-- a store into a list by place -/
theorem set_at {H : Hp} {p : Addr} {xs : List V} {k : Int} {j : Nat} {v : V} {Q : Hp → Prop} (hp : H p = some (.lst xs)) (hk : ixN xs.length k = some j)
    (h : ∀ H', SB p H H' → H' p = some (.lst (xs.set j v)) → Q H') : rSetL (.ref p) (.int k) v H Q := ⟨p, xs, k, j, rfl, rfl, hp, hk, h _ (SB.upd (SB.refl p H)) upd_same⟩
theorem ixN_nat {n k : Nat} (h : k < n) : ixN n (k : Int) = some k := by
  unfold ixN
  rw [if_pos (by omega), if_pos (by omega), Int.toNat_natCast]
theorem SB.to_same {x : Addr} {H0 H H' : Hp} (s : SB x H H') (s0 : Same H0 H) (n : H0 x = Option.none) : Same H0 H' := fun b o e => s b o (fun z => by rw [z, n] at e; cases e) (s0 b o e)
end Hue

end
section
set_option maxRecDepth 100000
set_option maxHeartbeats 2000000
namespace L2
open PySem PySem.Spec PyProof.Rows
/-! ### enumerate(t), t a tuple -/
theorem eT_new {v : Value} {o : Obj} {G : Heap → Prop} (B : Begins v o G) :
    Meets (Builtin.«enumerate.__new__» ⟨[.type "enumerate", v], []⟩) (fun _ R s => G s.heap ∧
      R (.ok (.ret (.ref (s.heap.push o).objs.size))) { s with heap := (s.heap.push o).push { cls := .type "enumerate", data := .fields #[.none, .bool false, .ref s.heap.objs.size, rawInt 0, .none, .none] } }) :=
  .of_wp fun prog w A R s h => by
    obtain ⟨hp, g, d, tk, os⟩ := s
    obtain ⟨h1, h⟩ := h
    have hsub := sub_enumerate
    have q1 : ∀ {A' : Around} {E : Value → Shared → Prop} {Q : Value → Shared → Prop}, Q (.ref hp.objs.size) ⟨hp.push o, g, d, tk, os⟩ → wpAny (model prog w) A' (pyIter v) Q E ⟨hp, g, d, tk, os⟩ :=
      fun q => B.iter prog w _ _ ⟨hp, g, d, tk, os⟩ _ h1 q
    wp_walk using q1
    refine wpAny_stack_any fun st => wpAny_pure ?_
    split
    · rename_i c _ _ _ _ _
      cases (c == Value.type "enumerate")
      · wp_walk using q1
        exact ⟨_, rfl, h⟩
      · wp_walk using q1
        exact ⟨_, rfl, h⟩
    · wp_walk using q1
      exact ⟨_, rfl, h⟩
section
variable {prog : Program} {w : World} {A : Around} {E : Value → Shared → Prop} {s : Shared}
theorem eT_call {v : Value} {o : Obj} {G : Heap → Prop} {Q : Value → Shared → Prop} (B : Begins v o G) (h1 : G s.heap)
    (h : ∀ h', IsEnum h' (s.heap.objs.size + 1) s.heap.objs.size 0 .none → h'.get? s.heap.objs.size = some o → (∀ b o, s.heap.get? b = some o → h'.get? b = some o) → Q (.ref (s.heap.objs.size + 1)) { s with heap := h' }) :
    wpAny (model prog w) A (call (.type "enumerate") [v]) Q E s := by
  refine callType_new F.called_enumerate (by decide) (F.typeCall_enumerate_1 _) (F.newCall_enumerate_1 _) (fun obj => F.args_object_init_2 obj _) F.entry_enumerate_new (eT_new B) ⟨h1, ?_⟩
  have sz : (s.heap.push o).objs.size = s.heap.objs.size + 1 := Heap.size_push ..
  show _ ∧ _
  rw [sz]
  have new : IsEnum ((s.heap.push o).push { cls := .type "enumerate", data := .fields #[.none, .bool false, .ref s.heap.objs.size, rawInt 0, .none, .none] }) (s.heap.objs.size + 1) s.heap.objs.size 0 .none := by
    have z := Heap.get?_push_size (s.heap.push o) (o := { cls := .type "enumerate", data := .fields #[.none, .bool false, .ref s.heap.objs.size, rawInt 0, .none, .none] }) rfl
    rw [sz] at z
    exact z
  exact ⟨⟨_, new, rfl⟩, h _ new (Heap.get?_push_of_some _ (Heap.get?_push_size _ B.free)) fun b o x => Heap.get?_push_of_some _ (Heap.get?_push_of_some _ x)⟩
end
/-- the turns of enumerate(t), t the tuple at a -/
def IteT (K : PySem.W.Frag) (a : Addr) (n : Nat) : It :=
  ⟨fun i H => i < n ∧ ∃ (xs : List V) (x : V), SqT K H a xs ∧ xs[i]? = some x, fun i H v H' => ∃ T x, v = .ref T ∧ H T = none ∧ H' = upd H T (.tup [.int (i : Nat), x]) ∧ ∀ xs, SqT K H a xs → xs[i]? = some x, fun i H => n ≤ i ∧ ∃ xs : List V, SqT K H a xs ∧ xs.length = n⟩
theorem turn_enumT {P : Program} {w : World} {K : PySem.W.Frag} {elts : List Expr} {kk : Nat} {tpos : Pos} (a e it : Addr) (n : Nat) :
    Turn P w K (.Tuple elts kk tpos) (IteT K a n) [e, it] e (fun i h => i ≤ n ∧ (∃ old, IsEnum h e it ((i : Nat) : Int) old) ∧ h.IsTupleIter it a i ∧ e ≠ it ∧ a ≠ it) where
  mem := by simp
  obj := fun i h st b hb => by
    obtain ⟨_, ⟨old, he⟩, ⟨o, ho, hc, hd⟩, _⟩ := st
    rcases (show b = e ∨ b = it by simpa using hb) with z | z
    · rw [z]; exact ⟨_, he, fun v q => nomatch q⟩
    · rw [z]; exact ⟨o, ho, fun v q => by rw [hd] at q; cases q⟩
  keep := fun i h h' st k => by
    obtain ⟨le, ⟨old, he⟩, ⟨o, ho, r⟩, n1, n2⟩ := st
    exact ⟨le, ⟨old, k e (by simp) _ he⟩, ⟨o, k it (by simp) o ho, r⟩, n1, n2⟩
  item := by
    intro X hP hw hK hc i pins s σ H E I hf st hg
    subst hP hw hK
    obtain ⟨le, ⟨old, he⟩, hit, hne, nai⟩ := st
    obtain ⟨ltn, xs, x, hq, hx⟩ := hg
    obtain ⟨its, rv, p, hz⟩ := I.tuple hq
    obtain ⟨u, hu, ru⟩ := rv.get hx
    have hel : e < s.heap.objs.size := Heap.lt_size he
    have hil : it < s.heap.objs.size := by obtain ⟨_, q, _⟩ := hit; exact Heap.lt_size q
    have nea : e ≠ a := fun z => by
      obtain ⟨o, ho, hcl, _⟩ := p
      have he2 := he
      rw [z] at he2
      have q := ho.symm.trans he2
      cases q
      exact absurd (Value.type.inj hcl) (by decide)
    have iu : i < its.toArray.size := by
      have z := (List.getElem?_eq_some_iff.mp hu).1
      simpa using z
    refine wpAny_pyNext_enum_itemD (Draws.tuple (A := X.A.in1) (I.ok.hd hc) it a nai its.toArray) he ⟨hit, p⟩ iu hne (by simp [hne, nea]) fun v h' tk hv ho st' hT hsz hk => ?_
    have ev : v = u := by
      have hv' : its.toArray[i]? = some v := hv
      have hu' : its.toArray[i]? = some u := by simpa using hu
      rw [hu'] at hv'
      exact (Option.some.inj hv').symm
    subst ev
    refine ⟨_, rfl, wpAny_letOwnedTupleGo_enum (s := { s with heap := h', toks := tk + 1 }) ho fun h'' he' sb => ?_⟩
    have hT2 : h''.get? s.heap.objs.size = some { cls := .type "tuple", data := .seq #[.int i tk, v] } := (sb.2 _ (Nat.ne_of_gt hel)).trans hT
    have new : ObjOk X.prog X.w (upd H s.heap.objs.size (.tup [.int (i : Nat), x])) h'' s.heap.objs.size (.tup [.int (i : Nat), x]) :=
      ⟨by show 2 ≤ sizeLine; decide, [.int i tk, v], .cons ⟨_, rfl⟩ (.cons ru .nil), ⟨_, hT2, rfl, _, rfl⟩⟩
    have I1 : Inv X pins σ (upd H s.heap.objs.size (.tup [.int (i : Nat), x])) { s with heap := h'', toks := tk + 1 } :=
      I.turnedNew (ch := [e, it]) (fun b ob hb q => (sb.2 b (fun z => hb (by simp [z]))).trans (hk b ob (fun z => hb (by simp [z])) (fun z => hb (by simp [z])) q)) hf (Nat.le_refl _) new
    refine ⟨.ref s.heap.objs.size, _, I1, rfl, ⟨_, x, rfl, I.hok.fresh (Nat.le_refl _), rfl, fun ys hy => by rw [I.tuple_inj hy hq]; exact hx⟩, ⟨ltn, ⟨v, ?_⟩, ?_, hne, nai⟩, fun b hb => ?_⟩
    · have e1 : ((i + 1 : Nat) : Int) = (i : Int) + 1 := by omega
      rw [e1]; exact he'
    · obtain ⟨o, ho2, r⟩ := st'.1
      exact ⟨o, (sb.2 it (Ne.symm hne)).trans ho2, r⟩
    · have lt : b < s.heap.objs.size := by
        rcases (show b = e ∨ b = it by simpa using hb) with z | z
        · rw [z]; exact hel
        · rw [z]; exact hil
      rw [upd_ne (Nat.ne_of_lt lt)]
      exact (hf b hb).1
  done := by
    intro X hP hw hK hc i pins s σ H E I hf st hg
    subst hP hw hK
    obtain ⟨le, ⟨old, he⟩, hit, hne, nai⟩ := st
    obtain ⟨gen, xs, hq, hx⟩ := hg
    obtain ⟨its, rv, p, hz⟩ := I.tuple hq
    obtain ⟨f0, f1, f2, f3, f4, f5⟩ := hf it (by simp)
    have ei : i = its.toArray.size := by
      rw [List.size_toArray, ← rv.length]
      omega
    rw [ei] at hit
    exact wpAny_pyNext_enum_endD (Draws.tuple (A := X.A.in1) (I.ok.hd hc) it a nai its.toArray) he ⟨hit, p⟩ fun h' eb => ⟨rfl, I.turned (t' := s.toks) (fun b o hb q => eb b o hb q) f0 f1 f3 f4 f5⟩
  self := fun A i s Q E st h => let ⟨_, ⟨_, he⟩, _⟩ := st; wpAny_pyIter_enum he h
/-- enumerate(x), x a list or a tuple -/
def iEnumA (K : PySem.W.Frag) (ta : TA) : TI := fun σ H R => ta σ H fun vs H1 => ∃ a xs, vs = [.ref a] ∧ ((SqL K H1 a xs ∧ R (Ite K a) H1) ∨ (SqT K H1 a xs ∧ R (IteT K a xs.length) H1))
theorem pi_enumA {X : Cx} {e : Expr} {ta : TA} {p pos tpos : Pos} {elts : List Expr} {kk : Nat} (hg : Gl X "enumerate") (hm : X.mg "enumerate" = none) (ha : PA X [e] ta) (hs : starEach [e] X.env = [(false, eval e X.env)] := by rfl) :
    PI X (.Tuple elts kk tpos) (.Call (.Name "enumerate" p) [e] [] pos) (iEnumA X.K ta) := by
  refine ⟨fun pins s σ H R I h => ?_⟩
  refine Call_ (ld_blt I hg hm boot_enumerate (PyProof.Rows.callWith_type1 (thn (ha.run pos pins s σ H _ I h) fun us s1 ⟨vs, H1, I1, r1, q1⟩ => ?_) hs rfl))
  obtain ⟨a, xs, ex, q⟩ := q1
  subst ex
  cases r1 with
  | cons r rr =>
    cases rr
    cases r
    have fp : ∀ b ∈ [s1.heap.objs.size + 1, s1.heap.objs.size], s1.heap.objs.size ≤ b := fun b hb => by
      rcases (show b = s1.heap.objs.size + 1 ∨ b = s1.heap.objs.size by simpa using hb) with z | z
      · rw [z]; exact Nat.le_succ _
      · rw [z]; exact Nat.le_refl _
    rcases q with ⟨hq, q⟩ | ⟨hq, q⟩
    · obtain ⟨its, rv, p', hz⟩ := I1.list hq
      refine eT_call (begins_list a its.toArray) p'.isList fun h' he hit hk => wpAny_pyIter_enum he ?_
      exact ⟨_, _, _, _, H1, rfl, I1.kept (t' := s1.toks) hk, turn_enum a (s1.heap.objs.size + 1) s1.heap.objs.size, ⟨⟨.none, he⟩, ⟨_, hit, rfl, rfl⟩, Nat.succ_ne_self _⟩, fun b hb => I1.fpOk (fp b hb) (I1.hok.fresh (fp b hb)), q⟩
    · obtain ⟨its, rv, p', hz⟩ := I1.tuple hq
      have lt : a < s1.heap.objs.size := let ⟨_, ho, _⟩ := p'; Heap.lt_size ho
      refine eT_call (begins_tuple a its.toArray) p' fun h' he hit hk => wpAny_pyIter_enum he ?_
      exact ⟨_, _, _, _, H1, rfl, I1.kept (t' := s1.toks) hk, turn_enumT a (s1.heap.objs.size + 1) s1.heap.objs.size xs.length, ⟨Nat.zero_le _, ⟨.none, he⟩, ⟨_, hit, rfl, rfl⟩, Nat.succ_ne_self _, Nat.ne_of_lt lt⟩, fun b hb => I1.fpOk (fp b hb) (I1.hok.fresh (fp b hb)), q⟩
theorem walk_enumT {K : PySem.W.Frag} {a : Addr} {xs : List V} : Walk (IteT K a xs.length) xs.length (fun H => SqT K H a xs) (YPair (fun i => some (.int (i : Nat))) (fun i => xs[i]?)) := by
  refine ⟨fun i _ hi q => ⟨hi, xs, xs[i], q, by simp [hi]⟩, fun _ q => ⟨Nat.le_refl _, xs, q, rfl⟩, fun i H v H' _ q y => ?_⟩
  obtain ⟨T, x, h1, h2, h3, h4⟩ := y
  exact ⟨T, .int (i : Nat), x, h1, h2, h3, rfl, h4 xs q⟩
end L2

end
section
set_option maxRecDepth 100000
set_option maxHeartbeats 2000000
namespace Srt
open PySem PySem.W PySem.Calls PyProof.Rows
section
variable {prog : Program} {w : World} {A : Around} {E : Value → Shared → Prop} {s : Shared}
/-- sorted(x), x a list or a tuple of pairs of ints -/
theorem hu_sorted_seq {l : Addr} {T : String} {o : Obj} {items : Array Value} {n : Nat} {Q : Value → Shared → Prop} (hT : T = "list" ∨ T = "tuple") (ho : s.heap.get? l = some o) (hc : o.cls = .type T) (hd : o.data = .seq items n) (hz : items.size ≤ sizeLine)
    (hp : ∀ v ∈ items.toList, ∃ x y, IsPair s.heap v x y)
    (h : ∀ (h1 h' : Heap) (d : Addr) (out : List Value), out.Perm items.toList → (∀ b o, s.heap.get? b = some o → h1.get? b = some o) → (∀ b o, h1.get? b = some o → h'.get? b = some o) → h1.objs.size ≤ d → (∃ n, h'.get? d = some (seqObj "list" out.toArray n)) → Q (.ref d) { s with heap := h' }) :
    wpAny (model prog w) A (call (.builtin "sorted") [.ref l]) Q E s := by
  have hz' : items.toList.length ≤ sizeLine := hz
  refine Calls.call_function_entry kind_sorted plain_sorted entry_sorted (args_sorted1 _) ?_
  unfold Builtin.«sorted»
  refine wpAny_bind (m := checkCount "sorted" 1 1 _) (wpAny_pure ?_)
  refine wpAny_bind (wpAny_collect_seq l hT ho hc hd (fun h1 k1 => ?_) hz)
  refine wpAny_bind (wpAny_newList ?_ hz')
  have hoL : (h1.push (seqObj "list" items.toList.toArray 0)).get? h1.objs.size = some (seqObj "list" items.toList.toArray 0) := Heap.get?_push_size _ rfl
  have keep : ∀ b o, h1.get? b = some o → b < h1.objs.size ∧ (h1.push (seqObj "list" items.toList.toArray 0)).get? b = some o := fun b o e => ⟨Heap.lt_size e, Heap.get?_push_of_some _ e⟩
  refine wpAny_bind (wpAny_holding (wpAny_call_entry slot_list_sort ⟨_, hoL, rfl⟩ entry_list_sort (list_sort_any (s := { s with heap := h1.push (seqObj "list" items.toList.toArray 0) }) hoL hz' (fun h2 => ?_) fun out pm => ⟨_, rfl, ?_⟩) (args_list_sort _)))
  · refine pairs_sortable (s := { s with heap := h1.push (seqObj "list" items.toList.toArray 0) }) (by omega) (fun v hm => ?_) fun o e => ?_
    · obtain ⟨x, y, p⟩ := hp v hm
      exact ⟨x, y, p.keeps fun b o e _ => (keep b o (k1 b o e)).2⟩
    · have e' : some o = some (seqObj "list" items.toList.toArray 0) := e.symm.trans hoL
      cases e'
      intro c
      exact absurd (Value.type.inj c) (by decide)
  · refine wpAny_pure ⟨_, rfl, h h1 _ h1.objs.size out pm k1 (fun b o e => ?_) (Nat.le_refl _) (sortedHeap_at hoL)⟩
    obtain ⟨lt, e2⟩ := keep b o e
    rw [sortedHeap_old (Nat.ne_of_lt lt) (by rw [size_push']; exact Nat.lt_succ_of_lt lt)]
    exact e2
end
end Srt

namespace L2
open PySem PySem.Spec PyProof.Rows
section
variable {X : Cx}
/-- sorted(x), x a list or a tuple of pairs of ints -/
def rSortPA (K : PySem.W.Frag) : List V → Hp → VK → Prop := fun vs H Q => ∃ a xs, vs = [V.ref a] ∧ (SqL K H a xs ∨ SqT K H a xs) ∧ (∀ x ∈ xs, ∃ t i j, x = V.ref t ∧ H t = some (.tup [.int i, .int j])) ∧ ∀ ys p, ys.Perm xs → H p = none → Q (.ref p) (upd H p (.lst ys))
theorem cr_sortPA : CallR X (.builtin "sorted") (rSortPA X.K) := by
  intro pins s σ H vs us Q I r h
  obtain ⟨a, xs, rfl, hs, hx, q⟩ := h
  obtain ⟨T, its, o, n, hT, rv, ho, hc, hd, hz⟩ : ∃ (T : String) (its : List Value) (o : Obj) (n : Nat), (T = "list" ∨ T = "tuple") ∧ Vals xs its ∧ s.heap.get? a = some o ∧ o.cls = .type T ∧ o.data = .seq its.toArray n ∧ xs.length ≤ sizeLine := by
    rcases hs with hs | hs
    · obtain ⟨its, rv, hl, hz⟩ := I.list hs
      obtain ⟨o, ho, hc, n, hd⟩ := hl.isList
      exact ⟨"list", its, o, n, .inl rfl, rv, ho, hc, hd, hz⟩
    · obtain ⟨its, rv, ⟨o, ho, hc, n, hd⟩, hz⟩ := I.tuple hs
      exact ⟨"tuple", its, o, n, .inr rfl, rv, ho, hc, hd, hz⟩
  obtain ⟨u, rfl, ru⟩ := vals1 r
  obtain rfl : u = Value.ref a := ru
  obtain ⟨e1, e2⟩ := bkV_refs rv fun x m => by
    obtain ⟨t, _, _, e, _⟩ := hx x m
    exact ⟨t, e⟩
  refine Srt.hu_sorted_seq hT ho hc hd (by rw [List.size_toArray, ← rv.length]; exact hz) (fun v hv => ?_) fun h1 h' d out hp k1 k2 hd' hn => ?_
  · obtain ⟨t, rfl⟩ := e2 v hv
    have hm : V.ref t ∈ xs := by rw [e1]; exact List.mem_map.mpr ⟨_, hv, rfl⟩
    obtain ⟨t', i, j, e, ht⟩ := hx _ hm
    cases e
    obtain ⟨_, its2, r2, o2, ho2, hc2, n2, hd2⟩ := I.hok _ _ ht
    obtain ⟨u1, u2, rfl, ri, rj⟩ := vals2 r2
    obtain ⟨t1, rfl⟩ := ri
    obtain ⟨t2, rfl⟩ := rj
    exact ⟨i, j, t, o2, t1, t2, n2, rfl, ho2, hc2, hd2⟩
  · have h3 : ∀ u ∈ out, ∃ a, u = Value.ref a := fun u hu => e2 u (hp.mem_iff.mp hu)
    obtain ⟨n, hn⟩ := hn
    have I1 : Inv X pins σ H { s with heap := h1 } := I.kept (t' := s.toks) k1
    refine ⟨.ref d, upd H d (.lst (out.map bkV)), I1.laid (t' := s.toks) k2 hd' ⟨?_, out, n, bkV_vals h3, hn⟩, rfl, q _ d ?_ (I1.hok.fresh hd')⟩
    · rw [List.length_map, hp.length_eq]
      show its.length ≤ sizeLine
      rw [← rv.length]; exact hz
    · rw [e1]
      exact hp.map bkV
end
end L2

end
section
set_option maxRecDepth 100000
set_option maxHeartbeats 2000000
namespace Srt
open PySem PySem.W PySem.Calls PyProof.Rows
section
variable {prog : Program} {w : World} {A : Around} {E : Value → Shared → Prop} {s : Shared}
/-- sorted(x), x a list or a tuple of pairs of ints: in order -/
theorem hu_sorted_ord {l : Addr} {T : String} {o : Obj} {items : Array Value} {n : Nat} {Q : Value → Shared → Prop} {k : Value → Int × Int} (hT : T = "list" ∨ T = "tuple") (ho : s.heap.get? l = some o) (hc : o.cls = .type T) (hd : o.data = .seq items n) (hz : items.size ≤ sizeLine)
    (hp : ∀ v ∈ items.toList, IsPair s.heap v (k v).1 (k v).2)
    (h : ∀ (h1 h' : Heap) (d : Addr) (out : List Value), out.Perm items.toList → SrtO.Srtd (fun v u => SrtO.lexB (k v) (k u)) out → (∀ b o, s.heap.get? b = some o → h1.get? b = some o) → (∀ b o, h1.get? b = some o → h'.get? b = some o) → h1.objs.size ≤ d → (∃ n, h'.get? d = some (seqObj "list" out.toArray n)) → Q (.ref d) { s with heap := h' }) :
    wpAny (model prog w) A (call (.builtin "sorted") [.ref l]) Q E s := by
  have hz' : items.toList.length ≤ sizeLine := hz
  refine Calls.call_function_entry kind_sorted plain_sorted entry_sorted (args_sorted1 _) ?_
  unfold Builtin.«sorted»
  refine wpAny_bind (m := checkCount "sorted" 1 1 _) (wpAny_pure ?_)
  refine wpAny_bind (wpAny_collect_seq l hT ho hc hd (fun h1 k1 => ?_) hz)
  refine wpAny_bind (wpAny_newList ?_ hz')
  have hoL : (h1.push (seqObj "list" items.toList.toArray 0)).get? h1.objs.size = some (seqObj "list" items.toList.toArray 0) := Heap.get?_push_size _ rfl
  have keep : ∀ b o, h1.get? b = some o → b < h1.objs.size ∧ (h1.push (seqObj "list" items.toList.toArray 0)).get? b = some o := fun b o e => ⟨Heap.lt_size e, Heap.get?_push_of_some _ e⟩
  refine wpAny_bind (wpAny_holding (wpAny_call_entry slot_list_sort ⟨_, hoL, rfl⟩ entry_list_sort (SrtO.list_sort_ord (s := { s with heap := h1.push (seqObj "list" items.toList.toArray 0) }) (SrtO.swo_lex k) hoL hz' (fun h2 => ?_) fun out so pm => ⟨_, rfl, ?_⟩) (args_list_sort _)))
  · refine SrtO.pairs_sortableO (s := { s with heap := h1.push (seqObj "list" items.toList.toArray 0) }) (by omega) (fun v hm => ?_) fun o e => ?_
    · exact (hp v hm).keeps fun b o e _ => (keep b o (k1 b o e)).2
    · have e' : some o = some (seqObj "list" items.toList.toArray 0) := e.symm.trans hoL
      cases e'
      intro c
      exact absurd (Value.type.inj c) (by decide)
  · refine wpAny_pure ⟨_, rfl, h h1 _ h1.objs.size out pm.perm so k1 (fun b o e => ?_) (Nat.le_refl _) (sortedHeap_at hoL)⟩
    obtain ⟨lt, e2⟩ := keep b o e
    rw [sortedHeap_old (Nat.ne_of_lt lt) (by rw [size_push']; exact Nat.lt_succ_of_lt lt)]
    exact e2
end
end Srt

namespace L2
open PySem PySem.Spec PyProof.Rows
section
variable {X : Cx}
/-- sorted(x), x a list or a tuple of pairs of ints: in order -/
def rSortPS (K : PySem.W.Frag) : List V → Hp → VK → Prop := fun vs H Q => ∃ (a : Addr) (xs : List V) (k : V → Int × Int), vs = [V.ref a] ∧ (SqL K H a xs ∨ SqT K H a xs) ∧ (∀ x ∈ xs, ∃ t, x = V.ref t ∧ H t = some (.tup [.int (k x).1, .int (k x).2])) ∧
  ∀ ys p, ys.Perm xs → (ys.Pairwise fun x y => ¬ ((k y).1 < (k x).1 ∨ ((k y).1 = (k x).1 ∧ (k y).2 < (k x).2))) → H p = none → Q (.ref p) (upd H p (.lst ys))
theorem cr_sortPS : CallR X (.builtin "sorted") (rSortPS X.K) := by
  intro pins s σ H vs us Q I r h
  obtain ⟨a, xs, k, rfl, hs, hx, q⟩ := h
  obtain ⟨T, its, o, n, hT, rv, ho, hc, hd, hz⟩ : ∃ (T : String) (its : List Value) (o : Obj) (n : Nat), (T = "list" ∨ T = "tuple") ∧ Vals xs its ∧ s.heap.get? a = some o ∧ o.cls = .type T ∧ o.data = .seq its.toArray n ∧ xs.length ≤ sizeLine := by
    rcases hs with hs | hs
    · obtain ⟨its, rv, hl, hz⟩ := I.list hs
      obtain ⟨o, ho, hc, n, hd⟩ := hl.isList
      exact ⟨"list", its, o, n, .inl rfl, rv, ho, hc, hd, hz⟩
    · obtain ⟨its, rv, ⟨o, ho, hc, n, hd⟩, hz⟩ := I.tuple hs
      exact ⟨"tuple", its, o, n, .inr rfl, rv, ho, hc, hd, hz⟩
  obtain ⟨u, rfl, ru⟩ := vals1 r
  obtain rfl : u = Value.ref a := ru
  obtain ⟨e1, e2⟩ := bkV_refs rv fun x m => by
    obtain ⟨t, e, _⟩ := hx x m
    exact ⟨t, e⟩
  refine Srt.hu_sorted_ord (k := fun u => k (bkV u)) hT ho hc hd (by rw [List.size_toArray, ← rv.length]; exact hz) (fun v hv => ?_) fun h1 h' d out hp so k1 k2 hd' hn => ?_
  · obtain ⟨t, rfl⟩ := e2 v hv
    have hm : V.ref t ∈ xs := by rw [e1]; exact List.mem_map.mpr ⟨_, hv, rfl⟩
    obtain ⟨t', e, ht⟩ := hx _ hm
    cases e
    obtain ⟨_, its2, r2, o2, ho2, hc2, n2, hd2⟩ := I.hok _ _ ht
    obtain ⟨u1, u2, rfl, ri, rj⟩ := vals2 r2
    obtain ⟨t1, rfl⟩ := ri
    obtain ⟨t2, rfl⟩ := rj
    exact ⟨t, o2, t1, t2, n2, rfl, ho2, hc2, hd2⟩
  · have h3 : ∀ u ∈ out, ∃ a, u = Value.ref a := fun u hu => e2 u (hp.mem_iff.mp hu)
    obtain ⟨n, hn⟩ := hn
    have I1 : Inv X pins σ H { s with heap := h1 } := I.kept (t' := s.toks) k1
    refine ⟨.ref d, upd H d (.lst (out.map bkV)), I1.laid (t' := s.toks) k2 hd' ⟨?_, out, n, bkV_vals h3, hn⟩, rfl, q _ d ?_ ?_ (I1.hok.fresh hd')⟩
    · rw [List.length_map, hp.length_eq]
      show its.length ≤ sizeLine
      rw [← rv.length]; exact hz
    · rw [e1]
      exact hp.map bkV
    · rw [List.pairwise_map]
      exact so.imp fun z => SrtO.lexB_no.mp z
theorem sortPS_ (K : PySem.W.Frag) (hK : X.K = K := by rfl) : CallR X (.builtin "sorted") (rSortPS K) := by subst hK; exact cr_sortPS
/-! ### is, of two bools -/
theorem op_isB : OpR X (compareOp .Is) (fun x y H Q => ∃ b c : Bool, x = .bl b ∧ y = .bl c ∧ Q (.bl (decide (b = c))) H) := by
  intro pins s σ H x y v u Q I rx ry h
  obtain ⟨b, c, rfl, rfl, q⟩ := h
  cases rx
  cases ry
  show wpAny _ _ ((isSame (Value.bool b) (Value.bool c)) >>= fun z => pure (Value.bool z)) _ _ s
  exact wpAny_bind (wpAny_isSame_plain (by cases b <;> cases c <;> rfl) (wpAny_pure (fin_bl I q (by cases b <;> cases c <;> rfl))))
theorem op_notB : OpR X (compareOp .IsNot) (fun x y H Q => ∃ b c : Bool, x = .bl b ∧ y = .bl c ∧ Q (.bl (!decide (b = c))) H) := by
  intro pins s σ H x y v u Q I rx ry h
  obtain ⟨b, c, rfl, rfl, q⟩ := h
  cases rx
  cases ry
  show wpAny _ _ ((isSame (Value.bool b) (Value.bool c)) >>= fun z => pure (Value.bool (!z))) _ _ s
  exact wpAny_bind (wpAny_isSame_plain (by cases b <;> cases c <;> rfl) (wpAny_pure (fin_bl I q (by cases b <;> cases c <;> rfl))))
end
end L2

end
section
set_option maxRecDepth 100000
namespace L2
open PySem PySem.Spec PyProof.Rows
/-! ### a list or a tuple -/
def SqA (K : PySem.W.Frag) (H : Hp) (a : Addr) (xs : List V) : Prop := SqL K H a xs ∨ SqT K H a xs
section
variable {X : Cx} {K : PySem.W.Frag}
/-- all of H0 stands in H -/
def Same0 (H0 H : Hp) : Prop := ∀ b o, H0 b = some o → H b = some o
theorem Same0.sqL {H H' : Hp} {a : Addr} {xs : List V} (e : Same0 H H') (h : SqL K H a xs) : SqL K H' a xs := by
  rcases h with (h | ⟨o, h⟩) | h
  · exact .inl (.inl (e _ _ h))
  · exact .inl (.inr ⟨o, e _ _ h⟩)
  · exact .inr h
theorem Same0.sqT {H H' : Hp} {a : Addr} {xs : List V} (e : Same0 H H') (h : SqT K H a xs) : SqT K H' a xs := by
  rcases h with (h | ⟨o, h⟩) | h
  · exact .inl (.inl (e _ _ h))
  · exact .inl (.inr ⟨o, e _ _ h⟩)
  · exact .inr h
theorem SqA.same {H H' : Hp} {a : Addr} {xs : List V} (h : SqA K H a xs) (e : Same0 H H') : SqA K H' a xs := h.imp (Same0.sqL e) (Same0.sqT e)
/-- also where an instance changes -/
theorem SqA.sb {H H' : Hp} {a x C dx : Addr} {fs : List (Str × V)} {xs : List V} (h : SqA K H a xs) (hx : H x = some (.ins C dx fs)) (s : ∀ b o, b ≠ x → H b = some o → H' b = some o) : SqA K H' a xs := by
  rcases h with ((h | ⟨o, h⟩) | h) | ((h | ⟨o, h⟩) | h)
  · exact .inl (.inl (.inl (s _ _ (ne_of h hx (by intro z; cases z)) h)))
  · exact .inl (.inl (.inr ⟨o, s _ _ (ne_of h hx (by intro z; cases z)) h⟩))
  · exact .inl (.inr h)
  · exact .inr (.inl (.inl (s _ _ (ne_of h hx (by intro z; cases z)) h)))
  · exact .inr (.inl (.inr ⟨o, s _ _ (ne_of h hx (by intro z; cases z)) h⟩))
  · exact .inr (.inr h)
theorem piA_ (K : PySem.W.Frag) {e : Expr} {ta : TA} {p pos tpos : Pos} {elts : List Expr} {kk : Nat} (hg : Gl X "enumerate") (hm : X.mg "enumerate" = none) (ha : PA X [e] ta) (hs : starEach [e] X.env = [(false, eval e X.env)] := by rfl) (hK : X.K = K := by rfl) :
    PI X (.Tuple elts kk tpos) (.Call (.Name "enumerate" p) [e] [] pos) (iEnumA K ta) := by subst hK; exact pi_enumA hg hm ha hs
theorem sortPA_ (K : PySem.W.Frag) (hK : X.K = K := by rfl) : CallR X (.builtin "sorted") (rSortPA K) := by subst hK; exact cr_sortPA
/-- for i, x in enumerate(a list or a tuple) -/
theorem for_enumA {a : Addr} {xs : List V} {g : TG} {tb : TS} {D : Ends} {σ : L2.St} {H H0 : Hp} (sa : SqA K H0 a xs) (s0 : Same0 H0 H) (Pv : Nat → L2.St → Hp → Prop) (h0 : Pv 0 σ H) (keep : ∀ i σ H, i ≤ xs.length → Pv i σ H → Same0 H0 H)
    (hs : ∀ i x σ H H', i < xs.length → Pv i σ H → YPair (fun i => some (.int (i : Nat))) (fun i => xs[i]?) i H x H' → g x σ H' fun σ2 H2 => tb { D with nx := Pv (i + 1), ct := Pv (i + 1), bk := D.nx } σ2 H2) (hd : ∀ σ H, Pv xs.length σ H → D.nx σ H) :
    (SqL K H a xs ∧ ∃ W : Nat → Nat → L2.St → Hp → Prop, (∃ m, W 0 m σ H) ∧ ∀ i m σ H, W i m σ H →
      ((Ite K a).stop i H ∧ D.nx σ H) ∨ ((Ite K a).go i H ∧ ∃ N : L2.St → Hp → Prop, (∀ σ' H', N σ' H' → ∃ m', m' < m ∧ W (i + 1) m' σ' H') ∧ ∀ x H', (Ite K a).yld i H x H' → g x σ H' fun σ2 H2 => tb { D with nx := N, ct := N, bk := D.nx } σ2 H2)) ∨
    (SqT K H a xs ∧ ∃ W : Nat → Nat → L2.St → Hp → Prop, (∃ m, W 0 m σ H) ∧ ∀ i m σ H, W i m σ H →
      ((IteT K a xs.length).stop i H ∧ D.nx σ H) ∨ ((IteT K a xs.length).go i H ∧ ∃ N : L2.St → Hp → Prop, (∀ σ' H', N σ' H' → ∃ m', m' < m ∧ W (i + 1) m' σ' H') ∧ ∀ x H', (IteT K a xs.length).yld i H x H' → g x σ H' fun σ2 H2 => tb { D with nx := N, ct := N, bk := D.nx } σ2 H2)) := by
  rcases sa with sl | st
  · exact .inl ⟨Same0.sqL s0 sl, for_it walk_enum Pv h0 (fun i σ H hi p => Same0.sqL (keep i σ H hi p) sl) hs hd⟩
  · exact .inr ⟨Same0.sqT s0 st, for_it walk_enumT Pv h0 (fun i σ H hi p => Same0.sqT (keep i σ H hi p) st) hs hd⟩
end
end L2

end
section
set_option maxRecDepth 100000
namespace Hue
open PySem PySem.Spec PyProof.Rows L2
/-! ### the order list -/
def flip (R : Rel) : Rel := fun i j => R j i
/-- k is the next in turn -/
def nxt (n : Nat) (R : Rel) (ord : List Nat) (k : Nat) : Bool := !decide (k ∈ ord) && (Bel n (flip R) k).all fun j => decide (j ∈ ord)
def cands (n : Nat) (R : Rel) (ord : List Nat) : List Nat := (List.range n).filter (nxt n R ord)
def ordN (n : Nat) (R : Rel) : Nat → List Nat
  | 0 => []
  | k + 1 => ordN n R k ++ (cands n R (ordN n R k)).take 1
def Ranked (R : Rel) : Prop := ∃ ρ : Nat → Nat, ∀ i j, R i j = true → ρ i < ρ j
theorem nxt_iff {n : Nat} {R : Rel} {ord : List Nat} {k : Nat} : nxt n R ord k = true ↔ k ∉ ord ∧ ∀ j, j < n → R j k = true → j ∈ ord := by
  unfold nxt
  rw [Bool.and_eq_true, Bool.not_eq_true', decide_eq_false_iff_not, List.all_eq_true]
  constructor
  · rintro ⟨h1, h2⟩
    exact ⟨h1, fun j hj hr => of_decide_eq_true (h2 j (mem_Bel.mpr ⟨hj, hr⟩))⟩
  · rintro ⟨h1, h2⟩
    exact ⟨h1, fun j hj => decide_eq_true (h2 j (mem_Bel.mp hj).1 (mem_Bel.mp hj).2)⟩
theorem cands_ne {n : Nat} {R : Rel} (hR : Ranked R) {ord : List Nat} (hl : ord.length < n) : ∃ c rest, cands n R ord = c :: rest := by
  obtain ⟨ρ, hρ⟩ := hR
  have least : ∀ m i, i < n → i ∉ ord → ρ i ≤ m → ∃ c, c < n ∧ nxt n R ord c = true := by
    intro m
    induction m with
    | zero =>
      intro i hi hn hm
      refine ⟨i, hi, nxt_iff.mpr ⟨hn, fun j hj hr => ?_⟩⟩
      have := hρ j i hr
      omega
    | succ m ih =>
      intro i hi hn hm
      rcases Classical.em (∃ j, j < n ∧ R j i = true ∧ j ∉ ord) with ⟨j, hj, hr, hjn⟩ | none
      · have := hρ j i hr
        exact ih j hj hjn (by omega)
      · refine ⟨i, hi, nxt_iff.mpr ⟨hn, fun j hj hr => ?_⟩⟩
        rcases Classical.em (j ∈ ord) with h | h
        · exact h
        · exact absurd ⟨j, hj, hr, h⟩ none
  obtain ⟨i, hi, hn⟩ := st_missing ord n hl
  obtain ⟨c, hc, hx⟩ := least (ρ i) i hi hn (Nat.le_refl _)
  cases e : cands n R ord with
  | nil =>
    have : c ∈ cands n R ord := List.mem_filter.mpr ⟨List.mem_range.mpr hc, hx⟩
    rw [e] at this
    cases this
  | cons a rest => exact ⟨a, rest, rfl⟩
theorem cands_asc (n : Nat) (R : Rel) (ord : List Nat) : (cands n R ord).Pairwise (· < ·) := List.Pairwise.filter _ List.pairwise_lt_range
/-- the least of the candidates is the first -/
theorem cands_min {n : Nat} {R : Rel} {ord : List Nat} {c : Nat} {rest : List Nat} (e : cands n R ord = c :: rest) {m : Int} (hm : m ∈ nI (cands n R ord)) (hle : ∀ y, y ∈ nI (cands n R ord) → m ≤ y) : m = (c : Int) := by
  obtain ⟨k, hk, rfl⟩ := mem_nI.mp hm
  have h1 := hle (c : Int) (mem_nI.mpr ⟨c, by rw [e]; exact List.mem_cons_self, rfl⟩)
  have pw := cands_asc n R ord
  rw [e] at hk pw
  rcases List.mem_cons.mp hk with z | z
  · rw [z]
  · have := (List.pairwise_cons.mp pw).1 k z
    omega
theorem ordN_succ {n : Nat} {R : Rel} {k c : Nat} {rest : List Nat} (e : cands n R (ordN n R k) = c :: rest) : ordN n R (k + 1) = ordN n R k ++ [c] := by
  show ordN n R k ++ (cands n R (ordN n R k)).take 1 = _
  rw [e]; rfl
structure OrdOk (n : Nat) (R : Rel) (ord : List Nat) : Prop where
  nd : ord.Nodup
  lt : ∀ i ∈ ord, i < n
  up : ∀ q i, ord[q]? = some i → ∀ j, j < n → R j i = true → j ∈ ord.take q
theorem ordN_ok {n : Nat} {R : Rel} (hR : Ranked R) : ∀ k, k ≤ n → (ordN n R k).length = k ∧ OrdOk n R (ordN n R k)
  | 0, _ => ⟨rfl, ⟨List.nodup_nil, fun i h => absurd h List.not_mem_nil, fun q i h => by simp [ordN] at h⟩⟩
  | k + 1, hk => by
    obtain ⟨l, ok⟩ := ordN_ok hR k (Nat.le_of_succ_le hk)
    obtain ⟨c, rest, e⟩ := cands_ne (n := n) hR (ord := ordN n R k) (by omega)
    have cm : c ∈ cands n R (ordN n R k) := by rw [e]; exact List.mem_cons_self
    obtain ⟨c1, c2⟩ := List.mem_filter.mp cm
    obtain ⟨c3, c4⟩ := nxt_iff.mp c2
    rw [ordN_succ e]
    refine ⟨by rw [List.length_append, l]; rfl, ⟨?_, fun i hi => ?_, fun q i hq j hj hr => ?_⟩⟩
    · rw [List.nodup_append]
      refine ⟨ok.nd, by simp, fun a ha b hb => ?_⟩
      rw [List.mem_singleton.mp hb]
      intro z
      exact c3 (z ▸ ha)
    · rcases List.mem_append.mp hi with h | h
      · exact ok.lt i h
      · rw [List.mem_singleton.mp h]; exact List.mem_range.mp c1
    · rcases Nat.lt_or_ge q (ordN n R k).length with h | h
      · rw [List.getElem?_append_left h] at hq
        rw [List.take_append_of_le_length (Nat.le_of_lt h)]
        exact ok.up q i hq j hj hr
      · rw [List.getElem?_append_right h] at hq
        have q0 : q - (ordN n R k).length = 0 := by
          rcases Nat.eq_zero_or_pos (q - (ordN n R k).length) with z | z
          · exact z
          · rw [List.getElem?_eq_none (by rw [List.length_singleton]; exact z)] at hq; cases hq
        rw [q0] at hq
        cases hq
        have eq : q = (ordN n R k).length := by omega
        rw [eq, List.take_left']
        · exact c4 j hj hr
        · rfl
/-- every lamp stands in it -/
theorem ord_all {n : Nat} {R : Rel} (hR : Ranked R) {i : Nat} (hi : i < n) : i ∈ ordN n R n := by
  obtain ⟨l, ok⟩ := ordN_ok hR n (Nat.le_refl _)
  rcases Classical.em (i ∈ ordN n R n) with h | h
  · exact h
  · exfalso
    have := nat_nodup_len (i :: ordN n R n) (List.range n) (List.nodup_cons.mpr ⟨h, ok.nd⟩) fun x hx => by
      rcases List.mem_cons.mp hx with z | z
      · rw [z]; exact List.mem_range.mpr hi
      · exact List.mem_range.mpr (ok.lt x z)
    rw [List.length_cons, l, List.length_range] at this
    omega
theorem relOf_ranked {ps : List (Nat × Nat)} {ρ : Nat → Nat} (h : ∀ p ∈ ps, ρ p.1 < ρ p.2) : Ranked (relOf ps) := ⟨ρ, relOf_rank h⟩
/-! ### the relation goes on -/
def Trans (R : Rel) : Prop := ∀ i j k, R i j = true → R j k = true → R i k = true
theorem addW_iff {R : Rel} {u l i j : Nat} : addW R u l i j = true ↔ R i j = true ∨ ((i = u ∨ R i u = true) ∧ (j = l ∨ R l j = true)) := by
  unfold addW
  rw [Bool.or_eq_true, Bool.and_eq_true, Bool.or_eq_true, Bool.or_eq_true, beq_iff_eq, beq_iff_eq]
theorem addW_trans {R : Rel} (hR : Trans R) (u l : Nat) : Trans (addW R u l) := by
  intro i j k h1 h2
  rw [addW_iff] at h1 h2 ⊢
  rcases h1 with h1 | ⟨a1, a2⟩ <;> rcases h2 with h2 | ⟨b1, b2⟩
  · exact .inl (hR i j k h1 h2)
  · refine .inr ⟨.inr ?_, b2⟩
    rcases b1 with e | e
    · rw [← e]; exact h1
    · exact hR _ _ _ h1 e
  · refine .inr ⟨a1, .inr ?_⟩
    rcases a2 with e | e
    · rw [← e]; exact h2
    · exact hR _ _ _ e h2
  · exact .inr ⟨a1, b2⟩
theorem relOf_trans : ∀ (ps : List (Nat × Nat)), Trans (relOf ps) := by
  have key : ∀ (ps : List (Nat × Nat)) (R : Rel), Trans R → Trans (ps.foldl (fun R p => addW R p.1 p.2) R) := by
    intro ps
    induction ps with
    | nil => intro R h; exact h
    | cons p ps ih => intro R h; exact ih _ (addW_trans h p.1 p.2)
  intro ps
  exact key ps _ fun i j k h => by cases h
/-! ### states -/
abbrev stV (S : List Int) : List V := S.map V.int
def at_ (S : List Int) (k : Nat) : Int := S.getD k 0
theorem stV_get {S : List Int} {k : Nat} (h : k < S.length) : (stV S)[k]? = some (V.int (at_ S k)) := by
  unfold stV at_
  rw [List.getElem?_map, List.getElem?_eq_getElem h, List.getD_eq_getElem?_getD, List.getElem?_eq_getElem h]
  rfl
def StOk (n h : Nat) (S : List Int) : Prop := S.length = n ∧ ∀ z ∈ S, 0 ≤ z ∧ z < (h : Int)
theorem StOk.at {n h : Nat} {S : List Int} (s : StOk n h S) {k : Nat} (hk : k < n) : 0 ≤ at_ S k ∧ at_ S k < (h : Int) := by
  have hl : k < S.length := by rw [s.1]; exact hk
  unfold at_
  rw [List.getD_eq_getElem?_getD, List.getElem?_eq_getElem hl]
  exact s.2 _ (List.getElem_mem hl)
/-- T is reachable from S: every topmost difference goes down -/
def Reach (n : Nat) (R : Rel) (S T : List Int) : Prop := ∀ k, k < n → at_ S k ≠ at_ T k → (∀ u, u < n → R u k = true → at_ S u = at_ T u) → at_ T k < at_ S k
theorem rgV_nL (n : Nat) : rgV 0 (n : Int) = nL (List.range n) := by
  unfold rgV nL nI
  simp
theorem rgOk (n : Nat) (h : n ≤ 1000) : RgOk 0 (n : Int) := by
  unfold RgOk
  exact ⟨by omega, by omega, by omega, by omega, by omega⟩
theorem nL_erase (l : List Nat) (j : Nat) : (nL l).eraseIdx j = nL (l.eraseIdx j) := by
  unfold nL nI
  rw [List.map_map, List.map_map]
  induction l generalizing j with
  | nil => rfl
  | cons a l ih =>
    cases j with
    | zero => rfl
    | succ j => show _ :: _ = _ :: _; exact congrArg _ (ih j)
/-! ### the relation by its last wire -/
theorem fold_mono : ∀ (ps : List (Nat × Nat)) (R : Rel) (i j : Nat), R i j = true → ps.foldl (fun R p => addW R p.1 p.2) R i j = true
  | [], _, _, _, h => h
  | p :: ps, R, i, j, h => fold_mono ps _ i j (addW_iff.mpr (.inl h))
theorem fold_wire : ∀ (ps : List (Nat × Nat)) (R : Rel) (p : Nat × Nat), p ∈ ps → ps.foldl (fun R p => addW R p.1 p.2) R p.1 p.2 = true
  | [], _, _, h => by cases h
  | q :: ps, R, p, h => by
    rcases List.mem_cons.mp h with e | h
    · rw [e]
      exact fold_mono ps _ _ _ (addW_iff.mpr (.inr ⟨.inl rfl, .inl rfl⟩))
    · exact fold_wire ps _ p h
theorem rel_last {ps : List (Nat × Nat)} {j i : Nat} : relOf ps j i = true ↔ ∃ u, (u, i) ∈ ps ∧ (j = u ∨ relOf ps j u = true) := by
  have key : ∀ (ps qs : List (Nat × Nat)) (R : Rel), (∀ j i, R j i = true → ∃ u, (u, i) ∈ qs ∧ (j = u ∨ R j u = true)) →
      ∀ j i, ps.foldl (fun R p => addW R p.1 p.2) R j i = true → ∃ u, (u, i) ∈ qs ++ ps ∧ (j = u ∨ ps.foldl (fun R p => addW R p.1 p.2) R j u = true) := by
    intro ps
    induction ps with
    | nil =>
      intro qs R h j i hr
      rw [List.append_nil]
      exact h j i hr
    | cons p ps ih =>
      intro qs R h j i hr
      have z := ih (qs ++ [p]) (addW R p.1 p.2) (fun j i h2 => ?_) j i hr
      · rw [List.append_assoc] at z
        exact z
      · rcases addW_iff.mp h2 with h3 | ⟨h3, h4⟩
        · obtain ⟨u, hu, e⟩ := h j i h3
          exact ⟨u, List.mem_append_left _ hu, e.imp id fun z => addW_iff.mpr (.inl z)⟩
        · rcases h4 with e | e
          · refine ⟨p.1, List.mem_append_right _ (by rw [e]; exact List.mem_cons_self), ?_⟩
            exact h3.imp id fun z => addW_iff.mpr (.inl z)
          · obtain ⟨u, hu, e2⟩ := h p.2 i e
            refine ⟨u, List.mem_append_left _ hu, .inr (addW_iff.mpr (.inr ⟨h3, ?_⟩))⟩
            exact e2.imp Eq.symm id
  constructor
  · intro h
    have z := key ps [] (fun _ _ => false) (fun j i h => by cases h) j i h
    rw [List.nil_append] at z
    exact z
  · rintro ⟨u, hu, e⟩
    have w : relOf ps u i = true := fold_wire ps _ (u, i) hu
    rcases e with e | e
    · rw [e]; exact w
    · exact relOf_trans ps _ _ _ e w
end Hue

end
section
set_option maxRecDepth 100000
namespace Hue
open PySem PySem.Spec PyProof.Rows L2
/-! ### moves -/
def lastI (h : Nat) (up : Bool) : Int := if up = true then (h : Int) - 1 else 0
def shI (up : Bool) : Int := if up = true then 1 else -1
def mayB (n h : Nat) (R : Rel) (S : List Int) (k : Nat) (careful up : Bool) : Bool :=
  !decide (at_ S k = lastI h up) && (!careful || (Bel n R k).all fun j => decide (at_ S j = lastI h up))
def stepL (n h : Nat) (R : Rel) (S : List Int) (k : Nat) (up : Bool) : List Int :=
  (List.range n).map fun j => if j = k then at_ S k + shI up else if R k j = true then (at_ S j + shI up) % (h : Int) else at_ S j
theorem at_map {n : Nat} {f : Nat → Int} {j : Nat} (h : j < n) : at_ ((List.range n).map f) j = f j := by
  unfold at_
  rw [List.getD_eq_getElem?_getD, List.getElem?_map, List.getElem?_range h]
  rfl
theorem st_ext {n : Nat} {f : Nat → Int} {L : List Int} (l : L.length = n) (h : ∀ j, j < n → at_ L j = f j) : L = (List.range n).map f := by
  refine List.ext_getElem? fun i => ?_
  rcases Nat.lt_or_ge i n with lt | ge
  · rw [List.getElem?_map, List.getElem?_range lt, List.getElem?_eq_getElem (by omega)]
    have z := h i lt
    unfold at_ at z
    rw [List.getD_eq_getElem?_getD, List.getElem?_eq_getElem (by omega)] at z
    exact congrArg some z
  · rw [List.getElem?_eq_none (by omega), List.getElem?_eq_none (by rw [List.length_map, List.length_range]; exact ge)]
theorem st_eq {n : Nat} {S T : List Int} (hS : S.length = n) (hT : T.length = n) (h : ∀ j, j < n → at_ S j = at_ T j) : S = T := by
  rw [st_ext (f := at_ T) hS h, ← st_ext (f := at_ T) hT fun j _ => rfl]
theorem stepL_len (n h : Nat) (R : Rel) (S : List Int) (k : Nat) (up : Bool) : (stepL n h R S k up).length = n := by unfold stepL; simp
theorem step_k {n h : Nat} {R : Rel} {S : List Int} {k : Nat} {up : Bool} (hk : k < n) : at_ (stepL n h R S k up) k = at_ S k + shI up := by
  unfold stepL; rw [at_map hk, if_pos rfl]
theorem step_b {n h : Nat} {R : Rel} {S : List Int} {k j : Nat} {up : Bool} (hj : j < n) (ne : j ≠ k) (r : R k j = true) : at_ (stepL n h R S k up) j = (at_ S j + shI up) % (h : Int) := by
  unfold stepL; rw [at_map hj, if_neg ne, if_pos r]
theorem step_o {n h : Nat} {R : Rel} {S : List Int} {k j : Nat} {up : Bool} (hj : j < n) (ne : j ≠ k) (r : ¬ R k j = true) : at_ (stepL n h R S k up) j = at_ S j := by
  unfold stepL; rw [at_map hj, if_neg ne, if_neg r]
theorem may_iff {n h : Nat} {R : Rel} {S : List Int} {k : Nat} {careful up : Bool} : mayB n h R S k careful up = true ↔ at_ S k ≠ lastI h up ∧ (careful = true → ∀ j, j < n → R k j = true → at_ S j = lastI h up) := by
  unfold mayB
  rw [Bool.and_eq_true, Bool.not_eq_true', decide_eq_false_iff_not, Bool.or_eq_true, Bool.not_eq_true', List.all_eq_true]
  constructor
  · rintro ⟨a, b⟩
    refine ⟨a, fun c j hj r => ?_⟩
    rcases b with b | b
    · rw [c] at b; cases b
    · exact of_decide_eq_true (b j (mem_Bel.mpr ⟨hj, r⟩))
  · rintro ⟨a, b⟩
    refine ⟨a, ?_⟩
    cases careful with
    | false => exact .inl rfl
    | true => exact .inr fun j hj => decide_eq_true (b rfl j (mem_Bel.mp hj).1 (mem_Bel.mp hj).2)
def Irr (R : Rel) : Prop := ∀ k, R k k = false
theorem Ranked.irr {R : Rel} (h : Ranked R) : Irr R := fun k => by
  obtain ⟨ρ, hρ⟩ := h
  cases e : R k k with
  | false => rfl
  | true => exact absurd (hρ k k e) (Nat.lt_irrefl _)
theorem stOk_of {n h : Nat} {L : List Int} (l : L.length = n) (b : ∀ j, j < n → 0 ≤ at_ L j ∧ at_ L j < (h : Int)) : StOk n h L := by
  refine ⟨l, fun z hz => ?_⟩
  obtain ⟨j, hj, e⟩ := List.getElem_of_mem hz
  have := b j (by omega)
  unfold at_ at this
  rw [List.getD_eq_getElem?_getD, List.getElem?_eq_getElem hj] at this
  rw [← e]; exact this
theorem step_ok {n h : Nat} {R : Rel} {S : List Int} {k : Nat} {careful up : Bool} (h2 : 2 ≤ h) (ok : StOk n h S) (hk : k < n) (m : mayB n h R S k careful up = true) : StOk n h (stepL n h R S k up) := by
  refine stOk_of (stepL_len ..) fun j hj => ?_
  have m1 := (may_iff.mp m).1
  have bk := ok.at hk
  have bj := ok.at hj
  rcases Nat.decEq j k with ne | e
  · rcases Classical.em (R k j = true) with r | r
    · rw [step_b hj ne r]
      exact ⟨Int.emod_nonneg _ (by omega), Int.emod_lt_of_pos _ (by omega)⟩
    · rw [step_o hj ne r]; exact bj
  · rw [e, step_k hk]
    unfold lastI at m1
    unfold shI
    cases up with
    | true => simp only [if_true] at m1 ⊢; omega
    | false => simp only [Bool.false_eq_true, if_false] at m1 ⊢; omega
/-! ### paths -/
def Next (n h : Nat) (R : Rel) (careful up : Bool) (S T : List Int) : Prop := ∃ k, k < n ∧ mayB n h R S k careful up = true ∧ T = stepL n h R S k up
inductive Rt (n h : Nat) (R : Rel) (careful up : Bool) : List Int → List Int → Prop
  | refl (S : List Int) : Rt n h R careful up S S
  | tail {S T U : List Int} (a : Rt n h R careful up S T) (b : Next n h R careful up T U) : Rt n h R careful up S U
theorem Rt.head {n h : Nat} {R : Rel} {careful up : Bool} {S T U : List Int} (a : Next n h R careful up S T) (b : Rt n h R careful up T U) : Rt n h R careful up S U := by
  induction b with
  | refl => exact .tail (.refl _) a
  | tail _ c ih => exact .tail ih c
theorem Rt.ok {n h : Nat} {R : Rel} {careful up : Bool} {S T : List Int} (h2 : 2 ≤ h) (ok : StOk n h S) (a : Rt n h R careful up S T) : StOk n h T := by
  induction a with
  | refl => exact ok
  | tail _ c ih =>
    obtain ⟨k, hk, m, rfl⟩ := c
    exact step_ok h2 ih hk m
/-! ### reaching is an order, and a move leads down -/
theorem Reach.refl (n : Nat) (R : Rel) (S : List Int) : Reach n R S S := fun k _ d => absurd rfl d
/-- of all that hold, one with the least rank -/
theorem least_rank {n : Nat} {p : Nat → Prop} (ρ : Nat → Nat) (h : ∃ k, k < n ∧ p k) : ∃ k, k < n ∧ p k ∧ ∀ j, j < n → p j → ρ k ≤ ρ j := by
  have key : ∀ m k, k < n → p k → ρ k ≤ m → ∃ k, k < n ∧ p k ∧ ∀ j, j < n → p j → ρ k ≤ ρ j := by
    intro m
    induction m with
    | zero => exact fun k hk hp h0 => ⟨k, hk, hp, fun j _ _ => by omega⟩
    | succ m ih =>
      intro k hk hp hm
      rcases Classical.em (∃ j, j < n ∧ p j ∧ ρ j < ρ k) with ⟨j, hj, pj, lt⟩ | none
      · exact ih j hj pj (by omega)
      · refine ⟨k, hk, hp, fun j hj pj => ?_⟩
        rcases Nat.lt_or_ge (ρ j) (ρ k) with z | z
        · exact absurd ⟨j, hj, pj, z⟩ none
        · exact z
  obtain ⟨k, hk, hp⟩ := h
  exact key (ρ k) k hk hp (Nat.le_refl _)
theorem Reach.trans {n : Nat} {R : Rel} (hR : Ranked R) (hT : Trans R) {S T U : List Int} (a : Reach n R S T) (b : Reach n R T U) : Reach n R S U := by
  obtain ⟨ρ, hρ⟩ := hR
  intro k hk d top
  have all : ∀ u, u < n → R u k = true → at_ S u = at_ T u := by
    intro u hu r
    rcases Classical.em (at_ S u = at_ T u) with e | ne
    · exact e
    · exfalso
      obtain ⟨v, hv, ⟨v1, v2⟩, v3⟩ := least_rank (n := n) (p := fun v => R v k = true ∧ at_ S v ≠ at_ T v) ρ ⟨u, hu, r, ne⟩
      have eqs : ∀ x, x < n → R x v = true → at_ S x = at_ T x := fun x hx rx => by
        rcases Classical.em (at_ S x = at_ T x) with e | nx
        · exact e
        · have := v3 x hx ⟨hT _ _ _ rx v1, nx⟩
          have := hρ x v rx
          omega
      have l1 := a v hv v2 eqs
      have sv := top v hv v1
      have l2 := b v hv (fun e => v2 (by rw [sv, e])) fun x hx rx => by
        rw [← eqs x hx rx]
        exact top x hx (hT _ _ _ rx v1)
      omega
  have all2 : ∀ u, u < n → R u k = true → at_ T u = at_ U u := fun u hu r => by rw [← all u hu r]; exact top u hu r
  rcases Classical.em (at_ S k = at_ T k) with e | ne
  · rw [e]
    exact b k hk (fun z => d (by rw [e, z])) all2
  · have l1 := a k hk ne all
    rcases Classical.em (at_ T k = at_ U k) with e2 | ne2
    · omega
    · have := b k hk ne2 all2
      omega
theorem next_reach {n h : Nat} {R : Rel} (irr : Irr R) {careful : Bool} {S T : List Int} (ok : StOk n h S) (a : Next n h R careful false S T) : Reach n R S T := by
  obtain ⟨k, hk, m, rfl⟩ := a
  intro j hj d top
  rcases Nat.decEq j k with ne | e
  · exfalso
    rcases Classical.em (R k j = true) with r | r
    · have := top k hk r
      rw [step_k hk] at this
      unfold shI at this
      simp only [Bool.false_eq_true, if_false] at this
      omega
    · exact d (step_o hj ne r).symm
  · rw [e, step_k hk]
    unfold shI
    simp only [Bool.false_eq_true, if_false]
    omega
theorem rt_reach {n h : Nat} {R : Rel} (h2 : 2 ≤ h) (hR : Ranked R) (hT : Trans R) {careful : Bool} {S T : List Int} (ok : StOk n h S) (a : Rt n h R careful false S T) : Reach n R S T := by
  induction a with
  | refl => exact Reach.refl n R _
  | tail b c ih => exact ih.trans hR hT (next_reach hR.irr (b.ok h2 ok) c)
theorem nodup_at' {l : List Nat} (nd : l.Nodup) {i j k : Nat} (h1 : l[i]? = some k) (h2 : l[j]? = some k) : i = j := by
  obtain ⟨a1, a2⟩ := List.getElem?_eq_some_iff.mp h1
  obtain ⟨b1, b2⟩ := List.getElem?_eq_some_iff.mp h2
  rcases Nat.lt_trichotomy i j with h | h | h
  · exact absurd (a2.trans b2.symm) (List.pairwise_iff_getElem.mp nd i j a1 b1 h)
  · exact h
  · exact absurd (b2.trans a2.symm) (List.pairwise_iff_getElem.mp nd j i b1 a1 h)
/-! ### a number that falls -/
def numF (h : Int) : Int → List Int → Int := fun a l => l.foldl (fun a z => a * h + z) a
theorem numF_lt {h : Int} (h0 : 0 < h) : ∀ (u v : List Int) (a b : Int), u.length = v.length → (∀ z ∈ u, z < h) → (∀ z ∈ v, 0 ≤ z) → a + 1 ≤ b → numF h a u < numF h b v
  | [], [], a, b, _, _, _, hab => by show a < b; omega
  | [], _ :: _, _, _, l, _, _, _ => by simp at l
  | _ :: _, [], _, _, l, _, _, _ => by simp at l
  | x :: u, y :: v, a, b, l, hu, hv, hab => by
    show numF h (a * h + x) u < numF h (b * h + y) v
    refine numF_lt h0 u v _ _ (by simpa using l) (fun z hz => hu z (List.mem_cons_of_mem _ hz)) (fun z hz => hv z (List.mem_cons_of_mem _ hz)) ?_
    have h1 := hu x List.mem_cons_self
    have h2 := hv y List.mem_cons_self
    have h3 : (a + 1) * h ≤ b * h := Int.mul_le_mul_of_nonneg_right hab (Int.le_of_lt h0)
    rw [Int.add_mul, Int.one_mul] at h3
    omega
theorem numF_nonneg {h : Int} (h0 : 0 < h) : ∀ (u : List Int) (a : Int), 0 ≤ a → (∀ z ∈ u, 0 ≤ z) → 0 ≤ numF h a u
  | [], a, ha, _ => ha
  | x :: u, a, ha, hu => numF_nonneg h0 u (a * h + x) (by
      have := hu x List.mem_cons_self
      have h3 : 0 ≤ a * h := Int.mul_nonneg ha (Int.le_of_lt h0)
      omega) fun z hz => hu z (List.mem_cons_of_mem _ hz)
def numS (n h : Nat) (R : Rel) (S : List Int) : Int := numF h 0 ((ordN n R n).map (at_ S))
theorem numS_nonneg {n h : Nat} {R : Rel} (hR : Ranked R) (h2 : 2 ≤ h) {S : List Int} (ok : StOk n h S) : 0 ≤ numS n h R S := by
  refine numF_nonneg (by omega) _ _ (Int.le_refl 0) fun z hz => ?_
  obtain ⟨k, hk, rfl⟩ := List.mem_map.mp hz
  exact (ok.at ((ordN_ok hR n (Nat.le_refl n)).2.lt k hk)).1
theorem numS_falls {n h : Nat} {R : Rel} (hR : Ranked R) (h2 : 2 ≤ h) {careful : Bool} {S T : List Int} (ok : StOk n h S) (a : Next n h R careful false S T) : numS n h R T < numS n h R S := by
  obtain ⟨k, hk, m, rfl⟩ := a
  have okT := step_ok h2 ok hk m
  obtain ⟨_, oo⟩ := ordN_ok hR n (Nat.le_refl n)
  obtain ⟨A, B, e⟩ := List.append_of_mem (ord_all hR hk)
  have pre : A.map (at_ (stepL n h R S k false)) = A.map (at_ S) := by
    refine List.map_congr_left fun j hj => ?_
    obtain ⟨q, hq, ej⟩ := List.getElem_of_mem hj
    have at1 : (ordN n R n)[q]? = some j := by rw [e, List.getElem?_append_left hq, List.getElem?_eq_getElem hq, ej]
    have jn := oo.lt j (List.mem_of_getElem? at1)
    have at2 : (ordN n R n)[A.length]? = some k := by rw [e, List.getElem?_append_right (Nat.le_refl _), Nat.sub_self]; rfl
    have ne : j ≠ k := fun z => by
      rw [z] at at1
      have := nodup_at' oo.nd at1 at2
      omega
    refine step_o jn ne fun r => ?_
    have mem := oo.up q j at1 k hk r
    obtain ⟨i, hi, ei⟩ := List.getElem_of_mem mem
    rw [List.length_take] at hi
    rw [List.getElem_take] at ei
    have at3 : (ordN n R n)[i]? = some k := by rw [List.getElem?_eq_getElem (by omega), ei]
    have := nodup_at' oo.nd at3 at2
    omega
  unfold numS
  rw [e, List.map_append, List.map_append, List.map_cons, List.map_cons, pre]
  unfold numF
  rw [List.foldl_append, List.foldl_append, List.foldl_cons, List.foldl_cons]
  refine numF_lt (h := h) (by omega) _ _ _ _ (by rw [List.length_map, List.length_map]) (fun z hz => ?_) (fun z hz => ?_) ?_
  · obtain ⟨j, hj, rfl⟩ := List.mem_map.mp hz
    exact (okT.at (oo.lt j (by rw [e]; exact List.mem_append_right _ (List.mem_cons_of_mem _ hj)))).2
  · obtain ⟨j, hj, rfl⟩ := List.mem_map.mp hz
    exact (ok.at (oo.lt j (by rw [e]; exact List.mem_append_right _ (List.mem_cons_of_mem _ hj)))).1
  · rw [step_k hk]
    unfold shI
    simp only [Bool.false_eq_true, if_false]
    omega
/-! ### a careful move on the way -/
theorem careful_step {n h : Nat} {R : Rel} (h2 : 2 ≤ h) (hR : Ranked R) (hT : Trans R) {S T : List Int} (okS : StOk n h S) (okT : StOk n h T) (a : Reach n R S T) (ne : S ≠ T) :
    ∃ U, Next n h R true false S U ∧ Reach n R U T := by
  obtain ⟨ρ, hρ⟩ := id hR
  have irr := hR.irr
  have diff : ∃ k, k < n ∧ at_ S k ≠ at_ T k := by
    rcases Classical.em (∃ k, k < n ∧ at_ S k ≠ at_ T k) with z | z
    · exact z
    · refine absurd (st_eq okS.1 okT.1 fun j hj => ?_) ne
      rcases Classical.em (at_ S j = at_ T j) with e | e
      · exact e
      · exact absurd ⟨j, hj, e⟩ z
  obtain ⟨t, ht, dt, mt⟩ := least_rank (n := n) (p := fun k => at_ S k ≠ at_ T k) ρ diff
  have topt : ∀ u, u < n → R u t = true → at_ S u = at_ T u := fun u hu r => by
    rcases Classical.em (at_ S u = at_ T u) with e | e
    · exact e
    · have := mt u hu e
      have := hρ u t r
      omega
  have lt_t := a t ht dt topt
  -- the lowest lit lamp at or beneath t
  have hN : ∃ N, ∀ k, k < n → ρ k ≤ N := by
    have key : ∀ m, ∃ N, ∀ k, k < m → ρ k ≤ N := by
      intro m
      induction m with
      | zero => exact ⟨0, fun k hk => by omega⟩
      | succ m ih =>
        obtain ⟨N, hN⟩ := ih
        refine ⟨N + ρ m, fun k hk => ?_⟩
        rcases Nat.lt_or_ge k m with z | z
        · have := hN k z; omega
        · have e : k = m := by omega
          rw [e]; omega
    exact key n
  obtain ⟨N, hN⟩ := hN
  have lit_t : at_ S t ≠ 0 := by
    have := (okT.at ht).1
    omega
  obtain ⟨l, hl, ⟨cone, lit⟩, low⟩ := least_rank (n := n) (p := fun k => (k = t ∨ R t k = true) ∧ at_ S k ≠ 0) (fun k => N - ρ k) ⟨t, ht, .inl rfl, lit_t⟩
  have inCone : ∀ j, R l j = true → R t j = true := fun j r => by
    rcases cone with e | e
    · rw [← e]; exact r
    · exact hT _ _ _ e r
  have dark : ∀ j, j < n → R l j = true → at_ S j = 0 := fun j hj r => by
    rcases Classical.em (at_ S j = 0) with e | e
    · exact e
    · have h1 := low j hj ⟨.inr (inCone j r), e⟩
      have h2 := hρ l j r
      have h3 := hN j hj
      omega
  have may : mayB n h R S l true false = true := may_iff.mpr ⟨by unfold lastI; simp only [Bool.false_eq_true, if_false]; exact lit, fun _ j hj r => by unfold lastI; simp only [Bool.false_eq_true, if_false]; exact dark j hj r⟩
  refine ⟨_, ⟨l, hl, may, rfl⟩, ?_⟩
  have sl : at_ (stepL n h R S l false) l = at_ S l - 1 := by
    rw [step_k hl]; unfold shI; simp only [Bool.false_eq_true, if_false]; omega
  have sb : ∀ j, j < n → R l j = true → at_ (stepL n h R S l false) j = (h : Int) - 1 := fun j hj r => by
    have nj : j ≠ l := fun z => by rw [z, irr l] at r; cases r
    rw [step_b hj nj r, dark j hj r]
    unfold shI
    simp only [Bool.false_eq_true, if_false]
    have : ((0 : Int) + -1) % (h : Int) = (h : Int) - 1 := by
      rw [show (0 : Int) + -1 = ((h : Int) - 1) + (h : Int) * (-1) by omega, Int.add_mul_emod_self_left]
      exact Int.emod_eq_of_lt (by omega) (by omega)
    exact this
  have so : ∀ j, j < n → j ≠ l → ¬ R l j = true → at_ (stepL n h R S l false) j = at_ S j := fun j hj nj r => step_o hj nj r
  intro k hk d top
  -- outside of the cone nothing changes, and the way stays
  have outside : k ≠ t → ¬ R t k = true → at_ T k < at_ (stepL n h R S l false) k := by
    intro kt rk
    have kl : k ≠ l := fun z => by
      rcases cone with e | e
      · exact kt (z.trans e)
      · rw [← z] at e; exact rk e
    have ek := so k hk kl fun r => rk (inCone k r)
    rw [ek] at d ⊢
    refine a k hk d fun u hu r => ?_
    have ut : u ≠ t := fun z => by rw [z] at r; exact rk r
    have ru : ¬ R t u = true := fun z => rk (hT _ _ _ z r)
    have ul : u ≠ l := fun z => by
      rcases cone with e | e
      · exact ut (z.trans e)
      · rw [← z] at e; exact ru e
    rw [← so u hu ul fun z => ru (inCone u z)]
    exact top u hu r
  rcases Nat.decEq l t with lt | lt
  · -- l is beneath t
    have Rtl : R t l = true := by
      rcases cone with e | e
      · exact absurd e lt
      · exact e
    have st : at_ (stepL n h R S l false) t = at_ S t := so t ht (fun z => lt z.symm) fun r => by
      have := inCone t r
      rw [irr t] at this; cases this
    rcases Nat.decEq k t with kt | kt
    · rcases Classical.em (R t k = true) with r | r
      · exfalso
        have := top t ht r
        rw [st] at this
        exact dt this
      · exact outside kt r
    · rw [kt, st]; exact lt_t
  · rcases Nat.decEq k t with kt | kt
    · rcases Classical.em (R t k = true) with r | r
      · rw [sb k hk (by rw [lt]; exact r)] at d ⊢
        have := (okT.at hk).2
        omega
      · exact outside kt r
    · rw [kt, ← lt, sl] at d ⊢
      rw [← lt] at lt_t
      omega
theorem reach_rt {n h : Nat} {R : Rel} (h2 : 2 ≤ h) (hR : Ranked R) (hT : Trans R) {T : List Int} (okT : StOk n h T) : ∀ (m : Nat) (S : List Int), (numS n h R S).toNat ≤ m → StOk n h S → Reach n R S T → Rt n h R true false S T := by
  intro m
  induction m with
  | zero =>
    intro S hm okS a
    rcases Classical.em (S = T) with e | ne
    · rw [e]; exact .refl _
    · exfalso
      obtain ⟨U, nx, _⟩ := careful_step h2 hR hT okS okT a ne
      have h1 := numS_falls hR h2 okS nx
      obtain ⟨k, hk, may, e⟩ := id nx
      have h3 := numS_nonneg (n := n) (h := h) hR h2 (S := U) (by rw [e]; exact step_ok h2 okS hk may)
      omega
  | succ m ih =>
    intro S hm okS a
    rcases Classical.em (S = T) with e | ne
    · rw [e]; exact .refl _
    · obtain ⟨U, nx, b⟩ := careful_step h2 hR hT okS okT a ne
      have h1 := numS_falls hR h2 okS nx
      obtain ⟨k, hk, may, e⟩ := id nx
      have okU : StOk n h U := by rw [e]; exact step_ok h2 okS hk may
      have h3 := numS_nonneg (n := n) (h := h) hR h2 okU
      exact .head nx (ih U (by omega) okU b)
theorem rt_free {n h : Nat} {R : Rel} {careful up : Bool} {S T : List Int} (a : Rt n h R true up S T) : Rt n h R careful up S T := by
  induction a with
  | refl => exact .refl _
  | tail _ c ih =>
    obtain ⟨k, hk, m, e⟩ := c
    refine .tail ih ⟨k, hk, may_iff.mpr ⟨(may_iff.mp m).1, fun _ => (may_iff.mp m).2 rfl⟩, e⟩
/-- by moves down, free or careful, exactly the reachable states are found -/
theorem rt_down {n h : Nat} {R : Rel} (h2 : 2 ≤ h) (hR : Ranked R) (hT : Trans R) {careful : Bool} {S T : List Int} (okS : StOk n h S) (okT : StOk n h T) : Rt n h R careful false S T ↔ Reach n R S T :=
  ⟨rt_reach h2 hR hT okS, fun a => rt_free (reach_rt h2 hR hT okT _ S (Nat.le_refl _) okS a)⟩
/-! ### moves up undo moves down -/
theorem emod_small {a h : Int} (h1 : 0 ≤ a) (h2 : a < h) : a % h = a := Int.emod_eq_of_lt h1 h2
theorem emod_wrap_up {h : Int} (h0 : 0 < h) : h % h = 0 := Int.emod_self
theorem up_down {a h : Int} (h2 : 2 ≤ h) (b : 0 ≤ a ∧ a < h) : ((a + 1) % h + -1) % h = a := by
  rcases Int.lt_trichotomy (a + 1) h with c | c | c
  · rw [emod_small (by omega) c, show a + 1 + -1 = a by omega, emod_small b.1 b.2]
  · rw [c, Int.emod_self, show (0 : Int) + -1 = (h - 1) + h * (-1) by omega, Int.add_mul_emod_self_left, emod_small (by omega) (by omega)]
    omega
  · omega
theorem down_up {a h : Int} (h2 : 2 ≤ h) (b : 0 ≤ a ∧ a < h) : ((a + -1) % h + 1) % h = a := by
  rcases Int.lt_trichotomy a 0 with c | c | c
  · omega
  · rw [c, show (0 : Int) + -1 = (h - 1) + h * (-1) by omega, Int.add_mul_emod_self_left, emod_small (a := h - 1) (by omega) (by omega), show h - 1 + 1 = h by omega, Int.emod_self]
  · rw [emod_small (a := a + -1) (by omega) (by omega), show a + -1 + 1 = a by omega, emod_small b.1 b.2]
theorem next_back {n h : Nat} {R : Rel} (h2 : 2 ≤ h) (irr : Irr R) {careful up : Bool} {S T : List Int} (okS : StOk n h S) (a : Next n h R careful up S T) : Next n h R careful (!up) T S := by
  obtain ⟨k, hk, m, rfl⟩ := a
  obtain ⟨m1, m2⟩ := may_iff.mp m
  have okT := step_ok h2 okS hk m
  have bk := okS.at hk
  refine ⟨k, hk, may_iff.mpr ⟨?_, fun c j hj r => ?_⟩, ?_⟩
  · rw [step_k hk]
    unfold lastI at m1 ⊢
    unfold shI
    cases up <;> simp only [if_true, Bool.false_eq_true, if_false, Bool.not_true, Bool.not_false] at m1 ⊢ <;> omega
  · have nj : j ≠ k := fun z => by rw [z, irr k] at r; cases r
    rw [step_b hj nj r, m2 c j hj r]
    unfold lastI shI
    cases up with
    | true =>
      simp only [if_true, Bool.not_true, Bool.false_eq_true, if_false]
      rw [show (h : Int) - 1 + 1 = h by omega, Int.emod_self]
    | false =>
      simp only [if_true, Bool.not_false, Bool.false_eq_true, if_false]
      rw [show (0 : Int) + -1 = ((h : Int) - 1) + (h : Int) * (-1) by omega, Int.add_mul_emod_self_left, emod_small (by omega) (by omega)]
  · refine st_eq okS.1 (stepL_len ..) fun j hj => ?_
    rcases Nat.decEq j k with nj | e
    · rcases Classical.em (R k j = true) with r | r
      · rw [step_b hj nj r, step_b hj nj r]
        have bj := okS.at hj
        unfold shI
        cases up with
        | true => simp only [if_true, Bool.not_true, Bool.false_eq_true, if_false]; exact (up_down (by omega) bj).symm
        | false => simp only [if_true, Bool.not_false, Bool.false_eq_true, if_false]; exact (down_up (by omega) bj).symm
      · rw [step_o hj nj r, step_o hj nj r]
    · rw [e, step_k hk, step_k hk]
      unfold shI
      cases up <;> simp only [if_true, Bool.false_eq_true, if_false, Bool.not_true, Bool.not_false] <;> omega
theorem rt_back {n h : Nat} {R : Rel} (h2 : 2 ≤ h) (irr : Irr R) {careful up : Bool} {S T : List Int} (okS : StOk n h S) (a : Rt n h R careful up S T) : Rt n h R careful (!up) T S := by
  induction a with
  | refl => exact .refl _
  | tail b c ih => exact .head (next_back h2 irr (b.ok h2 okS) c) ih
theorem rt_up {n h : Nat} {R : Rel} (h2 : 2 ≤ h) (hR : Ranked R) (hT : Trans R) {careful : Bool} {S T : List Int} (okS : StOk n h S) (okT : StOk n h T) : Rt n h R careful true S T ↔ Reach n R T S := by
  rw [← rt_down (careful := careful) h2 hR hT okT okS]
  exact ⟨fun a => rt_back h2 hR.irr okS a, fun a => rt_back h2 hR.irr okT a⟩
/-! ### how many states there are -/
def codeN (h : Nat) : Nat → List Int → Nat := fun a l => l.foldl (fun a z => a * h + z.toNat) a
theorem mul_add_inj {h a b x y : Nat} (hx : x < h) (hy : y < h) (e : a * h + x = b * h + y) : a = b ∧ x = y := by
  have e1 : (a * h + x) % h = x := by rw [Nat.mul_comm, Nat.mul_add_mod]; exact Nat.mod_eq_of_lt hx
  have e2 : (b * h + y) % h = y := by rw [Nat.mul_comm, Nat.mul_add_mod]; exact Nat.mod_eq_of_lt hy
  have exy : x = y := by rw [← e1, e, e2]
  refine ⟨?_, exy⟩
  have e3 : a * h = b * h := by omega
  exact Nat.eq_of_mul_eq_mul_right (by omega) e3
theorem code_inj {h : Nat} : ∀ (u v : List Int) (a b : Nat), u.length = v.length → (∀ z ∈ u, 0 ≤ z ∧ z < (h : Int)) → (∀ z ∈ v, 0 ≤ z ∧ z < (h : Int)) → codeN h a u = codeN h b v → a = b ∧ u = v
  | [], [], _, _, _, _, _, e => ⟨e, rfl⟩
  | [], _ :: _, _, _, l, _, _, _ => by simp at l
  | _ :: _, [], _, _, l, _, _, _ => by simp at l
  | x :: u, y :: v, a, b, l, hu, hv, e => by
    have bx := hu x List.mem_cons_self
    have by_ := hv y List.mem_cons_self
    obtain ⟨e1, e2⟩ := code_inj u v (a * h + x.toNat) (b * h + y.toNat) (by simpa using l) (fun z hz => hu z (List.mem_cons_of_mem _ hz)) (fun z hz => hv z (List.mem_cons_of_mem _ hz)) e
    obtain ⟨e3, e4⟩ := mul_add_inj (by omega) (by omega) e1
    exact ⟨e3, by rw [e2, show x = y by omega]⟩
theorem code_lt {h : Nat} : ∀ (u : List Int) (a : Nat), (∀ z ∈ u, 0 ≤ z ∧ z < (h : Int)) → codeN h a u < (a + 1) * h ^ u.length
  | [], a, _ => by show a < (a + 1) * 1; omega
  | x :: u, a, hu => by
    have bx := hu x List.mem_cons_self
    have ih := code_lt u (a * h + x.toNat) fun z hz => hu z (List.mem_cons_of_mem _ hz)
    refine Nat.lt_of_lt_of_le ih ?_
    rw [List.length_cons, Nat.pow_succ, Nat.mul_comm (h ^ u.length) h, ← Nat.mul_assoc]
    refine Nat.mul_le_mul_right _ ?_
    rw [Nat.add_mul, Nat.one_mul]
    omega
theorem nodup_map {α β : Type} {f : α → β} : ∀ {l : List α}, l.Nodup → (∀ x ∈ l, ∀ y ∈ l, f x = f y → x = y) → (l.map f).Nodup
  | [], _, _ => List.nodup_nil
  | a :: l, nd, inj => by
    obtain ⟨n1, n2⟩ := List.nodup_cons.mp nd
    rw [List.map_cons]
    refine List.nodup_cons.mpr ⟨fun hm => ?_, nodup_map n2 fun x hx y hy => inj x (List.mem_cons_of_mem _ hx) y (List.mem_cons_of_mem _ hy)⟩
    obtain ⟨b, hb, e⟩ := List.mem_map.mp hm
    have := inj b (List.mem_cons_of_mem _ hb) a List.mem_cons_self e
    rw [this] at hb
    exact n1 hb
theorem count_states {n h : Nat} {F : List (List Int)} (nd : F.Nodup) (ok : ∀ S ∈ F, StOk n h S) : F.length ≤ h ^ n := by
  have nd2 : (F.map (codeN h 0)).Nodup := nodup_map nd fun S hS T hT e => (code_inj S T 0 0 (by rw [(ok S hS).1, (ok T hT).1]) (ok S hS).2 (ok T hT).2 e).2
  have := nat_nodup_len _ (List.range (h ^ n)) nd2 fun x hx => by
    obtain ⟨S, hS, rfl⟩ := List.mem_map.mp hx
    have := code_lt S 0 (ok S hS).2
    rw [(ok S hS).1, Nat.zero_add, Nat.one_mul] at this
    exact List.mem_range.mpr this
  rwa [List.length_map, List.length_range] at this
/-- what is found and closed is all that is reached -/
theorem found_all {n h : Nat} {R : Rel} {careful up : Bool} {S0 : List Int} {F : List (List Int)} (m0 : S0 ∈ F) (snd : ∀ T ∈ F, Rt n h R careful up S0 T) (cl : ∀ T ∈ F, ∀ U, Next n h R careful up T U → U ∈ F) (T : List Int) :
    T ∈ F ↔ Rt n h R careful up S0 T := by
  refine ⟨snd T, fun a => ?_⟩
  induction a with
  | refl => exact m0
  | tail _ c ih => exact cl _ ih _ c
/-! ### the dict of what is found -/
def dk (S : List Int) : List Key := S.map Sum.inl
theorem dk_V (S : List Int) : (dk S).map kV = stV S := by
  unfold dk stV
  rw [List.map_map]
  rfl
theorem dk_inj : ∀ {S T : List Int}, dk S = dk T → S = T
  | [], [], _ => rfl
  | [], _ :: _, h => by cases h
  | _ :: _, [], h => by cases h
  | a :: S, b :: T, h => by
    have h1 : (Sum.inl a : Key) :: dk S = Sum.inl b :: dk T := h
    injection h1 with h2 h3
    injection h2 with h2
    rw [h2, dk_inj h3]
def fdict (F : List (List Int)) : List (List Key × V) := F.map fun S => (dk S, V.bl true)
theorem val_f {F : List (List Int)} {S : List Int} : (valV (fdict F) (dk S)).isSome = decide (S ∈ F) := by
  rw [← valV_any]
  unfold fdict
  rw [List.any_map, Bool.eq_iff_iff, List.any_eq_true, decide_eq_true_eq]
  constructor
  · rintro ⟨T, hT, e⟩
    rw [← dk_inj (of_decide_eq_true e)]
    exact hT
  · exact fun hS => ⟨S, hS, decide_eq_true rfl⟩
theorem put_f {F : List (List Int)} {S : List Int} (hS : S ∉ F) : putK (fdict F) (dk S) (V.bl true) = fdict (F ++ [S]) := by
  have e : ((fdict F).any fun kv => decide (kv.1 = dk S)) = false := by
    have z := val_f (F := F) (S := S)
    rw [← valV_any, decide_eq_false hS] at z
    exact z
  unfold putK
  rw [e, if_neg Bool.false_ne_true]
  unfold fdict
  rw [List.map_append]
  rfl
end Hue

end
section
set_option maxRecDepth 100000
namespace Hue
open PySem PySem.Spec PyProof.Rows L2
/-! ### reaching: antisymmetric, turned about by the mirror, from the bright state, to the dark one -/
theorem Reach.anti {n : Nat} {R : Rel} (hR : Ranked R) {S T : List Int} (hS : S.length = n) (hT : T.length = n) (a : Reach n R S T) (b : Reach n R T S) : S = T := by
  obtain ⟨ρ, hρ⟩ := hR
  refine st_eq hS hT fun j hj => Classical.byContradiction fun ne => ?_
  obtain ⟨k, hk, d, least⟩ := least_rank (n := n) (p := fun j => at_ S j ≠ at_ T j) ρ ⟨j, hj, ne⟩
  have top : ∀ u, u < n → R u k = true → at_ S u = at_ T u := fun u hu r => Classical.byContradiction fun d2 => by
    have := least u hu d2
    have := hρ u k r
    omega
  have l1 := a k hk d top
  have l2 := b k hk (fun z => d z.symm) fun u hu r => (top u hu r).symm
  omega
/-- the mirror of a state -/
def mir (h : Nat) (S : List Int) : List Int := S.map fun z => (h : Int) - 1 - z
theorem mir_len (h : Nat) (S : List Int) : (mir h S).length = S.length := List.length_map ..
theorem mir_at {h : Nat} {S : List Int} {k : Nat} (hk : k < S.length) : at_ (mir h S) k = (h : Int) - 1 - at_ S k := by
  unfold at_ mir
  rw [List.getD_eq_getElem?_getD, List.getD_eq_getElem?_getD, List.getElem?_map, List.getElem?_eq_getElem hk]
  rfl
theorem mir_ok {n h : Nat} {S : List Int} (ok : StOk n h S) : StOk n h (mir h S) := by
  refine ⟨(mir_len h S).trans ok.1, fun z hz => ?_⟩
  obtain ⟨y, hy, rfl⟩ := List.mem_map.mp hz
  have := ok.2 y hy
  omega
theorem mir_reach {n h : Nat} {R : Rel} {S T : List Int} (hS : S.length = n) (hT : T.length = n) : Reach n R (mir h T) (mir h S) ↔ Reach n R S T := by
  have m1 : ∀ k, k < n → at_ (mir h S) k = (h : Int) - 1 - at_ S k := fun k hk => mir_at (by omega)
  have m2 : ∀ k, k < n → at_ (mir h T) k = (h : Int) - 1 - at_ T k := fun k hk => mir_at (by omega)
  constructor
  · intro r k hk d top
    have := r k hk (by rw [m1 k hk, m2 k hk]; omega) fun u hu ru => by rw [m1 u hu, m2 u hu, top u hu ru]
    rw [m1 k hk, m2 k hk] at this
    omega
  · intro r k hk d top
    rw [m1 k hk, m2 k hk] at d ⊢
    have := r k hk (by omega) fun u hu ru => by
      have := top u hu ru
      rw [m1 u hu, m2 u hu] at this
      omega
    omega
theorem at_rep {n k : Nat} {z : Int} (hk : k < n) : at_ (List.replicate n z) k = z := by
  unfold at_
  rw [List.getD_eq_getElem?_getD, List.getElem?_replicate, if_pos hk]
  rfl
theorem rep_ok {n h : Nat} {z : Int} (h0 : 0 ≤ z) (h1 : z < (h : Int)) : StOk n h (List.replicate n z) :=
  ⟨List.length_replicate, fun y hy => by rw [(List.mem_replicate.mp hy).2]; exact ⟨h0, h1⟩⟩
theorem dark_reach {n h : Nat} {R : Rel} {S : List Int} (ok : StOk n h S) : Reach n R S (List.replicate n 0) := fun k hk d _ => by
  rw [at_rep hk] at d ⊢
  have := ok.at hk
  omega
theorem bright_reach {n h : Nat} {R : Rel} {T : List Int} (ok : StOk n h T) : Reach n R (List.replicate n ((h : Int) - 1)) T := fun k hk d _ => by
  rw [at_rep hk] at d ⊢
  have := ok.at hk
  omega
/-- brighter at a lamp with the same hues above it -/
theorem lifted_not {n : Nat} {R : Rel} {S T : List Int} {k : Nat} (hk : k < n) (lt : at_ S k < at_ T k) (top : ∀ u, u < n → R u k = true → at_ S u = at_ T u) : ¬ Reach n R S T := fun r => by
  have := r k hk (by omega) top
  omega
end Hue

end
section
set_option maxRecDepth 100000
namespace L2
open PySem PySem.Spec PyProof.Rows
/-! ### states by == and != -/
section
variable {X : Cx}
theorem hu_eqD (K : PySem.W.Frag) (hu : X.A.units + 64 < cLine) (hK : X.K = K := by rfl) : OpR X (compareOp .Eq) (rEqD K) := by subst hK; exact op_eqD hu
theorem hu_neD (K : PySem.W.Frag) (hu : X.A.units + 64 < cLine) (hK : X.K = K := by rfl) : OpR X (compareOp .NotEq) (rNeD K) := by subst hK; exact op_neD hu
end
end L2
namespace Hue
open PySem PySem.Spec PyProof.Rows L2
/-- a state as plain data -/
def stD (S : List Int) : PyData := .tuple (S.map .int)
theorem ints_dp {K : PySem.W.Frag} {H : Hp} : ∀ S : List Int, DpAll K H (stV S) (S.map .int)
  | [] => .nil
  | z :: S => .cons (.int z) (ints_dp S)
theorem st_dp {K : PySem.W.Frag} {H : Hp} {a : Addr} {S : List Int} (h : H a = some (.tup (stV S))) : Dp K H (.ref a) (stD S) := .tup (SqT.of h) (ints_dp S)
theorem ints_lay : ∀ S : List Int, PyData.canLayAll0 (S.map .int) = true
  | [] => by simp [PyData.canLayAll0]
  | z :: S => by simp [PyData.canLayAll0, PyData.canLay0, ints_lay S]
theorem ints_deep : ∀ S : List Int, PyData.depthAll (S.map .int) ≤ 1
  | [] => by simp [PyData.depthAll]
  | z :: S => by
    have := ints_deep S
    simp only [List.map_cons, PyData.depthAll, PyData.depth]
    omega
theorem st_shaped (S : List Int) : SeqAt.shaped (stD S) = true := by
  have h1 := ints_deep S
  have h2 : PyData.depth (stD S) ≤ 64 := by
    simp only [stD, PyData.depth]
    omega
  show (PyData.canLay0 (stD S) && decide (PyData.depth (stD S) ≤ 64)) = true
  rw [decide_eq_true h2, Bool.and_true]
  show PyData.canLay0 (.tuple (S.map .int)) = true
  simp only [PyData.canLay0]
  exact ints_lay S
theorem ints_eqv : ∀ S T : List Int, PyData.eqvAll (S.map .int) (T.map .int) = decide (S = T)
  | [], [] => by simp [PyData.eqvAll]
  | [], _ :: _ => by simp [PyData.eqvAll]
  | _ :: _, [] => by simp [PyData.eqvAll]
  | z :: S, y :: T => by
    simp only [List.map_cons, PyData.eqvAll, PyData.eqv, ints_eqv S T]
    by_cases e : z = y
    · by_cases e2 : S = T
      · simp [e, e2]
      · simp [e, e2]
    · simp [e]
theorem st_eqv (S T : List Int) : PyData.eqv (stD S) (stD T) = decide (S = T) := by
  simp only [stD, PyData.eqv]
  exact ints_eqv S T
end Hue

end
section
set_option maxRecDepth 100000
namespace L2
open PySem PySem.Spec PyProof.Rows
/-! ### repr of plain data, where no repr is under way -/
def rRepr (K : PySem.W.Frag) : List V → Hp → VK → Prop := fun xs H Q => ∃ x d, xs = [x] ∧ Dp K H x d ∧ d.showable = true ∧ d.hasDict = false ∧ d.depth ≤ 64 ∧ d.shown.length ≤ sizeLine ∧ Q (.str d.shown) H
theorem cr_repr {X : Cx} (hg : X.A.guards = some []) (hu : X.A.units + 100 < cLine) : CallR X (.builtin "repr") (rRepr X.K) := by
  intro pins s σ H xs us Q I r h
  obtain ⟨x, d, rfl, hd, hs, hno, hdep, hz, q⟩ := h
  cases r with
  | cons ru rn =>
    rename_i u us'
    cases rn
    obtain ⟨as, rd⟩ := Dp.reads I d x u hd ru
    have leaf : ∀ (y : Str) (tk : Nat), d.shown = y → EP X pins σ Q (.str y s.toks) { s with toks := tk } := fun y tk e => ⟨.str y, H, I.tok tk, ⟨_, rfl⟩, e ▸ q⟩
    cases rd with
    | none => exact PySem.P.repr_of_none (leaf _ _ rfl)
    | bool b => exact PySem.P.repr_of_bool (leaf _ _ (by cases b <;> rfl))
    | int i t => exact PySem.P.repr_of_int (of_decide_eq_true hs) (leaf _ _ rfl)
    | str y t => exact PySem.P.repr_of_str (leaf _ _ rfl) hz
    | list h1 h2 h3 h4 => exact repr_of_reads' (.list h1 h2 h3 h4) hs (fun z => by rw [hno] at z; cases z) hg (by omega) (fun b o e => e) (fun h' u tk hk => ⟨.str _, H, I.kept hk, ⟨u, rfl⟩, q⟩) hz
    | tuple h1 h2 h3 h4 => exact repr_of_reads' (.tuple h1 h2 h3 h4) hs (fun z => by rw [hno] at z; cases z) hg (by omega) (fun b o e => e) (fun h' u tk hk => ⟨.str _, H, I.kept hk, ⟨u, rfl⟩, q⟩) hz
    | dict h1 h2 h3 h4 h5 => cases hd
end L2

end
section
set_option maxRecDepth 100000
namespace L2
open PySem PySem.Spec PyProof.Rows
/-! ### a def's promise where no repr is under way around it -/
structure GOk (P : Program) (w : World) (K : PySem.W.Frag) (mg : Str → Option Value) (base : Heap) (CX : CXT) (k : Nat) (f : Addr) (fd : FuncData) (ps : List Str) (sp : Sp) : Prop where
  ln : ∀ vs H Q E, sp vs H Q E → vs.length = ps.length
  go : ∀ A : Around, A.guards = some [] → ∀ (outer : List Env) (s : Shared) (H : Hp) (args : Args) (us : List Value) (vs : List V) (Q : VK) (E : XK), Room k A → Env0 P w K mg base A outer s H → BindsTo s fd args (ps.zip us) → Vals vs us → sp vs H Q E →
    codeAny (model P w) A (.call (.ref f) args) (CR CX outer P w H s Q E) s
section
variable {P : Program} {w : World} {K : PySem.W.Frag} {mg : Str → Option Value} {base : Heap} {CX : CXT} {k : Nat} {f : Addr} {fd : FuncData} {N ps : List Str} {sp : Sp}
/-- what holds everywhere holds there too -/
theorem FnOk.g (F : FnOk P w K mg base CX k f fd ps sp) : GOk P w K mg base CX k f fd ps sp := ⟨F.len, fun A _ => F.run A⟩
/-- by the body, which may know that the guards are none -/
theorem g_of {name qual : Str} {params : Arguments} {body : List Stmt} {scope : Scope} {dV kV doc pm cdv ct oc : Value} {an od : Option Addr} {osl : Array (Option Value)}
    (at_f : K.lookup f = some ⟨oc, od, .func (PySem.W.fnOf name qual params body scope dV kV doc pm an cdv ct), osl⟩) (code : PySem.W.codeIn K cdv qual = true) (S : FnScope N ps scope) (ln : ∀ vs H Q E, sp vs H Q E → vs.length = ps.length)
    (bd : ∀ A : Around, A.guards = some [] → ∀ (outer : List Env) (s : Shared) (H : Hp) (vs : List V) (Q : VK) (E : XK), Room k (A.deeper (envOfC qual scope s.heap.objs.size f cdv)) → sp vs H Q E →
      ∃ t, PSs (cxOf CX P w K mg base N qual scope f cdv A outer s H E) body t ∧ t { nx := fun _ H' => Q .non H', rt := Q } (start N vs) H) :
    GOk P w K mg base CX (k + 1) f (PySem.W.fnOf name qual params body scope dV kV doc pm an cdv ct) ps sp := by
  constructor
  · exact ln
  intro A gA outer s H args us vs Q E room env bnd vals want
  have kept0 : ∀ c ob, base.get? c = some ob → s.heap.get? c = some ob := fun c ob z => (env.bs c ob z).1
  have inK := env.mod.kin.keeps kept0
  refine codeAny_call_function room.depth (inK _ _ at_f) rfl S.co S.gen rfl (PySem.W.codeRec_of inK code) (bnd _ _ _ _ ?_)
  refine wpAny_newFunctionEnv_cells S.kind ?_ fun en en_is s1 fresh => ?_
  · rintro ⟨n, v⟩ mem
    exact (S.par n (List.of_mem_zip mem).1).imp id fun cell => ⟨cell, PySem.W.cellsFrom_some _ _ _ (.inl cell)⟩
  subst en_is
  refine ⟨(env.mod.nolimit.keeps kept0).keeps fresh.toInCall.keep, codeAny_func ?_⟩
  obtain ⟨t, rd, start_ok⟩ := bd A gA outer s H vs Q E (room.deeper _) want
  refine wpAny_mono (rd.run [] s1 (start N vs) H _ (inv_start S room.hd env (ln _ _ _ _ want) vals fresh) start_ok) (fun fl s' ended => ?_) fun _ _ z => z
  cases fl with
  | ret u =>
    obtain ⟨v, _, H', J, rv, q⟩ := ended
    exact ⟨v, H', J.os, J.bare, J.base, J.hok, rv, q⟩
  | next =>
    obtain ⟨_, H', J, q⟩ := ended
    exact ⟨V.non, H', J.os, J.bare, J.base, J.hok, rfl, q⟩
  | brk => exact ended.choose_spec.choose_spec.2.elim
  | cont => exact ended.choose_spec.choose_spec.2.elim
/-- a def of the text, no defaults, nothing leaves it -/
theorem Fun.okG {x qual : Str} {st : Stmt} (F : Fun K x qual st f fd) (S : FnScope N ps (defScope st)) (ln : ∀ vs H Q E, sp vs H Q E → vs.length = ps.length)
    (bd : ∀ (cdv : Value) (A : Around), A.guards = some [] → ∀ (outer : List Env) (s : Shared) (H : Hp) (vs : List V) (Q : VK) (E : XK), Room k (A.deeper (envOfC qual (defScope st) s.heap.objs.size f cdv)) → sp vs H Q E →
      ∃ t, PSs (cxOf CX0 P w K mg base N qual (defScope st) f cdv A outer s H E).nox (defBody st) t ∧ t { nx := fun _ H' => Q .non H', rt := Q } (start N vs) H) : GOk P w K mg base CX0 (k + 1) f fd ps sp := by
  obtain ⟨oc, od, kV, doc, pm, an, cdv, ct, osl, rfl, at_f, code⟩ := F.ex
  refine g_of at_f code S ln fun A gA outer s H vs Q E room want => ?_
  obtain ⟨t, rd, q⟩ := bd cdv A gA outer s H vs Q E room want
  exact ⟨t, rd.nox, q⟩
/-- such a def under its name -/
structure CalG (P : Program) (w : World) (K : PySem.W.Frag) (mg : Str → Option Value) (base : Heap) (x : Str) (k : Nat) (sp : Sp) : Prop where
  ex : ∃ (f : Addr) (fd : FuncData) (ps : List Str), GOk P w K mg base CX0 k f fd ps sp ∧ mg x = some (.ref f) ∧ PySem.W.keepIn K (.ref f) = true ∧ Binds K fd ps []
end
section
variable {X : Cx} {e : Expr} {es : List Expr} {t : TA} {x : Str} {k : Nat} {sp : Sp} {p pos : Pos}
theorem pe_calG (c : CalG X.prog X.w X.K X.mg X.base x k sp) (gX : X.A.guards = some []) (hr : Room k X.A) (ha : PA X (e :: es) t) (hg : Gl X x := by rfl) (hdb : (x == ("__debug__" : Str)) = false := by decide)
    (he : starEach (e :: es) X.env = (false, eval e X.env) :: starEach es X.env := by rfl) (hpl : (backTo pos (starEach es X.env)).any (·.1) = false := by rfl) :
    PE X (.Call (.Name x p) (e :: es) [] pos) (tCal sp t) := by
  obtain ⟨f, fd, ps, F, hm, hk, hb⟩ := c.ex
  refine ⟨fun pins s σ H Q I h => wpAny_Call_Name_kw (ld_glob I hg hm ?_ hdb)⟩
  refine PySem.W.callWith_K (h₀ := X.base) I.ok.mod.kin hk (thn (ha.run pos pins s σ H _ I h) fun us s1 got => ?_) he hpl
  obtain ⟨vs, H1, I1, rv, want⟩ := got
  refine ⟨I1.kIn, wpAny_call ?_⟩
  have n := rv.length ▸ F.ln _ _ _ _ want
  have bnd := hb s1 us I1.kIn (by rw [List.append_nil]; exact n)
  rw [List.append_nil] at bnd
  refine codeAny_mono (F.go X.A gX X.stack s1 H1 ⟨us, []⟩ us vs Q E0 hr I1.env0 bnd rv want) fun r s' ended => ?_
  match r, ended with
  | .ok (.ret u), z => exact I1.after z
  | .ok .next, z => exact z.elim
  | .ok .brk, z => exact z.elim
  | .ok .cont, z => exact z.elim
  | .error _, z => exact z.elim
end
end L2

end
section
set_option maxRecDepth 100000
namespace L2
open PySem PySem.Spec PyProof.Rows
/-! ### the end, by a promise that wants no guards -/
section
variable {P : Program} {w : World} {K : PySem.W.Frag} {mg mb : Str → Option Value} {k : Nat} {fa a : Addr} {fd : FuncData} {x : Str} {sp : Sp} {s1 : Shared} {vs : List Value} {ns : List Int}
/-- the heap in which the script alone may be tracked, and only if it is none of the text's own objects -/
def scrH (K : PySem.W.Frag) (a : Addr) (vs : List Value) (ns : List Int) : Hp := fun b => if b = a ∧ K.lookup a = none then some (.frz { cls := .type "list", data := .seq vs.toArray } (.lst (ns.map V.int))) else none
theorem scrH_some {b : Addr} {o : HO} (h : scrH K a vs ns b = some o) : b = a ∧ K.lookup a = none ∧ o = .frz { cls := .type "list", data := .seq vs.toArray } (.lst (ns.map V.int)) := by
  unfold scrH at h
  split at h
  · rename_i c
    cases h
    exact ⟨c.1, c.2, rfl⟩
  · cases h
theorem scrH_only : Only (scrH K a vs ns) := fun b => by
  cases e : scrH K a vs ns b with
  | none => exact .inl rfl
  | some o => exact .inr ⟨_, _, congrArg some (scrH_some e).2.2⟩
theorem scr_call (inK : K.In s1.heap) (tops : s1.heap.Ns mainGlobals mg) (blt : s1.heap.Ns builtinsNs mb) (boot : ∀ x : Str, x ≠ "__name__" → mb x = bootBuiltins x) (lim : s1.heap.NoLimit) (none_run : s1.gens = #[])
    (obj : s1.heap.get? a = some { cls := .type "list", data := .seq vs.toArray }) (isI : IntsAre vs ns) (few : ns.length ≤ sizeLine) (room : Room k callerA)
    (F : ∀ base : Heap, K.In base → base.Ns mainGlobals mg → GOk P w K mg base CX0 k fa fd [x] sp) (bnd : ∀ (s : Shared) (u : Value), BindsTo s fd ⟨[u], []⟩ [(x, u)])
    (want : ∀ H : Hp, Only H → SqL K H a (ns.map V.int) → sp [.ref a] H (fun v _ => v = .bl true) fun _ _ _ => False) :
    codeAny (model P w) callerA (.call (.ref fa) ⟨[.ref a], []⟩) (fun r s' => r = .ok (.ret (.bool true)) ∧ OldK s1.heap s'.heap ∧ s'.os = s1.os ∧ AllBare s'.gens) s1 := by
  have vals := vals_ints isI
  have lv := isI.length
  have stand : ∀ {b : Addr} {o : Obj}, s1.heap.get? b = some o → b ≠ a ∨ K.lookup a ≠ none → (hidT s1.heap (scrH K a vs ns)).get? b = some o := fun {b o} e c => hidT_get e (by
    cases z : scrH K a vs ns b with
    | none => rfl
    | some u =>
      obtain ⟨z1, z2, _⟩ := scrH_some z
      rcases c with c | c
      · exact absurd z1 c
      · exact absurd z2 c)
  have dicts : ∀ {b : Addr} {o : Obj} {es : Array DictEntry} {ep : Nat}, s1.heap.get? b = some o → o.data = .dict es ep → b ≠ a := fun {b o es ep} e d z => by
    rw [z, obj] at e
    cases e
    cases d
  have spaces : ∀ {b : Addr} {m : Str → Option Value}, s1.heap.Ns b m → (hidT s1.heap (scrH K a vs ns)).Ns b m := fun {b m} ns => by
    obtain ⟨o, es, ep, e, d, r⟩ := ns
    exact ⟨o, es, ep, stand e (.inl (dicts e d)), d, r⟩
  have inB : K.In (hidT s1.heap (scrH K a vs ns)) := fun b o e => stand (inK b o e) (by
    by_cases z : b = a
    · exact .inr fun n => by rw [← z, e] at n; cases n
    · exact .inl z)
  have limB : (hidT s1.heap (scrH K a vs ns)).NoLimit := let ⟨mc, h1, h2⟩ := lim; ⟨mc, spaces h1, h2⟩
  have long : (ns.map V.int).length ≤ sizeLine := by rw [List.length_map]; exact few
  have ok : HOk P w (scrH K a vs ns) s1.heap := fun b o e => by
    obtain ⟨rfl, _, rfl⟩ := scrH_some e
    exact ⟨obj, long, vs, _, vals, obj⟩
  have listed : SqL K (scrH K a vs ns) a (ns.map V.int) := by
    cases lk : K.lookup a with
    | none => exact .inl (.inr ⟨_, if_pos ⟨rfl, lk⟩⟩)
    | some o =>
      have e := (inK a o lk).symm.trans obj
      cases e
      exact .inr ⟨_, vs.toArray, _, lk, rfl, rfl, rfl, by rw [List.size_toArray, lv]; exact few, by simpa using vals⟩
  have env : Env0 P w K mg (hidT s1.heap (scrH K a vs ns)) callerA [] s1 (scrH K a vs ns) :=
    { frames := rfl, mod := ⟨inB, spaces tops, ⟨mb, spaces blt, boot⟩, limB⟩, bs := fun b o e => of_hidT e, bsz := Nat.le_of_eq (hidT_size _ _), funs := trivial, frf := fun b z => (List.not_mem_nil z).elim, hok := ok, bare := .of_eq none_run }
  refine codeAny_mono ((F _ inB (spaces tops)).go callerA rfl [] s1 _ ⟨[.ref a], []⟩ [.ref a] [.ref a] _ _ room env (bnd s1 (.ref a)) (.cons rfl .nil) (want _ scrH_only listed)) fun r s' ended => ?_
  match r, ended with
  | .ok (.ret u), z =>
    obtain ⟨v, H', os, bare, un, ok', rv, q⟩ := z
    have ev : v = .bl true := q
    rw [ev] at rv
    cases rv
    refine ⟨rfl, .of_keep fun b o e => ?_, os, bare⟩
    cases n : scrH K a vs ns b with
    | none => exact un.keep b o e n List.not_mem_nil List.not_mem_nil
    | some t =>
      obtain ⟨rfl, _, rfl⟩ := scrH_some n
      have same := (ok' b _ (un.frzs b _ _ n)).1
      rw [obj] at e
      cases e
      exact same
  | .ok .next, z => exact z.elim
  | .ok .brk, z => exact z.elim
  | .ok .cont, z => exact z.elim
  | .error _, z => exact z.elim
end
theorem walk_ofG {l : PySem.W.OpenLaw} {n k : Nat} {q : Program} {loose : List Str} {XP : (Str → Option Value) → Heap → Prop} {YP : World → Heap → Prop} {d : DefRec} {K : Params → PySem.W.Frag} {sp : World → Sp} {x : Str}
    (hn : l.most = some n) (hn2 : n ≤ sizeLine) (hdf : d.params.defaults = []) (room : Room k callerA) (hY : ∀ (w : World) (h : Heap), YP w h → (K w.params).In h)
    (F : ∀ (w : World) (mg : Str → Option Value) (fa : Addr) (h : Heap), (K w.params).In h → h.Ns mainGlobals mg → mg d.name = some (.ref fa) →
      ∃ fd : FuncData, (∀ (s : Shared) (u : Value), BindsTo s fd ⟨[u], []⟩ [(x, u)]) ∧ ∀ base : Heap, (K w.params).In base → base.Ns mainGlobals mg → GOk l.prog w (K w.params) mg base CX0 k fa fd [x] (sp w))
    (want : ∀ (w : World) (H : Hp) (a : Addr) (ns : List Int), ns.length ≤ n → Only H → SqL (K w.params) H a (ns.map V.int) → sp w [.ref a] H (fun v _ => v = .bl true) fun _ _ _ => False) :
    PySem.W.WalkO q loose XP YP l.row.toRowW d [] (fun f vs => PySem.call f vs) := by
  refine Att.attach_call hn hdf fun w s0 s1 mg mb fa o pm cd doc a vs ns G Y _ _ _ named obj isI len none_run => ?_
  obtain ⟨fd, bnd, ok⟩ := F w mg fa _ (hY w _ Y) G.T.g named
  exact scr_call (hY w _ Y) G.T.g G.T.b G.T.builtins G.T.nolimit none_run obj isI (Nat.le_trans len hn2) room ok bnd fun H hO hS => want w H a ns len hO hS
end L2

end
section
set_option maxRecDepth 100000
namespace L2
open PySem PySem.Spec PyProof.Rows
/-! ### own exceptions with a field -/
/-- what an own exception class at C must have -/
structure XCls (K : PySem.W.Frag) (C : Addr) : Prop where
  oex : OexC K C
  xf : XfC K C
  ca : PySem.W.findIn K (.ref C) "__class__" = some (some (.builtin "object.__class__"))
  mo : PySem.W.mroIn K C (.type "object") = some true
structure XGlob (K : PySem.W.Frag) : Prop where
  gs : PySem.W.specialIn K (.builtin "object.__class__") "__get__" = some (some (.builtin "getset_descriptor.__get__"))
  tk : PySem.W.takesIn K (.builtin "object.__class__") = some true
/-- isinstance of the exception at a (class cls, dict d) -/
def rIsX (K : PySem.W.Frag) (a : Addr) (cls : Value) (C : Addr) (d : Option Addr) : List V → Hp → VK → Prop := fun xs H Q => cls = .ref C ∧ (∃ (dd : Addr) (fs : List (Str × V)), d = some dd ∧ H dd = some (.xd fs)) ∧
  ((∃ (D : Addr) (b : Bool), xs = [.ref a, .ref D] ∧ PySem.W.kitOne K (.ref C) (.ref D) = some b ∧ Q (.bl b) H) ∨
    (∃ (n : String) (b : Bool), xs = [.ref a, .ty n] ∧ PySem.W.kitOne K (.ref C) (.type n) = some b ∧ Q (.bl b) H) ∨
    ∃ (tp : Addr) (ds : List Addr) (b : Bool), xs = [.ref a, .ref tp] ∧ H tp = some (.tup (ds.map V.ref)) ∧ PySem.W.kitAny K (.ref C) (ds.map Value.ref) = some b ∧ Q (.bl b) H)
theorem refs_vals : ∀ {ds : List Addr} {us : List Value}, Vals (ds.map V.ref) us → us = ds.map Value.ref
  | [], _, .nil => rfl
  | d :: ds, _, .cons h r => by
    cases h
    rw [refs_vals r]
    rfl
theorem cr_isX {X : Cx} {a C : Addr} {cls : Value} {oe : Obj} {d : Option Addr} {pn : List (Addr × Obj)} (T : XCls X.K C) (G : XGlob X.K) (hz : Zc cls d oe) (hf : ∃ vs, oe.data = .fields vs) : CallR (X.suite a ((a, oe) :: pn)) (.builtin "isinstance") (rIsX X.K a cls C d) := by
  intro pins s σ H xs us Q I r h
  obtain ⟨ec, ⟨dd, fs, ed, hdd⟩, h⟩ := h
  subst ec
  subst ed
  obtain ⟨hget, _⟩ := I.pin (a, oe) (List.mem_append.mpr (.inl List.mem_cons_self))
  obtain ⟨fv, hv⟩ := hf
  have hx : ObjOk X.prog X.w H s.heap dd (.xd fs) := I.hok dd _ hdd
  obtain ⟨mA, hns, _⟩ := hx
  obtain ⟨od, ho, _⟩ := lookIn_ns hns
  have J : PySem.W.InstAt s.heap a oe C (some od) := ⟨hget, hz.1, by unfold PySem.W.notCls; rw [hv] <;> rfl, by rw [hz.2]; exact ho⟩
  have some_cls : (PySem.W.clsIn X.K C).isSome = true := by
    obtain ⟨nm, q, N, bs, bm, sn, sub, ab, col, dd, k0, k1, k2, k3, k5, hC, _⟩ := T.oex.cls
    unfold PySem.W.clsIn
    rw [hC] <;> rfl
  have Z := PySem.W.kitx_exc (x := a) (ox := oe) (od := some od) some_cls T.xf.ga T.xf.gg T.xf.exC T.ca G.gs G.tk T.mo
  have fin : ∀ b : Bool, Q (.bl b) H → ∀ tk, EP (X.suite a ((a, oe) :: pn)) pins σ Q (.bool b) { s with toks := tk } := fun b q tk => ⟨.bl b, H, I.tok tk, rfl, q⟩
  rcases h with ⟨D, b, rfl, e, q⟩ | ⟨n, b, rfl, e, q⟩ | ⟨tp, ds, b, rfl, ht, e, q⟩
  · cases r with
    | cons r1 r2 => cases r2 with
      | cons r2 r3 =>
        cases r3
        cases r1
        cases r2
        exact PySem.W.kia_one Z I.kIn J e (fun z => nomatch z) (fin b q)
  · cases r with
    | cons r1 r2 => cases r2 with
      | cons r2 r3 =>
        cases r3
        cases r1
        cases r2
        exact PySem.W.kia_one Z I.kIn J e (fun z => nomatch z) (fin b q)
  · cases r with
    | cons r1 r2 => cases r2 with
      | cons r2 r3 =>
        cases r3
        cases r1
        cases r2
        obtain ⟨_, its, rv, ⟨o, ho, hc, n, hd⟩⟩ := I.hok tp _ ht
        have ei := refs_vals rv
        subst ei
        obtain ⟨oc, odd, oda, osl⟩ := o
        cases hc
        cases hd
        exact PySem.W.kia_tup Z I.kIn J ho e (fun z => nomatch z) (fin b q)
/-! ### defs and methods that may raise -/
structure CalX (P : Program) (w : World) (K : PySem.W.Frag) (mg : Str → Option Value) (base : Heap) (x : Str) (k : Nat) (sp : Sp) : Prop where
  ex : ∃ (f : Addr) (fd : FuncData) (ps : List Str), FnOk P w K mg base (L2.CX P w) k f fd ps sp ∧ mg x = some (.ref f) ∧ PySem.W.keepIn K (.ref f) = true ∧ Binds K fd ps []
structure MCalX (P : Program) (w : World) (K : PySem.W.Frag) (mg : Str → Option Value) (base : Heap) (C : Addr) (m : Str) (k : Nat) (sp : Sp) : Prop where
  ex : ∃ (f : Addr) (fd : FuncData) (ps : List Str), FnOk P w K mg base (L2.CX P w) k f fd ps sp ∧ Meth K C m f ∧ Binds K fd ps []
section
variable {X : Cx} {e o : Expr} {es : List Expr} {t : TA} {ta : TE} {x m : Str} {k : Nat} {sp : Sp} {C : Addr} {E : XK} {W : WX} {p pos apos : Pos}
/-- what a callee lets out goes on -/
theorem goes_on (tk : Takes X (fun cls d _ H => E cls d H)) : Passes (L2.CX X.prog X.w) X E := fun _ _ _ _ e s' I c => tk e s' (XE.of_call I (fun _ _ _ h => h) c)
def tCalX (sp : Sp) (E : XK) (t : TA) : TE := fun σ H Q => t σ H fun vs H1 => sp vs H1 Q E
theorem pe_calX (c : CalX X.prog X.w X.K X.mg X.base x k sp) (tk : Takes X (fun cls d _ H => E cls d H)) (hr : Room k X.A) (ha : PA X (e :: es) t) (hg : Gl X x := by rfl) (hdb : (x == ("__debug__" : Str)) = false := by decide)
    (he : starEach (e :: es) X.env = (false, eval e X.env) :: starEach es X.env := by rfl) (hpl : (backTo pos (starEach es X.env)).any (·.1) = false := by rfl) :
    PE X (.Call (.Name x p) (e :: es) [] pos) (tCalX sp E t) := by
  obtain ⟨f, fd, ps, F, hm, hk, hb⟩ := c.ex
  refine (pe_call F hr hg hm hk hb .nil (goes_on tk) ha hdb he hpl).to fun σ H Q q => ?_
  have q' : t σ H fun vs H1 => sp vs H1 Q E := q
  show t σ H fun vs H1 => sp (vs ++ []) H1 Q E
  simpa only [List.append_nil] using q'
/-- the same where a try of the def's own takes it: wished for at the slots -/
theorem pe_calW (c : CalX X.prog X.w X.K X.mg X.base x k sp) (tk : Takes X W) (hr : Room k X.A) (ha : PA X (e :: es) t) (hg : Gl X x := by rfl) (hdb : (x == ("__debug__" : Str)) = false := by decide)
    (he : starEach (e :: es) X.env = (false, eval e X.env) :: starEach es X.env := by rfl) (hpl : (backTo pos (starEach es X.env)).any (·.1) = false := by rfl) :
    PE X (.Call (.Name x p) (e :: es) [] pos) (tCallS sp (WE W) t) := by
  obtain ⟨f, fd, ps, F, hm, hk, hb⟩ := c.ex
  exact pe_callS F hr hg hm hk hb (fun σ => passAt tk σ) ha hdb he hpl
/-- a method at the slots -/
def tMethW (C : Addr) (m : Str) (sp : Sp) (W : WX) (ta : TE) (t : TA) : TE := fun σ H Q => ta σ H fun y H1 => ∃ a dx fs, y = .ref a ∧ H1 a = some (.ins C dx fs) ∧ fs.lookup m = none ∧ t σ H1 fun vs H2 => sp (y :: vs) H2 Q (WE W σ)
theorem pe_methW {pl : Sem Bool} (ho : PE X o ta) (cl : Cls X.K C) (M : MCalX X.prog X.w X.K X.mg X.base C m k sp) (tk : Takes X W) (hr : Room k X.A) (ha : PA X (e :: es) t)
    (hst : starEach (e :: es) X.env = (false, eval e X.env) :: starEach es X.env := by rfl) (hpl : (backTo pos (starEach es X.env)).any (·.1) = false := by rfl)
    (shape : eval (.Call (.Attribute o m apos) (e :: es) [] pos) X.env = (do let ov ← eval o X.env; standAt apos.atName; let (f, first) ← holding [ov] (getMethod ov m pl); callWith pos f first (backTo pos (starEach (e :: es) X.env)) (backToKw pos (keywordEach [] X.env))) := by rfl) :
    PE X (.Call (.Attribute o m apos) (e :: es) [] pos) (tMethW C m sp W ta t) := by
  obtain ⟨f, fd, ps, F, hm, hb⟩ := M.ex
  refine ⟨fun pins s σ H Q I h => PySem.W.methodCall_KW (pl := pl) (thn (ho.run pins s σ H _ I h) fun u s1 got => ?_) shape⟩
  obtain ⟨y, H1, I1, ry, a, dx, fs, rfl, ea, l, q⟩ := got
  cases ry
  refine getmeth_ok I1 ea cl hm l (PySem.W.callWith_K (first := [.ref a]) (h₀ := X.base) I.ok.mod.kin hm.kp (thn (ha.run pos pins s1 σ H1 _ I1 q) fun us s2 got => ?_) hst hpl)
  obtain ⟨vs, H2, I2, rv, want⟩ := got
  exact ⟨I2.kIn, run_fnS (us := .ref a :: us) (vs := .ref a :: vs) F hr hb (passAt tk σ) I2 (.cons rfl rv) want⟩
/-- a method whose exceptions leave the def -/
def tMethX (C : Addr) (m : Str) (sp : Sp) (E : XK) (ta : TE) (t : TA) : TE := fun σ H Q => ta σ H fun y H1 => ∃ a dx fs, y = .ref a ∧ H1 a = some (.ins C dx fs) ∧ fs.lookup m = none ∧ t σ H1 fun vs H2 => sp (y :: vs) H2 Q E
/-- raise C(e, ..), C's own __init__ keeping sp -/
theorem ps_raiseX {fI : Addr} {fd : FuncData} {ps : List Str} (calm : X.calm = true) (tk : Takes X W) (T : OexC X.K C) (iC : PySem.W.findIn X.K (.ref C) "__init__" = some (some (.ref fI))) (tI : PySem.W.typeIn X.K (.ref fI) = some (.type "function"))
    (F : FnOk X.prog X.w X.K X.mg X.base CX0 k fI fd ps sp) (hr : Room (k + 1) X.A) (hb : Binds X.K fd ps []) (hm : X.mg x = some (.ref C)) (ha : PA X (e :: es) t) (hg : Gl X x := by rfl)
    (hdb : (x == ("__debug__" : Str)) = false := by decide) (he : starEach (e :: es) X.env = (false, eval e X.env) :: starEach es X.env := by rfl) (hpl : (backTo apos (starEach es X.env)).any (·.1) = false := by rfl) :
    PS X (.Raise (some (.Call (.Name x p) (e :: es) [] apos)) none pos) (fun _ σ H => tMkO C sp [] t σ H fun cls d H' => W cls d σ H') :=
  ps_raise calm tk (pmk_oex T iC tI F hr hb .nil (fun _ _ _ _ _ _ _ z => z.elim) hg hm ha hdb he hpl)
end
/-! ### an __init__ that keeps its one argument in a field -/
def spKeep (K : PySem.W.Frag) (f : Str) : Sp := fun vs H Q _ => ∃ (a C : Addr) (v : V), vs = [.ref a, v] ∧ OexC K C ∧ PySem.W.findIn K (.ref C) f = some none ∧ H a = some (exo a C none) ∧ ∀ dx, H dx = none → dx ≠ a → Q .non (upd (upd H dx (exd dx [(f, v)])) a (exo a C (some dx)))
/-- its raising, as the callers see it -/
theorem keep_raised {K : PySem.W.Frag} {C : Addr} {f : Str} {v : V} {H : Hp} {Q : XK} (T : OexC K C) (hf : PySem.W.findIn K (.ref C) f = some none) (q : ∀ (d : Addr) (H' : Hp), H d = none → Same H H' → H' d = some (.xd [(f, v)]) → Q (.ref C) (some d) H') (a : Addr) (na : H a = none) :
    spKeep K f [.ref a, v] (upd H a (exo a C none)) (fun y H2 => y = .non ∧ ∃ (d : Addr) (fs : List (Str × V)), H2 a = some (exo a C (some d)) ∧ H2 d = some (exd d fs) ∧ H d = none ∧ Q (.ref C) (some d) (upd (del H2 a) d (.xd fs))) fun _ _ _ => False := by
  refine ⟨a, C, v, rfl, T, hf, upd_same, fun dx ndx ne => ⟨rfl, dx, _, upd_same, by rw [upd_ne ne, upd_same], ?_, q dx _ ?_ (fun b o e => ?_) upd_same⟩⟩
  · rw [upd_ne ne] at ndx; exact ndx
  · rw [upd_ne ne] at ndx; exact ndx
  · have nb : b ≠ dx := fun z => by
      rw [upd_ne ne] at ndx
      rw [z, ndx] at e; cases e
    have na' : b ≠ a := fun z => by rw [z, na] at e; cases e
    rw [upd_ne nb, del_ne na', upd_ne na', upd_ne nb, upd_ne na']
    exact e
end L2
namespace L2
open PySem PySem.Spec PyProof.Rows
/-- an exception class with such an __init__, under its name -/
structure XMk (P : Program) (w : World) (K : PySem.W.Frag) (mg : Str → Option Value) (base : Heap) (C : Addr) (x f : Str) : Prop where
  ex : ∃ (fI : Addr) (fd : FuncData) (ps : List Str), FnOk P w K mg base CX0 1 fI fd ps (spKeep K f) ∧ Binds K fd ps [] ∧ PySem.W.findIn K (.ref C) "__init__" = some (some (.ref fI)) ∧ PySem.W.typeIn K (.ref fI) = some (.type "function")
  mg : mg x = some (.ref C)
  cls : XCls K C
  no : PySem.W.findIn K (.ref C) f = some none
section
variable {X : Cx} {e : Expr} {es : List Expr} {t : TA} {x f : Str} {C : Addr} {W : WX} {p pos apos : Pos}
theorem ps_raiseM (M : XMk X.prog X.w X.K X.mg X.base C x f) (calm : X.calm = true) (tk : Takes X W) (hr : Room 2 X.A) (ha : PA X (e :: es) t) (hg : Gl X x := by rfl)
    (hdb : (x == ("__debug__" : Str)) = false := by decide) (he : starEach (e :: es) X.env = (false, eval e X.env) :: starEach es X.env := by rfl) (hpl : (backTo apos (starEach es X.env)).any (·.1) = false := by rfl) :
    PS X (.Raise (some (.Call (.Name x p) (e :: es) [] apos)) none pos) (fun _ σ H => tMkO C (spKeep X.K f) [] t σ H fun cls d H' => W cls d σ H') := by
  obtain ⟨fI, fd, ps, F, hb, iC, tI⟩ := M.ex
  exact ps_raiseX calm tk M.cls.oex iC tI F hr hb M.mg ha hg hdb he hpl
end
/-- where it does not raise, it is as one that never does -/
theorem FnOk.calm {P : Program} {w : World} {K : PySem.W.Frag} {mg : Str → Option Value} {base : Heap} {k : Nat} {f : Addr} {fd : FuncData} {ps : List Str} {sp : Sp} (F : FnOk P w K mg base (L2.CX P w) k f fd ps sp) : FnOk P w K mg base CX0 k f fd ps (fun vs H Q _ => sp vs H Q fun _ _ _ => False) where
  len := fun vs H Q _ h => F.len vs H Q _ h
  run := fun A outer s H args us vs Q _ hr env bnd vals want => codeAny_mono (F.run A outer s H args us vs Q _ hr env bnd vals want) fun r s' z => match r, z with
    | .ok (.ret _), z => z
    | .ok .next, z => z.elim
    | .ok .brk, z => z.elim
    | .ok .cont, z => z.elim
    | .error _, ⟨_, _, _, _, _, _, _, _, _, _, _, _, no⟩ => no.elim
theorem CalX.calm {P : Program} {w : World} {K : PySem.W.Frag} {mg : Str → Option Value} {base : Heap} {x : Str} {k : Nat} {sp sp' : Sp} (c : CalX P w K mg base x k sp) (h : ∀ vs H Q E, sp' vs H Q E → sp vs H Q fun _ _ _ => False) : Cal P w K mg base x k sp' := by
  obtain ⟨f, fd, ps, F, r⟩ := c.ex
  exact ⟨f, fd, ps, F.calm.imp h, r⟩
theorem MCalX.calm {P : Program} {w : World} {K : PySem.W.Frag} {mg : Str → Option Value} {base : Heap} {C : Addr} {m : Str} {k : Nat} {sp sp' : Sp} (c : MCalX P w K mg base C m k sp) (h : ∀ vs H Q E, sp' vs H Q E → sp vs H Q fun _ _ _ => False) : MCal P w K mg base C m k sp' := by
  obtain ⟨f, fd, ps, F, r⟩ := c.ex
  exact ⟨f, fd, ps, F.calm.imp h, r⟩
theorem Cal.imp {P : Program} {w : World} {K : PySem.W.Frag} {mg : Str → Option Value} {base : Heap} {x : Str} {k : Nat} {sp sp' : Sp} (c : Cal P w K mg base x k sp) (h : ∀ vs H Q E, sp' vs H Q E → sp vs H Q E) : Cal P w K mg base x k sp' := by
  obtain ⟨f, fd, ps, F, r⟩ := c.ex
  exact ⟨f, fd, ps, F.imp h, r⟩
end L2

end
section
set_option maxRecDepth 100000
set_option maxHeartbeats 4000000
namespace L2
open PySem PySem.Spec PyProof.Rows
/-! ### try with several except clauses, the first of them with a name, where the first takes what is raised -/
/-- what the first clause wishes of an exception of the body -/
def wFst (K : PySem.W.Frag) (c : Value) (i : Nat) (ts : Addr → Value → Option Addr → TS) (D : Ends) : WX := fun cls d σ H =>
  PySem.W.exmOne K cls c = some true ∧ ∀ a, H a = none → ts a cls d { nx := fun σ' H' => D.nx (σ'.set i none) H', rt := D.rt, bk := fun σ' H' => D.bk (σ'.set i none) H', ct := fun σ' H' => D.ct (σ'.set i none) H' } (σ.set i (some (.ref a))) H
section
variable {X : Cx} {x n : Str} {c : Value} {i : Nat} {body suite : List Stmt} {b₀ : Stmt} {more : List ExceptHandler} {np pos pos' : Pos} {tb : WX → TS} {ts : Addr → Value → Option Addr → TS}
theorem ps_try_first (hs : X.stack = X.env :: X.outer) (hf : X.env.frame = some X.env.locals) (hN : X.N.Nodup) (hi : X.N[i]? = some n) (hln : X.env.kindOf n = some .local) (hc : Names X x c)
    (hb : ∀ (W : WX) (pn : List (Addr × Obj)) (xe : Value → Shared → Prop), Takes (X.tr pn xe) W → PassesOwn (model X.prog X.w) X.A X.env xe → PSs (X.tr pn xe) body (tb W))
    (hsu : ∀ (a : Addr) (oe : Obj) (cls : Value) (d : Option Addr) (pn : List (Addr × Obj)), Zc cls d oe → (∃ vs, oe.data = .fields vs) → PSs (X.suite a ((a, oe) :: pn)) (b₀ :: suite) (ts a cls d)) :
    PS X (.Try body (.ExceptHandler (some (.Name x np)) (some n) (b₀ :: suite) pos' :: more) [] [] pos) (fun D σ H => tb (wFst X.K c i ts D) D σ H) := by
  constructor
  intro pins s σ H D I h
  have ok := I.ok
  have top : X.A.frames = some (X.env :: X.outer) := by rw [ok.frames, hs]
  -- the way out of the suite: the name goes, the rest is kept
  have leave : ∀ {h3 : Heap} {a : Addr} {oe : Obj} {σ6 : St} {H6 : Hp} {s6 : Shared} {Q : Shared → Prop}, Inv (X.suite a ((a, oe) :: (X.pn ++ pins))) [] σ6 H6 s6 → (∀ s7, Inv X pins (σ6.set i none) H6 s7 → Q s7) →
      wpAny (model X.prog X.w) X.A (do bindName X.env n .none; unbindBehindTheSuite X.env n pos') (fun _ s7 => Q s7) X.xe s6 := fun S q => gone_ok (S.unsuite ok) hN hi hln q
  apply wpAny_Try_except
  refine wpAny_mono ((hb _ (X.pn ++ pins) (fun e s₁ => wpAny (model X.prog X.w) X.A (noteFrame e X.env) (fun _ s₂ => wpAny (model X.prog X.w) X.A (setFlight e none) (fun _ s₃ =>
    wpAny (model X.prog X.w) X.A (handleBy e X.env (.ExceptHandler (some (.Name x np)) (some n) (b₀ :: suite) pos' :: more)) (SP X pins D) X.xe s₃) X.xe s₂) X.xe s₁) ?caught PassesOwn.looking).run [] s σ H D (I.toTry _) h) ?done (fun e s1 he => he)
  case done =>
    rintro (_ | _ | _ | u) s1 hsp
    · obtain ⟨σ', H', J, q⟩ := hsp; exact wpAny_execs_nil ⟨σ', H', J.ofTry ok, q⟩
    · obtain ⟨σ', H', J, q⟩ := hsp; exact ⟨σ', H', J.ofTry ok, q⟩
    · obtain ⟨σ', H', J, q⟩ := hsp; exact ⟨σ', H', J.ofTry ok, q⟩
    · obtain ⟨v, σ', H', J, r, q⟩ := hsp; exact ⟨v, σ', H', J.ofTry ok, r, q⟩
  case caught =>
    rintro u s' ⟨a, B, sI, pins', σ', H', cls, d, rfl, J', nb, up, sky, na, os, ag, yes, go⟩
    have J : Inv X pins σ' H' sI := J'.ofTry ok
    rw [hs] at sky
    refine Sky.land Zc.steady top hf sky fun h3 fl3 up3 => ?_
    have J3 : Inv X pins σ' H' { s' with heap := h3 } := J.landed nb fl3.1 (up.trans up3) os ag
    obtain ⟨oe3, vs3, he3, hz3, hd3⟩ := fl3.there
    have far : a ∉ frs (X.env :: X.outer) := fun hm => by
      obtain ⟨_, o', e', hnf⟩ := fl3.2.2.1.mem hm
      rw [he3] at e'
      cases e'
      exact hnf _ hd3
    have nL : a ≠ X.env.locals := fun z => far (List.mem_filterMap.mpr ⟨X.env, List.mem_cons_self, by rw [hf, z]⟩)
    have nF : a ∉ X.fs := fun hm => let ⟨e, he, q⟩ := List.mem_filterMap.mp hm; far (List.mem_filterMap.mpr ⟨e, List.mem_cons_of_mem _ he, q⟩)
    have S3 := J3.suite he3 hd3 na nL nF
    have LT : PySem.W.Looks (model X.prog X.w) h3 (typeOf (.ref a)) cls := fun A Q E s k q => wpAny_typeOf_ref (k _ _ he3) (by rw [hz3.1]; exact q)
    have nameIs : ∀ {Q E : Value → Shared → Prop}, Q c { s' with heap := h3 } → wpAny (model X.prog X.w) (X.A.mark (some (.ref a))) (eval (.Name x np) X.env) Q E { s' with heap := h3 } := fun {Q E} q => by
      rcases hc with ⟨hg, hdbg, hm | ⟨hm, hv, hnn⟩⟩
      · exact ld_glob (X := X.suite a ((a, oe3) :: (X.pn ++ pins))) S3 hg hm q hdbg
      · exact ld_blt (X := X.suite a ((a, oe3) :: (X.pn ++ pins))) S3 hg hm hv q hnn hdbg
    refine wpAny_handleBy_cons (codeAny_handlers_test (nameIs ((PySem.W.exm_one (M := model X.prog X.w) J3.kIn LT yes).here (codeAny_handlers_suite_as (HandSPX.lands_againZ fl3 fun h4 fl4 up4 => ?_))))) (by intro q; cases q)
    have J4 : Inv X pins σ' H' { s' with heap := h4 } := J.landed nb fl4.1 ((up.trans up3).trans up4) os ag
    obtain ⟨oe4, vs4, he4, hz4, hd4⟩ := fl4.there
    refine store_ok (X := X.suite a ((a, oe4) :: (X.pn ++ pins))) (v := .ref a) (J4.suite he4 hd4 na nL nF) hN hi (.inl hln) rfl (fun s5 S5 => ?_) (.inr hln)
    refine wpAny_mono ((hsu a oe4 cls d (X.pn ++ pins) hz4 ⟨_, hd4⟩).run [] s5 _ H' _ S5 (go a na)) ?_ (fun _ _ z => False.elim z)
    rintro (_ | _ | _ | u) s6 hsp
    · obtain ⟨σ6, H6, S6, q6⟩ := hsp; exact leave (h3 := h3) S6 fun s7 J7 => ⟨_, _, J7, q6⟩
    · obtain ⟨σ6, H6, S6, q6⟩ := hsp; exact leave (h3 := h3) S6 fun s7 J7 => ⟨_, _, J7, q6⟩
    · obtain ⟨σ6, H6, S6, q6⟩ := hsp; exact leave (h3 := h3) S6 fun s7 J7 => ⟨_, _, J7, q6⟩
    · obtain ⟨v6, σ6, H6, S6, r6, q6⟩ := hsp; exact leave (h3 := h3) S6 fun s7 J7 => ⟨_, _, _, J7, r6, q6⟩
end
end L2

end
section
set_option maxRecDepth 100000
set_option maxHeartbeats 4000000
namespace L2
open PySem PySem.Spec PyProof.Rows
/-! ### try with two except clauses, both with a name, of which one takes what is raised -/
def wTwo (K : PySem.W.Frag) (c1 c2 : Value) (i1 i2 : Nat) (ts1 ts2 : Addr → Value → Option Addr → TS) (D : Ends) : WX := fun cls d σ H => ∃ b : Bool, PySem.W.exmOne K cls c1 = some b ∧
  (b = true → ∀ a, H a = none → ts1 a cls d { nx := fun σ' H' => D.nx (σ'.set i1 none) H', rt := D.rt, bk := fun σ' H' => D.bk (σ'.set i1 none) H', ct := fun σ' H' => D.ct (σ'.set i1 none) H' } (σ.set i1 (some (.ref a))) H) ∧
  (b = false → PySem.W.exmOne K cls c2 = some true ∧ ∀ a, H a = none → ts2 a cls d { nx := fun σ' H' => D.nx (σ'.set i2 none) H', rt := D.rt, bk := fun σ' H' => D.bk (σ'.set i2 none) H', ct := fun σ' H' => D.ct (σ'.set i2 none) H' } (σ.set i2 (some (.ref a))) H)
section
variable {X : Cx} {x1 x2 n1 n2 : Str} {c1 c2 : Value} {i1 i2 : Nat} {body suite1 suite2 : List Stmt} {b₁ b₂ : Stmt} {np1 np2 pos pos1 pos2 : Pos} {tb : WX → TS} {ts1 ts2 : Addr → Value → Option Addr → TS}
theorem ps_try_two (hs : X.stack = X.env :: X.outer) (hf : X.env.frame = some X.env.locals) (hN : X.N.Nodup) (hi1 : X.N[i1]? = some n1) (hln1 : X.env.kindOf n1 = some .local) (hc1 : Names X x1 c1) (hi2 : X.N[i2]? = some n2) (hln2 : X.env.kindOf n2 = some .local) (hc2 : Names X x2 c2)
    (hb : ∀ (W : WX) (pn : List (Addr × Obj)) (xe : Value → Shared → Prop), Takes (X.tr pn xe) W → PassesOwn (model X.prog X.w) X.A X.env xe → PSs (X.tr pn xe) body (tb W))
    (hsu1 : ∀ (a : Addr) (oe : Obj) (cls : Value) (d : Option Addr) (pn : List (Addr × Obj)), Zc cls d oe → (∃ vs, oe.data = .fields vs) → PSs (X.suite a ((a, oe) :: pn)) (b₁ :: suite1) (ts1 a cls d))
    (hsu2 : ∀ (a : Addr) (oe : Obj) (cls : Value) (d : Option Addr) (pn : List (Addr × Obj)), Zc cls d oe → (∃ vs, oe.data = .fields vs) → PSs (X.suite a ((a, oe) :: pn)) (b₂ :: suite2) (ts2 a cls d)) :
    PS X (.Try body [.ExceptHandler (some (.Name x1 np1)) (some n1) (b₁ :: suite1) pos1, .ExceptHandler (some (.Name x2 np2)) (some n2) (b₂ :: suite2) pos2] [] [] pos) (fun D σ H => tb (wTwo X.K c1 c2 i1 i2 ts1 ts2 D) D σ H) := by
  constructor
  intro pins s σ H D I h
  have ok := I.ok
  have top : X.A.frames = some (X.env :: X.outer) := by rw [ok.frames, hs]
  apply wpAny_Try_except
  refine wpAny_mono ((hb _ (X.pn ++ pins) (fun e s₁ => wpAny (model X.prog X.w) X.A (noteFrame e X.env) (fun _ s₂ => wpAny (model X.prog X.w) X.A (setFlight e none) (fun _ s₃ =>
    wpAny (model X.prog X.w) X.A (handleBy e X.env [.ExceptHandler (some (.Name x1 np1)) (some n1) (b₁ :: suite1) pos1, .ExceptHandler (some (.Name x2 np2)) (some n2) (b₂ :: suite2) pos2]) (SP X pins D) X.xe s₃) X.xe s₂) X.xe s₁) ?caught PassesOwn.looking).run [] s σ H D (I.toTry _) h) ?done (fun e s1 he => he)
  case done =>
    rintro (_ | _ | _ | u) s1 hsp
    · obtain ⟨σ', H', J, q⟩ := hsp; exact wpAny_execs_nil ⟨σ', H', J.ofTry ok, q⟩
    · obtain ⟨σ', H', J, q⟩ := hsp; exact ⟨σ', H', J.ofTry ok, q⟩
    · obtain ⟨σ', H', J, q⟩ := hsp; exact ⟨σ', H', J.ofTry ok, q⟩
    · obtain ⟨v, σ', H', J, r, q⟩ := hsp; exact ⟨v, σ', H', J.ofTry ok, r, q⟩
  case caught =>
    rintro u s' ⟨a, B, sI, pins', σ', H', cls, d, rfl, J', nb, up, sky, na, os, ag, b, hb1, yes1, no1⟩
    have J : Inv X pins σ' H' sI := J'.ofTry ok
    rw [hs] at sky
    refine Sky.land Zc.steady top hf sky fun h3 fl3 up3 => ?_
    have J3 : Inv X pins σ' H' { s' with heap := h3 } := J.landed nb fl3.1 (up.trans up3) os ag
    obtain ⟨oe3, vs3, he3, hz3, hd3⟩ := fl3.there
    have far : a ∉ frs (X.env :: X.outer) := fun hm => by
      obtain ⟨_, o', e', hnf⟩ := fl3.2.2.1.mem hm
      rw [he3] at e'
      cases e'
      exact hnf _ hd3
    have nL : a ≠ X.env.locals := fun z => far (List.mem_filterMap.mpr ⟨X.env, List.mem_cons_self, by rw [hf, z]⟩)
    have nF : a ∉ X.fs := fun hm => let ⟨e, he, q⟩ := List.mem_filterMap.mp hm; far (List.mem_filterMap.mpr ⟨e, List.mem_cons_of_mem _ he, q⟩)
    have S3 := J3.suite he3 hd3 na nL nF
    have LT : PySem.W.Looks (model X.prog X.w) h3 (typeOf (.ref a)) cls := fun A Q E s k q => wpAny_typeOf_ref (k _ _ he3) (by rw [hz3.1]; exact q)
    -- one clause
    have clause : ∀ {x n : Str} {c : Value} {i : Nat} {ts : Addr → Value → Option Addr → TS} {suite : List Stmt} {b₀ : Stmt} {np pos' : Pos} {more : List ExceptHandler} (b : Bool), X.N[i]? = some n → X.env.kindOf n = some .local → Names X x c →
        (∀ (a : Addr) (oe : Obj) (cls : Value) (d : Option Addr) (pn : List (Addr × Obj)), Zc cls d oe → (∃ vs, oe.data = .fields vs) → PSs (X.suite a ((a, oe) :: pn)) (b₀ :: suite) (ts a cls d)) → PySem.W.exmOne X.K cls c = some b →
        (b = true → ∀ a, H' a = none → ts a cls d { nx := fun σ'' H'' => D.nx (σ''.set i none) H'', rt := D.rt, bk := fun σ'' H'' => D.bk (σ''.set i none) H'', ct := fun σ'' H'' => D.ct (σ''.set i none) H'' } (σ'.set i (some (.ref a))) H') →
        (b = false → wpAny (model X.prog X.w) X.A (handleBy (.ref a) X.env more) (SP X pins D) X.xe { s' with heap := h3 }) →
        wpAny (model X.prog X.w) X.A (handleBy (.ref a) X.env (.ExceptHandler (some (.Name x np)) (some n) (b₀ :: suite) pos' :: more)) (SP X pins D) X.xe { s' with heap := h3 } := by
      intro x n c i ts suite b₀ np pos' more b hi hln hc hsu yes go on
      have leave : ∀ {h3 : Heap} {a : Addr} {oe : Obj} {σ6 : St} {H6 : Hp} {s6 : Shared} {Q : Shared → Prop}, Inv (X.suite a ((a, oe) :: (X.pn ++ pins))) [] σ6 H6 s6 → (∀ s7, Inv X pins (σ6.set i none) H6 s7 → Q s7) →
          wpAny (model X.prog X.w) X.A (do bindName X.env n .none; unbindBehindTheSuite X.env n pos') (fun _ s7 => Q s7) X.xe s6 := fun S q => gone_ok (S.unsuite ok) hN hi hln q
      have nameIs : ∀ {Q E : Value → Shared → Prop}, Q c { s' with heap := h3 } → wpAny (model X.prog X.w) (X.A.mark (some (.ref a))) (eval (.Name x np) X.env) Q E { s' with heap := h3 } := fun {Q E} q => by
        rcases hc with ⟨hg, hdbg, hm | ⟨hm, hv, hnn⟩⟩
        · exact ld_glob (X := X.suite a ((a, oe3) :: (X.pn ++ pins))) S3 hg hm q hdbg
        · exact ld_blt (X := X.suite a ((a, oe3) :: (X.pn ++ pins))) S3 hg hm hv q hnn hdbg
      refine wpAny_handleBy_cons (codeAny_handlers_test (nameIs ((PySem.W.exm_one (M := model X.prog X.w) J3.kIn LT yes).here ?_))) (by intro q; cases q)
      cases b with
      | true =>
        refine codeAny_handlers_suite_as (HandSPX.lands_againZ fl3 fun h4 fl4 up4 => ?_)
        have J4 : Inv X pins σ' H' { s' with heap := h4 } := J.landed nb fl4.1 ((up.trans up3).trans up4) os ag
        obtain ⟨oe4, vs4, he4, hz4, hd4⟩ := fl4.there
        refine store_ok (X := X.suite a ((a, oe4) :: (X.pn ++ pins))) (v := .ref a) (J4.suite he4 hd4 na nL nF) hN hi (.inl hln) rfl (fun s5 S5 => ?_) (.inr hln)
        refine wpAny_mono ((hsu a oe4 cls d (X.pn ++ pins) hz4 ⟨_, hd4⟩).run [] s5 _ H' _ S5 (go rfl a na)) ?_ (fun _ _ z => False.elim z)
        rintro (_ | _ | _ | u) s6 hsp
        · obtain ⟨σ6, H6, S6, q6⟩ := hsp; exact leave (h3 := h3) S6 fun s7 J7 => ⟨_, _, J7, q6⟩
        · obtain ⟨σ6, H6, S6, q6⟩ := hsp; exact leave (h3 := h3) S6 fun s7 J7 => ⟨_, _, J7, q6⟩
        · obtain ⟨σ6, H6, S6, q6⟩ := hsp; exact leave (h3 := h3) S6 fun s7 J7 => ⟨_, _, J7, q6⟩
        · obtain ⟨v6, σ6, H6, S6, r6, q6⟩ := hsp; exact leave (h3 := h3) S6 fun s7 J7 => ⟨_, _, _, J7, r6, q6⟩
      | false => exact on rfl
    refine clause b hi1 hln1 hc1 hsu1 hb1 yes1 fun e => ?_
    obtain ⟨hb2, go2⟩ := no1 e
    exact clause true hi2 hln2 hc2 hsu2 hb2 (fun _ => go2) (by intro q; cases q)
end
section
variable {X : Cx} {o e : Expr} {es : List Expr} {to : TE} {t : TA} {name : Str} {apos cpos : Pos} {T id : String} {r : V → List V → Hp → VK → Prop}
/-- a method call inside a try: the reading names K alone, not the try's surroundings -/
theorem pe_bmK (K : PySem.W.Frag) (pa : PlainAttrs T) (slot : Slot T name id) (hty : typeOf (.builtin id) = pure (.type "method_descriptor")) (hm : MtR X id r) (ho : PE X o to) (ha : PA X (e :: es) t)
    (hbase : attributeBase o name X.env (eval o X.env) = eval o X.env := by rfl)
    (hfew : ((backTo cpos (starEach (e :: es) X.env)).all (fun x => !x.1) && (backToKw cpos (keywordEach [] X.env)).all (fun x => x.1.isSome)
      && decide ((e :: es).length + ([] : List Keyword).length + (if ([] : List Keyword).isEmpty then 0 else 1) < 30)) = true := by rfl)
    (hline : (apos.endLine == cpos.line) = true := by rfl) (hs : starEach (e :: es) X.env = (false, eval e X.env) :: starEach es X.env := by rfl) (hplain : (backTo cpos (starEach es X.env)).any (·.1) = false := by rfl) (hK : X.K = K := by rfl) :
    PE X (.Call (.Attribute o name apos) (e :: es) [] cpos) (tBM K T r to t) := by subst hK; exact pe_bm pa slot hty hm ho ha hbase hfew hline hs hplain
end
end L2

end
section
set_option maxRecDepth 100000
set_option maxHeartbeats 4000000
namespace L2
open PySem PySem.Spec PyProof.Rows
/-! ### a tuple once, or many times -/
theorem tuple_mul1 (l : Addr) (items : Array Value) (n : Nat) (dd : Option Addr) (sl : Array (Option Value)) (u : Tok) :
    Meets (Builtin.«tuple.__mul__» ⟨[.ref l, .int 1 u], []⟩) (fun _ R s => s.heap.get? l = some { cls := .type "tuple", dict := dd, data := .seq items n, slots := sl } ∧ R (.ok (.ret (Value.ref l))) s) :=
  .of_wp fun prog w A R s h => by
    obtain ⟨hp, g, d, tk, os⟩ := s
    obtain ⟨hl, h⟩ := h
    have f1 := AutoSeq1.idx_int
    have c1 : (items.isEmpty || (1 : Int) == 1) = true := by rw [show ((1 : Int) == 1) = true from rfl, Bool.or_true]
    wp_walk using wpAny_loadPart' hl
    repeat (first
      | (refine wpAny_ite_true (decide_eq_true c1) ?_; wp_walk using wpAny_loadPart' hl)
      | (refine wpAny_ite_true c1 ?_; wp_walk using wpAny_loadPart' hl))
    all_goals exact ⟨_, rfl, h⟩
def rRepTA (K : PySem.W.Frag) : R2 := fun x y H Q => ∃ l k xs, x = .ref l ∧ y = .int k ∧ SqT K H l xs ∧ xs ≠ [] ∧ 1 ≤ k ∧ k ≤ 1000 ∧ xs.length ≤ 1000 ∧ (k = 1 → Q (.ref l) H) ∧ (2 ≤ k → ∀ p, H p = none → Q (.ref p) (upd H p (.tup (List.replicate k.toNat xs).flatten)))
section
variable {X : Cx}
theorem op_repTA (K : PySem.W.Frag) (hK : X.K = K := by rfl) : OpR X (binaryOp .Mult) (rRepTA K) := by
  subst hK
  intro pins s σ H x y v u Q I rx ry h
  obtain ⟨l, k, xs, rfl, rfl, hT, hne, h1, h2, hz, q1, q2⟩ := h
  rcases Int.lt_or_le 1 k with h3 | h3
  · exact op_repT pins s σ H _ _ v u Q I rx ry ⟨l, k, xs, rfl, rfl, hT, hne, by omega, h2, hz, q2 (by omega)⟩
  obtain rfl : k = 1 := by omega
  cases rx
  obtain ⟨t, rfl⟩ := ry
  obtain ⟨its, r, ⟨⟨cls, dd, data, sl⟩, ho, hc, n, hd⟩, hs⟩ := I.tuple hT
  simp only at hc hd
  subst hc hd
  refine wpAny_binaryOp_repeat_ref (T := "tuple") (U := "int") (by decide) ⟨_, ho, rfl⟩ (fun s' => typeIs_int s' 1 t) noFill_tuple_mul F.fills_int_mul F.slot_int_rmul repeat_tuple F.slot_int_index.lookup
    (call_meets F.slot_int_rmul (typeIs_int s 1 t) F.entry_int_rmul (F.args_int_rmul_2 _ _) (int_rmul_tuple 1 t l its.toArray n dd sl)
      ⟨ho, rfl, ⟨_, ho, rfl⟩, call_meets F.slot_tuple_mul ⟨_, ho, rfl⟩ F.entry_tuple_mul (F.args_tuple_mul_2 _ _) (tuple_mul1 l its.toArray n dd sl t) ⟨ho, ?_⟩⟩)
  exact ⟨.ref l, H, I, rfl, q1 rfl⟩
end
end L2

end
section
set_option maxRecDepth 100000
set_option maxHeartbeats 4000000
namespace L2
open PySem PySem.Spec PyProof.Rows
/-! ### repr of plain data is text of true characters -/
def SOk (x : Str) : Prop := PyData.strOk x = true
theorem SOk.app {a b : Str} (ha : SOk a) (hb : SOk b) : SOk (a ++ b) := by
  unfold SOk PyData.strOk at *
  show (a.cps ++ b.cps).all _ = true
  rw [Array.all_append, ha, hb]
  rfl
theorem SOk.of (s : String) : SOk (Str.ofString s) := by
  unfold SOk PyData.strOk
  rw [Str.ofString_eq_toList]
  rw [Array.all_eq_true']
  intro x hx
  have hx2 : x ∈ s.toList.map Char.toNat := by simpa using hx
  obtain ⟨c, _, rfl⟩ := List.mem_map.mp hx2
  refine decide_eq_true ?_
  have v := c.valid
  have e : c.toNat = c.val.toNat := rfl
  rw [e]
  rcases v with v | ⟨_, v⟩
  · omega
  · exact v
theorem SOk.join {y : Str} (hy : SOk y) : ∀ {ts : List Str}, (∀ t ∈ ts, SOk t) → SOk (Str.join y ts)
  | [], _ => SOk.of ""
  | [t], h => h t List.mem_cons_self
  | t :: u :: r, h => by
    have z := SOk.join hy (ts := u :: r) fun v hv => h v (List.mem_cons_of_mem _ hv)
    show SOk (t ++ y ++ Str.join y (u :: r))
    exact ((h t List.mem_cons_self).app hy).app z
theorem SOk.from_ : ∀ {ts : List Str} {k : Nat} {acc : Str}, SOk acc → (∀ t ∈ ts, SOk t) → SOk (textFrom k acc ts)
  | [], _, _, a, _ => a
  | t :: r, k, acc, a, h => by
    show SOk (textFrom (k + 1) (acc ++ (if k > 0 then ", " else "" : String) ++ t) r)
    exact SOk.from_ ((a.app (SOk.of _)).app (h t List.mem_cons_self)) fun u hu => h u (List.mem_cons_of_mem _ hu)
theorem SOk.all {ds : List PyData} (h : ∀ d ∈ ds, SOk d.shown) : ∀ t ∈ PyData.shownAll ds, SOk t := by
  induction ds with
  | nil => intro t ht; simp [PyData.shownAll] at ht
  | cons d ds ih =>
    intro t ht
    simp only [PyData.shownAll, List.mem_cons] at ht
    rcases ht with e | ht
    · rw [e]; exact h d List.mem_cons_self
    · exact ih (fun e he => h e (List.mem_cons_of_mem _ he)) t ht
theorem SOk.lst {ds : List PyData} (h : ∀ d ∈ ds, SOk d.shown) : SOk (PyData.list ds).shown := by
  rw [show (PyData.list ds).shown = listText (PyData.shownAll ds) by simp only [PyData.shown]]
  exact (SOk.from_ (SOk.of "[") (SOk.all h)).app (SOk.of "]")
theorem SOk.tup {ds : List PyData} (h : ∀ d ∈ ds, SOk d.shown) : SOk (PyData.tuple ds).shown := by
  rw [show (PyData.tuple ds).shown = tupleText (PyData.shownAll ds) by simp only [PyData.shown]]
  exact ((SOk.of "(").app (SOk.join (SOk.of ", ") (SOk.all h))).app (SOk.of _)
theorem SOk.int (i : Int) : SOk (PyData.int i).shown := by
  rw [show (PyData.int i).shown = Str.ofString (toString i) by simp only [PyData.shown]]
  exact SOk.of _
theorem SOk.bool (b : Bool) : SOk (PyData.bool b).shown := by unfold SOk; cases b <;> decide +kernel
theorem SOk.non : SOk PyData.none.shown := by unfold SOk; decide +kernel
theorem SOk.ints (S : List Int) : ∀ d ∈ S.map PyData.int, SOk d.shown := fun d hd => by
  obtain ⟨i, _, rfl⟩ := List.mem_map.mp hd
  exact SOk.int i
end L2

end
section
set_option maxRecDepth 100000
namespace L2
open PySem PySem.Spec PyProof.Rows
/-! ### repr of a text is text of true characters -/
theorem char_ok (c : Char) : c.toNat < 0x110000 := by
  have v := c.valid
  have e : c.toNat = c.val.toNat := rfl
  rw [e]
  rcases v with v | ⟨_, v⟩
  · omega
  · exact v
theorem hex_ok (c w : Nat) : ∀ y ∈ List.replicate (w - ((Nat.toDigits 16 c).map Char.toNat).length) 48 ++ (Nat.toDigits 16 c).map Char.toNat, y < 0x110000 := fun y hy => by
  rcases List.mem_append.mp hy with h | h
  · rw [(List.mem_replicate.mp h).2]; decide
  · obtain ⟨z, _, rfl⟩ := List.mem_map.mp h
    exact char_ok z
theorem reprChar_ok {q c : Nat} (hc : c < 0x110000) : ∀ y ∈ Builtin.Str.reprChar q c, y < 0x110000 := fun y hy => by
  unfold Builtin.Str.reprChar at hy
  have two : ∀ {a b y : Nat}, y ∈ [a, b] → a < 0x110000 → b < 0x110000 → y < 0x110000 := fun {a b y} h ha hb => by
    rcases List.mem_cons.mp h with e | h
    · rw [e]; exact ha
    · rw [List.mem_singleton.mp h]; exact hb
  have three : ∀ {a b w y : Nat}, y ∈ [a, b] ++ (List.replicate (w - ((Nat.toDigits 16 c).map Char.toNat).length) 48 ++ (Nat.toDigits 16 c).map Char.toNat) → a < 0x110000 → b < 0x110000 → y < 0x110000 := fun {a b w y} h ha hb => by
    rcases List.mem_append.mp h with h | h
    · exact two h ha hb
    · exact hex_ok c w y h
  dsimp only at hy
  split at hy
  · exact two hy (by decide) hc
  split at hy
  · exact two hy (by decide) (by decide)
  split at hy
  · exact two hy (by decide) (by decide)
  split at hy
  · exact two hy (by decide) (by decide)
  split at hy
  · rw [List.mem_singleton.mp hy]; exact hc
  split at hy
  · exact three hy (by decide) (by decide)
  split at hy
  · exact three hy (by decide) (by decide)
  · exact three hy (by decide) (by decide)
theorem SOk.iff {x : Str} : SOk x ↔ ∀ y ∈ x.cps.toList, y < 0x110000 := by
  unfold SOk PyData.strOk
  rw [Array.all_eq_true']
  exact ⟨fun a y hy => of_decide_eq_true (a y (by simpa using hy)), fun a y hy => decide_eq_true (a y (by simpa using hy))⟩
theorem foldr_ok {q : Nat} : ∀ (l : List Nat) (acc : Array Nat), (∀ y ∈ l, y < 0x110000) → (∀ y ∈ acc.toList, y < 0x110000) → ∀ y ∈ (l.foldl (fun out c => out ++ (Builtin.Str.reprChar q c).toArray) acc).toList, y < 0x110000
  | [], acc, _, h => h
  | c :: l, acc, hl, h => by
    rw [List.foldl_cons]
    refine foldr_ok l _ (fun y hy => hl y (List.mem_cons_of_mem _ hy)) fun y hy => ?_
    rw [Array.toList_append] at hy
    rcases List.mem_append.mp hy with z | z
    · exact h y z
    · exact reprChar_ok (hl c List.mem_cons_self) y z
theorem SOk.str {x : Str} (h : SOk x) : SOk (PyData.str x).shown := by
  rw [show (PyData.str x).shown = reprText x by simp only [PyData.shown]]
  rw [SOk.iff] at h ⊢
  unfold reprText
  intro y hy
  have qok : reprQuote x < 0x110000 := by unfold reprQuote; split <;> decide
  rw [show ((x.cps.foldl (fun out c => out ++ (Builtin.Str.reprChar (reprQuote x) c).toArray) #[reprQuote x]).push (reprQuote x)).toList = (x.cps.foldl (fun out c => out ++ (Builtin.Str.reprChar (reprQuote x) c).toArray) #[reprQuote x]).toList ++ [reprQuote x] from Array.toList_push ..] at hy
  rcases List.mem_append.mp hy with z | z
  · rw [← Array.foldl_toList] at z
    exact foldr_ok x.cps.toList #[reprQuote x] h (fun y hy => by rw [List.mem_singleton.mp hy]; exact qok) y z
  · rw [List.mem_singleton.mp z]; exact qok
end L2

end
section
set_option maxRecDepth 100000
namespace L2
open PySem PySem.Spec PyProof.Rows
/-! ### masks -/
section
variable {X : Cx}
theorem op_orN : OpR X (binaryOp .BitOr) (fun x y H Q => ∃ a b : Nat, x = .int (a : Int) ∧ y = .int (b : Int) ∧ Q (.int ((a ||| b : Nat) : Int)) H) := by
  intro pins s σ H x y v u Q I rx ry h
  obtain ⟨a, b, rfl, rfl, q⟩ := h
  refine op_or pins s σ H _ _ v u Q I rx ry ⟨_, _, rfl, rfl, ?_⟩
  have e := bitOr_nn (x := (a : Int)) (y := (b : Int)) (by omega) (by omega)
  rw [Int.toNat_natCast, Int.toNat_natCast] at e
  show Q (.int (Builtin.bitOr (a : Int) (b : Int))) H
  rw [e]
  exact q
theorem op_oneN : OpR X (binaryOp .LShift) (fun x y H Q => ∃ k : Nat, x = .int 1 ∧ y = .int (k : Int) ∧ k ≤ 1000 ∧ Q (.int ((2 ^ k : Nat) : Int)) H) := by
  intro pins s σ H x y v u Q I rx ry h
  obtain ⟨k, rfl, rfl, c, q⟩ := h
  refine op_oneShl pins s σ H _ _ v u Q I rx ry ⟨k, rfl, rfl, by omega, ?_⟩
  have e : ((2 : Int) ^ k) = ((2 ^ k : Nat) : Int) := by rw [Int.natCast_pow]; rfl
  rw [e]
  exact q
theorem op_shrNN : OpR X (binaryOp .RShift) (fun x y H Q => ∃ n k : Nat, x = .int (n : Int) ∧ y = .int (k : Int) ∧ Q (.int ((n / 2 ^ k : Nat) : Int)) H) := by
  intro pins s σ H x y v u Q I rx ry h
  obtain ⟨n, k, rfl, rfl, q⟩ := h
  refine op_shrN pins s σ H _ _ v u Q I rx ry ⟨_, k, rfl, rfl, ?_⟩
  have e : ((n : Int) / 2 ^ k) = ((n / 2 ^ k : Nat) : Int) := by
    rw [Int.natCast_ediv, Int.natCast_pow]; rfl
  rw [e]
  exact q
end
end L2
namespace Hue
open PySem PySem.Spec PyProof.Rows L2
theorem bit_of (m k : Nat) : decide (V.int ((m / 2 ^ k % 2 : Nat) : Int) = V.int 1) = m.testBit k := by
  rw [Nat.testBit_eq_decide_div_mod_eq]
  refine decide_eq_decide.mpr ⟨fun z => ?_, fun z => by rw [z]; rfl⟩
  injection z with z
  omega
theorem bit_one (u j : Nat) : (2 ^ u).testBit j = decide (u = j) := Nat.testBit_two_pow
theorem bit_or3 (a b u j : Nat) : (a ||| b ||| 2 ^ u).testBit j = (a.testBit j || b.testBit j || decide (u = j)) := by
  rw [Nat.testBit_or, Nat.testBit_or, bit_one]
end Hue

end
section
set_option maxRecDepth 100000
namespace Hue
open PySem PySem.Spec PyProof.Rows L2
/-! ### the meet of two states -/
theorem at_set {L : List Int} {i j : Nat} {v : Int} (hi : i < L.length) : at_ (L.set i v) j = if i = j then v else at_ L j := by
  unfold at_
  rw [List.getD_eq_getElem?_getD, List.getD_eq_getElem?_getD, List.getElem?_set]
  by_cases e : i = j
  · rw [if_pos e, if_pos e, if_pos hi]; rfl
  · rw [if_neg e, if_neg e]
theorem stV_set (L : List Int) (i : Nat) (v : Int) : (stV L).set i (V.int v) = stV (L.set i v) := by unfold stV; rw [List.map_set]
def neB (S D : List Int) (k : Nat) : Bool := !decide (at_ S k = at_ D k)
/-- some lamp above k has other hues in M than in S -/
def offB (n : Nat) (R : Rel) (M S : List Int) (k : Nat) : Bool := (Bel n (flip R) k).any (neB M S)
def mk (n h : Nat) (R : Rel) (S D M : List Int) (k : Nat) : Int :=
  if (offB n R M S k && offB n R M D k) = true then (h : Int) - 1 else if offB n R M S k = true then at_ D k else if offB n R M D k = true then at_ S k else min (at_ S k) (at_ D k)
def IsMeet (n h : Nat) (R : Rel) (S D M : List Int) : Prop := ∀ k, k < n → at_ M k = mk n h R S D M k
theorem neB_no {S D : List Int} {k : Nat} : neB S D k = false ↔ at_ S k = at_ D k := by
  unfold neB
  rw [Bool.not_eq_false', decide_eq_true_eq]
theorem offB_no {n : Nat} {R : Rel} {M S : List Int} {k : Nat} : offB n R M S k = false ↔ ∀ u, u < n → R u k = true → at_ M u = at_ S u := by
  unfold offB
  rw [List.any_eq_false]
  constructor
  · intro a u hu r
    have z := a u (mem_Bel.mpr ⟨hu, r⟩)
    exact neB_no.mp (by simpa using z)
  · intro a u hu
    obtain ⟨h1, h2⟩ := mem_Bel.mp hu
    rw [neB_no.mpr (a u h1 h2)]
    exact Bool.false_ne_true
theorem offB_congr {n : Nat} {R : Rel} {M M' S : List Int} {k : Nat} (h : ∀ u, u < n → R u k = true → at_ M u = at_ M' u) : offB n R M S k = offB n R M' S k := by
  unfold offB
  rw [Bool.eq_iff_iff, List.any_eq_true, List.any_eq_true]
  constructor
  · rintro ⟨u, hu, z⟩
    obtain ⟨h1, h2⟩ := mem_Bel.mp hu
    refine ⟨u, hu, ?_⟩
    unfold neB at z ⊢
    rw [← h u h1 h2]
    exact z
  · rintro ⟨u, hu, z⟩
    obtain ⟨h1, h2⟩ := mem_Bel.mp hu
    refine ⟨u, hu, ?_⟩
    unfold neB at z ⊢
    rw [h u h1 h2]
    exact z
theorem mk_congr {n h : Nat} {R : Rel} {S D M M' : List Int} {k : Nat} (e : ∀ u, u < n → R u k = true → at_ M u = at_ M' u) : mk n h R S D M k = mk n h R S D M' k := by
  unfold mk
  rw [offB_congr e, offB_congr e]
theorem mk_bound {n h : Nat} {R : Rel} {S D M : List Int} {k : Nat} (h2 : 2 ≤ h) (okS : StOk n h S) (okD : StOk n h D) (hk : k < n) : 0 ≤ mk n h R S D M k ∧ mk n h R S D M k < (h : Int) := by
  have a := okS.at hk
  have b := okD.at hk
  unfold mk
  split
  · omega
  split
  · exact b
  split
  · exact a
  · omega
theorem meet_left {n h : Nat} {R : Rel} {S D M : List Int} (m : IsMeet n h R S D M) : Reach n R S M := fun k hk ne top => by
  have e := m k hk
  have f : offB n R M S k = false := offB_no.mpr fun u hu r => (top u hu r).symm
  unfold mk at e
  rw [f, Bool.false_and, if_neg Bool.false_ne_true, if_neg Bool.false_ne_true] at e
  split at e
  · exact absurd e.symm ne
  · omega
theorem meet_right {n h : Nat} {R : Rel} {S D M : List Int} (m : IsMeet n h R S D M) : Reach n R D M := fun k hk ne top => by
  have e := m k hk
  have f : offB n R M D k = false := offB_no.mpr fun u hu r => (top u hu r).symm
  unfold mk at e
  rw [f, Bool.and_false, if_neg Bool.false_ne_true, if_neg Bool.false_ne_true] at e
  split at e
  · exact absurd e.symm ne
  · omega
theorem meet_most {n h : Nat} {R : Rel} {S D M U : List Int} (m : IsMeet n h R S D M) (okU : StOk n h U) (a : Reach n R S U) (b : Reach n R D U) : Reach n R M U := fun k hk ne top => by
  have e := m k hk
  have u0 := okU.at hk
  have toS : offB n R M S k = false → at_ U k ≤ at_ S k := fun f => by
    by_cases q : at_ S k = at_ U k
    · omega
    · have := a k hk q fun u hu r => by rw [← offB_no.mp f u hu r]; exact top u hu r
      omega
  have toD : offB n R M D k = false → at_ U k ≤ at_ D k := fun f => by
    by_cases q : at_ D k = at_ U k
    · omega
    · have := b k hk q fun u hu r => by rw [← offB_no.mp f u hu r]; exact top u hu r
      omega
  unfold mk at e
  cases f : offB n R M S k <;> cases g : offB n R M D k <;> rw [f, g] at e <;> simp at e
  · have := toS f; have := toD g; omega
  · have := toS f; omega
  · have := toD g; omega
  · omega
/-- the greatest of what both reach -/
structure Glb (n h : Nat) (R : Rel) (S D M : List Int) : Prop where
  ok : StOk n h M
  l : Reach n R S M
  r : Reach n R D M
  most : ∀ U, StOk n h U → Reach n R S U → Reach n R D U → Reach n R M U
theorem IsMeet.glb {n h : Nat} {R : Rel} {S D M : List Int} (m : IsMeet n h R S D M) (ok : StOk n h M) : Glb n h R S D M := ⟨ok, meet_left m, meet_right m, fun _ o a b => meet_most m o a b⟩
theorem Glb.uniq {n h : Nat} {R : Rel} (hR : Ranked R) {S D M N : List Int} (a : Glb n h R S D M) (b : Glb n h R S D N) : M = N :=
  Reach.anti hR a.ok.1 b.ok.1 (a.most _ b.ok b.l b.r) (b.most _ a.ok a.l a.r)
/-- with the bright state: the other -/
theorem Glb.bright {n h : Nat} {R : Rel} (hR : Ranked R) {D M : List Int} (okD : StOk n h D) (a : Glb n h R (List.replicate n ((h : Int) - 1)) D M) : M = D :=
  Reach.anti hR a.ok.1 okD.1 (a.most _ okD (bright_reach okD) (Reach.refl n R D)) a.r
end Hue

end
section
set_option maxRecDepth 100000
namespace L2
open PySem PySem.Spec PyProof.Rows StX
/-! ### defs with a star parameter, by what is handed to them in order; they may raise -/
structure StarX (P : Program) (w : World) (K : PySem.W.Frag) (mg : Str → Option Value) (base : Heap) (x : Str) (k : Nat) (sp : Sp) : Prop where
  ex : ∃ f : Addr, FnR P w K mg base (L2.CX P w) k f sp ∧ mg x = some (.ref f) ∧ PySem.W.keepIn K (.ref f) = true
structure StarC (P : Program) (w : World) (K : PySem.W.Frag) (mg : Str → Option Value) (base : Heap) (x : Str) (k : Nat) (sp : Sp) : Prop where
  ex : ∃ f : Addr, FnR P w K mg base CX0 k f sp ∧ mg x = some (.ref f) ∧ PySem.W.keepIn K (.ref f) = true
section
variable {P : Program} {w : World} {K : PySem.W.Frag} {mg : Str → Option Value} {base : Heap} {k : Nat} {f : Addr} {x : Str} {sp sp' : Sp}
theorem FnR.calm (F : FnR P w K mg base (L2.CX P w) k f sp) : FnR P w K mg base CX0 k f (fun vs H Q _ => sp vs H Q fun _ _ _ => False) := by
  intro A outer s H us vs Q _ hr env vals want
  refine codeAny_mono (F A outer s H us vs Q _ hr env vals want) fun r s' z => ?_
  match r, z with
  | .ok (.ret _), z => exact z
  | .ok .next, z => exact z.elim
  | .ok .brk, z => exact z.elim
  | .ok .cont, z => exact z.elim
  | .error _, ⟨_, _, _, _, _, _, _, _, _, _, _, _, no⟩ => exact no.elim
theorem StarX.calm (c : StarX P w K mg base x k sp) (h : ∀ vs H Q E, sp' vs H Q E → sp vs H Q fun _ _ _ => False) : StarC P w K mg base x k sp' := by
  obtain ⟨f, F, r⟩ := c.ex
  exact ⟨f, F.calm.imp h, r⟩
theorem Fun.star {x qual pv : Str} {st : Stmt} {f : Addr} {fd : FuncData} {N ps : List Str} {sp : Sp} (F : Fun K x qual st f fd) (S : FnScope N (ps ++ [pv]) (defScope st))
    (hb : ∀ (kV doc pm : Value) (an : Option Addr) (cdv ct : Value) (us rest : List Value), us.length = ps.length → bindArgs (PySem.W.fnOf x qual (defArgs st) (defBody st) (defScope st) .none kV doc pm an cdv ct) ⟨us ++ rest, []⟩ = (newTuple rest >>= fun t => pure (ps.zip us ++ [(pv, t)])))
    (hbody : ∀ (cdv : Value) (A : Around) (outer : List Env) (s : Shared) (H : Hp) (vs : List V) (Q : VK) (E : XK), Room k (A.deeper (envOfC qual (defScope st) s.heap.objs.size f cdv)) → sp vs H Q E →
      ∃ t, PSs (cxOf (L2.CX P w) P w K mg base N qual (defScope st) f cdv A outer s H E) (defBody st) t ∧ t { nx := fun _ H' => Q .non H', rt := Q } (start N vs) H) :
    FnR P w K mg base (L2.CX P w) (k + 1) f (fun vs H Q E => ∃ ws rest, vs = ws ++ rest ∧ ws.length = ps.length ∧ rest.length ≤ sizeLine ∧ ∀ p, H p = Option.none → sp (ws ++ [V.ref p]) (upd H p (.tup rest)) Q E) := by
  obtain ⟨oc, od, kV, doc, pm, an, cdv, ct, osl, rfl, lk, hcd⟩ := F.ex
  exact fn_star lk hcd S cxUp (hb kV doc pm an cdv ct) fun A outer s H vs Q E hr hsp => hbody cdv A outer s H vs Q E hr hsp
end
section
variable {X : Cx} {e : Expr} {es : List Expr} {t : TA} {x : Str} {k : Nat} {sp : Sp} {E : XK} {W : WX} {p pos : Pos}
theorem pe_starX (c : StarX X.prog X.w X.K X.mg X.base x k sp) (tk : Takes X (fun cls d _ H => E cls d H)) (hr : Room k X.A) (ha : PA X (e :: es) t) (hg : Gl X x := by rfl) (hdb : (x == ("__debug__" : Str)) = false := by decide)
    (he : starEach (e :: es) X.env = (false, eval e X.env) :: starEach es X.env := by rfl) (hpl : (backTo pos (starEach es X.env)).any (·.1) = false := by rfl) :
    PE X (.Call (.Name x p) (e :: es) [] pos) (tCalX sp E t) := by
  obtain ⟨f, F, hm, hk⟩ := c.ex
  refine ⟨fun pins s σ H Q I h => ?_⟩
  refine wpAny_Call_Name_kw (ld_glob I hg hm ?_ hdb)
  exact PySem.W.callWith_K (h₀ := X.base) I.ok.mod.kin hk (thn (ha.run pos pins s σ H _ I h) fun us s1 ⟨vs, H1, I1, r, q⟩ => ⟨I1.kIn, wpAny_call (run_fnR F hr (goes_on tk) I1 r q)⟩) he hpl
theorem pe_starC (c : StarC X.prog X.w X.K X.mg X.base x k sp) (hr : Room k X.A) (ha : PA X (e :: es) t) (hg : Gl X x := by rfl) (hdb : (x == ("__debug__" : Str)) = false := by decide)
    (he : starEach (e :: es) X.env = (false, eval e X.env) :: starEach es X.env := by rfl) (hpl : (backTo pos (starEach es X.env)).any (·.1) = false := by rfl) :
    PE X (.Call (.Name x p) (e :: es) [] pos) (tCal sp t) := by
  obtain ⟨f, F, hm, hk⟩ := c.ex
  refine ⟨fun pins s σ H Q I h => ?_⟩
  refine wpAny_Call_Name_kw (ld_glob I hg hm ?_ hdb)
  exact PySem.W.callWith_K (h₀ := X.base) I.ok.mod.kin hk (thn (ha.run pos pins s σ H _ I h) fun us s1 ⟨vs, H1, I1, r, q⟩ => ⟨I1.kIn, wpAny_call (run_fnR F hr pass0 I1 r q)⟩) he hpl
/-- starred items among what is handed on -/
theorem pe_starC2 (c : StarC X.prog X.w X.K X.mg X.base x k sp) (hr : Room k X.A) (ha : PA X (e :: es) t) (hg : Gl X x := by rfl) (hdb : (x == ("__debug__" : Str)) = false := by decide)
    (he : starEach (e :: es) X.env = (false, eval e X.env) :: starEach es X.env := by rfl) (hst : (backTo pos (starEach es X.env)).any (·.1) = true := by rfl) :
    PE X (.Call (.Name x p) (e :: es) [] pos) (tCal sp t) := by
  obtain ⟨f, F, hm, hk⟩ := c.ex
  exact pe_callS2 F hr hk hg hm pass0 ha hdb he hst
/-- at the slots, for a try of the def's own -/
theorem pe_starW (c : StarX X.prog X.w X.K X.mg X.base x k sp) (tk : Takes X W) (hr : Room k X.A) (ha : PA X (e :: es) t) (hg : Gl X x := by rfl) (hdb : (x == ("__debug__" : Str)) = false := by decide)
    (he : starEach (e :: es) X.env = (false, eval e X.env) :: starEach es X.env := by rfl) (hpl : (backTo pos (starEach es X.env)).any (·.1) = false := by rfl) :
    PE X (.Call (.Name x p) (e :: es) [] pos) (tCallS sp (WE W) t) := by
  obtain ⟨f, F, hm, hk⟩ := c.ex
  refine ⟨fun pins s σ H Q I h => ?_⟩
  refine wpAny_Call_Name_kw (ld_glob I hg hm ?_ hdb)
  refine PySem.W.callWith_K (h₀ := X.base) I.ok.mod.kin hk (thn (ha.run pos pins s σ H _ I h) fun us s1 ⟨vs, H1, I1, r, q⟩ => ⟨I1.kIn, ?_⟩) he hpl
  refine wpAny_call (codeAny_mono (F X.A X.stack s1 H1 us vs Q (WE W σ) hr I1.env0 r q) fun r s' hq => ?_)
  cases r with
  | error e => exact passAt tk σ pins H1 s1 e s' I1 hq
  | ok fl =>
    cases fl with
    | ret u => exact I1.after hq
    | next => exact False.elim hq
    | brk => exact False.elim hq
    | cont => exact False.elim hq
end
end L2

end
section
set_option maxRecDepth 100000
set_option maxHeartbeats 4000000
namespace Hue
open PySem PySem.Spec PyProof.Rows L2
def lowB (n : Nat) (R : Rel) (S : List Int) (k : Nat) : Bool := decide (0 < at_ S k) && (Bel n R k).all fun u => decide (at_ S u = 0)
theorem lowB_yes {n : Nat} {R : Rel} {S : List Int} {k : Nat} : lowB n R S k = true ↔ 0 < at_ S k ∧ ∀ u, u < n → R k u = true → at_ S u = 0 := by
  unfold lowB
  rw [Bool.and_eq_true, decide_eq_true_iff, List.all_eq_true]
  exact ⟨fun ⟨a, b⟩ => ⟨a, fun u hu r => of_decide_eq_true (b u (mem_Bel.mpr ⟨hu, r⟩))⟩, fun ⟨a, b⟩ => ⟨a, fun u hu => decide_eq_true (b u (mem_Bel.mp hu).1 (mem_Bel.mp hu).2)⟩⟩
end Hue

end
section
set_option maxRecDepth 100000
set_option maxHeartbeats 4000000
namespace L2
open PySem PySem.Spec PyProof.Rows
/-! ### a list comprehension out of which an exception may go that a call within it lets out -/
/-- the frame that is noted is the def's own -/
theorem note_same {e : Value} {c d : Env} (h : c.frame = d.frame) : PySem.noteFrame e c = PySem.noteFrame e d := by
  unfold PySem.noteFrame PySem.frameOf
  rw [h]
section
variable {h1 h2 B : Heap} {C a : Addr} {Z : Obj → Prop} {fl : Value}
theorem frames_less : ∀ {l : List Env}, h1.FunFrames B l → (∀ b, B.get? b = none → h2.get? b = h1.get? b) → h2.FunFrames (PySem.W.hideAll B [C]) l
  | [], _, _ => trivial
  | env :: rest, f, k => by
    obtain ⟨kd, ⟨L, o, e1, e2, e3, e4⟩, r⟩ := f
    refine ⟨kd, ⟨L, o, e1, ?_, ?_, e4⟩, frames_less r k⟩
    · cases q : (PySem.W.hideAll B [C]).get? L with
      | none => rfl
      | some u => rw [PySem.W.of_hideAll _ q] at e2; cases e2
    · rw [k L e2]; exact e3
theorem traced_less (t : HandSPX.TracedZ h1 B a Z fl) (ha : B.get? a = none) (k : ∀ b, B.get? b = none → h2.get? b = h1.get? b) : HandSPX.TracedZ h2 (PySem.W.hideAll B [C]) a Z fl := by
  obtain ⟨oe, vs, T, oT, ts, x1, x2, x3, x4, x5, x6, x7, x8, x9⟩ := t
  refine ⟨oe, vs, T, oT, ts, by rw [k a ha]; exact x1, x2, x3, x4, ?_, x6, by rw [k T x5]; exact x7, x8, x9⟩
  cases q : (PySem.W.hideAll B [C]).get? T with
  | none => rfl
  | some u => rw [PySem.W.of_hideAll _ q] at x5; cases x5
end
/-- the block's own context: what its calls let out is known as such -/
abbrev Cx.blkE (X : Cx) (s : Shared) (H : Hp) (scope : Scope) (cenv : Env) (fp : List Addr) (pn : List (Addr × Obj)) (xe : Value → Shared → Prop) : Cx := (X.blk s H scope cenv fp).tr pn xe
def BlkOut (X : Cx) (s : Shared) (H : Hp) (scope : Scope) (cenv : Env) (fp : List Addr) (E : XK) : Value → Shared → Prop := fun u s' =>
  ∃ (pins : List (Addr × Obj)) (σ : St) (H' : Hp) (s10 : Shared), Inv (X.blk s H scope cenv fp) pins σ H' s10 ∧ CX X.prog X.w X.stack H' s10 E u s'
/-- it goes out of the comprehension -/
theorem blk_out {X : Cx} {pins : List (Addr × Obj)} {σ : St} {H3 : Hp} {s3 : Shared} {scope : Scope} {ce : Env} {fp : List Addr} {E : XK} {u : Value} {s' : Shared} {R : Result → Shared → Prop}
    (hs : X.stack = X.env :: X.outer) (hf : X.env.frame = some X.env.locals) (tk : Takes X (fun cls d _ H => E cls d H)) (hfr : ce.frame = X.env.frame) (hC : ce.locals = s3.heap.objs.size) (I3 : Inv X pins σ H3 s3)
    (f3 : ∀ b ∈ fp, FpOk X pins H3 b) (o : BlkOut X s3 H3 scope ce fp E u s')
    (hR : ∀ s1 : Shared, (∃ m, s1.heap.Ns ce.locals m ∧ ∀ h', Heap.SameBut ce.locals s1.heap h' → wpAny (model X.prog X.w) X.A (PySem.passOn "comprehension.variables-let-go" u ce : Sem Value) (fun _ _ => False) X.xe { s1 with heap := h' }) → R (.error u) s1) :
    notedBy (model X.prog X.w) X.A ce (fun e s1 => R (.error e) s1) u s' := by
  obtain ⟨pins', σ', H', s10, I', a, B, H'', cls, d, rfl, fly, hok, ub, na, os, ag, hE⟩ := o
  have cfree : H' ce.locals = none := I'.free
  obtain ⟨m, ⟨oC, es, ep, gC, rC⟩, _⟩ := I'.loc
  have noC : ce.locals ∉ frs X.stack := fun z => by
    have t := (I'.ok.funs.mem (show ce.locals ∈ frs X.stack from z)).2
    obtain ⟨o0, e0, _⟩ := t
    have := Heap.lt_size e0
    rw [hC] at this
    exact Nat.lt_irrefl _ this
  have bC : B.get? ce.locals = some oC := ub.keep _ _ gC cfree noC
  have keepB : B.StaysIn s'.heap := fly.1
  have aB : B.get? a = none := fly.2.1
  have far : ∀ b, B.get? b = none → b ≠ ce.locals := fun b e z => by rw [z, bC] at e; cases e
  have top : X.A.frames = some (X.env :: X.outer) := by rw [I3.ok.frames, hs]
  unfold notedBy
  rw [note_same hfr]
  rw [hs] at fly
  refine HandSPX.looks_onZ Zc.steady top hf fly fun h1 held up1 => hR _ ⟨m, ⟨oC, es, ep, held.1 _ _ bC, rC⟩, fun h2 sb => ?_⟩
  have same2 : ∀ b, B.get? b = none → h2.get? b = h1.get? b := fun b e => sb.2 b (far b e)
  obtain ⟨oe, vs, T, oT, ts, x1, x2, x3, x4, x5, x6, x7, x8, x9⟩ := held.2.2.2
  have ga : h2.get? a = some oe := by rw [same2 a aB]; exact x1
  unfold PySem.passOn
  refine wpAny_bind (wpAny_field ga x3 x4 ?_)
  rw [if_neg (by simp)]
  rw [hfr, hf]
  have aB2 : (PySem.W.hideAll B [ce.locals]).get? a = none := by
    cases q : (PySem.W.hideAll B [ce.locals]).get? a with
    | none => rfl
    | some v => rw [PySem.W.of_hideAll _ q] at aB; cases aB
  have stays2 : (PySem.W.hideAll B [ce.locals]).StaysIn h2 := fun b o e => by
    have nb : b ≠ ce.locals := fun z => by rw [z, PySem.W.hideAll_none _ List.mem_cons_self] at e; cases e
    rw [sb.2 b nb]
    exact held.1 b o (PySem.W.of_hideAll _ e)
  have held2 : HandSPX.HeldZ (PySem.W.hideAll B [ce.locals]) (X.env :: X.outer) a (Zc cls d) X.env.locals h2 := ⟨stays2, aB2, frames_less held.2.2.1 same2, traced_less held.2.2.2 aB same2⟩
  refine wpAny_bind (HandSPX.setFlight_onZ (s := { s' with heap := h2 }) held2 fun h4 held4 up4 => ?_)
  refine wpAny_throw (tk _ _ ?_)
  -- what stands of it
  obtain ⟨G, g1, g2⟩ := restrict s'.heap fun b => ((PySem.W.hideAll B [ce.locals]).get? b).isSome || decide (b ∈ frs X.stack)
  have inB : ∀ b o, (PySem.W.hideAll B [ce.locals]).get? b = some o → G.get? b = some o := fun b o e => by
    rw [g1 b (by simp [e])]
    exact keepB b o (PySem.W.of_hideAll _ e)
  have inF : ∀ b, b ∈ frs X.stack → G.get? b = s'.heap.get? b := fun b hb => g1 b (by simp [hb])
  have ofG : ∀ b o, G.get? b = some o → s'.heap.get? b = some o ∧ (((PySem.W.hideAll B [ce.locals]).get? b).isSome = true ∨ b ∈ frs X.stack) := fun b o e => by
    cases q : (((PySem.W.hideAll B [ce.locals]).get? b).isSome || decide (b ∈ frs X.stack)) with
    | false => rw [g2 b q] at e; cases e
    | true =>
      rw [g1 b q] at e
      exact ⟨e, by simpa [Bool.or_eq_true] using q⟩
  have old : ∀ b o, s3.heap.get? b = some o → b ≠ ce.locals := fun b o e z => by
    have := Heap.lt_size e
    rw [z, hC] at this
    exact Nat.lt_irrefl _ this
  have put : ∀ b o, b ≠ ce.locals → B.get? b = some o → (PySem.W.hideAll B [ce.locals]).get? b = some o := fun b o nb e => PySem.W.hideAll_get _ e (by simpa using nb)
  have base := I'.base
  have J := I3.call (ch := fp) (h' := G) (g' := s'.gens) (t' := s'.toks) (d' := s'.drawn) (H' := H'')
    ⟨fun b o e n hb hc => inB b o (put b o (old b o e) (ub.keep b o (base.keep b o e n hb hc) (base.free b o e n hc) hb)),
     fun b o e n hb hc => by
      obtain ⟨sl, e1⟩ := base.slot b o e n hb hc
      obtain ⟨sl2, e2⟩ := ub.slot b _ e1 hb
      exact ⟨sl2, by rw [inF b hb]; exact e2⟩,
     fun b o e n hc => by
      rcases Classical.em (b ∈ frs X.stack) with hb | hb
      · obtain ⟨sl, e1⟩ := base.slot b o e n hb hc
        exact ub.free b _ e1 (base.free b o e n hc)
      · exact ub.free b o (base.keep b o e n hb hc) (base.free b o e n hc),
     fun b o e hc => by
      rcases Classical.em (b ∈ frs X.stack) with hb | hb
      · obtain ⟨sl, e1⟩ := base.slot b o e (I3.stkFree b hb) hb hc
        obtain ⟨sl2, e2⟩ := ub.slot b _ e1 hb
        exact ⟨_, by rw [inF b hb]; exact e2⟩
      · obtain ⟨o1, e1⟩ := base.there b o e hc
        obtain ⟨o2, e2⟩ := ub.there b o1 e1 hb
        exact ⟨o2, inB b o2 (put b o2 (old b o e) e2)⟩,
     fun b xs e => ub.tups b xs (base.tups b xs e), fun b o v e => ub.frzs b o v (base.frzs b o v e),
     fun b ps e => by
      obtain ⟨m1, e1⟩ := base.tbls b ps e
      obtain ⟨m2, e2⟩ := ub.tbls b _ e1
      exact ⟨m1 ++ m2, by rw [e2, Array.append_assoc]⟩⟩
    (fun b w e => (hok b w e).stay (fun c v hc r => inB c v (put c v (fun z => by
      have nf := ub.free _ _ gC cfree
      rcases hc with hc | hc
      · rw [← hc, z, nf] at e; cases e
      · rw [z, nf] at hc; cases hc) r)) (fun _ r => r) fun _ _ r => r)
    ag (fun b hb => ⟨(f3 b hb).2.2.2.1, (f3 b hb).2.1, (f3 b hb).2.2.2.2.1, (f3 b hb).2.2.2.2.2⟩)
  refine ⟨a, PySem.W.hideAll B [ce.locals], _, pins, σ, H'', cls, d, rfl, J, fun b o e hb => ?_, fun b o e hd => ?_, ?_, na, os.trans (I'.os.trans rfl), ag, hE⟩
  · obtain ⟨e', h⟩ := ofG b o e
    rcases h with h | h
    · obtain ⟨o', q⟩ := Option.isSome_iff_exists.mp h
      have z := keepB b o' (PySem.W.of_hideAll _ q)
      rw [e'] at z; cases z
      exact q
    · exact absurd h hb
  · obtain ⟨e', h⟩ := ofG b o e
    obtain ⟨sl1, y1⟩ := up1 b o e' hd
    have nb : b ≠ ce.locals := by
      rcases h with h | h
      · intro z
        rw [z, PySem.W.hideAll_none _ List.mem_cons_self] at h
        cases h
      · exact fun z => noC (z ▸ h)
    obtain ⟨sl2, y2⟩ := up4 b { o with slots := sl1 } (by rw [sb.2 b nb]; exact y1) hd
    exact ⟨sl2, y2⟩
  · rw [hs]
    exact .inr (.inr held4)
/-- what is wished for behind the block -/
def CEnd (M : Model) (A : Around) (E : Value → Shared → Prop) (Q : Value → Shared → Prop) (acc : Value) (ce : Env) : Result → Shared → Prop := fun r s' =>
  ∃ m, s'.heap.Ns ce.locals m ∧ ∀ h', Heap.SameBut ce.locals s'.heap h' → match r with
    | .ok _ => Q acc { s' with heap := h' }
    | .error x => wpAny M A (PySem.passOn "comprehension.variables-let-go" x ce : Sem Value) (fun _ _ => False) E { s' with heap := h' }
theorem comp_goes {M : Model} {A : Around} {E Q : Value → Shared → Prop} {s : Shared} {env : Env} {e : Expr} {scope : Scope} {pos : Pos} {mk first : Sem Value} {c : Comprehension} {cs : List Comprehension} {cl : List (Str × Addr)}
    (one : clausesOf e = c :: cs) (plain : ∀ x, foldedSetIterable c.iter env x = pure x) (close : closureFor scope env = pure cl) (fn : scope.kind = .function) (loc : ∀ x ∈ scope.names, x.2 = .local → scope.names.lookup x.1 = some .local)
    (go : wpAny M A first (fun x s1 => wpAny M A (pyIter x) (fun it s2 => wpAny M A mk (fun acc s3 => wpAny M A (newFunctionEnv scope env.globals cl [] env.qual none .none (some env)) (fun ce s4 =>
      codeAny M A (.compStart e 0 it acc { ce with scope := relabel scope env }) (CEnd M A E Q acc { ce with scope := relabel scope env }) s4) E s3) E s2) E s1) E s) :
    wpAny M A (comprehension e scope env pos mk false first none) Q E s := by
  have up : ∀ {α : Type} {t : Sem α} {F G : α → Shared → Prop} {r : Shared}, wpAny M A t F E r → (∀ a b, F a b → G a b) → wpAny M A t G E r := fun w k => wpAny_mono w k fun _ _ y => y
  unfold comprehension
  rw [close, one]
  refine wpAny_bind (up go fun x s1 g1 => wpAny_bind (wpAny_standAt (wpAny_bind (wpAny_of_eq (plain x) (wpAny_bind (wpAny_holding (up g1 fun it s2 g2 => ?_)))))))
  refine wpAny_standIf (wpAny_bind (up g2 fun acc s3 g3 => wpAny_bind (wpAny_pure (wpAny_bind (up g3 fun ce s4 g4 => ?_)))))
  dsimp only
  have own : ∀ x ∈ (scope.names.filter fun x => (x.2 == .local || x.2 == .cell) && x.1 != (".0" : Str)).reverse, x.2 = .local → Env.kindOf { ce with scope := relabel scope env } x.1 = some .local :=
    fun x hx hl => lookup_relabel_local (loc x (List.mem_filter.mp (List.mem_reverse.mp hx)).1 hl)
  refine wpAny_holding (wpAny_bind (wpAny_attempt (wpAny_holding (wpAny_run (codeAny_mono g4 fun r s5 g5 => ?_)))))
  obtain ⟨m, ns, last⟩ := g5
  match r, last with
  | .ok _, last => exact wpAny_bind (wpAny_holding (wpAny_comp_letGo (cenv := { ce with scope := relabel scope env }) fn _ s5 m own ns fun h' _ _ sb => wpAny_pure (last h' sb)))
  | .error x, last => exact wpAny_bind (wpAny_holding (wpAny_comp_letGo (cenv := { ce with scope := relabel scope env }) fn _ s5 m own ns fun h' _ _ sb => wpAny_mono (last h' sb) (fun _ _ z => z.elim) fun _ _ y => y))
section
variable {X : Cx}
theorem pe_lcX {elt tg iter : Expr} {ifs : List Expr} {scope : Scope} {own : List (Str × Nat)} {pos : Pos} {wi : TI} {g : TG} {tt : TT} {te : TE} {E : XK} (hst : X.stack = X.env :: X.outer) (hf : X.env.frame = some X.env.locals) (tk : Takes X (fun cls d _ H => E cls d H))
    (hc : X.calm = true) (hN : X.N.Nodup) (hi : PI X tg iter wi) (ok : BlkOk X.N X.env.scope scope own)
    (hg : ∀ (s : Shared) (H : Hp) (C : Addr) (cl : List (Str × Addr)) (fp : List Addr), PG (X.blk s H scope (compEnvC scope cl C X.env) fp) tg g) (ht : ∀ (s : Shared) (H : Hp) (C : Addr) (cl : List (Str × Addr)) (fp : List Addr), PTs (X.blk s H scope (compEnvC scope cl C X.env) fp) ifs tt)
    (he : ∀ (s : Shared) (H : Hp) (C : Addr) (cl : List (Str × Addr)) (fp : List Addr) (pn : List (Addr × Obj)) (xe : Value → Shared → Prop), Passes (L2.CX X.prog X.w) (X.blkE s H scope (compEnvC scope cl C X.env) fp pn xe) E → PE (X.blkE s H scope (compEnvC scope cl C X.env) fp pn xe) elt te)
    (hs : ∀ x, foldedSetIterable iter X.env x = pure x := by intro _; rfl) :
    PE X (.ListComp elt [⟨tg, iter, ifs, 0⟩] scope pos) (tLc wi g tt te (own.map (·.2))) := by
  refine ⟨fun pins s σ H Q I h => ?_⟩
  rw [eval_ListComp]
  have free : ∀ y ∈ scope.names, y.2 = .free → ∃ c, X.env.cells.lookup y.1 = some c := fun y hy e => by
    rcases ok.free y hy e with k | k
    · exact I.ok.has _ (.inl k)
    · exact I.ok.has _ (.inr k)
  refine comp_goes rfl hs (closure_ok free) ok.kind (fun y hy e => by rw [ok.uniq y hy, e]) (thn (hi.run pins s σ H _ I h) fun xv s1 hx => thn hx fun itv s2 h2 => ?_)
  obtain ⟨it, fp, tn, J, H2, rfl, I2, T, st2, f2, q⟩ := h2
  refine wpAny_newObj_type (newEnv_comp ?_) (by show 0 ≤ sizeLine; decide)
  generalize hD : s2.heap.objs.size = D
  have Dn : H2 D = none := I2.hok.fresh (Nat.le_of_eq hD)
  obtain ⟨W, ⟨m0, w0⟩, turn⟩ := q D Dn
  generalize hs3 : ({ s2 with heap := s2.heap.push { cls := .type "list", data := .seq ([] : List Value).toArray } } : Shared) = s3
  have h3 : s3.heap = s2.heap.push { cls := .type "list", data := .seq ([] : List Value).toArray } := by rw [← hs3]
  have I3 : Inv X pins σ (upd H2 D (.lst [])) s3 := by
    rw [← hs3]
    exact I2.laid (t' := s2.toks) (fun b o e => Heap.get?_push_of_some _ e) (Nat.le_of_eq hD) ⟨Nat.zero_le _, [], 0, .nil, hD ▸ Heap.get?_push_size _ rfl⟩
  have small : ∀ b ∈ fp, b < s2.heap.objs.size := fun b hb => let ⟨o, e, _⟩ := T.obj _ _ st2 b hb; Heap.lt_size e
  have f3 : ∀ b ∈ fp, FpOk X pins (upd H2 D (.lst [])) b ∧ b < s3.heap.objs.size := fun b hb => ⟨⟨by rw [upd_ne (hD ▸ Nat.ne_of_lt (small b hb))]; exact (f2 b hb).1, (f2 b hb).2⟩, by rw [h3, Heap.size_push]; exact Nat.lt_succ_of_lt (small b hb)⟩
  have st3 : tn 0 s3.heap := T.keep _ _ _ st2 fun b _ o e => by rw [h3]; exact Heap.get?_push_of_some _ e
  have I4 := block_start I3 ok hN f3
  have pg := hg s3 (upd H2 D (.lst [])) s3.heap.objs.size (cellsFrom (s3.heap.objs.size + 1) scope.names (cloFrom X.env.cells scope.names [])) fp
  have pt := ht s3 (upd H2 D (.lst [])) s3.heap.objs.size (cellsFrom (s3.heap.objs.size + 1) scope.names (cloFrom X.env.cells scope.names [])) fp
  have pe := he s3 (upd H2 D (.lst [])) s3.heap.objs.size (cellsFrom (s3.heap.objs.size + 1) scope.names (cloFrom X.env.cells scope.names [])) fp
  show codeAny _ _ (.compStart (.ListComp elt [⟨tg, iter, ifs, 0⟩] scope pos) 0 (.ref it) (.ref D) (compEnvC scope (cellsFrom (s3.heap.objs.size + 1) scope.names (cloFrom X.env.cells scope.names [])) s3.heap.objs.size X.env))
    (CEnd (model X.prog X.w) X.A X.xe (EP X pins σ Q) (.ref D) (compEnvC scope (cellsFrom (s3.heap.objs.size + 1) scope.names (cloFrom X.env.cells scope.names [])) s3.heap.objs.size X.env)) { s3 with heap := pushCells (s3.heap.push { cls := .type "dict", data := .dict #[] }) scope.names }
  have nfp : ∀ b ∈ fp, (upd H2 D (.lst [])) b = none := fun b hb => (f3 b hb).1.1
  have fr : (compEnvC scope (cellsFrom (s3.heap.objs.size + 1) scope.names (cloFrom X.env.cells scope.names [])) s3.heap.objs.size X.env).frame = X.env.frame := rfl
  have cL : (compEnvC scope (cellsFrom (s3.heap.objs.size + 1) scope.names (cloFrom X.env.cells scope.names [])) s3.heap.objs.size X.env).locals = s3.heap.objs.size := rfl
  generalize compEnvC scope (cellsFrom (s3.heap.objs.size + 1) scope.names (cloFrom X.env.cells scope.names [])) s3.heap.objs.size X.env = ce at I4 pg pt pe fr cL ⊢
  generalize upd H2 D (.lst []) = H3 at I3 I4 pg pt pe w0 nfp f3
  generalize hs4 : ({ s3 with heap := pushCells (s3.heap.push { cls := .type "dict", data := .dict #[] }) scope.names } : Shared) = s4 at I4 ⊢
  have st4 : tn 0 s4.heap := T.keep _ _ _ st3 fun b _ o e => by rw [← hs4]; exact pushCells_keeps _ _ _ _ (Heap.get?_push_of_some _ e)
  have stat : ∀ {σ' : St} {H' : Hp} {s' : Shared}, Inv (X.blk s3 H3 scope ce fp) [] σ' H' s' → (∀ b ∈ fp, H' b = none) → ∀ b ∈ fp, FpOk (X.blk s3 H3 scope ce fp) [] H' b := fun {σ' H' s'} I' hn b hb =>
    ⟨hn b hb, (I'.ok.exf b hb).1, I'.ok.exfs b hb, .inl hb, fun x c e => (I'.ok.exf b hb).2 x c e, fun p hp => by simp at hp⟩
  refine codeAny_compStart_list ?_ (T.self X.A 0 _ _ _ st4 ?_)
  all_goals
    refine compLoop_any (fun n s' => ∃ i H', Inv (X.blk s3 H3 scope ce fp) [] (wipe σ (own.map (·.2))) H' s' ∧ tn i s'.heap ∧ (∀ b ∈ fp, H' b = none) ∧ W i n H') ?_ m0 ⟨0, H3, I4, st4, nfp, w0⟩
    rintro n s5 ⟨i, H5, I5, st5, n5, w5⟩
    rcases turn i n H5 w5 with ⟨stop, qq⟩ | ⟨go, Nx, hNx, step⟩
    · refine thnF (T.done (X.blk s3 H3 scope ce fp) rfl rfl rfl hc i [] s5 _ H5 (fun _ _ => False) I5 (stat I5 n5) st5 stop) fun r s6 ⟨hr, I6⟩ => ?_
      subst hr
      have I7 : Inv X pins σ H5 s6 := I3.call' (ch := fp) I6.os I6.base I6.hok I6.bare fun b hb => ⟨(f3 b hb).1.2.2.2.1, (f3 b hb).1.2.1, (f3 b hb).1.2.2.2.2.1, (f3 b hb).1.2.2.2.2.2⟩
      obtain ⟨m, ns, _⟩ := I6.loc
      have ns : s6.heap.Ns ce.locals m := ns
      have nC : H5 s3.heap.objs.size = none := by
        have z : H5 ce.locals = none := I6.free
        rw [cL] at z
        exact z
      obtain ⟨a0, a1, a2, a3, a4, a5⟩ := I3.fpOk (Nat.le_refl _) nC
      refine ⟨m, ns, fun h' sb => ⟨.ref D, H5, ?_, rfl, qq⟩⟩
      rw [cL] at sb
      exact I7.turned (t' := s6.toks) (fun b o hb e => (sb.2 b hb).trans e) a0 a1 a3 a4 a5
    · refine thnF (T.item (X.blk s3 H3 scope ce fp) rfl rfl rfl hc i [] s5 _ H5 (fun _ _ => False) I5 (stat I5 n5) st5 go) fun r s6 ⟨u, hr, h6⟩ => ?_
      subst hr
      refine thnF h6 fun _ s7 ⟨x, H7, I7, r7, y7, st7, n7⟩ => ?_
      have I7' := I7.pinned (stat I7 n7) (T.obj _ _ st7)
      refine thnF (pg.run _ s7 _ H7 x u _ I7' r7 (step x H7 y7)) fun _ s8 ⟨σ8, H8, I8, hw8, q8⟩ => ?_
      refine thnF (pt.run _ s8 σ8 H8 _ I8 q8) fun b s9 ⟨H9, I9, q9⟩ => ?_
      have fin : ∀ {s' : Shared} {H' : Hp}, Inv (X.blk s3 H3 scope ce fp) ([] ++ pinsAt fp s7.heap) σ8 H' s' → Nx H' → ∃ m, m < n ∧ ∃ i H', Inv (X.blk s3 H3 scope ce fp) [] (wipe σ (own.map (·.2))) H' s' ∧ tn i s'.heap ∧ (∀ b ∈ fp, H' b = none) ∧ W i m H' := fun {s' H'} I' nx => by
        obtain ⟨m', hm, w'⟩ := hNx H' nx
        have pin' : ∀ b ∈ fp, ∀ o, s7.heap.get? b = some o → s'.heap.get? b = some o ∧ H' b = none := fun b hb o e =>
          let z := I'.pin (b, o) (List.mem_append_right _ (List.mem_append_right _ (mem_pinsAt hb e)))
          ⟨z.1, z.2.1⟩
        refine ⟨m', hm, i + 1, H', (I'.unpinned (pins := [])).weak (by rw [← hw8, wipe_length]) (fun j v e => ?_), T.keep _ _ _ st7 fun b hb o e => (pin' b hb o e).1, fun b hb => ?_, w'⟩
        · rw [← hw8] at e
          exact (wipe_some e).1
        · obtain ⟨o, e, _⟩ := T.obj _ _ st7 b hb
          exact (pin' b hb o e).2
      cases b with
      | false =>
        simp only [Bool.false_eq_true, if_false] at q9 ⊢
        exact fin I9 q9
      | true =>
        simp only [if_true] at q9 ⊢
        have okB := I9.ok
        have pe' := pe ([] ++ ([] ++ pinsAt fp s7.heap)) (BlkOut X s3 H3 scope ce fp E) fun pins' σ' H' s10 e s' J c => ⟨_, σ', H', s10, J.ofTry okB, c⟩
        refine wpAny_mono (pe'.run [] s9 σ8 H9 _ (I9.toTry _) q9) (fun z s10 ⟨yv, H10, I10, r10, acc, hD10, hz10, nx⟩ => app_ok (X := X.blk s3 H3 scope ce fp) (I10.ofTry okB) hD10 hz10 r10 fun s11 I11 => fin I11 nx) fun x s' out => ?_
        exact blk_out hst hf tk fr cL I3 (fun b hb => (f3 b hb).1) out fun s1 r => r
/-- a call in such an element -/
theorem pe_calP {e : Expr} {es : List Expr} {t : TA} {x : Str} {k : Nat} {sp : Sp} {E : XK} {p pos : Pos} (hx : Passes (L2.CX X.prog X.w) X E) (c : CalX X.prog X.w X.K X.mg X.base x k sp) (hr : Room k X.A) (ha : PA X (e :: es) t) (hg : Gl X x := by rfl) (hdb : (x == ("__debug__" : Str)) = false := by decide)
    (he : starEach (e :: es) X.env = (false, eval e X.env) :: starEach es X.env := by rfl) (hpl : (backTo pos (starEach es X.env)).any (·.1) = false := by rfl) :
    PE X (.Call (.Name x p) (e :: es) [] pos) (tCalX sp E t) := by
  obtain ⟨f, fd, ps, F, hm, hk, hb⟩ := c.ex
  refine (pe_call F hr hg hm hk hb .nil hx ha hdb he hpl).to fun σ H Q q => ?_
  have q' : t σ H fun vs H1 => sp vs H1 Q E := q
  show t σ H fun vs H1 => sp (vs ++ []) H1 Q E
  simpa only [List.append_nil] using q'
end
end L2

end
section
set_option maxRecDepth 100000
set_option maxHeartbeats 4000000
/-! a def that raises nothing, called within an except suite -/
namespace L2
open PySem PySem.Spec PyProof.Rows L2H
structure FnL (P : Program) (w : World) (K : PySem.W.Frag) (mg : Str → Option Value) (base : Heap) (CX : CXT) (k : Nat) (f : Addr) (fd : FuncData) (ps : List Str) (sp : Sp) : Prop where
  len : ∀ vs H Q E, sp vs H Q E → vs.length = ps.length
  run : ∀ (A : Around) (outer : List Env) (s : Shared) (H : Hp) (args : Args) (us : List Value) (vs : List V) (Q : VK) (E : XK) (p : Addr × Obj), RoomH k A → PinOk outer H s p → Env0 P w K mg base A outer s H → BindsTo s fd args (ps.zip us) → Vals vs us → sp vs H Q E →
    codeAny (model P w) A (.call (.ref f) args) (CR CX outer P w H s Q E) s
theorem fn_ofL {CX : CXT} {P : Program} {w : World} {K : PySem.W.Frag} {mg : Str → Option Value} {base : Heap} {k : Nat} {f : Addr} {name qual : Str} {params : Arguments} {body : List Stmt} {scope : Scope} {dV kV doc pm cdv ct oc : Value} {an od : Option Addr}
    {osl : Array (Option Value)} {N ps : List Str} {sp : Sp} (lk : K.lookup f = some ⟨oc, od, .func (PySem.W.fnOf name qual params body scope dV kV doc pm an cdv ct), osl⟩) (hcd : PySem.W.codeIn K cdv qual = true) (S : FnScope N ps scope)
    (len : ∀ vs H Q E, sp vs H Q E → vs.length = ps.length)
    (hbody : ∀ (A : Around) (outer : List Env) (s : Shared) (H : Hp) (vs : List V) (Q : VK) (E : XK) (p : Addr × Obj), RoomH k (A.deeper (envOfC qual scope s.heap.objs.size f cdv)) → sp vs H Q E →
      ∃ t, PSs (cxH CX P w K mg base N qual scope f cdv A outer s H E p) body t ∧ t { nx := fun _ H' => Q .non H', rt := Q } (L2.start N vs) H) :
    FnL P w K mg base CX (k + 1) f (PySem.W.fnOf name qual params body scope dV kV doc pm an cdv ct) ps sp := by
  refine ⟨len, fun A outer s H args us vs Q E p hr hpin e0 hb r hsp => ?_⟩
  have hl := len _ _ _ _ hsp
  have KX : K.In s.heap := e0.mod.kin.keeps fun b o e => (e0.bs b o e).1
  have lim : s.heap.NoLimit := e0.mod.nolimit.keeps fun b o e => (e0.bs b o e).1
  have hkind : ∀ y ∈ ps.zip us, scope.names.lookup y.1 = some .local ∨ (scope.names.lookup y.1 = some .cell ∧ ((cellsFrom (s.heap.objs.size + 1) scope.names []).lookup y.1).isSome = true) := fun ⟨n, v⟩ hy => by
    rcases S.par n (List.of_mem_zip hy).1 with q | q
    · exact .inl q
    · exact .inr ⟨q, PySem.W.cellsFrom_some _ _ _ (.inl q)⟩
  refine codeAny_call_function hr.depth (KX _ _ lk) rfl S.co S.gen rfl (PySem.W.codeRec_of KX hcd) (hb _ _ _ _ ?_)
  refine wpAny_newFunctionEnv_cells S.kind hkind fun env he s1 x => ?_
  subst he
  refine ⟨lim.keeps x.toInCall.keep, codeAny_func ?_⟩
  obtain ⟨t, ht, hq⟩ := hbody A outer s H vs Q E p (hr.deeper _) hsp
  have I := inv_startH (CX := CX) (P := P) (w := w) (K := K) (mg := mg) (base := base) (E := E) (cd := cdv) (f := f) (qual := qual) S hpin e0 hl r x
  refine wpAny_mono (ht.run [] s1 (L2.start N vs) H _ I hq) (fun fl s' hs => ?_) fun e s' hs => hs
  have fin : ∀ {σ' : L2.St} {H' : Hp} {v : V} {u : Value}, Inv (cxH CX P w K mg base N qual scope f cdv A outer s H E p) [] σ' H' s' → RelV v u → Q v H' → CE outer P w H s Q u s' :=
    fun {σ' H' v u} J rv q => ⟨v, H', J.os, J.bare, J.base, J.hok, rv, q⟩
  cases fl with
  | ret u => obtain ⟨v, σ', H', J, rv, q⟩ := hs; exact fin J rv q
  | next => obtain ⟨σ', H', J, q⟩ := hs; exact fin (v := V.non) (u := Value.none) J rfl q
  | brk => obtain ⟨_, _, _, q⟩ := hs; exact False.elim q
  | cont => obtain ⟨_, _, _, q⟩ := hs; exact False.elim q
section
variable {X : Cx} {CX : CXT} {k : Nat} {f : Addr} {fd : FuncData} {ps : List Str} {sp : Sp} {E : L2.St → XK} {x : Str} {q pos : Pos} {e : Expr} {es : List Expr} {t : TA}
theorem pe_callL (F : FnL X.prog X.w X.K X.mg X.base CX k f fd ps sp) (hr : RoomH k X.A) (hc : ∃ p : Addr × Obj, p ∈ X.pn) (hg : Gl X x) (hm : X.mg x = some (.ref f)) (hk : PySem.W.keepIn X.K (.ref f) = true) (hb : Binds X.K fd ps []) (hx : ∀ σ, PassesAt CX X σ (E σ))
    (ha : PA X (e :: es) t) (hdb : (x == ("__debug__" : Str)) = false := by decide) (he : starEach (e :: es) X.env = (false, eval e X.env) :: starEach es X.env := by rfl) (hpl : (backTo pos (starEach es X.env)).any (·.1) = false := by rfl) :
    PE X (.Call (.Name x q) (e :: es) [] pos) (tCallS sp E t) := by
  refine ⟨fun pins s σ H Q I h => ?_⟩
  refine wpAny_Call_Name_kw (ld_glob I hg hm ?_ hdb)
  refine PySem.W.callWith_K (h₀ := X.base) I.ok.mod.kin hk (thn (ha.run pos pins s σ H _ I h) fun us s1 ⟨vs, H1, I1, r, q⟩ => ⟨I1.kIn, ?_⟩) he hpl
  obtain ⟨p, hp⟩ := hc
  have hl : us.length = ps.length := by rw [← r.length]; exact F.len _ _ _ _ q
  have b := hb s1 us I1.kIn (by rw [List.append_nil]; exact hl)
  rw [List.append_nil] at b
  have P1 := I1.pin p (List.mem_append_left _ hp)
  have hpin : PinOk X.stack H1 s1 p := ⟨P1.1, P1.2.1, fun hm => (List.mem_cons.mp (I1.stkSub p.1 hm)).elim P1.2.2.1 P1.2.2.2.1, P1.2.2.2.2⟩
  refine wpAny_call (codeAny_mono (F.run X.A X.stack s1 H1 ⟨us, []⟩ us vs Q (E σ) p hr hpin I1.env0 b r q) fun r s' hq => ?_)
  cases r with
  | error e => exact hx σ pins H1 s1 e s' I1 hq
  | ok fl =>
    cases fl with
    | ret u => exact I1.after hq
    | next => exact False.elim hq
    | brk => exact False.elim hq
    | cont => exact False.elim hq
end
end L2
namespace Hue
open PySem PySem.Spec PyProof.Rows L2 L2H
theorem _root_.L2.Fun.okL {P : Program} {w : World} {K : PySem.W.Frag} {mg : Str → Option Value} {base : Heap} {x qual : Str} {st : Stmt} {f : Addr} {fd : FuncData} {N ps : List Str} {k : Nat} {sp : Sp} (F : Fun K x qual st f fd) (S : FnScope N ps (defScope st)) (len : ∀ vs H Q E, sp vs H Q E → vs.length = ps.length)
    (hbody : ∀ (cdv : Value) (A : Around) (outer : List Env) (s : Shared) (H : Hp) (vs : List V) (Q : VK) (E : XK) (p : Addr × Obj), RoomH k (A.deeper (envOfC qual (defScope st) s.heap.objs.size f cdv)) → sp vs H Q E →
      ∃ t, PSs (cxH CX0 P w K mg base N qual (defScope st) f cdv A outer s H E p) (defBody st) t ∧ t { nx := fun _ H' => Q .non H', rt := Q } (L2.start N vs) H) : FnL P w K mg base CX0 (k + 1) f fd ps sp := by
  obtain ⟨oc, od, kV, doc, pm, an, cdv, ct, osl, rfl, lk, hcd⟩ := F.ex
  exact fn_ofL lk hcd S len fun A outer s H vs Q E p hr hsp => hbody cdv A outer s H vs Q E p hr hsp
structure CalL (P : Program) (w : World) (K : PySem.W.Frag) (mg : Str → Option Value) (base : Heap) (x : Str) (k : Nat) (sp : Sp) : Prop where
  ex : ∃ (f : Addr) (fd : FuncData) (ps : List Str), FnL P w K mg base CX0 k f fd ps sp ∧ mg x = some (.ref f) ∧ PySem.W.keepIn K (.ref f) = true ∧ Binds K fd ps []
theorem pe_calL {X : Cx} {k : Nat} {sp : Sp} {x : Str} {q pos : Pos} {e : Expr} {es : List Expr} {t : TA} (c : CalL X.prog X.w X.K X.mg X.base x k sp) (hr : RoomH k X.A) (hc : ∃ p : Addr × Obj, p ∈ X.pn) (ha : PA X (e :: es) t) (hg : Gl X x := by rfl) (hdb : (x == ("__debug__" : Str)) = false := by decide)
    (he : starEach (e :: es) X.env = (false, eval e X.env) :: starEach es X.env := by rfl) (hpl : (backTo pos (starEach es X.env)).any (·.1) = false := by rfl) : PE X (.Call (.Name x q) (e :: es) [] pos) (tCallS sp (fun _ => E0) t) := by
  obtain ⟨f, fd, ps, F, hm, hk, hb⟩ := c.ex
  exact pe_callL F hr hc hg hm hk hb (fun σ pins H s e s' I h => h.elim) ha hdb he hpl
end Hue

end
section
set_option maxRecDepth 100000
namespace L2
open PySem PySem.Spec PyProof.Rows
/-! ### a def with one keyword-only parameter, which is False if it lacks -/
structure KwCal (P : Program) (w : World) (K : PySem.W.Frag) (mg : Str → Option Value) (base : Heap) (x : Str) (k n : Nat) (nm : Str) (sp : Sp) : Prop where
  ex : ∃ (f : Addr) (fd : FuncData) (ps : List Str), FnOk P w K mg base CX0 k f fd ps sp ∧ mg x = some (.ref f) ∧ PySem.W.keepIn K (.ref f) = true ∧ (∃ ds, Vals [V.bl false] ds ∧ Binds K fd ps ds) ∧
    KBn K fd ps n [nm] (fun us ws => us ++ ws) (fun vs zs => vs ++ zs)
section
variable {X : Cx} {e : Expr} {es : List Expr} {t tk : TA} {x nm : Str} {k n : Nat} {sp : Sp} {p pos : Pos} {kws : List Keyword}
/-- without it -/
def tKw0 (sp : Sp) (t : TA) : TE := fun σ H Q => t σ H fun vs H1 => sp (vs ++ [V.bl false]) H1 Q E0
/-- with it -/
def tKw1 (n : Nat) (sp : Sp) (t : TA) (tk : TA) : TE := fun σ H Q => t σ H fun vs H1 => tk σ H1 fun zs H2 => vs.length = n ∧ zs.length = 1 ∧ sp (vs ++ zs) H2 Q E0
theorem pe_kw0 (c : KwCal X.prog X.w X.K X.mg X.base x k n nm sp) (hr : Room k X.A) (ha : PA X (e :: es) t) (hg : Gl X x := by rfl) (hdb : (x == ("__debug__" : Str)) = false := by decide)
    (he : starEach (e :: es) X.env = (false, eval e X.env) :: starEach es X.env := by rfl) (hpl : (backTo pos (starEach es X.env)).any (·.1) = false := by rfl) :
    PE X (.Call (.Name x p) (e :: es) [] pos) (tKw0 sp t) := by
  obtain ⟨f, fd, ps, F, hm, hk, ⟨ds, hd, hb⟩, _⟩ := c.ex
  exact (pe_call F hr hg hm hk hb hd pass0 ha hdb he hpl).to fun σ H Q q => q
theorem pe_kw1 (c : KwCal X.prog X.w X.K X.mg X.base x k n nm sp) (hr : Room k X.A) (ha : PA X (e :: es) t) (hkw : PK X kws tk) (hg : Gl X x := by rfl)
    (hall : (backToKw pos (keywordEach kws X.env)).all (·.1.isSome) = true := by rfl) (hks : (backToKw pos (keywordEach kws X.env)).filterMap (·.1) = [nm] := by rfl)
    (hdb : (x == ("__debug__" : Str)) = false := by decide) (he : starEach (e :: es) X.env = (false, eval e X.env) :: starEach es X.env := by rfl)
    (hpl : ((backTo pos (starEach (e :: es) X.env)).any (·.1) || (backToKw pos (keywordEach kws X.env)).any (·.1.isNone)) = false := by rfl) :
    PE X (.Call (.Name x p) (e :: es) kws pos) (tKw1 n sp t tk) := by
  obtain ⟨f, fd, ps, F, hm, hk, _, hb⟩ := c.ex
  exact (pe_callN F hr hg hm hk hb pass0 ha hkw hall hks hdb he hpl).to fun σ H Q q => q
end
end L2

end
section
set_option maxRecDepth 100000
namespace L2
open PySem PySem.Spec PyProof.Rows
/-! ### a call that knows nothing of one list leaves that list as it is, and builds nothing upon it -/
section
variable {P : Program} {w : World} {K : PySem.W.Frag} {mg : Str → Option Value} {base : Heap} {k : Nat} {f : Addr} {fd : FuncData} {ps : List Str}
/-- H without what stands at b -/
def hide (H : Hp) (b : Addr) : Hp := fun a => if a = b then none else H a
theorem hide_same {H : Hp} {b : Addr} : hide H b b = none := if_pos rfl
theorem hide_ne {H : Hp} {a b : Addr} (h : a ≠ b) : hide H b a = H a := if_neg h
theorem hide_some {H : Hp} {a b : Addr} {o : HO} (h : hide H b a = some o) : a ≠ b ∧ H a = some o := by
  have ne : a ≠ b := fun e => by
    rw [e, hide_same] at h
    cases h
  exact ⟨ne, (hide_ne (H := H) ne).symm.trans h⟩
/-- an object asks of the others for tuples and for the dicts of instances alone -/
theorem objOk_swap {H H2 : Hp} {h : Heap} {a : Addr} (tups : ∀ c xs, H c = some (.tup xs) → H2 c = some (.tup xs)) (owns : ∀ c x, H c = some (.own x) → H2 c = some (.own x)) : ∀ o : HO, ObjOk P w H h a o → ObjOk P w H2 h a o
  | .lst _, k => k
  | .tup _, k => k
  | .dK _, k => k
  | .dT _, ⟨l, s, xs, p, r⟩ => ⟨l, s, xs, by
    clear r
    induction p with
    | nil => exact .nil
    | cons e _ ih => exact .cons ⟨e.1, tups _ _ e.2.1, e.2.2⟩ (ih (Nat.le_of_succ_le l)), r⟩
  | .set _ _, k => k
  | .ins _ _ _, ⟨d, r⟩ => ⟨owns _ _ d, r⟩
  | .own _, k => k
  | .xd _, k => k
  | .met _ _, k => k
  | .rng _ _, k => k
  | .frz _ u, ⟨d, r⟩ => ⟨d, objOk_swap tups owns u r⟩
  | .tbl _, k => k
  | .ext _, k => k
theorem hOk_hide {H : Hp} {h : Heap} {b : Addr} {xs : List V} (hb : H b = some (.lst xs)) (k : HOk P w H h) : HOk P w (hide H b) h := fun a o ha =>
  objOk_swap (fun c ys e => by rw [hide_ne (ne_of e hb (by intro z; cases z))]; exact e) (fun c x e => by rw [hide_ne (ne_of e hb (by intro z; cases z))]; exact e) o (k a o (hide_some ha).2)
theorem env0_hide {A : Around} {outer : List Env} {s : Shared} {H : Hp} {b : Addr} {xs : List V} (hb : H b = some (.lst xs)) (e : Env0 P w K mg base A outer s H) : Env0 P w K mg base A outer s (hide H b) where
  frames := e.frames
  mod := e.mod
  bs := fun c o q => ⟨(e.bs c o q).1, by
    by_cases z : c = b
    · rw [z, hide_same]
    · rw [hide_ne z]; exact (e.bs c o q).2⟩
  bsz := e.bsz
  funs := e.funs
  frf := fun c hc => by
    by_cases z : c = b
    · rw [z, hide_same]
    · rw [hide_ne z]; exact e.frf c hc
  hok := hOk_hide hb e.hok
  bare := e.bare
/-- a spec, asked of the heap without the list at b -/
def Off (sp : Sp) : Sp := fun vs H Q E => ∃ (b : Addr) (xs : List V), H b = some (.lst xs) ∧ sp vs (hide H b) (fun v H' => H' b = none → Q v (upd H' b (.lst xs))) E
theorem FnOk.off {sp : Sp} (F : FnOk P w K mg base CX0 k f fd ps sp) : FnOk P w K mg base CX0 k f fd ps (Off sp) where
  len := fun vs H Q E ⟨b, xs, _, h⟩ => F.len _ _ _ _ h
  run := fun A outer s H args us vs Q E hr he hb hv ⟨b, xs, hbx, hs⟩ => by
    refine codeAny_mono (F.run A outer s (hide H b) args us vs _ E hr (env0_hide hbx he) hb hv hs) fun r s' hq => ?_
    cases r with
    | error e => exact hq
    | ok fl =>
      cases fl with
      | ret u =>
        obtain ⟨v, H', ho, hg, un, hok, rv, q⟩ := hq
        obtain ⟨hl, its, n, vv, hget⟩ := he.hok b _ hbx
        have nf : b ∉ frs outer := fun z => by
          rw [he.frf b z] at hbx
          cases hbx
        have kept := un.keep b _ hget hide_same nf List.not_mem_nil
        have gone := un.free b _ hget hide_same List.not_mem_nil
        have off : ∀ {c : Addr}, H c = none → c ≠ b ∧ hide H b c = none := fun {c} e => by
          have ne : c ≠ b := fun z => by rw [z, hbx] at e; cases e
          exact ⟨ne, by rw [hide_ne ne]; exact e⟩
        refine ⟨v, upd H' b (.lst xs), ho, hg, ⟨fun c o q n => un.keep c o q (off n).2, fun c o q n => un.slot c o q (off n).2, fun c o q n x => ?_, un.there, fun c ys e => ?_, fun c o u e => ?_, fun c ys e => ?_⟩, fun a o ha => ?_, rv, q gone⟩
        · rw [upd_ne (off n).1]
          exact un.free c o q (off n).2 x
        · have ne : c ≠ b := ne_of e hbx (by intro z; cases z)
          rw [upd_ne ne]
          exact un.tups c ys (by rw [hide_ne ne]; exact e)
        · have ne : c ≠ b := ne_of e hbx (by intro z; cases z)
          rw [upd_ne ne]
          exact un.frzs c o u (by rw [hide_ne ne]; exact e)
        · have ne : c ≠ b := ne_of e hbx (by intro z; cases z)
          obtain ⟨more, m⟩ := un.tbls c ys (by rw [hide_ne ne]; exact e)
          exact ⟨more, by rw [upd_ne ne]; exact m⟩
        · by_cases z : a = b
          · subst z
            rw [upd_same] at ha
            cases ha
            exact ⟨hl, its, n, vv, kept⟩
          · rw [upd_ne z] at ha
            have keepH : ∀ c o, H' c = some o → upd H' b (.lst xs) c = some o := fun c o e => by
              rw [upd_ne (ne_of_none e gone)]
              exact e
            exact objOk_swap (fun c ys e => keepH c _ e) (fun c x e => keepH c _ e) o (hok a o ha)
      | next => exact hq
      | brk => exact hq
      | cont => exact hq
end
end L2

end
section
set_option maxRecDepth 100000
namespace Hue
open PySem PySem.Spec PyProof.Rows L2
/-! ### the text by places -/
def top (i : Nat) : Stmt := PySem.Challenge.pw_huefall_k82_lowest_lit_lamps_agree.main.body.getD i (.Pass ⟨0, 0, 0, 0⟩)
/-- what the top has left: the class, the built-ins' names -/
structure Txt (K : PySem.W.Frag) (mg : Str → Option Value) (C : Addr) : Prop where
  cl : Cls K C
  nCount : NoAttr K C "count"
  nHues : NoAttr K C "hues"
  nBen : NoAttr K C "_beneath"
  nWires : NoAttr K C "wires"
  nAbove : NoAttr K C "_above"
  nDirect : NoAttr K C "_direct"
  nOrder : NoAttr K C "_order"
  mgC : mg "House" = some (.ref C)
  con : ∃ mc, ClX.CRead K C mc ∧ (∃ u, ClX.CVal K C mc "MOST_LAMPS" (.int 16) u) ∧ ∃ u, ClX.CVal K C mc "MOST_HUES" (.int 10) u
  len : mg "len" = none
  range : mg "range" = none
  isinstance : mg "isinstance" = none
  int : mg "int" = none
  bool : mg "bool" = none
  tuple : mg "tuple" = none
  list : mg "list" = none
  set : mg "set" = none
  enumerate : mg "enumerate" = none
  sorted : mg "sorted" = none
  min : mg "min" = none
  all : mg "all" = none
  any : mg "any" = none
  abs : mg "abs" = none
  reversed : mg "reversed" = none
  max : mg "max" = none
  str : mg "str" = none
  repr : mg "repr" = none
  sum : mg "sum" = none
  ValueError : mg "ValueError" = none
section
variable {P : Program} {w : World} {K : PySem.W.Frag} {mg : Str → Option Value} {base : Heap} {C : Addr}
/-! ### whole numbers -/
/-- the kinds of values that are asked -/
inductive Kd (H : Hp) : V → Prop
  | int (i : Int) : Kd H (.int i)
  | bl (b : Bool) : Kd H (.bl b)
  | non : Kd H .non
  | str (s : Str) : Kd H (.str s)
  | tup {t : Addr} {xs : List V} (h : H t = some (.tup xs)) : Kd H (.ref t)
  | lst {t : Addr} {xs : List V} (h : H t = some (.lst xs)) : Kd H (.ref t)
theorem Kd.same {H H' : Hp} {v : V} (k : Kd H v) (s : Same H H') : Kd H' v := by
  cases k with
  | int i => exact .int i
  | bl b => exact .bl b
  | non => exact .non
  | str s => exact .str s
  | tup h => exact .tup (s _ _ h)
  | lst h => exact .lst (s _ _ h)
def isI : V → Bool
  | .int _ => true
  | _ => false
def inI (v : V) (lo hi : Int) : Bool := match v with
  | .int i => decide (lo ≤ i) && decide (i ≤ hi)
  | _ => false
abbrev s_is_whole : Stmt := top 10
theorem sc_is_whole : FnScope ["value"] ["value"] (defScope s_is_whole) := ⟨rfl, rfl, rfl, by decide +kernel, rfl, by decide +kernel, by decide +kernel⟩
-- slots of is_whole: 0 value
def spWholeV : Sp := fun vs H Q _ => ∃ v, vs = [v] ∧ Kd H v ∧ Q (.bl (isI v)) H
theorem ok_is_whole (T : Txt K mg C) {f : Addr} {fd : FuncData} (F : Fun K "is_whole" "is_whole" s_is_whole f fd) : FnOk P w K mg base CX0 1 f fd ["value"] spWholeV := by
  refine F.ok sc_is_whole (fun vs H Q E h => ?_) (fun cdv A outer s H vs Q E hr h => ?_)
  · obtain ⟨v, rfl, _⟩ := h; rfl
  · obtain ⟨v, rfl, k, q⟩ := h
    refine ⟨_, (pss_one (ps_ret (pe_and (pe_callB (isi_ K) (by rfl) T.isinstance b_isinstance (pa_cons (pv 0) (pa_cons (pe_bltn (v := .ty "int") (by rfl) T.int b_int rfl) pa_nil))) (pe_one (pe_not (pe_callB (isi_ K) (by rfl) T.isinstance b_isinstance (pa_cons (pv 0) (pa_cons (pe_bltn (v := .ty "bool") (by rfl) T.bool b_bool rfl) pa_nil)))))))), ?_⟩
    cases k with
    | int i =>
      refine ⟨_, rfl, _, _, _, _, true, rfl, .ty _, .base (.int i), kit_ty (by decide +kernel), true, rfl, iteT ?_⟩
      exact ⟨_, rfl, _, _, _, _, false, rfl, .ty _, .base (.int i), kit_ty (by decide +kernel), false, rfl, q⟩
    | bl b =>
      refine ⟨_, rfl, _, _, _, _, true, rfl, .ty _, .base (.bl b), kit_ty (by decide +kernel), true, rfl, iteT ?_⟩
      exact ⟨_, rfl, _, _, _, _, true, rfl, .ty _, .base (.bl b), kit_ty (by decide +kernel), true, rfl, q⟩
    | non => exact ⟨_, rfl, _, _, _, _, false, rfl, .ty _, .base .non, kit_ty (by decide +kernel), false, rfl, iteF q⟩
    | str s => exact ⟨_, rfl, _, _, _, _, false, rfl, .ty _, .base (.str s), kit_ty (by decide +kernel), false, rfl, iteF q⟩
    | tup h => exact ⟨_, rfl, _, _, _, _, false, rfl, .ty _, .base (.tup h), kit_ty (by decide +kernel), false, rfl, iteF q⟩
    | lst h => exact ⟨_, rfl, _, _, _, _, false, rfl, .ty _, .base (.lst h), kit_ty (by decide +kernel), false, rfl, iteF q⟩
abbrev s_is_whole_in : Stmt := top 11
theorem sc_is_whole_in : FnScope ["value", "low", "high"] ["value", "low", "high"] (defScope s_is_whole_in) := ⟨rfl, rfl, rfl, by decide +kernel, rfl, by decide +kernel, by decide +kernel⟩
-- slots of is_whole_in: 0 value, 1 low, 2 high
def spWholeInV : Sp := fun vs H Q _ => ∃ v lo hi, vs = [v, .int lo, .int hi] ∧ Kd H v ∧ Q (.bl (inI v lo hi)) H
def spWholeIn : Sp := fun vs H Q _ => ∃ v lo hi, vs = [.int v, .int lo, .int hi] ∧ Q (.bl (decide (lo ≤ v) && decide (v ≤ hi))) H
theorem whole_in_int (vs : List V) (H : Hp) (Q : VK) (E : XK) (h : spWholeIn vs H Q E) : spWholeInV vs H Q E := by
  obtain ⟨v, lo, hi, e, q⟩ := h
  exact ⟨.int v, lo, hi, e, .int v, q⟩
theorem ok_is_whole_in (T : Txt K mg C) {f : Addr} {fd : FuncData} (F : Fun K "is_whole_in" "is_whole_in" s_is_whole_in f fd) (c_is_whole : Cal P w K mg base "is_whole" 1 spWholeV) : FnOk P w K mg base CX0 2 f fd ["value", "low", "high"] spWholeInV := by
  refine F.ok sc_is_whole_in (fun vs H Q E h => ?_) (fun cdv A outer s H vs Q E hr h => ?_)
  · obtain ⟨v, lo, hi, rfl, _⟩ := h; rfl
  · obtain ⟨v, lo, hi, rfl, k, q⟩ := h
    refine ⟨_, (pss_one (ps_ret (pe_and (pe_cal c_is_whole (hr.mono (by decide)) (pa_cons (pv 0) pa_nil)) (pe_one (pe_chain op_le op_le (pv 1) (pv 0) (pv 2)))))), ?_⟩
    refine ⟨_, rfl, v, rfl, k, ?_⟩
    cases v with
    | int i =>
      refine ⟨true, rfl, iteT ?_⟩
      refine ⟨_, rfl, _, rfl, _, _, rfl, rfl, _, rfl, ?_⟩
      refine ite2 (fun h1 => ?_) (fun h1 => ?_)
      · refine ⟨_, rfl, _, _, rfl, rfl, ?_⟩
        have e : inI (.int i) lo hi = decide (i ≤ hi) := by
          show (decide (lo ≤ i) && decide (i ≤ hi)) = _
          rw [h1, Bool.true_and]
        rw [e] at q
        exact q
      · have e : inI (.int i) lo hi = false := by
          show (decide (lo ≤ i) && decide (i ≤ hi)) = _
          rw [Bool.eq_false_iff.mpr h1, Bool.false_and]
        rw [e] at q
        exact q
    | _ => exact ⟨false, rfl, iteF q⟩
/-! ### the checks of a house's parts -/
abbrev s_check_count : Stmt := top 16
theorem sc_check_count : FnScope ["count"] ["count"] (defScope s_check_count) := ⟨rfl, rfl, rfl, by decide +kernel, rfl, by decide +kernel, by decide +kernel⟩
-- slots of check_count: 0 count
def spCheckCount : Sp := fun vs H Q _ => ∃ c : Int, vs = [.int c] ∧ 1 ≤ c ∧ c ≤ 16 ∧ Q .non H
theorem ok_check_count (T : Txt K mg C) {f : Addr} {fd : FuncData} (F : Fun K "check_count" "check_count" s_check_count f fd) (c_is_whole_in : Cal P w K mg base "is_whole_in" 2 spWholeIn) : FnOk P w K mg base CX0 3 f fd ["count"] spCheckCount := by
  refine F.ok sc_check_count (fun vs H Q E h => ?_) (fun cdv A outer s H vs Q E hr h => ?_)
  · obtain ⟨c, rfl, _⟩ := h; rfl
  · obtain ⟨c, rfl, h1, h2, q⟩ := h
    obtain ⟨mc, rd, ⟨u, cv⟩, _⟩ := T.con
    refine ⟨_, (pss_one (ps_if (pt_not (pt_val (pe_cal c_is_whole_in (hr.mono (by decide)) (pa_cons (pv 0) (pa_cons pe_int (pa_cons (cval_ K (pe_glob (v := .ref C) (by rfl) T.mgC rfl)) pa_nil))))))
      pss_never pss_nil)), ?_⟩
    refine ⟨_, rfl, C, mc, _, _, rfl, rd, cv, c, 1, 16, rfl, _, rfl, ifF ?_ q⟩
    rw [decide_eq_true h1, decide_eq_true h2] <;> rfl
abbrev s_check_hues : Stmt := top 17
theorem sc_check_hues : FnScope ["hues"] ["hues"] (defScope s_check_hues) := ⟨rfl, rfl, rfl, by decide +kernel, rfl, by decide +kernel, by decide +kernel⟩
-- slots of check_hues: 0 hues
def spCheckHues : Sp := fun vs H Q _ => ∃ c : Int, vs = [.int c] ∧ 2 ≤ c ∧ c ≤ 10 ∧ Q .non H
theorem ok_check_hues (T : Txt K mg C) {f : Addr} {fd : FuncData} (F : Fun K "check_hues" "check_hues" s_check_hues f fd) (c_is_whole_in : Cal P w K mg base "is_whole_in" 2 spWholeIn) : FnOk P w K mg base CX0 3 f fd ["hues"] spCheckHues := by
  refine F.ok sc_check_hues (fun vs H Q E h => ?_) (fun cdv A outer s H vs Q E hr h => ?_)
  · obtain ⟨c, rfl, _⟩ := h; rfl
  · obtain ⟨c, rfl, h1, h2, q⟩ := h
    obtain ⟨mc, rd, _, ⟨u, cv⟩⟩ := T.con
    refine ⟨_, (pss_one (ps_if (pt_not (pt_val (pe_cal c_is_whole_in (hr.mono (by decide)) (pa_cons (pv 0) (pa_cons pe_int (pa_cons (cval_ K (pe_glob (v := .ref C) (by rfl) T.mgC rfl)) pa_nil))))))
      pss_never pss_nil)), ?_⟩
    refine ⟨_, rfl, C, mc, _, _, rfl, rd, cv, c, 2, 10, rfl, _, rfl, ifF ?_ q⟩
    rw [decide_eq_true h1, decide_eq_true h2] <;> rfl
abbrev s_is_wire : Stmt := top 18
theorem sc_is_wire : FnScope ["count", "value", "upper", "lower"] ["count", "value"] (defScope s_is_wire) := ⟨rfl, rfl, rfl, by decide +kernel, rfl, by decide +kernel, by decide +kernel⟩
-- slots of is_wire: 0 count, 1 value, 2 upper, 3 lower
def spIsWire : Sp := fun vs H Q _ => ∃ (c u l : Int) (t : Addr), vs = [.int c, .ref t] ∧ H t = some (.tup [.int u, .int l]) ∧ 0 ≤ u ∧ u < c ∧ 0 ≤ l ∧ l < c ∧ u ≠ l ∧ Q (.bl true) H
theorem ok_is_wire (T : Txt K mg C) {f : Addr} {fd : FuncData} (F : Fun K "is_wire" "is_wire" s_is_wire f fd) (c_is_whole_in : Cal P w K mg base "is_whole_in" 2 spWholeIn) : FnOk P w K mg base CX0 3 f fd ["count", "value"] spIsWire := by
  refine F.ok sc_is_wire (fun vs H Q E h => ?_) (fun cdv A outer s H vs Q E hr h => ?_)
  · obtain ⟨c, u, l, t, rfl, _⟩ := h; rfl
  · obtain ⟨c, u, l, t, rfl, ht, u0, u1, l0, l1, ne, q⟩ := h
    refine ⟨_, (pss_cons (ps_if (PW.pt (pw_or (pt_not (pt_val (pe_callB (isi_ K) (by rfl) T.isinstance b_isinstance (pa_cons (pv 1) (pa_cons (pe_bltn (v := .ty "tuple") (by rfl) T.tuple b_tuple rfl) pa_nil))))) (pw_or1 (pt_cmpR op_ne (pe_callB (lenS_ K) (by rfl) T.len b_len (pa_cons (pv 1) pa_nil)) pe_int (nomark _)))))
      (pss_one (ps_ret pe_bl)) pss_nil)
      (pss_cons (ps_asg (pv 1) (pg_tup (by rfl) (pgs_cons (pg_name (i := 2) sc_is_wire.nd rfl (by first | exact Or.inl rfl | exact Or.inr rfl)) (pgs_cons (pg_name (i := 3) sc_is_wire.nd rfl (by first | exact Or.inl rfl | exact Or.inr rfl)) pgs_nil))))
      (pss_one (ps_ret (pe_and (pe_cal c_is_whole_in (hr.mono (by decide)) (pa_cons (pv 2) (pa_cons pe_int (pa_cons (pe_op op_sub (pv 0) pe_int) pa_nil)))) (pe_and (pe_cal c_is_whole_in (hr.mono (by decide)) (pa_cons (pv 3) (pa_cons pe_int (pa_cons (pe_op op_sub (pv 0) pe_int) pa_nil)))) (pe_one (pe_cmpR op_ne (pv 2) (pv 3) (nomark _))))))))), ?_⟩
    refine ⟨_, rfl, _, _, _, _, true, rfl, .ty _, .base (.tup ht), kit_ty (by decide +kernel), true, rfl, iteF ?_⟩
    refine ⟨_, rfl, t, _, rfl, .inr (SqT.of ht), rfl, _, rfl, iteNS rfl ?_⟩
    refine ⟨_, rfl, t, _, rfl, SqT.of ht, rfl, _, _, rfl, _, _, rfl, rfl, ?_⟩
    refine ⟨_, rfl, _, rfl, _, _, rfl, rfl, u, 0, c - 1, rfl, _, rfl, ifT (by rw [decide_eq_true u0, decide_eq_true (by omega : u ≤ c - 1)] <;> rfl) ?_⟩
    refine ⟨_, rfl, _, rfl, _, _, rfl, rfl, l, 0, c - 1, rfl, _, rfl, ifT (by rw [decide_eq_true l0, decide_eq_true (by omega : l ≤ c - 1)] <;> rfl) ?_⟩
    refine ⟨_, rfl, _, rfl, rfl, ?_⟩
    have e : decide (V.int u = V.int l) = false := decide_eq_false fun z => ne (by injection z)
    rw [e]
    exact q
/-! ### the lamps beneath -/
abbrev s_with_wire : Stmt := top 20
theorem sc_with_wire : FnScope ["beneath", "upper", "lower", "gained", "lamp", "lamps"] ["beneath", "upper", "lower"] (defScope s_with_wire) := ⟨rfl, rfl, rfl, by decide +kernel, rfl, by decide +kernel, by decide +kernel⟩
-- slots of with_wire: 0 beneath, 1 upper, 2 lower, 3 gained, 4 lamp, 5 lamps
def spWithWire : Sp := fun vs H Q _ => ∃ (b : Addr) (n u l : Nat) (R : Rel), vs = [.ref b, .int u, .int l] ∧ n ≤ 16 ∧ u < n ∧ l < n ∧ Rows H b (relRows n R) ∧
  ∀ (H' : Hp) (p : Addr), Same H H' → Rows H' p (relRows n (addW R u l)) → Q (.ref p) H'
theorem ok_with_wire (T : Txt K mg C) {f : Addr} {fd : FuncData} (F : Fun K "with_wire" "with_wire" s_with_wire f fd) : FnOk P w K mg base CX0 1 f fd ["beneath", "upper", "lower"] spWithWire := by
  refine F.ok sc_with_wire (fun vs H Q E h => ?_) (fun cdv A outer s H vs Q E hr h => ?_)
  · obtain ⟨b, n, u, l, R, rfl, _⟩ := h; rfl
  · obtain ⟨b, n, u, l, R, rfl, hn, hu, hl, rw0, q⟩ := h
    obtain ⟨xs, al, hb, hxs, hal, hL⟩ := rw0.at (relRows_at (R := R) hl)
    refine ⟨_, (pss_cons (ps_set (i := 3) sc_with_wire.nd rfl (by first | exact Or.inl rfl | exact Or.inr rfl) (pe_lst (pa_cons (pv 2) (star_ K (pe_ix (ixL_ K) (pv 0) (pv 2) (fun _ _ => rfl)) pa_nil))))
      (pss_one (ps_ret (pe_lc (own := [("lamp", 4), ("lamps", 5)]) (g := gTup K 2 (gCons (gName 4) (gCons (gName 5) gNil))) (tt := tYes) rfl sc_with_wire.nd (pi_enum (by rfl) T.enumerate (pa_cons (pv 0) pa_nil)) (blkOk_by (by kernel_rfl)) (fun _ _ _ _ _ => (pg_tup (by rfl) (pgs_cons (pg_name (i := 4) sc_with_wire.nd rfl (by first | exact Or.inl rfl | exact Or.inr rfl)) (pgs_cons (pg_name (i := 5) sc_with_wire.nd rfl (by first | exact Or.inl rfl | exact Or.inr rfl)) pgs_nil)))) (fun _ _ _ _ _ => pts_nil) (fun _ _ _ _ _ => (pe_ifExp (PW.pt (pw_or (pt_cmpR op_eq (pv 4) (pv 1) (nomark _)) (pw_or1 (pt_cmpR (inS_ K) (pv 1) (pv 5) (by rfl))))) (pe_callB (sortedSet_ w rfl) (by rfl) T.sorted b_sorted (pa_cons (pe_callTy (setL_ K w rfl) (by rfl) T.set b_set (pa_cons (pe_op op_cat (pv 5) (pv 3)) pa_nil)) pa_nil)) (pv 5))))))), ?_⟩
    -- gained = [lower, *beneath[lower]]
    refine ⟨_, rfl, _, rfl, _, rfl, b, xs, _, _, rfl, rfl, SqL.of hb, atI_nat hal, al, _, rfl, .inr (SqL.of hL), ?_, fun g hg => ?_⟩
    · have := Bel_len n R l
      rw [List.length_cons, List.length_append, nL_len, List.length_nil, sizeLine_eq]
      omega
    have eg : (V.int (l : Int) :: (nL (Bel n R l) ++ [])) = nL (l :: Bel n R l) := by rw [List.append_nil]; rfl
    rw [eg]
    have s1 : Same H (upd H g (.lst (nL (l :: Bel n R l)))) := same_new hg
    have hg1 : (upd H g (.lst (nL (l :: Bel n R l)))) g = some (.lst (nL (l :: Bel n R l))) := upd_same
    generalize upd H g (.lst (nL (l :: Bel n R l))) = H1 at s1 hg1 ⊢
    have rw1 := rw0.same s1
    obtain ⟨as0, hb1, las0, hrow⟩ := id rw1
    rw [relRows_len] at las0
    refine ⟨_, rfl, b, as0.map V.ref, rfl, SqL.of hb1, fun D hD => lc_it walk_enum (fun i H2 => ∃ as : List Addr, H2 D = some (.lst (as.map V.ref)) ∧ as.length = i ∧ Same H1 H2 ∧ ∀ (j : Nat) a, as[j]? = some a → a ≠ D ∧ H2 a = some (.lst (nL (Bel n (addW R u l) j))))
      ⟨[], upd_same, rfl, same_new hD, fun j a e => by simp at e⟩ (fun i H2 _ ⟨_, _, _, s2, _⟩ => SqL.of (s2 _ _ hb1)) ?_ ?_⟩
    · rintro i x H2 H3 hi ⟨as, h1, h2, s2, h3⟩ ⟨t, x1, y, rfl, ht, rfl, e1, e2⟩
      cases e1
      rw [List.length_map, las0] at hi
      obtain ⟨a, ha, rfl⟩ : ∃ a, as0[i]? = some a ∧ y = V.ref a := by
        have e3 : (as0.map V.ref)[i]? = some y := e2
        rw [List.getElem?_map] at e3
        obtain ⟨a, h, e⟩ := Option.map_eq_some_iff.mp e3
        exact ⟨a, h, e.symm⟩
      have hrow_i := hrow i a _ ha (relRows_at hi)
      have hz : as.length < sizeLine := by rw [h2, sizeLine_eq]; omega
      have nDt : D ≠ t := ne_of_none h1 ht
      have s3 : Same H1 (upd H2 t (.tup [.int (i : Int), .ref a])) := same_then s2 ht
      have h1' : (upd H2 t (.tup [.int (i : Int), .ref a])) D = some (.lst (as.map V.ref)) := by rw [upd_ne nDt]; exact h1
      have h3' : ∀ (j : Nat) c, as[j]? = some c → c ≠ D ∧ (upd H2 t (.tup [.int (i : Int), .ref a])) c = some (.lst (nL (Bel n (addW R u l) j))) := fun j c e => ⟨(h3 j c e).1, by rw [upd_ne (ne_of_none (h3 j c e).2 ht)]; exact (h3 j c e).2⟩
      have htt : (upd H2 t (.tup [.int (i : Int), .ref a])) t = some (.tup [.int (i : Int), .ref a]) := upd_same
      generalize upd H2 t (.tup [.int (i : Int), .ref a]) = H3 at s3 h1' h3' htt ⊢
      refine ⟨t, _, rfl, SqT.of htt, rfl, _, _, rfl, _, _, rfl, rfl, rfl, yesT ?_⟩
      -- what a turn ends with
      have fin : ∀ (H4 : Hp) (c : Addr), Same H3 H4 → c ≠ D → H4 c = some (.lst (nL (Bel n (addW R u l) i))) → ∃ acc, H4 D = some (.lst acc) ∧ acc.length < sizeLine ∧
          ∃ as : List Addr, (upd H4 D (.lst (acc ++ [V.ref c]))) D = some (.lst (as.map V.ref)) ∧ as.length = i + 1 ∧ Same H1 (upd H4 D (.lst (acc ++ [V.ref c]))) ∧ ∀ (j : Nat) a, as[j]? = some a → a ≠ D ∧ (upd H4 D (.lst (acc ++ [V.ref c]))) a = some (.lst (nL (Bel n (addW R u l) j))) := by
        intro H4 c s4 nc hc
        refine ⟨_, s4 _ _ h1', by rw [List.length_map]; exact hz, as ++ [c], by rw [upd_same, List.map_append]; rfl, by rw [List.length_append, h2]; rfl, same_upd (s3.trans s4) hD, fun j c2 e => ?_⟩
        rcases Nat.lt_or_ge j as.length with lt | ge
        · rw [List.getElem?_append_left lt] at e
          obtain ⟨n1, n2⟩ := h3' j c2 e
          exact ⟨n1, by rw [upd_ne n1]; exact s4 _ _ n2⟩
        · rw [List.getElem?_append_right ge] at e
          have j0 : j - as.length = 0 := by
            rcases Nat.eq_zero_or_pos (j - as.length) with z | z
            · exact z
            · rw [List.getElem?_eq_none (by rw [List.length_singleton]; exact z)] at e; cases e
          rw [j0] at e
          cases e
          have ji : j = i := by omega
          rw [ji]
          exact ⟨nc, by rw [upd_ne nc]; exact hc⟩
      -- the new row
      have grow : (i = u ∨ R i u = true) → tCB (rSortedSet w) (tCons (tCB (rHuSetL K w) (tCons (tOp rCat (tVar 5) (tVar 3)) tNil)) tNil)
          [some (.ref b), some (.int u), some (.int l), some (.ref g), some (.int (i : Int)), some (.ref a)] H3 fun y H4 => ∃ acc, H4 D = some (.lst acc) ∧ acc.length < sizeLine ∧
          ∃ as : List Addr, (upd H4 D (.lst (acc ++ [y]))) D = some (.lst (as.map V.ref)) ∧ as.length = i + 1 ∧ Same H1 (upd H4 D (.lst (acc ++ [y]))) ∧ ∀ (j : Nat) a, as[j]? = some a → a ≠ D ∧ (upd H4 D (.lst (acc ++ [y]))) a = some (.lst (nL (Bel n (addW R u l) j))) := by
        intro hcond
        have b1 := Bel_len n R i
        have b2 := Bel_len n R l
        refine ⟨_, rfl, _, rfl, a, g, _, _, rfl, rfl, s3 _ _ hrow_i, s3 _ _ hg1, ?_, fun c hc => ?_⟩
        · rw [nL_len, nL_len, List.length_cons, sizeLine_eq]; omega
        refine ⟨c, nI (Bel n R i ++ l :: Bel n R l), rfl, SqL.of (by rw [upd_same, ← nL_app]; rfl), by rw [nI_len, List.length_append, List.length_cons]; omega, fun d k hd hk => ?_⟩
        refine ⟨d, _, k, rfl, upd_same, ?_, fun ns p asc mem _ hp => ?_⟩
        · rw [nI_len, List.length_append, List.length_cons] at hk; omega
        have ens : ns = nI (Bel n (addW R u l) i) := by
          refine asc_ext asc (Bel_asc ..) fun z => ?_
          rw [mem, decide_eq_true_eq, mem_nI, mem_nI]
          constructor
          · rintro ⟨m, hm, rfl⟩
            refine ⟨m, mem_Bel.mpr ?_, rfl⟩
            unfold addW
            rcases List.mem_append.mp hm with hm | hm
            · obtain ⟨m1, m2⟩ := mem_Bel.mp hm
              exact ⟨m1, by rw [m2, Bool.true_or]⟩
            · have c1 : (i == u || R i u) = true := by
                rcases hcond with e | e
                · rw [e]; simp
                · rw [e, Bool.or_true]
              rcases List.mem_cons.mp hm with e | hm
              · rw [e, c1]; exact ⟨hl, by simp⟩
              · obtain ⟨m1, m2⟩ := mem_Bel.mp hm
                exact ⟨m1, by rw [c1, m2]; simp⟩
          · rintro ⟨m, hm, rfl⟩
            refine ⟨m, ?_, rfl⟩
            obtain ⟨m1, m2⟩ := mem_Bel.mp hm
            unfold addW at m2
            rw [Bool.or_eq_true, Bool.and_eq_true, Bool.or_eq_true, Bool.or_eq_true, beq_iff_eq, beq_iff_eq] at m2
            rcases m2 with e | ⟨_, e | e⟩
            · exact List.mem_append_left _ (mem_Bel.mpr ⟨m1, e⟩)
            · exact List.mem_append_right _ (by rw [e]; exact List.mem_cons_self)
            · exact List.mem_append_right _ (List.mem_cons_of_mem _ (mem_Bel.mpr ⟨m1, e⟩))
        have s4 := ((same_new (o := .lst (nL (Bel n R i) ++ nL (l :: Bel n R l))) hc).trans (same_new (o := SetO w d (fun j => decide (j ∈ nI (Bel n R i ++ l :: Bel n R l))) k) hd)).trans (same_new (o := .lst (ns.map V.int)) hp)
        refine fin _ p s4 ?_ (by rw [upd_same, ens]; rfl)
        intro e
        have z := (((same_new (o := .lst (nL (Bel n R i) ++ nL (l :: Bel n R l))) hc).trans (same_new (o := SetO w d (fun j => decide (j ∈ nI (Bel n R i ++ l :: Bel n R l))) k) hd)) _ _ h1')
        rw [← e, hp] at z
        cases z
      refine ⟨_, rfl, _, rfl, rfl, _, rfl, ?_⟩
      refine ite2 (fun he => ?_) (fun hne => ?_)
      · have e0 : i = u := by
          have z := of_decide_eq_true he
          injection z with z
          omega
        exact iteT (grow (.inl e0))
      · refine ⟨_, rfl, _, rfl, a, _, rfl, .inl (SqL.of (s3 _ _ hrow_i)), rfl, flat_nL _, _, rfl, ?_⟩
        have nu : ¬ i = u := fun z => hne (by rw [z]; exact decide_eq_true rfl)
        show if (inV (V.int (u : Int)) (nL (Bel n R i))) = true then _ else _
        rw [in_nL]
        refine ite2 (fun he => ?_) (fun hne2 => ?_)
        · exact grow (.inr (mem_Bel.mp (of_decide_eq_true he)).2)
        · refine ⟨_, rfl, fin H3 a (Same.refl _) (fun z => ?_) ?_⟩
          · have q1 := hrow_i
            rw [z, hD] at q1
            cases q1
          · rw [s3 _ _ hrow_i]
            have nR : R i u = false := by
              cases e : R i u with
              | false => rfl
              | true => exact absurd (decide_eq_true (mem_Bel.mpr ⟨hu, e⟩)) hne2
            rw [Bel_congr (S := addW R u l) (i := i) fun j _ => ?_]
            unfold addW
            rw [nR, Bool.or_false, beq_eq_false_iff_ne.mpr nu, Bool.false_and, Bool.or_false]
    · rintro H2 ⟨as, h1, h2, s2, h3⟩
      rw [List.length_map, las0] at h2
      refine q H2 D (s1.trans s2) ⟨as, h1, by rw [h2, relRows_len], fun i a r ha hr => ?_⟩
      have hi : i < n := by rw [← h2]; exact (List.getElem?_eq_some_iff.mp ha).1
      rw [relRows_at hi] at hr
      cases hr
      exact (h3 i a ha).2
abbrev s_lamps_beneath : Stmt := top 19
theorem sc_lamps_beneath : FnScope ["count", "wires", "beneath", "_", "earlier", "index", "wire", "upper", "lower"] ["count", "wires"] (defScope s_lamps_beneath) := ⟨rfl, rfl, rfl, by decide +kernel, rfl, by decide +kernel, by decide +kernel⟩
-- slots of lamps_beneath: 0 count, 1 wires, 2 beneath, 3 _, 4 earlier, 5 index, 6 wire, 7 upper, 8 lower
/-- at a: a list of the tuples ts, which are the pairs ps: wires down a rank -/
def Wires (K : PySem.W.Frag) (H : Hp) (a : Addr) (n : Nat) (ps : List (Nat × Nat)) : Prop :=
  (∃ ts : List Addr, SqA K H a (ts.map V.ref) ∧ Pairs H ts ps) ∧ ps.Nodup ∧ ps.length < 4900 ∧ (∀ p ∈ ps, p.1 < n ∧ p.2 < n) ∧ ∃ ρ : Nat → Nat, ∀ p ∈ ps, ρ p.1 < ρ p.2
def spLampsBeneath (K : PySem.W.Frag) : Sp := fun vs H Q _ => ∃ (a : Addr) (n : Nat) (ps : List (Nat × Nat)), vs = [.int n, .ref a] ∧ n ≤ 16 ∧ Wires K H a n ps ∧
  ∀ (H' : Hp) (p : Addr), Same H H' → Rows H' p (relRows n (relOf ps)) → Q (.ref p) H'
theorem ok_lamps_beneath (T : Txt K mg C) {f : Addr} {fd : FuncData} (F : Fun K "lamps_beneath" "lamps_beneath" s_lamps_beneath f fd) (c_is_wire : Cal P w K mg base "is_wire" 3 spIsWire) (c_with_wire : Cal P w K mg base "with_wire" 1 spWithWire) : FnOk P w K mg base CX0 4 f fd ["count", "wires"] (spLampsBeneath K) := by
  refine F.ok sc_lamps_beneath (fun vs H Q E h => ?_) (fun cdv A outer s H vs Q E hr h => ?_)
  · obtain ⟨a, n, ps, rfl, _⟩ := h; rfl
  · obtain ⟨a, n, ps, rfl, hn, ⟨⟨ts, ha, hps⟩, nd, few, lt, ρ, rank⟩, q⟩ := h
    refine ⟨_, (pss_cons (ps_setLc (i := 2) (own := [("_", 3)]) (g := gName 3) (tt := tYes) rfl sc_lamps_beneath.nd rfl rfl (sw_true rfl rfl rfl (by kernel_rfl)) (pi_range1 (by rfl) T.range (pa_cons (pv 0) pa_nil)) (blkOk_by (by kernel_rfl)) (fun _ _ _ _ _ => (pg_name (i := 3) sc_lamps_beneath.nd rfl (by first | exact Or.inl rfl | exact Or.inr rfl))) (fun _ _ _ _ _ => pts_nil) (fun _ _ _ _ _ => (pe_lst pa_nil)))
      (pss_cons (ps_set (i := 4) sc_lamps_beneath.nd rfl (by first | exact Or.inl rfl | exact Or.inr rfl) (pe_callTy0 cr_b0 (by rfl) T.set b_set))
      (pss_cons (ps_for PassesOwn.never rfl (piA_ K (by rfl) T.enumerate (pa_cons (pv 1) pa_nil)) (pg_tup (by rfl) (pgs_cons (pg_name (i := 5) sc_lamps_beneath.nd rfl (by first | exact Or.inl rfl | exact Or.inr rfl)) (pgs_cons (pg_name (i := 6) sc_lamps_beneath.nd rfl (by first | exact Or.inl rfl | exact Or.inr rfl)) pgs_nil)))
      (pss_cons (ps_if (pt_not (pt_val (pe_cal c_is_wire (hr.mono (by decide)) (pa_cons (pv 0) (pa_cons (pv 6) pa_nil)))))
      pss_never pss_nil)
      (pss_cons (ps_if (pt_cmpR (bIn_ P w hr.units) (pv 6) (pv 4) (by rfl))
      pss_never pss_nil)
      (pss_cons (ps_asg (pv 6) (pg_tup (by rfl) (pgs_cons (pg_name (i := 7) sc_lamps_beneath.nd rfl (by first | exact Or.inl rfl | exact Or.inr rfl)) (pgs_cons (pg_name (i := 8) sc_lamps_beneath.nd rfl (by first | exact Or.inl rfl | exact Or.inr rfl)) pgs_nil))))
      (pss_cons (ps_if (pt_cmpR (inS_ K) (pv 7) (pe_ix (ixL_ K) (pv 2) (pv 8) (fun _ _ => rfl)) (by rfl))
      pss_never pss_nil)
      (pss_cons (ps_expr (pe_bAdd hr.units (pv 4) (pa_cons (pv 6) pa_nil)))
      (pss_one (ps_set (i := 2) sc_lamps_beneath.nd rfl (by first | exact Or.inl rfl | exact Or.inr rfl) (pe_cal c_with_wire (hr.mono (by decide)) (pa_cons (pv 2) (pa_cons (pv 7) (pa_cons (pv 8) pa_nil))))))))))))
      (pss_one (ps_ret (pv 2)))))), ?_⟩
    -- beneath = [[] for _ in range(count)]
    refine ⟨_, rfl, _, rfl, by omega, by omega, fun D hD => ?_⟩
    rw [Int.toNat_natCast]
    refine lc_range (fun i H2 => ∃ as : List Addr, H2 D = some (.lst (as.map V.ref)) ∧ as.length = i ∧ Same H H2 ∧ ∀ (j : Nat) a, as[j]? = some a → a ≠ D ∧ H2 a = some (.lst []))
      ⟨[], upd_same, rfl, same_new hD, fun j a e => by simp at e⟩ ?_ ?_
    · rintro i H2 hi ⟨as, h1, h2, s2, h3⟩
      refine ⟨rfl, yesT ⟨by decide, fun p hp => ?_⟩⟩
      have nDp : D ≠ p := ne_of_none h1 hp
      refine ⟨_, by rw [upd_ne nDp]; exact h1, by rw [List.length_map, h2, sizeLine_eq]; omega, as ++ [p], by rw [upd_same, List.map_append]; rfl, by rw [List.length_append, h2]; rfl, same_upd (same_then s2 hp) hD, fun j c e => ?_⟩
      rcases Nat.lt_or_ge j as.length with l | g
      · rw [List.getElem?_append_left l] at e
        obtain ⟨n1, n2⟩ := h3 j c e
        exact ⟨n1, by rw [upd_ne n1, upd_ne (ne_of_none n2 hp)]; exact n2⟩
      · rw [List.getElem?_append_right g] at e
        have j0 : j - as.length = 0 := by
          rcases Nat.eq_zero_or_pos (j - as.length) with z | z
          · exact z
          · rw [List.getElem?_eq_none (by rw [List.length_singleton]; exact z)] at e; cases e
        rw [j0] at e
        cases e
        exact ⟨nDp.symm, by rw [upd_ne nDp.symm, upd_same]⟩
    rintro H1 ⟨as, h1, h2, s1, h3⟩
    have rows1 : Rows H1 D (relRows n fun _ _ => false) := ⟨as, h1, by rw [h2, relRows_len], fun i a r hi hr => by
      have il : i < n := by rw [← h2]; exact (List.getElem?_eq_some_iff.mp hi).1
      rw [relRows_at il] at hr
      cases hr
      have e0 : Bel n (fun _ _ => false) i = [] := by unfold Bel; simp
      rw [e0]
      exact (h3 i a hi).2⟩
    -- earlier = set()
    refine ⟨rfl, fun e he => ?_⟩
    have s2 : Same H (upd H1 e (BigHO P w e [])) := same_then s1 he
    have h0e : H e = Option.none := s1.free he
    refine ⟨_, rfl, a, ts.map V.ref, rfl, ?_⟩
    refine for_enumA ha s2 (fun i σ H2 => ∃ (b : Addr) (L : List (Addr × List Int)) (v5 v6 v7 v8 : Option V), σ = [some (.int n), some (.ref a), some (.ref b), Option.none, some (.ref e), v5, v6, v7, v8] ∧ Same H H2 ∧
        Rows H2 b (relRows n (relOf (ps.take i))) ∧ HasB K P w H2 e L ∧ L.length = i ∧ ∀ k, k ∈ L.map (·.2) → ∃ p ∈ ps.take i, k = [(p.1 : Int), (p.2 : Int)])
      ⟨D, [], _, _, _, _, rfl, s2, rows1.same (same_new he), ⟨upd_same, fun p hp => by cases hp⟩, rfl, fun k hk => by cases hk⟩ (fun i σ H2 _ ⟨_, _, _, _, _, _, _, s, _⟩ => s) ?_ ?_
    · rintro i x σ H2 H3 hi ⟨b, L, v5, v6, v7, v8, rfl, s3, rows, hasT, lenL, memL⟩ ⟨tp, x1, y, rfl, htp, rfl, e1, e2⟩
      cases e1
      rw [List.length_map] at hi
      have e3 : (ts.map V.ref)[i]? = some y := e2
      rw [List.getElem?_map] at e3
      obtain ⟨t, ht, rfl⟩ := Option.map_eq_some_iff.mp e3
      have hip : i < ps.length := by rw [← hps.1]; exact hi
      obtain ⟨p, hp⟩ : ∃ p, ps[i]? = some p := ⟨_, List.getElem?_eq_getElem hip⟩
      have pmem : p ∈ ps := List.mem_of_getElem? hp
      obtain ⟨plt1, plt2⟩ := lt p pmem
      have prank := rank p pmem
      have tup0 : H t = some (.tup [.int (p.1 : Int), .int (p.2 : Int)]) := hps.2 i t p ht hp
      have s4 : Same H2 (upd H2 tp (.tup [.int (i : Int), .ref t])) := same_new htp
      have rows4 := rows.same s4
      have hasT4 : HasB K P w (upd H2 tp (.tup [.int (i : Int), .ref t])) e L := ⟨s4 _ _ hasT.1, fun q hq => Same.tup s4 (hasT.2 q hq)⟩
      have s5 := s3.trans s4
      have htt : (upd H2 tp (.tup [.int (i : Int), .ref t])) tp = some (.tup [.int (i : Int), .ref t]) := upd_same
      generalize upd H2 tp (.tup [.int (i : Int), .ref t]) = H4 at s4 rows4 hasT4 s5 htt ⊢
      have tup4 := s5 _ _ tup0
      have new : [(p.1 : Int), (p.2 : Int)] ∉ L.map (·.2) := by
        intro z
        obtain ⟨p2, m2, e⟩ := memL _ z
        injection e with z1 z2
        injection z2 with z2 _
        have ep : p2 = p := by
          obtain ⟨a1, a2⟩ := p
          obtain ⟨b1, b2⟩ := p2
          simp only at z1 z2
          rw [Prod.mk.injEq]
          omega
        rw [ep] at m2
        obtain ⟨j, hj, ej⟩ := List.getElem_of_mem m2
        rw [List.length_take] at hj
        rw [List.getElem_take] at ej
        have ei : ps[i] = p := by
          have z := List.getElem?_eq_getElem hip
          rw [hp] at z
          exact (Option.some.inj z).symm
        exact absurd (ej.trans ei.symm) (List.pairwise_iff_getElem.mp nd j i (by omega) hip (by omega))
      refine ⟨tp, _, rfl, SqT.of htt, rfl, _, _, rfl, _, _, rfl, rfl, ?_⟩
      refine ⟨_, rfl, _, rfl, n, p.1, p.2, t, rfl, tup4, by omega, by omega, by omega, by omega, fun z => ?_, true, rfl, iteF ?_⟩
      · have : p.1 = p.2 := by omega
        rw [this] at prank
        exact Nat.lt_irrefl _ prank
      refine ⟨_, rfl, _, rfl, t, e, [(p.1 : Int), (p.2 : Int)], L, rfl, rfl, SqT.of tup4, hasT4, _, rfl, ifF (decide_eq_false new) ?_⟩
      refine ⟨_, rfl, t, _, rfl, SqT.of tup4, rfl, _, _, rfl, _, _, rfl, rfl, ?_⟩
      obtain ⟨xs, al, hb, _, hal, hL⟩ := rows4.at (relRows_at (R := relOf (ps.take i)) plt2)
      refine ⟨_, rfl, _, rfl, _, rfl, b, xs, _, _, rfl, rfl, SqL.of hb, atI_nat hal, al, _, rfl, .inl (SqL.of hL), rfl, flat_nL _, _, rfl, ?_⟩
      refine ifF ?_ ?_
      · show inV (V.int (p.1 : Int)) (nL (Bel n (relOf (ps.take i)) p.2)) = false
        rw [in_nL, decide_eq_false_iff_not]
        intro z
        have r1 := relOf_rank (ρ := ρ) (ps := ps.take i) (fun q hq => rank q (List.mem_of_mem_take hq)) _ _ (mem_Bel.mp z).2
        omega
      refine ⟨_, rfl, ⟨e, L, rfl, hasT4.1⟩, _, rfl, e, t, [(p.1 : Int), (p.2 : Int)], L, rfl, rfl, SqT.of tup4, hasT4, by omega, fun z => absurd z new, fun _ L2 pm => ?_⟩
      have rows5 : Rows (upd H4 e (BigHO P w e L2)) b (relRows n (relOf (ps.take i))) := rows4.ext hasT4.1
      refine ⟨_, rfl, _, rfl, _, rfl, b, n, p.1, p.2, relOf (ps.take i), rfl, hn, plt1, plt2, rows5, fun H6 c s6 rows6 => ?_⟩
      have s7 : Same H H6 := (same_upd s5 h0e).trans s6
      refine ⟨c, L2, _, _, _, _, rfl, s7, by rw [relOf_more hp]; exact rows6, ⟨s6 _ _ upd_same, fun r hr => ?_⟩, ?_, fun k hk => ?_⟩
      · rcases List.mem_cons.mp (pm.mem_iff.mp hr) with z | z
        · rw [z]; exact SqT.of (s7 _ _ tup0)
        · refine Same.tup s6 ?_
          have w0 := hasT4.2 r z
          rcases w0 with (w0 | ⟨o, w0⟩) | w0
          · refine .inl (.inl ?_)
            rw [upd_ne (ne_of w0 hasT4.1 (by intro z; cases z))]; exact w0
          · refine .inl (.inr ⟨o, ?_⟩)
            rw [upd_ne (ne_of w0 hasT4.1 (by intro z; cases z))]; exact w0
          · exact .inr w0
      · rw [pm.length_eq, List.length_cons, lenL]
      · have pm2 := (pm.map (·.2)).mem_iff.mp hk
        rw [List.map_cons] at pm2
        rcases List.mem_cons.mp pm2 with z | z
        · refine ⟨p, ?_, z⟩
          rw [List.take_add_one, hp]
          exact List.mem_append_right _ List.mem_cons_self
        · obtain ⟨p2, m2, e⟩ := memL k z
          refine ⟨p2, ?_, e⟩
          rw [List.take_add_one]
          exact List.mem_append_left _ m2
    · rintro σ H2 ⟨b, L, v5, v6, v7, v8, rfl, s3, rows, _⟩
      rw [List.length_map, hps.1, List.take_length] at rows
      exact ⟨_, rfl, q H2 b s3 rows⟩
end
end Hue

end
section
set_option maxRecDepth 100000
namespace Hue
open PySem PySem.Spec PyProof.Rows L2
section
variable {P : Program} {w : World} {K : PySem.W.Frag} {mg : Str → Option Value} {base : Heap} {C : Addr}
/-! ### the order list -/
abbrev s_is_next : Stmt := top 22
theorem sc_is_next : FnScope ["above", "order", "lamp", "upper"] ["above", "order", "lamp"] (defScope s_is_next) := ⟨rfl, rfl, rfl, by decide +kernel, rfl, by decide +kernel, by decide +kernel⟩
-- slots of is_next: 0 above, 1 order, 2 lamp, 3 upper
def spIsNext : Sp := fun vs H Q _ => ∃ (ab o : Addr) (n k : Nat) (R : Rel) (ord : List Nat), vs = [.ref ab, .ref o, .int k] ∧ n ≤ 16 ∧ k < n ∧ Rows H ab (relRows n (flip R)) ∧ H o = some (.lst (nL ord)) ∧
  ∀ H', Same H H' → Q (.bl (nxt n R ord k)) H'
theorem ok_is_next (T : Txt K mg C) {f : Addr} {fd : FuncData} (F : Fun K "is_next" "is_next" s_is_next f fd) : FnOk P w K mg base CX0 1 f fd ["above", "order", "lamp"] spIsNext := by
  refine F.ok sc_is_next (fun vs H Q E h => ?_) (fun cdv A outer s H vs Q E hr h => ?_)
  · obtain ⟨ab, o, n, k, R, ord, rfl, _⟩ := h; rfl
  · obtain ⟨ab, o, n, k, R, ord, rfl, hn, hk, rows, ho, q⟩ := h
    refine ⟨_, (pss_one (ps_ret (pe_and (pe_cmpR (ninS_ K) (pv 2) (pv 1) (by rfl)) (pe_one (pe_callB (all_ K rfl) (by rfl) T.all b_all (pa_cons (pe_lc (own := [("upper", 3)]) (g := gName 3) (tt := tYes) rfl sc_is_next.nd (pil_ K (pe_ix (ixL_ K) (pv 0) (pv 2) (fun _ _ => rfl))) (blkOk_by (by kernel_rfl)) (fun _ _ _ _ _ => (pg_name (i := 3) sc_is_next.nd rfl (by first | exact Or.inl rfl | exact Or.inr rfl))) (fun _ _ _ _ _ => pts_nil) (fun _ _ _ _ _ => (pe_cmpR (inS_ K) (pv 3) (pv 1) (by rfl)))) pa_nil)))))), ?_⟩
    refine ⟨_, rfl, _, rfl, o, _, rfl, .inl (SqL.of ho), rfl, flat_nL _, _, rfl, ?_⟩
    show if (!inV (V.int (k : Int)) (nL ord)) = true then _ else _
    rw [in_nL]
    refine ite2 (fun h1 => ?_) (fun h1 => ?_)
    · obtain ⟨xs, al, hb, _, hal, hL⟩ := rows.at (relRows_at (R := flip R) hk)
      refine ⟨_, rfl, _, rfl, ab, xs, _, _, rfl, rfl, SqL.of hb, atI_nat hal, al, rfl, ⟨_, SqL.of hL⟩, fun D hD => ?_⟩
      refine lc_list (xs := nL (Bel n (flip R) k)) (fun i H2 => H2 D = some (.lst ((((Bel n (flip R) k).take i).map fun j => decide (j ∈ ord)).map V.bl)) ∧ Same H H2)
        ⟨upd_same, same_new hD⟩ (fun i H2 _ ⟨_, s⟩ => SqL.of (s _ _ hL)) ?_ ?_
      · rintro i x H2 hx ⟨h2, s2⟩
        obtain ⟨j, hj, rfl⟩ : ∃ j, (Bel n (flip R) k)[i]? = some j ∧ x = V.int (j : Int) := by
          unfold nL nI at hx
          rw [List.map_map, List.getElem?_map] at hx
          obtain ⟨j, hj, e⟩ := Option.map_eq_some_iff.mp hx
          exact ⟨j, hj, e.symm⟩
        refine ⟨rfl, yesT ⟨_, rfl, _, rfl, o, _, rfl, .inl (SqL.of (s2 _ _ ho)), rfl, flat_nL _, _, h2, ?_, ?_, same_upd s2 hD⟩⟩
        · rw [List.length_map, List.length_map, List.length_take, sizeLine_eq]
          have := Bel_len n (flip R) k
          omega
        · rw [upd_same, List.take_add_one, hj, List.map_append, List.map_append]
          show some (HO.lst (_ ++ [V.bl (inV (V.int (j : Int)) (nL ord))])) = _
          rw [in_nL]
          rfl
      · rintro H2 ⟨h2, s2⟩
        rw [nL_len, List.take_length] at h2
        refine ⟨D, _, rfl, SqL.of h2, ?_⟩
        have e : nxt n R ord k = ((Bel n (flip R) k).map fun j => decide (j ∈ ord)).all id := by
          unfold nxt
          rw [h1, Bool.true_and, List.all_map]
          rfl
        rw [← e]
        exact q H2 s2
    · have e : nxt n R ord k = false := by
        unfold nxt
        rw [Bool.eq_false_iff.mpr h1, Bool.false_and]
      rw [← e]
      exact q H (Same.refl H)
abbrev s_order_list : Stmt := top 21
theorem sc_order_list : FnScope ["above", "order", "lamp"] ["above"] (defScope s_order_list) := ⟨rfl, rfl, rfl, by decide +kernel, rfl, by decide +kernel, by decide +kernel⟩
-- slots of order_list: 0 above, 1 order, 2 lamp
def spOrderList : Sp := fun vs H Q _ => ∃ (ab : Addr) (n : Nat) (R : Rel), vs = [.ref ab] ∧ n ≤ 16 ∧ Ranked R ∧ Rows H ab (relRows n (flip R)) ∧
  ∀ (H' : Hp) (p : Addr), Same H H' → H p = Option.none → H' p = some (.lst (nL (ordN n R n))) → Q (.ref p) H'
theorem ok_order_list (T : Txt K mg C) {f : Addr} {fd : FuncData} (F : Fun K "order_list" "order_list" s_order_list f fd) (c_is_next : Cal P w K mg base "is_next" 1 spIsNext) : FnOk P w K mg base CX0 2 f fd ["above"] spOrderList := by
  refine F.ok sc_order_list (fun vs H Q E h => ?_) (fun cdv A outer s H vs Q E hr h => ?_)
  · obtain ⟨ab, n, R, rfl, _⟩ := h; rfl
  · obtain ⟨ab, n, R, rfl, hn, hR, rows, q⟩ := h
    refine ⟨_, (pss_cons (ps_set (i := 1) sc_order_list.nd rfl (by first | exact Or.inl rfl | exact Or.inr rfl) (pe_lst pa_nil))
      (pss_cons (ps_while PassesOwn.never (pt_cmpR op_lt (pe_callB (lenS_ K) (by rfl) T.len b_len (pa_cons (pv 1) pa_nil)) (pe_callB (lenS_ K) (by rfl) T.len b_len (pa_cons (pv 0) pa_nil)) (nomark _))
      (pss_one (ps_expr (pe_bm PySem.F.plainAttrs_list PySem.F.slot_list_append PySem.F.type_list_append mt_append (pv 1) (pa_cons (pe_callB (min_ K rfl) (by rfl) T.min b_min (pa_cons (pe_lc (own := [("lamp", 2)]) (g := gName 2) rfl sc_order_list.nd (pi_range1 (by rfl) T.range (pa_cons (pe_callB (lenS_ K) (by rfl) T.len b_len (pa_cons (pv 0) pa_nil)) pa_nil)) (blkOk_by (by kernel_rfl)) (fun _ _ _ _ _ => (pg_name (i := 2) sc_order_list.nd rfl (by first | exact Or.inl rfl | exact Or.inr rfl))) (fun _ _ _ _ _ => (pts_one (pt_val (pe_cal c_is_next (hr.mono (by decide)) (pa_cons (pv 0) (pa_cons (pv 1) (pa_cons (pv 2) pa_nil))))))) (fun _ _ _ _ _ => (pv 2))) pa_nil)) pa_nil)))))
      (pss_one (ps_ret (pv 1))))), ?_⟩
    refine ⟨by decide, fun o ho => ?_⟩
    refine ⟨fun m σ H2 => ∃ k, m = n - k ∧ k ≤ n ∧ ∃ v, σ = [some (.ref ab), some (.ref o), v] ∧ Same H H2 ∧ H2 o = some (.lst (nL (ordN n R k))),
      ⟨n - 0, 0, rfl, Nat.zero_le _, _, rfl, same_new ho, upd_same⟩, ?_⟩
    rintro m σ H2 ⟨k, rfl, hk, v, rfl, s2, h2⟩
    have rows2 := rows.same s2
    obtain ⟨as, hab, las, _⟩ := id rows2
    rw [relRows_len] at las
    obtain ⟨len, ok⟩ := ordN_ok hR k hk
    refine ⟨_, rfl, o, _, rfl, .inl (SqL.of h2), _, rfl, ab, _, rfl, .inl (SqL.of hab), _, _, rfl, rfl, _, rfl, ?_⟩
    rw [nL_len, len, List.length_map, las]
    refine ite2 (fun hlt => ?_) (fun hge => ?_)
    · have klt : k < n := by have := of_decide_eq_true hlt; omega
      refine ⟨fun σ' H' => ∃ v, σ' = [some (.ref ab), some (.ref o), v] ∧ Same H H' ∧ H' o = some (.lst (nL (ordN n R (k + 1)))), fun σ' H' ⟨v, e1, e2, e3⟩ => ⟨n - (k + 1), by omega, k + 1, rfl, klt, v, e1, e2, e3⟩, ?_⟩
      obtain ⟨c, rest, ec⟩ := cands_ne (n := n) hR (ord := ordN n R k) (by omega)
      refine ⟨_, rfl, .inl ⟨rfl, _, SqL.of h2⟩, _, rfl, ab, _, rfl, .inl (SqL.of hab), _, rfl, ?_, ?_, fun D hD => ?_⟩
      · rw [List.length_map, las]; omega
      · rw [List.length_map, las]; omega
      rw [List.length_map, las, Int.toNat_natCast]
      refine lc_range (fun i H3 => H3 D = some (.lst (nL ((List.range i).filter (nxt n R (ordN n R k))))) ∧ Same H2 H3) ⟨upd_same, same_new hD⟩ ?_ ?_
      · rintro i H3 hi ⟨h3, s3⟩
        have e0 : (0 : Int) + (i : Int) = (i : Int) := by omega
        rw [e0]
        refine ⟨rfl, _, rfl, _, rfl, _, rfl, ab, o, n, i, R, ordN n R k, rfl, hn, hi, rows2.same s3, s3 _ _ h2, fun H4 s4 => ⟨_, rfl, ?_⟩⟩
        have h4 := s4 _ _ h3
        have grown : (List.range (i + 1)).filter (nxt n R (ordN n R k)) = (List.range i).filter (nxt n R (ordN n R k)) ++ (if nxt n R (ordN n R k) i = true then [i] else []) := by
          rw [List.range_succ, List.filter_append, List.filter_cons]
          rfl
        refine ite2 (fun hx => ?_) (fun hx => ?_)
        · refine ⟨_, rfl, _, h4, ?_, ?_, same_upd (s3.trans s4) hD⟩
          · rw [nL_len, sizeLine_eq]
            have := List.length_filter_le (nxt n R (ordN n R k)) (List.range i)
            rw [List.length_range] at this
            omega
          · rw [upd_same, grown, if_pos hx, nL_app]; rfl
        · refine ⟨?_, s3.trans s4⟩
          rw [h4, grown, if_neg hx, List.append_nil]
      · rintro H3 ⟨h3, s3⟩
        refine ⟨D, nI (cands n R (ordN n R k)), rfl, SqL.of h3, ?_, fun mm hm hle => ?_⟩
        · rw [nI_len, ec]; exact Nat.succ_pos _
        have em := cands_min ec hm hle
        rw [em]
        refine ⟨o, _, _, rfl, rfl, s3 _ _ h2, ?_, _, rfl, same_upd (s2.trans s3) ho, ?_⟩
        · rw [nL_len, len, sizeLine_eq]; omega
        · rw [upd_same, ordN_succ ec, nL_app]; rfl
    · have kn : k = n := by
        have z : ¬ ((k : Int) < (n : Int)) := fun z => hge (decide_eq_true z)
        omega
      rw [kn] at h2
      exact ⟨_, rfl, q H2 o s2 ho h2⟩
/-! ### the house -/
/-- the lamps directly beneath i, in the order of the wires qs -/
def dirL (qs : List (Nat × Nat)) (i : Nat) : List Nat := (qs.filter fun p => p.1 == i).map (·.2)
theorem mem_dirL {qs : List (Nat × Nat)} {i j : Nat} : j ∈ dirL qs i ↔ (i, j) ∈ qs := by
  unfold dirL
  rw [List.mem_map]
  constructor
  · rintro ⟨⟨a, b⟩, hm, rfl⟩
    obtain ⟨h1, h2⟩ := List.mem_filter.mp hm
    have e : a = i := by simpa using h2
    rw [← e]; exact h1
  · exact fun h => ⟨(i, j), List.mem_filter.mpr ⟨h, by simp⟩, rfl⟩
theorem dirL_few (qs : List (Nat × Nat)) (i : Nat) : (dirL qs i).length ≤ qs.length := by
  unfold dirL
  rw [List.length_map]
  exact List.length_filter_le ..
theorem dirL_more {qs : List (Nat × Nat)} {i j : Nat} {p : Nat × Nat} (h : qs[j]? = some p) : dirL (qs.take (j + 1)) i = dirL (qs.take j) i ++ (if p.1 = i then [p.2] else []) := by
  unfold dirL
  rw [List.take_add_one, h, List.filter_append, List.map_append]
  congr 1
  by_cases e : p.1 = i
  · simp [e]
  · simp [e]
/-- a list of the same tuples in another order -/
theorem pairs_perm {H : Hp} {ts : List Addr} {ps : List (Nat × Nat)} {ys : List V} (hp : Pairs H ts ps) (perm : ys.Perm (ts.map V.ref)) : ∃ (us : List Addr) (qs : List (Nat × Nat)), ys = us.map V.ref ∧ Pairs H us qs ∧ qs.Perm ps := by
  let pv : V → Nat × Nat := fun v => match v with
    | .ref t => match H t with
      | some (.tup [.int i, .int j]) => (i.toNat, j.toNat)
      | _ => (0, 0)
    | _ => (0, 0)
  let av : V → Addr := fun v => match v with
    | .ref t => t
    | _ => 0
  have pvt : ∀ (i : Nat) t p, ts[i]? = some t → ps[i]? = some p → pv (.ref t) = p := fun i t p a b => by
    show (match H t with
      | some (.tup [.int i, .int j]) => (i.toNat, j.toNat)
      | _ => (0, 0)) = p
    rw [hp.2 i t p a b]
    rfl
  have eps : (ts.map V.ref).map pv = ps := by
    refine List.ext_getElem? fun i => ?_
    rw [List.getElem?_map, List.getElem?_map]
    cases e : ts[i]? with
    | none =>
      rw [List.getElem?_eq_none_iff] at e
      rw [show ps[i]? = none from List.getElem?_eq_none_iff.mpr (by rw [← hp.1]; exact e)]
      rfl
    | some t =>
      have il : i < ps.length := by rw [← hp.1]; exact (List.getElem?_eq_some_iff.mp e).1
      rw [List.getElem?_eq_getElem il]
      exact congrArg some (pvt i t _ e (List.getElem?_eq_getElem il))
  have isr : ∀ y ∈ ys, ∃ (i : Nat) (t : Addr), y = V.ref t ∧ ts[i]? = some t := fun y hy => by
    obtain ⟨t, ht, rfl⟩ := List.mem_map.mp (perm.mem_iff.mp hy)
    obtain ⟨i, hi, e⟩ := List.getElem_of_mem ht
    exact ⟨i, t, rfl, by rw [List.getElem?_eq_getElem hi, e]⟩
  refine ⟨ys.map av, ys.map pv, ?_, ⟨by rw [List.length_map, List.length_map], fun i t p a b => ?_⟩, ?_⟩
  · rw [List.map_map]
    refine (List.map_id _).symm.trans (List.map_congr_left fun y hy => ?_)
    obtain ⟨_, t, rfl, _⟩ := isr y hy
    rfl
  · rw [List.getElem?_map] at a b
    obtain ⟨y, hy, rfl⟩ := Option.map_eq_some_iff.mp a
    rw [hy] at b
    cases b
    obtain ⟨j, t, rfl, hj⟩ := isr y (List.mem_of_getElem? hy)
    have jl : j < ps.length := by rw [← hp.1]; exact (List.getElem?_eq_some_iff.mp hj).1
    have e := pvt j t _ hj (List.getElem?_eq_getElem jl)
    rw [e]
    exact hp.2 j t _ hj (List.getElem?_eq_getElem jl)
  · have z := perm.map pv
    rw [eps] at z
    exact z
theorem Coll.rowsF {H1 H2 : Hp} {D : Addr} {n : Nat} {f : Nat → List Nat} (c : Coll H1 D (fun j => nL (f j)) n H2) : Rows H2 D ((List.range n).map f) := by
  obtain ⟨as, h1, h2, _, h3⟩ := c
  refine ⟨as, h1, by rw [h2, List.length_map, List.length_range], fun i a r ha hr => ?_⟩
  have hi : i < n := by rw [← h2]; exact (List.getElem?_eq_some_iff.mp ha).1
  rw [List.getElem?_map, List.getElem?_range hi] at hr
  cases hr
  exact (h3 i a ha).2
/-- pairs in order -/
def leP (p q : Nat × Nat) : Prop := ¬ (q.1 < p.1 ∨ (q.1 = p.1 ∧ q.2 < p.2))
def PermS (qs ps : List (Nat × Nat)) : Prop := qs.Perm ps ∧ qs.Pairwise leP
def kOf (H : Hp) : V → Int × Int := fun v => match v with
  | .ref t => match H t with
    | some (.tup [.int i, .int j]) => (i, j)
    | _ => (0, 0)
  | _ => (0, 0)
theorem kOf_ref {H : Hp} {t : Addr} {i j : Int} (h : H t = some (.tup [.int i, .int j])) : kOf H (.ref t) = (i, j) := by
  show (match H t with
    | some (.tup [.int i, .int j]) => (i, j)
    | _ => (0, 0)) = (i, j)
  rw [h]
/-- the names of the methods -/
def mNames : List Str := ["order", "beneath", "above", "direct", "depth", "tops", "bottoms", "is_beneath", "is_comparable", "closed", "reduced"]
theorem mN {m f : Str} (hm : m ∈ mNames) (hf : f ∉ mNames) : ¬ m = f := fun e => hf (e ▸ hm)
/-- the rest of what a house keeps -/
def HouseX (C : Addr) (H : Hp) (x : Addr) (n : Nat) (ps : List (Nat × Nat)) : Prop := ∃ (dx : Addr) (fs : List (Str × V)) (ab di l : Addr) (us : List Addr) (qs : List (Nat × Nat)), H x = some (.ins C dx fs) ∧ fs.lookup ("_above" : Str) = some (.ref ab) ∧ Rows H ab (relRows n (flip (relOf ps))) ∧
  fs.lookup ("_direct" : Str) = some (.ref di) ∧ Rows H di ((List.range n).map (dirL qs)) ∧ fs.lookup ("wires" : Str) = some (.ref l) ∧ H l = some (.tup (us.map V.ref)) ∧ Pairs H us qs ∧ PermS qs ps ∧ ∀ m ∈ mNames, fs.lookup m = Option.none
theorem HouseX.same {H H' : Hp} {x : Addr} {n : Nat} {ps : List (Nat × Nat)} (a : HouseX C H x n ps) (s : Same H H') : HouseX C H' x n ps := by
  obtain ⟨dx, fs, ab, di, l, us, qs, h1, h2, h3, h4, h5, h6, h7, h8, h9, h10⟩ := a
  exact ⟨dx, fs, ab, di, l, us, qs, s _ _ h1, h2, h3.same s, h4, h5.same s, h6, s _ _ h7, h8.same s, h9, h10⟩
abbrev s_House___init__ : Stmt := inClass (top 13) 2
theorem sc_House___init__ : FnScope ["self", "count", "hues", "wires", "lamps", "upper", "lamp", "lower"] ["self", "count", "hues", "wires"] (defScope s_House___init__) := ⟨rfl, rfl, rfl, by decide +kernel, rfl, by decide +kernel, by decide +kernel⟩
-- slots of House.__init__: 0 self, 1 count, 2 hues, 3 wires, 4 lamps, 5 upper, 6 lamp, 7 lower
def HouseAt (C : Addr) (H : Hp) (x : Addr) (n h : Nat) (R : Rel) : Prop := ∃ (dx : Addr) (fs : List (Str × V)) (be o : Addr), H x = some (.ins C dx fs) ∧ fs.lookup ("count" : Str) = some (.int n) ∧ fs.lookup ("hues" : Str) = some (.int h) ∧
  fs.lookup ("_beneath" : Str) = some (.ref be) ∧ Rows H be (relRows n R) ∧ fs.lookup ("_order" : Str) = some (.ref o) ∧ H o = some (.lst (nL (ordN n R n))) ∧ fs.lookup ("order" : Str) = Option.none ∧ fs.lookup ("beneath" : Str) = Option.none
def spInit (K : PySem.W.Frag) (C : Addr) : Sp := fun vs H Q _ => ∃ (x dx a : Addr) (n h : Nat) (ps : List (Nat × Nat)), vs = [.ref x, .int n, .int h, .ref a] ∧ H x = some (.ins C dx []) ∧ 1 ≤ n ∧ n ≤ 16 ∧ 2 ≤ h ∧ h ≤ 10 ∧ Wires K H a n ps ∧
  ∀ H', SB x H H' → HouseAt C H' x n h (relOf ps) → HouseX C H' x n ps → Q .non H'
theorem ok_init (T : Txt K mg C) {f : Addr} {fd : FuncData} (F : FunV K "__init__" "House.__init__" s_House___init__ f fd) (c_check_count : Cal P w K mg base "check_count" 3 spCheckCount) (c_check_hues : Cal P w K mg base "check_hues" 3 spCheckHues)
    (c_lamps_beneath : Cal P w K mg base "lamps_beneath" 4 (spLampsBeneath K)) (c_order_list : Cal P w K mg base "order_list" 2 spOrderList) : FnOk P w K mg base CX0 5 f fd ["self", "count", "hues", "wires"] (spInit K C) := by
  refine F.ok sc_House___init__ (fun vs H Q E h => ?_) (fun cdv A outer s H vs Q E hr h => ?_)
  · obtain ⟨x, dx, a, n, h, ps, rfl, _⟩ := h; rfl
  · obtain ⟨x, dx, a, n, h, ps, rfl, hx, n1, n16, h2, h10, W, q⟩ := h
    refine ⟨_, (pss_cons (ps_expr (pe_cal c_check_count (hr.mono (by decide)) (pa_cons (pv 1) pa_nil)))
      (pss_cons (ps_expr (pe_cal c_check_hues (hr.mono (by decide)) (pa_cons (pv 2) pa_nil)))
      (pss_cons (ps_fld (pv 0) (pv 1) rfl)
      (pss_cons (ps_fld (pv 0) (pv 2) rfl)
      (pss_cons (ps_fld (pv 0) (pe_cal c_lamps_beneath (hr.mono (by decide)) (pa_cons (pv 1) (pa_cons (pv 3) pa_nil))) rfl)
      (pss_cons (ps_fld (pv 0) (pe_callTy (tupOf_ K) (by rfl) T.tuple b_tuple (pa_cons (pe_callB (sortPS_ K) (by rfl) T.sorted b_sorted (pa_cons (pv 3) pa_nil)) pa_nil)) rfl)
      (pss_cons (ps_set (i := 4) sc_House___init__.nd rfl (by first | exact Or.inl rfl | exact Or.inr rfl) (pe_callTy hu_cr_range1 (by rfl) T.range b_range (pa_cons (pv 1) pa_nil)))
      (pss_cons (ps_fld (pv 0) (pe_lc (own := [("lamp", 6)]) (g := gName 6) (tt := tYes) rfl sc_House___init__.nd (hu_pi_rng (pv 4)) (blkOk_by (by kernel_rfl)) (fun _ _ _ _ _ => (pg_name (i := 6) sc_House___init__.nd rfl (by first | exact Or.inl rfl | exact Or.inr rfl))) (fun _ _ _ _ _ => pts_nil) (fun _ _ _ _ _ => (pe_lc (own := [("upper", 5)]) (g := gName 5) rfl sc_House___init__.nd (hu_pi_rng (pv 4)) (blkOk_by (by kernel_rfl)) (fun _ _ _ _ _ => (pg_name (i := 5) sc_House___init__.nd rfl (by first | exact Or.inl rfl | exact Or.inr rfl))) (fun _ _ _ _ _ => (pts_one (pt_cmpR (inS_ K) (pv 6) (pe_ix (ixL_ K) (fld_ K (pv 0)) (pv 5) (fun _ _ => rfl)) (by rfl)))) (fun _ _ _ _ _ => (pv 5))))) rfl)
      (pss_cons (ps_fld (pv 0) (pe_lc (own := [("lamp", 6)]) (g := gName 6) (tt := tYes) rfl sc_House___init__.nd (hu_pi_rng (pv 4)) (blkOk_by (by kernel_rfl)) (fun _ _ _ _ _ => (pg_name (i := 6) sc_House___init__.nd rfl (by first | exact Or.inl rfl | exact Or.inr rfl))) (fun _ _ _ _ _ => pts_nil) (fun _ _ _ _ _ => (pe_lc (own := [("upper", 5), ("lower", 7)]) (g := gTup K 2 (gCons (gName 5) (gCons (gName 7) gNil))) rfl sc_House___init__.nd (pit_ K (fld_ K (pv 0))) (blkOk_by (by kernel_rfl)) (fun _ _ _ _ _ => (pg_tup (by rfl) (pgs_cons (pg_name (i := 5) sc_House___init__.nd rfl (by first | exact Or.inl rfl | exact Or.inr rfl)) (pgs_cons (pg_name (i := 7) sc_House___init__.nd rfl (by first | exact Or.inl rfl | exact Or.inr rfl)) pgs_nil)))) (fun _ _ _ _ _ => (pts_one (pt_cmpR op_eq (pv 5) (pv 6) (nomark _)))) (fun _ _ _ _ _ => (pv 7))))) rfl)
      (pss_one (ps_fld (pv 0) (pe_cal c_order_list (hr.mono (by decide)) (pa_cons (fld_ K (pv 0)) pa_nil)) rfl))))))))))), ?_⟩
    refine ⟨_, rfl, n, rfl, by omega, by omega, _, rfl, h, rfl, by omega, by omega, ?_⟩
    -- self.count, self.hues
    refine ⟨_, rfl, _, rfl, x, C, dx, _, rfl, hx, T.cl, T.nCount, by decide, ?_⟩
    refine ⟨_, rfl, _, rfl, x, C, dx, _, rfl, upd_same, T.cl, T.nHues, Nat.lt_of_le_of_lt (put_few (Nat.le_refl 0)) (by decide), ?_⟩
    rw [upd_upd]
    have sb1 : SB x H (upd H x (.ins C dx (putF "hues" (.int h) (putF "count" (.int n) [])))) := (SB.refl x H).upd
    have hx1 : (upd H x (.ins C dx (putF "hues" (.int h) (putF "count" (.int n) [])))) x = some (.ins C dx (putF "hues" (.int h) (putF "count" (.int n) []))) := upd_same
    have lk1 : (putF "hues" (.int h) (putF "count" (.int n) []) : List (Str × V)).length ≤ 2 := put_few (put_few (Nat.le_refl 0))
    generalize upd H x (.ins C dx (putF "hues" (.int h) (putF "count" (.int n) []))) = H1 at sb1 hx1 ⊢
    obtain ⟨⟨ts, ha, hps⟩, nd, few, lt, ρ, rank⟩ := id W
    have W1 : Wires K H1 a n ps := ⟨⟨ts, ha.sb hx sb1, hps.1, fun i t p e1 e2 => sb1 _ _ (ne_of (hps.2 i t p e1 e2) hx (by intro z; cases z)) (hps.2 i t p e1 e2)⟩, nd, few, lt, ρ, rank⟩
    -- self._beneath
    refine ⟨_, rfl, _, rfl, a, n, ps, rfl, n16, W1, fun H2 be s2 rows2 => ?_⟩
    refine ⟨_, rfl, x, C, dx, _, rfl, s2 _ _ hx1, T.cl, T.nBen, by omega, ?_⟩
    have sb3 : SB x H (upd H2 x (.ins C dx (putF "_beneath" (.ref be) (putF "hues" (.int h) (putF "count" (.int n) []))))) := (sb1.trans (SB.of s2)).upd
    have rows3 : Rows (upd H2 x (.ins C dx (putF "_beneath" (.ref be) (putF "hues" (.int h) (putF "count" (.int n) []))))) be (relRows n (relOf ps)) := SB.rows ((SB.refl x H2).upd) (s2 _ _ hx1) rows2
    have hx3 : (upd H2 x (.ins C dx (putF "_beneath" (.ref be) (putF "hues" (.int h) (putF "count" (.int n) []))))) x = some (.ins C dx (putF "_beneath" (.ref be) (putF "hues" (.int h) (putF "count" (.int n) [])))) := upd_same
    have lk3 : (putF "_beneath" (.ref be) (putF "hues" (.int h) (putF "count" (.int n) [])) : List (Str × V)).length ≤ 3 := put_few lk1
    generalize upd H2 x (.ins C dx (putF "_beneath" (.ref be) (putF "hues" (.int h) (putF "count" (.int n) [])))) = H3 at sb3 rows3 hx3 ⊢
    -- self.wires
    have ha3 := ha.sb hx sb3
    refine ⟨_, rfl, a, ts.map V.ref, kOf H3, rfl, ha3, fun y hy => ?_, fun ys c perm so nc => ?_⟩
    · obtain ⟨t, ht, rfl⟩ := List.mem_map.mp hy
      obtain ⟨j, hj, e⟩ := List.getElem_of_mem ht
      have jl : j < ps.length := by rw [← hps.1]; exact hj
      have e2 := hps.2 j t ps[j] (by rw [List.getElem?_eq_getElem hj, e]) (List.getElem?_eq_getElem jl)
      have e3 := sb3 _ _ (ne_of e2 hx (by intro z; cases z)) e2
      exact ⟨t, rfl, by rw [kOf_ref e3]; exact e3⟩
    refine ⟨c, ys, rfl, .inl ⟨SqL.of upd_same, fun l nl => ?_⟩⟩
    have s4 : Same H3 (upd (upd H3 c (.lst ys)) l (.tup ys)) := (same_new nc).trans (same_new nl)
    have hl4 : (upd (upd H3 c (.lst ys)) l (.tup ys)) l = some (.tup ys) := upd_same
    generalize upd (upd H3 c (.lst ys)) l (.tup ys) = H4 at s4 hl4 ⊢
    refine ⟨_, rfl, x, C, dx, _, rfl, s4 _ _ hx3, T.cl, T.nWires, by omega, ?_⟩
    have nlx : l ≠ x := ne_of hl4 (s4 _ _ hx3) (by intro z; cases z)
    generalize hf5 : putF "wires" (.ref l) (putF "_beneath" (.ref be) (putF "hues" (.int h) (putF "count" (.int n) []))) = fs5
    have lk5 : fs5.length ≤ 4 := by rw [← hf5]; exact put_few lk3
    have ben5 : fs5.lookup ("_beneath" : Str) = some (.ref be) := by rw [← hf5, lk_ne _ _ (by decide +kernel), lk_same]
    have wir5 : fs5.lookup ("wires" : Str) = some (.ref l) := by rw [← hf5, lk_same]
    have cnt5 : fs5.lookup ("count" : Str) = some (.int n) := by rw [← hf5, lk_ne _ _ (by decide +kernel), lk_ne _ _ (by decide +kernel), lk_ne _ _ (by decide +kernel), lk_same]
    have hue5 : fs5.lookup ("hues" : Str) = some (.int h) := by rw [← hf5, lk_ne _ _ (by decide +kernel), lk_ne _ _ (by decide +kernel), lk_same]
    have ord5 : fs5.lookup ("order" : Str) = Option.none := by rw [← hf5, lk_ne _ _ (by decide +kernel), lk_ne _ _ (by decide +kernel), lk_ne _ _ (by decide +kernel), lk_ne _ _ (by decide +kernel)] <;> rfl
    have bnt5 : fs5.lookup ("beneath" : Str) = Option.none := by rw [← hf5, lk_ne _ _ (by decide +kernel), lk_ne _ _ (by decide +kernel), lk_ne _ _ (by decide +kernel), lk_ne _ _ (by decide +kernel)] <;> rfl
    have mth5 : ∀ m ∈ mNames, fs5.lookup m = Option.none := fun m hm => by rw [← hf5, lk_ne _ _ (mN hm (by decide +kernel)), lk_ne _ _ (mN hm (by decide +kernel)), lk_ne _ _ (mN hm (by decide +kernel)), lk_ne _ _ (mN hm (by decide +kernel))] <;> rfl
    have sb5 : SB x H (upd H4 x (.ins C dx fs5)) := (sb3.trans (SB.of s4)).upd
    have rows5 : Rows (upd H4 x (.ins C dx fs5)) be (relRows n (relOf ps)) := SB.rows ((SB.refl x H4).upd) (s4 _ _ hx3) (rows3.same s4)
    have hl5 : (upd H4 x (.ins C dx fs5)) l = some (.tup ys) := by rw [upd_ne nlx]; exact hl4
    have hx5 : (upd H4 x (.ins C dx fs5)) x = some (.ins C dx fs5) := upd_same
    generalize upd H4 x (.ins C dx fs5) = H5 at sb5 rows5 hl5 hx5 ⊢
    have hps5 : Pairs H5 ts ps := ⟨hps.1, fun i t p e1 e2 => sb5 _ _ (ne_of (hps.2 i t p e1 e2) hx (by intro z; cases z)) (hps.2 i t p e1 e2)⟩
    obtain ⟨us, qs, eys, hus5, pqs⟩ := pairs_perm hps5 perm
    have kq : ∀ (i : Nat) t r, us[i]? = some t → qs[i]? = some r → kOf H3 (.ref t) = ((r.1 : Int), (r.2 : Int)) := by
      intro i t r e1 e2
      have m : V.ref t ∈ ts.map V.ref := perm.mem_iff.mp (by rw [eys]; exact List.mem_map.mpr ⟨t, List.mem_of_getElem? e1, rfl⟩)
      obtain ⟨t', ht', et⟩ := List.mem_map.mp m
      cases et
      obtain ⟨j, hj, e⟩ := List.getElem_of_mem ht'
      have jl : j < ps.length := by rw [← hps.1]; exact hj
      have h0 := hps.2 j t ps[j] (by rw [List.getElem?_eq_getElem hj, e]) (List.getElem?_eq_getElem jl)
      have ntx := ne_of h0 hx (by intro z; cases z)
      have h5 := hus5.2 i t r e1 e2
      rw [sb5 _ _ ntx h0] at h5
      injection h5 with h5
      injection h5 with h5
      injection h5 with a1 a2
      injection a1 with a1
      injection a2 with a2 _
      injection a2 with a2
      rw [kOf_ref (sb3 _ _ ntx h0), a1, a2]
    have pqs : PermS qs ps := ⟨pqs, by
      rw [List.pairwise_iff_getElem]
      intro i j hi hj ij
      have li : i < us.length := by rw [hus5.1]; exact hi
      have lj : j < us.length := by rw [hus5.1]; exact hj
      rw [eys, List.pairwise_map, List.pairwise_iff_getElem] at so
      have z := so i j li lj ij
      rw [kq i _ _ (List.getElem?_eq_getElem li) (List.getElem?_eq_getElem hi), kq j _ _ (List.getElem?_eq_getElem lj) (List.getElem?_eq_getElem hj)] at z
      show ¬ (qs[j].1 < qs[i].1 ∨ (qs[j].1 = qs[i].1 ∧ qs[j].2 < qs[i].2))
      intro y
      refine z ?_
      show ((qs[j].1 : Int) < (qs[i].1 : Int) ∨ ((qs[j].1 : Int) = (qs[i].1 : Int) ∧ (qs[j].2 : Int) < (qs[i].2 : Int)))
      omega⟩
    have ys5 : ∀ y ∈ ys, ∃ (t : Addr) (i j : Nat), y = V.ref t ∧ H5 t = some (.tup [.int (i : Int), .int (j : Int)]) := by
      intro y hy
      obtain ⟨t, ht, rfl⟩ := List.mem_map.mp (perm.mem_iff.mp hy)
      obtain ⟨j, hj, e⟩ := List.getElem_of_mem ht
      have jl : j < ps.length := by rw [← hps.1]; exact hj
      have e2 := hps.2 j t ps[j] (by rw [List.getElem?_eq_getElem hj, e]) (List.getElem?_eq_getElem jl)
      exact ⟨t, _, _, rfl, sb5 _ _ (ne_of e2 hx (by intro z; cases z)) e2⟩
    have ysl : ys.length < 4900 := by rw [perm.length_eq, List.length_map, hps.1]; exact few
    -- lamps = range(count)
    refine ⟨_, rfl, _, rfl, fun r nr => ?_⟩
    have s6 : Same H5 (upd H5 r (.rng 0 (n : Int))) := same_new nr
    have hr6 : (upd H5 r (.rng 0 (n : Int))) r = some (.rng 0 (n : Int)) := upd_same
    generalize upd H5 r (.rng 0 (n : Int)) = H6 at s6 hr6 ⊢
    have nrx : r ≠ x := ne_of hr6 (s6 _ _ hx5) (by intro z; cases z)
    have rows6 := rows5.same s6
    -- self._above
    refine ⟨_, rfl, r, 0, n, rfl, hr6, ⟨by omega, by omega, by omega, by omega⟩, fun D hD => ?_⟩
    rw [show ((n : Int) - 0).toNat = n by omega]
    refine lc_range (fun i H7 => Coll H6 D (fun j => nL (Bel n (flip (relOf ps)) j)) i H7) (Coll.start hD) ?_ ?_
    · intro i H7 hi c7
      have e0 : (0 : Int) + (i : Int) = (i : Int) := by omega
      rw [e0]
      obtain ⟨_, hD7, _, s7, _⟩ := id c7
      refine ⟨rfl, yesT ⟨_, rfl, r, 0, n, rfl, s7 _ _ hr6, ⟨by omega, by omega, by omega, by omega⟩, fun D2 hD2 => ?_⟩⟩
      rw [show ((n : Int) - 0).toNat = n by omega]
      refine lc_range (fun j H8 => H8 D2 = some (.lst (nL ((List.range j).filter (flip (relOf ps) i)))) ∧ Same H7 H8) ⟨upd_same, same_new hD2⟩ ?_ ?_
      · rintro j H8 hj ⟨h8, s8⟩
        have e0 : (0 : Int) + (j : Int) = (j : Int) := by omega
        rw [e0]
        have s68 : Same H6 H8 := s7.trans s8
        obtain ⟨xs, al, hb, _, hal, hL⟩ := (rows6.same s68).at (relRows_at (R := relOf ps) hj)
        refine ⟨rfl, _, rfl, _, rfl, x, C, dx, _, _, rfl, s68 _ _ (s6 _ _ hx5), T.cl, T.nBen, ben5, _, rfl, be, xs, _, _, rfl, rfl, SqL.of hb, atI_nat hal, al, _, rfl, .inl (SqL.of hL), rfl, flat_nL _, _, rfl, ?_⟩
        have grown : (List.range (j + 1)).filter (flip (relOf ps) i) = (List.range j).filter (flip (relOf ps) i) ++ (if flip (relOf ps) i j = true then [j] else []) := by
          rw [List.range_succ, List.filter_append, List.filter_cons]
          rfl
        have same_test : inV (V.int (i : Int)) (nL (Bel n (relOf ps) j)) = flip (relOf ps) i j := by
          rw [in_nL, Bool.eq_iff_iff, decide_eq_true_eq, mem_Bel]
          exact ⟨fun z => z.2, fun z => ⟨hi, z⟩⟩
        show if inV (V.int (i : Int)) (nL (Bel n (relOf ps) j)) = true then _ else _
        rw [same_test]
        refine ite2 (fun hx' => ?_) (fun hx' => ?_)
        · refine ⟨_, rfl, _, h8, ?_, ?_, same_upd s8 hD2⟩
          · rw [nL_len, sizeLine_eq]
            have := List.length_filter_le (flip (relOf ps) i) (List.range j)
            rw [List.length_range] at this
            omega
          · rw [upd_same, grown, if_pos hx', nL_app]; rfl
        · refine ⟨?_, s8⟩
          rw [h8, grown, if_neg hx', List.append_nil]
      · rintro H8 ⟨h8, s8⟩
        exact c7.more hD s8 (fun z => by rw [z, hD7] at hD2; cases hD2) h8 (by omega)
    intro H7 c7
    have rowsA := c7.rows
    obtain ⟨_, hD7, _, s7, _⟩ := id c7
    refine ⟨_, rfl, x, C, dx, _, rfl, s7 _ _ (s6 _ _ hx5), T.cl, T.nAbove, by omega, ?_⟩
    generalize hf8 : putF "_above" (.ref D) fs5 = fs8
    have lk8 : fs8.length ≤ 5 := by rw [← hf8]; exact put_few lk5
    have ben8 : fs8.lookup ("_beneath" : Str) = some (.ref be) := by rw [← hf8, lk_ne _ _ (by decide +kernel)]; exact ben5
    have wir8 : fs8.lookup ("wires" : Str) = some (.ref l) := by rw [← hf8, lk_ne _ _ (by decide +kernel)]; exact wir5
    have cnt8 : fs8.lookup ("count" : Str) = some (.int n) := by rw [← hf8, lk_ne _ _ (by decide +kernel)]; exact cnt5
    have hue8 : fs8.lookup ("hues" : Str) = some (.int h) := by rw [← hf8, lk_ne _ _ (by decide +kernel)]; exact hue5
    have ord8 : fs8.lookup ("order" : Str) = Option.none := by rw [← hf8, lk_ne _ _ (by decide +kernel)]; exact ord5
    have bnt8 : fs8.lookup ("beneath" : Str) = Option.none := by rw [← hf8, lk_ne _ _ (by decide +kernel)]; exact bnt5
    have abv8 : fs8.lookup ("_above" : Str) = some (.ref D) := by rw [← hf8, lk_same]
    have mth8 : ∀ m ∈ mNames, fs8.lookup m = Option.none := fun m hm => by rw [← hf8, lk_ne _ _ (mN hm (by decide +kernel))]; exact mth5 m hm
    have s67 := s6.trans s7
    have sb8 : SB x H (upd H7 x (.ins C dx fs8)) := (sb5.trans (SB.of s67)).upd
    have rows8 : Rows (upd H7 x (.ins C dx fs8)) be (relRows n (relOf ps)) := SB.rows ((SB.refl x H7).upd) (s67 _ _ hx5) (rows6.same s7)
    have rowsA8 : Rows (upd H7 x (.ins C dx fs8)) D (relRows n (flip (relOf ps))) := SB.rows ((SB.refl x H7).upd) (s67 _ _ hx5) rowsA
    have hl8 : (upd H7 x (.ins C dx fs8)) l = some (.tup ys) := by rw [upd_ne nlx]; exact s67 _ _ hl5
    have hr8 : (upd H7 x (.ins C dx fs8)) r = some (.rng 0 (n : Int)) := by rw [upd_ne nrx]; exact s7 _ _ hr6
    have hx8 : (upd H7 x (.ins C dx fs8)) x = some (.ins C dx fs8) := upd_same
    have ys8 : ∀ y ∈ ys, ∃ (t : Addr) (i j : Nat), y = V.ref t ∧ (upd H7 x (.ins C dx fs8)) t = some (.tup [.int (i : Int), .int (j : Int)]) := by
      intro y hy
      obtain ⟨t, i, j, e1, e2⟩ := ys5 y hy
      exact ⟨t, i, j, e1, by rw [upd_ne (ne_of e2 hx5 (by intro z; cases z))]; exact s67 _ _ e2⟩
    have hus8 : Pairs (upd H7 x (.ins C dx fs8)) us qs := ⟨hus5.1, fun i t p e1 e2 => by rw [upd_ne (ne_of (hus5.2 i t p e1 e2) hx5 (by intro z; cases z))]; exact s67 _ _ (hus5.2 i t p e1 e2)⟩
    generalize upd H7 x (.ins C dx fs8) = H8 at sb8 rows8 rowsA8 hl8 hr8 hx8 ys8 hus8 ⊢
    -- self._direct
    refine ⟨_, rfl, r, 0, n, rfl, hr8, ⟨by omega, by omega, by omega, by omega⟩, fun D3 hD3 => ?_⟩
    rw [show ((n : Int) - 0).toNat = n by omega]
    have lq : qs.length < 4900 := by rw [pqs.1.length_eq]; exact few
    refine lc_range (fun i H9 => Coll H8 D3 (fun i => nL (dirL qs i)) i H9) (Coll.start hD3) ?_ ?_
    · intro i H9 hi c9
      have e0 : (0 : Int) + (i : Int) = (i : Int) := by omega
      rw [e0]
      obtain ⟨_, hD9, _, s9, _⟩ := id c9
      refine ⟨rfl, yesT ⟨_, rfl, x, C, dx, _, _, rfl, s9 _ _ hx8, T.cl, T.nWires, wir8, l, rfl, ⟨_, SqT.of (s9 _ _ hl8)⟩, fun D4 hD4 => ?_⟩⟩
      refine lc_it (walk_tup (xs := ys)) (fun j H10 => H10 D4 = some (.lst (nL (dirL (qs.take j) i))) ∧ Same H9 H10) ⟨upd_same, same_new hD4⟩ (fun j H10 _ ⟨_, s10⟩ => SqT.of (s10 _ _ (s9 _ _ hl8))) ?_ ?_
      · rintro j y H10 H11 hj ⟨h10, s10⟩ ⟨rfl, hy⟩
        rw [eys, List.getElem?_map] at hy
        obtain ⟨t, ht, rfl⟩ := Option.map_eq_some_iff.mp hy
        have jl : j < qs.length := by rw [← hus8.1]; exact (List.getElem?_eq_some_iff.mp ht).1
        obtain ⟨p, hp⟩ : ∃ p, qs[j]? = some p := ⟨_, List.getElem?_eq_getElem jl⟩
        have htp := hus8.2 j t p ht hp
        have fewj : (dirL (qs.take j) i).length < 4900 := Nat.lt_of_le_of_lt (dirL_few _ _) (by rw [List.length_take]; omega)
        refine ⟨t, _, rfl, SqT.of (s10 _ _ (s9 _ _ htp)), rfl, _, _, rfl, _, _, rfl, rfl, rfl, ?_⟩
        refine ⟨_, rfl, _, rfl, rfl, _, rfl, ?_⟩
        refine ite2 (fun he => ?_) (fun hne => ?_)
        · have e : p.1 = i := by
            have z := of_decide_eq_true he
            injection z with z
            omega
          refine ⟨_, rfl, _, h10, by rw [nL_len, sizeLine_eq]; omega, ?_, same_upd s10 hD4⟩
          rw [upd_same, dirL_more hp, if_pos e, nL_app]; rfl
        · have ne : ¬ p.1 = i := fun z => hne (decide_eq_true (by rw [z]))
          refine ⟨?_, s10⟩
          rw [h10, dirL_more hp, if_neg ne, List.append_nil]
      · rintro H10 ⟨h10, s10⟩
        have e : ys.length = qs.length := by rw [eys, List.length_map, hus8.1]
        rw [e, List.take_length] at h10
        exact c9.more hD3 s10 (fun z => by rw [z, hD9] at hD4; cases hD4) h10 (by omega)
    rintro H9 c9
    have rowsD := c9.rowsF
    have s9 := c9.same
    refine ⟨_, rfl, x, C, dx, _, rfl, s9 _ _ hx8, T.cl, T.nDirect, by omega, ?_⟩
    generalize hf10 : putF "_direct" (.ref D3) fs8 = fs10
    have lk10 : fs10.length ≤ 6 := by rw [← hf10]; exact put_few lk8
    have ben10 : fs10.lookup ("_beneath" : Str) = some (.ref be) := by rw [← hf10, lk_ne _ _ (by decide +kernel)]; exact ben8
    have cnt10 : fs10.lookup ("count" : Str) = some (.int n) := by rw [← hf10, lk_ne _ _ (by decide +kernel)]; exact cnt8
    have hue10 : fs10.lookup ("hues" : Str) = some (.int h) := by rw [← hf10, lk_ne _ _ (by decide +kernel)]; exact hue8
    have ord10 : fs10.lookup ("order" : Str) = Option.none := by rw [← hf10, lk_ne _ _ (by decide +kernel)]; exact ord8
    have bnt10 : fs10.lookup ("beneath" : Str) = Option.none := by rw [← hf10, lk_ne _ _ (by decide +kernel)]; exact bnt8
    have abv10 : fs10.lookup ("_above" : Str) = some (.ref D) := by rw [← hf10, lk_ne _ _ (by decide +kernel)]; exact abv8
    have dir10 : fs10.lookup ("_direct" : Str) = some (.ref D3) := by rw [← hf10, lk_same]
    have wir10 : fs10.lookup ("wires" : Str) = some (.ref l) := by rw [← hf10, lk_ne _ _ (by decide +kernel)]; exact wir8
    have mth10 : ∀ m ∈ mNames, fs10.lookup m = Option.none := fun m hm => by rw [← hf10, lk_ne _ _ (mN hm (by decide +kernel))]; exact mth8 m hm
    have rowsD10 : Rows (upd H9 x (.ins C dx fs10)) D3 ((List.range n).map (dirL qs)) := SB.rows ((SB.refl x H9).upd) (s9 _ _ hx8) rowsD
    have hl10 : (upd H9 x (.ins C dx fs10)) l = some (.tup ys) := by rw [upd_ne nlx]; exact s9 _ _ hl8
    have hus10 : Pairs (upd H9 x (.ins C dx fs10)) us qs := ⟨hus8.1, fun i t p e1 e2 => by rw [upd_ne (ne_of (hus8.2 i t p e1 e2) hx8 (by intro z; cases z))]; exact s9 _ _ (hus8.2 i t p e1 e2)⟩
    have sb10 : SB x H (upd H9 x (.ins C dx fs10)) := (sb8.trans (SB.of s9)).upd
    have rows10 : Rows (upd H9 x (.ins C dx fs10)) be (relRows n (relOf ps)) := SB.rows ((SB.refl x H9).upd) (s9 _ _ hx8) (rows8.same s9)
    have rowsA10 : Rows (upd H9 x (.ins C dx fs10)) D (relRows n (flip (relOf ps))) := SB.rows ((SB.refl x H9).upd) (s9 _ _ hx8) (rowsA8.same s9)
    have hx10 : (upd H9 x (.ins C dx fs10)) x = some (.ins C dx fs10) := upd_same
    generalize upd H9 x (.ins C dx fs10) = H10 at sb10 rows10 rowsA10 hx10 rowsD10 hl10 hus10 ⊢
    -- self._order
    refine ⟨_, rfl, x, C, dx, _, _, rfl, hx10, T.cl, T.nAbove, abv10, D, n, relOf ps, rfl, n16, relOf_ranked rank, rowsA10, fun H11 o s11 no ho => ?_⟩
    refine ⟨_, rfl, x, C, dx, _, rfl, s11 _ _ hx10, T.cl, T.nOrder, by omega, ?_⟩
    have nox : o ≠ x := ne_of ho (s11 _ _ hx10) (by intro z; cases z)
    refine q _ (sb10.trans (SB.of s11)).upd ⟨dx, _, be, o, upd_same, ?_, ?_, ?_, SB.rows ((SB.refl x H11).upd) (s11 _ _ hx10) (rows10.same s11), ?_, by rw [upd_ne nox]; exact ho, ?_, ?_⟩ ⟨dx, _, D, D3, l, us, qs, upd_same, ?_, SB.rows ((SB.refl x H11).upd) (s11 _ _ hx10) (rowsA10.same s11), ?_, SB.rows ((SB.refl x H11).upd) (s11 _ _ hx10) (rowsD10.same s11), ?_, by rw [upd_ne nlx, ← eys]; exact s11 _ _ hl10, ⟨hus10.1, fun i t p e1 e2 => by rw [upd_ne (ne_of (hus10.2 i t p e1 e2) hx10 (by intro z; cases z))]; exact s11 _ _ (hus10.2 i t p e1 e2)⟩, pqs, fun m hm => ?_⟩
    · rw [lk_ne _ _ (by decide +kernel)]; exact cnt10
    · rw [lk_ne _ _ (by decide +kernel)]; exact hue10
    · rw [lk_ne _ _ (by decide +kernel)]; exact ben10
    · rw [lk_same]
    · rw [lk_ne _ _ (by decide +kernel)]; exact ord10
    · rw [lk_ne _ _ (by decide +kernel)]; exact bnt10
    · rw [lk_ne _ _ (by decide +kernel)]; exact abv10
    · rw [lk_ne _ _ (by decide +kernel)]; exact dir10
    · rw [lk_ne _ _ (by decide +kernel)]; exact wir10
    · rw [lk_ne _ _ (mN hm (by decide +kernel))]; exact mth10 m hm
end
end Hue

end
section
set_option maxRecDepth 100000
set_option maxHeartbeats 4000000
namespace Hue
open PySem PySem.Spec PyProof.Rows L2
section
variable {P : Program} {w : World} {K : PySem.W.Frag} {mg : Str → Option Value} {base : Heap} {C CL : Addr}
theorem HouseAt.same {H H' : Hp} {x : Addr} {n h : Nat} {R : Rel} (a : HouseAt C H x n h R) (s : Same H H') : HouseAt C H' x n h R := by
  obtain ⟨dx, fs, be, o, h1, h2, h3, h4, h5, h6, h7, h8, h9⟩ := a
  exact ⟨dx, fs, be, o, s _ _ h1, h2, h3, h4, h5.same s, h6, s _ _ h7, h8, h9⟩
abbrev s_InvalidLamp___init__ : Stmt := inClass (top 4) 0
theorem sc_InvalidLamp___init__ : FnScope ["self", "lamp"] ["self", "lamp"] (defScope s_InvalidLamp___init__) := ⟨rfl, rfl, rfl, by decide +kernel, rfl, by decide +kernel, by decide +kernel⟩
-- slots of InvalidLamp.__init__: 0 self, 1 lamp
theorem ok_InvalidLamp {f : Addr} {fd : FuncData} (F : Fun K "__init__" "InvalidLamp.__init__" s_InvalidLamp___init__ f fd) : FnOk P w K mg base CX0 1 f fd ["self", "lamp"] (spKeep K "lamp") := by
  refine F.ok sc_InvalidLamp___init__ (fun vs H Q E h => ?_) (fun cdv A outer s H vs Q E hr h => ?_)
  · obtain ⟨a, D, v, rfl, _⟩ := h; rfl
  · obtain ⟨a, D, v, rfl, T, no, ha, q⟩ := h
    refine ⟨_, (pss_one (ps_ost (pv 0) (pv 1))), ?_⟩
    exact ⟨_, rfl, _, rfl, a, D, rfl, T, no, .inl ⟨ha, fun dx nd ne => q dx nd ne⟩⟩
abbrev s_House_order : Stmt := inClass (top 13) 10
theorem sc_House_order : FnScope ["self"] ["self"] (defScope s_House_order) := ⟨rfl, rfl, rfl, by decide +kernel, rfl, by decide +kernel, by decide +kernel⟩
-- slots of House.order: 0 self
def spOrder (C : Addr) : Sp := fun vs H Q _ => ∃ (x : Addr) (n h : Nat) (R : Rel), vs = [.ref x] ∧ HouseAt C H x n h R ∧ ∀ (H' : Hp) (p : Addr), Same H H' → H p = Option.none → H' p = some (.lst (nL (ordN n R n))) → Q (.ref p) H'
theorem ok_order (T : Txt K mg C) {f : Addr} {fd : FuncData} (F : Fun K "order" "House.order" s_House_order f fd) : FnOk P w K mg base CX0 1 f fd ["self"] (spOrder C) := by
  refine F.ok sc_House_order (fun vs H Q E h => ?_) (fun cdv A outer s H vs Q E hr h => ?_)
  · obtain ⟨x, n, h, R, rfl, _⟩ := h; rfl
  · obtain ⟨x, n, h, R, rfl, ⟨dx, fs, be, o, h1, h2, h3, h4, h5, h6, h7, h8, h9⟩, q⟩ := h
    refine ⟨_, (pss_one (ps_ret (pe_callTy (lstOf_ K) (by rfl) T.list b_list (pa_cons (fld_ K (pv 0)) pa_nil)))), ?_⟩
    exact ⟨_, rfl, x, C, dx, _, _, rfl, h1, T.cl, T.nOrder, h6, o, _, rfl, .inl (SqL.of h7), fun l nl => q _ l (same_new nl) nl upd_same⟩
abbrev s_is_lamp : Stmt := top 14
theorem sc_is_lamp : FnScope ["house", "value"] ["house", "value"] (defScope s_is_lamp) := ⟨rfl, rfl, rfl, by decide +kernel, rfl, by decide +kernel, by decide +kernel⟩
-- slots of is_lamp: 0 house, 1 value
def spIsLampV (C : Addr) : Sp := fun vs H Q _ => ∃ (x : Addr) (n h : Nat) (R : Rel) (v : V), vs = [.ref x, v] ∧ HouseAt C H x n h R ∧ Kd H v ∧ Q (.bl (inI v 0 ((n : Int) - 1))) H
theorem ok_is_lamp (T : Txt K mg C) {f : Addr} {fd : FuncData} (F : Fun K "is_lamp" "is_lamp" s_is_lamp f fd) (c_is_whole_in : Cal P w K mg base "is_whole_in" 2 spWholeInV) : FnOk P w K mg base CX0 3 f fd ["house", "value"] (spIsLampV C) := by
  refine F.ok sc_is_lamp (fun vs H Q E h => ?_) (fun cdv A outer s H vs Q E hr h => ?_)
  · obtain ⟨x, n, h, R, i, rfl, _⟩ := h; rfl
  · obtain ⟨x, n, h, R, v, rfl, ⟨dx, fs, be, o, h1, h2, h3, h4, h5, h6, h7, h8, h9⟩, k, q⟩ := h
    refine ⟨_, (pss_one (ps_ret (pe_cal c_is_whole_in (hr.mono (by decide)) (pa_cons (pv 1) (pa_cons pe_int (pa_cons (pe_op op_sub (fld_ K (pv 0)) pe_int) pa_nil)))))), ?_⟩
    exact ⟨_, rfl, _, rfl, x, C, dx, _, _, rfl, h1, T.cl, T.nCount, h2, _, _, rfl, rfl, v, 0, (n : Int) - 1, rfl, k, q⟩
abbrev s_check_lamp : Stmt := top 15
theorem sc_check_lamp : FnScope ["house", "lamp"] ["house", "lamp"] (defScope s_check_lamp) := ⟨rfl, rfl, rfl, by decide +kernel, rfl, by decide +kernel, by decide +kernel⟩
-- slots of check_lamp: 0 house, 1 lamp
/-- the wish where v is no lamp -/
def Odd1 (CL : Addr) (f : Str) (v : V) (H : Hp) (E : XK) : Prop := ∀ (d : Addr) (H' : Hp), H d = Option.none → Same H H' → H' d = some (.xd [(f, v)]) → E (.ref CL) (some d) H'
theorem Odd1.after {CL : Addr} {f : Str} {v : V} {H H1 : Hp} {E : XK} (o : Odd1 CL f v H E) (s : Same H H1) : Odd1 CL f v H1 E := fun d H' nd s' hd => o d H' (s.free nd) (s.trans s') hd
def spCheckLampX (C CL : Addr) : Sp := fun vs H Q E => ∃ (x : Addr) (n h : Nat) (R : Rel) (v : V), vs = [.ref x, v] ∧ HouseAt C H x n h R ∧ Kd H v ∧ (inI v 0 ((n : Int) - 1) = true → Q .non H) ∧ (inI v 0 ((n : Int) - 1) = false → Odd1 CL "lamp" v H E)
theorem ok_check_lamp (T : Txt K mg C) (M_lamp : XMk P w K mg base CL "InvalidLamp" "lamp") {f : Addr} {fd : FuncData} (F : Fun K "check_lamp" "check_lamp" s_check_lamp f fd) (c_is_lamp : Cal P w K mg base "is_lamp" 3 (spIsLampV C)) : FnOk P w K mg base (L2.CX P w) 4 f fd ["house", "lamp"] (spCheckLampX C CL) := by
  refine F.okX sc_check_lamp (fun vs H Q E h => ?_) (fun cdv A outer s H vs Q E hr h => ?_)
  · obtain ⟨x, n, h, R, v, rfl, _⟩ := h; rfl
  · obtain ⟨x, n, h, R, v, rfl, ha, k, q1, q2⟩ := h
    refine ⟨_, (pss_one (ps_if (pt_not (pt_val (pe_cal c_is_lamp (hr.mono (by decide)) (pa_cons (pv 0) (pa_cons (pv 1) pa_nil)))))
      (pss_one (ps_raiseM M_lamp rfl (takes_of rfl rfl rfl rfl) (hr.mono (by decide)) (pa_cons (pv 1) pa_nil))) pss_nil)), ?_⟩
    refine ⟨_, rfl, _, rfl, x, n, h, R, v, rfl, ha, k, _, rfl, ?_⟩
    cases e : inI v 0 ((n : Int) - 1) with
    | true => exact iteF (q1 e)
    | false => exact iteT ⟨_, rfl, by show 1 ≤ 1000; decide, fun a na => keep_raised M_lamp.cls.oex M_lamp.no (q2 e) a na⟩
theorem check_int (vs : List V) (H : Hp) (Q : VK) (E : XK) (h : ∃ (x : Addr) (n h : Nat) (R : Rel) (i : Int), vs = [.ref x, .int i] ∧ HouseAt C H x n h R ∧ 0 ≤ i ∧ i < (n : Int) ∧ Q .non H) : spCheckLampX C CL vs H Q fun _ _ _ => False := by
  obtain ⟨x, n, h, R, i, e, ha, i0, i1, q⟩ := h
  have z : inI (.int i) 0 ((n : Int) - 1) = true := by
    show (decide (0 ≤ i) && decide (i ≤ (n : Int) - 1)) = true
    rw [decide_eq_true i0, decide_eq_true (by omega : i ≤ (n : Int) - 1)]
    rfl
  exact ⟨x, n, h, R, .int i, e, ha, .int i, fun _ => q, fun y => by rw [z] at y; cases y⟩
/-! ### tops and bottoms -/
theorem nL_it2 {l : List Nat} {i : Nat} {y : V} (h : (nL l)[i]? = some y) : ∃ k, l[i]? = some k ∧ y = V.int (k : Int) := by
  unfold nL nI at h
  rw [List.map_map, List.getElem?_map] at h
  obtain ⟨k, hk, e⟩ := Option.map_eq_some_iff.mp h
  exact ⟨k, hk, e.symm⟩
theorem filt_more' (f : Nat → Bool) (i : Nat) : (List.range (i + 1)).filter f = (List.range i).filter f ++ (if f i = true then [i] else []) := by
  rw [List.range_succ, List.filter_append, List.filter_cons]
  rfl
theorem filt_few' (f : Nat → Bool) (i : Nat) : ((List.range i).filter f).length ≤ i := by
  have := List.length_filter_le f (List.range i)
  rw [List.length_range] at this
  exact this
theorem isEmpty_nL (l : List Nat) : (!(nL l).isEmpty) = !decide (l = []) := by
  cases l <;> simp [nL, nI]
/-! ### the depth -/
def depStep (ps : List (Nat × Nat)) (d : Nat → Nat) (u : Nat) : Nat → Nat := fun j => if (u, j) ∈ ps then max (d j) (d u + 1) else d j
def depO (ps : List (Nat × Nat)) (ord : List Nat) : Nat → Nat := ord.foldl (depStep ps) fun _ => 0
theorem depStep_congr {ps qs : List (Nat × Nat)} (h : ∀ p, p ∈ ps ↔ p ∈ qs) : depStep ps = depStep qs := by
  funext d u j
  unfold depStep
  simp only [h]
theorem depO_congr {ps qs : List (Nat × Nat)} (h : ∀ p, p ∈ ps ↔ p ∈ qs) (ord : List Nat) : depO ps ord = depO qs ord := by
  unfold depO
  rw [depStep_congr h]
theorem depO_more {ps : List (Nat × Nat)} {ord : List Nat} {i u : Nat} (h : ord[i]? = some u) : depO ps (ord.take (i + 1)) = depStep ps (depO ps (ord.take i)) u := by
  unfold depO
  rw [List.take_add_one, h, List.foldl_append]
  rfl
/-- n numbers -/
def nF (n : Nat) (f : Nat → Nat) : List V := nL ((List.range n).map f)
theorem nF_len (n : Nat) (f : Nat → Nat) : (nF n f).length = n := by unfold nF; rw [nL_len, List.length_map, List.length_range]
theorem nF_get {n : Nat} {f : Nat → Nat} {j : Nat} (h : j < n) : (nF n f)[j]? = some (V.int (f j : Nat)) := nL_get (by rw [List.getElem?_map, List.getElem?_range h]; rfl)
theorem nF_set {n : Nat} {f : Nat → Nat} {k m : Nat} : (nF n f).set k (V.int (m : Nat)) = nF n fun j => if j = k then m else f j := by
  refine List.ext_getElem? fun i => ?_
  rw [List.getElem?_set, nF_len]
  by_cases hi : i < n
  · rw [nF_get (f := fun j => if j = k then m else f j) hi]
    by_cases e : k = i
    · rw [if_pos e, if_pos (by omega), if_pos e.symm]
    · rw [if_neg e, nF_get hi, if_neg (fun z => e z.symm)]
  · rw [List.getElem?_eq_none (l := nF n fun j => if j = k then m else f j) (by rw [nF_len]; omega), List.getElem?_eq_none (l := nF n f) (by rw [nF_len]; omega)]
    by_cases e : k = i
    · rw [if_pos e, if_neg (by omega)]
    · rw [if_neg e]
theorem nF_congr {n : Nat} {f g : Nat → Nat} (h : ∀ j, j < n → f j = g j) : nF n f = nF n g := by
  unfold nF
  rw [List.map_congr_left fun j hj => h j (List.mem_range.mp hj)]
theorem rep0 (n : Nat) : (List.replicate ((n : Int)).toNat [V.int 0]).flatten = nF n fun _ => 0 := by
  rw [Int.toNat_natCast]
  refine List.ext_getElem? fun i => ?_
  have e : (List.replicate n [V.int 0]).flatten = List.replicate n (V.int 0) := by
    induction n with
    | zero => rfl
    | succ n ih => rw [List.replicate_succ, List.flatten_cons, ih, List.replicate_succ]; rfl
  rw [e, List.getElem?_replicate]
  by_cases hi : i < n
  · rw [if_pos hi, nF_get hi]; rfl
  · rw [if_neg hi, List.getElem?_eq_none (by rw [nF_len]; omega)]
theorem max_nat (a b : Nat) : (V.int (if ((b : Nat) : Int) + 1 > ((a : Nat) : Int) then ((b : Nat) : Int) + 1 else ((a : Nat) : Int))) = V.int ((max a (b + 1) : Nat) : Int) := by
  congr 1
  by_cases h : ((b : Nat) : Int) + 1 > ((a : Nat) : Int)
  · rw [if_pos h]; omega
  · rw [if_neg h]; omega
end
end Hue

end
section
set_option maxRecDepth 100000
set_option maxHeartbeats 4000000
namespace Hue
open PySem PySem.Spec PyProof.Rows L2
section
variable {P : Program} {w : World} {K : PySem.W.Frag} {mg : Str → Option Value} {base : Heap} {C CL : Addr}
theorem inI_nat {v : V} {n : Nat} (hin : inI v 0 ((n : Int) - 1) = true) : ∃ k : Nat, k < n ∧ v = .int (k : Nat) := by
  cases v with
  | int i =>
    have z : (decide (0 ≤ i) && decide (i ≤ (n : Int) - 1)) = true := hin
    rw [Bool.and_eq_true, decide_eq_true_eq, decide_eq_true_eq] at z
    exact ⟨i.toNat, by omega, by congr 1; omega⟩
  | _ => cases hin
theorem nat_inI {k n : Nat} (h : k < n) : inI (.int (k : Nat)) 0 ((n : Int) - 1) = true := by
  show (decide (0 ≤ (k : Int)) && decide ((k : Int) ≤ (n : Int) - 1)) = true
  rw [decide_eq_true (by omega), decide_eq_true (by omega)]
  rfl
theorem in_Bel {n : Nat} {R : Rel} {i j : Nat} (h : i < n) : decide (i ∈ Bel n R j) = R j i := by
  rw [Bool.eq_iff_iff, decide_eq_true_eq, mem_Bel]
  exact ⟨fun z => z.2, fun z => ⟨h, z⟩⟩
/-! ### methods that check a lamp and hand out a list -/
abbrev s_House_beneath : Stmt := inClass (top 13) 5
theorem sc_House_beneath : FnScope ["self", "lamp"] ["self", "lamp"] (defScope s_House_beneath) := ⟨rfl, rfl, rfl, by decide +kernel, rfl, by decide +kernel, by decide +kernel⟩
-- slots of House.beneath: 0 self, 1 lamp
def spBeneathX (C CL : Addr) : Sp := fun vs H Q E => ∃ (x : Addr) (n h : Nat) (R : Rel) (v : V), vs = [.ref x, v] ∧ HouseAt C H x n h R ∧ Kd H v ∧
  (∀ k : Nat, k < n → v = .int (k : Nat) → ∀ (H' : Hp) (p : Addr), Same H H' → H p = Option.none → H' p = some (.lst (nL (Bel n R k))) → Q (.ref p) H') ∧ (inI v 0 ((n : Int) - 1) = false → Odd1 CL "lamp" v H E)
theorem ok_beneath (T : Txt K mg C) {f : Addr} {fd : FuncData} (F : Fun K "beneath" "House.beneath" s_House_beneath f fd) (c_check_lamp : CalX P w K mg base "check_lamp" 4 (spCheckLampX C CL)) : FnOk P w K mg base (L2.CX P w) 5 f fd ["self", "lamp"] (spBeneathX C CL) := by
  refine F.okX sc_House_beneath (fun vs H Q E h => ?_) (fun cdv A outer s H vs Q E hr h => ?_)
  · obtain ⟨x, n, h, R, v, rfl, _⟩ := h; rfl
  · obtain ⟨x, n, h, R, v, rfl, ha, kd, q1, q2⟩ := h
    obtain ⟨dx, fs, be, o, h1, h2, h3, h4, h5, h6, h7, h8, h9⟩ := id ha
    refine ⟨_, (pss_cons (ps_expr (pe_calX c_check_lamp (takes_of rfl rfl rfl rfl) (hr.mono (by decide)) (pa_cons (pv 0) (pa_cons (pv 1) pa_nil))))
      (pss_one (ps_ret (pe_callTy (lstOf_ K) (by rfl) T.list b_list (pa_cons (pe_ix (ixL_ K) (fld_ K (pv 0)) (pv 1) (fun _ _ => rfl)) pa_nil))))), ?_⟩
    refine ⟨_, rfl, _, rfl, x, n, h, R, v, rfl, ha, kd, fun hin => ?_, q2⟩
    obtain ⟨k, hk, rfl⟩ := inI_nat hin
    obtain ⟨xs, al, hb, _, hal, hL⟩ := h5.at (relRows_at (R := R) hk)
    exact ⟨_, rfl, x, C, dx, _, _, rfl, h1, T.cl, T.nBen, h4, _, rfl, be, xs, _, _, rfl, rfl, SqL.of hb, atI_nat hal, al, _, rfl, .inl (SqL.of hL), fun p np => q1 k hk rfl _ p (same_new np) np upd_same⟩
abbrev s_House_above : Stmt := inClass (top 13) 6
theorem sc_House_above : FnScope ["self", "lamp"] ["self", "lamp"] (defScope s_House_above) := ⟨rfl, rfl, rfl, by decide +kernel, rfl, by decide +kernel, by decide +kernel⟩
-- slots of House.above: 0 self, 1 lamp
def spAboveX (C CL : Addr) : Sp := fun vs H Q E => ∃ (x : Addr) (n h : Nat) (ps : List (Nat × Nat)) (v : V), vs = [.ref x, v] ∧ HouseAt C H x n h (relOf ps) ∧ HouseX C H x n ps ∧ Kd H v ∧
  (∀ k : Nat, k < n → v = .int (k : Nat) → ∀ (H' : Hp) (p : Addr), Same H H' → H p = Option.none → H' p = some (.lst (nL (Bel n (flip (relOf ps)) k))) → Q (.ref p) H') ∧ (inI v 0 ((n : Int) - 1) = false → Odd1 CL "lamp" v H E)
theorem ok_above (T : Txt K mg C) {f : Addr} {fd : FuncData} (F : Fun K "above" "House.above" s_House_above f fd) (c_check_lamp : CalX P w K mg base "check_lamp" 4 (spCheckLampX C CL)) : FnOk P w K mg base (L2.CX P w) 5 f fd ["self", "lamp"] (spAboveX C CL) := by
  refine F.okX sc_House_above (fun vs H Q E h => ?_) (fun cdv A outer s H vs Q E hr h => ?_)
  · obtain ⟨x, n, h, ps, v, rfl, _⟩ := h; rfl
  · obtain ⟨x, n, h, ps, v, rfl, ha, hX, kd, q1, q2⟩ := h
    obtain ⟨dx, fs, ab, di, l, us, qs, g1, g2, g3, g4, g5, g6, g7, g8, g9, g10⟩ := id hX
    refine ⟨_, (pss_cons (ps_expr (pe_calX c_check_lamp (takes_of rfl rfl rfl rfl) (hr.mono (by decide)) (pa_cons (pv 0) (pa_cons (pv 1) pa_nil))))
      (pss_one (ps_ret (pe_callTy (lstOf_ K) (by rfl) T.list b_list (pa_cons (pe_ix (ixL_ K) (fld_ K (pv 0)) (pv 1) (fun _ _ => rfl)) pa_nil))))), ?_⟩
    refine ⟨_, rfl, _, rfl, x, n, h, relOf ps, v, rfl, ha, kd, fun hin => ?_, q2⟩
    obtain ⟨k, hk, rfl⟩ := inI_nat hin
    obtain ⟨xs, al, hb, _, hal, hL⟩ := g3.at (relRows_at (R := flip (relOf ps)) hk)
    exact ⟨_, rfl, x, C, dx, _, _, rfl, g1, T.cl, T.nAbove, g2, _, rfl, ab, xs, _, _, rfl, rfl, SqL.of hb, atI_nat hal, al, _, rfl, .inl (SqL.of hL), fun p np => q1 k hk rfl _ p (same_new np) np upd_same⟩
abbrev s_House_direct : Stmt := inClass (top 13) 7
theorem sc_House_direct : FnScope ["self", "lamp"] ["self", "lamp"] (defScope s_House_direct) := ⟨rfl, rfl, rfl, by decide +kernel, rfl, by decide +kernel, by decide +kernel⟩
-- slots of House.direct: 0 self, 1 lamp
def spDirectX (C CL : Addr) : Sp := fun vs H Q E => ∃ (x : Addr) (n h : Nat) (ps : List (Nat × Nat)) (v : V), vs = [.ref x, v] ∧ HouseAt C H x n h (relOf ps) ∧ HouseX C H x n ps ∧ Kd H v ∧
  (∀ k : Nat, k < n → v = .int (k : Nat) → ∀ (qs : List (Nat × Nat)) (H' : Hp) (p : Addr), PermS qs ps → Same H H' → H p = Option.none → H' p = some (.lst (nL (dirL qs k))) → Q (.ref p) H') ∧ (inI v 0 ((n : Int) - 1) = false → Odd1 CL "lamp" v H E)
theorem ok_direct (T : Txt K mg C) {f : Addr} {fd : FuncData} (F : Fun K "direct" "House.direct" s_House_direct f fd) (c_check_lamp : CalX P w K mg base "check_lamp" 4 (spCheckLampX C CL)) : FnOk P w K mg base (L2.CX P w) 5 f fd ["self", "lamp"] (spDirectX C CL) := by
  refine F.okX sc_House_direct (fun vs H Q E h => ?_) (fun cdv A outer s H vs Q E hr h => ?_)
  · obtain ⟨x, n, h, ps, v, rfl, _⟩ := h; rfl
  · obtain ⟨x, n, h, ps, v, rfl, ha, hX, kd, q1, q2⟩ := h
    obtain ⟨dx, fs, ab, di, l, us, qs, g1, g2, g3, g4, g5, g6, g7, g8, g9, g10⟩ := id hX
    refine ⟨_, (pss_cons (ps_expr (pe_calX c_check_lamp (takes_of rfl rfl rfl rfl) (hr.mono (by decide)) (pa_cons (pv 0) (pa_cons (pv 1) pa_nil))))
      (pss_one (ps_ret (pe_callTy (lstOf_ K) (by rfl) T.list b_list (pa_cons (pe_ix (ixL_ K) (fld_ K (pv 0)) (pv 1) (fun _ _ => rfl)) pa_nil))))), ?_⟩
    refine ⟨_, rfl, _, rfl, x, n, h, relOf ps, v, rfl, ha, kd, fun hin => ?_, q2⟩
    obtain ⟨k, hk, rfl⟩ := inI_nat hin
    obtain ⟨xs, al, hb, _, hal, hL⟩ := g5.at (i := k) (r := dirL qs k) (by rw [List.getElem?_map, List.getElem?_range hk]; rfl)
    exact ⟨_, rfl, x, C, dx, _, _, rfl, g1, T.cl, T.nDirect, g4, _, rfl, di, xs, _, _, rfl, rfl, SqL.of hb, atI_nat hal, al, _, rfl, .inl (SqL.of hL), fun p np => q1 k hk rfl qs _ p g9 (same_new np) np upd_same⟩
/-! ### two lamps -/
/-- two values of which the first that is no lamp is told -/
def Two (CL : Addr) (n : Nat) (a b : V) (H : Hp) (E : XK) : Prop := (inI a 0 ((n : Int) - 1) = false → Odd1 CL "lamp" a H E) ∧ (inI a 0 ((n : Int) - 1) = true → inI b 0 ((n : Int) - 1) = false → Odd1 CL "lamp" b H E)
end
end Hue

end
section
set_option maxRecDepth 100000
set_option maxHeartbeats 4000000
namespace Hue
open PySem PySem.Spec PyProof.Rows L2
section
variable {P : Program} {w : World} {K : PySem.W.Frag} {mg : Str → Option Value} {base : Heap} {C CL CS CN : Addr}
/-! ### plain data that may stand for a state or a number -/
inductive All2 (R : V → PyData → Prop) : List V → List PyData → Prop
  | nil : All2 R [] []
  | cons {x : V} {d : PyData} {xs : List V} {ds : List PyData} : R x d → All2 R xs ds → All2 R (x :: xs) (d :: ds)
namespace All2
variable {R R' : V → PyData → Prop}
theorem len : ∀ {xs : List V} {ds : List PyData}, All2 R xs ds → xs.length = ds.length
  | _, _, .nil => rfl
  | _, _, .cons _ r => by rw [List.length_cons, List.length_cons, len r]
theorem get : ∀ {xs : List V} {ds : List PyData} {i : Nat} {x : V}, All2 R xs ds → xs[i]? = some x → ∃ d, ds[i]? = some d ∧ R x d
  | _, _, i, x, .nil, h => by simp at h
  | _, _, 0, x, .cons r _, h => by cases h; exact ⟨_, rfl, r⟩
  | _, _, i + 1, x, .cons (xs := xs) (ds := ds) _ r, h => get (xs := xs) (ds := ds) (i := i) (x := x) r h
theorem imp (f : ∀ x d, R x d → R' x d) : ∀ {xs : List V} {ds : List PyData}, All2 R xs ds → All2 R' xs ds
  | _, _, .nil => .nil
  | _, _, .cons a r => .cons (f _ _ a) (imp f r)
theorem app : ∀ {xs ys : List V} {ds es : List PyData}, All2 R xs ds → All2 R ys es → All2 R (xs ++ ys) (ds ++ es)
  | _, _, _, _, .nil, b => b
  | _, _, _, _, .cons a r, b => .cons a (app r b)
end All2
inductive Lf : V → PyData → Prop
  | int (i : Int) (h : i.natAbs < 10 ^ 38) : Lf (.int i) (.int i)
  | bl (b : Bool) : Lf (.bl b) (.bool b)
  | non : Lf .non .none
  | str (x : Str) (h : PyData.leavesShort 40 (.str x) = true) (hs : x.cps.size ≤ 100) : Lf (.str x) (.str x)
inductive Lf1 (H : Hp) : V → PyData → Prop
  | lf {v : V} {d : PyData} : Lf v d → Lf1 H v d
  | tup {t : Addr} {xs : List V} {ds : List PyData} : H t = some (.tup xs) → All2 Lf xs ds → xs.length ≤ 20 → Lf1 H (.ref t) (.tuple ds)
  | lst {t : Addr} {xs : List V} {ds : List PyData} : H t = some (.lst xs) → All2 Lf xs ds → xs.length ≤ 20 → Lf1 H (.ref t) (.list ds)
inductive Lf2 (H : Hp) : V → PyData → Prop
  | lf {v : V} {d : PyData} : Lf v d → Lf2 H v d
  | tup {t : Addr} {xs : List V} {ds : List PyData} : H t = some (.tup xs) → All2 (Lf1 H) xs ds → xs.length ≤ 20 → Lf2 H (.ref t) (.tuple ds)
  | lst {t : Addr} {xs : List V} {ds : List PyData} : H t = some (.lst xs) → All2 Lf xs ds → xs.length ≤ 20 → Lf2 H (.ref t) (.list ds)
theorem Lf1.same {H H' : Hp} {v : V} {d : PyData} (o : Lf1 H v d) (s : Same H H') : Lf1 H' v d := by
  cases o with
  | lf l => exact .lf l
  | tup h a b => exact .tup (s _ _ h) a b
  | lst h a b => exact .lst (s _ _ h) a b
theorem Lf2.same {H H' : Hp} {v : V} {d : PyData} (o : Lf2 H v d) (s : Same H H') : Lf2 H' v d := by
  cases o with
  | lf l => exact .lf l
  | tup h a b => exact .tup (s _ _ h) (a.imp fun _ _ z => z.same s) b
  | lst h a b => exact .lst (s _ _ h) a b
theorem Lf.kd {H : Hp} {v : V} {d : PyData} (o : Lf v d) : Kd H v := by
  cases o with
  | int i h => exact .int i
  | bl b => exact .bl b
  | non => exact .non
  | str x _ _ => exact .str x
theorem Lf1.kd {H : Hp} {v : V} {d : PyData} (o : Lf1 H v d) : Kd H v := by
  cases o with
  | lf l => exact l.kd
  | tup h _ _ => exact .tup h
  | lst h _ _ => exact .lst h
theorem Lf2.kd {H : Hp} {v : V} {d : PyData} (o : Lf2 H v d) : Kd H v := by
  cases o with
  | lf l => exact l.kd
  | tup h _ _ => exact .tup h
  | lst h _ _ => exact .lst h
/-- what repr asks of the data -/
structure DOk (w b : Nat) (d : PyData) : Prop where
  sh : PyData.leavesShort 40 d = true
  sw : d.showable = true
  no : d.hasDict = false
  dp : d.depth ≤ b
  wt : d.weight ≤ w
theorem Lf.ok {v : V} {d : PyData} (o : Lf v d) : DOk 200 2 d := by
  cases o with
  | int i h =>
    have l2 : i.natAbs.log2 < 127 := by
      rcases Nat.eq_zero_or_pos i.natAbs with z | z
      · rw [z]; decide
      · exact (Nat.log2_lt (by omega)).mpr (Nat.lt_of_lt_of_le h (by decide))
    refine ⟨?_, decide_eq_true (by omega), rfl, by simp [PyData.depth], ?_⟩
    · have l := PySem.int_text_length_le10 (a := i) (k := 38) (by decide) h
      show decide ((PyData.shown (.int i)).length ≤ 40) = true
      refine decide_eq_true ?_
      have e : (PyData.shown (.int i)).length = (toString i).length := by
        show (Str.ofString (toString i)).length = _
        exact PySem.ofString_length _
      omega
    · show (if i == 0 then 0 else i.natAbs.log2 + 1) ≤ 200
      split <;> omega
  | bl b => exact ⟨rfl, rfl, rfl, by simp [PyData.depth], by simp [PyData.weight]⟩
  | non => exact ⟨rfl, rfl, rfl, by simp [PyData.depth], by simp [PyData.weight]⟩
  | str x h hs => exact ⟨h, rfl, rfl, by simp [PyData.depth], by show x.cps.size ≤ 200; omega⟩
theorem all_ok {R : V → PyData → Prop} {w b : Nat} (f : ∀ v d, R v d → DOk w b d) : ∀ {xs : List V} {ds : List PyData}, All2 R xs ds → PyData.leavesShortAll 40 ds = true ∧ PyData.showableAll ds = true ∧ PyData.hasDictAll ds = false ∧ PyData.depthAll ds ≤ b ∧ PyData.weightAll ds ≤ xs.length * (w + 1)
  | _, _, .nil => ⟨rfl, rfl, rfl, by simp [PyData.depthAll], by simp [PyData.weightAll]⟩
  | _, _, .cons a r => by
    obtain ⟨h1, h2, h3, h4, h5⟩ := all_ok f r
    obtain ⟨g1, g2, g3, g4, g5⟩ := f _ _ a
    refine ⟨by simp only [PyData.leavesShortAll, g1, h1]; rfl, by simp only [PyData.showableAll, g2, h2]; rfl, by simp only [PyData.hasDictAll, g3, h3]; rfl, by simp only [PyData.depthAll]; omega, ?_⟩
    simp only [PyData.weightAll, List.length_cons, Nat.succ_mul]
    omega
theorem seq_ok {R : V → PyData → Prop} {w b : Nat} (f : ∀ v d, R v d → DOk w b d) {xs : List V} {ds : List PyData} (a : All2 R xs ds) (l : xs.length ≤ 20) : DOk (20 * (w + 1)) (b + 1) (.tuple ds) ∧ DOk (20 * (w + 1)) (b + 1) (.list ds) := by
  obtain ⟨h1, h2, h3, h4, h5⟩ := all_ok f a
  have h6 : xs.length * (w + 1) ≤ 20 * (w + 1) := Nat.mul_le_mul_right _ l
  constructor
  · refine ⟨by simp only [PyData.leavesShort]; exact h1, by simp only [PyData.showable]; exact h2, by simp only [PyData.hasDict]; exact h3, ?_, ?_⟩
    · simp only [PyData.depth]; omega
    · simp only [PyData.weight]; omega
  · refine ⟨by simp only [PyData.leavesShort]; exact h1, by simp only [PyData.showable]; exact h2, by simp only [PyData.hasDict]; exact h3, ?_, ?_⟩
    · simp only [PyData.depth]; omega
    · simp only [PyData.weight]; omega
theorem DOk.mono {w w' b b' : Nat} {d : PyData} (o : DOk w b d) (h : w ≤ w') (g : b ≤ b') : DOk w' b' d := ⟨o.sh, o.sw, o.no, Nat.le_trans o.dp g, Nat.le_trans o.wt h⟩
theorem Lf1.ok {H : Hp} {v : V} {d : PyData} (o : Lf1 H v d) : DOk 4020 3 d := by
  cases o with
  | lf l => exact l.ok.mono (by decide) (by decide)
  | tup _ a l => exact (seq_ok (fun _ _ z => z.ok) a l).1
  | lst _ a l => exact (seq_ok (fun _ _ z => z.ok) a l).2
theorem Lf2.ok {H : Hp} {v : V} {d : PyData} (o : Lf2 H v d) : DOk 80420 4 d := by
  cases o with
  | lf l => exact l.ok.mono (by decide) (by decide)
  | tup _ a l => exact (seq_ok (fun _ _ z => z.ok) a l).1
  | lst _ a l => exact (seq_ok (fun _ _ z => z.ok) a l).2.mono (by decide) (by decide)
theorem Lf.dp {H : Hp} {v : V} {d : PyData} (o : Lf v d) : Dp K H v d := by
  cases o with
  | int i h => exact .int i
  | bl b => exact .bl b
  | non => exact .non
  | str x _ _ => exact .str x
theorem all_dp {R : V → PyData → Prop} {H : Hp} (f : ∀ v d, R v d → Dp K H v d) : ∀ {xs : List V} {ds : List PyData}, All2 R xs ds → DpAll K H xs ds
  | _, _, .nil => .nil
  | _, _, .cons a r => .cons (f _ _ a) (all_dp f r)
theorem Lf1.dp {H : Hp} {v : V} {d : PyData} (o : Lf1 H v d) : Dp K H v d := by
  cases o with
  | lf l => exact l.dp
  | tup h a _ => exact .tup (SqT.of h) (all_dp (fun _ _ z => z.dp) a)
  | lst h a _ => exact .lst (SqL.of h) (all_dp (fun _ _ z => z.dp) a)
theorem Lf2.dp {H : Hp} {v : V} {d : PyData} (o : Lf2 H v d) : Dp K H v d := by
  cases o with
  | lf l => exact l.dp
  | tup h a _ => exact .tup (SqT.of h) (all_dp (fun _ _ z => z.dp) a)
  | lst h a _ => exact .lst (SqL.of h) (all_dp (fun _ _ z => z.dp) a)
/-- its repr -/
theorem Lf2.repr {H : Hp} {v : V} {d : PyData} (o : Lf2 H v d) {Q : VK} (q : Q (.str d.shown) H) : rRepr K [v] H Q := by
  have ok := o.ok
  have l := PyData.shown_le 40 (by decide) d ok.sh
  have wt := ok.wt
  have m : (40 + 2) * d.weight ≤ (40 + 2) * 80420 := Nat.mul_le_mul_left _ wt
  exact ⟨v, d, rfl, o.dp, ok.sw, ok.no, by have := ok.dp; omega, by rw [sizeLine_eq]; omega, q⟩
/-! ### which of them is a state -/
def inD (h : Nat) : PyData → Bool
  | .int i => decide (0 ≤ i) && decide (i ≤ (h : Int) - 1)
  | _ => false
def stB (n h : Nat) : PyData → Bool
  | .tuple ds => decide (ds.length = n) && ds.all (inD h)
  | _ => false
theorem Lf.in_ {v : V} {d : PyData} (o : Lf v d) (h : Nat) : inI v 0 ((h : Int) - 1) = inD h d := by cases o <;> rfl
theorem Lf1.in_ {H : Hp} {v : V} {d : PyData} (o : Lf1 H v d) (h : Nat) : inI v 0 ((h : Int) - 1) = inD h d := by
  cases o with
  | lf l => exact l.in_ h
  | tup _ _ _ => rfl
  | lst _ _ _ => rfl
theorem all_int {R : V → PyData → Prop} (f : ∀ v i, R v (.int i) → v = .int i) {h : Nat} : ∀ {xs : List V} {ds : List PyData}, All2 R xs ds → ds.all (inD h) = true → ∃ S : List Int, xs = stV S ∧ ds = S.map .int ∧ ∀ z ∈ S, 0 ≤ z ∧ z < (h : Int)
  | _, _, .nil, _ => ⟨[], rfl, rfl, fun z hz => by cases hz⟩
  | _, _, .cons (d := d) a r, hd => by
    rw [List.all_cons, Bool.and_eq_true] at hd
    obtain ⟨S, e1, e2, e3⟩ := all_int f r hd.2
    cases d with
    | int i =>
      have z : (decide (0 ≤ i) && decide (i ≤ (h : Int) - 1)) = true := hd.1
      rw [Bool.and_eq_true, decide_eq_true_eq, decide_eq_true_eq] at z
      refine ⟨i :: S, by rw [f _ _ a, e1]; rfl, by rw [e2]; rfl, fun y hy => ?_⟩
      rcases List.mem_cons.mp hy with e | hy
      · rw [e]; omega
      · exact e3 y hy
    | _ => exact absurd hd.1 (by intro z; cases z)
theorem Lf1.int_ {H : Hp} {v : V} {i : Int} (o : Lf1 H v (.int i)) : v = .int i := by
  cases o with
  | lf l => cases l; rfl
theorem Lf2.st {H : Hp} {v : V} {d : PyData} {n h : Nat} (o : Lf2 H v d) (hb : stB n h d = true) : ∃ (t : Addr) (S : List Int), v = .ref t ∧ H t = some (.tup (stV S)) ∧ StOk n h S ∧ d = stD S := by
  cases o with
  | lf l => cases l <;> cases hb
  | @tup t xs ds ht a l =>
    have z : (decide (ds.length = n) && ds.all (inD h)) = true := hb
    rw [Bool.and_eq_true, decide_eq_true_eq] at z
    obtain ⟨S, e1, e2, e3⟩ := all_int (fun v i z => Lf1.int_ z) a z.2
    refine ⟨t, S, rfl, by rw [ht, e1], ⟨?_, e3⟩, by rw [e2]; rfl⟩
    rw [← z.1, e2, List.length_map]
  | lst _ _ _ => cases hb
theorem ints_all (R : V → PyData → Prop) (f : ∀ i : Int, i.natAbs < 10 ^ 38 → R (.int i) (.int i)) : ∀ S : List Int, (∀ z ∈ S, z.natAbs < 10 ^ 38) → All2 R (stV S) (S.map .int)
  | [], _ => .nil
  | i :: S, h => .cons (f i (h i List.mem_cons_self)) (ints_all R f S fun z hz => h z (List.mem_cons_of_mem _ hz))
theorem st_lf2 {H : Hp} {t : Addr} {S : List Int} (ht : H t = some (.tup (stV S))) (l : S.length ≤ 20) (b : ∀ z ∈ S, z.natAbs < 10 ^ 38) : Lf2 H (.ref t) (stD S) := .tup ht (ints_all _ (fun i h => .lf (.int i h)) S b) (by rw [List.length_map]; exact l)
theorem st_lf1 {H : Hp} {t : Addr} {S : List Int} (ht : H t = some (.tup (stV S))) (l : S.length ≤ 20) (b : ∀ z ∈ S, z.natAbs < 10 ^ 38) : Lf1 H (.ref t) (stD S) := .tup ht (ints_all _ (fun i h => .int i h) S b) (by rw [List.length_map]; exact l)
theorem StOk.small {n h : Nat} {S : List Int} (o : StOk n h S) (h10 : h ≤ 10) : ∀ z ∈ S, z.natAbs < 10 ^ 38 := fun z hz => by
  have := o.2 z hz
  have e : (10 : Nat) ^ 38 = 100000000000000000000000000000000000000 := by decide
  omega
theorem st_stB {n h : Nat} {S : List Int} (o : StOk n h S) : stB n h (stD S) = true := by
  show (decide ((S.map PyData.int).length = n) && (S.map PyData.int).all (inD h)) = true
  rw [List.length_map, decide_eq_true o.1, Bool.true_and, List.all_eq_true]
  intro d hd
  obtain ⟨z, hz, rfl⟩ := List.mem_map.mp hd
  have := o.2 z hz
  show (decide (0 ≤ z) && decide (z ≤ (h : Int) - 1)) = true
  rw [decide_eq_true this.1, decide_eq_true (by omega)]
  rfl
abbrev s_is_state : Stmt := top 24
theorem sc_is_state : FnScope ["house", "value", "hue"] ["house", "value"] (defScope s_is_state) := ⟨rfl, rfl, rfl, by decide +kernel, rfl, by decide +kernel, by decide +kernel⟩
-- slots of is_state: 0 house, 1 value, 2 hue
def spIsStateV (C : Addr) : Sp := fun vs H Q _ => ∃ (x : Addr) (n h : Nat) (R : Rel) (v : V) (d : PyData), vs = [.ref x, v] ∧ HouseAt C H x n h R ∧ n ≤ 16 ∧ Lf2 H v d ∧ ∀ H', Same H H' → Q (.bl (stB n h d)) H'
theorem ok_is_state (T : Txt K mg C) {f : Addr} {fd : FuncData} (F : Fun K "is_state" "is_state" s_is_state f fd) (c_is_whole_in : Cal P w K mg base "is_whole_in" 2 spWholeInV) : FnOk P w K mg base CX0 3 f fd ["house", "value"] (spIsStateV C) := by
  refine F.ok sc_is_state (fun vs H Q E h => ?_) (fun cdv A outer s H vs Q E hr h => ?_)
  · obtain ⟨x, n, h, R, v, d, rfl, _⟩ := h; rfl
  · obtain ⟨x, n, h, R, v, d, rfl, ⟨dx, fs, be, o, h1, h2, h3, h4, h5, h6, h7, h8, h9⟩, n16, od, q⟩ := h
    refine ⟨_, (pss_cons (ps_if (PW.pt (pw_or (pt_not (pt_val (pe_callB (isi_ K) (by rfl) T.isinstance b_isinstance (pa_cons (pv 1) (pa_cons (pe_bltn (v := .ty "tuple") (by rfl) T.tuple b_tuple rfl) pa_nil))))) (pw_or1 (pt_cmpR op_ne (pe_callB (lenS_ K) (by rfl) T.len b_len (pa_cons (pv 1) pa_nil)) (fld_ K (pv 0)) (nomark _)))))
      (pss_one (ps_ret pe_bl)) pss_nil)
      (pss_one (ps_ret (pe_callB (all_ K rfl) (by rfl) T.all b_all (pa_cons (pe_lc (own := [("hue", 2)]) (g := gName 2) (tt := tYes) rfl sc_is_state.nd (pit_ K (pv 1)) (blkOk_by (by kernel_rfl)) (fun _ _ _ _ _ => (pg_name (i := 2) sc_is_state.nd rfl (by first | exact Or.inl rfl | exact Or.inr rfl))) (fun _ _ _ _ _ => pts_nil) (fun _ _ _ _ _ => (pe_cal c_is_whole_in (hr.mono (by decide)) (pa_cons (pv 2) (pa_cons pe_int (pa_cons (pe_op op_sub (fld_ K (pv 0)) pe_int) pa_nil)))))) pa_nil))))), ?_⟩
    cases od with
    | lf l =>
      cases l with
      | int i _ => exact ⟨_, rfl, _, _, _, _, false, rfl, .ty _, .base (.int i), kit_ty (by decide +kernel), false, rfl, iteT (q H (Same.refl H))⟩
      | bl b => exact ⟨_, rfl, _, _, _, _, false, rfl, .ty _, .base (.bl b), kit_ty (by decide +kernel), false, rfl, iteT (q H (Same.refl H))⟩
      | non => exact ⟨_, rfl, _, _, _, _, false, rfl, .ty _, .base .non, kit_ty (by decide +kernel), false, rfl, iteT (q H (Same.refl H))⟩
      | str z _ _ => exact ⟨_, rfl, _, _, _, _, false, rfl, .ty _, .base (.str z), kit_ty (by decide +kernel), false, rfl, iteT (q H (Same.refl H))⟩
    | lst ht _ _ => exact ⟨_, rfl, _, _, _, _, false, rfl, .ty _, .base (.lst ht), kit_ty (by decide +kernel), false, rfl, iteT (q H (Same.refl H))⟩
    | @tup t xs ds ht a l =>
      have al := a.len
      refine ⟨_, rfl, _, _, _, _, true, rfl, .ty _, .base (.tup ht), kit_ty (by decide +kernel), true, rfl, iteF ?_⟩
      refine ⟨_, rfl, t, _, rfl, .inr (SqT.of ht), _, rfl, x, C, dx, _, _, rfl, h1, T.cl, T.nCount, h2, rfl, _, rfl, ?_⟩
      have gi : decide (V.int (xs.length : Int) = V.int (n : Int)) = decide (ds.length = n) := decide_eq_decide.mpr ⟨fun z => by injection z with z; omega, fun z => by rw [al, z]⟩
      rw [gi]
      refine ite2 (fun hne => ?_) (fun heq => ?_)
      · have z : stB n h (.tuple ds) = false := by
          show (decide (ds.length = n) && ds.all (inD h)) = false
          rw [show decide (ds.length = n) = false by simpa using hne, Bool.false_and]
        rw [z] at q
        exact q H (Same.refl H)
      · have z : stB n h (.tuple ds) = ds.all (inD h) := by
          show (decide (ds.length = n) && ds.all (inD h)) = _
          rw [show decide (ds.length = n) = true by simpa using heq, Bool.true_and]
        rw [z] at q
        refine ⟨_, rfl, t, rfl, ⟨_, SqT.of ht⟩, fun D hD => ?_⟩
        refine lc_tup (xs := xs) (fun i H3 => H3 D = some (.lst (((ds.take i).map (inD h)).map V.bl)) ∧ Same H H3) ⟨upd_same, same_new hD⟩ (fun i H3 _ ⟨_, s⟩ => SqT.of (s _ _ ht)) ?_ ?_
        · rintro i y H3 hy ⟨h3', s3⟩
          obtain ⟨e, he, ye⟩ := a.get hy
          have il := (List.getElem?_eq_some_iff.mp hy).1
          refine ⟨rfl, yesT ⟨_, rfl, _, rfl, x, C, dx, _, _, rfl, s3 _ _ h1, T.cl, T.nHues, h3, _, _, rfl, rfl, y, 0, (h : Int) - 1, rfl, (ye.same s3).kd, _, h3', ?_, ?_, same_upd s3 hD⟩⟩
          · rw [List.length_map, List.length_map, List.length_take, sizeLine_eq]; omega
          · rw [upd_same, List.take_add_one, he, List.map_append, List.map_append, ye.in_ h]
            rfl
        · rintro H3 ⟨h3', s3⟩
          rw [al, List.take_length] at h3'
          refine ⟨D, _, rfl, SqL.of h3', ?_⟩
          have e : (ds.map (inD h)).all id = ds.all (inD h) := by rw [List.all_map]; rfl
          rw [e]
          exact q H3 s3
abbrev s_check_state : Stmt := top 25
theorem sc_check_state : FnScope ["house", "state"] ["house", "state"] (defScope s_check_state) := ⟨rfl, rfl, rfl, by decide +kernel, rfl, by decide +kernel, by decide +kernel⟩
-- slots of check_state: 0 house, 1 state
def spCheckStateX (C CS : Addr) : Sp := fun vs H Q E => ∃ (x : Addr) (n h : Nat) (R : Rel) (v : V) (d : PyData), vs = [.ref x, v] ∧ HouseAt C H x n h R ∧ n ≤ 16 ∧ Lf2 H v d ∧ (∀ (t : Addr) (S : List Int) (H' : Hp), v = .ref t → H t = some (.tup (stV S)) → StOk n h S → Same H H' → Q .non H') ∧ (stB n h d = false → Odd1 CS "state" v H E)
theorem ok_check_state (T : Txt K mg C) (M_state : XMk P w K mg base CS "InvalidState" "state") {f : Addr} {fd : FuncData} (F : Fun K "check_state" "check_state" s_check_state f fd) (c_is_state : Cal P w K mg base "is_state" 3 (spIsStateV C)) : FnOk P w K mg base (L2.CX P w) 4 f fd ["house", "state"] (spCheckStateX C CS) := by
  refine F.okX sc_check_state (fun vs H Q E h => ?_) (fun cdv A outer s H vs Q E hr h => ?_)
  · obtain ⟨x, n, h, R, v, d, rfl, _⟩ := h; rfl
  · obtain ⟨x, n, h, R, v, d, rfl, ha, n16, od, q1, q2⟩ := h
    refine ⟨_, (pss_one (ps_if (pt_not (pt_val (pe_cal c_is_state (hr.mono (by decide)) (pa_cons (pv 0) (pa_cons (pv 1) pa_nil)))))
      (pss_one (ps_raiseM M_state rfl (takes_of rfl rfl rfl rfl) (hr.mono (by decide)) (pa_cons (pv 1) pa_nil))) pss_nil)), ?_⟩
    refine ⟨_, rfl, _, rfl, x, n, h, R, v, d, rfl, ha, n16, od, fun H1 s1 => ?_⟩
    cases e : stB n h d with
    | true =>
      obtain ⟨t, S, ev, ht, ok, _⟩ := od.st e
      exact ⟨true, rfl, iteF (q1 t S H1 ev ht ok s1)⟩
    | false => exact ⟨false, rfl, iteT ⟨_, rfl, by show 1 ≤ 1000; decide, fun a na => keep_raised M_state.cls.oex M_state.no ((q2 e).after s1) a na⟩⟩
abbrev s_InvalidState___init__ : Stmt := inClass (top 5) 0
theorem sc_InvalidState___init__ : FnScope ["self", "state"] ["self", "state"] (defScope s_InvalidState___init__) := ⟨rfl, rfl, rfl, by decide +kernel, rfl, by decide +kernel, by decide +kernel⟩
-- slots of InvalidState.__init__: 0 self, 1 state
theorem ok_InvalidState {f : Addr} {fd : FuncData} (F : Fun K "__init__" "InvalidState.__init__" s_InvalidState___init__ f fd) : FnOk P w K mg base CX0 1 f fd ["self", "state"] (spKeep K "state") := by
  refine F.ok sc_InvalidState___init__ (fun vs H Q E h => ?_) (fun cdv A outer s H vs Q E hr h => ?_)
  · obtain ⟨a, D, v, rfl, _⟩ := h; rfl
  · obtain ⟨a, D, v, rfl, T, no, ha, q⟩ := h
    refine ⟨_, (pss_one (ps_ost (pv 0) (pv 1))), ?_⟩
    exact ⟨_, rfl, _, rfl, a, D, rfl, T, no, .inl ⟨ha, fun dx nd ne => q dx nd ne⟩⟩
end
end Hue

end
section
set_option maxRecDepth 100000
set_option maxHeartbeats 4000000
namespace Hue
open PySem PySem.Spec PyProof.Rows L2
section
variable {P : Program} {w : World} {K : PySem.W.Frag} {mg : Str → Option Value} {base : Heap} {C CL CS : Addr}
/-! ### a house, its calm readings -/
structure HsOk (C : Addr) (H : Hp) (x : Addr) (n h : Nat) (ps : List (Nat × Nat)) : Prop where
  at_ : HouseAt C H x n h (relOf ps)
  x_ : HouseX C H x n ps
theorem HsOk.same {H H' : Hp} {x : Addr} {n h : Nat} {ps : List (Nat × Nat)} (a : HsOk C H x n h ps) (s : Same H H') : HsOk C H' x n h ps := ⟨a.at_.same s, a.x_.same s⟩
/-- what stands of an instance -/
theorem HsOk.ins {H : Hp} {x : Addr} {n h : Nat} {ps : List (Nat × Nat)} (a : HsOk C H x n h ps) : ∃ (dx : Addr) (fs : List (Str × V)), H x = some (.ins C dx fs) ∧ fs.lookup ("count" : Str) = some (.int n) ∧ fs.lookup ("hues" : Str) = some (.int h) ∧ ∀ m ∈ mNames, fs.lookup m = Option.none := by
  obtain ⟨dx, fs, be, o, h1, h2, h3, _⟩ := a.at_
  obtain ⟨_, fs', _, _, _, _, _, g1, _, _, _, _, _, _, _, _, g10⟩ := a.x_
  rw [h1] at g1
  injection g1 with g1
  injection g1 with _ _ g1
  exact ⟨dx, fs, h1, h2, h3, by rw [g1]; exact g10⟩
theorem nat_in {k n : Nat} (h : k < n) : inI (.int (k : Nat)) 0 ((n : Int) - 1) = true := by
  show (decide (0 ≤ (k : Int)) && decide ((k : Int) ≤ (n : Int) - 1)) = true
  rw [decide_eq_true (by omega), decide_eq_true (by omega)]
  rfl
def spAbove (C : Addr) : Sp := fun vs H Q _ => ∃ (x : Addr) (n h k : Nat) (ps : List (Nat × Nat)), vs = [.ref x, .int k] ∧ HsOk C H x n h ps ∧ k < n ∧ ∀ (H' : Hp) (p : Addr), Same H H' → H p = Option.none → H' p = some (.lst (nL (Bel n (flip (relOf ps)) k))) → Q (.ref p) H'
theorem above_n (vs : List V) (H : Hp) (Q : VK) (E : XK) (g : spAbove C vs H Q E) : spAboveX C CL vs H Q fun _ _ _ => False := by
  obtain ⟨x, n, h, k, ps, e, ha, kn, q⟩ := g
  exact ⟨x, n, h, ps, _, e, ha.at_, ha.x_, .int _, fun j hj ej => by injection ej with ej; rw [← Int.ofNat.inj ej]; exact q, fun z => by rw [nat_in kn] at z; cases z⟩
def spBeneath (C : Addr) : Sp := fun vs H Q _ => ∃ (x : Addr) (n h k : Nat) (R : Rel), vs = [.ref x, .int k] ∧ HouseAt C H x n h R ∧ k < n ∧ ∀ (H' : Hp) (p : Addr), Same H H' → H p = Option.none → H' p = some (.lst (nL (Bel n R k))) → Q (.ref p) H'
theorem beneath_n (vs : List V) (H : Hp) (Q : VK) (E : XK) (g : spBeneath C vs H Q E) : spBeneathX C CL vs H Q fun _ _ _ => False := by
  obtain ⟨x, n, h, k, R, e, ha, kn, q⟩ := g
  exact ⟨x, n, h, R, _, e, ha, .int _, fun j hj ej => by injection ej with ej; rw [← Int.ofNat.inj ej]; exact q, fun z => by rw [nat_in kn] at z; cases z⟩
theorem all_back {H : Hp} : ∀ {S : List Int} {ds : List PyData}, All2 (Lf1 H) (stV S) ds → ds = S.map .int
  | [], ds, a => by cases a; rfl
  | i :: S, ds, a => by
    cases a with
    | cons o r =>
      rw [all_back r]
      cases o with
      | lf l => cases l; rfl
theorem lf2_stD {H : Hp} {t : Addr} {d : PyData} {S : List Int} (o : Lf2 H (.ref t) d) (ht : H t = some (.tup (stV S))) : d = stD S := by
  cases o with
  | lf l => cases l
  | tup ht' a l =>
    rw [ht] at ht'
    injection ht' with ht'
    injection ht' with ht'
    subst ht'
    rw [all_back a]
    rfl
  | lst ht' a l =>
    rw [ht] at ht'
    injection ht' with ht'
    cases ht'
theorem lf2_st {H : Hp} {t : Addr} {d : PyData} {n h : Nat} {S : List Int} (o : Lf2 H (.ref t) d) (ht : H t = some (.tup (stV S))) (ok : StOk n h S) : stB n h d = true := by
  rw [lf2_stD o ht]
  exact st_stB ok
theorem Lf2.back {H H1 : Hp} {r : Addr} {e : PyData} {o : HO} (a : Lf2 H (.ref r) e) (s : Same H H1) (h : H1 r = some o) : H r = some o := by
  cases a with
  | lf l => cases l
  | tup ht _ _ => rw [s _ _ ht] at h; rw [ht]; exact h
  | lst ht _ _ => rw [s _ _ ht] at h; rw [ht]; exact h
theorem rep_flat (n : Nat) (v : Int) : (List.replicate ((n : Int)).toNat [V.int v]).flatten = stV (List.replicate n v) := by
  rw [Int.toNat_natCast]
  unfold stV
  rw [List.map_replicate]
  induction n with
  | zero => rfl
  | succ n ih => rw [List.replicate_succ, List.flatten_cons, ih, List.replicate_succ]; rfl
def StsX (CS : Addr) (n h : Nat) (vs : List V) (ds : List PyData) (H : Hp) (E : XK) (good : Prop) : Prop :=
  (ds.all (stB n h) = true → good) ∧ ∀ (i : Nat) v d, vs[i]? = some v → ds[i]? = some d → stB n h d = false → (∀ e ∈ ds.take i, stB n h e = true) → Odd1 CS "state" v H E
structure Two2 (C : Addr) (H : Hp) (x t r : Addr) (n h : Nat) (ps : List (Nat × Nat)) (S D : List Int) : Prop where
  hs : HsOk C H x n h ps
  n16 : n ≤ 16
  h2 : 2 ≤ h
  h10 : h ≤ 10
  hR : Ranked (relOf ps)
  ht : H t = some (.tup (stV S))
  hr : H r = some (.tup (stV D))
  okS : StOk n h S
  okD : StOk n h D
theorem Two2.same {H H' : Hp} {x t r : Addr} {n h : Nat} {ps : List (Nat × Nat)} {S D : List Int} (a : Two2 C H x t r n h ps S D) (s : Same H H') : Two2 C H' x t r n h ps S D := ⟨a.hs.same s, a.n16, a.h2, a.h10, a.hR, s _ _ a.ht, s _ _ a.hr, a.okS, a.okD⟩
/-! ### all of them states -/
/-! ### the meet of two -/
end
end Hue

end
section
set_option maxRecDepth 100000
set_option maxHeartbeats 4000000
namespace Hue
open PySem PySem.Spec PyProof.Rows L2
section
variable {P : Program} {w : World} {K : PySem.W.Frag} {mg : Str → Option Value} {base : Heap} {C CL CS : Addr}
/-! ### the meet of several -/
structure GlbL (n h : Nat) (R : Rel) (SS : List (List Int)) (M : List Int) : Prop where
  ok : StOk n h M
  all : ∀ S ∈ SS, Reach n R S M
  most : ∀ U, StOk n h U → (∀ S ∈ SS, Reach n R S U) → Reach n R M U
theorem GlbL.start {n h : Nat} (R : Rel) (h2 : 2 ≤ h) : GlbL n h R [] (List.replicate n ((h : Int) - 1)) := ⟨rep_ok (by omega) (by omega), fun S hS => by simp at hS, fun U ok _ => bright_reach ok⟩
theorem GlbL.more {n h : Nat} {R : Rel} (hR : Ranked R) (hT : Trans R) {SS : List (List Int)} {S M N : List Int} (a : GlbL n h R SS M) (b : Glb n h R M S N) : GlbL n h R (SS ++ [S]) N := by
  refine ⟨b.ok, fun T hT' => ?_, fun U ok all => b.most U ok (a.most U ok fun T hT' => all T (List.mem_append_left _ hT')) (all S (List.mem_append_right _ List.mem_cons_self))⟩
  rcases List.mem_append.mp hT' with e | e
  · exact (a.all T e).trans hR hT b.l
  · rw [List.mem_singleton.mp e]; exact b.r
theorem GlbL.two {n h : Nat} {R : Rel} {S D M : List Int} (a : GlbL n h R [S, D] M) : Glb n h R S D M := ⟨a.ok, a.all S List.mem_cons_self, a.all D (List.mem_cons_of_mem _ List.mem_cons_self), fun U ok x y => a.most U ok fun T hT => by
  rcases List.mem_cons.mp hT with e | e
  · rw [e]; exact x
  · rw [List.mem_singleton.mp e]; exact y⟩
theorem GlbL.uniq {n h : Nat} {R : Rel} (hR : Ranked R) {SS : List (List Int)} {M N : List Int} (a : GlbL n h R SS M) (b : GlbL n h R SS N) : M = N :=
  Reach.anti hR a.ok.1 b.ok.1 (a.most _ b.ok b.all) (b.most _ a.ok a.all)
/-- the values xs are the states SS -/
def StL (H : Hp) (n h : Nat) (xs : List V) (SS : List (List Int)) : Prop := xs.length = SS.length ∧ ∀ (i : Nat) x S, xs[i]? = some x → SS[i]? = some S → StOk n h S ∧ ∃ t, x = .ref t ∧ H t = some (.tup (stV S))
theorem StL.same {H H' : Hp} {n h : Nat} {xs : List V} {SS : List (List Int)} (a : StL H n h xs SS) (s : Same H H') : StL H' n h xs SS := ⟨a.1, fun i x S e f => let ⟨ok, t, et, ht⟩ := a.2 i x S e f; ⟨ok, t, et, s _ _ ht⟩⟩
theorem stL_of {H : Hp} {n h : Nat} : ∀ {xs : List V} {ds : List PyData}, All2 (Lf2 H) xs ds → ds.all (stB n h) = true → ∃ SS, ds = SS.map stD ∧ StL H n h xs SS
  | _, _, .nil, _ => ⟨[], rfl, rfl, fun i x S e _ => by simp at e⟩
  | x :: xs, d :: ds, .cons o r, al => by
    rw [List.all_cons, Bool.and_eq_true] at al
    obtain ⟨SS, e, l, k⟩ := stL_of r al.2
    obtain ⟨t, S, ex, ht, ok, ed⟩ := o.st al.1
    refine ⟨S :: SS, by rw [List.map_cons, e, ed], by rw [List.length_cons, List.length_cons, l], fun i y T ey eT => ?_⟩
    cases i with
    | zero =>
      have e1 : x = y := by simpa using ey
      have e2 : S = T := by simpa using eT
      subst e1 e2
      exact ⟨ok, t, ex, ht⟩
    | succ i => exact k i y T (by simpa using ey) (by simpa using eT)
theorem stL_lf {H : Hp} {n h : Nat} (n16 : n ≤ 16) (h10 : h ≤ 10) : ∀ {xs : List V} {SS : List (List Int)}, StL H n h xs SS → All2 (Lf2 H) xs (SS.map stD)
  | [], [], _ => .nil
  | [], S :: SS, a => by cases a.1
  | x :: xs, [], a => by cases a.1
  | x :: xs, S :: SS, a => by
    obtain ⟨ok, t, ex, ht⟩ := a.2 0 x S rfl rfl
    subst ex
    refine .cons (st_lf2 ht (by rw [ok.1]; omega) (ok.small h10)) (stL_lf n16 h10 ⟨by have := a.1; rw [List.length_cons, List.length_cons] at this; omega, fun i y T ey eT => a.2 (i + 1) y T ey eT⟩)
theorem stL_all {n h : Nat} {SS : List (List Int)} (a : ∀ S ∈ SS, StOk n h S) : (SS.map stD).all (stB n h) = true := by
  rw [List.all_eq_true]
  intro d hd
  obtain ⟨S, hS, rfl⟩ := List.mem_map.mp hd
  exact st_stB (a S hS)
theorem StL.oks {H : Hp} {n h : Nat} {xs : List V} {SS : List (List Int)} (a : StL H n h xs SS) : ∀ S ∈ SS, StOk n h S := fun S hS => by
  obtain ⟨i, hi, e⟩ := List.getElem_of_mem hS
  have il : i < xs.length := by rw [a.1]; exact hi
  exact (a.2 i xs[i] S (List.getElem?_eq_getElem il) (by rw [List.getElem?_eq_getElem hi, e])).1
theorem stD_inj {S T : List Int} (e : stD S = stD T) : S = T := by
  injection e with e
  have z := congrArg (fun ds : List PyData => ds.map fun d => match d with | .int i => i | _ => 0) e
  simpa [List.map_map, Function.comp_def] using z
theorem stDs_inj : ∀ {SS TT : List (List Int)}, SS.map stD = TT.map stD → SS = TT
  | [], [], _ => rfl
  | [], _ :: _, e => by cases e
  | _ :: _, [], e => by cases e
  | S :: SS, T :: TT, e => by
    rw [List.map_cons, List.map_cons] at e
    injection e with e1 e2
    rw [stD_inj e1, stDs_inj e2]
/-- a house of right size -/
structure Hs2 (C : Addr) (H : Hp) (x : Addr) (n h : Nat) (ps : List (Nat × Nat)) : Prop where
  hs : HsOk C H x n h ps
  n1 : 1 ≤ n
  n16 : n ≤ 16
  h2 : 2 ≤ h
  h10 : h ≤ 10
  hR : Ranked (relOf ps)
theorem Hs2.same {H H' : Hp} {x : Addr} {n h : Nat} {ps : List (Nat × Nat)} (a : Hs2 C H x n h ps) (s : Same H H') : Hs2 C H' x n h ps := ⟨a.hs.same s, a.n1, a.n16, a.h2, a.h10, a.hR⟩
theorem Hs2.two {H : Hp} {x t r : Addr} {n h : Nat} {ps : List (Nat × Nat)} {S D : List Int} (a : Hs2 C H x n h ps) (ht : H t = some (.tup (stV S))) (hr : H r = some (.tup (stV D))) (okS : StOk n h S) (okD : StOk n h D) : Two2 C H x t r n h ps S D := ⟨a.hs, a.n16, a.h2, a.h10, a.hR, ht, hr, okS, okD⟩
end
end Hue

end
section
set_option maxRecDepth 100000
set_option maxHeartbeats 4000000
namespace Hue
open PySem PySem.Spec PyProof.Rows L2
section
variable {P : Program} {w : World} {K : PySem.W.Frag} {mg : Str → Option Value} {base : Heap} {C CL CS : Addr}
/-! ### the mirror -/
theorem mir_mir (h : Nat) (S : List Int) : mir h (mir h S) = S := by
  unfold mir
  rw [List.map_map]
  conv => rhs; rw [← List.map_id S]
  refine List.map_congr_left fun z _ => ?_
  show (h : Int) - 1 - ((h : Int) - 1 - z) = z
  omega
structure LubL (n h : Nat) (R : Rel) (SS : List (List Int)) (J : List Int) : Prop where
  ok : StOk n h J
  all : ∀ S ∈ SS, Reach n R J S
  least : ∀ U, StOk n h U → (∀ S ∈ SS, Reach n R U S) → Reach n R U J
structure Lub (n h : Nat) (R : Rel) (S D J : List Int) : Prop where
  ok : StOk n h J
  l : Reach n R J S
  r : Reach n R J D
  least : ∀ U, StOk n h U → Reach n R U S → Reach n R U D → Reach n R U J
theorem GlbL.mirs {n h : Nat} {R : Rel} {SS : List (List Int)} {M : List Int} (oks : ∀ S ∈ SS, StOk n h S) (a : GlbL n h R (SS.map (mir h)) M) : LubL n h R SS (mir h M) := by
  refine ⟨mir_ok a.ok, fun S hS => ?_, fun U okU all => ?_⟩
  · refine (mir_reach (h := h) (mir_ok a.ok).1 (oks S hS).1).mp ?_
    rw [mir_mir]
    exact a.all _ (List.mem_map_of_mem hS)
  · refine (mir_reach (h := h) okU.1 (mir_ok a.ok).1).mp ?_
    rw [mir_mir]
    refine a.most _ (mir_ok okU) fun T hT => ?_
    obtain ⟨S, hS, rfl⟩ := List.mem_map.mp hT
    exact (mir_reach okU.1 (oks S hS).1).mpr (all S hS)
theorem LubL.uniq {n h : Nat} {R : Rel} (hR : Ranked R) {SS : List (List Int)} {M N : List Int} (a : LubL n h R SS M) (b : LubL n h R SS N) : M = N :=
  Reach.anti hR a.ok.1 b.ok.1 (b.least _ a.ok a.all) (a.least _ b.ok b.all)
theorem LubL.two {n h : Nat} {R : Rel} {S D M : List Int} (a : LubL n h R [S, D] M) : Lub n h R S D M := ⟨a.ok, a.all S List.mem_cons_self, a.all D (List.mem_cons_of_mem _ List.mem_cons_self), fun U ok x y => a.least U ok fun T hT => by
  rcases List.mem_cons.mp hT with e | e
  · rw [e]; exact x
  · rw [List.mem_singleton.mp e]; exact y⟩
theorem Lub.uniq {n h : Nat} {R : Rel} (hR : Ranked R) {S D M N : List Int} (a : Lub n h R S D M) (b : Lub n h R S D N) : M = N :=
  Reach.anti hR a.ok.1 b.ok.1 (b.least _ a.ok a.l a.r) (a.least _ b.ok b.l b.r)
/-- the join of the mirrors is the mirror of the meet -/
theorem Glb.mirL {n h : Nat} {R : Rel} {S D M : List Int} (okS : StOk n h S) (okD : StOk n h D) (a : Glb n h R (mir h S) (mir h D) M) : Lub n h R S D (mir h M) := by
  refine ⟨mir_ok a.ok, ?_, ?_, fun U okU x y => ?_⟩
  · refine (mir_reach (h := h) (mir_ok a.ok).1 okS.1).mp ?_
    rw [mir_mir]; exact a.l
  · refine (mir_reach (h := h) (mir_ok a.ok).1 okD.1).mp ?_
    rw [mir_mir]; exact a.r
  · refine (mir_reach (h := h) okU.1 (mir_ok a.ok).1).mp ?_
    rw [mir_mir]
    exact a.most _ (mir_ok okU) ((mir_reach okU.1 okS.1).mpr x) ((mir_reach okU.1 okD.1).mpr y)
theorem Lub.mirG {n h : Nat} {R : Rel} {S D M : List Int} (okS : StOk n h S) (okD : StOk n h D) (a : Lub n h R (mir h S) (mir h D) M) : Glb n h R S D (mir h M) := by
  refine ⟨mir_ok a.ok, ?_, ?_, fun U okU x y => ?_⟩
  · refine (mir_reach (h := h) okS.1 (mir_ok a.ok).1).mp ?_
    rw [mir_mir]; exact a.l
  · refine (mir_reach (h := h) okD.1 (mir_ok a.ok).1).mp ?_
    rw [mir_mir]; exact a.r
  · refine (mir_reach (h := h) (mir_ok a.ok).1 okU.1).mp ?_
    rw [mir_mir]
    exact a.least _ (mir_ok okU) ((mir_reach okS.1 okU.1).mpr x) ((mir_reach okD.1 okU.1).mpr y)
theorem stV_inj {S T : List Int} (e : stV S = stV T) : S = T := by
  have z := congrArg (fun vs : List V => vs.map fun v => match v with | .int i => i | _ => 0) e
  unfold stV at z
  simpa [List.map_map, Function.comp_def] using z
theorem StL.more {H : Hp} {n h : Nat} {xs : List V} {SS : List (List Int)} {p : Addr} {S : List Int} (a : StL H n h xs SS) (ok : StOk n h S) (hp : H p = some (.tup (stV S))) : StL H n h (xs ++ [.ref p]) (SS ++ [S]) := by
  refine ⟨by rw [List.length_append, List.length_append, a.1]; rfl, fun i x T ex eT => ?_⟩
  rcases Nat.lt_or_ge i xs.length with y | y
  · rw [List.getElem?_append_left y] at ex
    rw [List.getElem?_append_left (by rw [← a.1]; exact y)] at eT
    exact a.2 i x T ex eT
  · rw [List.getElem?_append_right y] at ex
    rw [List.getElem?_append_right (by rw [← a.1]; exact y), ← a.1] at eT
    cases hk : i - xs.length with
    | zero =>
      rw [hk] at ex eT
      cases ex
      cases eT
      exact ⟨ok, p, rfl, hp⟩
    | succ j => rw [hk] at ex; cases ex
theorem StL.laid {H : Hp} {n h : Nat} {xs : List V} {SS : List (List Int)} {D : Addr} {ys : List V} {o : HO} (a : StL H n h xs SS) (hD : H D = some (.lst ys)) : StL (upd H D o) n h xs SS :=
  ⟨a.1, fun i x T ex eT => let ⟨ok, t, et, ht⟩ := a.2 i x T ex eT; ⟨ok, t, et, by rw [upd_ne (ne_of ht hD (by intro z; cases z))]; exact ht⟩⟩
theorem stX_all {H : Hp} {n h : Nat} {xs : List V} {SS : List (List Int)} {E : XK} {good : Prop} (oks : ∀ S ∈ SS, StOk n h S) (g : good) : StsX CS n h xs (SS.map stD) H E good :=
  ⟨fun _ => g, fun i v d _ e bad _ => by
    have z := List.all_eq_true.mp (stL_all oks) d (List.mem_of_getElem? e)
    rw [z] at bad
    cases bad⟩
theorem mirs_ok {n h : Nat} {SS : List (List Int)} (oks : ∀ S ∈ SS, StOk n h S) : ∀ S ∈ SS.map (mir h), StOk n h S := fun S hS => by
  obtain ⟨U, hU, rfl⟩ := List.mem_map.mp hS
  exact mir_ok (oks U hU)
/-! ### the join -/
end
end Hue

end
section
set_option maxRecDepth 100000
set_option maxHeartbeats 4000000
namespace L2
open PySem PySem.Spec PyProof.Rows
/-! ### a def with a keyword-only parameter, that may raise -/
theorem _root_.Hue.FunV.okX {P : Program} {w : World} {K : PySem.W.Frag} {mg : Str → Option Value} {base : Heap} {x qual : Str} {st : Stmt} {f : Addr} {fd : FuncData} {N ps : List Str} {k : Nat} {sp : Sp} (F : Hue.FunV K x qual st f fd) (S : FnScope N ps (defScope st)) (len : ∀ vs H Q E, sp vs H Q E → vs.length = ps.length)
    (hbody : ∀ (cdv : Value) (A : Around) (outer : List Env) (s : Shared) (H : Hp) (vs : List V) (Q : VK) (E : XK), Room k (A.deeper (envOfC qual (defScope st) s.heap.objs.size f cdv)) → sp vs H Q E →
      ∃ t, PSs (cxOf (L2.CX P w) P w K mg base N qual (defScope st) f cdv A outer s H E) (defBody st) t ∧ t { nx := fun _ H' => Q .non H', rt := Q } (start N vs) H) : FnOk P w K mg base (L2.CX P w) (k + 1) f fd ps sp := by
  obtain ⟨oc, od, dV, kV, doc, pm, an, cdv, ct, osl, rfl, lk, hcd⟩ := F.ex
  exact fn_of lk hcd S len fun A outer s H vs Q E hr hsp => hbody cdv A outer s H vs Q E hr hsp
structure KwCalX (P : Program) (w : World) (K : PySem.W.Frag) (mg : Str → Option Value) (base : Heap) (x : Str) (k n : Nat) (nm : Str) (sp : Sp) : Prop where
  ex : ∃ (f : Addr) (fd : FuncData) (ps : List Str), FnOk P w K mg base (L2.CX P w) k f fd ps sp ∧ mg x = some (.ref f) ∧ PySem.W.keepIn K (.ref f) = true ∧ (∃ ds, Vals [V.bl false] ds ∧ Binds K fd ps ds) ∧
    KBn K fd ps n [nm] (fun us ws => us ++ ws) (fun vs zs => vs ++ zs)
section
variable {X : Cx} {e : Expr} {es : List Expr} {t tk : TA} {x nm : Str} {k n : Nat} {sp : Sp} {E : XK} {p pos : Pos} {kws : List Keyword}
def tKw1X (n : Nat) (sp : Sp) (E : XK) (t : TA) (tk : TA) : TE := fun σ H Q => t σ H fun vs H1 => tk σ H1 fun zs H2 => vs.length = n ∧ zs.length = 1 ∧ sp (vs ++ zs) H2 Q E
theorem pe_kw1X (c : KwCalX X.prog X.w X.K X.mg X.base x k n nm sp) (tk' : Takes X (fun cls d _ H => E cls d H)) (hr : Room k X.A) (ha : PA X (e :: es) t) (hkw : PK X kws tk) (hg : Gl X x := by rfl)
    (hall : (backToKw pos (keywordEach kws X.env)).all (·.1.isSome) = true := by rfl) (hks : (backToKw pos (keywordEach kws X.env)).filterMap (·.1) = [nm] := by rfl)
    (hdb : (x == ("__debug__" : Str)) = false := by decide) (he : starEach (e :: es) X.env = (false, eval e X.env) :: starEach es X.env := by rfl)
    (hpl : ((backTo pos (starEach (e :: es) X.env)).any (·.1) || (backToKw pos (keywordEach kws X.env)).any (·.1.isNone)) = false := by rfl) :
    PE X (.Call (.Name x p) (e :: es) kws pos) (tKw1X n sp E t tk) := by
  obtain ⟨f, fd, ps, F, hm, hk, _, hb⟩ := c.ex
  exact (pe_callN F hr hg hm hk hb (goes_on tk') ha hkw hall hks hdb he hpl).to fun σ H Q q => q
end
end L2
namespace Hue
open PySem PySem.Spec PyProof.Rows L2
section
variable {P : Program} {w : World} {K : PySem.W.Frag} {mg : Str → Option Value} {base : Heap} {C CL CS : Addr}
/-! ### the lowest lit lamps -/
/-- the smallest lit lamp beneath -/
def litO (n : Nat) (R : Rel) (S : List Int) (k : Nat) : Option Nat := (Bel n R k).find? fun j => decide (at_ S j > 0)
def vO : Option Nat → V
  | some j => .int (j : Int)
  | none => .non
abbrev s_first_lit_beneath : Stmt := top 33
theorem sc_first_lit_beneath : FnScope ["house", "state", "lamp", "lower"] ["house", "state", "lamp"] (defScope s_first_lit_beneath) := ⟨rfl, rfl, rfl, by decide +kernel, rfl, by decide +kernel, by decide +kernel⟩
-- slots of first_lit_beneath: 0 house, 1 state, 2 lamp, 3 lower
def spFirstLit (C : Addr) : Sp := fun vs H Q _ => ∃ (x a : Addr) (n h k : Nat) (R : Rel) (S : List Int), vs = [.ref x, .ref a, .int k] ∧ HouseAt C H x n h R ∧ n ≤ 16 ∧ k < n ∧ H a = some (.tup (stV S)) ∧ S.length = n ∧ ∀ H', Same H H' → Q (vO (litO n R S k)) H'
theorem ok_first_lit_beneath (T : Txt K mg C) {f : Addr} {fd : FuncData} (F : Fun K "first_lit_beneath" "first_lit_beneath" s_first_lit_beneath f fd) (M_beneath : MCal P w K mg base C "beneath" 5 (spBeneath C)) : FnOk P w K mg base CX0 6 f fd ["house", "state", "lamp"] (spFirstLit C) := by
  refine F.ok sc_first_lit_beneath (fun vs H Q E h => ?_) (fun cdv A outer s H vs Q E hr h => ?_)
  · obtain ⟨x, a, n, h, k, R, S, rfl, _⟩ := h; rfl
  · obtain ⟨x, a, n, h, k, R, S, rfl, hx, n16, hk, ha, hS, q⟩ := h
    obtain ⟨f_beneath, fd_beneath, ps_beneath, F_beneath, m_beneath, b_beneath⟩ := M_beneath.ex
    obtain ⟨dx, fs, be, o, h1, h2, h3, h4, h5, h6, h7, h8, h9⟩ := id hx
    refine ⟨_, (pss_cons (ps_for PassesOwn.never rfl (pil_ K (pe_meth (pv 0) T.cl m_beneath F_beneath (hr.mono (by decide)) b_beneath .nil pass0 (pa_cons (pv 2) pa_nil))) (pg_name (i := 3) sc_first_lit_beneath.nd rfl (by first | exact Or.inl rfl | exact Or.inr rfl))
      (pss_one (ps_if (pt_cmpR op_gt (pe_ix (ixT_ K) (pv 1) (pv 3) (fun _ _ => rfl)) pe_int (nomark _))
      (pss_one (ps_ret (pv 3))) pss_nil)))
      (pss_one (ps_ret pe_non))), ?_⟩
    refine ⟨_, rfl, x, dx, fs, rfl, h1, h9, _, rfl, x, n, h, k, R, rfl, hx, hk, fun H1 l s1 nl hl => ⟨l, rfl, ⟨_, SqL.of hl⟩, ?_⟩⟩
    refine for_list (K := K) (a := l) (xs := nL (Bel n R k)) (fun i σ H2 => ∃ v : Option V, σ = [some (.ref x), some (.ref a), some (.int k), v] ∧ H2 = H1 ∧ litO n R S k = ((Bel n R k).drop i).find? fun j => decide (at_ S j > 0))
      ⟨_, rfl, rfl, rfl⟩ (fun i σ H2 _ ⟨_, _, e, _⟩ => by rw [e]; exact SqL.of hl) ?_ ?_
    · rintro i y σ H2 hy ⟨v, rfl, rfl, e⟩
      obtain ⟨j, hj, rfl⟩ : ∃ k', (Bel n R k)[i]? = some k' ∧ y = V.int (k' : Int) := by
        unfold nL nI at hy
        rw [List.map_map, List.getElem?_map] at hy
        obtain ⟨j, hj, e⟩ := Option.map_eq_some_iff.mp hy
        exact ⟨j, hj, e.symm⟩
      have jn : j < n := (mem_Bel.mp (List.mem_of_getElem? hj)).1
      have kS := stV_get (S := S) (k := j) (by rw [hS]; exact jn)
      have il := (List.getElem?_eq_some_iff.mp hj).1
      have dr : (Bel n R k).drop i = j :: (Bel n R k).drop (i + 1) := by
        rw [List.drop_eq_getElem_cons il]
        have z := List.getElem?_eq_getElem il
        rw [hj] at z
        rw [← Option.some.inj z]
      rw [dr, List.find?_cons] at e
      refine ⟨_, rfl, _, rfl, a, _, _, _, rfl, rfl, SqT.of (s1 _ _ ha), atI_nat kS, _, _, rfl, rfl, _, rfl, ?_⟩
      refine ite2 (fun hp => ?_) (fun hp => ?_)
      · have e2 : litO n R S k = some j := by
          rw [e]
          have hp' : decide (at_ S j > 0) = true := hp
          rw [hp']
        have z := q H2 s1
        rw [e2] at z
        exact ⟨_, rfl, z⟩
      · have hp' : decide (at_ S j > 0) = false := Bool.eq_false_iff.mpr hp
        rw [hp'] at e
        exact ⟨_, rfl, rfl, e⟩
    · rintro σ H2 ⟨v, rfl, rfl, e⟩
      rw [nL_len, List.drop_length] at e
      have z := q H2 s1
      rw [show litO n R S k = none from e] at z
      exact z
/-- a move as the program asks of it -/
def canB (n : Nat) (R : Rel) (S : List Int) (k : Nat) (c : Bool) : Bool := decide (at_ S k > 0) && !(c && (litO n R S k).isSome)
theorem vO_non (o : Option Nat) : (!decide (vO o = V.non)) = o.isSome := by
  cases o with
  | none => rfl
  | some j => rfl
abbrev s_can_move : Stmt := top 31
theorem sc_can_move : FnScope ["house", "state", "lamp", "careful"] ["house", "state", "lamp", "careful"] (defScope s_can_move) := ⟨rfl, rfl, rfl, by decide +kernel, rfl, by decide +kernel, by decide +kernel⟩
-- slots of can_move: 0 house, 1 state, 2 lamp, 3 careful
def spCanMove (C : Addr) : Sp := fun vs H Q _ => ∃ (x a : Addr) (n h k : Nat) (R : Rel) (S : List Int) (c : Bool), vs = [.ref x, .ref a, .int k, .bl c] ∧ HouseAt C H x n h R ∧ n ≤ 16 ∧ k < n ∧ H a = some (.tup (stV S)) ∧ S.length = n ∧ ∀ H', Same H H' → Q (.bl (canB n R S k c)) H'
theorem ok_can_move (T : Txt K mg C) {f : Addr} {fd : FuncData} (F : Fun K "can_move" "can_move" s_can_move f fd) (c_first_lit_beneath : Cal P w K mg base "first_lit_beneath" 6 (spFirstLit C)) : FnOk P w K mg base CX0 7 f fd ["house", "state", "lamp", "careful"] (spCanMove C) := by
  refine F.ok sc_can_move (fun vs H Q E h => ?_) (fun cdv A outer s H vs Q E hr h => ?_)
  · obtain ⟨x, a, n, h, k, R, S, c, rfl, _⟩ := h; rfl
  · obtain ⟨x, a, n, h, k, R, S, c, rfl, hx, n16, hk, ha, hS, q⟩ := h
    refine ⟨_, (pss_one (ps_ret (pe_and (pe_cmpR op_gt (pe_ix (ixT_ K) (pv 1) (pv 2) (fun _ _ => rfl)) pe_int (nomark _)) (pe_one (pe_not (pe_and (pv 3) (pe_one (pe_cmpR op_notN (pe_cal c_first_lit_beneath (hr.mono (by decide)) (pa_cons (pv 0) (pa_cons (pv 1) (pa_cons (pv 2) pa_nil)))) pe_non (nomark _))))))))), ?_⟩
    have kS := stV_get (S := S) (k := k) (by rw [hS]; exact hk)
    have q' : ∀ (b : Bool) H', canB n R S k c = b → Same H H' → Q (.bl b) H' := fun b H' e s => e ▸ q H' s
    refine ⟨_, rfl, _, rfl, a, _, _, _, rfl, rfl, SqT.of ha, atI_nat kS, _, _, rfl, rfl, _, rfl, ?_⟩
    refine ite2 (fun hp => ?_) (fun hp => ?_)
    · have hp' : decide (at_ S k > 0) = true := hp
      refine ⟨_, rfl, c, rfl, ?_⟩
      refine ite2 (fun hc => ?_) (fun hc => ?_)
      · refine ⟨_, rfl, _, rfl, _, rfl, x, a, n, h, k, R, S, rfl, hx, n16, hk, ha, hS, fun H1 s1 => ⟨rfl, _, rfl, ?_⟩⟩
        rw [vO_non]
        exact q' _ _ (by unfold canB; rw [hp', hc]; simp) s1
      · exact ⟨_, rfl, q' _ _ (by unfold canB; rw [hp', Bool.eq_false_iff.mpr hc]; rfl) (Same.refl H)⟩
    · have hp' : decide (at_ S k > 0) = false := Bool.eq_false_iff.mpr hp
      exact q' _ _ (by unfold canB; rw [hp']; rfl) (Same.refl H)
theorem canB_low {n h : Nat} {R : Rel} {S : List Int} (ok : StOk n h S) {k : Nat} (hk : k < n) : canB n R S k true = lowB n R S k := by
  rw [Bool.eq_iff_iff, lowB_yes]
  unfold canB litO
  rw [Bool.and_eq_true, Bool.true_and, Bool.not_eq_true', decide_eq_true_iff]
  refine and_congr_right' ?_
  rw [Option.isSome_eq_false_iff, Option.isNone_iff_eq_none, List.find?_eq_none]
  refine ⟨fun a u hu r => ?_, fun a u hu => ?_⟩
  · have z := a u (mem_Bel.mpr ⟨hu, r⟩)
    have b := ok.at hu
    have z2 : ¬ at_ S u > 0 := fun y => z (decide_eq_true y)
    omega
  · have z := a u (mem_Bel.mp hu).1 (mem_Bel.mp hu).2
    rw [z]
    decide
abbrev s_allowed_lamps : Stmt := top 28
theorem sc_allowed_lamps : FnScope ["house", "state", "careful", "lamp"] ["house", "state", "careful"] (defScope s_allowed_lamps) := ⟨rfl, rfl, rfl, by decide +kernel, rfl, by decide +kernel, by decide +kernel⟩
-- slots of allowed_lamps: 0 house, 1 state, 2 careful, 3 lamp
def spAllowedX (C CS : Addr) : Sp := fun vs H Q E => ∃ (x : Addr) (n h : Nat) (R : Rel) (v : V) (d : PyData) (c : Bool), vs = [.ref x, v, .bl c] ∧ HouseAt C H x n h R ∧ n ≤ 16 ∧ Lf2 H v d ∧
  (∀ (t : Addr) (S : List Int), v = .ref t → H t = some (.tup (stV S)) → StOk n h S → ∀ (p : Addr) (H' : Hp), Same H H' → H p = none → H' p = some (.lst (nL ((List.range n).filter fun k => canB n R S k c))) → Q (.ref p) H') ∧ (stB n h d = false → Odd1 CS "state" v H E)
theorem ok_allowed_lamps (T : Txt K mg C) {f : Addr} {fd : FuncData} (F : FunV K "allowed_lamps" "allowed_lamps" s_allowed_lamps f fd) (c_check_state : CalX P w K mg base "check_state" 4 (spCheckStateX C CS)) (c_can_move : Cal P w K mg base "can_move" 7 (spCanMove C)) :
    FnOk P w K mg base (L2.CX P w) 8 f fd ["house", "state", "careful"] (spAllowedX C CS) := by
  refine F.okX sc_allowed_lamps (fun vs H Q E h => ?_) (fun cdv A outer s H vs Q E hr h => ?_)
  · obtain ⟨x, n, h, R, v, d, c, rfl, _⟩ := h; rfl
  · obtain ⟨x, n, h, R, v, d, c, rfl, hx, n16, od, q1, q2⟩ := h
    refine ⟨_, (pss_cons (ps_expr (pe_calX c_check_state (takes_of rfl rfl rfl rfl) (hr.mono (by decide)) (pa_cons (pv 0) (pa_cons (pv 1) pa_nil))))
      (pss_one (ps_ret (pe_lc (own := [("lamp", 3)]) (g := gName 3) rfl sc_allowed_lamps.nd (pi_range1 (by rfl) T.range (pa_cons (fld_ K (pv 0)) pa_nil)) (blkOk_by (by kernel_rfl)) (fun _ _ _ _ _ => (pg_name (i := 3) sc_allowed_lamps.nd rfl (by first | exact Or.inl rfl | exact Or.inr rfl))) (fun _ _ _ _ _ => (pts_one (pt_val (pe_cal c_can_move (hr.mono (by decide)) (pa_cons (pv 0) (pa_cons (pv 1) (pa_cons (pv 3) (pa_cons (pv 2) pa_nil)))))))) (fun _ _ _ _ _ => (pv 3)))))), ?_⟩
    refine ⟨_, rfl, _, rfl, x, n, h, R, v, d, rfl, hx, n16, od, fun a S H1 ev ha okS s1 => ?_, q2⟩
    subst ev
    have q := q1 a S rfl ha okS
    have hx1 := hx.same s1
    obtain ⟨dx, fs, be, o, h1, h2, h3, h4, h5, h6, h7, h8, h9⟩ := id hx1
    refine ⟨_, rfl, x, C, dx, _, _, rfl, h1, T.cl, T.nCount, h2, _, rfl, by omega, by omega, fun D hD => ?_⟩
    rw [Int.toNat_natCast]
    refine lc_range (fun i H2 => H2 D = some (.lst (nL ((List.range i).filter fun k => canB n R S k c))) ∧ Same H1 H2) ⟨upd_same, same_new hD⟩ ?_ ?_
    · rintro i H2 hi ⟨hd, s2⟩
      have e0 : (0 : Int) + (i : Int) = (i : Int) := by omega
      rw [e0]
      refine ⟨rfl, _, rfl, _, rfl, _, rfl, _, rfl, x, a, n, h, i, R, S, c, rfl, hx1.same s2, n16, hi, s2 _ _ (s1 _ _ ha), okS.1, fun H3 s3 => ⟨_, rfl, ?_⟩⟩
      have hd3 := s3 _ _ hd
      have few := filt_few' (fun k => canB n R S k c) i
      refine ite2 (fun hc => ?_) (fun hc => ?_)
      · refine ⟨_, rfl, _, hd3, by rw [nL_len, sizeLine_eq]; omega, ?_, same_upd (s2.trans s3) hD⟩
        rw [upd_same, filt_more', if_pos hc, nL_app]; rfl
      · refine ⟨?_, s2.trans s3⟩
        rw [hd3, filt_more', if_neg hc, List.append_nil]
    · rintro H2 ⟨hd, s2⟩
      exact q D H2 (s1.trans s2) (s1.free hD) hd
def lowL (n : Nat) (R : Rel) (S : List Int) : List Nat := (List.range n).filter (lowB n R S)
abbrev s_lowest_lit : Stmt := top 40
theorem sc_lowest_lit : FnScope ["house", "state"] ["house", "state"] (defScope s_lowest_lit) := ⟨rfl, rfl, rfl, by decide +kernel, rfl, by decide +kernel, by decide +kernel⟩
-- slots of lowest_lit: 0 house, 1 state
def spLowX (C CS : Addr) : Sp := fun vs H Q E => ∃ (x : Addr) (n h : Nat) (R : Rel) (v : V) (d : PyData), vs = [.ref x, v] ∧ HouseAt C H x n h R ∧ n ≤ 16 ∧ Lf2 H v d ∧
  (∀ (t : Addr) (S : List Int), v = .ref t → H t = some (.tup (stV S)) → StOk n h S → ∀ (p : Addr) (H' : Hp), Same H H' → H p = none → H' p = some (.lst (nL (lowL n R S))) → Q (.ref p) H') ∧ (stB n h d = false → Odd1 CS "state" v H E)
theorem ok_lowest_lit (T : Txt K mg C) {f : Addr} {fd : FuncData} (F : Fun K "lowest_lit" "lowest_lit" s_lowest_lit f fd) (x_allowed_lamps : KwCalX P w K mg base "allowed_lamps" 8 2 "careful" (spAllowedX C CS)) :
    FnOk P w K mg base (L2.CX P w) 9 f fd ["house", "state"] (spLowX C CS) := by
  refine F.okX sc_lowest_lit (fun vs H Q E h => ?_) (fun cdv A outer s H vs Q E hr h => ?_)
  · obtain ⟨x, n, h, R, v, d, rfl, _⟩ := h; rfl
  · obtain ⟨x, n, h, R, v, d, rfl, hx, n16, od, q1, q2⟩ := h
    refine ⟨_, (pss_one (ps_ret (pe_kw1X x_allowed_lamps (takes_of rfl rfl rfl rfl) (hr.mono (by decide)) (pa_cons (pv 0) (pa_cons (pv 1) pa_nil)) (pk_cons pe_bl pk_nil)))), ?_⟩
    refine ⟨_, rfl, _, rfl, rfl, rfl, x, n, h, R, v, d, true, rfl, hx, n16, od, fun t S ev ht ok p H' s np hp => ?_, q2⟩
    refine q1 t S ev ht ok p H' s np ?_
    rw [hp]
    unfold lowL
    rw [List.filter_congr fun k hk => canB_low ok (List.mem_range.mp hk)]
end
end Hue

end
section
set_option maxRecDepth 100000
set_option maxHeartbeats 4000000
namespace Hue
open PySem PySem.Spec PyProof.Rows L2
section
variable {P : Program} {w : World} {K : PySem.W.Frag} {mg : Str → Option Value} {base : Heap} {C CL CS : Addr}
/-! ### pieces -/
def pcV (R : Rel) (S : List Int) (l j : Nat) : Int := if (decide (j = l) || R j l) = true then at_ S j else 0
def pcS (n : Nat) (R : Rel) (S : List Int) (l : Nat) : List Int := (List.range n).map (pcV R S l)
theorem pcS_at {n : Nat} {R : Rel} {S : List Int} {l j : Nat} (hj : j < n) : at_ (pcS n R S l) j = pcV R S l j := by
  unfold at_ pcS
  rw [List.getD_eq_getElem?_getD, List.getElem?_map, List.getElem?_range hj]
  rfl
theorem pcS_ok {n h : Nat} {R : Rel} {S : List Int} (ok : StOk n h S) (h2 : 2 ≤ h) (l : Nat) : StOk n h (pcS n R S l) := by
  refine ⟨by unfold pcS; rw [List.length_map, List.length_range], fun z hz => ?_⟩
  obtain ⟨j, hj, rfl⟩ := List.mem_map.mp hz
  have b := ok.at (List.mem_range.mp hj)
  unfold pcV
  split
  · exact b
  · constructor <;> omega
def spPiecesX (C CS : Addr) : Sp := fun vs H Q E => ∃ (x : Addr) (n h : Nat) (ps : List (Nat × Nat)) (v : V) (d : PyData), vs = [.ref x, v] ∧ Hs2 C H x n h ps ∧ Lf2 H v d ∧
  (∀ (t : Addr) (S : List Int), v = .ref t → H t = some (.tup (stV S)) → StOk n h S → ∀ (p : Addr) (H' : Hp) (xs : List V), Same H H' → H p = none → H' p = some (.lst xs) → StL H' n h xs ((lowL n (relOf ps) S).map (pcS n (relOf ps) S)) → Q (.ref p) H') ∧ (stB n h d = false → Odd1 CS "state" v H E)
abbrev s_pieces : Stmt := top 44
theorem sc_pieces : FnScope ["house", "state", "found", "lamp", "kept", "other"] ["house", "state"] (defScope s_pieces) := ⟨rfl, rfl, rfl, by decide +kernel, rfl, by decide +kernel, by decide +kernel⟩
-- slots of pieces: 0 house, 1 state, 2 found, 3 lamp, 4 kept, 5 other
theorem ok_pieces (T : Txt K mg C) {f : Addr} {fd : FuncData} (F : Fun K "pieces" "pieces" s_pieces f fd) (x_lowest_lit : CalX P w K mg base "lowest_lit" 9 (spLowX C CS)) (M_above : MCal P w K mg base C "above" 5 (spAbove C)) :
    FnOk P w K mg base (L2.CX P w) 10 f fd ["house", "state"] (spPiecesX C CS) := by
  refine F.okX sc_pieces (fun vs H Q E h => ?_) (fun cdv A outer s H vs Q E hr h => ?_)
  · obtain ⟨x, n, h, ps, v, d, rfl, _⟩ := h; rfl
  · obtain ⟨x, n, h, ps, v, d, rfl, W, od, q1, q2⟩ := h
    obtain ⟨f_above, fd_above, ps_above, F_above, m_above, b_above⟩ := M_above.ex
    obtain ⟨dx, fs, h1, hc, hh, hm⟩ := W.hs.ins
    have n16 := W.n16
    refine ⟨_, (pss_cons (ps_set (i := 2) sc_pieces.nd rfl (by first | exact Or.inl rfl | exact Or.inr rfl) (pe_lst pa_nil))
      (pss_cons (ps_for (passes_of rfl) rfl (pil_ K (pe_calX x_lowest_lit (takes_of rfl rfl rfl rfl) (hr.mono (by decide)) (pa_cons (pv 0) (pa_cons (pv 1) pa_nil)))) (pg_name (i := 3) sc_pieces.nd rfl (by first | exact Or.inl rfl | exact Or.inr rfl))
      (pss_cons (ps_set (i := 4) sc_pieces.nd rfl (by first | exact Or.inl rfl | exact Or.inr rfl) (pe_lst (pa_cons (pv 3) (star_ K (pe_meth (pv 0) T.cl m_above F_above (hr.mono (by decide)) b_above .nil pass0 (pa_cons (pv 3) pa_nil)) pa_nil))))
      (pss_one (ps_expr (pe_bm PySem.F.plainAttrs_list PySem.F.slot_list_append PySem.F.type_list_append mt_append (pv 2) (pa_cons (pe_callTy (tupOf_ K) (by rfl) T.tuple b_tuple (pa_cons (pe_lc (own := [("other", 5)]) (g := gName 5) (tt := tYes) rfl sc_pieces.nd (pi_range1 (by rfl) T.range (pa_cons (fld_ K (pv 0)) pa_nil)) (blkOk_by (by kernel_rfl)) (fun _ _ _ _ _ => (pg_name (i := 5) sc_pieces.nd rfl (by first | exact Or.inl rfl | exact Or.inr rfl))) (fun _ _ _ _ _ => pts_nil) (fun _ _ _ _ _ => (pe_ifExp (pt_cmpR (inS_ K) (pv 5) (pv 4) (by rfl)) (pe_ix (ixT_ K) (pv 1) (pv 5) (fun _ _ => rfl)) pe_int))) pa_nil)) pa_nil))))))
      (pss_one (ps_ret (pv 2))))), ?_⟩
    refine ⟨by show 0 ≤ sizeLine; decide, fun fr nf => ?_⟩
    have s1 : Same H (L2.upd H fr (.lst [])) := same_new nf
    have hf1 : (L2.upd H fr (.lst [])) fr = some (.lst []) := upd_same
    generalize L2.upd H fr (.lst []) = H1 at s1 hf1 ⊢
    refine ⟨_, rfl, _, rfl, x, n, h, _, v, d, rfl, W.hs.at_.same s1, n16, od.same s1, fun t S ev ht ok l H2 s2 nl' hl => ⟨l, rfl, ⟨_, SqL.of hl⟩, ?_⟩, fun z => (q2 z).after s1⟩
    subst ev
    have ht0 := od.back s1 ht
    have q := q1 t S rfl ht0 ok
    have s02 := s1.trans s2
    have hf2 := s2 _ _ hf1
    refine for_list (K := K) (a := l) (xs := nL (lowL n (relOf ps) S)) (fun i σ G => ∃ (v3 v4 v5 : Option V) (acc : List V), σ = [some (.ref x), some (.ref t), some (.ref fr), v3, v4, v5] ∧ Same H G ∧ G l = some (.lst (nL (lowL n (relOf ps) S))) ∧ G fr = some (.lst acc) ∧ StL G n h acc (((lowL n (relOf ps) S).take i).map (pcS n (relOf ps) S))) ⟨_, _, _, [], rfl, s02, hl, hf2, rfl, fun i x S e => by simp at e⟩ (fun i σ G _ ⟨_, _, _, _, _, _, e, _⟩ => SqL.of e) ?_ ?_
    · rintro i y σ G hy ⟨v3, v4, v5, acc, rfl, sG, hlG, hfG, sl⟩
      obtain ⟨k, hk, rfl⟩ := nL_it2 hy
      have kn : k < n := List.mem_range.mp (List.mem_filter.mp (List.mem_of_getElem? hk)).1
      have bl := Bel_len n (flip (relOf ps)) k
      refine ⟨_, rfl, _, rfl, x, dx, fs, rfl, sG _ _ h1, hm _ (by decide +kernel), _, rfl, x, n, h, k, ps, rfl, W.hs.same sG, kn, fun G1 u t1 nu hu => ⟨u, _, rfl, .inr (SqL.of hu), ?_, fun g hg => ?_⟩⟩
      · rw [List.length_cons, List.length_append, nL_len, List.length_nil, sizeLine_eq]; omega
      have eg : (V.int (k : Int) :: (nL (Bel n (flip (relOf ps)) k) ++ [])) = nL (k :: Bel n (flip (relOf ps)) k) := by rw [List.append_nil]; rfl
      rw [eg]
      have t2 : Same G1 (L2.upd G1 g (.lst (nL (k :: Bel n (flip (relOf ps)) k)))) := same_new hg
      have hg2 : (L2.upd G1 g (.lst (nL (k :: Bel n (flip (relOf ps)) k)))) g = some (.lst (nL (k :: Bel n (flip (relOf ps)) k))) := upd_same
      generalize L2.upd G1 g (.lst (nL (k :: Bel n (flip (relOf ps)) k))) = G2 at t2 hg2 ⊢
      have sG2 := t1.trans t2
      have s2G := sG.trans sG2
      refine ⟨_, rfl, .inl ⟨rfl, _, SqL.of (sG2 _ _ hfG)⟩, _, rfl, x, C, dx, _, _, rfl, s2G _ _ h1, T.cl, T.nCount, hc, _, rfl, by omega, by omega, fun D hD => ?_⟩
      rw [Int.toNat_natCast]
      refine lc_range (fun j G3 => G3 D = some (.lst (stV ((List.range j).map (pcV (relOf ps) S k)))) ∧ Same G2 G3) ⟨upd_same, same_new hD⟩ ?_ ?_
      · rintro j G3 hj ⟨h3, t3⟩
        have e0 : (0 : Int) + (j : Int) = (j : Int) := by omega
        rw [e0]
        have kJ := stV_get (S := S) (k := j) (by rw [ok.1]; exact hj)
        refine ⟨rfl, yesT ⟨_, rfl, _, rfl, g, _, rfl, .inl (SqL.of (t3 _ _ hg2)), rfl, flat_nL _, _, rfl, ?_⟩⟩
        have mem : inV (V.int (j : Int)) (nL (k :: Bel n (flip (relOf ps)) k)) = (decide (j = k) || relOf ps j k) := by
          rw [in_nL, Bool.eq_iff_iff, decide_eq_true_iff, Bool.or_eq_true, decide_eq_true_iff, List.mem_cons, mem_Bel]
          exact ⟨fun z => z.imp id fun z => z.2, fun z => z.imp id fun z => ⟨hj, z⟩⟩
        have last : ∀ z : Int, z = pcV (relOf ps) S k j → ∃ acc, G3 D = some (.lst acc) ∧ acc.length < sizeLine ∧ L2.upd G3 D (.lst (acc ++ [V.int z])) D = some (.lst (stV (List.map (pcV (relOf ps) S k) (List.range (j + 1))))) ∧ Same G2 (L2.upd G3 D (.lst (acc ++ [V.int z]))) := fun z ez => by
          refine ⟨_, h3, by unfold stV; rw [List.length_map, List.length_map, List.length_range, sizeLine_eq]; omega, ?_, same_upd t3 hD⟩
          rw [upd_same, List.range_succ, List.map_append, ez]
          unfold stV
          rw [List.map_append]
          rfl
        refine ite2 (fun hy => ?_) fun hn => ?_
        · have hy' : (decide (j = k) || relOf ps j k) = true := by rw [← mem]; exact hy
          exact ⟨_, rfl, _, rfl, t, _, _, _, rfl, rfl, SqT.of (t3 _ _ (s2G _ _ ht0)), atI_nat kJ, last _ (by unfold pcV; rw [if_pos hy'])⟩
        · have hn' : ¬ (decide (j = k) || relOf ps j k) = true := by rw [← mem]; exact hn
          exact last 0 (by unfold pcV; rw [if_neg hn'])
      · rintro G3 ⟨h3, t3⟩
        have eT : (List.range n).map (pcV (relOf ps) S k) = pcS n (relOf ps) S k := rfl
        rw [eT] at h3
        refine ⟨D, _, rfl, .inl ⟨SqL.of h3, fun p np => ?_⟩⟩
        have sA := s2G.trans t3
        have t4 : Same G3 (L2.upd G3 p (.tup (stV (pcS n (relOf ps) S k)))) := same_new np
        have hp4 : (L2.upd G3 p (.tup (stV (pcS n (relOf ps) S k)))) p = some (.tup (stV (pcS n (relOf ps) S k))) := upd_same
        generalize L2.upd G3 p (.tup (stV (pcS n (relOf ps) S k))) = G4 at t4 hp4 ⊢
        have tG4 := (sG2.trans t3).trans t4
        have fl : acc.length ≤ n := by
          have a := sl.1
          rw [List.length_map, List.length_take] at a
          have b : (lowL n (relOf ps) S).length ≤ n := filt_few' (lowB n (relOf ps) S) n
          omega
        have lfr : l ≠ fr := fun z => by rw [z, hf1] at nl'; cases nl'
        refine ⟨fr, _, _, rfl, rfl, tG4 _ _ hfG, by rw [sizeLine_eq]; omega, _, _, _, acc ++ [.ref p], rfl, same_upd (sG.trans tG4) nf, ?_, upd_same, ?_⟩
        · rw [upd_ne lfr]; exact tG4 _ _ hlG
        · rw [List.take_add_one, hk, List.map_append]
          exact ((sl.same tG4).more (pcS_ok ok W.h2 k) hp4).laid (tG4 _ _ hfG)
    · rintro σ G ⟨v3, v4, v5, acc, rfl, sG, hlG, hfG, sl⟩
      rw [nL_len, List.take_length] at sl
      exact ⟨_, rfl, q fr G acc sG nf hfG sl⟩
/-- of a state -/
def spPiecesS (C : Addr) : Sp := fun vs H Q _ => ∃ (x t : Addr) (n h : Nat) (ps : List (Nat × Nat)) (S : List Int), vs = [.ref x, .ref t] ∧ Hs2 C H x n h ps ∧ H t = some (.tup (stV S)) ∧ StOk n h S ∧ ∀ (p : Addr) (H' : Hp) (xs : List V), Same H H' → H p = none → H' p = some (.lst xs) → StL H' n h xs ((lowL n (relOf ps) S).map (pcS n (relOf ps) S)) → Q (.ref p) H'
theorem pieces_st (vs : List V) (H : Hp) (Q : VK) (E : XK) (g : spPiecesS C vs H Q E) : spPiecesX C CS vs H Q fun _ _ _ => False := by
  obtain ⟨x, t, n, h, ps, S, e, W, ht, ok, q⟩ := g
  refine ⟨x, n, h, ps, _, stD S, e, W, st_lf2 ht (by rw [ok.1]; have := W.n16; omega) (ok.small W.h10), fun t' S' e' ht' _ => ?_, fun z => by rw [st_stB ok] at z; cases z⟩
  injection e' with e'
  subst e'
  rw [ht] at ht'
  injection ht' with ht'
  injection ht' with ht'
  rw [← stV_inj ht']
  exact q
abbrev s_is_single : Stmt := top 45
theorem sc_is_single : FnScope ["house", "state"] ["house", "state"] (defScope s_is_single) := ⟨rfl, rfl, rfl, by decide +kernel, rfl, by decide +kernel, by decide +kernel⟩
-- slots of is_single: 0 house, 1 state
def spSingleX (C CS : Addr) : Sp := fun vs H Q E => ∃ (x : Addr) (n h : Nat) (ps : List (Nat × Nat)) (v : V) (d : PyData), vs = [.ref x, v] ∧ Hs2 C H x n h ps ∧ Lf2 H v d ∧
  (∀ (t : Addr) (S : List Int), v = .ref t → H t = some (.tup (stV S)) → StOk n h S → ∀ (H' : Hp), Same H H' → Q (.bl (decide ((lowL n (relOf ps) S).length = 1))) H') ∧ (stB n h d = false → Odd1 CS "state" v H E)
theorem ok_is_single (T : Txt K mg C) {f : Addr} {fd : FuncData} (F : Fun K "is_single" "is_single" s_is_single f fd) (x_lowest_lit : CalX P w K mg base "lowest_lit" 9 (spLowX C CS)) :
    FnOk P w K mg base (L2.CX P w) 10 f fd ["house", "state"] (spSingleX C CS) := by
  refine F.okX sc_is_single (fun vs H Q E h => ?_) (fun cdv A outer s H vs Q E hr h => ?_)
  · obtain ⟨x, n, h, ps, v, d, rfl, _⟩ := h; rfl
  · obtain ⟨x, n, h, ps, v, d, rfl, W, od, q1, q2⟩ := h
    refine ⟨_, (pss_one (ps_ret (pe_cmpR op_eq (pe_callB (lenS_ K) (by rfl) T.len b_len (pa_cons (pe_calX x_lowest_lit (takes_of rfl rfl rfl rfl) (hr.mono (by decide)) (pa_cons (pv 0) (pa_cons (pv 1) pa_nil))) pa_nil)) pe_int (nomark _)))), ?_⟩
    refine ⟨_, rfl, _, rfl, x, n, h, _, v, d, rfl, W.hs.at_, W.n16, od, fun t S ev ht ok l H2 s2 nl hl => ⟨l, _, rfl, .inl (SqL.of hl), rfl, ?_⟩, q2⟩
    rw [nL_len]
    have e : decide (V.int ((lowL n (relOf ps) S).length : Int) = V.int 1) = decide ((lowL n (relOf ps) S).length = 1) := decide_eq_decide.mpr ⟨fun z => by injection z with z; omega, fun z => by rw [z]; rfl⟩
    rw [e]
    exact q1 t S ev ht ok H2 s2
/-- of a state -/
def spSingleS (C : Addr) : Sp := fun vs H Q _ => ∃ (x t : Addr) (n h : Nat) (ps : List (Nat × Nat)) (S : List Int), vs = [.ref x, .ref t] ∧ Hs2 C H x n h ps ∧ H t = some (.tup (stV S)) ∧ StOk n h S ∧ ∀ (H' : Hp), Same H H' → Q (.bl (decide ((lowL n (relOf ps) S).length = 1))) H'
theorem single_st (vs : List V) (H : Hp) (Q : VK) (E : XK) (g : spSingleS C vs H Q E) : spSingleX C CS vs H Q fun _ _ _ => False := by
  obtain ⟨x, t, n, h, ps, S, e, W, ht, ok, q⟩ := g
  refine ⟨x, n, h, ps, _, stD S, e, W, st_lf2 ht (by rw [ok.1]; have := W.n16; omega) (ok.small W.h10), fun t' S' e' ht' _ => ?_, fun z => by rw [st_stB ok] at z; cases z⟩
  injection e' with e'
  subst e'
  rw [ht] at ht'
  injection ht' with ht'
  injection ht' with ht'
  rw [← stV_inj ht']
  exact q
end
end Hue

end
section
set_option maxRecDepth 100000
set_option maxHeartbeats 4000000
namespace Hue
open PySem PySem.Spec PyProof.Rows L2
section
variable {P : Program} {w : World} {K : PySem.W.Frag} {mg : Str → Option Value} {base : Heap} {C CL CS : Addr}
/-! ### two values that should be states -/
def St2 (CS : Addr) (n h : Nat) (v u : V) (d e : PyData) (H : Hp) (E : XK) (sg : Addr → Addr → List Int → List Int → Prop) : Prop :=
  (∀ (t r : Addr) (S D : List Int), v = .ref t → u = .ref r → H t = some (.tup (stV S)) → H r = some (.tup (stV D)) → StOk n h S → StOk n h D → sg t r S D) ∧
  (stB n h d = false → Odd1 CS "state" v H E) ∧ (stB n h d = true → stB n h e = false → Odd1 CS "state" u H E)
theorem st2_calm {n h : Nat} {t r : Addr} {S D : List Int} {H : Hp} {E : XK} {sg : Addr → Addr → List Int → List Int → Prop} (ht : H t = some (.tup (stV S))) (hr : H r = some (.tup (stV D))) (okS : StOk n h S) (okD : StOk n h D) (g : sg t r S D) : St2 CS n h (.ref t) (.ref r) (stD S) (stD D) H E sg :=
  ⟨fun t' r' S' D' e1 e2 ht' hr' _ _ => by
    injection e1 with e1
    injection e2 with e2
    subst e1
    subst e2
    rw [ht] at ht'
    injection ht' with ht'
    injection ht' with ht'
    rw [hr] at hr'
    injection hr' with hr'
    injection hr' with hr'
    rw [← stV_inj ht', ← stV_inj hr']
    exact g, fun z => (by rw [st_stB okS] at z; cases z), fun _ z => (by rw [st_stB okD] at z; cases z)⟩
theorem _root_.Hue.Two2.l1 {H : Hp} {x t r : Addr} {n h : Nat} {ps : List (Nat × Nat)} {S D : List Int} (a : Two2 C H x t r n h ps S D) : Lf2 H (.ref t) (stD S) := st_lf2 a.ht (by rw [a.okS.1]; have := a.n16; omega) (a.okS.small a.h10)
theorem _root_.Hue.Two2.l2 {H : Hp} {x t r : Addr} {n h : Nat} {ps : List (Nat × Nat)} {S D : List Int} (a : Two2 C H x t r n h ps S D) : Lf2 H (.ref r) (stD D) := st_lf2 a.hr (by rw [a.okD.1]; have := a.n16; omega) (a.okD.small a.h10)
end
end Hue

end
section
set_option maxRecDepth 100000
set_option maxHeartbeats 4000000
namespace Hue
open PySem PySem.Spec PyProof.Rows L2
section
variable {P : Program} {w : World} {K : PySem.W.Frag} {mg : Str → Option Value} {base : Heap} {C CL CS : Addr}
/-! ### the calm readings of the checks -/
def spCheckState (C : Addr) : Sp := fun vs H Q _ => ∃ (x a : Addr) (n h : Nat) (R : Rel) (S : List Int), vs = [.ref x, .ref a] ∧ HouseAt C H x n h R ∧ n ≤ 16 ∧ h ≤ 10 ∧ H a = some (.tup (stV S)) ∧ StOk n h S ∧ ∀ H', Same H H' → Q .non H'
theorem check_st (vs : List V) (H : Hp) (Q : VK) (E : XK) (g : spCheckState C vs H Q E) : spCheckStateX C CS vs H Q fun _ _ _ => False := by
  obtain ⟨x, a, n, h, R, S, e, hx, n16, h10, ha, ok, q⟩ := g
  exact ⟨x, n, h, R, _, stD S, e, hx, n16, st_lf2 ha (by rw [ok.1]; omega) (ok.small h10), fun t S' H' _ _ _ s => q H' s, fun z => by rw [st_stB ok] at z; cases z⟩
def spCheckLamp (C : Addr) : Sp := fun vs H Q _ => ∃ (x : Addr) (n h : Nat) (R : Rel) (i : Int), vs = [.ref x, .int i] ∧ HouseAt C H x n h R ∧ 0 ≤ i ∧ i < (n : Int) ∧ Q .non H
def turnL (n h : Nat) (S : List Int) (ls : List Nat) (d : Int) : List Int := (List.range n).map fun j => if j ∈ ls then (at_ S j + d) % (h : Int) else at_ S j
abbrev s_turned : Stmt := top 34
theorem sc_turned : FnScope ["house", "state", "lamps", "by", "hues", "lamp"] ["house", "state", "lamps", "by"] (defScope s_turned) := ⟨rfl, rfl, rfl, by decide +kernel, rfl, by decide +kernel, by decide +kernel⟩
-- slots of turned: 0 house, 1 state, 2 lamps, 3 by, 4 hues, 5 lamp
def spTurned (C : Addr) : Sp := fun vs H Q _ => ∃ (x a l : Addr) (n h : Nat) (R : Rel) (S : List Int) (ls : List Nat) (d : Int), vs = [.ref x, .ref a, .ref l, .int d] ∧ HouseAt C H x n h R ∧ n ≤ 16 ∧ 2 ≤ h ∧ H a = some (.tup (stV S)) ∧ S.length = n ∧ H l = some (.lst (nL ls)) ∧ ls.Nodup ∧ (∀ j ∈ ls, j < n) ∧
  ∀ (t : Addr) (H' : Hp), Same H H' → H' t = some (.tup (stV (turnL n h S ls d))) → Q (.ref t) H'
theorem ok_turned (T : Txt K mg C) {f : Addr} {fd : FuncData} (F : Fun K "turned" "turned" s_turned f fd) : FnOk P w K mg base CX0 1 f fd ["house", "state", "lamps", "by"] (spTurned C) := by
  refine F.ok sc_turned (fun vs H Q E h => ?_) (fun cdv A outer s H vs Q E hr h => ?_)
  · obtain ⟨x, a, l, n, h, R, S, ls, d, rfl, _⟩ := h; rfl
  · obtain ⟨x, a, l, n, h, R, S, ls, d, rfl, hx, n16, hh, ha, hS, hl, nd, lt, q⟩ := h
    obtain ⟨dx, fs, be, o, h1, h2, h3, h4, h5, h6, h7, h8, h9⟩ := id hx
    refine ⟨_, (pss_cons (ps_set (i := 4) sc_turned.nd rfl (by first | exact Or.inl rfl | exact Or.inr rfl) (pe_callTy (lstOf_ K) (by rfl) T.list b_list (pa_cons (pv 1) pa_nil)))
      (pss_cons (ps_for PassesOwn.never rfl (pil_ K (pv 2)) (pg_name (i := 5) sc_turned.nd rfl (by first | exact Or.inl rfl | exact Or.inr rfl))
      (pss_one (ps_asg (pe_op op_mod (pe_op op_add (pe_ix (ixL_ K) (pv 4) (pv 5) (fun _ _ => rfl)) (pv 3)) (fld_ K (pv 0))) (pg_sub (pv 4) (pv 5) set_list))))
      (pss_one (ps_ret (pe_callTy (tupOf_ K) (by rfl) T.tuple b_tuple (pa_cons (pv 4) pa_nil)))))), ?_⟩
    refine ⟨_, rfl, a, _, rfl, .inr (SqT.of ha), fun fr nf => ?_⟩
    have s1 : Same H (upd H fr (.lst (stV S))) := same_new nf
    have hf1 : (upd H fr (.lst (stV S))) fr = some (.lst (stV S)) := upd_same
    generalize upd H fr (.lst (stV S)) = H3 at s1 hf1 ⊢
    refine ⟨_, rfl, l, rfl, ⟨_, SqL.of (s1 _ _ hl)⟩, ?_⟩
    refine for_list (K := K) (a := l) (xs := nL ls) (fun i σ H5 => ∃ (v : Option V) (L : List Int), σ = [some (.ref x), some (.ref a), some (.ref l), some (.int d), some (.ref fr), v] ∧ Same H H5 ∧ H5 fr = some (.lst (stV L)) ∧ L.length = n ∧
        ∀ j, j < n → at_ L j = if j ∈ ls.take i then (at_ S j + d) % (h : Int) else at_ S j)
      ⟨_, S, rfl, s1, hf1, hS, fun j hj => by simp⟩ (fun i σ H5 _ ⟨_, _, _, s, _⟩ => SqL.of (s _ _ hl)) ?_ ?_
    · rintro i y σ H5 hy ⟨v, L, rfl, s5, h5', lL, val⟩
      obtain ⟨j, hj, rfl⟩ : ∃ k', ls[i]? = some k' ∧ y = V.int (k' : Int) := by
        unfold nL nI at hy
        rw [List.map_map, List.getElem?_map] at hy
        obtain ⟨j, hj, e⟩ := Option.map_eq_some_iff.mp hy
        exact ⟨j, hj, e.symm⟩
      have jn := lt j (List.mem_of_getElem? hj)
      have jL := stV_get (S := L) (k := j) (by rw [lL]; exact jn)
      refine ⟨_, rfl, _, rfl, fr, _, _, _, rfl, rfl, SqL.of h5', atI_nat jL, _, rfl, _, _, rfl, rfl, _, rfl, x, C, dx, _, _, rfl, s5 _ _ h1, T.cl, T.nHues, h3, _, _, rfl, rfl, (by show (0 : Int) < (h : Int); omega), _, rfl, _, rfl, set_at h5' (ixN_nat (by rw [List.length_map, lL]; exact jn)) fun H6 s6 h6 => ?_⟩
      have h6 : H6 fr = some (.lst ((stV L).set j (V.int ((at_ L j + d) % (h : Int))))) := h6
      rw [stV_set] at h6
      have njt : j ∉ ls.take i := fun z => by
        obtain ⟨m, hm, em⟩ := List.getElem_of_mem z
        rw [List.length_take] at hm
        rw [List.getElem_take] at em
        have := nodup_at' nd (show ls[m]? = some j by rw [List.getElem?_eq_getElem (by omega), em]) hj
        omega
      have vj := val j jn
      rw [if_neg njt] at vj
      refine ⟨_, _, rfl, s6.to_same s5 nf, h6, by rw [List.length_set]; exact lL, fun m hm => ?_⟩
      rw [at_set (by omega), vj]
      have tk : ls.take (i + 1) = ls.take i ++ [j] := by rw [List.take_add_one, hj]; rfl
      by_cases e : j = m
      · rw [if_pos e, if_pos (by rw [tk, ← e]; exact List.mem_append_right _ List.mem_cons_self), e]
      · rw [if_neg e, val m hm, tk]
        have e2 : (m ∈ ls.take i ++ [j]) ↔ m ∈ ls.take i := by
          rw [List.mem_append]
          exact ⟨fun z => z.elim id fun z => absurd (List.mem_singleton.mp z).symm e, .inl⟩
        simp only [e2]
    · rintro σ H5 ⟨v, L, rfl, s5, h5', lL, val⟩
      rw [nL_len, List.take_length] at val
      have eL : L = turnL n h S ls d := st_ext lL val
      rw [eL] at h5'
      exact ⟨_, rfl, fr, _, rfl, .inl ⟨SqL.of h5', fun t2 nt2 => q t2 _ (s5.trans (same_new nt2)) upd_same⟩⟩
theorem turn_step {n h : Nat} {R : Rel} {S : List Int} {k : Nat} (irr : Irr R) (hk : k < n) (ok : StOk n h S) (pos : at_ S k > 0) : turnL n h S (k :: Bel n R k) (-1) = stepL n h R S k false := by
  unfold stepL
  refine st_ext (by unfold turnL; rw [List.length_map, List.length_range]) fun j hj => ?_
  unfold turnL
  rw [at_map hj]
  have b := ok.at hk
  by_cases e : j = k
  · rw [if_pos e, if_pos (by rw [e]; exact List.mem_cons_self), e]
    show (at_ S k + -1) % (h : Int) = at_ S k + -1
    exact emod_small (by omega) (by omega)
  · rw [if_neg e]
    by_cases r : R k j = true
    · rw [if_pos r, if_pos (List.mem_cons_of_mem _ (mem_Bel.mpr ⟨hj, r⟩))]
      rfl
    · rw [if_neg r, if_neg (fun z => r (mem_Bel.mp ((List.mem_cons.mp z).resolve_left e)).2)]
abbrev s_moved : Stmt := top 32
theorem sc_moved : FnScope ["house", "state", "lamp", "step", "careful", "lower"] ["house", "state", "lamp", "step", "careful"] (defScope s_moved) := ⟨rfl, rfl, rfl, by decide +kernel, rfl, by decide +kernel, by decide +kernel⟩
-- slots of moved: 0 house, 1 state, 2 lamp, 3 step, 4 careful, 5 lower
/-- the state behind a move that is allowed -/
def spMovedP (C : Addr) : Sp := fun vs H Q _ => ∃ (x a : Addr) (n h k : Nat) (R : Rel) (S : List Int) (c : Bool) (st : Int), vs = [.ref x, .ref a, .int k, .int st, .bl c] ∧ HouseAt C H x n h R ∧ n ≤ 16 ∧ 2 ≤ h ∧ k < n ∧ Irr R ∧ H a = some (.tup (stV S)) ∧ StOk n h S ∧ canB n R S k c = true ∧
  ∀ (t : Addr) (H' : Hp), Same H H' → H' t = some (.tup (stV (stepL n h R S k false))) → Q (.ref t) H'
theorem canB_iff {n : Nat} {R : Rel} {S : List Int} {k : Nat} {c : Bool} : canB n R S k c = true ↔ at_ S k > 0 ∧ (c = true → litO n R S k = none) := by
  unfold canB
  rw [Bool.and_eq_true, decide_eq_true_eq, Bool.not_eq_true', Bool.and_eq_false_iff]
  constructor
  · rintro ⟨a, b⟩
    refine ⟨a, fun hc => ?_⟩
    rcases b with b | b
    · rw [hc] at b; cases b
    · cases e : litO n R S k with
      | none => rfl
      | some j => rw [e] at b; cases b
  · rintro ⟨a, b⟩
    refine ⟨a, ?_⟩
    cases c with
    | false => exact .inl rfl
    | true => exact .inr (by rw [b rfl]; rfl)
theorem ok_moved (T : Txt K mg C) {f : Addr} {fd : FuncData} (F : Fun K "moved" "moved" s_moved f fd) (c_first_lit_beneath : Cal P w K mg base "first_lit_beneath" 6 (spFirstLit C)) (c_turned : Cal P w K mg base "turned" 1 (spTurned C)) (M_beneath : MCal P w K mg base C "beneath" 5 (spBeneath C)) :
    FnOk P w K mg base CX0 7 f fd ["house", "state", "lamp", "step", "careful"] (spMovedP C) := by
  refine F.ok sc_moved (fun vs H Q E h => ?_) (fun cdv A outer s H vs Q E hr h => ?_)
  · obtain ⟨x, a, n, h, k, R, S, c, st, rfl, _⟩ := h; rfl
  · obtain ⟨x, a, n, h, k, R, S, c, st, rfl, hx, n16, hh, hk, irr, ha, okS, can, q⟩ := h
    obtain ⟨f_beneath, fd_beneath, ps_beneath, F_beneath, m_beneath, b_beneath⟩ := M_beneath.ex
    obtain ⟨dx, fs, be, o, h1, h2, h3, h4, h5, h6, h7, h8, h9⟩ := id hx
    obtain ⟨pos, calm⟩ := canB_iff.mp can
    refine ⟨_, (pss_cons (ps_if (pt_cmpR op_eq (pe_ix (ixT_ K) (pv 1) (pv 2) (fun _ _ => rfl)) pe_int (nomark _))
      pss_never pss_nil)
      (C8.pss_cut (ps_if (truth_ K (pv 4))
      (pss_cons (ps_set (i := 5) sc_moved.nd rfl (by first | exact Or.inl rfl | exact Or.inr rfl) (pe_cal c_first_lit_beneath (hr.mono (by decide)) (pa_cons (pv 0) (pa_cons (pv 1) (pa_cons (pv 2) pa_nil)))))
      (pss_one (ps_if (pt_cmpR op_notN (pv 5) pe_non (nomark _))
      pss_never pss_nil))) pss_nil)
      (pss_one (ps_ret (pe_cal c_turned (hr.mono (by decide)) (pa_cons (pv 0) (pa_cons (pv 1) (pa_cons (pe_lst (pa_cons (pv 2) (star_ K (pe_meth (pv 0) T.cl m_beneath F_beneath (hr.mono (by decide)) b_beneath .nil pass0 (pa_cons (pv 2) pa_nil)) pa_nil))) (pa_cons (pe_un un_neg pe_int) pa_nil))))))))), ?_⟩
    have kS := stV_get (S := S) (k := k) (by rw [okS.1]; exact hk)
    have nz : decide (V.int (at_ S k) = V.int 0) = false := decide_eq_false fun z => by
      injection z with z
      omega
    refine ⟨_, rfl, _, rfl, a, _, _, _, rfl, rfl, SqT.of ha, atI_nat kS, rfl, _, rfl, ifF nz ?_⟩
    refine ⟨fun σ H2 => ∃ v : Option V, σ = [some (.ref x), some (.ref a), some (.int k), some (.int st), some (.bl c), v] ∧ Same H H2, ⟨_, rfl, c, rfl, ?_⟩, ?_⟩
    · refine ite2 (fun hc => ?_) (fun _ => ⟨_, rfl, Same.refl H⟩)
      refine ⟨_, rfl, _, rfl, _, rfl, x, a, n, h, k, R, S, rfl, hx, n16, hk, ha, okS.1, fun H1 s1 => ?_⟩
      rw [calm hc]
      exact ⟨_, rfl, rfl, _, rfl, ifF rfl ⟨_, rfl, s1⟩⟩
    rintro σ H2 ⟨v, rfl, s2⟩
    refine ⟨_, rfl, _, rfl, _, rfl, _, rfl, x, dx, fs, rfl, s2 _ _ h1, h9, _, rfl, x, n, h, k, R, rfl, hx.same s2, hk, fun H3 l s3 nl hl => ⟨l, _, rfl, .inr (SqL.of hl), ?_, fun g hg => ?_⟩⟩
    · have := Bel_len n R k
      rw [List.length_cons, List.length_append, nL_len, List.length_nil, sizeLine_eq]
      omega
    have eg : (V.int (k : Int) :: (nL (Bel n R k) ++ [])) = nL (k :: Bel n R k) := by rw [List.append_nil]; rfl
    rw [eg]
    have s4 : Same H3 (upd H3 g (.lst (nL (k :: Bel n R k)))) := same_new hg
    have hg4 : (upd H3 g (.lst (nL (k :: Bel n R k)))) g = some (.lst (nL (k :: Bel n R k))) := upd_same
    generalize upd H3 g (.lst (nL (k :: Bel n R k))) = H4 at s4 hg4 ⊢
    have s24 := (s2.trans s3).trans s4
    have nd : (k :: Bel n R k).Nodup := List.nodup_cons.mpr ⟨(fun z => by
      have := (mem_Bel.mp z).2
      rw [irr k] at this
      cases this), by
      unfold Bel
      exact List.Pairwise.filter _ List.nodup_range⟩
    refine ⟨_, rfl, x, a, g, n, h, R, S, k :: Bel n R k, -1, rfl, hx.same s24, n16, hh, s24 _ _ ha, okS.1, hg4, nd, fun j hj => ?_, fun t H5 s5 ht => ?_⟩
    · rcases List.mem_cons.mp hj with e | hj
      · rw [e]; exact hk
      · exact (mem_Bel.mp hj).1
    · rw [turn_step irr hk okS pos] at ht
      exact q t H5 (s24.trans s5) ht
abbrev s_after : Stmt := top 29
theorem sc_after : FnScope ["house", "state", "lamp", "careful"] ["house", "state", "lamp", "careful"] (defScope s_after) := ⟨rfl, rfl, rfl, by decide +kernel, rfl, by decide +kernel, by decide +kernel⟩
-- slots of after: 0 house, 1 state, 2 lamp, 3 careful
def spAfter (C : Addr) : Sp := fun vs H Q _ => ∃ (x a : Addr) (n h k : Nat) (R : Rel) (S : List Int) (c : Bool), vs = [.ref x, .ref a, .int k, .bl c] ∧ HouseAt C H x n h R ∧ n ≤ 16 ∧ 2 ≤ h ∧ h ≤ 10 ∧ k < n ∧ Irr R ∧ H a = some (.tup (stV S)) ∧ StOk n h S ∧ canB n R S k c = true ∧
  ∀ (t : Addr) (H' : Hp), Same H H' → H' t = some (.tup (stV (stepL n h R S k false))) → Q (.ref t) H'
theorem ok_after (T : Txt K mg C) {f : Addr} {fd : FuncData} (F : FunV K "after" "after" s_after f fd) (n_check_state : Cal P w K mg base "check_state" 4 (spCheckState C)) (n_check_lamp : Cal P w K mg base "check_lamp" 4 (spCheckLamp C)) (c_moved : Cal P w K mg base "moved" 7 (spMovedP C)) :
    FnOk P w K mg base CX0 8 f fd ["house", "state", "lamp", "careful"] (spAfter C) := by
  refine F.ok sc_after (fun vs H Q E h => ?_) (fun cdv A outer s H vs Q E hr h => ?_)
  · obtain ⟨x, a, n, h, k, R, S, c, rfl, _⟩ := h; rfl
  · obtain ⟨x, a, n, h, k, R, S, c, rfl, hx, n16, hh, h10, hk, irr, ha, okS, can, q⟩ := h
    refine ⟨_, (pss_cons (ps_expr (pe_cal n_check_state (hr.mono (by decide)) (pa_cons (pv 0) (pa_cons (pv 1) pa_nil))))
      (pss_cons (ps_expr (pe_cal n_check_lamp (hr.mono (by decide)) (pa_cons (pv 0) (pa_cons (pv 2) pa_nil))))
      (pss_one (ps_ret (pe_cal c_moved (hr.mono (by decide)) (pa_cons (pv 0) (pa_cons (pv 1) (pa_cons (pv 2) (pa_cons pe_int (pa_cons (pv 3) pa_nil)))))))))), ?_⟩
    refine ⟨_, rfl, _, rfl, x, a, n, h, R, S, rfl, hx, n16, h10, ha, okS, fun H1 s1 => ?_⟩
    refine ⟨_, rfl, _, rfl, x, n, h, R, (k : Int), rfl, hx.same s1, by omega, by omega, ?_⟩
    exact ⟨_, rfl, _, rfl, _, rfl, _, rfl, x, a, n, h, k, R, S, c, 0, rfl, hx.same s1, n16, hh, hk, irr, s1 _ _ ha, okS, can, fun t H2 s2 ht => q t H2 (s1.trans s2) ht⟩
/-! ### backwards -/
theorem nL_it {l : List Nat} {i : Nat} {y : V} (h : (nL l)[i]? = some y) : ∃ k, l[i]? = some k ∧ y = V.int (k : Int) := by
  unfold nL nI at h
  rw [List.map_map, List.getElem?_map] at h
  obtain ⟨k, hk, e⟩ := Option.map_eq_some_iff.mp h
  exact ⟨k, hk, e.symm⟩
theorem turn_up {n h : Nat} {R : Rel} {S : List Int} {k : Nat} (irr : Irr R) (hk : k < n) (ok : StOk n h S) (ne : at_ S k ≠ (h : Int) - 1) : turnL n h S (k :: Bel n R k) 1 = stepL n h R S k true := by
  unfold stepL
  refine st_ext (by unfold turnL; rw [List.length_map, List.length_range]) fun j hj => ?_
  unfold turnL
  rw [at_map hj]
  have b := ok.at hk
  by_cases e : j = k
  · rw [if_pos e, if_pos (by rw [e]; exact List.mem_cons_self), e]
    show (at_ S k + 1) % (h : Int) = at_ S k + 1
    exact emod_small (by omega) (by omega)
  · rw [if_neg e]
    by_cases r : R k j = true
    · rw [if_pos r, if_pos (List.mem_cons_of_mem _ (mem_Bel.mpr ⟨hj, r⟩))]
      rfl
    · rw [if_neg r, if_neg (fun z => r (mem_Bel.mp ((List.mem_cons.mp z).resolve_left e)).2)]
/-- the state before a move, if there is one -/
def upO (n h : Nat) (R : Rel) (S : List Int) (k : Nat) (c : Bool) : Option (List Int) := if mayB n h R S k c true = true then some (stepL n h R S k true) else none
/-- None, or the state -/
def OptAt (H : Hp) (v : V) : Option (List Int) → Prop
  | none => v = .non
  | some S => ∃ t, v = .ref t ∧ H t = some (.tup (stV S))
theorem OptAt.same {H H' : Hp} {v : V} {o : Option (List Int)} (a : OptAt H v o) (s : Same H H') : OptAt H' v o := by
  cases o with
  | none => exact a
  | some S => obtain ⟨t, e, ht⟩ := a; exact ⟨t, e, s _ _ ht⟩
theorem upO_none {n h : Nat} {R : Rel} {S : List Int} {k : Nat} {c : Bool} (e : ¬ mayB n h R S k c true = true) : upO n h R S k c = none := if_neg e
theorem upO_some {n h : Nat} {R : Rel} {S : List Int} {k : Nat} {c : Bool} (e : mayB n h R S k c true = true) : upO n h R S k c = some (stepL n h R S k true) := if_pos e
theorem last_up (h : Nat) : lastI h true = (h : Int) - 1 := rfl
abbrev s_before : Stmt := top 30
theorem sc_before : FnScope ["house", "state", "lamp", "careful", "brightest", "lowers", "lower"] ["house", "state", "lamp", "careful"] (defScope s_before) := ⟨rfl, rfl, rfl, by decide +kernel, rfl, by decide +kernel, by decide +kernel⟩
-- slots of before: 0 house, 1 state, 2 lamp, 3 careful, 4 brightest, 5 lowers, 6 lower
def spBefore (C : Addr) : Sp := fun vs H Q _ => ∃ (x a : Addr) (n h k : Nat) (R : Rel) (S : List Int) (c : Bool), vs = [.ref x, .ref a, .int k, .bl c] ∧ HouseAt C H x n h R ∧ n ≤ 16 ∧ 2 ≤ h ∧ h ≤ 10 ∧ k < n ∧ Irr R ∧ H a = some (.tup (stV S)) ∧ StOk n h S ∧
  ∀ (v : V) (H' : Hp), Same H H' → OptAt H' v (upO n h R S k c) → Q v H'
theorem ok_before (T : Txt K mg C) {f : Addr} {fd : FuncData} (F : FunV K "before" "before" s_before f fd) (n_check_state : Cal P w K mg base "check_state" 4 (spCheckState C)) (n_check_lamp : Cal P w K mg base "check_lamp" 4 (spCheckLamp C)) (c_turned : Cal P w K mg base "turned" 1 (spTurned C)) (M_beneath : MCal P w K mg base C "beneath" 5 (spBeneath C)) :
    FnOk P w K mg base CX0 8 f fd ["house", "state", "lamp", "careful"] (spBefore C) := by
  refine F.ok sc_before (fun vs H Q E h => ?_) (fun cdv A outer s H vs Q E hr h => ?_)
  · obtain ⟨x, a, n, h, k, R, S, c, rfl, _⟩ := h; rfl
  · obtain ⟨x, a, n, h, k, R, S, c, rfl, hx, n16, hh, h10, hk, irr, ha, okS, q⟩ := h
    obtain ⟨f_beneath, fd_beneath, ps_beneath, F_beneath, m_beneath, b_beneath⟩ := M_beneath.ex
    refine ⟨_, (pss_cons (ps_expr (pe_cal n_check_state (hr.mono (by decide)) (pa_cons (pv 0) (pa_cons (pv 1) pa_nil))))
      (pss_cons (ps_expr (pe_cal n_check_lamp (hr.mono (by decide)) (pa_cons (pv 0) (pa_cons (pv 2) pa_nil))))
      (pss_cons (ps_set (i := 4) sc_before.nd rfl (by first | exact Or.inl rfl | exact Or.inr rfl) (pe_op op_sub (fld_ K (pv 0)) pe_int))
      (pss_cons (ps_set (i := 5) sc_before.nd rfl (by first | exact Or.inl rfl | exact Or.inr rfl) (pe_meth (pv 0) T.cl m_beneath F_beneath (hr.mono (by decide)) b_beneath .nil pass0 (pa_cons (pv 2) pa_nil)))
      (pss_cons (ps_if (pt_cmpR op_eq (pe_ix (ixT_ K) (pv 1) (pv 2) (fun _ _ => rfl)) (pv 4) (nomark _))
      (pss_one (ps_ret pe_non)) pss_nil)
      (pss_cons (ps_if (PW.pt (pw_and (truth_ K (pv 3)) (pw_and1 (pt_val (pe_callB (any_ K rfl) (by rfl) T.any b_any (pa_cons (pe_lc (own := [("lower", 6)]) (g := gName 6) (tt := tYes) rfl sc_before.nd (pil_ K (pv 5)) (blkOk_by (by kernel_rfl)) (fun _ _ _ _ _ => (pg_name (i := 6) sc_before.nd rfl (by first | exact Or.inl rfl | exact Or.inr rfl))) (fun _ _ _ _ _ => pts_nil) (fun _ _ _ _ _ => (pe_cmpR op_lt (pe_ix (ixT_ K) (pv 1) (pv 6) (fun _ _ => rfl)) (pv 4) (nomark _)))) pa_nil))))))
      (pss_one (ps_ret pe_non)) pss_nil)
      (pss_one (ps_ret (pe_cal c_turned (hr.mono (by decide)) (pa_cons (pv 0) (pa_cons (pv 1) (pa_cons (pe_lst (pa_cons (pv 2) (star_ K (pv 5) pa_nil))) (pa_cons pe_int pa_nil))))))))))))), ?_⟩
    have bk := okS.at hk
    have kS := stV_get (S := S) (k := k) (by rw [okS.1]; exact hk)
    refine ⟨_, rfl, _, rfl, x, a, n, h, R, S, rfl, hx, n16, h10, ha, okS, fun H1 s1 => ?_⟩
    have hx1 := hx.same s1
    refine ⟨_, rfl, _, rfl, x, n, h, R, (k : Int), rfl, hx1, by omega, by omega, ?_⟩
    obtain ⟨dx, fs, be, o, h1, h2, h3, h4, h5, h6, h7, h8, h9⟩ := id hx1
    refine ⟨_, rfl, x, C, dx, _, _, rfl, h1, T.cl, T.nHues, h3, _, _, rfl, rfl, ?_⟩
    refine ⟨_, rfl, x, dx, fs, rfl, h1, h9, _, rfl, x, n, h, k, R, rfl, hx1, hk, fun H2 l s2 nl hl => ?_⟩
    have s02 := s1.trans s2
    have none_ : ∀ H', Same H H' → ¬ mayB n h R S k c true = true → Q .non H' := fun H' s' nm => q .non H' s' (by rw [upO_none nm]; exact rfl)
    refine ⟨_, rfl, _, rfl, a, _, _, _, rfl, rfl, SqT.of (s02 _ _ ha), atI_nat kS, _, rfl, rfl, _, rfl, ?_⟩
    refine ite2 (fun heq => ?_) (fun hne => ?_)
    · have e : at_ S k = (h : Int) - 1 := by
        have z := of_decide_eq_true heq
        injection z
      exact none_ H2 s02 fun m => (may_iff.mp m).1 e
    have ne : at_ S k ≠ (h : Int) - 1 := fun z => hne (decide_eq_true (by rw [z]))
    have fin : ∀ H3, Same H2 H3 → mayB n h R S k c true = true → tCal (spTurned C) (tCons (tVar 0) (tCons (tVar 1) (tCons (tLst (tCons (tVar 2) (StX.tStar K (tVar 5) tNil))) (tCons (tC (.int 1)) tNil))))
        [some (.ref x), some (.ref a), some (.int k), some (.bl c), some (.int ((h : Int) - 1)), some (.ref l), Option.none] H3 Q := by
      intro H3 s3 may
      have s03 := s02.trans s3
      refine ⟨_, rfl, _, rfl, _, rfl, _, rfl, l, _, rfl, .inr (SqL.of (s3 _ _ hl)), ?_, fun g hg => ?_⟩
      · have := Bel_len n R k
        rw [List.length_cons, List.length_append, nL_len, List.length_nil, sizeLine_eq]
        omega
      have eg : (V.int (k : Int) :: (nL (Bel n R k) ++ [])) = nL (k :: Bel n R k) := by rw [List.append_nil]; rfl
      rw [eg]
      have s4 : Same H3 (upd H3 g (.lst (nL (k :: Bel n R k)))) := same_new hg
      have hg4 : (upd H3 g (.lst (nL (k :: Bel n R k)))) g = some (.lst (nL (k :: Bel n R k))) := upd_same
      generalize upd H3 g (.lst (nL (k :: Bel n R k))) = H4 at s4 hg4 ⊢
      have s04 := s03.trans s4
      have nd : (k :: Bel n R k).Nodup := List.nodup_cons.mpr ⟨(fun z => by
        have := (mem_Bel.mp z).2
        rw [irr k] at this
        cases this), by
        unfold Bel
        exact List.Pairwise.filter _ List.nodup_range⟩
      refine ⟨x, a, g, n, h, R, S, k :: Bel n R k, 1, rfl, hx.same s04, n16, hh, s04 _ _ ha, okS.1, hg4, nd, fun j hj => ?_, fun t H5 s5 ht => ?_⟩
      · rcases List.mem_cons.mp hj with e | hj
        · rw [e]; exact hk
        · exact (mem_Bel.mp hj).1
      · rw [turn_up irr hk okS ne] at ht
        exact q (.ref t) H5 (s04.trans s5) (by rw [upO_some may]; exact ⟨t, rfl, ht⟩)
    refine ⟨_, rfl, c, rfl, ?_⟩
    refine ite2 (fun hc => ?_) (fun hc => ?_)
    · refine ⟨_, rfl, l, rfl, ⟨_, SqL.of hl⟩, fun D hD => ?_⟩
      refine lc_list (xs := nL (Bel n R k)) (fun i H3 => H3 D = some (.lst ((((Bel n R k).take i).map fun m => decide (at_ S m < (h : Int) - 1)).map V.bl)) ∧ Same H2 H3) ⟨upd_same, same_new hD⟩ (fun i H3 _ ⟨_, s⟩ => SqL.of (s _ _ hl)) ?_ ?_
      · rintro i y H3 hy ⟨h3', s3⟩
        obtain ⟨m, hm, rfl⟩ := nL_it hy
        have mn : m < n := (mem_Bel.mp (List.mem_of_getElem? hm)).1
        have kM := stV_get (S := S) (k := m) (by rw [okS.1]; exact mn)
        have few := Bel_len n R k
        have few2 : ((Bel n R k).take i).length ≤ n := by rw [List.length_take]; omega
        refine ⟨rfl, yesT ⟨_, rfl, _, rfl, a, _, _, _, rfl, rfl, SqT.of (s3 _ _ (s02 _ _ ha)), atI_nat kM, _, rfl, _, _, rfl, rfl, _, h3', by rw [List.length_map, List.length_map, sizeLine_eq]; omega, ?_, same_upd s3 hD⟩⟩
        rw [upd_same, List.take_add_one, hm, List.map_append, List.map_append]
        rfl
      · rintro H3 ⟨h3', s3⟩
        rw [nL_len, List.take_length] at h3'
        refine ⟨D, _, rfl, SqL.of h3', _, rfl, ?_⟩
        refine ite2 (fun hany => ?_) (fun hall => ?_)
        · refine none_ H3 (s02.trans s3) fun may => ?_
          obtain ⟨b, hb, eb⟩ := List.any_eq_true.mp hany
          obtain ⟨m, hm, em⟩ := List.mem_map.mp hb
          obtain ⟨mn, rm⟩ := mem_Bel.mp hm
          have z := (may_iff.mp may).2 hc m mn rm
          rw [last_up] at z
          have lt : at_ S m < (h : Int) - 1 := of_decide_eq_true (em.trans eb)
          omega
        · refine fin H3 s3 (may_iff.mpr ⟨ne, fun _ j hj r => ?_⟩)
          have bj := okS.at hj
          rw [last_up]
          refine Classical.byContradiction fun nz => hall (List.any_eq_true.mpr ⟨true, List.mem_map.mpr ⟨j, mem_Bel.mpr ⟨hj, r⟩, decide_eq_true ?_⟩, rfl⟩)
          omega
    · exact fin H2 (Same.refl H2) (may_iff.mpr ⟨ne, fun z => absurd z hc⟩)
end
end Hue

end
section
set_option maxRecDepth 100000
set_option maxHeartbeats 4000000
namespace Hue
open PySem PySem.Spec PyProof.Rows L2
section
variable {P : Program} {w : World} {K : PySem.W.Frag} {mg : Str → Option Value} {base : Heap} {C CL CS : Addr}
/-! ### lowered at several lamps -/
def lowVl (h : Nat) (R : Rel) (S : List Int) (ks : List Nat) (j : Nat) : Int := if j ∈ ks then at_ S j - 1 else if (ks.any fun k => R k j) = true then (h : Int) - 1 else at_ S j
def lowS (n h : Nat) (R : Rel) (S : List Int) (ks : List Nat) : List Int := (List.range n).map (lowVl h R S ks)
theorem lowS_len {n h : Nat} {R : Rel} {S : List Int} {ks : List Nat} : (lowS n h R S ks).length = n := by unfold lowS; rw [List.length_map, List.length_range]
theorem lowS_at {n h : Nat} {R : Rel} {S : List Int} {ks : List Nat} {j : Nat} (hj : j < n) : at_ (lowS n h R S ks) j = lowVl h R S ks j := by
  unfold at_ lowS
  rw [List.getD_eq_getElem?_getD, List.getElem?_map, List.getElem?_range hj]
  rfl
theorem ext_at {n : Nat} {U V : List Int} (lU : U.length = n) (lV : V.length = n) (e : ∀ j, j < n → at_ U j = at_ V j) : U = V := by
  refine List.ext_getElem (by rw [lU, lV]) fun j h1 h2 => ?_
  have z := e j (by omega)
  unfold at_ at z
  rw [List.getD_eq_getElem?_getD, List.getD_eq_getElem?_getD, List.getElem?_eq_getElem h1, List.getElem?_eq_getElem h2] at z
  exact z
/-- lowest lit lamps: none lies beneath another -/
structure Lows (n : Nat) (R : Rel) (S : List Int) (ks : List Nat) : Prop where
  lt : ∀ k ∈ ks, k < n
  low : ∀ k ∈ ks, lowB n R S k = true
theorem Lows.anti {n : Nat} {R : Rel} {S : List Int} {ks : List Nat} (a : Lows n R S ks) {k l : Nat} (hk : k ∈ ks) (hl : l ∈ ks) : R k l = false := by
  cases r : R k l with
  | false => rfl
  | true =>
    have z := (lowB_yes.mp (a.low k hk)).2 l (a.lt l hl) r
    have p := (lowB_yes.mp (a.low l hl)).1
    omega
theorem Lows.ok {n h : Nat} {R : Rel} {S : List Int} {ks : List Nat} (a : Lows n R S ks) (ok : StOk n h S) (h2 : 2 ≤ h) : StOk n h (lowS n h R S ks) := by
  refine ⟨lowS_len, fun z hz => ?_⟩
  obtain ⟨j, hj, rfl⟩ := List.mem_map.mp hz
  have b := ok.at (List.mem_range.mp hj)
  unfold lowVl
  split
  · rename_i m
    have p := (lowB_yes.mp (a.low j m)).1
    constructor <;> omega
  · split
    · constructor <;> omega
    · exact b
theorem Lows.take {n : Nat} {R : Rel} {S : List Int} {ks : List Nat} (a : Lows n R S ks) (i : Nat) : Lows n R S (ks.take i) := ⟨fun k hk => a.lt k (List.mem_of_mem_take hk), fun k hk => a.low k (List.mem_of_mem_take hk)⟩
/-- one lamp more -/
theorem low_more {n h : Nat} {R : Rel} {S : List Int} {ks : List Nat} {k j : Nat} (a : Lows n R S (ks ++ [k])) : (if R k j = true then (h : Int) - 1 else if j = k then at_ S k - 1 else lowVl h R S ks j) = lowVl h R S (ks ++ [k]) j := by
  have mk : k ∈ ks ++ [k] := List.mem_append_right _ List.mem_cons_self
  unfold lowVl
  by_cases r : R k j = true
  · rw [if_pos r]
    have nj : j ∉ ks ++ [k] := fun m => by rw [a.anti mk m] at r; cases r
    rw [if_neg nj, if_pos (by rw [List.any_append, List.any_cons, r]; simp)]
  · rw [if_neg r]
    have rf : R k j = false := by simpa using r
    by_cases e : j = k
    · rw [if_pos e, if_pos (by rw [e]; exact mk), e]
    · rw [if_neg e]
      have m : j ∈ ks ++ [k] ↔ j ∈ ks := by rw [List.mem_append, List.mem_singleton]; exact ⟨fun z => z.elim id fun z => absurd z e, .inl⟩
      have an : (ks ++ [k]).any (fun k => R k j) = ks.any fun k => R k j := by rw [List.any_append, List.any_cons, rf]; simp
      simp only [m, an]
abbrev s_lowered_at : Stmt := top 42
theorem sc_lowered_at : FnScope ["house", "state", "lamps", "hues", "lamp", "lower"] ["house", "state", "lamps"] (defScope s_lowered_at) := ⟨rfl, rfl, rfl, by decide +kernel, rfl, by decide +kernel, by decide +kernel⟩
-- slots of lowered_at: 0 house, 1 state, 2 lamps, 3 hues, 4 lamp, 5 lower
def spLowAt (C : Addr) : Sp := fun vs H Q _ => ∃ (x t l : Addr) (n h : Nat) (ps : List (Nat × Nat)) (S : List Int) (ks : List Nat), vs = [.ref x, .ref t, .ref l] ∧ Hs2 C H x n h ps ∧ H t = some (.tup (stV S)) ∧ StOk n h S ∧ H l = some (.lst (nL ks)) ∧ Lows n (relOf ps) S ks ∧ ∀ (p : Addr) (H' : Hp), Same H H' → H p = none → H' p = some (.tup (stV (lowS n h (relOf ps) S ks))) → Q (.ref p) H'
theorem ok_lowered_at (T : Txt K mg C) {f : Addr} {fd : FuncData} (F : Fun K "lowered_at" "lowered_at" s_lowered_at f fd) (M_beneath : MCal P w K mg base C "beneath" 5 (spBeneath C)) : FnOk P w K mg base CX0 6 f fd ["house", "state", "lamps"] (spLowAt C) := by
  refine F.ok sc_lowered_at (fun vs H Q E h => ?_) (fun cdv A outer s H vs Q E hr h => ?_)
  · obtain ⟨x, t, l, n, h, ps, S, ks, rfl, _⟩ := h; rfl
  · obtain ⟨x, t, l, n, h, ps, S, ks, rfl, W, ht, ok, hl, lows, q⟩ := h
    obtain ⟨f_beneath, fd_beneath, ps_beneath, F_beneath, m_beneath, b_beneath⟩ := M_beneath.ex
    obtain ⟨dx, fs, h1, hc, hh, hm⟩ := W.hs.ins
    refine ⟨_, (pss_cons (ps_set (i := 3) sc_lowered_at.nd rfl (by first | exact Or.inl rfl | exact Or.inr rfl) (pe_callTy (lstOf_ K) (by rfl) T.list b_list (pa_cons (pv 1) pa_nil)))
      (pss_cons (ps_for PassesOwn.never rfl (pil_ K (pv 2)) (pg_name (i := 4) sc_lowered_at.nd rfl (by first | exact Or.inl rfl | exact Or.inr rfl))
      (pss_cons (ps_asg (pe_op op_sub (pe_ix (ixT_ K) (pv 1) (pv 4) (fun _ _ => rfl)) pe_int) (pg_sub (pv 3) (pv 4) set_list))
      (pss_one (ps_for PassesOwn.never rfl (pil_ K (pe_meth (pv 0) T.cl m_beneath F_beneath (hr.mono (by decide)) b_beneath .nil pass0 (pa_cons (pv 4) pa_nil))) (pg_name (i := 5) sc_lowered_at.nd rfl (by first | exact Or.inl rfl | exact Or.inr rfl))
      (pss_one (ps_asg (pe_op op_sub (fld_ K (pv 0)) pe_int) (pg_sub (pv 3) (pv 5) set_list)))))))
      (pss_one (ps_ret (pe_callTy (tupOf_ K) (by rfl) T.tuple b_tuple (pa_cons (pv 3) pa_nil)))))), ?_⟩
    refine ⟨_, rfl, t, _, rfl, .inr (SqT.of ht), fun fr nf => ?_⟩
    have s1 : Same H (L2.upd H fr (.lst (stV S))) := same_new nf
    have hf1 : (L2.upd H fr (.lst (stV S))) fr = some (.lst (stV S)) := upd_same
    generalize L2.upd H fr (.lst (stV S)) = H1 at s1 hf1 ⊢
    refine ⟨_, rfl, l, rfl, ⟨_, SqL.of (s1 _ _ hl)⟩, ?_⟩
    refine for_list (K := K) (a := l) (xs := nL ks) (fun i σ G => ∃ (v4 v5 : Option V) (U : List Int), σ = [some (.ref x), some (.ref t), some (.ref l), some (.ref fr), v4, v5] ∧ Same H G ∧ G fr = some (.lst (stV U)) ∧ U.length = n ∧ ∀ j, j < n → at_ U j = lowVl h (relOf ps) S (ks.take i) j) ⟨_, _, S, rfl, s1, hf1, ok.1, fun j hj => by unfold lowVl; rw [if_neg (by simp), if_neg (by simp)]⟩ (fun i σ G _ ⟨_, _, _, _, s, _⟩ => SqL.of (s _ _ hl)) ?_ ?_
    · rintro i y σ G hy ⟨v4, v5, U, rfl, sG, hU, lU, val⟩
      obtain ⟨k, hk, rfl⟩ := nL_it2 hy
      have kn : k < n := lows.lt k (List.mem_of_getElem? hk)
      have kS := stV_get (S := S) (k := k) (by rw [ok.1]; exact kn)
      have tk : ks.take (i + 1) = ks.take i ++ [k] := by rw [List.take_add_one, hk]; rfl
      refine ⟨_, rfl, _, rfl, t, _, _, _, rfl, rfl, SqT.of (sG _ _ ht), atI_nat kS, _, _, rfl, rfl, _, rfl, _, rfl, set_at hU (ixN_nat (by rw [List.length_map, lU]; exact kn)) fun G2 s2 h2 => ?_⟩
      rw [stV_set] at h2
      have s24 : Same H G2 := s2.to_same sG nf
      refine ⟨_, rfl, x, dx, fs, rfl, s24 _ _ h1, hm _ (by decide +kernel), _, rfl, x, n, h, k, relOf ps, rfl, W.hs.at_.same s24, kn, fun G3 u s3 nu hu => ⟨u, rfl, ⟨_, SqL.of hu⟩, ?_⟩⟩
      have h3 := s3 _ _ h2
      have ufr : u ≠ fr := fun z => by rw [z, h2] at nu; cases nu
      refine for_list (K := K) (a := u) (xs := nL (Bel n (relOf ps) k)) (fun m σ G5 => ∃ (v5 : Option V) (U2 : List Int), σ = [some (.ref x), some (.ref t), some (.ref l), some (.ref fr), some (.int (k : Int)), v5] ∧ Same H G5 ∧ G5 u = some (.lst (nL (Bel n (relOf ps) k))) ∧ G5 fr = some (.lst (stV U2)) ∧ U2.length = n ∧ ∀ j, j < n → at_ U2 j = if j ∈ (Bel n (relOf ps) k).take m then (h : Int) - 1 else if j = k then at_ S k - 1 else lowVl h (relOf ps) S (ks.take i) j)
        ⟨_, _, rfl, s24.trans s3, hu, h3, by rw [List.length_set]; exact lU, fun j hj => ?_⟩ (fun m σ G5 _ ⟨_, _, _, _, e, _⟩ => SqL.of e) ?_ ?_
      · rw [if_neg (by simp), at_set (by rw [lU]; exact kn)]
        by_cases e : k = j
        · rw [if_pos e, if_pos e.symm]
        · rw [if_neg e, if_neg fun z => e z.symm]; exact val j hj
      · rintro m y σ G5 hy ⟨v5, U2, rfl, s5, hu5, h5, lU2, val2⟩
        obtain ⟨j, hj, rfl⟩ := nL_it2 hy
        have jn : j < n := (mem_Bel.mp (List.mem_of_getElem? hj)).1
        have jU : j < U2.length := by rw [lU2]; exact jn
        refine ⟨_, rfl, x, C, dx, _, _, rfl, s5 _ _ h1, T.cl, T.nHues, hh, _, _, rfl, rfl, _, rfl, _, rfl, set_at h5 (ixN_nat (by rw [List.length_map]; exact jU)) fun G6 s6 h6 => ?_⟩
        rw [stV_set] at h6
        refine ⟨_, _, rfl, s6.to_same s5 nf, s6 _ _ ufr hu5, h6, by rw [List.length_set]; exact lU2, fun c hc => ?_⟩
        have tj : (Bel n (relOf ps) k).take (m + 1) = (Bel n (relOf ps) k).take m ++ [j] := by rw [List.take_add_one, hj]; rfl
        rw [at_set jU, tj]
        by_cases e : j = c
        · rw [if_pos e, if_pos (by rw [e]; exact List.mem_append_right _ List.mem_cons_self)]
        · rw [if_neg e, val2 c hc]
          have z : c ∈ (Bel n (relOf ps) k).take m ++ [j] ↔ c ∈ (Bel n (relOf ps) k).take m := by rw [List.mem_append, List.mem_singleton]; exact ⟨fun z => z.elim id fun z => absurd z.symm e, .inl⟩
          simp only [z]
      · rintro σ G5 ⟨v5, U2, rfl, s5, hu5, h5, lU2, val2⟩
        rw [nL_len, List.take_length] at val2
        refine ⟨_, _, U2, rfl, s5, h5, lU2, fun j hj => ?_⟩
        rw [tk, ← low_more (by rw [← tk]; exact lows.take _), val2 j hj]
        have z : j ∈ Bel n (relOf ps) k ↔ relOf ps k j = true := by rw [mem_Bel]; exact ⟨fun z => z.2, fun z => ⟨hj, z⟩⟩
        simp only [z]
    · rintro σ G ⟨v4, v5, U, rfl, sG, hU, lU, val⟩
      rw [nL_len, List.take_length] at val
      have eU : U = lowS n h (relOf ps) S ks := ext_at lU lowS_len fun j hj => by rw [lowS_at hj]; exact val j hj
      rw [eU] at hU
      exact ⟨_, rfl, fr, _, rfl, .inl ⟨SqL.of hU, fun p np => q p _ (sG.trans (same_new np)) (sG.free np) upd_same⟩⟩
end
end Hue

end
section
set_option maxRecDepth 100000
set_option maxHeartbeats 4000000
namespace Hue
open PySem PySem.Spec PyProof.Rows L2
section
variable {P : Program} {w : World} {K : PySem.W.Frag} {mg : Str → Option Value} {base : Heap} {C CL CS : Addr}
def LampIn (L : List Nat) (v : V) : Prop := ∃ k ∈ L, v = .int (k : Nat)
theorem inI_k {n : Nat} {v : V} (h : inI v 0 ((n : Int) - 1) = true) : ∃ k : Nat, k < n ∧ v = .int (k : Nat) := by
  cases v with
  | int i =>
    have z : (decide (0 ≤ i) && decide (i ≤ (n : Int) - 1)) = true := h
    rw [Bool.and_eq_true, decide_eq_true_iff, decide_eq_true_iff] at z
    exact ⟨i.toNat, by omega, by congr 1; omega⟩
  | _ => cases h
theorem lampIn_all {L : List Nat} : ∀ {us : List V}, (∀ u ∈ us, LampIn L u) → ∃ ks, us = nL ks ∧ ∀ k ∈ ks, k ∈ L
  | [], _ => ⟨[], rfl, fun k hk => by cases hk⟩
  | u :: us, h => by
    obtain ⟨k, hk, rfl⟩ := h u List.mem_cons_self
    obtain ⟨ks, rfl, al⟩ := lampIn_all fun z hz => h z (List.mem_cons_of_mem _ hz)
    exact ⟨k :: ks, rfl, fun m hm => (List.mem_cons.mp hm).elim (fun e => by rw [e]; exact hk) (al m)⟩
def spLoweredX (C CL CS : Addr) : Sp := fun vs H Q E => ∃ (x l : Addr) (n h : Nat) (ps : List (Nat × Nat)) (v : V) (d : PyData) (us : List V) (es : List PyData), vs = [.ref x, v, .ref l] ∧ Hs2 C H x n h ps ∧ Lf2 H v d ∧ H l = some (.lst us) ∧ All2 Lf us es ∧
  (∀ (t : Addr) (S : List Int), v = .ref t → H t = some (.tup (stV S)) → StOk n h S →
    (∀ ks, us = nL ks → (∀ k ∈ ks, k ∈ lowL n (relOf ps) S) → ∀ (p : Addr) (H' : Hp), Same H H' → H p = none → H' p = some (.tup (stV (lowS n h (relOf ps) S ks))) → Q (.ref p) H') ∧
    ∀ (i : Nat) u, us[i]? = some u → ¬ LampIn (lowL n (relOf ps) S) u → (∀ z ∈ us.take i, LampIn (lowL n (relOf ps) S) z) → Odd1 CL "lamp" u H E) ∧ (stB n h d = false → Odd1 CS "state" v H E)
theorem lows_of {n : Nat} {R : Rel} {S : List Int} {ks : List Nat} (h : ∀ k ∈ ks, k ∈ lowL n R S) : Lows n R S ks := ⟨fun k hk => List.mem_range.mp (List.mem_filter.mp (h k hk)).1, fun k hk => (List.mem_filter.mp (h k hk)).2⟩
abbrev s_lowered : Stmt := top 41
theorem sc_lowered : FnScope ["house", "state", "lamps", "lowest", "lamp"] ["house", "state", "lamps"] (defScope s_lowered) := ⟨rfl, rfl, rfl, by decide +kernel, rfl, by decide +kernel, by decide +kernel⟩
-- slots of lowered: 0 house, 1 state, 2 lamps, 3 lowest, 4 lamp
theorem ok_lowered (T : Txt K mg C) (M_lamp : XMk P w K mg base CL "InvalidLamp" "lamp") {f : Addr} {fd : FuncData} (F : Fun K "lowered" "lowered" s_lowered f fd) (x_lowest_lit : CalX P w K mg base "lowest_lit" 9 (spLowX C CS)) (c_is_lamp : Cal P w K mg base "is_lamp" 3 (spIsLampV C)) (c_lowered_at : Cal P w K mg base "lowered_at" 6 (spLowAt C)) : FnOk P w K mg base (L2.CX P w) 10 f fd ["house", "state", "lamps"] (spLoweredX C CL CS) := by
  refine F.okX sc_lowered (fun vs H Q E h => ?_) (fun cdv A outer s H vs Q E hr h => ?_)
  · obtain ⟨x, l, n, h, ps, v, d, us, es, rfl, _⟩ := h; rfl
  · obtain ⟨x, l, n, h, ps, v, d, us, es, rfl, W, od, hl, lf, q1, q2⟩ := h
    refine ⟨_, (pss_cons (ps_set (i := 3) sc_lowered.nd rfl (by first | exact Or.inl rfl | exact Or.inr rfl) (pe_calX x_lowest_lit (takes_of rfl rfl rfl rfl) (hr.mono (by decide)) (pa_cons (pv 0) (pa_cons (pv 1) pa_nil))))
      (pss_cons (ps_for (passes_of rfl) rfl (pil_ K (pv 2)) (pg_name (i := 4) sc_lowered.nd rfl (by first | exact Or.inl rfl | exact Or.inr rfl))
      (pss_one (ps_if (PW.pt (pw_or (pt_not (pt_val (pe_cal c_is_lamp (hr.mono (by decide)) (pa_cons (pv 0) (pa_cons (pv 4) pa_nil))))) (pw_or1 (pt_cmpR (ninS_ K) (pv 4) (pv 3) (by rfl)))))
      (pss_one (ps_raiseM M_lamp rfl (takes_of rfl rfl rfl rfl) (hr.mono (by decide)) (pa_cons (pv 4) pa_nil))) pss_nil)))
      (pss_one (ps_ret (pe_cal c_lowered_at (hr.mono (by decide)) (pa_cons (pv 0) (pa_cons (pv 1) (pa_cons (pv 2) pa_nil)))))))), ?_⟩
    refine ⟨_, rfl, _, rfl, x, n, h, _, v, d, rfl, W.hs.at_, W.n16, od, fun t S ev ht ok ll H1 s1 nl hll => ?_, q2⟩
    obtain ⟨good, bad⟩ := q1 t S ev ht ok
    subst ev
    have few : (lowL n (relOf ps) S).length ≤ n := filt_few' (lowB n (relOf ps) S) n
    refine ⟨_, rfl, l, rfl, ⟨_, SqL.of (s1 _ _ hl)⟩, ?_⟩
    refine for_list (K := K) (a := l) (xs := us) (fun i σ G => ∃ v3 : Option V, σ = [some (.ref x), some (.ref t), some (.ref l), some (.ref ll), v3] ∧ Same H G ∧ G ll = some (.lst (nL (lowL n (relOf ps) S))) ∧ ∀ z ∈ us.take i, LampIn (lowL n (relOf ps) S) z) ⟨_, rfl, s1, hll, fun z hz => by simp at hz⟩ (fun i σ G _ ⟨_, _, s, _⟩ => SqL.of (s _ _ hl)) ?_ ?_
    · rintro i u σ G hu ⟨v3, rfl, sG, hlG, past⟩
      obtain ⟨e, _, le⟩ := lf.get hu
      have kd : Kd G u := le.kd
      have raise : ¬ LampIn (lowL n (relOf ps) S) u → Odd1 CL "lamp" u G E := fun no => (bad i u hu no past).after sG
      refine ⟨_, rfl, _, rfl, x, n, h, _, u, rfl, W.hs.at_.same sG, kd, _, rfl, ?_⟩
      cases ei : inI u 0 ((n : Int) - 1) with
      | false =>
        have no : ¬ LampIn (lowL n (relOf ps) S) u := fun ⟨k, hk, eu⟩ => by
          rw [eu, nat_in (List.mem_range.mp (List.mem_filter.mp hk).1)] at ei
          cases ei
        exact iteT (iteT ⟨_, rfl, by show 1 ≤ 1000; decide, fun a na => keep_raised M_lamp.cls.oex M_lamp.no (raise no) a na⟩)
      | true =>
        obtain ⟨k, kn, rfl⟩ := inI_k ei
        refine iteF ⟨_, rfl, _, rfl, ll, _, rfl, .inl (SqL.of hlG), rfl, flat_nL _, _, rfl, ?_⟩
        rw [in_nL]
        by_cases mk : k ∈ lowL n (relOf ps) S
        · rw [decide_eq_true mk]
          refine iteF ⟨_, rfl, sG, hlG, fun z hz => ?_⟩
          rw [List.take_add_one, hu] at hz
          rcases List.mem_append.mp hz with y | y
          · exact past z y
          · rw [List.mem_singleton.mp y]; exact ⟨k, mk, rfl⟩
        · rw [decide_eq_false mk]
          have no : ¬ LampIn (lowL n (relOf ps) S) (.int (k : Nat)) := fun ⟨m, hm, eu⟩ => by
            injection eu with eu
            have e2 : k = m := by omega
            exact mk (by rw [e2]; exact hm)
          exact iteT ⟨_, rfl, by show 1 ≤ 1000; decide, fun a na => keep_raised M_lamp.cls.oex M_lamp.no (raise no) a na⟩
    · rintro σ G ⟨v3, rfl, sG, hlG, past⟩
      rw [List.take_length] at past
      obtain ⟨ks, rfl, al⟩ := lampIn_all past
      exact ⟨_, rfl, _, rfl, _, rfl, x, t, l, n, h, ps, S, ks, rfl, W.same sG, sG _ _ ht, ok, sG _ _ hl, lows_of al, fun p H' s np hp => good ks rfl al p H' (sG.trans s) (sG.free np) hp⟩
/-- of a state and lamps of it -/
def spLoweredS (C : Addr) : Sp := fun vs H Q _ => ∃ (x t l : Addr) (n h : Nat) (ps : List (Nat × Nat)) (S : List Int) (ks : List Nat), vs = [.ref x, .ref t, .ref l] ∧ Hs2 C H x n h ps ∧ H t = some (.tup (stV S)) ∧ StOk n h S ∧ H l = some (.lst (nL ks)) ∧ (∀ k ∈ ks, k ∈ lowL n (relOf ps) S) ∧ ∀ (p : Addr) (H' : Hp), Same H H' → H p = none → H' p = some (.tup (stV (lowS n h (relOf ps) S ks))) → Q (.ref p) H'
theorem nat_lfs : ∀ {ks : List Nat}, (∀ k ∈ ks, k < 1000) → All2 Lf (nL ks) (ks.map fun k => PyData.int (k : Nat))
  | [], _ => .nil
  | k :: ks, h => by
    have hk := h k List.mem_cons_self
    have e : (10 : Nat) ^ 38 = 100000000000000000000000000000000000000 := by decide
    exact .cons (.int (k : Int) (by rw [Int.natAbs_natCast]; omega)) (nat_lfs fun m hm => h m (List.mem_cons_of_mem _ hm))
theorem lowered_st (vs : List V) (H : Hp) (Q : VK) (E : XK) (g : spLoweredS C vs H Q E) : spLoweredX C CL CS vs H Q fun _ _ _ => False := by
  obtain ⟨x, t, l, n, h, ps, S, ks, rfl, W, ht, ok, hl, al, q⟩ := g
  have n16 := W.n16
  refine ⟨x, l, n, h, ps, _, stD S, _, _, rfl, W, st_lf2 ht (by rw [ok.1]; omega) (ok.small W.h10), hl, nat_lfs fun k hk => ?_, fun t' S' e' ht' _ => ?_, fun z => by rw [st_stB ok] at z; cases z⟩
  · have := List.mem_range.mp (List.mem_filter.mp (al k hk)).1; omega
  · injection e' with e'
    subst e'
    rw [ht] at ht'
    injection ht' with ht'
    injection ht' with ht'
    rw [← stV_inj ht']
    refine ⟨fun ks' e al' p H' s np hp => q p H' s np ?_, fun i u e no _ => ?_⟩
    · have ek : ks = ks' := by
        have z := congrArg (fun vs : List V => vs.map fun v => match v with | .int i => i.toNat | _ => 0) e
        unfold nL nI at z
        simpa [List.map_map, Function.comp_def] using z
      rw [ek]; exact hp
    · obtain ⟨k, hk, rfl⟩ := nL_it2 e
      exact absurd ⟨k, al k (List.mem_of_getElem? hk), rfl⟩ no
/-- the lowest lit lamps of a state -/
def spLowS (C : Addr) : Sp := fun vs H Q _ => ∃ (x t : Addr) (n h : Nat) (ps : List (Nat × Nat)) (S : List Int), vs = [.ref x, .ref t] ∧ Hs2 C H x n h ps ∧ H t = some (.tup (stV S)) ∧ StOk n h S ∧ ∀ (p : Addr) (H' : Hp), Same H H' → H p = none → H' p = some (.lst (nL (lowL n (relOf ps) S))) → Q (.ref p) H'
theorem low_st (vs : List V) (H : Hp) (Q : VK) (E : XK) (g : spLowS C vs H Q E) : spLowX C CS vs H Q fun _ _ _ => False := by
  obtain ⟨x, t, n, h, ps, S, e, W, ht, ok, q⟩ := g
  refine ⟨x, n, h, _, _, stD S, e, W.hs.at_, W.n16, st_lf2 ht (by rw [ok.1]; have := W.n16; omega) (ok.small W.h10), fun t' S' e' ht' _ => ?_, fun z => by rw [st_stB ok] at z; cases z⟩
  injection e' with e'
  subst e'
  rw [ht] at ht'
  injection ht' with ht'
  injection ht' with ht'
  rw [← stV_inj ht']
  exact q
end
end Hue

end
section
set_option maxRecDepth 100000
set_option maxHeartbeats 4000000
namespace Hue
open PySem PySem.Spec PyProof.Rows L2
section
variable {P : Program} {w : World} {K : PySem.W.Frag} {mg : Str → Option Value} {base : Heap} {C CL CS : Addr}
/-! ### the states that a state covers -/
/-- pairs of a lamp and a state -/
def PrL (H : Hp) (n h : Nat) (xs : List V) (LL : List (Nat × List Int)) : Prop := xs.length = LL.length ∧ ∀ (i : Nat) y p, xs[i]? = some y → LL[i]? = some p → StOk n h p.2 ∧ ∃ t r, y = .ref t ∧ H t = some (.tup [.int p.1, .ref r]) ∧ H r = some (.tup (stV p.2))
theorem PrL.same {H H' : Hp} {n h : Nat} {xs : List V} {LL : List (Nat × List Int)} (a : PrL H n h xs LL) (s : Same H H') : PrL H' n h xs LL := ⟨a.1, fun i y p e f => let ⟨ok, t, r, ey, ht, hr⟩ := a.2 i y p e f; ⟨ok, t, r, ey, s _ _ ht, s _ _ hr⟩⟩
theorem PrL.more {H : Hp} {n h : Nat} {xs : List V} {LL : List (Nat × List Int)} {t r : Addr} {k : Nat} {S : List Int} (a : PrL H n h xs LL) (ok : StOk n h S) (ht : H t = some (.tup [.int k, .ref r])) (hr : H r = some (.tup (stV S))) : PrL H n h (xs ++ [.ref t]) (LL ++ [(k, S)]) := by
  refine ⟨by rw [List.length_append, List.length_append, a.1]; rfl, fun i y p e f => ?_⟩
  by_cases il : i < xs.length
  · rw [List.getElem?_append_left il] at e
    rw [List.getElem?_append_left (by rw [← a.1]; exact il)] at f
    exact a.2 i y p e f
  · rw [List.getElem?_append_right (by omega)] at e
    rw [List.getElem?_append_right (by rw [← a.1]; omega), ← a.1] at f
    have z : i - xs.length = 0 := by
      have := (List.getElem?_eq_some_iff.mp e).1
      simp at this
      omega
    rw [z] at e f
    cases e
    cases f
    exact ⟨ok, t, r, rfl, ht, hr⟩
theorem PrL.laid {H : Hp} {n h : Nat} {xs : List V} {LL : List (Nat × List Int)} {D : Addr} {ys : List V} {o : HO} (a : PrL H n h xs LL) (hD : H D = some (.lst ys)) : PrL (L2.upd H D o) n h xs LL := ⟨a.1, fun i y p e f => by
  obtain ⟨ok, t, r, ey, ht, hr⟩ := a.2 i y p e f
  exact ⟨ok, t, r, ey, by rw [upd_ne (ne_of ht hD (by intro z; cases z))]; exact ht, by rw [upd_ne (ne_of hr hD (by intro z; cases z))]; exact hr⟩⟩
theorem eqv_shaped {d : PyData} (h : SeqAt.shaped d = true) : PyData.eqv d d = true := SeqAt.eqv_refl d (SeqAt.canLay_of_shaped h)
/-- a pair as plain data -/
def prD (p : Nat × List Int) : PyData := .tuple [.int p.1, stD p.2]
theorem prD_lay (p : Nat × List Int) : PyData.canLay0 (prD p) = true := by
  have z : PyData.canLay0 (stD p.2) = true := SeqAt.canLay_of_shaped (st_shaped p.2)
  simp [prD, PyData.canLay0, PyData.canLayAll0, z]
theorem stD_deep (S : List Int) : PyData.depth (stD S) ≤ 2 := by
  have := ints_deep S
  simp only [stD, PyData.depth]
  omega
theorem prD_deep (p : Nat × List Int) : PyData.depth (prD p) ≤ 3 := by
  have := stD_deep p.2
  simp only [prD, PyData.depth, PyData.depthAll]
  omega
theorem prD_shaped (p : Nat × List Int) : SeqAt.shaped (prD p) = true := by
  have h2 : PyData.depth (prD p) ≤ 64 := Nat.le_trans (prD_deep p) (by decide)
  show (PyData.canLay0 (prD p) && decide (PyData.depth (prD p) ≤ 64)) = true
  rw [decide_eq_true h2, prD_lay]; rfl
theorem prD_dp {H : Hp} {t r : Addr} {k : Nat} {S : List Int} (ht : H t = some (.tup [.int k, .ref r])) (hr : H r = some (.tup (stV S))) : Dp K H (.ref t) (prD (k, S)) := .tup (SqT.of ht) (.cons (.int _) (.cons (st_dp hr) .nil))
theorem prs_lay : ∀ LL : List (Nat × List Int), PyData.canLayAll0 (LL.map prD) = true
  | [] => by simp [PyData.canLayAll0]
  | p :: LL => by simp [PyData.canLayAll0, prD_lay p, prs_lay LL]
theorem prs_deep : ∀ LL : List (Nat × List Int), PyData.depthAll (LL.map prD) ≤ 3
  | [] => by simp [PyData.depthAll]
  | p :: LL => by
    have := prs_deep LL
    have := prD_deep p
    simp only [List.map_cons, PyData.depthAll]
    omega
theorem prs_shaped (LL : List (Nat × List Int)) : SeqAt.shaped (.list (LL.map prD)) = true := by
  have h1 := prs_deep LL
  have h2 : PyData.depth (.list (LL.map prD)) ≤ 64 := by
    simp only [PyData.depth]
    omega
  show (PyData.canLay0 (.list (LL.map prD)) && decide (PyData.depth (.list (LL.map prD)) ≤ 64)) = true
  rw [decide_eq_true h2, Bool.and_true]
  simp only [PyData.canLay0]
  exact prs_lay LL
theorem prL_dpA {H : Hp} {n h : Nat} : ∀ {xs : List V} {LL : List (Nat × List Int)}, PrL H n h xs LL → DpAll K H xs (LL.map prD)
  | [], [], _ => .nil
  | [], _ :: _, a => by have := a.1; simp at this
  | _ :: _, [], a => by have := a.1; simp at this
  | x :: xs, p :: LL, a => by
    obtain ⟨_, t, r, e, ht, hr⟩ := a.2 0 x p rfl rfl
    subst e
    exact .cons (prD_dp ht hr) (prL_dpA ⟨by have := a.1; simpa using this, fun i y q e f => a.2 (i + 1) y q e f⟩)
theorem prL_dp {H : Hp} {n h : Nat} {a : Addr} {xs : List V} {LL : List (Nat × List Int)} (ha : H a = some (.lst xs)) (pl : PrL H n h xs LL) : Dp K H (.ref a) (.list (LL.map prD)) := .lst (SqL.of ha) (prL_dpA pl)
/-- the pairs beneath -/
def cvL (n h : Nat) (R : Rel) (S : List Int) : List (Nat × List Int) := (lowL n R S).map fun k => (k, stepL n h R S k false)
abbrev s_covered_by : Stmt := top 36
theorem sc_covered_by : FnScope ["house", "state", "lamps", "lamp"] ["house", "state"] (defScope s_covered_by) := ⟨rfl, rfl, rfl, by decide +kernel, rfl, by decide +kernel, by decide +kernel⟩
-- slots of covered_by: 0 house, 1 state, 2 lamps, 3 lamp
def spCoveredX (C CS : Addr) : Sp := fun vs H Q E => ∃ (x : Addr) (n h : Nat) (ps : List (Nat × Nat)) (v : V) (d : PyData), vs = [.ref x, v] ∧ Hs2 C H x n h ps ∧ Lf2 H v d ∧
  (∀ (t : Addr) (S : List Int), v = .ref t → H t = some (.tup (stV S)) → StOk n h S → ∀ (p : Addr) (H' : Hp) (xs : List V), Same H H' → H p = none → H' p = some (.lst xs) → PrL H' n h xs (cvL n h (relOf ps) S) → Q (.ref p) H') ∧ (stB n h d = false → Odd1 CS "state" v H E)
theorem ok_covered_by (T : Txt K mg C) {f : Addr} {fd : FuncData} (F : Fun K "covered_by" "covered_by" s_covered_by f fd) (x_allowed_lamps : KwCalX P w K mg base "allowed_lamps" 8 2 "careful" (spAllowedX C CS)) (c_after : KwCal P w K mg base "after" 8 3 "careful" (spAfter C)) :
    FnOk P w K mg base (L2.CX P w) 9 f fd ["house", "state"] (spCoveredX C CS) := by
  refine F.okX sc_covered_by (fun vs H Q E h => ?_) (fun cdv A outer s H vs Q E hr h => ?_)
  · obtain ⟨x, n, h, ps, v, d, rfl, _⟩ := h; rfl
  · obtain ⟨x, n, h, ps, v, d, rfl, W, od, q1, q2⟩ := h
    have n16 := W.n16
    refine ⟨_, (pss_cons (ps_set (i := 2) sc_covered_by.nd rfl (by first | exact Or.inl rfl | exact Or.inr rfl) (pe_kw1X x_allowed_lamps (takes_of rfl rfl rfl rfl) (hr.mono (by decide)) (pa_cons (pv 0) (pa_cons (pv 1) pa_nil)) (pk_cons pe_bl pk_nil)))
      (pss_one (ps_ret (pe_lc (own := [("lamp", 3)]) (g := gName 3) (tt := tYes) rfl sc_covered_by.nd (pil_ K (pv 2)) (blkOk_by (by kernel_rfl)) (fun _ _ _ _ _ => (pg_name (i := 3) sc_covered_by.nd rfl (by first | exact Or.inl rfl | exact Or.inr rfl))) (fun _ _ _ _ _ => pts_nil) (fun _ _ _ _ _ => (pe_tup (pa_cons (pv 3) (pa_cons (pe_kw0 c_after (hr.mono (by decide)) (pa_cons (pv 0) (pa_cons (pv 1) (pa_cons (pv 3) pa_nil)))) pa_nil)))))))), ?_⟩
    refine ⟨_, rfl, _, rfl, rfl, rfl, x, n, h, _, v, d, true, rfl, W.hs.at_, n16, od, fun t S ev ht ok p H1 s1 np hp => ?_, q2⟩
    subst ev
    have q := q1 t S rfl ht ok
    have eL : ((List.range n).filter fun k => canB n (relOf ps) S k true) = lowL n (relOf ps) S := List.filter_congr fun k hk => canB_low ok (List.mem_range.mp hk)
    rw [eL] at hp
    refine ⟨_, rfl, p, rfl, ⟨_, SqL.of hp⟩, fun D hD => ?_⟩
    refine lc_list (xs := nL (lowL n (relOf ps) S)) (fun i G => ∃ xs : List V, G D = some (.lst xs) ∧ PrL G n h xs (((lowL n (relOf ps) S).take i).map fun k => (k, stepL n h (relOf ps) S k false)) ∧ Same H1 G) ⟨[], upd_same, ⟨rfl, fun i y p e => by simp at e⟩, same_new hD⟩ (fun i G _ ⟨_, _, _, s⟩ => SqL.of (s _ _ hp)) ?_ ?_
    · rintro i z G hz ⟨xs, gD, pr, sG⟩
      obtain ⟨k, hk, rfl⟩ := nL_it2 hz
      have mk := List.mem_of_getElem? hk
      have kn : k < n := List.mem_range.mp (List.mem_filter.mp mk).1
      have lw : lowB n (relOf ps) S k = true := (List.mem_filter.mp mk).2
      have sHG := s1.trans sG
      refine ⟨rfl, yesT ⟨_, rfl, _, rfl, _, rfl, _, rfl, x, t, n, h, k, relOf ps, S, false, rfl, W.hs.at_.same sHG, n16, W.h2, W.h10, kn, W.hR.irr, sHG _ _ ht, ok, ?_, fun r G1 t1 hr => ⟨by show 2 ≤ sizeLine; decide, fun tp ntp => ?_⟩⟩⟩
      · exact canB_iff.mpr ⟨(lowB_yes.mp lw).1, fun z => by cases z⟩
      have t2 : Same G1 (L2.upd G1 tp (.tup [.int (k : Int), .ref r])) := same_new ntp
      have htp : (L2.upd G1 tp (.tup [.int (k : Int), .ref r])) tp = some (.tup [.int (k : Int), .ref r]) := upd_same
      generalize L2.upd G1 tp (.tup [.int (k : Int), .ref r]) = G2 at t2 htp ⊢
      have t12 := t1.trans t2
      have gD2 := t12 _ _ gD
      have few : (lowL n (relOf ps) S).length ≤ n := filt_few' (lowB n (relOf ps) S) n
      have okT : StOk n h (stepL n h (relOf ps) S k false) := step_ok (careful := false) W.h2 ok kn (may_iff.mpr ⟨(by have := (lowB_yes.mp lw).1; show at_ S k ≠ 0; omega), fun z => by cases z⟩)
      refine ⟨_, gD2, ?_, xs ++ [.ref tp], upd_same, ?_, same_upd (sG.trans t12) hD⟩
      · have := pr.1
        rw [List.length_map, List.length_take] at this
        rw [sizeLine_eq]; omega
      · rw [List.take_add_one, hk, List.map_append]
        exact ((pr.same t12).more okT htp (t2 _ _ hr)).laid gD2
    · rintro G ⟨xs, gD, pr, sG⟩
      rw [nL_len, List.take_length] at pr
      exact q D G xs (s1.trans sG) (s1.free hD) gD pr
/-- of a state -/
def spCoveredS (C : Addr) : Sp := fun vs H Q _ => ∃ (x t : Addr) (n h : Nat) (ps : List (Nat × Nat)) (S : List Int), vs = [.ref x, .ref t] ∧ Hs2 C H x n h ps ∧ H t = some (.tup (stV S)) ∧ StOk n h S ∧ ∀ (p : Addr) (H' : Hp) (xs : List V), Same H H' → H p = none → H' p = some (.lst xs) → PrL H' n h xs (cvL n h (relOf ps) S) → Q (.ref p) H'
theorem covered_st (vs : List V) (H : Hp) (Q : VK) (E : XK) (g : spCoveredS C vs H Q E) : spCoveredX C CS vs H Q fun _ _ _ => False := by
  obtain ⟨x, t, n, h, ps, S, e, W, ht, ok, q⟩ := g
  refine ⟨x, n, h, ps, _, stD S, e, W, st_lf2 ht (by rw [ok.1]; have := W.n16; omega) (ok.small W.h10), fun t' S' e' ht' _ => ?_, fun z => by rw [st_stB ok] at z; cases z⟩
  injection e' with e'
  subst e'
  rw [ht] at ht'
  injection ht' with ht'
  injection ht' with ht'
  rw [← stV_inj ht']
  exact q
end
end Hue

end
section
set_option maxRecDepth 100000
set_option maxHeartbeats 4000000
namespace L2
open PySem PySem.Spec PyProof.Rows
theorem hu_inD {X : Cx} (K : PySem.W.Frag) (hu : X.A.units + 65 < cLine) (hK : X.K = K := by rfl) : OpR X (compareOp .In) (rInD K) := by subst hK; exact op_inD hu
theorem Room.units65 {k : Nat} {A : Around} (r : Room k A) : A.units + 65 < cLine := by have := r.un; omega
end L2
namespace Hue
open PySem PySem.Spec PyProof.Rows L2
section
variable {P : Program} {w : World} {K : PySem.W.Frag} {mg : Str → Option Value} {base : Heap} {C CL CS : Addr}
/-! ### the states that cover a state -/
def uvL (n h : Nat) (R : Rel) (S : List Int) : List (Nat × List Int) := (List.range n).filterMap fun k => (upO n h R S k true).map fun U => (k, U)
theorem upO_ok {n h : Nat} {R : Rel} {S U : List Int} {k : Nat} {c : Bool} (h2 : 2 ≤ h) (ok : StOk n h S) (hk : k < n) (e : upO n h R S k c = some U) : StOk n h U ∧ mayB n h R S k c true = true ∧ U = stepL n h R S k true := by
  by_cases m : mayB n h R S k c true = true
  · rw [upO_some m] at e
    cases e
    exact ⟨step_ok h2 ok hk m, m, rfl⟩
  · rw [upO_none m] at e; cases e
abbrev s_covers_of : Stmt := top 37
theorem sc_covers_of : FnScope ["house", "state", "found", "lamp", "other"] ["house", "state"] (defScope s_covers_of) := ⟨rfl, rfl, rfl, by decide +kernel, rfl, by decide +kernel, by decide +kernel⟩
-- slots of covers_of: 0 house, 1 state, 2 found, 3 lamp, 4 other
/-- pairs of a lamp and the state before it, or None -/
def FdL (H : Hp) (n h : Nat) (R : Rel) (S : List Int) (xs : List V) (i : Nat) : Prop := xs.length = i ∧ ∀ (j : Nat) y, xs[j]? = some y → ∃ t v, y = .ref t ∧ H t = some (.tup [.int (j : Nat), v]) ∧ OptAt H v (upO n h R S j true)
theorem FdL.same {H H' : Hp} {n h i : Nat} {R : Rel} {S : List Int} {xs : List V} (a : FdL H n h R S xs i) (s : Same H H') : FdL H' n h R S xs i := ⟨a.1, fun j y e => let ⟨t, v, ey, ht, o⟩ := a.2 j y e; ⟨t, v, ey, s _ _ ht, o.same s⟩⟩
def spCoversX (C CS : Addr) : Sp := fun vs H Q E => ∃ (x : Addr) (n h : Nat) (ps : List (Nat × Nat)) (v : V) (d : PyData), vs = [.ref x, v] ∧ Hs2 C H x n h ps ∧ Lf2 H v d ∧
  (∀ (t : Addr) (S : List Int), v = .ref t → H t = some (.tup (stV S)) → StOk n h S → ∀ (p : Addr) (H' : Hp) (xs : List V), Same H H' → H p = none → H' p = some (.lst xs) → PrL H' n h xs (uvL n h (relOf ps) S) → Q (.ref p) H') ∧ (stB n h d = false → Odd1 CS "state" v H E)
theorem ok_covers_of (T : Txt K mg C) {f : Addr} {fd : FuncData} (F : Fun K "covers_of" "covers_of" s_covers_of f fd) (c_check_state : CalX P w K mg base "check_state" 4 (spCheckStateX C CS)) (c_before : KwCal P w K mg base "before" 8 3 "careful" (spBefore C)) :
    FnOk P w K mg base (L2.CX P w) 9 f fd ["house", "state"] (spCoversX C CS) := by
  refine F.okX sc_covers_of (fun vs H Q E h => ?_) (fun cdv A outer s H vs Q E hr h => ?_)
  · obtain ⟨x, n, h, ps, v, d, rfl, _⟩ := h; rfl
  · obtain ⟨x, n, h, ps, v, d, rfl, W, od, q1, q2⟩ := h
    have n16 := W.n16
    have h2 := W.h2
    have h10 := W.h10
    refine ⟨_, (pss_cons (ps_expr (pe_calX c_check_state (takes_of rfl rfl rfl rfl) (hr.mono (by decide)) (pa_cons (pv 0) (pa_cons (pv 1) pa_nil))))
      (pss_cons (ps_setLc (i := 2) (own := [("lamp", 3)]) (g := gName 3) (tt := tYes) rfl sc_covers_of.nd rfl rfl (sw_true rfl rfl rfl (by kernel_rfl)) (pi_range1 (by rfl) T.range (pa_cons (fld_ K (pv 0)) pa_nil)) (blkOk_by (by kernel_rfl)) (fun _ _ _ _ _ => (pg_name (i := 3) sc_covers_of.nd rfl (by first | exact Or.inl rfl | exact Or.inr rfl))) (fun _ _ _ _ _ => pts_nil) (fun _ _ _ _ _ => (pe_tup (pa_cons (pv 3) (pa_cons (pe_kw1 c_before (hr.mono (by decide)) (pa_cons (pv 0) (pa_cons (pv 1) (pa_cons (pv 3) pa_nil))) (pk_cons pe_bl pk_nil)) pa_nil)))))
      (pss_one (ps_ret (pe_lc (own := [("lamp", 3), ("other", 4)]) (g := gTup K 2 (gCons (gName 3) (gCons (gName 4) gNil))) rfl sc_covers_of.nd (pil_ K (pv 2)) (blkOk_by (by kernel_rfl)) (fun _ _ _ _ _ => (pg_tup (by rfl) (pgs_cons (pg_name (i := 3) sc_covers_of.nd rfl (by first | exact Or.inl rfl | exact Or.inr rfl)) (pgs_cons (pg_name (i := 4) sc_covers_of.nd rfl (by first | exact Or.inl rfl | exact Or.inr rfl)) pgs_nil)))) (fun _ _ _ _ _ => (pts_one (pt_cmpR op_notN (pv 4) pe_non (nomark _)))) (fun _ _ _ _ _ => (pe_tup (pa_cons (pv 3) (pa_cons (pv 4) pa_nil))))))))), ?_⟩
    refine ⟨_, rfl, _, rfl, x, n, h, _, v, d, rfl, W.hs.at_, n16, od, fun t S H1 ev ht ok s1 => ?_, q2⟩
    subst ev
    have q := q1 t S rfl ht ok
    have W1 := W.same s1
    have ht1 := s1 _ _ ht
    obtain ⟨dx, fs, h1, hc, hh, hm⟩ := W1.hs.ins
    (repeat refine ⟨_, rfl, ?_⟩)
    refine ⟨x, C, dx, _, _, rfl, h1, T.cl, T.nCount, hc, _, rfl, by omega, by omega, fun D hD => ?_⟩
    rw [Int.toNat_natCast]
    refine lc_range (fun i G => ∃ xs : List V, G D = some (.lst xs) ∧ FdL G n h (relOf ps) S xs i ∧ Same H1 G) ⟨[], upd_same, ⟨rfl, fun j y e => by simp at e⟩, same_new hD⟩ ?_ ?_
    · rintro i G hi ⟨xs, gD, fd', sG⟩
      have e0 : (0 : Int) + (i : Int) = (i : Int) := by omega
      rw [e0]
      refine ⟨rfl, yesT ?_⟩
      (repeat refine ⟨_, rfl, ?_⟩)
      refine ⟨rfl, rfl, x, t, n, h, i, relOf ps, S, true, rfl, W1.hs.at_.same sG, n16, h2, h10, hi, W.hR.irr, sG _ _ ht1, ok, fun v G1 t1 ov => ⟨by show 2 ≤ sizeLine; decide, fun tp ntp => ?_⟩⟩
      have t2 : Same G1 (L2.upd G1 tp (.tup [.int (i : Int), v])) := same_new ntp
      have htp : (L2.upd G1 tp (.tup [.int (i : Int), v])) tp = some (.tup [.int (i : Int), v]) := upd_same
      generalize L2.upd G1 tp (.tup [.int (i : Int), v]) = G2 at t2 htp ⊢
      have t12 := t1.trans t2
      have gD2 := t12 _ _ gD
      have fd2 := fd'.same t12
      have lay : ∀ {c : Addr} {ys : List V}, G2 c = some (.tup ys) → (L2.upd G2 D (.lst (xs ++ [.ref tp]))) c = some (.tup ys) := fun e => by rw [upd_ne (ne_of e gD2 (by intro z; cases z))]; exact e
      have layO : ∀ {v : V} {o : Option (List Int)}, OptAt G2 v o → OptAt (L2.upd G2 D (.lst (xs ++ [.ref tp]))) v o := fun {v o} a => by
        cases o with
        | none => exact a
        | some S => obtain ⟨t, e, ht⟩ := a; exact ⟨t, e, lay ht⟩
      refine ⟨_, gD2, by rw [fd'.1, sizeLine_eq]; omega, xs ++ [.ref tp], upd_same, ⟨by rw [List.length_append, fd'.1]; rfl, fun j y e => ?_⟩, same_upd (sG.trans t12) hD⟩
      by_cases jl : j < xs.length
      · rw [List.getElem?_append_left jl] at e
        obtain ⟨t', v', ey, ht', o⟩ := fd2.2 j y e
        exact ⟨t', v', ey, lay ht', layO o⟩
      · rw [List.getElem?_append_right (by omega)] at e
        have z : j - xs.length = 0 := by
          have := (List.getElem?_eq_some_iff.mp e).1
          simp at this
          omega
        rw [z] at e
        cases e
        have ej : j = i := by have := fd'.1; omega
        subst ej
        exact ⟨tp, v, rfl, lay htp, layO (ov.same t2)⟩
    · rintro G ⟨xs, gD, fd', sG⟩
      (repeat refine ⟨_, rfl, ?_⟩)
      refine ⟨⟨_, SqL.of gD⟩, fun D2 hD2 => ?_⟩
      refine lc_list (xs := xs) (fun i G2 => ∃ ys : List V, G2 D2 = some (.lst ys) ∧ PrL G2 n h ys ((List.range i).filterMap fun k => (upO n h (relOf ps) S k true).map fun U => (k, U)) ∧ ys.length ≤ i ∧ Same G G2) ⟨[], upd_same, ⟨rfl, fun i y p e => by simp at e⟩, Nat.le_refl _, same_new hD2⟩ (fun i G2 _ ⟨_, _, _, _, s⟩ => SqL.of (s _ _ gD)) ?_ ?_
      · rintro i z G2 hz ⟨ys, gD2, pr, ly, s2⟩
        obtain ⟨t', v', rfl, ht', ov⟩ := fd'.2 i z hz
        have il : i < n := by have := (List.getElem?_eq_some_iff.mp hz).1; rw [fd'.1] at this; exact this
        refine ⟨t', _, rfl, SqT.of (s2 _ _ ht'), rfl, _, _, rfl, _, _, rfl, rfl, rfl, ?_⟩
        have more : ((List.range (i + 1)).filterMap fun k => (upO n h (relOf ps) S k true).map fun U => (k, U)) = ((List.range i).filterMap fun k => (upO n h (relOf ps) S k true).map fun U => (k, U)) ++ ([i].filterMap fun k => (upO n h (relOf ps) S k true).map fun U => (k, U)) := by rw [List.range_succ, List.filterMap_append]
        cases eo : upO n h (relOf ps) S i true with
        | none =>
          rw [eo] at ov
          have ov' : v' = .non := ov
          subst ov'
          refine ⟨_, rfl, rfl, _, rfl, iteF ⟨ys, gD2, ?_, by omega, s2⟩⟩
          have e1 : ([i].filterMap fun k => (upO n h (relOf ps) S k true).map fun U => (k, U)) = [] := by simp [eo]
          rw [more, e1, List.append_nil]
          exact pr
        | some U =>
          rw [eo] at ov
          obtain ⟨tu, ev, hU⟩ := ov
          subst ev
          obtain ⟨okU, _, _⟩ := upO_ok h2 ok il eo
          refine ⟨_, rfl, rfl, _, rfl, iteT ?_⟩
          refine ⟨_, rfl, _, rfl, by show 2 ≤ sizeLine; decide, fun tp ntp => ?_⟩
          have t1 : Same G2 (L2.upd G2 tp (.tup [.int (i : Int), .ref tu])) := same_new ntp
          have htp : (L2.upd G2 tp (.tup [.int (i : Int), .ref tu])) tp = some (.tup [.int (i : Int), .ref tu]) := upd_same
          generalize L2.upd G2 tp (.tup [.int (i : Int), .ref tu]) = G3 at t1 htp ⊢
          have gD3 := t1 _ _ gD2
          refine ⟨_, gD3, by rw [sizeLine_eq]; omega, ys ++ [.ref tp], upd_same, ?_, by rw [List.length_append]; show _ + 1 ≤ _; omega, same_upd (s2.trans t1) hD2⟩
          have e1 : ([i].filterMap fun k => (upO n h (relOf ps) S k true).map fun U => (k, U)) = [(i, U)] := by simp [eo]
          rw [more, e1]
          exact ((pr.same t1).more okU htp (t1 _ _ (s2 _ _ hU))).laid gD3
      · rintro G2 ⟨ys, gD2, pr, ly, s2⟩
        rw [fd'.1] at pr
        exact q D2 G2 ys ((s1.trans sG).trans s2) ((s1.trans sG).free hD2) gD2 pr
/-- of a state -/
def spCoversS (C : Addr) : Sp := fun vs H Q _ => ∃ (x t : Addr) (n h : Nat) (ps : List (Nat × Nat)) (S : List Int), vs = [.ref x, .ref t] ∧ Hs2 C H x n h ps ∧ H t = some (.tup (stV S)) ∧ StOk n h S ∧ ∀ (p : Addr) (H' : Hp) (xs : List V), Same H H' → H p = none → H' p = some (.lst xs) → PrL H' n h xs (uvL n h (relOf ps) S) → Q (.ref p) H'
theorem covers_st (vs : List V) (H : Hp) (Q : VK) (E : XK) (g : spCoversS C vs H Q E) : spCoversX C CS vs H Q fun _ _ _ => False := by
  obtain ⟨x, t, n, h, ps, S, e, W, ht, ok, q⟩ := g
  refine ⟨x, n, h, ps, _, stD S, e, W, st_lf2 ht (by rw [ok.1]; have := W.n16; omega) (ok.small W.h10), fun t' S' e' ht' _ => ?_, fun z => by rw [st_stB ok] at z; cases z⟩
  injection e' with e'
  subst e'
  rw [ht] at ht'
  injection ht' with ht'
  injection ht' with ht'
  rw [← stV_inj ht']
  exact q
/-! ### is it a cover -/
def isCv (n h : Nat) (R : Rel) (S D : List Int) : Bool := decide (D ∈ (cvL n h R S).map (·.2))
theorem any_eqv {SS : List (List Int)} {D : List Int} : ((SS.map stD).any fun z => PyData.eqv z (stD D)) = decide (D ∈ SS) := by
  induction SS with
  | nil => rfl
  | cons S SS ih =>
    rw [List.map_cons, List.any_cons, ih, st_eqv]
    by_cases e : S = D
    · subst e; simp
    · have e2 : ¬ D = S := fun z => e z.symm
      simp [e, e2]
theorem sts_lay : ∀ SS : List (List Int), PyData.canLayAll0 (SS.map stD) = true
  | [] => by simp [PyData.canLayAll0]
  | S :: SS => by
    have z : PyData.canLay0 (stD S) = true := SeqAt.canLay_of_shaped (st_shaped S)
    simp [PyData.canLayAll0, z, sts_lay SS]
theorem sts_deep : ∀ SS : List (List Int), PyData.depthAll (SS.map stD) ≤ 2
  | [] => by simp [PyData.depthAll]
  | S :: SS => by
    have := sts_deep SS
    have := stD_deep S
    simp only [List.map_cons, PyData.depthAll]
    omega
theorem sts_shaped (SS : List (List Int)) : SeqAt.shaped (.list (SS.map stD)) = true := by
  have h1 := sts_deep SS
  have h2 : PyData.depth (.list (SS.map stD)) ≤ 64 := by
    simp only [PyData.depth]
    omega
  show (PyData.canLay0 (.list (SS.map stD)) && decide (PyData.depth (.list (SS.map stD)) ≤ 64)) = true
  rw [decide_eq_true h2, Bool.and_true]
  simp only [PyData.canLay0]
  exact sts_lay SS
theorem stL_dpA {H : Hp} {n h : Nat} : ∀ {xs : List V} {SS : List (List Int)}, StL H n h xs SS → DpAll K H xs (SS.map stD)
  | [], [], _ => .nil
  | [], _ :: _, a => by have := a.1; simp at this
  | _ :: _, [], a => by have := a.1; simp at this
  | x :: xs, S :: SS, a => by
    obtain ⟨_, t, e, ht⟩ := a.2 0 x S rfl rfl
    subst e
    exact .cons (st_dp ht) (stL_dpA ⟨by have := a.1; simpa using this, fun i y q e f => a.2 (i + 1) y q e f⟩)
theorem stL_dp {H : Hp} {n h : Nat} {a : Addr} {xs : List V} {SS : List (List Int)} (ha : H a = some (.lst xs)) (sl : StL H n h xs SS) : Dp K H (.ref a) (.list (SS.map stD)) := .lst (SqL.of ha) (stL_dpA sl)
abbrev s_is_cover : Stmt := top 38
theorem sc_is_cover : FnScope ["house", "source", "target", "_", "other"] ["house", "source", "target"] (defScope s_is_cover) := ⟨rfl, rfl, rfl, by decide +kernel, rfl, by decide +kernel, by decide +kernel⟩
-- slots of is_cover: 0 house, 1 source, 2 target, 3 _, 4 other
def spIsCoverX (C CS : Addr) : Sp := fun vs H Q E => ∃ (x : Addr) (n h : Nat) (ps : List (Nat × Nat)) (v u : V) (d e : PyData), vs = [.ref x, v, u] ∧ Hs2 C H x n h ps ∧ Lf2 H v d ∧ Lf2 H u e ∧
  St2 CS n h v u d e H E fun _ _ S D => ∀ H', Same H H' → Q (.bl (isCv n h (relOf ps) S D)) H'
theorem ok_is_cover (T : Txt K mg C) {f : Addr} {fd : FuncData} (F : Fun K "is_cover" "is_cover" s_is_cover f fd) (c_check_state : CalX P w K mg base "check_state" 4 (spCheckStateX C CS)) (c_covered_by : Cal P w K mg base "covered_by" 9 (spCoveredS C)) : FnOk P w K mg base (L2.CX P w) 10 f fd ["house", "source", "target"] (spIsCoverX C CS) := by
  refine F.okX sc_is_cover (fun vs H Q E h => ?_) (fun cdv A outer s H vs Q E hr h => ?_)
  · obtain ⟨x, n, h, ps, v, u, d, e, rfl, _⟩ := h; rfl
  · obtain ⟨x, n, h, ps, v, u, d, e, rfl, W, od, oe, st⟩ := h
    have n16 := W.n16
    refine ⟨_, (pss_cons (ps_expr (pe_calX c_check_state (takes_of rfl rfl rfl rfl) (hr.mono (by decide)) (pa_cons (pv 0) (pa_cons (pv 1) pa_nil))))
      (pss_cons (ps_expr (pe_calX c_check_state (takes_of rfl rfl rfl rfl) (hr.mono (by decide)) (pa_cons (pv 0) (pa_cons (pv 2) pa_nil))))
      (pss_one (ps_ret (pe_cmpR (hu_inD K hr.units65) (pv 2) (pe_lc (own := [("_", 3), ("other", 4)]) (g := gTup K 2 (gCons (gName 3) (gCons (gName 4) gNil))) (tt := tYes) rfl sc_is_cover.nd (pil_ K (pe_cal c_covered_by (hr.mono (by decide)) (pa_cons (pv 0) (pa_cons (pv 1) pa_nil)))) (blkOk_by (by kernel_rfl)) (fun _ _ _ _ _ => (pg_tup (by rfl) (pgs_cons (pg_name (i := 3) sc_is_cover.nd rfl (by first | exact Or.inl rfl | exact Or.inr rfl)) (pgs_cons (pg_name (i := 4) sc_is_cover.nd rfl (by first | exact Or.inl rfl | exact Or.inr rfl)) pgs_nil)))) (fun _ _ _ _ _ => pts_nil) (fun _ _ _ _ _ => (pv 4))) (by rfl)))))), ?_⟩
    refine ⟨_, rfl, _, rfl, x, n, h, _, v, d, rfl, W.hs.at_, n16, od, fun t S H1 ev ht okS s1 => ?_, st.2.1⟩
    subst ev
    refine ⟨_, rfl, _, rfl, x, n, h, _, u, e, rfl, W.hs.at_.same s1, n16, oe.same s1, fun r D H2 eu hr okD s2 => ?_, fun z => (st.2.2 (lf2_st od ht okS) z).after s1⟩
    subst eu
    have hr0 := oe.back s1 hr
    have s12 := s1.trans s2
    have q := st.1 t r S D rfl rfl ht hr0 okS okD
    (repeat refine ⟨_, rfl, ?_⟩)
    refine ⟨x, t, n, h, ps, S, rfl, W.same s12, s12 _ _ ht, okS, fun p H3 xs s3 np hp pr => ?_⟩
    have s13 := s12.trans s3
    refine ⟨p, rfl, ⟨_, SqL.of hp⟩, fun D2 hD2 => ?_⟩
    refine lc_list (xs := xs) (fun i G => ∃ ys : List V, G D2 = some (.lst ys) ∧ StL G n h ys (((cvL n h (relOf ps) S).take i).map (·.2)) ∧ Same H3 G) ⟨[], upd_same, ⟨rfl, fun i y p e => by simp at e⟩, same_new hD2⟩ (fun i G _ ⟨_, _, _, s⟩ => SqL.of (s _ _ hp)) ?_ ?_
    · rintro i z G hz ⟨ys, gD, sl, sG⟩
      have il : i < (cvL n h (relOf ps) S).length := by rw [← pr.1]; exact (List.getElem?_eq_some_iff.mp hz).1
      obtain ⟨okU, tp, ru, rfl, htp, hru⟩ := pr.2 i z _ hz (List.getElem?_eq_getElem il)
      refine ⟨tp, _, rfl, SqT.of (sG _ _ htp), rfl, _, _, rfl, _, _, rfl, rfl, rfl, yesT ⟨_, rfl, ?_⟩⟩
      have lc : (cvL n h (relOf ps) S).length ≤ n := by unfold cvL; rw [List.length_map]; exact filt_few' (lowB n (relOf ps) S) n
      refine ⟨_, gD, ?_, ys ++ [.ref ru], upd_same, ?_, same_upd sG hD2⟩
      · have := sl.1
        rw [List.length_map, List.length_take] at this
        rw [sizeLine_eq]; omega
      · rw [List.take_add_one, List.getElem?_eq_getElem il, List.map_append]
        exact (sl.more okU (sG _ _ hru)).laid gD
    · rintro G ⟨ys, gD, sl, sG⟩
      rw [pr.1, List.take_length] at sl
      refine ⟨_, _, st_dp ((s13.trans sG) _ _ hr0), stL_dp gD sl, st_shaped D, sts_shaped _, ?_⟩
      rw [any_eqv]
      exact q G (s13.trans sG)
/-- of two states -/
def spIsCoverS (C : Addr) : Sp := fun vs H Q _ => ∃ (x t r : Addr) (n h : Nat) (ps : List (Nat × Nat)) (S D : List Int), vs = [.ref x, .ref t, .ref r] ∧ Hs2 C H x n h ps ∧ H t = some (.tup (stV S)) ∧ H r = some (.tup (stV D)) ∧ StOk n h S ∧ StOk n h D ∧ ∀ (H' : Hp), Same H H' → Q (.bl (isCv n h (relOf ps) S D)) H'
theorem cover_st (vs : List V) (H : Hp) (Q : VK) (E : XK) (g : spIsCoverS C vs H Q E) : spIsCoverX C CS vs H Q fun _ _ _ => False := by
  obtain ⟨x, t, r, n, h, ps, S, D, e, W, ht, hr, okS, okD, q⟩ := g
  have T2 := W.two ht hr okS okD
  exact ⟨x, n, h, _, _, _, _, _, e, W, T2.l1, T2.l2, st2_calm ht hr okS okD q⟩
end
end Hue

end
section
set_option maxRecDepth 100000
set_option maxHeartbeats 4000000
namespace L2
open PySem PySem.Spec PyProof.Rows
theorem KwCalX.calm {P : Program} {w : World} {K : PySem.W.Frag} {mg : Str → Option Value} {base : Heap} {x nm : Str} {k n : Nat} {sp sp' : Sp} (c : KwCalX P w K mg base x k n nm sp) (h : ∀ vs H Q E, sp' vs H Q E → sp vs H Q fun _ _ _ => False) : KwCal P w K mg base x k n nm sp' := by
  obtain ⟨f, fd, ps, F, a, b, d, e⟩ := c.ex
  exact ⟨f, fd, ps, F.calm.imp h, a, b, d, e⟩
end L2
namespace Hue
open PySem PySem.Spec PyProof.Rows L2
section
variable {P : Program} {w : World} {K : PySem.W.Frag} {mg : Str → Option Value} {base : Heap} {C CL CS : Addr}
abbrev s_is_allowed : Stmt := top 27
theorem sc_is_allowed : FnScope ["house", "state", "lamp", "careful"] ["house", "state", "lamp", "careful"] (defScope s_is_allowed) := ⟨rfl, rfl, rfl, by decide +kernel, rfl, by decide +kernel, by decide +kernel⟩
-- slots of is_allowed: 0 house, 1 state, 2 lamp, 3 careful
def spIsAllowed (C : Addr) : Sp := fun vs H Q _ => ∃ (x a : Addr) (n h k : Nat) (ps : List (Nat × Nat)) (S : List Int) (c : Bool), vs = [.ref x, .ref a, .int k, .bl c] ∧ Hs2 C H x n h ps ∧ k < n ∧ H a = some (.tup (stV S)) ∧ StOk n h S ∧ ∀ H', Same H H' → Q (.bl (canB n (relOf ps) S k c)) H'
theorem ok_is_allowed (T : Txt K mg C) {f : Addr} {fd : FuncData} (F : FunV K "is_allowed" "is_allowed" s_is_allowed f fd) (n_check_state : Cal P w K mg base "check_state" 4 (spCheckState C)) (n_check_lamp : Cal P w K mg base "check_lamp" 4 (spCheckLamp C)) (c_can_move : Cal P w K mg base "can_move" 7 (spCanMove C)) :
    FnOk P w K mg base CX0 8 f fd ["house", "state", "lamp", "careful"] (spIsAllowed C) := by
  refine F.ok sc_is_allowed (fun vs H Q E h => ?_) (fun cdv A outer s H vs Q E hr h => ?_)
  · obtain ⟨x, a, n, h, k, ps, S, c, rfl, _⟩ := h; rfl
  · obtain ⟨x, a, n, h, k, ps, S, c, rfl, W, hk, ha, okS, q⟩ := h
    have n16 := W.n16
    refine ⟨_, (pss_cons (ps_expr (pe_cal n_check_state (hr.mono (by decide)) (pa_cons (pv 0) (pa_cons (pv 1) pa_nil))))
      (pss_cons (ps_expr (pe_cal n_check_lamp (hr.mono (by decide)) (pa_cons (pv 0) (pa_cons (pv 2) pa_nil))))
      (pss_one (ps_ret (pe_cal c_can_move (hr.mono (by decide)) (pa_cons (pv 0) (pa_cons (pv 1) (pa_cons (pv 2) (pa_cons (pv 3) pa_nil))))))))), ?_⟩
    refine ⟨_, rfl, _, rfl, x, a, n, h, relOf ps, S, rfl, W.hs.at_, n16, W.h10, ha, okS, fun H1 s1 => ?_⟩
    refine ⟨_, rfl, _, rfl, x, n, h, relOf ps, (k : Int), rfl, W.hs.at_.same s1, by omega, by omega, ?_⟩
    exact ⟨_, rfl, _, rfl, _, rfl, _, rfl, x, a, n, h, k, relOf ps, S, c, rfl, W.hs.at_.same s1, n16, hk, s1 _ _ ha, okS.1, fun H2 s2 => q H2 (s1.trans s2)⟩
/-- the lamps of a state that may be lowered, in care -/
def spAllowedS (C : Addr) : Sp := fun vs H Q _ => ∃ (x t : Addr) (n h : Nat) (ps : List (Nat × Nat)) (S : List Int), vs = [.ref x, .ref t, .bl true] ∧ Hs2 C H x n h ps ∧ H t = some (.tup (stV S)) ∧ StOk n h S ∧ ∀ (p : Addr) (H' : Hp), Same H H' → H p = none → H' p = some (.lst (nL (lowL n (relOf ps) S))) → Q (.ref p) H'
theorem allowed_st (vs : List V) (H : Hp) (Q : VK) (E : XK) (g : spAllowedS C vs H Q E) : spAllowedX C CS vs H Q fun _ _ _ => False := by
  obtain ⟨x, t, n, h, ps, S, e, W, ht, ok, q⟩ := g
  refine ⟨x, n, h, _, _, stD S, true, e, W.hs.at_, W.n16, st_lf2 ht (by rw [ok.1]; have := W.n16; omega) (ok.small W.h10), fun t' S' e' ht' _ p H' s np hp => ?_, fun z => by rw [st_stB ok] at z; cases z⟩
  injection e' with e'
  subst e'
  rw [ht] at ht'
  injection ht' with ht'
  injection ht' with ht'
  rw [← stV_inj ht'] at hp
  refine q p H' s np ?_
  rw [hp]
  unfold lowL
  rw [List.filter_congr fun k hk => canB_low ok (List.mem_range.mp hk)]
end
end Hue

end
section
set_option maxRecDepth 100000
set_option maxHeartbeats 4000000
namespace Hue
open PySem PySem.Spec PyProof.Rows L2
section
variable {P : Program} {w : World} {K : PySem.W.Frag} {mg : Str → Option Value} {base : Heap} {C : Addr}
/-! ### the purse -/
/-- the purse at b -/
def Pu (H : Hp) (b : Addr) : Prop := ∃ r s c : Int, H b = some (.lst [.int r, .int s, .int c])
namespace Pu
variable {H H' : Hp} {b a : Addr} {o : HO}
theorem same (h : Pu H b) (s : Same H H') : Pu H' b := let ⟨r, s', c, e⟩ := h; ⟨r, s', c, s _ _ e⟩
theorem upd (h : Pu H b) (n : a ≠ b) : Pu (upd H a o) b := let ⟨r, s', c, e⟩ := h; ⟨r, s', c, by rw [upd_ne n.symm]; exact e⟩
theorem new (h : Pu H b) (n : H a = Option.none) : a ≠ b := let ⟨_, _, _, e⟩ := h; (ne_of_none e n).symm
end Pu
theorem SB.past {H0 H H' : Hp} {b : Addr} (s : Same H0 H) (n : H0 b = Option.none) (t : SB b H H') : Same H0 H' := fun a o e => t a o (ne_of_none e n) (s a o e)
theorem mod_nat {i : Int} {m : Nat} (hm : 1 ≤ m) : ∃ d : Nat, d < m ∧ i % (m : Int) = (d : Int) := by
  have h1 := Int.emod_nonneg i (by omega : (m : Int) ≠ 0)
  have h2 := Int.emod_lt_of_pos i (by omega : (0 : Int) < m)
  exact ⟨(i % (m : Int)).toNat, by omega, by omega⟩
theorem rem_small (x : Int) {m : Int} (m0 : 0 < m) (m1 : m ≤ 4294967296) : -(2 ^ 64) < x % m ∧ x % m < 2 ^ 64 := by
  have h1 := Int.emod_nonneg x (by omega : m ≠ 0)
  have h2 := Int.emod_lt_of_pos x m0
  omega
theorem Same.sqL {K : PySem.W.Frag} {H H' : Hp} {a : Addr} {xs : List V} (e : Same H H') (h : SqL K H a xs) : SqL K H' a xs := by
  rcases h with (h | ⟨o, h⟩) | h
  · exact .inl (.inl (e _ _ h))
  · exact .inl (.inr ⟨o, e _ _ h⟩)
  · exact .inr h
theorem cut_front {α : Type} {xs : List V} {l : List α} {g : α → V} (e : xs = l.map g) (k : Nat) : cutV xs none (some (k : Int)) = (l.take k).map g := by
  unfold cutV
  rw [HT.sIx_none, HT.sIx_nat, e, List.length_map, List.drop_zero, Nat.sub_zero, ← List.map_take]
  congr 1
  rcases Nat.lt_or_ge k l.length with h | h
  · rw [Nat.min_eq_left (by omega)]
  · rw [Nat.min_eq_right h, List.take_length, List.take_of_length_le h]
theorem small4 : ∀ a : Nat, a < 64 → ∀ b : Nat, b < 64 → Builtin.Range.small (a : Int) (b : Int) 4 = true := by decide +kernel
theorem rgC4 {a b : Nat} (ha : a ≤ 63) (hb : b ≤ 63) : RgC (a : Int) (b : Int) 4 ((b - a + 3) / 4) := by
  have e : Builtin.Range.rangeSize (a : Int) (b : Int) 4 = (((b - a + 3) / 4 : Nat) : Int) := by
    unfold Builtin.Range.rangeSize
    simp only [show (4 : Int) > 0 by decide, if_true]
    split <;> omega
  exact ⟨by decide, by decide, small4 a (by omega) b (by omega), e⟩
abbrev s__law_purse : Stmt := top 47
theorem sc__law_purse : FnScope ["script", "place", "seed", "k", "rest"] ["script", "place"] (defScope s__law_purse) := ⟨rfl, rfl, rfl, by decide +kernel, rfl, by decide +kernel, by decide +kernel⟩
-- slots of _law_purse: 0 script, 1 place, 2 seed, 3 k, 4 rest
def spPurse (K : PySem.W.Frag) : Sp := fun vs H Q _ => ∃ (a : Addr) (ns : List Int) (pl : Nat), vs = [.ref a, .int pl] ∧ SqL K H a (ns.map V.int) ∧ ns.length ≤ 63 ∧ pl ≤ 63 ∧ ∀ (H' : Hp) (b : Addr), Same H H' → H b = Option.none → Pu H' b → Q (.ref b) H'
theorem ok__law_purse (T : Txt K mg C) {f : Addr} {fd : FuncData} (F : Fun K "_law_purse" "_law_purse" s__law_purse f fd) : FnOk P w K mg base CX0 1 f fd ["script", "place"] (spPurse K) := by
  refine F.ok sc__law_purse (fun vs H Q E h => ?_) (fun cdv A outer s H vs Q E hr h => ?_)
  · obtain ⟨a, ns, pl, rfl, _⟩ := h; rfl
  · obtain ⟨a, ns, pl, rfl, ha, few, pl63, q⟩ := h
    refine ⟨_, (pss_cons (ps_set (i := 2) sc__law_purse.nd rfl (by first | exact Or.inl rfl | exact Or.inr rfl) (pe_op op_add (pe_op op_mul pe_int (pe_op op_add (pv 1) pe_int)) (pe_op op_mod (pe_callTy call_int1 (by rfl) T.int b_int (pa_cons (pe_callB (sum_ K rfl) (by rfl) T.sum b_sum (pa_cons (pe_slice (slL_ K) (pv 0) po_none (po_some pe_int)) pa_nil)) pa_nil)) pe_int)))
      (pss_cons (ps_for PassesOwn.never rfl (pi_range3 (by rfl) T.range (pa_cons (pv 1) (pa_cons (pe_callB (call_min2 rfl) (by rfl) T.min b_min (pa_cons pe_int (pa_cons (pe_callB (lenS_ K) (by rfl) T.len b_len (pa_cons (pv 0) pa_nil)) pa_nil))) (pa_cons pe_int pa_nil)))) (pg_name (i := 3) sc__law_purse.nd rfl (by first | exact Or.inl rfl | exact Or.inr rfl))
      (pss_one (ps_set (i := 2) sc__law_purse.nd rfl (by first | exact Or.inl rfl | exact Or.inr rfl) (pe_op op_mod (pe_callTy call_int1 (by rfl) T.int b_int (pa_cons (pe_op op_add (pe_op op_mul (pv 2) pe_int) (pe_ix (ixL_ K) (pv 0) (pv 3) (fun _ _ => rfl))) pa_nil)) pe_int))))
      (pss_cons (ps_set (i := 4) sc__law_purse.nd rfl (by first | exact Or.inl rfl | exact Or.inr rfl) pe_int)
      (C8.pss_cut (ps_if (PW.pt (pw_and (pt_cmpR op_lt (pv 1) (pe_callB (lenS_ K) (by rfl) T.len b_len (pa_cons (pv 0) pa_nil)) (nomark _)) (pw_and1 (pt_cmpR op_ge (pe_callB call_abs (by rfl) T.abs b_abs (pa_cons (pe_ix (ixL_ K) (pv 0) (pv 1) (fun _ _ => rfl)) pa_nil)) (pe_op op_pow pe_int pe_int) (nomark _)))))
      (pss_one (ps_set (i := 4) sc__law_purse.nd rfl (by first | exact Or.inl rfl | exact Or.inr rfl) (pe_callB call_abs (by rfl) T.abs b_abs (pa_cons (pe_ix (ixL_ K) (pv 0) (pv 1) (fun _ _ => rfl)) pa_nil)))) pss_nil)
      (pss_one (ps_ret (pe_lst (pa_cons (pv 4) (pa_cons (pv 2) (pa_cons pe_int pa_nil)))))))))), ?_⟩
    refine ⟨_, rfl, _, _, rfl, rfl, _, _, rfl, rfl, .inl ⟨by decide, by decide⟩, _, rfl, _, rfl, a, _, rfl, ha, fun cz ncz => ?_⟩
    have ecz : cutV (ns.map V.int) none (some 1) = (ns.take 1).map V.int := cut_front rfl 1
    rw [ecz]
    have s1 : Same H (L2.upd H cz (.lst ((ns.take 1).map V.int))) := same_new ncz
    have hcz : (L2.upd H cz (.lst ((ns.take 1).map V.int))) cz = some (.lst ((ns.take 1).map V.int)) := upd_same
    generalize L2.upd H cz (.lst ((ns.take 1).map V.int)) = H1 at s1 hcz ⊢
    have ha1 := Same.sqL s1 ha
    obtain ⟨m, em, m63, mlen⟩ : ∃ m : Nat, (if (ns.length : Int) < 63 then (ns.length : Int) else 63) = (m : Int) ∧ m ≤ 63 ∧ m ≤ ns.length := ⟨ns.length, by split <;> omega, few, Nat.le_refl _⟩
    refine ⟨cz, _, rfl, SqL.of hcz, .inl ⟨_, rfl, _, _, rfl, rfl, (by show (0 : Int) < 1000003; decide), _, _, rfl, rfl, ?_⟩⟩
    refine ⟨_, rfl, _, rfl, a, _, rfl, .inl ha1, _, _, rfl, ?_⟩
    rw [List.length_map, em]
    refine ⟨_, _, _, _, rfl, rgC4 pl63 m63, ?_⟩
    refine for_rangeC (fun i σ G => ∃ (z : Int) (v3 : Option V), σ = [some (.ref a), some (.int pl), some (.int z), v3, none] ∧ G = H1) ⟨_, _, rfl, rfl⟩ ?_ ?_
    · rintro i σ G hi ⟨z, v3, rfl, rfl⟩
      have ek : (pl : Int) + (i : Int) * 4 = ((pl + i * 4 : Nat) : Int) := by omega
      rw [ek]
      have kl : pl + i * 4 < ns.length := by omega
      have cell : (ns.map V.int)[pl + i * 4]? = some (V.int ns[pl + i * 4]) := by rw [List.getElem?_map, List.getElem?_eq_getElem kl]; rfl
      exact ⟨_, rfl, _, _, rfl, rfl, .inr ⟨by decide, by decide⟩, _, rfl, _, rfl, a, _, _, _, rfl, rfl, ha1, atI_nat cell, _, _, rfl, rfl, .inl ⟨_, rfl, _, _, rfl, rfl, (by show (0 : Int) < 2147483647; decide), _, _, rfl, rfl⟩⟩
    · rintro σ G ⟨z, v3, rfl, rfl⟩
      refine ⟨fun σ G' => ∃ r : Int, σ = [some (.ref a), some (.int pl), some (.int z), v3, some (.int r)] ∧ G' = G, ?_, ?_⟩
      · refine ⟨_, rfl, _, rfl, a, _, rfl, .inl ha1, _, _, rfl, rfl, _, rfl, ?_⟩
        rw [List.length_map]
        refine ite2 (fun hlt => ?_) fun _ => ⟨_, rfl, rfl⟩
        have lt : pl < ns.length := by have := of_decide_eq_true hlt; omega
        have cell : (ns.map V.int)[pl]? = some (V.int ns[pl]) := by rw [List.getElem?_map, List.getElem?_eq_getElem lt]; rfl
        refine ⟨_, rfl, _, rfl, a, _, _, _, rfl, rfl, ha1, atI_nat cell, _, rfl, _, _, rfl, rfl, ⟨by decide, by decide, by decide⟩, _, _, rfl, rfl, _, rfl, ?_⟩
        refine ite2 (fun _ => ?_) fun _ => ⟨_, rfl, rfl⟩
        exact ⟨_, rfl, _, rfl, a, _, _, _, rfl, rfl, ha1, atI_nat cell, _, rfl, _, rfl, rfl⟩
      · rintro σ G' ⟨r, rfl, rfl⟩
        refine ⟨_, rfl, _, rfl, by show 3 ≤ sizeLine; decide, fun b nb => ?_⟩
        exact q _ b (s1.trans (same_new nb)) (s1.free nb) ⟨r, z, 0, upd_same⟩
abbrev s__law_draw : Stmt := top 48
theorem sc__law_draw : FnScope ["purse", "size", "digit", "mixed"] ["purse", "size"] (defScope s__law_draw) := ⟨rfl, rfl, rfl, by decide +kernel, rfl, by decide +kernel, by decide +kernel⟩
-- slots of _law_draw: 0 purse, 1 size, 2 digit, 3 mixed
def spDraw : Sp := fun vs H Q _ => ∃ (b : Addr) (m : Nat), vs = [.ref b, .int m] ∧ 1 ≤ m ∧ m < 1000000 ∧ Pu H b ∧ ∀ (d : Nat) (H' : Hp), d < m → SB b H H' → Pu H' b → Q (.int d) H'
section
variable {i1 i2 i3 : Int}
theorem b30 : atI [V.int i1, .int i2, .int i3] 0 = some (V.int i1) := atI_nat (j := 0) rfl
theorem b31 : atI [V.int i1, .int i2, .int i3] 1 = some (V.int i2) := atI_nat (j := 1) rfl
theorem b32 : atI [V.int i1, .int i2, .int i3] 2 = some (V.int i3) := atI_nat (j := 2) rfl
theorem b3x {k : Nat} (h : k < 3) : ixN [V.int i1, .int i2, .int i3].length (k : Int) = some k := ixN_nat h
end
theorem ok__law_draw (T : Txt K mg C) {f : Addr} {fd : FuncData} (F : Fun K "_law_draw" "_law_draw" s__law_draw f fd) : FnOk P w K mg base CX0 1 f fd ["purse", "size"] spDraw := by
  refine F.ok sc__law_draw (fun vs H Q E h => ?_) (fun cdv A outer s H vs Q E hr h => ?_)
  · obtain ⟨b, m, rfl, _⟩ := h; rfl
  · obtain ⟨b, m, rfl, m1, m2, ⟨i1, i2, i3, hb⟩, q⟩ := h
    refine ⟨_, (pss_cons (ps_if (pt_cmpR op_gt (pe_ix (ixL_ K) (pv 0) pe_int (fun _ _ => rfl)) pe_int (nomark _))
      (pss_cons (ps_set (i := 2) sc__law_draw.nd rfl (by first | exact Or.inl rfl | exact Or.inr rfl) (pe_op op_mod (pe_callTy call_int1 (by rfl) T.int b_int (pa_cons (pe_ix (ixL_ K) (pv 0) pe_int (fun _ _ => rfl)) pa_nil)) (pv 1)))
      (pss_cons (ps_asg (pe_op op_fdiv (pe_ix (ixL_ K) (pv 0) pe_int (fun _ _ => rfl)) (pv 1)) (pg_sub (pv 0) pe_int set_list))
      (pss_one (ps_ret (pv 2))))) pss_nil)
      (pss_cons (ps_asg (pe_op op_add (pe_ix (ixL_ K) (pv 0) pe_int (fun _ _ => rfl)) pe_int) (pg_sub (pv 0) pe_int set_list))
      (pss_cons (ps_set (i := 3) sc__law_draw.nd rfl (by first | exact Or.inl rfl | exact Or.inr rfl) (pe_op op_mod (pe_callTy call_int1 (by rfl) T.int b_int (pa_cons (pe_op op_add (pe_op op_mul (pe_ix (ixL_ K) (pv 0) pe_int (fun _ _ => rfl)) pe_int) (pe_op op_mul (pe_ix (ixL_ K) (pv 0) pe_int (fun _ _ => rfl)) pe_int)) pa_nil)) pe_int))
      (pss_cons (ps_asg (pe_op op_mod (pe_callTy call_int1 (by rfl) T.int b_int (pa_cons (pe_op op_add (pe_op op_mul (pv 3) pe_int) (pe_op op_fdiv (pv 3) pe_int)) pa_nil)) pe_int) (pg_sub (pv 0) pe_int set_list))
      (pss_one (ps_ret (pe_op op_mod (pe_callTy call_int1 (by rfl) T.int b_int (pa_cons (pe_op op_fdiv (pe_ix (ixL_ K) (pv 0) pe_int (fun _ _ => rfl)) pe_int) pa_nil)) (pv 1)))))))), ?_⟩
    refine ⟨_, rfl, b, _, _, _, rfl, rfl, SqL.of hb, b30, _, _, rfl, rfl, _, rfl, ?_⟩
    refine ite2 (fun _ => ?_) fun _ => ?_
    · obtain ⟨d, hd, ed⟩ := mod_nat (i := i1) m1
      refine ⟨_, rfl, b, _, _, _, rfl, rfl, SqL.of hb, b30, .inl ⟨_, rfl, _, rfl, _, _, rfl, rfl, (by show (0 : Int) < (m : Int); omega), ?_⟩⟩
      refine ⟨_, rfl, b, _, _, _, rfl, rfl, SqL.of hb, b30, _, rfl, _, _, rfl, rfl, ⟨(by show (0 : Int) < (m : Int); omega), (by show (m : Int) < 1073741824; omega)⟩, _, rfl, set_at hb (b3x (k := 0) (by decide)) fun H3 s3 h3 => ?_⟩
      refine ⟨_, rfl, ?_⟩
      show Q (V.int (i1 % (m : Int))) H3
      rw [ed]
      exact q d H3 hd s3 ⟨_, _, _, h3⟩
    · refine ⟨_, rfl, b, _, _, _, rfl, rfl, SqL.of hb, b32, _, _, rfl, rfl, _, rfl, set_at hb (b3x (k := 2) (by decide)) fun H3 s3 h3 => ?_⟩
      have h3 : H3 b = some (.lst [.int i1, .int i2, .int (i3 + 1)]) := h3
      refine ⟨_, rfl, b, _, _, _, rfl, rfl, SqL.of h3, b31, _, _, rfl, rfl, .inr ⟨by decide, by decide⟩, _, rfl, b, _, _, _, rfl, rfl, SqL.of h3, b32, _, _, rfl, rfl, .inr ⟨by decide, by decide⟩, _, _, rfl, rfl, .inl ⟨_, rfl, _, _, rfl, rfl, (by show (0 : Int) < 2147483647; decide), ?_⟩⟩
      refine ⟨_, rfl, _, _, rfl, rfl, .inr ⟨by decide, by decide⟩, _, rfl, _, _, rfl, rfl, ⟨by decide, by decide⟩, _, _, rfl, rfl, .inl ⟨_, rfl, _, _, rfl, rfl, (by show (0 : Int) < 2147483399; decide), ?_⟩⟩
      refine ⟨_, rfl, set_at h3 (b3x (k := 1) (by decide)) fun H4 s4 h4 => ?_⟩
      have h4 : ∃ c : Int, H4 b = some (.lst [.int i1, .int c, .int (i3 + 1)]) := ⟨_, h4⟩
      obtain ⟨c, h4⟩ := h4
      refine ⟨_, rfl, b, _, _, _, rfl, rfl, SqL.of h4, b31, _, _, rfl, rfl, ⟨by decide, by decide⟩, .inl ⟨_, rfl, _, rfl, _, _, rfl, rfl, (by show (0 : Int) < (m : Int); omega), ?_⟩⟩
      obtain ⟨d, hd, ed⟩ := mod_nat (i := c / 8) m1
      show Q (V.int (c / 8 % (m : Int))) H4
      rw [ed]
      exact q d H4 hd (s3.trans s4) ⟨_, _, _, h4⟩
end
end Hue

end
section
set_option maxRecDepth 100000
set_option maxHeartbeats 4000000
namespace Hue
open PySem PySem.Spec PyProof.Rows L2
section
variable {P : Program} {w : World} {K : PySem.W.Frag} {mg : Str → Option Value} {base : Heap} {C : Addr}
theorem cons_erase {α : Type} : ∀ {l : List α} {j : Nat} {y : α}, l[j]? = some y → (y :: l.eraseIdx j).Perm l
  | [], j, y, h => by simp at h
  | a :: l, 0, y, h => by
    have e : a = y := by simpa using h
    rw [e]; exact List.Perm.refl _
  | a :: l, j + 1, y, h => by
    have ih := cons_erase (l := l) (j := j) (y := y) (by simpa using h)
    show (y :: a :: l.eraseIdx j).Perm (a :: l)
    exact (List.Perm.swap a y _).trans (ih.cons a)
def LineOk (n : Nat) (line : List Nat) : Prop := line.length = n ∧ line.Nodup ∧ ∀ k ∈ line, k < n
/-- the rows lead down the line, all drawn before (k, l) -/
def DownD (line : List Nat) (lo hi : Nat) (D : List (List Nat)) : Prop := ∀ i r, D[i]? = some r → r.Nodup ∧ ∀ y ∈ r, ∃ h l : Nat, h < l ∧ (h < lo ∨ (h = lo ∧ l < hi)) ∧ line[h]? = some i ∧ line[l]? = some y
theorem nodup_at {α : Type} {l : List α} (nd : l.Nodup) {i j : Nat} {k : α} (h1 : l[i]? = some k) (h2 : l[j]? = some k) : i = j := by
  obtain ⟨a1, a2⟩ := List.getElem?_eq_some_iff.mp h1
  obtain ⟨b1, b2⟩ := List.getElem?_eq_some_iff.mp h2
  rcases Nat.lt_trichotomy i j with h | h | h
  · exact absurd (a2.trans b2.symm) (List.pairwise_iff_getElem.mp nd i j a1 b1 h)
  · exact h
  · exact absurd (b2.trans a2.symm) (List.pairwise_iff_getElem.mp nd j i b1 a1 h)
/-- the rows at a list -/
structure DI (H0 G : Hp) (b ln dr : Addr) (line : List Nat) (as : List Addr) (D : List (List Nat)) : Prop where
  sb : SB b H0 G
  pu : Pu G b
  hl : G ln = some (.lst (nL line))
  hd : G dr = some (.lst (as.map V.ref))
  len : as.length = D.length
  row : ∀ (i : Nat) a r, as[i]? = some a → D[i]? = some r → G a = some (.lst (nL r))
  nd : as.Nodup
  nb : ∀ a ∈ as, a ≠ b ∧ a ≠ ln ∧ a ≠ dr ∧ H0 a = none
  lb : ln ≠ b
  db : dr ≠ b
namespace DI
variable {H0 G G' : Hp} {b ln dr : Addr} {line : List Nat} {as : List Addr} {D : List (List Nat)}
theorem draw (h : DI H0 G b ln dr line as D) (s : SB b G G') (pu : Pu G' b) : DI H0 G' b ln dr line as D :=
  ⟨h.sb.trans s, pu, s _ _ h.lb h.hl, s _ _ h.db h.hd, h.len, fun i a r ha hr => s _ _ (h.nb a (List.mem_of_getElem? ha)).1 (h.row i a r ha hr), h.nd, h.nb, h.lb, h.db⟩
theorem same (h : DI H0 G b ln dr line as D) (s : Same G G') : DI H0 G' b ln dr line as D := h.draw (SB.of s) (h.pu.same s)
theorem more (h : DI H0 G b ln dr line as D) {i : Nat} {a : Addr} {r : List Nat} (ha : as[i]? = some a) (hr : D[i]? = some r) (k : Nat) : DI H0 (upd G a (.lst (nL (r ++ [k])))) b ln dr line as (D.set i (r ++ [k])) := by
  obtain ⟨n1, n2, n3, n4⟩ := h.nb a (List.mem_of_getElem? ha)
  refine ⟨fun c o nc e => ?_, h.pu.upd n1, by rw [upd_ne n2.symm]; exact h.hl, by rw [upd_ne n3.symm]; exact h.hd, by rw [List.length_set]; exact h.len, fun j c q hc hq => ?_, h.nd, h.nb, h.lb, h.db⟩
  · rw [upd_ne (ne_of_none e n4)]; exact h.sb c o nc e
  · by_cases e : j = i
    · subst e
      rw [ha] at hc
      cases hc
      rw [List.getElem?_set_self (List.getElem?_eq_some_iff.mp hr).1] at hq
      cases hq
      exact upd_same
    · rw [List.getElem?_set_ne (fun z => e z.symm)] at hq
      have ne : c ≠ a := fun z => e (nodup_at h.nd hc (z ▸ ha))
      rw [upd_ne ne]
      exact h.row j c q hc hq
end DI
theorem few_lt {n : Nat} {l : List Nat} (nd : l.Nodup) (h : ∀ y ∈ l, y < n) : l.length ≤ n := by
  have := nat_nodup_len l (List.range n) nd fun x hx => List.mem_range.mpr (h x hx)
  rwa [List.length_range] at this
theorem cut_drop {l : List Nat} {k : Nat} : cutV (nL l) (some (k : Int)) none = nL (l.drop k) := by
  unfold cutV
  rw [HT.sIx_none, HT.sIx_nat, nL_len]
  unfold nL nI
  rw [List.map_map, List.map_map, ← List.map_drop]
  rcases Nat.lt_or_ge k l.length with h | h
  · rw [Nat.min_eq_left (by omega), List.take_of_length_le (by rw [List.length_map, List.length_drop]; omega)]
  · rw [Nat.min_eq_right h, List.drop_length, List.drop_eq_nil_of_le h]
    simp
theorem dn_wide {line : List Nat} {D : List (List Nat)} {lo hi hi' : Nat} (d : DownD line lo hi D) (h : hi ≤ hi') : DownD line lo hi' D := fun i r e => ⟨(d i r e).1, fun y hy => let ⟨a, b, c, k, g⟩ := (d i r e).2 y hy; ⟨a, b, c, by omega, g⟩⟩
theorem dn_row {line : List Nat} {D : List (List Nat)} {lo hi : Nat} (d : DownD line lo hi D) : DownD line (lo + 1) 0 D := fun i r e => ⟨(d i r e).1, fun y hy => let ⟨a, b, c, k, g⟩ := (d i r e).2 y hy; ⟨a, b, c, by omega, g⟩⟩
theorem dn_more {n : Nat} {line : List Nat} {D : List (List Nat)} {lo hi k y : Nat} {r : List Nat} (lok : LineOk n line) (d : DownD line lo hi D) (lh : lo < hi) (hk : line[lo]? = some k) (hy : line[hi]? = some y) (hr : D[k]? = some r) : DownD line lo (hi + 1) (D.set k (r ++ [y])) := fun i q e => by
  by_cases z : i = k
  · subst z
    rw [List.getElem?_set_self (List.getElem?_eq_some_iff.mp hr).1] at e
    cases e
    obtain ⟨nd, al⟩ := d i r hr
    refine ⟨List.nodup_append.mpr ⟨nd, by simp, fun a ha c hc => ?_⟩, fun m hm => ?_⟩
    · rw [List.mem_singleton.mp hc]
      intro e
      obtain ⟨h1, l1, c1, c2, c3, c4⟩ := al a ha
      rw [e] at c4
      have e1 := nodup_at lok.2.1 c3 hk
      have e2 := nodup_at lok.2.1 c4 hy
      omega
    · rcases List.mem_append.mp hm with hm | hm
      · obtain ⟨h1, l1, c1, c2, c3⟩ := al m hm
        exact ⟨h1, l1, c1, by omega, c3⟩
      · rw [List.mem_singleton.mp hm]
        exact ⟨lo, hi, lh, .inr ⟨rfl, Nat.lt_succ_self _⟩, hk, hy⟩
  · rw [List.getElem?_set_ne (fun z' => z z'.symm)] at e
    exact dn_wide d (Nat.le_succ _) i q e
abbrev s__law_wires : Stmt := top 49
theorem sc__law_wires : FnScope ["purse", "count", "left", "line", "k", "dense", "direct", "later"] ["purse", "count"] (defScope s__law_wires) := ⟨rfl, rfl, rfl, by decide +kernel, rfl, by decide +kernel, by decide +kernel⟩
-- slots of _law_wires: 0 purse, 1 count, 2 left, 3 line, 4 k, 5 dense, 6 direct, 7 later
def spWires : Sp := fun vs H Q _ => ∃ (b : Addr) (n : Nat), vs = [.ref b, .int n] ∧ 1 ≤ n ∧ n ≤ 16 ∧ Pu H b ∧
  ∀ (line : List Nat) (D : List (List Nat)) (t ln dr : Addr) (H' : Hp), LineOk n line → D.length = n → DownD line n 0 D → SB b H H' → H' t = some (.lst [.ref ln, .ref dr]) → H' ln = some (.lst (nL line)) → Rows H' dr D → Q (.ref t) H'
theorem ok__law_wires (T : Txt K mg C) {f : Addr} {fd : FuncData} (F : Fun K "_law_wires" "_law_wires" s__law_wires f fd) (c__law_draw : Cal P w K mg base "_law_draw" 1 spDraw) : FnOk P w K mg base CX0 2 f fd ["purse", "count"] spWires := by
  refine F.ok sc__law_wires (fun vs H Q E h => ?_) (fun cdv A outer s H vs Q E hr h => ?_)
  · obtain ⟨b, n, rfl, _⟩ := h; rfl
  · obtain ⟨b, n, rfl, n1, n16, hb, q⟩ := h
    refine ⟨_, (pss_cons (ps_set (i := 2) sc__law_wires.nd rfl (by first | exact Or.inl rfl | exact Or.inr rfl) (pe_listRg rfl (by rfl) T.list (prg_1 (by rfl) T.range (pv 1))))
      (pss_cons (ps_set (i := 3) sc__law_wires.nd rfl (by first | exact Or.inl rfl | exact Or.inr rfl) (pe_lst pa_nil))
      (pss_cons (ps_for PassesOwn.never rfl (pi_range1 (by rfl) T.range (pa_cons (pv 1) pa_nil)) (pg_name (i := 4) sc__law_wires.nd rfl (by first | exact Or.inl rfl | exact Or.inr rfl))
      (pss_one (ps_expr (pe_bm PySem.F.plainAttrs_list PySem.F.slot_list_append PySem.F.type_list_append mt_append (pv 3) (pa_cons (pe_bm PySem.F.plainAttrs_list PySem.F.slot_list_pop PySem.F.type_list_pop mt_popAt (pv 2) (pa_cons (pe_cal c__law_draw (hr.mono (by decide)) (pa_cons (pv 0) (pa_cons (pe_callB (lenS_ K) (by rfl) T.len b_len (pa_cons (pv 2) pa_nil)) pa_nil))) pa_nil)) pa_nil)))))
      (pss_cons (ps_set (i := 5) sc__law_wires.nd rfl (by first | exact Or.inl rfl | exact Or.inr rfl) (pe_cal c__law_draw (hr.mono (by decide)) (pa_cons (pv 0) (pa_cons pe_int pa_nil))))
      (pss_cons (ps_setLc (i := 6) (own := [("k", 4)]) (g := gName 4) (tt := tYes) rfl sc__law_wires.nd rfl rfl (sw_true rfl rfl rfl (by kernel_rfl)) (pi_range1 (by rfl) T.range (pa_cons (pv 1) pa_nil)) (blkOk_by (by kernel_rfl)) (fun _ _ _ _ _ => (pg_name (i := 4) sc__law_wires.nd rfl (by first | exact Or.inl rfl | exact Or.inr rfl))) (fun _ _ _ _ _ => pts_nil) (fun _ _ _ _ _ => (pe_lst pa_nil)))
      (pss_cons (ps_for PassesOwn.never rfl (pi_range1 (by rfl) T.range (pa_cons (pv 1) pa_nil)) (pg_name (i := 4) sc__law_wires.nd rfl (by first | exact Or.inl rfl | exact Or.inr rfl))
      (pss_one (ps_for PassesOwn.never rfl (pil_ K (pe_slice (slL_ K) (pv 3) (po_some (pe_op op_add (pv 4) pe_int)) po_none)) (pg_name (i := 7) sc__law_wires.nd rfl (by first | exact Or.inl rfl | exact Or.inr rfl))
      (pss_one (ps_if (pt_cmpR op_lt (pe_cal c__law_draw (hr.mono (by decide)) (pa_cons (pv 0) (pa_cons pe_int pa_nil))) (pv 5) (nomark _))
      (pss_one (ps_expr (pe_bm PySem.F.plainAttrs_list PySem.F.slot_list_append PySem.F.type_list_append mt_append (pe_ix (ixL_ K) (pv 6) (pe_ix (ixL_ K) (pv 3) (pv 4) (fun _ _ => rfl)) (fun _ _ => rfl)) (pa_cons (pv 7) pa_nil)))) pss_nil)))))
      (pss_one (ps_ret (pe_lst (pa_cons (pv 3) (pa_cons (pv 6) pa_nil))))))))))), ?_⟩
    refine ⟨_, rfl, _, rfl, rgOk n (by omega), fun r nr => ?_⟩
    rw [rgV_nL]
    have s1 : Same H (L2.upd H r (.lst (nL (List.range n)))) := same_new nr
    have hr1 : (L2.upd H r (.lst (nL (List.range n)))) r = some (.lst (nL (List.range n))) := upd_same
    have p1 := hb.same s1
    have nrb := hb.new nr
    generalize L2.upd H r (.lst (nL (List.range n))) = H1 at s1 hr1 p1 ⊢
    refine ⟨by decide, fun ln nln => ?_⟩
    have s2 : Same H1 (L2.upd H1 ln (.lst [])) := same_new nln
    have hl2 : (L2.upd H1 ln (.lst [])) ln = some (.lst (nL [])) := upd_same
    have nrl : r ≠ ln := ne_of_none hr1 nln
    have hr2 := s2 _ _ hr1
    have p2 := p1.same s2
    have sb2 : SB b H (L2.upd H1 ln (.lst [])) := SB.of (s1.trans s2)
    have hln0 : H ln = none := s1.free nln
    have nlb := p1.new nln
    generalize L2.upd H1 ln (.lst []) = H2 at s2 hl2 hr2 p2 sb2 ⊢
    refine ⟨_, rfl, _, rfl, by omega, by omega, ?_⟩
    rw [Int.toNat_natCast]
    refine for_range (fun i σ H3 => ∃ (v : Option V) (rs line : List Nat), σ = [some (.ref b), some (.int n), some (.ref r), some (.ref ln), v, none, none, none] ∧ SB b H H3 ∧ Pu H3 b ∧ H3 r = some (.lst (nL rs)) ∧ H3 ln = some (.lst (nL line)) ∧ line.length = i ∧ rs.length = n - i ∧ (rs ++ line).Perm (List.range n))
      ⟨_, List.range n, [], rfl, sb2, p2, hr2, hl2, rfl, by rw [List.length_range]; omega, by rw [List.append_nil]⟩ ?_ ?_
    · rintro i σ H3 hi ⟨v, rs, line, rfl, sb3, p3, hr3, hl3, ll, lr, perm⟩
      refine ⟨_, rfl, .inl ⟨rfl, _, SqL.of hl3⟩, _, rfl, .inl ⟨rfl, _, SqL.of hr3⟩, _, rfl, _, rfl, r, _, rfl, .inl (SqL.of hr3), b, rs.length, by rw [nL_len], by omega, by omega, p3, fun d H4 hd s4 p4 => ?_⟩
      have hr4 := s4 _ _ nrb hr3
      have hl4 := s4 _ _ nlb hl3
      obtain ⟨y, hy⟩ : ∃ y, rs[d]? = some y := ⟨_, List.getElem?_eq_getElem hd⟩
      obtain ⟨j, e1, e2, _, b1, b2⟩ := atI_get (atI_nat (nL_get hy))
      have ej : ∃ z, rs[j]? = some z ∧ (z : Int) = (y : Int) := by
        unfold nL nI at e2
        rw [List.map_map, List.getElem?_map] at e2
        obtain ⟨z, hz, e⟩ := Option.map_eq_some_iff.mp e2
        exact ⟨z, hz, by injection e⟩
      obtain ⟨z, hz, ez⟩ := ej
      have ezy : z = y := by omega
      rw [ezy] at hz
      rw [nL_len] at b1 b2
      refine ⟨r, _, _, j, _, rfl, rfl, hr4, by omega, by omega, e1, e2, ?_⟩
      rw [nL_erase]
      have hl5 : (L2.upd H4 r (.lst (nL (rs.eraseIdx j)))) ln = some (.lst (nL line)) := by rw [upd_ne nrl.symm]; exact hl4
      have sb5 : SB b H (L2.upd H4 r (.lst (nL (rs.eraseIdx j)))) := fun b' o nb e => by
        rw [upd_ne (ne_of_none e nr)]; exact (sb3.trans s4) b' o nb e
      have hr5 : (L2.upd H4 r (.lst (nL (rs.eraseIdx j)))) r = some (.lst (nL (rs.eraseIdx j))) := upd_same
      have p5 : Pu (L2.upd H4 r (.lst (nL (rs.eraseIdx j)))) b := p4.upd nrb
      generalize L2.upd H4 r (.lst (nL (rs.eraseIdx j))) = H5 at hl5 sb5 hr5 p5 ⊢
      refine ⟨ln, _, _, rfl, rfl, hl5, by rw [nL_len, sizeLine_eq]; omega, ?_⟩
      refine ⟨_, rs.eraseIdx j, line ++ [y], rfl, ?_, ?_, by rw [upd_ne nrl]; exact hr5, by rw [upd_same, nL_app]; rfl, by rw [List.length_append, ll]; rfl, ?_, ?_⟩
      · exact fun b' o nb e => by rw [upd_ne (ne_of_none e hln0)]; exact sb5 b' o nb e
      · exact p5.upd nlb
      · have jl := (List.getElem?_eq_some_iff.mp hz).1
        rw [List.length_eraseIdx_of_lt jl, lr]; omega
      · refine List.Perm.trans ?_ perm
        have pe : (y :: rs.eraseIdx j).Perm rs := cons_erase hz
        refine List.Perm.trans ?_ (pe.append_right line)
        rw [← List.append_assoc]
        exact List.perm_append_singleton y _
    rintro σ H3 ⟨v, rs, line, rfl, sb3, p3, hr3, hl3, ll, lr, perm⟩
    have e : rs = [] := List.eq_nil_of_length_eq_zero (by omega)
    rw [e, List.nil_append] at perm
    have lok : LineOk n line := ⟨ll, perm.nodup_iff.mpr List.nodup_range, fun k hk => List.mem_range.mp (perm.mem_iff.mp hk)⟩
    clear hr3 hr2 hr1
    refine ⟨_, rfl, b, 5, rfl, by decide, by decide, p3, fun dn H4 hdn s4 p4 => ?_⟩
    have hl4 := s4 _ _ nlb hl3
    have sb4 := sb3.trans s4
    refine ⟨_, rfl, _, rfl, by omega, by omega, fun D hD => ?_⟩
    rw [Int.toNat_natCast]
    have nDb : D ≠ b := p4.new hD
    refine lc_range (fun i G => ∃ as : List Addr, G D = some (.lst (as.map V.ref)) ∧ as.length = i ∧ as.Nodup ∧ (∀ a ∈ as, G a = some (.lst (nL [])) ∧ a ≠ b ∧ a ≠ ln ∧ a ≠ D ∧ H a = none) ∧ Same H4 G) ⟨[], upd_same, rfl, List.nodup_nil, fun a ha => by simp at ha, same_new hD⟩ ?_ ?_
    · rintro i G hi ⟨as, gD, la, nd, al, sG⟩
      refine ⟨rfl, yesT ⟨by decide, fun p np => ?_⟩⟩
      have t1 : Same G (L2.upd G p (.lst [])) := same_new np
      have nDp : p ≠ D := (ne_of_none gD np).symm
      refine ⟨_, t1 _ _ gD, by rw [List.length_map, la, sizeLine_eq]; omega, as ++ [p], by rw [upd_same, List.map_append]; rfl, by rw [List.length_append, la]; rfl, ?_, fun a ha => ?_, same_upd (sG.trans t1) hD⟩
      · refine List.nodup_append.mpr ⟨nd, by simp, fun a ha c hc e => ?_⟩
        rw [e, List.mem_singleton.mp hc] at ha
        have z := (al p ha).1
        rw [np] at z; cases z
      · rcases List.mem_append.mp ha with ha | ha
        · obtain ⟨a1, a2, a3, a4, a5⟩ := al a ha
          exact ⟨by rw [upd_ne a4]; exact t1 _ _ a1, a2, a3, a4, a5⟩
        · rw [List.mem_singleton.mp ha]
          refine ⟨by rw [upd_ne nDp]; exact upd_same, (p4.same sG).new np, (ne_of_none (sG _ _ hl4) np).symm, nDp, ?_⟩
          cases e : H p with
          | none => rfl
          | some o =>
            have npb := (p4.same sG).new np
            have z := sG _ _ (sb4 _ _ npb e)
            rw [np] at z; cases z
    rintro G ⟨as, gD, la, nd, al, sG⟩
    have inv : DI H G b ln D line as (List.replicate n []) := ⟨sb4.trans (SB.of sG), p4.same sG, sG _ _ hl4, gD, by rw [List.length_replicate, la], fun i a r ha hr => by
      have er : r = [] := by
        rw [List.getElem?_replicate] at hr
        split at hr
        · cases hr; rfl
        · cases hr
      rw [er]; exact (al a (List.mem_of_getElem? ha)).1, nd, fun a ha => (al a ha).2, nlb, nDb⟩
    have dn0 : DownD line 0 0 (List.replicate n []) := fun i r hr => by
      have er : r = [] := by
        rw [List.getElem?_replicate] at hr
        split at hr
        · cases hr; rfl
        · cases hr
      rw [er]; exact ⟨List.nodup_nil, fun y hy => absurd hy List.not_mem_nil⟩
    clear al gD
    refine ⟨_, rfl, _, rfl, by omega, by omega, ?_⟩
    rw [Int.toNat_natCast]
    refine for_range (fun i σ G => ∃ (v4 v7 : Option V) (Dd : List (List Nat)), σ = [some (.ref b), some (.int n), some (.ref r), some (.ref ln), v4, some (.int dn), some (.ref D), v7] ∧ DI H G b ln D line as Dd ∧ Dd.length = n ∧ DownD line i 0 Dd)
      ⟨_, _, _, rfl, inv, List.length_replicate .., dn0⟩ ?_ ?_
    · rintro i σ G1 hi ⟨v4, v7, Dd, rfl, iv, lD, dd⟩
      have e0 : (0 : Int) + (i : Int) = (i : Int) := by omega
      rw [e0]
      refine ⟨_, rfl, _, rfl, _, _, rfl, rfl, _, rfl, ln, _, rfl, SqL.of iv.hl, fun cz ncz => ?_⟩
      have ec : (i : Int) + 1 = ((i + 1 : Nat) : Int) := by omega
      rw [ec, cut_drop]
      have t1 : Same G1 (L2.upd G1 cz (.lst (nL (line.drop (i + 1))))) := same_new ncz
      have hcz : (L2.upd G1 cz (.lst (nL (line.drop (i + 1))))) cz = some (.lst (nL (line.drop (i + 1)))) := upd_same
      have nczb := iv.pu.new ncz
      have ncr : ∀ a ∈ as, cz ≠ a := fun a ha => by
        obtain ⟨j, hj, e⟩ := List.getElem_of_mem ha
        have hj' : as[j]? = some a := by rw [List.getElem?_eq_getElem hj, e]
        have z := iv.row j a _ hj' (List.getElem?_eq_getElem (by rw [← iv.len]; exact hj))
        exact (ne_of_none z ncz).symm
      have iv := iv.same t1
      generalize L2.upd G1 cz (.lst (nL (line.drop (i + 1)))) = G2 at t1 hcz iv ⊢
      obtain ⟨k, hk⟩ : ∃ k, line[i]? = some k := ⟨_, List.getElem?_eq_getElem (by omega)⟩
      have kn : k < n := lok.2.2 k (List.mem_of_getElem? hk)
      obtain ⟨a, ha⟩ : ∃ a, as[k]? = some a := ⟨_, List.getElem?_eq_getElem (by omega)⟩
      refine ⟨cz, rfl, ⟨_, SqL.of hcz⟩, ?_⟩
      refine for_list (K := K) (a := cz) (xs := nL (line.drop (i + 1))) (fun j σ G => ∃ (v7 : Option V) (Dd : List (List Nat)), σ = [some (.ref b), some (.int n), some (.ref r), some (.ref ln), some (.int i), some (.int dn), some (.ref D), v7] ∧ DI H G b ln D line as Dd ∧ Dd.length = n ∧ DownD line i (i + 1 + j) Dd ∧ G cz = some (.lst (nL (line.drop (i + 1)))))
        ⟨_, Dd, rfl, iv, lD, dn_wide dd (Nat.zero_le _), hcz⟩ (fun j σ G _ ⟨_, _, _, _, _, _, e⟩ => SqL.of e) ?_ ?_
      · rintro j y σ G hy ⟨v7, Dd, rfl, iv, lD, dd, hcz⟩
        obtain ⟨l, hl, rfl⟩ := nL_it2 hy
        rw [List.getElem?_drop] at hl
        refine ⟨_, rfl, b, 4, rfl, by decide, by decide, iv.pu, fun d G3 hd s3 p3 => ⟨_, rfl, _, _, rfl, rfl, _, rfl, ?_⟩⟩
        have iv := iv.draw s3 p3
        have hcz3 := s3 _ _ nczb hcz
        refine ite2 (fun _ => ?_) fun _ => ⟨_, Dd, rfl, iv, lD, dn_wide dd (Nat.le_succ _), hcz3⟩
        obtain ⟨q1, hq1⟩ : ∃ q1, Dd[k]? = some q1 := ⟨_, List.getElem?_eq_getElem (by omega)⟩
        have hrow := iv.row k a q1 ha hq1
        have hka : (as.map V.ref)[k]? = some (.ref a) := by rw [List.getElem?_map, ha]; rfl
        have few : q1.length ≤ n := few_lt (dd k q1 hq1).1 fun y hy => by
          obtain ⟨_, _, _, _, _, e⟩ := (dd k q1 hq1).2 y hy
          exact lok.2.2 y (List.mem_of_getElem? e)
        refine ⟨_, rfl, _, rfl, _, rfl, ln, _, _, _, rfl, rfl, SqL.of iv.hl, atI_nat (nL_get hk), D, _, _, _, rfl, rfl, SqL.of iv.hd, atI_nat hka, .inl ⟨rfl, _, SqL.of hrow⟩, _, rfl, a, _, _, rfl, rfl, hrow, by rw [nL_len, sizeLine_eq]; omega, _, Dd.set k (q1 ++ [l]), rfl, ?_, by rw [List.length_set]; exact lD, ?_, ?_⟩
        · have z := iv.more ha hq1 l
          rw [nL_app] at z
          exact z
        · exact dn_more (hi := i + 1 + j) lok dd (by omega) hk hl hq1
        · rw [upd_ne (ncr a (List.mem_of_getElem? ha))]; exact hcz3
      · rintro σ G ⟨v7, Dd, rfl, iv, lD, dd, _⟩
        exact ⟨_, _, Dd, rfl, iv, lD, dn_row dd⟩
    · rintro σ G1 ⟨v4, v7, Dd, rfl, iv, lD, dd⟩
      refine ⟨_, rfl, _, rfl, by show 2 ≤ sizeLine; decide, fun t nt => ?_⟩
      have t1 : Same G1 (L2.upd G1 t (.lst [.ref ln, .ref D])) := same_new nt
      exact q line Dd t ln D _ lok lD dd (iv.sb.trans (SB.of t1)) upd_same (t1 _ _ iv.hl) ⟨as, t1 _ _ iv.hd, iv.len, fun i a r ha hr => t1 _ _ (iv.row i a r ha hr)⟩
theorem Pairs.grow {H : Hp} {wz t : Addr} {xs : List V} {ts : List Addr} {ps : List (Nat × Nat)} {k l : Nat} (h : Pairs H ts ps) (ht : H t = some (.tup [.int (k : Int), .int (l : Int)])) (hw : H wz = some (.lst xs)) {ys : List V} : Pairs (upd H wz (.lst ys)) (ts ++ [t]) (ps ++ [(k, l)]) := by
  have lay : ∀ {c : Addr} {zs : List V}, H c = some (.tup zs) → (upd H wz (.lst ys)) c = some (.tup zs) := fun e => by rw [upd_ne (ne_of e hw (by intro z; cases z))]; exact e
  refine ⟨by rw [List.length_append, List.length_append, h.1]; rfl, fun i c r hc hr => ?_⟩
  rcases Nat.lt_or_ge i ts.length with lt | ge
  · rw [List.getElem?_append_left lt] at hc
    rw [List.getElem?_append_left (by rw [← h.1]; exact lt)] at hr
    exact lay (h.2 i c r hc hr)
  · rw [List.getElem?_append_right ge] at hc
    rw [List.getElem?_append_right (by rw [← h.1]; exact ge)] at hr
    have j0 : i - ts.length = 0 := by
      rcases Nat.eq_zero_or_pos (i - ts.length) with z | z
      · exact z
      · rw [List.getElem?_eq_none (by rw [List.length_singleton]; exact z)] at hc; cases hc
    rw [j0] at hc
    rw [← h.1, j0] at hr
    cases hc
    cases hr
    exact lay ht
def pairsOf (line : List Nat) (D : List (List Nat)) : List (Nat × Nat) := line.flatMap fun u => (D.getD u []).map fun l => (u, l)
theorem row_few {n : Nat} {line : List Nat} {D : List (List Nat)} (lok : LineOk n line) (dn : DownD line n 0 D) (k : Nat) : (D.getD k []).length ≤ n := by
  rw [List.getD_eq_getElem?_getD]
  cases e : D[k]? with
  | none => exact Nat.zero_le _
  | some r =>
    refine few_lt (dn k r e).1 fun y hy => ?_
    obtain ⟨_, _, _, _, _, z⟩ := (dn k r e).2 y hy
    exact lok.2.2 y (List.mem_of_getElem? z)
theorem flat_few {n : Nat} {line : List Nat} {D : List (List Nat)} (lok : LineOk n line) (dn : DownD line n 0 D) : ∀ L : List Nat, (L.flatMap fun u => (D.getD u []).map fun l => (u, l)).length ≤ L.length * n
  | [] => by simp
  | u :: L => by
    have := flat_few lok dn L
    have := row_few lok dn u
    rw [List.flatMap_cons, List.length_append, List.length_map, List.length_cons, Nat.succ_mul]
    omega
theorem few_pairs {n : Nat} {line : List Nat} {D : List (List Nat)} {r : List Nat} {i k : Nat} (lok : LineOk n line) (n16 : n ≤ 16) (lD : D.length = n) (dn : DownD line n 0 D) (hr : D[k]? = some r) (hk : line[i]? = some k) (j : Nat) : (((line.take i).flatMap fun u => (D.getD u []).map fun l => (u, l)) ++ (r.take j).map fun l => (k, l)).length < 16777216 := by
  have a := flat_few lok dn (line.take i)
  have b : (r.take j).length ≤ 16 := by
    have z := row_few lok dn k
    rw [List.getD_eq_getElem?_getD, hr] at z
    have z : r.length ≤ n := z
    rw [List.length_take]; omega
  have c : (line.take i).length ≤ 16 := by rw [List.length_take, lok.1]; omega
  have d : (line.take i).length * n ≤ 16 * 16 := Nat.mul_le_mul c n16
  rw [List.length_append, List.length_map]
  omega
abbrev s__law_pairs : Stmt := top 50
theorem sc__law_pairs : FnScope ["line", "direct", "pairs", "upper", "lower"] ["line", "direct"] (defScope s__law_pairs) := ⟨rfl, rfl, rfl, by decide +kernel, rfl, by decide +kernel, by decide +kernel⟩
-- slots of _law_pairs: 0 line, 1 direct, 2 pairs, 3 upper, 4 lower
def spPairsL : Sp := fun vs H Q _ => ∃ (ln dr : Addr) (n : Nat) (line : List Nat) (D : List (List Nat)), vs = [.ref ln, .ref dr] ∧ n ≤ 16 ∧ H ln = some (.lst (nL line)) ∧ Rows H dr D ∧ LineOk n line ∧ D.length = n ∧ DownD line n 0 D ∧
  ∀ (t : Addr) (H' : Hp) (ts : List Addr), Same H H' → H' t = some (.lst (ts.map V.ref)) → Pairs H' ts (line.flatMap fun u => (D.getD u []).map fun l => (u, l)) → Q (.ref t) H'
theorem ok__law_pairs (T : Txt K mg C) {f : Addr} {fd : FuncData} (F : Fun K "_law_pairs" "_law_pairs" s__law_pairs f fd) : FnOk P w K mg base CX0 1 f fd ["line", "direct"] spPairsL := by
  refine F.ok sc__law_pairs (fun vs H Q E h => ?_) (fun cdv A outer s H vs Q E hr h => ?_)
  · obtain ⟨ln, dr, n, line, D, rfl, _⟩ := h; rfl
  · obtain ⟨ln, dr, n, line, D, rfl, n16, hl, hD, lok, lD, dn, q⟩ := h
    refine ⟨_, (pss_cons (ps_set (i := 2) sc__law_pairs.nd rfl (by first | exact Or.inl rfl | exact Or.inr rfl) (pe_lst pa_nil))
      (pss_cons (ps_for PassesOwn.never rfl (pil_ K (pv 0)) (pg_name (i := 3) sc__law_pairs.nd rfl (by first | exact Or.inl rfl | exact Or.inr rfl))
      (pss_one (ps_for PassesOwn.never rfl (pil_ K (pe_ix (ixL_ K) (pv 1) (pv 3) (fun _ _ => rfl))) (pg_name (i := 4) sc__law_pairs.nd rfl (by first | exact Or.inl rfl | exact Or.inr rfl))
      (pss_one (ps_expr (pe_bm PySem.F.plainAttrs_list PySem.F.slot_list_append PySem.F.type_list_append mt_append (pv 2) (pa_cons (pe_tup (pa_cons (pv 3) (pa_cons (pv 4) pa_nil))) pa_nil)))))))
      (pss_one (ps_ret (pv 2))))), ?_⟩
    refine ⟨by decide, fun wz nw => ?_⟩
    have s1 : Same H (L2.upd H wz (.lst [])) := same_new nw
    have hw1 : (L2.upd H wz (.lst [])) wz = some (.lst []) := upd_same
    generalize L2.upd H wz (.lst []) = H1 at s1 hw1 ⊢
    refine ⟨_, rfl, ln, rfl, ⟨_, SqL.of (s1 _ _ hl)⟩, ?_⟩
    refine for_list (K := K) (a := ln) (xs := nL line) (fun i σ G => ∃ (v3 v4 : Option V) (ts : List Addr), σ = [some (.ref ln), some (.ref dr), some (.ref wz), v3, v4] ∧ Same H G ∧ G wz = some (.lst (ts.map V.ref)) ∧ Pairs G ts ((line.take i).flatMap fun u => (D.getD u []).map fun l => (u, l))) ⟨_, _, [], rfl, s1, hw1, rfl, fun i t p e => by simp at e⟩ (fun i σ G _ ⟨_, _, _, _, s, _⟩ => SqL.of (s _ _ hl)) ?_ ?_
    · rintro i y σ G hy ⟨v3, v4, ts, rfl, sG, hw, pr⟩
      obtain ⟨k, hk, rfl⟩ := nL_it2 hy
      have kn : k < n := lok.2.2 k (List.mem_of_getElem? hk)
      obtain ⟨r, hr⟩ : ∃ r, D[k]? = some r := ⟨_, List.getElem?_eq_getElem (by omega)⟩
      have er : D.getD k [] = r := by rw [List.getD_eq_getElem?_getD, hr]; rfl
      obtain ⟨xs, a, g1, g2, g3, g4⟩ := hD.at hr
      rw [List.take_add_one, hk, List.flatMap_append]
      refine ⟨_, rfl, _, rfl, dr, _, _, _, rfl, rfl, SqL.of (sG _ _ g1), atI_nat g3, a, rfl, ⟨_, SqL.of (sG _ _ g4)⟩, ?_⟩
      refine for_list (K := K) (a := a) (xs := nL r) (fun j σ G => ∃ (v4 : Option V) (ts : List Addr), σ = [some (.ref ln), some (.ref dr), some (.ref wz), some (.int k), v4] ∧ Same H G ∧ G wz = some (.lst (ts.map V.ref)) ∧ Pairs G ts (((line.take i).flatMap fun u => (D.getD u []).map fun l => (u, l)) ++ (r.take j).map fun l => (k, l))) ⟨_, ts, rfl, sG, hw, by rw [List.take_zero, List.map_nil, List.append_nil]; exact pr⟩ (fun j σ G _ ⟨_, _, _, s, _⟩ => SqL.of (s _ _ g4)) ?_ ?_
      · rintro j y σ G hy ⟨v4, ts, rfl, sG, hw, pr⟩
        obtain ⟨l, hl2, rfl⟩ := nL_it2 hy
        have lw : ts.length < sizeLine := by rw [pr.1, sizeLine_eq]; exact few_pairs lok n16 lD dn hr hk j
        refine ⟨_, rfl, .inl ⟨rfl, _, SqL.of hw⟩, _, rfl, _, rfl, by show 2 ≤ sizeLine; decide, fun t nt => ?_⟩
        have t1 : Same G (L2.upd G t (.tup [.int (k : Int), .int (l : Int)])) := same_new nt
        have ht : (L2.upd G t (.tup [.int (k : Int), .int (l : Int)])) t = some (.tup [.int (k : Int), .int (l : Int)]) := upd_same
        generalize L2.upd G t (.tup [.int (k : Int), .int (l : Int)]) = G2 at t1 ht ⊢
        refine ⟨wz, _, _, rfl, rfl, t1 _ _ hw, by rw [List.length_map]; exact lw, _, ts ++ [t], rfl, same_upd (sG.trans t1) nw, by rw [upd_same, List.map_append]; rfl, ?_⟩
        rw [List.take_add_one, hl2, List.map_append, ← List.append_assoc]
        exact (pr.same t1).grow ht (t1 _ _ hw)
      · rintro σ G ⟨v4, ts, rfl, sG, hw, pr⟩
        rw [nL_len, List.take_length] at pr
        refine ⟨_, _, ts, rfl, sG, hw, ?_⟩
        rw [show (some k).toList = [k] from rfl, List.flatMap_cons, List.flatMap_nil, List.append_nil, er]
        exact pr
    · rintro σ G ⟨v3, v4, ts, rfl, sG, hw, pr⟩
      rw [nL_len, List.take_length] at pr
      exact ⟨_, rfl, q wz G ts sG hw pr⟩
end
end Hue

end
section
set_option maxRecDepth 100000
set_option maxHeartbeats 4000000
namespace L2
open PySem PySem.Spec PyProof.Rows
/-! ### sorted() of a set of numbers below a bound -/
theorem setR_few {w : World} {h : Heap} {a : Addr} {S : Int → Bool} {n m : Nat} (R : SetR w h a S n) (b : ∀ k, S k = true → 0 ≤ k ∧ k < (m : Int)) : n ≤ m := by
  obtain ⟨o, es, ep, t, _, _, _, _, nd, mem, _, _, en, _⟩ := R
  have e1 : (es.toList.map keyOf).length = n := by rw [List.length_map, Array.length_toList]; exact en
  have nd2 : ((es.toList.map keyOf).map Int.toNat).Nodup := by
    rw [List.Nodup, List.pairwise_map]
    refine List.Pairwise.imp_of_mem ?_ nd
    intro x y hx hy ne e
    have := b x ((mem x).mpr hx)
    have := b y ((mem y).mpr hy)
    exact ne (by omega)
  have z := nat_nodup_len _ (List.range m) nd2 fun x hx => by
    obtain ⟨y, hy, rfl⟩ := List.mem_map.mp hx
    have := b y ((mem y).mpr hy)
    exact List.mem_range.mpr (by omega)
  rw [List.length_range, List.length_map, e1] at z
  exact z
def rSortedSetB (w : World) : List V → Hp → VK → Prop := fun vs H Q => ∃ (a : Addr) (S : Int → Bool) (n m : Nat), vs = [V.ref a] ∧ H a = some (SetO w a S n) ∧ (∀ k, S k = true → 0 ≤ k ∧ k < (m : Int)) ∧ m < 64 ∧
  ∀ (ns : List Int) (p : Addr), ns.Pairwise (· < ·) → (∀ k : Int, k ∈ ns ↔ S k = true) → H p = none → Q (.ref p) (upd H p (.lst (ns.map V.int)))
theorem sortedSetB_ {X : Cx} (w : World) (hc : X.calm = true) (hw : X.w = w := by rfl) : CallR X (.builtin "sorted") (rSortedSetB w) := by
  subst hw
  intro pins s σ H vs us Q I r h
  obtain ⟨a, S, n, m, rfl, ha, b, m64, q⟩ := h
  have := setR_few (setO_get I ha) b
  exact cr_sortedSet hc pins s σ H _ us Q I r ⟨a, S, n, rfl, ha, by omega, fun ns p h1 h2 _ h3 => q ns p h1 h2 h3⟩
/-- the turns of reversed(list), for the for loop -/
theorem for_rev {K : PySem.W.Frag} {a : Addr} {xs : List V} {g : TG} {tb : TS} {D : Ends} {σ : St} {H : Hp} (Pv : Nat → St → Hp → Prop) (h0 : Pv 0 σ H) (hl : ∀ i σ H, i ≤ xs.length → Pv i σ H → SqL K H a xs)
    (hs : ∀ i x σ H, i < xs.length → xs[xs.length - 1 - i]? = some x → Pv i σ H → g x σ H fun σ2 H2 => tb { D with nx := Pv (i + 1), ct := Pv (i + 1), bk := D.nx } σ2 H2) (hd : ∀ σ H, Pv xs.length σ H → D.nx σ H) :
    ∃ W : Nat → Nat → St → Hp → Prop, (∃ m, W 0 m σ H) ∧ ∀ i m σ H, W i m σ H →
      ((Itv K a xs.length).stop i H ∧ D.nx σ H) ∨ ((Itv K a xs.length).go i H ∧ ∃ N : St → Hp → Prop, (∀ σ' H', N σ' H' → ∃ m', m' < m ∧ W (i + 1) m' σ' H') ∧ ∀ x H', (Itv K a xs.length).yld i H x H' → g x σ H' fun σ2 H2 => tb { D with nx := N, ct := N, bk := D.nx } σ2 H2) := by
  refine ⟨fun i m σ H => m = xs.length - i ∧ i ≤ xs.length ∧ Pv i σ H, ⟨xs.length, by simp, Nat.zero_le _, h0⟩, ?_⟩
  rintro i m σ H ⟨rfl, hi, p⟩
  have q := hl i σ H hi p
  by_cases hlt : i < xs.length
  · refine .inr ⟨⟨hlt, xs, xs[xs.length - 1 - i], q, List.getElem?_eq_getElem (by omega)⟩, Pv (i + 1), fun σ' H' p' => ⟨xs.length - (i + 1), by omega, rfl, hlt, p'⟩, fun x H' y => ?_⟩
    obtain ⟨e, y⟩ := y
    subst e
    exact hs i x σ _ hlt (y xs q) p
  · have e : i = xs.length := by omega
    subst e
    exact .inl ⟨Nat.le_refl _, hd σ H p⟩
end L2
namespace Hue
open PySem PySem.Spec PyProof.Rows L2
section
variable {P : Program} {w : World} {K : PySem.W.Frag} {mg : Str → Option Value} {base : Heap} {C : Addr}
/-! ### wires of a line and its rows -/
structure WsOk (n : Nat) (ps : List (Nat × Nat)) : Prop where
  nd : ps.Nodup
  few : ps.length < 4900
  rk : ∃ ρ : Nat → Nat, (∀ k, k < n → ρ k < n) ∧ ∀ p ∈ ps, ρ p.1 < ρ p.2
  lt : ∀ p ∈ ps, p.1 < n ∧ p.2 < n
theorem WsOk.ranked {n : Nat} {ps : List (Nat × Nat)} (W : WsOk n ps) : Ranked (relOf ps) := let ⟨_, _, hρ⟩ := W.rk; relOf_ranked hρ
theorem fold_sub {R : Rel} (tr : Trans R) : ∀ (ps : List (Nat × Nat)) (S : Rel), (∀ i j, S i j = true → R i j = true) → (∀ p ∈ ps, R p.1 p.2 = true) → ∀ i j, ps.foldl (fun R p => addW R p.1 p.2) S i j = true → R i j = true
  | [], S, h, _, i, j, z => h i j z
  | p :: ps, S, h, g, i, j, z => by
    refine fold_sub tr ps (addW S p.1 p.2) (fun i j y => ?_) (fun q hq => g q (List.mem_cons_of_mem _ hq)) i j z
    have r := g p List.mem_cons_self
    rcases addW_iff.mp y with y | ⟨y1, y2⟩
    · exact h i j y
    · have r1 : R i p.2 = true := by
        rcases y1 with e | e
        · rw [e]; exact r
        · exact tr _ _ _ (h _ _ e) r
      rcases y2 with e | e
      · rw [e]; exact r1
      · exact tr _ _ _ r1 (h _ _ e)
theorem fold_up : ∀ (ps : List (Nat × Nat)) (S : Rel) (i j : Nat), S i j = true → ps.foldl (fun R p => addW R p.1 p.2) S i j = true
  | [], S, i, j, h => h
  | p :: ps, S, i, j, h => fold_up ps _ i j (addW_iff.mpr (.inl h))
theorem fold_in : ∀ (ps : List (Nat × Nat)) (S : Rel), ∀ p ∈ ps, ps.foldl (fun R p => addW R p.1 p.2) S p.1 p.2 = true
  | [], S, p, hp => absurd hp List.not_mem_nil
  | q :: ps, S, p, hp => by
    rcases List.mem_cons.mp hp with e | hp
    · rw [e]; exact fold_up ps _ _ _ (addW_iff.mpr (.inr ⟨.inl rfl, .inl rfl⟩))
    · exact fold_in ps _ p hp
theorem line_all {n : Nat} {line : List Nat} (h : LineOk n line) {k : Nat} (hk : k < n) : k ∈ line := by
  obtain ⟨h1, h2, h3⟩ := h
  rcases Classical.em (k ∈ line) with z | z
  · exact z
  · have := nat_nodup_len (k :: line) (List.range n) (List.nodup_cons.mpr ⟨z, h2⟩) fun x hx => by
      rcases List.mem_cons.mp hx with e | e
      · rw [e]; exact List.mem_range.mpr hk
      · exact List.mem_range.mpr (h3 x e)
    rw [List.length_cons, h1, List.length_range] at this
    omega
/-- rows at a list of which one is set anew -/
theorem rows_put {H H' : Hp} {t p : Addr} {as : List Addr} {B : List (List Nat)} {r : List Nat} {k : Nat} (h1 : H t = some (.lst (as.map V.ref))) (h2 : as.length = B.length) (h3 : ∀ (i : Nat) a q, as[i]? = some a → B[i]? = some q → H a = some (.lst (nL q))) (s : SB t H H') (e : H' t = some (.lst ((as.map V.ref).set k (.ref p)))) (hp : H p = some (.lst (nL r))) (hk : k < as.length) : Rows H' t (B.set k r) := by
  have ne : ∀ {a : Addr} {q : List Nat}, H a = some (.lst (nL q)) → a ≠ t := fun {a q} ha z => by
    rw [z, h1] at ha
    injection ha with ha
    injection ha with ha
    cases as with
    | nil => exact absurd hk (Nat.not_lt_zero _)
    | cons c cs =>
      cases q with
      | nil => cases ha
      | cons y ys => injection ha with ha; cases ha
  refine ⟨as.set k p, by rw [e, ← List.map_set], by rw [List.length_set, List.length_set, h2], fun i a q ha hq => ?_⟩
  by_cases z : i = k
  · subst z
    rw [List.getElem?_set_self hk] at ha
    rw [List.getElem?_set_self (by rw [← h2]; exact hk)] at hq
    cases ha
    cases hq
    exact s _ _ (ne hp) hp
  · rw [List.getElem?_set_ne (fun y => z y.symm)] at ha hq
    exact s _ _ (ne (h3 i a q ha hq)) (h3 i a q ha hq)
theorem mem_pairs {line : List Nat} {D : List (List Nat)} {p : Nat × Nat} : p ∈ pairsOf line D ↔ p.1 ∈ line ∧ p.2 ∈ D.getD p.1 [] := by
  unfold pairsOf
  rw [List.mem_flatMap]
  constructor
  · rintro ⟨u, hu, hp⟩
    obtain ⟨l, hl, rfl⟩ := List.mem_map.mp hp
    exact ⟨hu, hl⟩
  · rintro ⟨h1, h2⟩
    exact ⟨p.1, h1, List.mem_map.mpr ⟨p.2, h2, rfl⟩⟩
theorem rel_step {line : List Nat} {D : List (List Nat)} {u j : Nat} : relOf (pairsOf line D) u j = true ↔ u ∈ line ∧ ∃ l ∈ D.getD u [], j = l ∨ relOf (pairsOf line D) l j = true := by
  classical
  have tr := relOf_trans (pairsOf line D)
  have inr : ∀ p ∈ pairsOf line D, relOf (pairsOf line D) p.1 p.2 = true := fun p hp => fold_in _ _ p hp
  constructor
  · intro h
    have tr2 : Trans fun u j => decide (u ∈ line ∧ ∃ l ∈ D.getD u [], j = l ∨ relOf (pairsOf line D) l j = true) := fun a b c h1 h2 => by
      obtain ⟨h1a, l, hl, h1b⟩ := of_decide_eq_true h1
      obtain ⟨h2a, m, hm, h2b⟩ := of_decide_eq_true h2
      have bc : relOf (pairsOf line D) b c = true := by
        have z := inr (b, m) (mem_pairs.mpr ⟨h2a, hm⟩)
        rcases h2b with e | e
        · rw [e]; exact z
        · exact tr _ _ _ z e
      refine decide_eq_true ⟨h1a, l, hl, .inr ?_⟩
      rcases h1b with e | e
      · rw [← e]; exact bc
      · exact tr _ _ _ e bc
    exact of_decide_eq_true (fold_sub tr2 (pairsOf line D) (fun _ _ => false) (fun i j z => by cases z) (fun p hp => decide_eq_true ⟨(mem_pairs.mp hp).1, p.2, (mem_pairs.mp hp).2, .inl rfl⟩) u j h)
  · rintro ⟨hu, l, hl, e⟩
    have z := inr (u, l) (mem_pairs.mpr ⟨hu, hl⟩)
    rcases e with e | e
    · rw [e]; exact z
    · exact tr _ _ _ z e
theorem pairs_ok {n : Nat} {line : List Nat} {D : List (List Nat)} (n16 : n ≤ 16) (lok : LineOk n line) (lD : D.length = n) (dn : DownD line n 0 D) : WsOk n (pairsOf line D) := by
  classical
  obtain ⟨ρ, hρ⟩ : ∃ ρ : Nat → Nat, ∀ (i : Nat) k, line[i]? = some k → ρ k = i := by
    refine ⟨fun k => if h : ∃ i : Nat, line[i]? = some k then Classical.choose h else 0, fun i k hi => ?_⟩
    have h : ∃ i : Nat, line[i]? = some k := ⟨i, hi⟩
    show (if h : ∃ i : Nat, line[i]? = some k then Classical.choose h else 0) = i
    rw [dif_pos h]
    exact nodup_at lok.2.1 (Classical.choose_spec h) hi
  have row : ∀ p ∈ pairsOf line D, ∃ h l : Nat, h < l ∧ line[h]? = some p.1 ∧ line[l]? = some p.2 := fun p hp => by
    obtain ⟨h1, h2⟩ := mem_pairs.mp hp
    rw [List.getD_eq_getElem?_getD] at h2
    cases e : D[p.1]? with
    | none => rw [e] at h2; exact absurd h2 List.not_mem_nil
    | some r =>
      rw [e] at h2
      obtain ⟨h, l, a, _, b, c⟩ := (dn p.1 r e).2 p.2 h2
      exact ⟨h, l, a, b, c⟩
  refine ⟨?_, ?_, ⟨ρ, fun k hk => ?_, fun r hr => ?_⟩, fun r hr => ?_⟩
  · unfold pairsOf
    rw [List.Nodup, List.pairwise_flatMap]
    refine ⟨fun u hu => ?_, List.Pairwise.imp ?_ lok.2.1⟩
    · rw [List.pairwise_map]
      have nd : (D.getD u []).Nodup := by
        rw [List.getD_eq_getElem?_getD]
        cases e : D[u]? with
        | none => exact List.nodup_nil
        | some r => exact (dn u r e).1
      exact List.Pairwise.imp (fun ne e => ne (by injection e)) nd
    · intro a b ne x hx y hy e
      obtain ⟨l, _, rfl⟩ := List.mem_map.mp hx
      obtain ⟨m, _, rfl⟩ := List.mem_map.mp hy
      exact ne (by injection e)
  · have z := flat_few lok dn line
    rw [lok.1] at z
    have : n * n ≤ 16 * 16 := Nat.mul_le_mul n16 n16
    unfold pairsOf
    omega
  · by_cases m : k ∈ line
    · obtain ⟨i, hi, e⟩ := List.getElem_of_mem m
      rw [hρ i k (by rw [List.getElem?_eq_getElem hi, e])]
      have := lok.1
      omega
    · exact absurd (line_all lok hk) m
  · obtain ⟨x, y, h1, h2, h3⟩ := row r hr
    rw [hρ x _ h2, hρ y _ h3]; exact h1
  · obtain ⟨x, y, h1, h2, h3⟩ := row r hr
    exact ⟨lok.2.2 _ (List.mem_of_getElem? h2), lok.2.2 _ (List.mem_of_getElem? h3)⟩
theorem bel_few {n j : Nat} {R : Rel} {r : List Nat} (n16 : n ≤ 16) (lr : r.length ≤ n) : (r ++ (r.take j).flatMap (Bel n R)).length ≤ 16 + 16 * 16 := by
  have key : ∀ L : List Nat, (L.flatMap (Bel n R)).length ≤ L.length * 16 := fun L => by
    induction L with
    | nil => simp
    | cons u L ih =>
      have := Bel_len n R u
      rw [List.flatMap_cons, List.length_append, List.length_cons, Nat.succ_mul]
      omega
  have a := key (r.take j)
  have b : (r.take j).length ≤ 16 := by rw [List.length_take]; omega
  have c : (r.take j).length * 16 ≤ 16 * 16 := Nat.mul_le_mul_right _ b
  rw [List.length_append]
  omega
abbrev s__law_below : Stmt := top 51
theorem sc__law_below : FnScope ["line", "direct", "below", "k", "upper", "met", "lower"] ["line", "direct"] (defScope s__law_below) := ⟨rfl, rfl, rfl, by decide +kernel, rfl, by decide +kernel, by decide +kernel⟩
-- slots of _law_below: 0 line, 1 direct, 2 below, 3 k, 4 upper, 5 met, 6 lower
def spBelow : Sp := fun vs H Q _ => ∃ (ln dr : Addr) (n : Nat) (line : List Nat) (D : List (List Nat)), vs = [.ref ln, .ref dr] ∧ 1 ≤ n ∧ n ≤ 16 ∧ H ln = some (.lst (nL line)) ∧ Rows H dr D ∧ LineOk n line ∧ D.length = n ∧ DownD line n 0 D ∧
  ∀ (t : Addr) (H' : Hp), Same H H' → Rows H' t (relRows n (relOf (pairsOf line D))) → Q (.ref t) H'
theorem ok__law_below (T : Txt K mg C) {f : Addr} {fd : FuncData} (F : Fun K "_law_below" "_law_below" s__law_below f fd) : FnOk P w K mg base CX0 1 f fd ["line", "direct"] spBelow := by
  refine F.ok sc__law_below (fun vs H Q E h => ?_) (fun cdv A outer s H vs Q E hr h => ?_)
  · obtain ⟨ln, dr, n, line, D, rfl, _⟩ := h; rfl
  · obtain ⟨ln, dr, n, line, D, rfl, n1, n16, hl, hD, lok, lD, dn, q⟩ := h
    refine ⟨_, (pss_cons (ps_setLc (i := 2) (own := [("k", 3)]) (g := gName 3) (tt := tYes) rfl sc__law_below.nd rfl rfl (sw_true rfl rfl rfl (by kernel_rfl)) (pi_range1 (by rfl) T.range (pa_cons (pe_callB (lenS_ K) (by rfl) T.len b_len (pa_cons (pv 0) pa_nil)) pa_nil)) (blkOk_by (by kernel_rfl)) (fun _ _ _ _ _ => (pg_name (i := 3) sc__law_below.nd rfl (by first | exact Or.inl rfl | exact Or.inr rfl))) (fun _ _ _ _ _ => pts_nil) (fun _ _ _ _ _ => (pe_lst pa_nil)))
      (pss_cons (ps_for PassesOwn.never rfl (pi_reversed (by rfl) T.reversed (pa_cons (pv 0) pa_nil)) (pg_name (i := 4) sc__law_below.nd rfl (by first | exact Or.inl rfl | exact Or.inr rfl))
      (pss_cons (ps_set (i := 5) sc__law_below.nd rfl (by first | exact Or.inl rfl | exact Or.inr rfl) (pe_callTy (lstOf_ K) (by rfl) T.list b_list (pa_cons (pe_ix (ixL_ K) (pv 1) (pv 4) (fun _ _ => rfl)) pa_nil)))
      (pss_cons (ps_for PassesOwn.never rfl (pil_ K (pe_ix (ixL_ K) (pv 1) (pv 4) (fun _ _ => rfl))) (pg_name (i := 6) sc__law_below.nd rfl (by first | exact Or.inl rfl | exact Or.inr rfl))
      (pss_one (ps_expr (pe_bm PySem.F.plainAttrs_list PySem.F.slot_list_extend PySem.F.type_list_extend mt_extend (pv 5) (pa_cons (pe_ix (ixL_ K) (pv 2) (pv 6) (fun _ _ => rfl)) pa_nil)))))
      (pss_one (ps_asg (pe_callB (sortedSetB_ w rfl) (by rfl) T.sorted b_sorted (pa_cons (pe_callTy (setL_ K w rfl) (by rfl) T.set b_set (pa_cons (pv 5) pa_nil)) pa_nil)) (pg_sub (pv 2) (pv 4) set_list))))))
      (pss_one (ps_ret (pv 2))))), ?_⟩
    refine ⟨_, rfl, ln, _, rfl, .inl (SqL.of hl), _, rfl, by rw [nL_len, lok.1]; omega, by rw [nL_len, lok.1]; omega, fun t ht => ?_⟩
    rw [nL_len, lok.1, Int.toNat_natCast]
    refine lc_range (fun i G => ∃ as : List Addr, G t = some (.lst (as.map V.ref)) ∧ as.length = i ∧ (∀ a ∈ as, G a = some (.lst (nL []))) ∧ Same H G) ⟨[], upd_same, rfl, fun a ha => by simp at ha, same_new ht⟩ ?_ ?_
    · rintro i G hi ⟨as, gD, la, al, sG⟩
      refine ⟨rfl, yesT ⟨by decide, fun p np => ?_⟩⟩
      have t1 : Same G (L2.upd G p (.lst [])) := same_new np
      have nDp : p ≠ t := (ne_of_none gD np).symm
      refine ⟨_, t1 _ _ gD, by rw [List.length_map, la, sizeLine_eq]; omega, as ++ [p], by rw [upd_same, List.map_append]; rfl, by rw [List.length_append, la]; rfl, fun a ha => ?_, same_upd (sG.trans t1) ht⟩
      rcases List.mem_append.mp ha with ha | ha
      · have z := t1 _ _ (al a ha)
        by_cases e : a = t
        · exfalso
          rw [e, t1 _ _ gD] at z
          injection z with z
          injection z with z
          have : as = [] := List.map_eq_nil_iff.mp z
          rw [this] at ha; simp at ha
        · rw [upd_ne e]; exact z
      · rw [List.mem_singleton.mp ha, upd_ne nDp]; exact upd_same
    rintro G ⟨as, gD, la, al, sG⟩
    have R0 : Rows G t (List.replicate n []) := ⟨as, gD, by rw [List.length_replicate, la], fun i a r ha hr => by
      have er : r = [] := by
        rw [List.getElem?_replicate] at hr
        split at hr
        · cases hr; rfl
        · cases hr
      rw [er]; exact al a (List.mem_of_getElem? ha)⟩
    clear al gD la as
    refine ⟨_, rfl, ln, _, rfl, SqL.of (sG _ _ hl), ?_⟩
    have l0 : (nL line).length = n := by rw [nL_len, lok.1]
    refine for_rev (K := K) (a := ln) (xs := nL line) (fun i σ G => ∃ (v4 v5 v6 : Option V) (B : List (List Nat)), σ = [some (.ref ln), some (.ref dr), some (.ref t), none, v4, v5, v6] ∧ Same H G ∧ Rows G t B ∧ B.length = n ∧ ∀ m u, n - i ≤ m → line[m]? = some u → B[u]? = some (Bel n (relOf (pairsOf line D)) u)) ⟨_, _, _, _, rfl, sG, R0, List.length_replicate .., fun m u hm hu => ?_⟩ (fun i σ G _ ⟨_, _, _, _, _, s, _⟩ => SqL.of (s _ _ hl)) ?_ ?_
    · have := (List.getElem?_eq_some_iff.mp hu).1
      have := lok.1
      omega
    · rintro i y σ G hi hy ⟨v4, v5, v6, B, rfl, sG, hB, lB, past⟩
      rw [l0] at hi hy
      obtain ⟨u, hu, rfl⟩ := nL_it2 hy
      have un : u < n := lok.2.2 u (List.mem_of_getElem? hu)
      obtain ⟨r, hr⟩ : ∃ r, D[u]? = some r := ⟨_, List.getElem?_eq_getElem (by omega)⟩
      have er : D.getD u [] = r := by rw [List.getD_eq_getElem?_getD, hr]; rfl
      obtain ⟨xs, a, g1, g2, g3, g4⟩ := hD.at hr
      have lr : r.length ≤ n := by rw [← er]; exact row_few lok dn u
      refine ⟨_, rfl, _, rfl, dr, _, _, _, rfl, rfl, SqL.of (sG _ _ g1), atI_nat g3, a, _, rfl, .inl (SqL.of (sG _ _ g4)), fun mt nmt => ?_⟩
      have t1 : Same G (L2.upd G mt (.lst (nL r))) := same_new nmt
      have hm1 : (L2.upd G mt (.lst (nL r))) mt = some (.lst (nL r)) := upd_same
      generalize L2.upd G mt (.lst (nL r)) = G1 at t1 hm1 ⊢
      have s1 := sG.trans t1
      refine ⟨_, rfl, _, rfl, dr, _, _, _, rfl, rfl, SqL.of (s1 _ _ g1), atI_nat g3, a, rfl, ⟨_, SqL.of (s1 _ _ g4)⟩, ?_⟩
      refine for_list (K := K) (a := a) (xs := nL r) (fun j σ G2 => ∃ (v6 : Option V), σ = [some (.ref ln), some (.ref dr), some (.ref t), none, some (.int u), some (.ref mt), v6] ∧ Same G G2 ∧ G2 mt = some (.lst (nL (r ++ (r.take j).flatMap (Bel n (relOf (pairsOf line D))))))) ⟨_, rfl, t1, by rw [List.take_zero, List.flatMap_nil, List.append_nil]; exact hm1⟩ (fun j σ G2 _ ⟨_, _, s, _⟩ => SqL.of ((sG.trans s) _ _ g4)) ?_ ?_
      · rintro j y σ G2 hy ⟨v6, rfl, s2, hm2⟩
        obtain ⟨l, hl2, rfl⟩ := nL_it2 hy
        obtain ⟨h1, l1, c1, _, c2, c3⟩ := (dn u r hr).2 l (List.mem_of_getElem? hl2)
        have e1 := nodup_at lok.2.1 c2 hu
        have hBl := past l1 l (by omega) c3
        obtain ⟨ys, c, k1, k2, k3, k4⟩ := (hB.same s2).at hBl
        have few : (r ++ (r.take j).flatMap (Bel n (relOf (pairsOf line D)))).length ≤ 16 + 16 * 16 := bel_few n16 lr
        have few2 := Bel_len n (relOf (pairsOf line D)) l
        refine ⟨_, rfl, .inl ⟨rfl, _, SqL.of hm2⟩, _, rfl, _, rfl, t, _, _, _, rfl, rfl, SqL.of k1, atI_nat k3, mt, c, _, _, rfl, rfl, hm2, k4, by rw [nL_len, nL_len, sizeLine_eq]; omega, _, rfl, same_upd s2 nmt, ?_⟩
        rw [upd_same, ← nL_app, List.take_add_one, hl2, List.flatMap_append, List.append_assoc]
        simp only [Option.toList, List.flatMap_cons, List.flatMap_nil, List.append_nil]
      · rintro σ G2 ⟨v6, rfl, s2, hm2⟩
        rw [nL_len, List.take_length] at hm2
        have few : (r ++ r.flatMap (Bel n (relOf (pairsOf line D)))).length ≤ 16 + 16 * 16 := by
          have z : (r ++ (r.take r.length).flatMap (Bel n (relOf (pairsOf line D)))).length ≤ 16 + 16 * 16 := bel_few n16 lr
          rwa [List.take_length] at z
        have mem : ∀ j, j ∈ r ++ r.flatMap (Bel n (relOf (pairsOf line D))) ↔ j ∈ Bel n (relOf (pairsOf line D)) u := fun j => by
          rw [List.mem_append, List.mem_flatMap, mem_Bel, rel_step, er]
          constructor
          · rintro (h | ⟨l, hl, h⟩)
            · obtain ⟨_, _, _, _, _, c3⟩ := (dn u r hr).2 j h
              exact ⟨lok.2.2 j (List.mem_of_getElem? c3), List.mem_of_getElem? hu, j, h, .inl rfl⟩
            · exact ⟨(mem_Bel.mp h).1, List.mem_of_getElem? hu, l, hl, .inr (mem_Bel.mp h).2⟩
          · rintro ⟨jn, _, l, hl, e | e⟩
            · rw [e]; exact .inl hl
            · exact .inr ⟨l, hl, mem_Bel.mpr ⟨jn, e⟩⟩
        refine ⟨_, rfl, mt, nI (r ++ r.flatMap (Bel n (relOf (pairsOf line D)))), rfl, SqL.of hm2, by rw [nI_len]; omega, fun d c hd hc => ?_⟩
        refine ⟨d, _, c, n, rfl, upd_same, fun k hk => ?_, by omega, fun ns p asc mm np => ?_⟩
        · obtain ⟨m, hm, e⟩ := mem_nI.mp (of_decide_eq_true hk)
          have := (mem_Bel.mp ((mem m).mp hm)).1
          omega
        have ens : ns = nI (Bel n (relOf (pairsOf line D)) u) := by
          refine asc_ext asc (Bel_asc ..) fun z => ?_
          rw [mm, decide_eq_true_eq, mem_nI, mem_nI]
          exact ⟨fun ⟨m, hm, e⟩ => ⟨m, (mem m).mp hm, e⟩, fun ⟨m, hm, e⟩ => ⟨m, (mem m).mpr hm, e⟩⟩
        have t3 : Same G2 (L2.upd (L2.upd G2 d (SetO w d (fun j => decide (j ∈ nI (r ++ r.flatMap (Bel n (relOf (pairsOf line D)))))) c)) p (.lst (ns.map V.int))) := (same_new hd).trans (same_new np)
        have hp : (L2.upd (L2.upd G2 d (SetO w d (fun j => decide (j ∈ nI (r ++ r.flatMap (Bel n (relOf (pairsOf line D)))))) c)) p (.lst (ns.map V.int))) p = some (.lst (nL (Bel n (relOf (pairsOf line D)) u))) := by rw [upd_same, ens]; rfl
        generalize L2.upd (L2.upd G2 d (SetO w d (fun j => decide (j ∈ nI (r ++ r.flatMap (Bel n (relOf (pairsOf line D)))))) c)) p (.lst (ns.map V.int)) = G3 at t3 hp ⊢
        obtain ⟨as, k1, k2, k3⟩ := (hB.same s2).same t3
        refine ⟨_, rfl, _, rfl, set_at k1 (ixN_nat (k := u) (by rw [List.length_map, k2, lB]; exact un)) fun G4 s4 h4 => ?_⟩
        have s04 : Same H G4 := SB.past ((sG.trans s2).trans t3) ht s4
        refine ⟨_, _, _, B.set u (Bel n (relOf (pairsOf line D)) u), rfl, s04, rows_put k1 k2 k3 s4 h4 hp (by rw [k2, lB]; exact un), by rw [List.length_set]; exact lB, fun m v hm hv => ?_⟩
        by_cases z : v = u
        · rw [z, List.getElem?_set_self (by rw [lB]; exact un)]
        · rw [List.getElem?_set_ne (fun y => z y.symm)]
          refine past m v ?_ hv
          rcases Nat.lt_or_ge m (n - i) with lt | ge
          · have e : m = n - 1 - i := by omega
            rw [e, hu] at hv
            exact absurd (Option.some.inj hv).symm z
          · exact ge
    · rintro σ G ⟨v4, v5, v6, B, rfl, sG, hB, lB, past⟩
      rw [l0] at past
      have eB : B = relRows n (relOf (pairsOf line D)) := by
        refine List.ext_getElem? fun j => ?_
        by_cases jn : j < n
        · obtain ⟨m, hm, e⟩ := List.getElem_of_mem (line_all lok jn)
          rw [past m j (by omega) (by rw [List.getElem?_eq_getElem hm, e]), relRows_at jn]
        · rw [List.getElem?_eq_none (by omega), List.getElem?_eq_none (by rw [relRows_len]; omega)]
      exact ⟨_, rfl, q t G sG (by rw [← eB]; exact hB)⟩
abbrev s__law_above : Stmt := top 52
theorem sc__law_above : FnScope ["below", "above", "lamp", "upper"] ["below"] (defScope s__law_above) := ⟨rfl, rfl, rfl, by decide +kernel, rfl, by decide +kernel, by decide +kernel⟩
-- slots of _law_above: 0 below, 1 above, 2 lamp, 3 upper
def spAboveL : Sp := fun vs H Q _ => ∃ (be : Addr) (n : Nat) (R : Rel), vs = [.ref be] ∧ n ≤ 16 ∧ Rows H be (relRows n R) ∧
  ∀ (t : Addr) (H' : Hp), Same H H' → Rows H' t (relRows n (flip R)) → Q (.ref t) H'
theorem ok__law_above (T : Txt K mg C) {f : Addr} {fd : FuncData} (F : Fun K "_law_above" "_law_above" s__law_above f fd) : FnOk P w K mg base CX0 1 f fd ["below"] spAboveL := by
  refine F.ok sc__law_above (fun vs H Q E h => ?_) (fun cdv A outer s H vs Q E hr h => ?_)
  · obtain ⟨be, n, R, rfl, _⟩ := h; rfl
  · obtain ⟨be, n, R, rfl, n16, hB, q⟩ := h
    refine ⟨_, (pss_cons (ps_set (i := 1) sc__law_above.nd rfl (by first | exact Or.inl rfl | exact Or.inr rfl) (pe_lst pa_nil))
      (pss_cons (ps_for PassesOwn.never rfl (pi_range1 (by rfl) T.range (pa_cons (pe_callB (lenS_ K) (by rfl) T.len b_len (pa_cons (pv 0) pa_nil)) pa_nil)) (pg_name (i := 2) sc__law_above.nd rfl (by first | exact Or.inl rfl | exact Or.inr rfl))
      (pss_one (ps_expr (pe_bm PySem.F.plainAttrs_list PySem.F.slot_list_append PySem.F.type_list_append mt_append (pv 1) (pa_cons (pe_lc (own := [("upper", 3)]) (g := gName 3) rfl sc__law_above.nd (pi_range1 (by rfl) T.range (pa_cons (pe_callB (lenS_ K) (by rfl) T.len b_len (pa_cons (pv 0) pa_nil)) pa_nil)) (blkOk_by (by kernel_rfl)) (fun _ _ _ _ _ => (pg_name (i := 3) sc__law_above.nd rfl (by first | exact Or.inl rfl | exact Or.inr rfl))) (fun _ _ _ _ _ => (pts_one (pt_cmpR (inS_ K) (pv 2) (pe_ix (ixL_ K) (pv 0) (pv 3) (fun _ _ => rfl)) (by rfl)))) (fun _ _ _ _ _ => (pv 3))) pa_nil)))))
      (pss_one (ps_ret (pv 1))))), ?_⟩
    refine ⟨by decide, fun t ht => ?_⟩
    have s1 : Same H (L2.upd H t (.lst [])) := same_new ht
    have h1 : (L2.upd H t (.lst [])) t = some (.lst []) := upd_same
    generalize L2.upd H t (.lst []) = H1 at s1 h1 ⊢
    obtain ⟨bs, k1, k2, k3⟩ := id hB
    rw [relRows_len] at k2
    have kl : (bs.map V.ref).length = n := by rw [List.length_map, k2]
    refine ⟨_, rfl, be, _, rfl, .inl (SqL.of (s1 _ _ k1)), _, rfl, by rw [kl]; omega, by rw [kl]; omega, ?_⟩
    rw [kl, Int.toNat_natCast]
    refine for_range (fun i σ G => ∃ (v2 : Option V) (as : List Addr), σ = [some (.ref be), some (.ref t), v2, none] ∧ Same H G ∧ G t = some (.lst (as.map V.ref)) ∧ as.length = i ∧ ∀ (j : Nat) a, as[j]? = some a → G a = some (.lst (nL (Bel n (flip R) j)))) ⟨_, [], rfl, s1, h1, rfl, fun j a e => by simp at e⟩ ?_ ?_
    · rintro i σ G hi ⟨v2, as, rfl, sG, gt, la, al⟩
      have e0 : (0 : Int) + (i : Int) = (i : Int) := by omega
      rw [e0]
      refine ⟨_, rfl, .inl ⟨rfl, _, SqL.of gt⟩, _, rfl, be, _, rfl, .inl (SqL.of (sG _ _ k1)), _, rfl, by rw [kl]; omega, by rw [kl]; omega, fun D hD => ?_⟩
      rw [kl, Int.toNat_natCast]
      refine lc_range (fun j G2 => G2 D = some (.lst (nL ((List.range j).filter fun u => flip R i u))) ∧ Same G G2) ⟨upd_same, same_new hD⟩ ?_ ?_
      · rintro j G2 hj ⟨gD, s2⟩
        have e0 : (0 : Int) + (j : Int) = (j : Int) := by omega
        rw [e0]
        obtain ⟨ys, c, m1, m2, m3, m4⟩ := (hB.same (sG.trans s2)).at (relRows_at hj)
        refine ⟨rfl, _, rfl, _, rfl, _, rfl, be, _, _, _, rfl, rfl, SqL.of m1, atI_nat m3, c, _, rfl, .inl (SqL.of m4), rfl, flat_nL _, _, rfl, ?_⟩
        rw [in_nL]
        have few := filt_few' (fun u => flip R i u) j
        have em : decide (i ∈ Bel n R j) = flip R i j := by
          rw [Bool.eq_iff_iff, decide_eq_true_iff, mem_Bel]
          exact ⟨fun z => z.2, fun z => ⟨hi, z⟩⟩
        rw [em]
        refine ite2 (fun hc => ?_) fun hc => ?_
        · refine ⟨_, rfl, _, gD, by rw [nL_len, sizeLine_eq]; omega, ?_, same_upd s2 hD⟩
          rw [upd_same, filt_more', if_pos (show flip R i j = true from hc), nL_app]; rfl
        · refine ⟨?_, s2⟩
          rw [gD, filt_more', if_neg (show ¬ flip R i j = true from hc), List.append_nil]
      · rintro G2 ⟨gD, s2⟩
        have gD : G2 D = some (.lst (nL (Bel n (flip R) i))) := gD
        have nDt : D ≠ t := (ne_of_none gt hD).symm
        refine ⟨t, _, _, rfl, rfl, s2 _ _ gt, by rw [List.length_map, la, sizeLine_eq]; omega, _, as ++ [D], rfl, same_upd (sG.trans s2) ht, by rw [upd_same, List.map_append]; rfl, by rw [List.length_append, la]; rfl, fun j a e => ?_⟩
        by_cases jl : j < as.length
        · rw [List.getElem?_append_left jl] at e
          have z := s2 _ _ (al j a e)
          by_cases ea : a = t
          · exfalso
            rw [ea, s2 _ _ gt] at z
            injection z with z
            injection z with z
            cases as with
            | nil => simp at jl
            | cons c cs =>
              cases hb : Bel n (flip R) j with
              | nil => rw [hb] at z; cases z
              | cons y ys => rw [hb] at z; injection z with z; cases z
          · rw [upd_ne ea]; exact z
        · rw [List.getElem?_append_right (by omega)] at e
          have z : j - as.length = 0 := by
            have := (List.getElem?_eq_some_iff.mp e).1
            simp at this
            omega
          rw [z] at e
          cases e
          have ej : j = i := by omega
          rw [ej, upd_ne nDt]; exact gD
    · rintro σ G ⟨v2, as, rfl, sG, gt, la, al⟩
      refine ⟨_, rfl, q t G sG ⟨as, gt, by rw [relRows_len, la], fun j a r ha hr => ?_⟩⟩
      have jn : j < n := by rw [← la]; exact (List.getElem?_eq_some_iff.mp ha).1
      rw [relRows_at jn] at hr
      cases hr
      exact al j a ha
end
end Hue

end
section
set_option maxRecDepth 100000
set_option maxHeartbeats 4000000
namespace Hue
open PySem PySem.Spec PyProof.Rows L2
section
variable {P : Program} {w : World} {K : PySem.W.Frag} {mg : Str → Option Value} {base : Heap} {C : Addr}
abbrev s__law_state : Stmt := top 53
theorem sc__law_state : FnScope ["purse", "count", "hues", "way", "hand", "k", "hue"] ["purse", "count", "hues"] (defScope s__law_state) := ⟨rfl, rfl, rfl, by decide +kernel, rfl, by decide +kernel, by decide +kernel⟩
-- slots of _law_state: 0 purse, 1 count, 2 hues, 3 way, 4 hand, 5 k, 6 hue
def spState : Sp := fun vs H Q _ => ∃ (b : Addr) (n h : Nat), vs = [.ref b, .int n, .int h] ∧ n ≤ 16 ∧ 2 ≤ h ∧ h ≤ 10 ∧ Pu H b ∧ ∀ (t : Addr) (S : List Int) (H' : Hp), StOk n h S → SB b H H' → Pu H' b → H' t = some (.tup (stV S)) → Q (.ref t) H'
theorem ok__law_state (T : Txt K mg C) {f : Addr} {fd : FuncData} (F : Fun K "_law_state" "_law_state" s__law_state f fd) (c__law_draw : Cal P w K mg base "_law_draw" 1 spDraw) : FnOk P w K mg base CX0 2 f fd ["purse", "count", "hues"] spState := by
  refine F.ok sc__law_state (fun vs H Q E h => ?_) (fun cdv A outer s H vs Q E hr h => ?_)
  · obtain ⟨b, n, h, rfl, _⟩ := h; rfl
  · obtain ⟨b, n, h, rfl, n16, h2, h10, hb, q⟩ := h
    refine ⟨_, (pss_cons (ps_set (i := 3) sc__law_state.nd rfl (by first | exact Or.inl rfl | exact Or.inr rfl) (pe_cal c__law_draw (hr.mono (by decide)) (pa_cons (pv 0) (pa_cons pe_int pa_nil))))
      (pss_cons (ps_set (i := 4) sc__law_state.nd rfl (by first | exact Or.inl rfl | exact Or.inr rfl) (pe_lst pa_nil))
      (pss_cons (ps_for PassesOwn.never rfl (pi_range1 (by rfl) T.range (pa_cons (pv 1) pa_nil)) (pg_name (i := 5) sc__law_state.nd rfl (by first | exact Or.inl rfl | exact Or.inr rfl))
      (pss_cons (ps_set (i := 6) sc__law_state.nd rfl (by first | exact Or.inl rfl | exact Or.inr rfl) (pe_cal c__law_draw (hr.mono (by decide)) (pa_cons (pv 0) (pa_cons (pv 2) pa_nil))))
      (C8.pss_cut (ps_if (PW.pt (pw_and (pt_cmpR op_eq (pv 3) pe_int (nomark _)) (pw_and1 (pt_cmpR op_gt (pe_cal c__law_draw (hr.mono (by decide)) (pa_cons (pv 0) (pa_cons pe_int pa_nil))) pe_int (nomark _)))))
      (pss_one (ps_set (i := 6) sc__law_state.nd rfl (by first | exact Or.inl rfl | exact Or.inr rfl) pe_int)) pss_nil)
      (C8.pss_cut (ps_if (PW.pt (pw_and (pt_cmpR op_eq (pv 3) pe_int (nomark _)) (pw_and1 (pt_cmpR op_gt (pe_cal c__law_draw (hr.mono (by decide)) (pa_cons (pv 0) (pa_cons pe_int pa_nil))) pe_int (nomark _)))))
      (pss_one (ps_set (i := 6) sc__law_state.nd rfl (by first | exact Or.inl rfl | exact Or.inr rfl) (pe_op op_sub (pv 2) pe_int))) pss_nil)
      (pss_one (ps_expr (pe_bm PySem.F.plainAttrs_list PySem.F.slot_list_append PySem.F.type_list_append mt_append (pv 4) (pa_cons (pv 6) pa_nil))))))))
      (pss_one (ps_ret (pe_callTy (tupOf_ K) (by rfl) T.tuple b_tuple (pa_cons (pv 4) pa_nil))))))), ?_⟩
    refine ⟨_, rfl, b, 4, rfl, by decide, by decide, hb, fun way H1 hway s1 p1 => ⟨by decide, fun D hD => ?_⟩⟩
    have nDb := p1.new hD
    have s2 : SB b H (L2.upd H1 D (.lst [])) := s1.trans (SB.of (same_new hD))
    have p2 := p1.same (same_new (o := .lst []) hD)
    have hD0 : H D = none := by
      cases e : H D with
      | none => rfl
      | some o =>
        have z := s1 _ _ nDb e
        rw [hD] at z; cases z
    have h2' : (L2.upd H1 D (.lst [])) D = some (.lst (stV [])) := upd_same
    generalize L2.upd H1 D (.lst []) = H2 at s2 p2 h2' ⊢
    refine ⟨_, rfl, _, rfl, by omega, by omega, ?_⟩
    rw [Int.toNat_natCast]
    refine for_range (fun i σ G => ∃ (v5 v6 : Option V) (S : List Int), σ = [some (.ref b), some (.int n), some (.int h), some (.int way), some (.ref D), v5, v6] ∧ SB b H G ∧ Pu G b ∧ G D = some (.lst (stV S)) ∧ StOk i h S) ⟨_, _, [], rfl, s2, p2, h2', ⟨rfl, fun z hz => absurd hz List.not_mem_nil⟩⟩ ?_ ?_
    · rintro i σ G hi ⟨v5, v6, S, rfl, sG, pG, hS, ok⟩
      refine ⟨_, rfl, _, rfl, b, h, rfl, by omega, by omega, pG, fun e G1 he t1 p1 => ?_⟩
      have hS1 := t1 _ _ nDb hS
      have s1 := sG.trans t1
      refine ⟨fun σ G => ∃ z : Int, σ = [some (.ref b), some (.int n), some (.int h), some (.int way), some (.ref D), some (.int ((0 : Int) + (i : Int))), some (.int z)] ∧ SB b H G ∧ Pu G b ∧ G D = some (.lst (stV S)) ∧ 0 ≤ z ∧ z < (h : Int), ⟨_, rfl, rfl, _, rfl, ?_⟩, ?_⟩
      · refine ite2 (fun _ => ?_) fun _ => ⟨_, rfl, s1, p1, hS1, by omega, by omega⟩
        refine ⟨_, rfl, b, 3, rfl, by decide, by decide, p1, fun f G2 _ t2 p2 => ⟨_, _, rfl, rfl, _, rfl, ?_⟩⟩
        exact ite2 (fun _ => ⟨_, rfl, s1.trans t2, p2, t2 _ _ nDb hS1, by decide, by omega⟩) fun _ => ⟨_, rfl, s1.trans t2, p2, t2 _ _ nDb hS1, by omega, by omega⟩
      clear t1 p1 hS1 s1
      rintro σ G1 ⟨z, rfl, s1, p1, hS1, z0, z1⟩
      refine ⟨fun σ G => ∃ z : Int, σ = [some (.ref b), some (.int n), some (.int h), some (.int way), some (.ref D), some (.int ((0 : Int) + (i : Int))), some (.int z)] ∧ SB b H G ∧ Pu G b ∧ G D = some (.lst (stV S)) ∧ 0 ≤ z ∧ z < (h : Int), ⟨_, rfl, rfl, _, rfl, ?_⟩, ?_⟩
      · refine ite2 (fun _ => ?_) fun _ => ⟨_, rfl, s1, p1, hS1, z0, z1⟩
        refine ⟨_, rfl, b, 3, rfl, by decide, by decide, p1, fun f G2 _ t2 p2 => ⟨_, _, rfl, rfl, _, rfl, ?_⟩⟩
        refine ite2 (fun _ => ?_) fun _ => ⟨_, rfl, s1.trans t2, p2, t2 _ _ nDb hS1, z0, z1⟩
        exact ⟨_, rfl, _, _, rfl, rfl, _, rfl, s1.trans t2, p2, t2 _ _ nDb hS1, by omega, by omega⟩
      clear p1 hS1 s1
      rintro σ G1 ⟨z, rfl, s1, p1, hS1, z0, z1⟩
      refine ⟨_, rfl, .inl ⟨rfl, _, SqL.of hS1⟩, _, rfl, D, _, _, rfl, rfl, hS1, by rw [List.length_map, ok.1, sizeLine_eq]; omega, _, _, S ++ [z], rfl, fun c o nc e => ?_, p1.upd nDb, by rw [upd_same]; unfold stV; rw [List.map_append]; rfl, ⟨by rw [List.length_append, ok.1]; rfl, fun y hy => ?_⟩⟩
      · rw [upd_ne (ne_of_none e hD0)]; exact s1 c o nc e
      · rcases List.mem_append.mp hy with hy | hy
        · exact ok.2 y hy
        · rw [List.mem_singleton.mp hy]; exact ⟨z0, z1⟩
    · rintro σ G ⟨v5, v6, S, rfl, sG, pG, hS, ok⟩
      exact ⟨_, rfl, D, _, rfl, .inl ⟨SqL.of hS, fun t nt => q t S _ ok (sG.trans (SB.of (same_new nt))) (pG.same (same_new nt)) upd_same⟩⟩
theorem turn_down (a h : Int) : (a + h - 1) % h = (a + shI false) % h := by
  have e : a + h - 1 = (a + shI false) + h := by
    show a + h - 1 = a + -1 + h
    omega
  rw [e, Int.add_emod_right]
abbrev s__law_after : Stmt := top 54
theorem sc__law_after : FnScope ["below", "hues", "state", "lamp", "hand", "lower"] ["below", "hues", "state", "lamp"] (defScope s__law_after) := ⟨rfl, rfl, rfl, by decide +kernel, rfl, by decide +kernel, by decide +kernel⟩
-- slots of _law_after: 0 below, 1 hues, 2 state, 3 lamp, 4 hand, 5 lower
def spAfterL : Sp := fun vs H Q _ => ∃ (be t : Addr) (n h k : Nat) (R : Rel) (S : List Int), vs = [.ref be, .int h, .ref t, .int k] ∧ n ≤ 16 ∧ 2 ≤ h ∧ Rows H be (relRows n R) ∧ Irr R ∧ H t = some (.tup (stV S)) ∧ StOk n h S ∧ k < n ∧ at_ S k > 0 ∧ ∀ (p : Addr) (H' : Hp), Same H H' → H p = none → H' p = some (.tup (stV (stepL n h R S k false))) → Q (.ref p) H'
theorem ok__law_after (T : Txt K mg C) {f : Addr} {fd : FuncData} (F : Fun K "_law_after" "_law_after" s__law_after f fd) : FnOk P w K mg base CX0 1 f fd ["below", "hues", "state", "lamp"] spAfterL := by
  refine F.ok sc__law_after (fun vs H Q E h => ?_) (fun cdv A outer s H vs Q E hr h => ?_)
  · obtain ⟨be, t, n, h, k, R, S, rfl, _⟩ := h; rfl
  · obtain ⟨be, t, n, h, k, R, S, rfl, n16, h2, hB, irr, ht, ok, hk, pos, q⟩ := h
    refine ⟨_, (pss_cons (ps_set (i := 4) sc__law_after.nd rfl (by first | exact Or.inl rfl | exact Or.inr rfl) (pe_callTy (lstOf_ K) (by rfl) T.list b_list (pa_cons (pv 2) pa_nil)))
      (pss_cons (ps_asg (pe_op op_sub (pe_ix (ixL_ K) (pv 4) (pv 3) (fun _ _ => rfl)) pe_int) (pg_sub (pv 4) (pv 3) set_list))
      (pss_cons (ps_for PassesOwn.never rfl (pil_ K (pe_ix (ixL_ K) (pv 0) (pv 3) (fun _ _ => rfl))) (pg_name (i := 5) sc__law_after.nd rfl (by first | exact Or.inl rfl | exact Or.inr rfl))
      (pss_one (ps_asg (pe_op op_mod (pe_callTy call_int1 (by rfl) T.int b_int (pa_cons (pe_op op_sub (pe_op op_add (pe_ix (ixL_ K) (pv 4) (pv 5) (fun _ _ => rfl)) (pv 1)) pe_int) pa_nil)) (pv 1)) (pg_sub (pv 4) (pv 5) set_list))))
      (pss_one (ps_ret (pe_callTy (tupOf_ K) (by rfl) T.tuple b_tuple (pa_cons (pv 4) pa_nil))))))), ?_⟩
    have kS := stV_get (S := S) (k := k) (by rw [ok.1]; exact hk)
    refine ⟨_, rfl, t, _, rfl, .inr (SqT.of ht), fun fr nf => ?_⟩
    have s1 : Same H (L2.upd H fr (.lst (stV S))) := same_new nf
    have hf1 : (L2.upd H fr (.lst (stV S))) fr = some (.lst (stV S)) := upd_same
    generalize L2.upd H fr (.lst (stV S)) = H3 at s1 hf1 ⊢
    refine ⟨_, rfl, _, rfl, fr, _, _, _, rfl, rfl, SqL.of hf1, atI_nat kS, _, _, rfl, rfl, _, rfl, _, rfl, set_at hf1 (ixN_nat (by rw [List.length_map, ok.1]; exact hk)) fun H4 s4 h4 => ?_⟩
    have h4 : H4 fr = some (.lst ((stV S).set k (V.int (at_ S k + shI false)))) := h4
    rw [stV_set] at h4
    have s24 : Same H H4 := s4.to_same s1 nf
    obtain ⟨xs, al, hb, _, hal, hL⟩ := hB.at (relRows_at (R := R) hk)
    refine ⟨_, rfl, _, rfl, be, _, _, _, rfl, rfl, SqL.of (s24 _ _ hb), atI_nat hal, al, rfl, ⟨_, SqL.of (s24 _ _ hL)⟩, ?_⟩
    have bnd : (Bel n R k).Nodup := by
      unfold Bel
      exact List.Pairwise.filter _ List.nodup_range
    refine for_list (K := K) (a := al) (xs := nL (Bel n R k)) (fun i σ H5 => ∃ (v : Option V) (L : List Int), σ = [some (.ref be), some (.int h), some (.ref t), some (.int k), some (.ref fr), v] ∧ Same H H5 ∧ H5 fr = some (.lst (stV L)) ∧ L.length = n ∧
        ∀ j, j < n → at_ L j = if j = k then at_ S k + shI false else if j ∈ (Bel n R k).take i then (at_ S j + shI false) % (h : Int) else at_ S j)
      ⟨_, _, rfl, s24, h4, by rw [List.length_set]; exact ok.1, fun j hj => ?_⟩ (fun i σ H5 _ ⟨_, _, _, s, _⟩ => SqL.of (s _ _ hL)) ?_ ?_
    · rw [at_set (by rw [ok.1]; omega)]
      by_cases e : k = j
      · rw [if_pos e, if_pos e.symm]
      · rw [if_neg e, if_neg (fun z => e z.symm), if_neg (by simp)]
    · rintro i y σ H5 hy ⟨v, L, rfl, s5, h5, lL, val⟩
      obtain ⟨j, hj, rfl⟩ := nL_it2 hy
      obtain ⟨jn, rj⟩ := mem_Bel.mp (List.mem_of_getElem? hj)
      have jL := stV_get (S := L) (k := j) (by rw [lL]; exact jn)
      refine ⟨_, rfl, _, rfl, fr, _, _, _, rfl, rfl, SqL.of h5, atI_nat jL, _, rfl, _, _, rfl, rfl, _, _, rfl, rfl, .inl ⟨_, rfl, _, rfl, _, _, rfl, rfl, (by show (0 : Int) < (h : Int); omega), _, rfl, _, rfl, set_at h5 (ixN_nat (by rw [List.length_map, lL]; exact jn)) fun H6 s6 h6 => ?_⟩⟩
      have h6' : H6 fr = some (.lst (stV (L.set j ((at_ L j + shI false) % (h : Int))))) := by rw [← stV_set, ← turn_down]; exact h6
      have nj : j ≠ k := fun z => by rw [z, irr k] at rj; cases rj
      have njt : j ∉ (Bel n R k).take i := fun z => by
        obtain ⟨m, hm, em⟩ := List.getElem_of_mem z
        rw [List.length_take] at hm
        rw [List.getElem_take] at em
        have := nodup_at bnd (show (Bel n R k)[m]? = some j by rw [List.getElem?_eq_getElem (by omega), em]) hj
        omega
      have vj := val j jn
      rw [if_neg nj, if_neg njt] at vj
      refine ⟨_, _, rfl, s6.to_same s5 nf, h6', by rw [List.length_set]; exact lL, fun m hm => ?_⟩
      rw [at_set (by omega), vj]
      have tk : (Bel n R k).take (i + 1) = (Bel n R k).take i ++ [j] := by rw [List.take_add_one, hj]; rfl
      by_cases e : j = m
      · rw [if_pos e, if_neg (fun z => nj (e.trans z)), if_pos (by rw [tk, ← e]; exact List.mem_append_right _ List.mem_cons_self), e]
      · rw [if_neg e, val m hm, tk]
        have e2 : (m ∈ (Bel n R k).take i ++ [j]) ↔ m ∈ (Bel n R k).take i := by
          rw [List.mem_append]
          exact ⟨fun z => z.elim id fun z => absurd (List.mem_singleton.mp z).symm e, .inl⟩
        simp only [e2]
    · rintro σ H5 ⟨v, L, rfl, s5, h5, lL, val⟩
      rw [nL_len, List.take_length] at val
      have eL : L = stepL n h R S k false := by
        unfold stepL
        refine st_ext lL fun j hj => ?_
        rw [val j hj]
        have e2 : j ∈ Bel n R k ↔ R k j = true := ⟨fun z => (mem_Bel.mp z).2, fun z => mem_Bel.mpr ⟨hj, z⟩⟩
        simp only [e2]
      rw [eL] at h5
      exact ⟨_, rfl, fr, _, rfl, .inl ⟨SqL.of h5, fun t2 nt2 => q t2 _ (s5.trans (same_new nt2)) (s5.free nt2) upd_same⟩⟩
abbrev s__law_is_integer : Stmt := top 55
theorem sc__law_is_integer : FnScope ["value"] ["value"] (defScope s__law_is_integer) := ⟨rfl, rfl, rfl, by decide +kernel, rfl, by decide +kernel, by decide +kernel⟩
-- slots of _law_is_integer: 0 value
def spIsInt : Sp := fun vs H Q _ => ∃ z : Int, vs = [.int z] ∧ Q (.bl true) H
theorem ok__law_is_integer (T : Txt K mg C) {f : Addr} {fd : FuncData} (F : Fun K "_law_is_integer" "_law_is_integer" s__law_is_integer f fd) : FnOk P w K mg base CX0 1 f fd ["value"] spIsInt := by
  refine F.ok sc__law_is_integer (fun vs H Q E h => ?_) (fun cdv A outer s H vs Q E hr h => ?_)
  · obtain ⟨z, rfl, _⟩ := h; rfl
  · obtain ⟨z, rfl, q⟩ := h
    refine ⟨_, (pss_one (ps_ret (pe_and (pe_callB (isi_ K) (by rfl) T.isinstance b_isinstance (pa_cons (pv 0) (pa_cons (pe_bltn (v := .ty "int") (by rfl) T.int b_int rfl) pa_nil))) (pe_one (pe_not (pe_callB (isi_ K) (by rfl) T.isinstance b_isinstance (pa_cons (pv 0) (pa_cons (pe_bltn (v := .ty "bool") (by rfl) T.bool b_bool rfl) pa_nil)))))))), ?_⟩
    (repeat refine ⟨_, rfl, ?_⟩)
    refine ⟨_, _, _, _, true, rfl, .ty _, .base (.int _), kit_ty (by decide +kernel), true, rfl, ?_⟩
    (repeat refine ⟨_, rfl, ?_⟩)
    exact ⟨_, _, _, _, false, rfl, .ty _, .base (.int _), kit_ty (by decide +kernel), false, rfl, q⟩
theorem okL__law_is_integer (T : Txt K mg C) {f : Addr} {fd : FuncData} (F : Fun K "_law_is_integer" "_law_is_integer" s__law_is_integer f fd) : FnL P w K mg base CX0 1 f fd ["value"] spIsInt := by
  refine F.okL sc__law_is_integer (fun vs H Q E h => ?_) (fun cdv A outer s H vs Q E p hr h => ?_)
  · obtain ⟨z, rfl, _⟩ := h; rfl
  · obtain ⟨z, rfl, q⟩ := h
    refine ⟨_, (pss_one (ps_ret (pe_and (pe_callB (isi_ K) (by rfl) T.isinstance b_isinstance (pa_cons (pv 0) (pa_cons (pe_bltn (v := .ty "int") (by rfl) T.int b_int rfl) pa_nil))) (pe_one (pe_not (pe_callB (isi_ K) (by rfl) T.isinstance b_isinstance (pa_cons (pv 0) (pa_cons (pe_bltn (v := .ty "bool") (by rfl) T.bool b_bool rfl) pa_nil)))))))), ?_⟩
    (repeat refine ⟨_, rfl, ?_⟩)
    refine ⟨_, _, _, _, true, rfl, .ty _, .base (.int _), kit_ty (by decide +kernel), true, rfl, ?_⟩
    (repeat refine ⟨_, rfl, ?_⟩)
    exact ⟨_, _, _, _, false, rfl, .ty _, .base (.int _), kit_ty (by decide +kernel), false, rfl, q⟩
abbrev s__law_truth : Stmt := top 56
theorem sc__law_truth : FnScope ["found", "due"] ["found", "due"] (defScope s__law_truth) := ⟨rfl, rfl, rfl, by decide +kernel, rfl, by decide +kernel, by decide +kernel⟩
-- slots of _law_truth: 0 found, 1 due
def spTruth : Sp := fun vs H Q _ => ∃ x : Bool, vs = [.bl x, .bl x] ∧ Q (.bl true) H
theorem ok__law_truth (T : Txt K mg C) {f : Addr} {fd : FuncData} (F : Fun K "_law_truth" "_law_truth" s__law_truth f fd) : FnOk P w K mg base CX0 1 f fd ["found", "due"] spTruth := by
  refine F.ok sc__law_truth (fun vs H Q E h => ?_) (fun cdv A outer s H vs Q E hr h => ?_)
  · obtain ⟨x, rfl, _⟩ := h; rfl
  · obtain ⟨x, rfl, q⟩ := h
    refine ⟨_, (pss_one (ps_ret (pe_and (pe_callB (isi_ K) (by rfl) T.isinstance b_isinstance (pa_cons (pv 0) (pa_cons (pe_bltn (v := .ty "bool") (by rfl) T.bool b_bool rfl) pa_nil))) (pe_one (pe_cmpR op_eq (pv 0) (pv 1) (nomark _)))))), ?_⟩
    (repeat refine ⟨_, rfl, ?_⟩)
    refine ⟨_, _, _, _, true, rfl, .ty _, .base (.bl _), kit_ty (by decide +kernel), true, rfl, ?_⟩
    refine ⟨_, rfl, _, rfl, rfl, ?_⟩
    rw [decide_eq_true rfl]
    exact q
abbrev s__law_same : Stmt := top 57
theorem sc__law_same : FnScope ["found", "due", "k"] ["found", "due"] (defScope s__law_same) := ⟨rfl, rfl, rfl, by decide +kernel, rfl, by decide +kernel, by decide +kernel⟩
-- slots of _law_same: 0 found, 1 due, 2 k
def spSameN : Sp := fun vs H Q _ => ∃ (a d : Addr) (L : List Int), vs = [.ref a, .ref d] ∧ L.length < 1000 ∧ H a = some (.lst (L.map V.int)) ∧ H d = some (.lst (L.map V.int)) ∧ Q (.bl true) H
theorem ok__law_same (T : Txt K mg C) {f : Addr} {fd : FuncData} (F : Fun K "_law_same" "_law_same" s__law_same f fd) (c__law_is_integer : Cal P w K mg base "_law_is_integer" 1 spIsInt) : FnOk P w K mg base CX0 2 f fd ["found", "due"] spSameN := by
  refine F.ok sc__law_same (fun vs H Q E h => ?_) (fun cdv A outer s H vs Q E hr h => ?_)
  · obtain ⟨a, d, L, rfl, _⟩ := h; rfl
  · obtain ⟨a, d, L, rfl, few, ha, hd, q⟩ := h
    refine ⟨_, (pss_cons (ps_if (PW.pt (pw_or (pt_not (pt_val (pe_callB (isi_ K) (by rfl) T.isinstance b_isinstance (pa_cons (pv 0) (pa_cons (pe_bltn (v := .ty "list") (by rfl) T.list b_list rfl) pa_nil))))) (pw_or1 (pt_cmpR op_ne (pe_callB (lenS_ K) (by rfl) T.len b_len (pa_cons (pv 0) pa_nil)) (pe_callB (lenS_ K) (by rfl) T.len b_len (pa_cons (pv 1) pa_nil)) (nomark _)))))
      (pss_one (ps_ret pe_bl)) pss_nil)
      (pss_cons (ps_for PassesOwn.never rfl (pi_range1 (by rfl) T.range (pa_cons (pe_callB (lenS_ K) (by rfl) T.len b_len (pa_cons (pv 1) pa_nil)) pa_nil)) (pg_name (i := 2) sc__law_same.nd rfl (by first | exact Or.inl rfl | exact Or.inr rfl))
      (pss_one (ps_if (PW.pt (pw_or (pt_not (pt_val (pe_cal c__law_is_integer (hr.mono (by decide)) (pa_cons (pe_ix (ixL_ K) (pv 0) (pv 2) (fun _ _ => rfl)) pa_nil)))) (pw_or1 (pt_cmpR op_ne (pe_ix (ixL_ K) (pv 0) (pv 2) (fun _ _ => rfl)) (pe_ix (ixL_ K) (pv 1) (pv 2) (fun _ _ => rfl)) (nomark _)))))
      (pss_one (ps_ret pe_bl)) pss_nil)))
      (pss_one (ps_ret pe_bl)))), ?_⟩
    (repeat refine ⟨_, rfl, ?_⟩)
    refine ⟨_, _, _, _, true, rfl, .ty _, .base (.lst ha), kit_ty (by decide +kernel), true, rfl, iteF ?_⟩
    (repeat refine ⟨_, rfl, ?_⟩)
    refine ⟨a, _, rfl, .inl (SqL.of ha), _, rfl, d, _, rfl, .inl (SqL.of hd), rfl, _, rfl, ?_⟩
    rw [decide_eq_true rfl]
    refine iteF ?_
    refine ⟨_, rfl, d, _, rfl, .inl (SqL.of hd), _, rfl, by rw [List.length_map]; omega, by rw [List.length_map]; omega, ?_⟩
    rw [List.length_map, Int.toNat_natCast]
    refine for_range (fun i σ G => ∃ v : Option V, σ = [some (.ref a), some (.ref d), v] ∧ G = H) ⟨_, rfl, rfl⟩ ?_ ?_
    · rintro i σ G hi ⟨v, rfl, rfl⟩
      have e0 : (0 : Int) + (i : Int) = (i : Int) := by omega
      rw [e0]
      have cell : (L.map V.int)[i]? = some (V.int L[i]) := by rw [List.getElem?_map, List.getElem?_eq_getElem hi]; rfl
      refine ⟨_, rfl, _, rfl, a, _, _, _, rfl, rfl, SqL.of ha, atI_nat cell, _, rfl, true, rfl, iteF ?_⟩
      refine ⟨_, rfl, _, rfl, a, _, _, _, rfl, rfl, SqL.of ha, atI_nat cell, _, rfl, _, rfl, d, _, _, _, rfl, rfl, SqL.of hd, atI_nat cell, rfl, _, rfl, ?_⟩
      rw [decide_eq_true rfl]
      exact iteF ⟨_, rfl, rfl⟩
    · rintro σ G ⟨v, rfl, rfl⟩
      exact q
abbrev s__law_is : Stmt := top 58
theorem sc__law_is : FnScope ["found", "due"] ["found", "due"] (defScope s__law_is) := ⟨rfl, rfl, rfl, by decide +kernel, rfl, by decide +kernel, by decide +kernel⟩
-- slots of _law_is: 0 found, 1 due
def spIsT : Sp := fun vs H Q _ => ∃ (t r : Addr) (L : List Int), vs = [.ref t, .ref r] ∧ L.length < 1000 ∧ H t = some (.tup (stV L)) ∧ H r = some (.tup (stV L)) ∧ ∀ H', Same H H' → Q (.bl true) H'
theorem ok__law_is (T : Txt K mg C) {f : Addr} {fd : FuncData} (F : Fun K "_law_is" "_law_is" s__law_is f fd) (c__law_same : Cal P w K mg base "_law_same" 2 spSameN) : FnOk P w K mg base CX0 3 f fd ["found", "due"] spIsT := by
  refine F.ok sc__law_is (fun vs H Q E h => ?_) (fun cdv A outer s H vs Q E hr h => ?_)
  · obtain ⟨t, r, L, rfl, _⟩ := h; rfl
  · obtain ⟨t, r, L, rfl, few, ht, hr', q⟩ := h
    refine ⟨_, (pss_one (ps_ret (pe_and (pe_callB (isi_ K) (by rfl) T.isinstance b_isinstance (pa_cons (pv 0) (pa_cons (pe_bltn (v := .ty "tuple") (by rfl) T.tuple b_tuple rfl) pa_nil))) (pe_one (pe_cal c__law_same (hr.mono (by decide)) (pa_cons (pe_callTy (lstOf_ K) (by rfl) T.list b_list (pa_cons (pv 0) pa_nil)) (pa_cons (pe_callTy (lstOf_ K) (by rfl) T.list b_list (pa_cons (pv 1) pa_nil)) pa_nil))))))), ?_⟩
    (repeat refine ⟨_, rfl, ?_⟩)
    refine ⟨_, _, _, _, true, rfl, .ty _, .base (.tup ht), kit_ty (by decide +kernel), true, rfl, ?_⟩
    refine ⟨_, rfl, t, _, rfl, .inr (SqT.of ht), fun a na => ?_⟩
    have s1 : Same H (L2.upd H a (.lst (stV L))) := same_new na
    have ha : (L2.upd H a (.lst (stV L))) a = some (.lst (stV L)) := upd_same
    generalize L2.upd H a (.lst (stV L)) = H1 at s1 ha ⊢
    refine ⟨_, rfl, r, _, rfl, .inr (SqT.of (s1 _ _ hr')), fun d nd => ?_⟩
    exact ⟨a, d, L, rfl, few, (same_new nd) _ _ ha, upd_same, q _ (s1.trans (same_new nd))⟩
abbrev s__law_same_pairs : Stmt := top 59
theorem sc__law_same_pairs : FnScope ["found", "due", "k", "pair"] ["found", "due"] (defScope s__law_same_pairs) := ⟨rfl, rfl, rfl, by decide +kernel, rfl, by decide +kernel, by decide +kernel⟩
-- slots of _law_same_pairs: 0 found, 1 due, 2 k, 3 pair
def spSamePrs : Sp := fun vs H Q _ => ∃ (a d : Addr) (n h : Nat) (xs ys : List V) (L : List (Nat × List Int)), vs = [.ref a, .ref d] ∧ n ≤ 16 ∧ L.length < 1000 ∧ H a = some (.lst xs) ∧ H d = some (.lst ys) ∧ PrL H n h xs L ∧ PrL H n h ys L ∧ ∀ H', Same H H' → Q (.bl true) H'
theorem ok__law_same_pairs (T : Txt K mg C) {f : Addr} {fd : FuncData} (F : Fun K "_law_same_pairs" "_law_same_pairs" s__law_same_pairs f fd) (c__law_is_integer : Cal P w K mg base "_law_is_integer" 1 spIsInt) (c__law_is : Cal P w K mg base "_law_is" 3 spIsT) : FnOk P w K mg base CX0 4 f fd ["found", "due"] spSamePrs := by
  refine F.ok sc__law_same_pairs (fun vs H Q E h => ?_) (fun cdv A outer s H vs Q E hr h => ?_)
  · obtain ⟨a, d, n, h, xs, ys, L, rfl, _⟩ := h; rfl
  · obtain ⟨a, d, n, h, xs, ys, L, rfl, n16, few, ha, hd, pa, pd, q⟩ := h
    refine ⟨_, (pss_cons (ps_if (PW.pt (pw_or (pt_not (pt_val (pe_callB (isi_ K) (by rfl) T.isinstance b_isinstance (pa_cons (pv 0) (pa_cons (pe_bltn (v := .ty "list") (by rfl) T.list b_list rfl) pa_nil))))) (pw_or1 (pt_cmpR op_ne (pe_callB (lenS_ K) (by rfl) T.len b_len (pa_cons (pv 0) pa_nil)) (pe_callB (lenS_ K) (by rfl) T.len b_len (pa_cons (pv 1) pa_nil)) (nomark _)))))
      (pss_one (ps_ret pe_bl)) pss_nil)
      (pss_cons (ps_for PassesOwn.never rfl (pi_range1 (by rfl) T.range (pa_cons (pe_callB (lenS_ K) (by rfl) T.len b_len (pa_cons (pv 1) pa_nil)) pa_nil)) (pg_name (i := 2) sc__law_same_pairs.nd rfl (by first | exact Or.inl rfl | exact Or.inr rfl))
      (pss_cons (ps_set (i := 3) sc__law_same_pairs.nd rfl (by first | exact Or.inl rfl | exact Or.inr rfl) (pe_ix (ixL_ K) (pv 0) (pv 2) (fun _ _ => rfl)))
      (pss_cons (ps_if (PW.pt (pw_or (pt_not (pt_val (pe_callB (isi_ K) (by rfl) T.isinstance b_isinstance (pa_cons (pv 3) (pa_cons (pe_bltn (v := .ty "tuple") (by rfl) T.tuple b_tuple rfl) pa_nil))))) (pw_or (pt_cmpR op_ne (pe_callB (lenS_ K) (by rfl) T.len b_len (pa_cons (pv 3) pa_nil)) pe_int (nomark _)) (pw_or1 (pt_not (pt_val (pe_cal c__law_is_integer (hr.mono (by decide)) (pa_cons (pe_ix (ixT_ K) (pv 3) pe_int (fun _ _ => rfl)) pa_nil))))))))
      (pss_one (ps_ret pe_bl)) pss_nil)
      (pss_one (ps_if (PW.pt (pw_or (pt_cmpR op_ne (pe_ix (ixT_ K) (pv 3) pe_int (fun _ _ => rfl)) (pe_ix (ixT_ K) (pe_ix (ixL_ K) (pv 1) (pv 2) (fun _ _ => rfl)) pe_int (fun _ _ => rfl)) (nomark _)) (pw_or1 (pt_not (pt_val (pe_cal c__law_is (hr.mono (by decide)) (pa_cons (pe_ix (ixT_ K) (pv 3) pe_int (fun _ _ => rfl)) (pa_cons (pe_ix (ixT_ K) (pe_ix (ixL_ K) (pv 1) (pv 2) (fun _ _ => rfl)) pe_int (fun _ _ => rfl)) pa_nil))))))))
      (pss_one (ps_ret pe_bl)) pss_nil)))))
      (pss_one (ps_ret pe_bl)))), ?_⟩
    (repeat refine ⟨_, rfl, ?_⟩)
    refine ⟨_, _, _, _, true, rfl, .ty _, .base (.lst ha), kit_ty (by decide +kernel), true, rfl, iteF ?_⟩
    (repeat refine ⟨_, rfl, ?_⟩)
    refine ⟨a, _, rfl, .inl (SqL.of ha), _, rfl, d, _, rfl, .inl (SqL.of hd), rfl, _, rfl, ?_⟩
    rw [show decide (V.int (xs.length : Int) = V.int (ys.length : Int)) = true from decide_eq_true (by rw [pa.1, pd.1])]
    refine iteF ?_
    refine ⟨_, rfl, d, _, rfl, .inl (SqL.of hd), _, rfl, by rw [pd.1]; omega, by rw [pd.1]; omega, ?_⟩
    rw [pd.1, Int.toNat_natCast]
    refine for_range (fun i σ G => ∃ v v3 : Option V, σ = [some (.ref a), some (.ref d), v, v3] ∧ Same H G) ⟨_, _, rfl, Same.refl H⟩ ?_ ?_
    · rintro i σ G hi ⟨v, v3, rfl, sG⟩
      have e0 : (0 : Int) + (i : Int) = (i : Int) := by omega
      rw [e0]
      have lx : i < xs.length := by rw [pa.1]; exact hi
      have ly : i < ys.length := by rw [pd.1]; exact hi
      have xi : xs[i]? = some xs[i] := List.getElem?_eq_getElem lx
      have yi : ys[i]? = some ys[i] := List.getElem?_eq_getElem ly
      obtain ⟨ok, tp, ru, ex, htp, hru⟩ := pa.2 i _ _ xi (List.getElem?_eq_getElem hi)
      obtain ⟨_, tq, rv, ey, htq, hrv⟩ := pd.2 i _ _ yi (List.getElem?_eq_getElem hi)
      rw [ex] at xi
      rw [ey] at yi
      have htp := sG _ _ htp
      have htq := sG _ _ htq
      refine ⟨_, rfl, _, rfl, a, _, _, _, rfl, rfl, SqL.of (sG _ _ ha), atI_nat xi, ?_⟩
      (repeat refine ⟨_, rfl, ?_⟩)
      refine ⟨_, _, _, _, true, rfl, .ty _, .base (.tup htp), kit_ty (by decide +kernel), true, rfl, iteF ?_⟩
      (repeat refine ⟨_, rfl, ?_⟩)
      refine ⟨tp, _, rfl, .inr (SqT.of htp), rfl, _, rfl, iteF ?_⟩
      refine ⟨_, rfl, tp, _, _, _, rfl, rfl, SqT.of htp, atI_nat (j := 0) rfl, _, rfl, true, rfl, iteF ?_⟩
      refine ⟨_, rfl, tp, _, _, _, rfl, rfl, SqT.of htp, atI_nat (j := 0) rfl, _, rfl, _, rfl, d, _, _, _, rfl, rfl, SqL.of (sG _ _ hd), atI_nat yi, tq, _, _, _, rfl, rfl, SqT.of htq, atI_nat (j := 0) rfl, rfl, _, rfl, ?_⟩
      rw [decide_eq_true rfl]
      refine iteF ?_
      refine ⟨_, rfl, tp, _, _, _, rfl, rfl, SqT.of htp, atI_nat (j := 1) rfl, _, rfl, _, rfl, d, _, _, _, rfl, rfl, SqL.of (sG _ _ hd), atI_nat yi, tq, _, _, _, rfl, rfl, SqT.of htq, atI_nat (j := 1) rfl, ?_⟩
      exact ⟨ru, rv, L[i].2, rfl, by rw [ok.1]; omega, sG _ _ hru, sG _ _ hrv, fun G2 s2 => ⟨true, rfl, iteF ⟨_, _, rfl, sG.trans s2⟩⟩⟩
    · rintro σ G ⟨v, v3, rfl, sG⟩
      exact q G sG
abbrev s__law_same_states : Stmt := top 60
theorem sc__law_same_states : FnScope ["found", "due", "k"] ["found", "due"] (defScope s__law_same_states) := ⟨rfl, rfl, rfl, by decide +kernel, rfl, by decide +kernel, by decide +kernel⟩
-- slots of _law_same_states: 0 found, 1 due, 2 k
def spSameSts : Sp := fun vs H Q _ => ∃ (a d : Addr) (n h : Nat) (xs ys : List V) (SS : List (List Int)), vs = [.ref a, .ref d] ∧ n ≤ 16 ∧ SS.length < 1000 ∧ H a = some (.lst xs) ∧ H d = some (.lst ys) ∧ StL H n h xs SS ∧ StL H n h ys SS ∧ ∀ H', Same H H' → Q (.bl true) H'
theorem ok__law_same_states (T : Txt K mg C) {f : Addr} {fd : FuncData} (F : Fun K "_law_same_states" "_law_same_states" s__law_same_states f fd) (c__law_is : Cal P w K mg base "_law_is" 3 spIsT) : FnOk P w K mg base CX0 4 f fd ["found", "due"] spSameSts := by
  refine F.ok sc__law_same_states (fun vs H Q E h => ?_) (fun cdv A outer s H vs Q E hr h => ?_)
  · obtain ⟨a, d, n, h, xs, ys, SS, rfl, _⟩ := h; rfl
  · obtain ⟨a, d, n, h, xs, ys, SS, rfl, n16, few, ha, hd, pa, pd, q⟩ := h
    refine ⟨_, (pss_cons (ps_if (PW.pt (pw_or (pt_not (pt_val (pe_callB (isi_ K) (by rfl) T.isinstance b_isinstance (pa_cons (pv 0) (pa_cons (pe_bltn (v := .ty "list") (by rfl) T.list b_list rfl) pa_nil))))) (pw_or1 (pt_cmpR op_ne (pe_callB (lenS_ K) (by rfl) T.len b_len (pa_cons (pv 0) pa_nil)) (pe_callB (lenS_ K) (by rfl) T.len b_len (pa_cons (pv 1) pa_nil)) (nomark _)))))
      (pss_one (ps_ret pe_bl)) pss_nil)
      (pss_cons (ps_for PassesOwn.never rfl (pi_range1 (by rfl) T.range (pa_cons (pe_callB (lenS_ K) (by rfl) T.len b_len (pa_cons (pv 1) pa_nil)) pa_nil)) (pg_name (i := 2) sc__law_same_states.nd rfl (by first | exact Or.inl rfl | exact Or.inr rfl))
      (pss_one (ps_if (pt_not (pt_val (pe_cal c__law_is (hr.mono (by decide)) (pa_cons (pe_ix (ixL_ K) (pv 0) (pv 2) (fun _ _ => rfl)) (pa_cons (pe_ix (ixL_ K) (pv 1) (pv 2) (fun _ _ => rfl)) pa_nil)))))
      (pss_one (ps_ret pe_bl)) pss_nil)))
      (pss_one (ps_ret pe_bl)))), ?_⟩
    (repeat refine ⟨_, rfl, ?_⟩)
    refine ⟨_, _, _, _, true, rfl, .ty _, .base (.lst ha), kit_ty (by decide +kernel), true, rfl, iteF ?_⟩
    (repeat refine ⟨_, rfl, ?_⟩)
    refine ⟨a, _, rfl, .inl (SqL.of ha), _, rfl, d, _, rfl, .inl (SqL.of hd), rfl, _, rfl, ?_⟩
    rw [show decide (V.int (xs.length : Int) = V.int (ys.length : Int)) = true from decide_eq_true (by rw [pa.1, pd.1])]
    refine iteF ?_
    refine ⟨_, rfl, d, _, rfl, .inl (SqL.of hd), _, rfl, by rw [pd.1]; omega, by rw [pd.1]; omega, ?_⟩
    rw [pd.1, Int.toNat_natCast]
    refine for_range (fun i σ G => ∃ v : Option V, σ = [some (.ref a), some (.ref d), v] ∧ Same H G) ⟨_, rfl, Same.refl H⟩ ?_ ?_
    · rintro i σ G hi ⟨v, rfl, sG⟩
      have e0 : (0 : Int) + (i : Int) = (i : Int) := by omega
      rw [e0]
      have lx : i < xs.length := by rw [pa.1]; exact hi
      have ly : i < ys.length := by rw [pd.1]; exact hi
      have xi : xs[i]? = some xs[i] := List.getElem?_eq_getElem lx
      have yi : ys[i]? = some ys[i] := List.getElem?_eq_getElem ly
      obtain ⟨ok, tp, ex, htp⟩ := pa.2 i _ _ xi (List.getElem?_eq_getElem hi)
      obtain ⟨_, tq, ey, htq⟩ := pd.2 i _ _ yi (List.getElem?_eq_getElem hi)
      rw [ex] at xi
      rw [ey] at yi
      refine ⟨_, rfl, _, rfl, a, _, _, _, rfl, rfl, SqL.of (sG _ _ ha), atI_nat xi, _, rfl, _, rfl, d, _, _, _, rfl, rfl, SqL.of (sG _ _ hd), atI_nat yi, ?_⟩
      exact ⟨tp, tq, SS[i], rfl, by rw [ok.1]; omega, sG _ _ htp, sG _ _ htq, fun G2 s2 => ⟨true, rfl, iteF ⟨_, rfl, sG.trans s2⟩⟩⟩
    · rintro σ G ⟨v, rfl, sG⟩
      exact q G sG
end
end Hue

end
section
set_option maxRecDepth 100000
set_option maxHeartbeats 4000000
namespace Hue
open PySem PySem.Spec PyProof.Rows L2
section
variable {P : Program} {w : World} {K : PySem.W.Frag} {mg : Str → Option Value} {base : Heap} {C : Addr}
theorem sum_zero : ∀ {L : List Int}, (∀ z ∈ L, 0 ≤ z) → (L.sum = 0 ↔ ∀ z ∈ L, z = 0) := by
  intro L hL
  have pos : ∀ {L : List Int}, (∀ z ∈ L, 0 ≤ z) → 0 ≤ L.sum := by
    intro L
    induction L with
    | nil => intro _; exact Int.le_refl _
    | cons z L ih => intro h; rw [List.sum_cons]; have := h z List.mem_cons_self; have := ih fun y hy => h y (List.mem_cons_of_mem _ hy); omega
  induction L with
  | nil => exact ⟨fun _ z hz => (by cases hz), fun _ => rfl⟩
  | cons z L ih =>
    have z0 := hL z List.mem_cons_self
    have hL' : ∀ y ∈ L, 0 ≤ y := fun y hy => hL y (List.mem_cons_of_mem _ hy)
    have p := pos hL'
    rw [List.sum_cons]
    refine ⟨fun e y hy => ?_, fun a => ?_⟩
    · rcases List.mem_cons.mp hy with r | r
      · rw [r]; omega
      · exact (ih hL').mp (by omega) y r
    · rw [a z List.mem_cons_self, (ih hL').mpr fun y hy => a y (List.mem_cons_of_mem _ hy)]; rfl
theorem low_sum {n h k : Nat} {R : Rel} {S : List Int} (ok : StOk n h S) : (((Bel n R k).map (at_ S)).sum = 0) ↔ ∀ u, u < n → R k u = true → at_ S u = 0 := by
  rw [sum_zero fun z hz => by obtain ⟨u, hu, rfl⟩ := List.mem_map.mp hz; exact (ok.at (mem_Bel.mp hu).1).1]
  exact ⟨fun a u hu r => a _ (List.mem_map_of_mem (mem_Bel.mpr ⟨hu, r⟩)), fun a z hz => by obtain ⟨u, hu, rfl⟩ := List.mem_map.mp hz; exact a u (mem_Bel.mp hu).1 (mem_Bel.mp hu).2⟩
/-- what is below, and the sizes -/
structure Bw (H : Hp) (be : Addr) (n h : Nat) (ps : List (Nat × Nat)) : Prop where
  n1 : 1 ≤ n
  n16 : n ≤ 16
  h2 : 2 ≤ h
  h10 : h ≤ 10
  ws : WsOk n ps
  rows : Rows H be (relRows n (relOf ps))
theorem Bw.same {H H' : Hp} {be : Addr} {n h : Nat} {ps : List (Nat × Nat)} (a : Bw H be n h ps) (s : Same H H') : Bw H' be n h ps := ⟨a.n1, a.n16, a.h2, a.h10, a.ws, a.rows.same s⟩
abbrev s__law_lowest : Stmt := top 61
theorem sc__law_lowest : FnScope ["below", "state", "lamps", "lamp", "lower"] ["below", "state"] (defScope s__law_lowest) := ⟨rfl, rfl, rfl, by decide +kernel, rfl, by decide +kernel, by decide +kernel⟩
-- slots of _law_lowest: 0 below, 1 state, 2 lamps, 3 lamp, 4 lower
def spLowest : Sp := fun vs H Q _ => ∃ (be t : Addr) (n h : Nat) (ps : List (Nat × Nat)) (S : List Int), vs = [.ref be, .ref t] ∧ Bw H be n h ps ∧ H t = some (.tup (stV S)) ∧ StOk n h S ∧ ∀ (p : Addr) (H' : Hp), Same H H' → H p = none → H' p = some (.lst (nL (lowL n (relOf ps) S))) → Q (.ref p) H'
theorem ok__law_lowest (T : Txt K mg C) {f : Addr} {fd : FuncData} (F : Fun K "_law_lowest" "_law_lowest" s__law_lowest f fd) : FnOk P w K mg base CX0 1 f fd ["below", "state"] spLowest := by
  refine F.ok sc__law_lowest (fun vs H Q E h => ?_) (fun cdv A outer s H vs Q E hr h => ?_)
  · obtain ⟨be, t, n, h, ps, S, rfl, _⟩ := h; rfl
  · obtain ⟨be, t, n, h, ps, S, rfl, W, ht, ok, q⟩ := h
    have n16 := W.n16
    refine ⟨_, (pss_cons (ps_set (i := 2) sc__law_lowest.nd rfl (by first | exact Or.inl rfl | exact Or.inr rfl) (pe_lst pa_nil))
      (pss_cons (ps_for PassesOwn.never rfl (pi_range1 (by rfl) T.range (pa_cons (pe_callB (lenS_ K) (by rfl) T.len b_len (pa_cons (pv 1) pa_nil)) pa_nil)) (pg_name (i := 3) sc__law_lowest.nd rfl (by first | exact Or.inl rfl | exact Or.inr rfl))
      (pss_one (ps_if (PW.pt (pw_and (pt_cmpR op_gt (pe_ix (ixT_ K) (pv 1) (pv 3) (fun _ _ => rfl)) pe_int (nomark _)) (pw_and1 (pt_cmpR op_eq (pe_callB (sum_ K rfl) (by rfl) T.sum b_sum (pa_cons (pe_lc (own := [("lower", 4)]) (g := gName 4) (tt := tYes) rfl sc__law_lowest.nd (pil_ K (pe_ix (ixL_ K) (pv 0) (pv 3) (fun _ _ => rfl))) (blkOk_by (by kernel_rfl)) (fun _ _ _ _ _ => (pg_name (i := 4) sc__law_lowest.nd rfl (by first | exact Or.inl rfl | exact Or.inr rfl))) (fun _ _ _ _ _ => pts_nil) (fun _ _ _ _ _ => (pe_ix (ixT_ K) (pv 1) (pv 4) (fun _ _ => rfl)))) pa_nil)) pe_int (nomark _)))))
      (pss_one (ps_expr (pe_bm PySem.F.plainAttrs_list PySem.F.slot_list_append PySem.F.type_list_append mt_append (pv 2) (pa_cons (pv 3) pa_nil)))) pss_nil)))
      (pss_one (ps_ret (pv 2))))), ?_⟩
    refine ⟨by show 0 ≤ sizeLine; decide, fun f0 nf => ?_⟩
    have s0 : Same H (L2.upd H f0 (.lst [])) := same_new nf
    have h0 : (L2.upd H f0 (.lst [])) f0 = some (.lst (nL [])) := upd_same
    generalize L2.upd H f0 (.lst []) = H0 at s0 h0 ⊢
    have lS : (stV S).length = n := by rw [List.length_map, ok.1]
    refine ⟨_, rfl, t, _, rfl, .inr (SqT.of (s0 _ _ ht)), _, rfl, by rw [lS]; omega, by rw [lS]; omega, ?_⟩
    rw [lS, Int.toNat_natCast]
    refine for_range (fun i σ G => ∃ v3 v4 : Option V, σ = [some (.ref be), some (.ref t), some (.ref f0), v3, v4] ∧ Same H G ∧ G f0 = some (.lst (nL ((List.range i).filter (lowB n (relOf ps) S))))) ⟨_, _, rfl, s0, h0⟩ ?_ ?_
    · rintro k σ G hk ⟨v3, v4, rfl, sG, hf⟩
      have e0 : (0 : Int) + (k : Int) = (k : Int) := by omega
      rw [e0]
      have kS := stV_get (S := S) (k := k) (by rw [ok.1]; exact hk)
      have bl := Bel_len n (relOf ps) k
      refine ⟨_, rfl, _, rfl, t, _, _, _, rfl, rfl, SqT.of (sG _ _ ht), atI_nat kS, _, _, rfl, rfl, _, rfl, ite2 (fun hp => ?_) fun hn => ?_⟩
      · have pos := of_decide_eq_true hp
        obtain ⟨xs, al, hb, _, hal, hL⟩ := W.rows.at (relRows_at (R := relOf ps) hk)
        refine ⟨_, rfl, _, rfl, be, xs, _, _, rfl, rfl, SqL.of (sG _ _ hb), atI_nat hal, al, rfl, ⟨_, SqL.of (sG _ _ hL)⟩, fun D hD => ?_⟩
        refine lc_list (xs := nL (Bel n (relOf ps) k)) (fun j G2 => G2 D = some (.lst ((((Bel n (relOf ps) k).take j).map (at_ S)).map V.int)) ∧ Same G G2) ⟨upd_same, same_new hD⟩ (fun j G2 _ ⟨_, s⟩ => SqL.of (s _ _ (sG _ _ hL))) ?_ ?_
        · rintro j z G2 hz ⟨g2, t2⟩
          obtain ⟨e, he, rfl⟩ := nL_it2 hz
          have en : e < n := (mem_Bel.mp (List.mem_of_getElem? he)).1
          refine ⟨rfl, yesT ⟨_, rfl, _, rfl, t, _, _, _, rfl, rfl, SqT.of ((sG.trans t2) _ _ ht), atI_nat (stV_get (by rw [ok.1]; exact en)), _, g2, ?_, ?_, same_upd t2 hD⟩⟩
          · rw [List.length_map, List.length_map, List.length_take, sizeLine_eq]; omega
          · rw [upd_same, List.take_add_one, he, List.map_append, List.map_append]; rfl
        rintro G2 ⟨g2, t2⟩
        rw [nL_len, List.take_length] at g2
        refine ⟨D, _, rfl, SqL.of g2, rfl, _, rfl, ite2 (fun hz => ?_) fun hz => ?_⟩
        · have z0 : ((Bel n (relOf ps) k).map (at_ S)).sum = 0 := by have z := of_decide_eq_true hz; injection z
          have yes : lowB n (relOf ps) S k = true := lowB_yes.mpr ⟨pos, (low_sum ok).mp z0⟩
          refine ⟨_, rfl, .inl ⟨rfl, _, SqL.of (t2 _ _ hf)⟩, _, rfl, f0, _, _, rfl, rfl, t2 _ _ hf, ?_, _, _, rfl, same_upd (sG.trans t2) nf, ?_⟩
          · have := List.length_filter_le (lowB n (relOf ps) S) (List.range k)
            rw [List.length_range] at this
            rw [nL_len, sizeLine_eq]; omega
          · rw [upd_same, filt_more', if_pos yes, nL_app]; rfl
        · have no : ¬ lowB n (relOf ps) S k = true := fun y => hz (decide_eq_true (by rw [(low_sum ok).mpr (lowB_yes.mp y).2]))
          refine ⟨_, _, rfl, sG.trans t2, ?_⟩
          rw [t2 _ _ hf, filt_more', if_neg no, List.append_nil]
      · have no : ¬ lowB n (relOf ps) S k = true := fun y => hn (decide_eq_true (lowB_yes.mp y).1)
        refine ⟨_, _, rfl, sG, ?_⟩
        rw [hf, filt_more', if_neg no, List.append_nil]
    · rintro σ G ⟨v3, v4, rfl, sG, hf⟩
      exact ⟨_, rfl, q f0 G sG nf hf⟩
abbrev s__law_piece : Stmt := top 62
theorem sc__law_piece : FnScope ["above", "state", "lamp", "k"] ["above", "state", "lamp"] (defScope s__law_piece) := ⟨rfl, rfl, rfl, by decide +kernel, rfl, by decide +kernel, by decide +kernel⟩
-- slots of _law_piece: 0 above, 1 state, 2 lamp, 3 k
def spPieceL : Sp := fun vs H Q _ => ∃ (ab t : Addr) (n h l : Nat) (R : Rel) (S : List Int), vs = [.ref ab, .ref t, .int l] ∧ n ≤ 16 ∧ h ≤ 10 ∧ l < n ∧ Rows H ab (relRows n (flip R)) ∧ H t = some (.tup (stV S)) ∧ StOk n h S ∧ ∀ (p : Addr) (H' : Hp), Same H H' → H p = none → H' p = some (.tup (stV (pcS n R S l))) → Q (.ref p) H'
theorem ok__law_piece (T : Txt K mg C) {f : Addr} {fd : FuncData} (F : Fun K "_law_piece" "_law_piece" s__law_piece f fd) : FnOk P w K mg base CX0 1 f fd ["above", "state", "lamp"] spPieceL := by
  refine F.ok sc__law_piece (fun vs H Q E h => ?_) (fun cdv A outer s H vs Q E hr h => ?_)
  · obtain ⟨ab, t, n, h, l, R, S, rfl, _⟩ := h; rfl
  · obtain ⟨ab, t, n, h, l, R, S, rfl, n16, h10, hl, hA, ht, ok, q⟩ := h
    refine ⟨_, (pss_one (ps_ret (pe_callTy (tupOf_ K) (by rfl) T.tuple b_tuple (pa_cons (pe_lc (own := [("k", 3)]) (g := gName 3) (tt := tYes) rfl sc__law_piece.nd (pi_range1 (by rfl) T.range (pa_cons (pe_callB (lenS_ K) (by rfl) T.len b_len (pa_cons (pv 1) pa_nil)) pa_nil)) (blkOk_by (by kernel_rfl)) (fun _ _ _ _ _ => (pg_name (i := 3) sc__law_piece.nd rfl (by first | exact Or.inl rfl | exact Or.inr rfl))) (fun _ _ _ _ _ => pts_nil) (fun _ _ _ _ _ => (pe_op op_mul (pe_ix (ixT_ K) (pv 1) (pv 3) (fun _ _ => rfl)) (pe_callTy call_int1 (by rfl) T.int b_int (pa_cons (pe_or (pe_cmpR op_eq (pv 3) (pv 2) (nomark _)) (pe_one (pe_cmpR (inS_ K) (pv 3) (pe_ix (ixL_ K) (pv 0) (pv 2) (fun _ _ => rfl)) (by rfl)))) pa_nil))))) pa_nil)))), ?_⟩
    have lS : (stV S).length = n := by rw [List.length_map, ok.1]
    refine ⟨_, rfl, t, _, rfl, .inr (SqT.of ht), _, rfl, by rw [lS]; omega, by rw [lS]; omega, fun D hD => ?_⟩
    rw [lS, Int.toNat_natCast]
    obtain ⟨xs, al, hb, _, hal, hL⟩ := hA.at (relRows_at (R := flip R) hl)
    refine lc_range (fun j G => G D = some (.lst (stV ((List.range j).map (pcV R S l)))) ∧ Same H G) ⟨upd_same, same_new hD⟩ ?_ ?_
    · rintro j G hj ⟨g, sG⟩
      have e0 : (0 : Int) + (j : Int) = (j : Int) := by omega
      rw [e0]
      have kJ := stV_get (S := S) (k := j) (by rw [ok.1]; exact hj)
      have b := ok.at hj
      have last : ∀ z : Int, z = pcV R S l j → L2.upd G D (.lst (stV ((List.range j).map (pcV R S l)) ++ [V.int z])) D = some (.lst (stV ((List.range (j + 1)).map (pcV R S l)))) := fun z ez => by
        rw [upd_same, List.range_succ, List.map_append, ez]
        unfold stV
        rw [List.map_append]
        rfl
      have len : (stV ((List.range j).map (pcV R S l))).length < sizeLine := by unfold stV; rw [List.length_map, List.length_map, List.length_range, sizeLine_eq]; omega
      refine ⟨rfl, yesT ⟨_, rfl, _, rfl, t, _, _, _, rfl, rfl, SqT.of (sG _ _ ht), atI_nat kJ, _, rfl, _, rfl, rfl, _, rfl, ite2 (fun he => ?_) fun hne => ?_⟩⟩
      · have e : j = l := by have z := of_decide_eq_true he; injection z with z; omega
        refine .inr ⟨true, rfl, _, _, rfl, rfl, .inr ⟨by decide, by decide⟩, _, g, len, last _ ?_, same_upd sG hD⟩
        unfold pcV
        rw [if_pos (show (decide (j = l) || R j l) = true by rw [decide_eq_true e]; rfl)]
        show at_ S j * 1 = at_ S j
        exact Int.mul_one _
      · have ne : ¬ j = l := fun z => hne (by rw [z]; exact decide_eq_true rfl)
        refine ⟨_, rfl, _, rfl, _, rfl, ab, _, _, _, rfl, rfl, SqL.of (sG _ _ hb), atI_nat hal, al, _, rfl, .inl (SqL.of (sG _ _ hL)), rfl, flat_nL _, .inr ⟨_, rfl, _, _, rfl, rfl, .inl ⟨by omega, by omega⟩, _, g, len, last _ ?_, same_upd sG hD⟩⟩
        show at_ S j * (if inV (V.int (j : Int)) (nL (Bel n (flip R) l)) = true then 1 else 0) = pcV R S l j
        have em : inV (V.int (j : Int)) (nL (Bel n (flip R) l)) = (decide (j = l) || R j l) := by
          rw [in_nL, Bool.eq_iff_iff, decide_eq_true_iff, Bool.or_eq_true, decide_eq_true_iff, mem_Bel]
          exact ⟨fun z => .inr z.2, fun z => ⟨hj, z.resolve_left ne⟩⟩
        rw [em]
        unfold pcV
        by_cases r : (decide (j = l) || R j l) = true
        · rw [if_pos r, if_pos r]; exact Int.mul_one _
        · rw [if_neg r, if_neg r]; exact Int.mul_zero _
    · rintro G ⟨g, sG⟩
      refine ⟨D, _, rfl, .inl ⟨SqL.of g, fun p np => ?_⟩⟩
      exact q p _ (sG.trans (same_new np)) (sG.free np) upd_same
abbrev s__law_all_lowered : Stmt := top 63
theorem sc__law_all_lowered : FnScope ["below", "hues", "state", "lamps", "hand", "lamp", "lower"] ["below", "hues", "state", "lamps"] (defScope s__law_all_lowered) := ⟨rfl, rfl, rfl, by decide +kernel, rfl, by decide +kernel, by decide +kernel⟩
-- slots of _law_all_lowered: 0 below, 1 hues, 2 state, 3 lamps, 4 hand, 5 lamp, 6 lower
def spAllLow : Sp := fun vs H Q _ => ∃ (be t l : Addr) (n h : Nat) (ps : List (Nat × Nat)) (S : List Int) (ks : List Nat), vs = [.ref be, .int h, .ref t, .ref l] ∧ Bw H be n h ps ∧ H t = some (.tup (stV S)) ∧ H l = some (.lst (nL ks)) ∧ StOk n h S ∧ Lows n (relOf ps) S ks ∧ ks.Nodup ∧ ∀ (p : Addr) (H' : Hp), Same H H' → H' p = some (.tup (stV (lowS n h (relOf ps) S ks))) → Q (.ref p) H'
theorem ok__law_all_lowered (T : Txt K mg C) {f : Addr} {fd : FuncData} (F : Fun K "_law_all_lowered" "_law_all_lowered" s__law_all_lowered f fd) : FnOk P w K mg base CX0 1 f fd ["below", "hues", "state", "lamps"] spAllLow := by
  refine F.ok sc__law_all_lowered (fun vs H Q E h => ?_) (fun cdv A outer s H vs Q E hr h => ?_)
  · obtain ⟨be, t, l, n, h, ps, S, ks, rfl, _⟩ := h; rfl
  · obtain ⟨be, t, l, n, h, ps, S, ks, rfl, W, ht, hl, ok, lows, nd, q⟩ := h
    refine ⟨_, (pss_cons (ps_set (i := 4) sc__law_all_lowered.nd rfl (by first | exact Or.inl rfl | exact Or.inr rfl) (pe_callTy (lstOf_ K) (by rfl) T.list b_list (pa_cons (pv 2) pa_nil)))
      (pss_cons (ps_for PassesOwn.never rfl (pil_ K (pv 3)) (pg_name (i := 5) sc__law_all_lowered.nd rfl (by first | exact Or.inl rfl | exact Or.inr rfl))
      (pss_cons (ps_asg (pe_op op_sub (pe_ix (ixL_ K) (pv 4) (pv 5) (fun _ _ => rfl)) pe_int) (pg_sub (pv 4) (pv 5) set_list))
      (pss_one (ps_for PassesOwn.never rfl (pil_ K (pe_ix (ixL_ K) (pv 0) (pv 5) (fun _ _ => rfl))) (pg_name (i := 6) sc__law_all_lowered.nd rfl (by first | exact Or.inl rfl | exact Or.inr rfl))
      (pss_one (ps_asg (pe_op op_sub (pv 1) pe_int) (pg_sub (pv 4) (pv 6) set_list)))))))
      (pss_one (ps_ret (pe_callTy (tupOf_ K) (by rfl) T.tuple b_tuple (pa_cons (pv 4) pa_nil)))))), ?_⟩
    refine ⟨_, rfl, t, _, rfl, .inr (SqT.of ht), fun fr nf => ?_⟩
    have s1 : Same H (L2.upd H fr (.lst (stV S))) := same_new nf
    have hf1 : (L2.upd H fr (.lst (stV S))) fr = some (.lst (stV S)) := upd_same
    generalize L2.upd H fr (.lst (stV S)) = H1 at s1 hf1 ⊢
    refine ⟨_, rfl, l, rfl, ⟨_, SqL.of (s1 _ _ hl)⟩, ?_⟩
    refine for_list (K := K) (a := l) (xs := nL ks) (fun i σ G => ∃ (v4 v5 : Option V) (U : List Int), σ = [some (.ref be), some (.int h), some (.ref t), some (.ref l), some (.ref fr), v4, v5] ∧ Same H G ∧ G fr = some (.lst (stV U)) ∧ U.length = n ∧ ∀ j, j < n → at_ U j = lowVl h (relOf ps) S (ks.take i) j) ⟨_, _, S, rfl, s1, hf1, ok.1, fun j hj => by unfold lowVl; rw [if_neg (by simp), if_neg (by simp)]⟩ (fun i σ G _ ⟨_, _, _, _, s, _⟩ => SqL.of (s _ _ hl)) ?_ ?_
    · rintro i y σ G hy ⟨v4, v5, U, rfl, sG, hU, lU, val⟩
      obtain ⟨k, hk, rfl⟩ := nL_it2 hy
      have kn : k < n := lows.lt k (List.mem_of_getElem? hk)
      have kU := stV_get (S := U) (k := k) (by rw [lU]; exact kn)
      have tk : ks.take (i + 1) = ks.take i ++ [k] := by rw [List.take_add_one, hk]; rfl
      have nk : k ∉ ks.take i := fun z => by
        obtain ⟨m, hm, em⟩ := List.getElem_of_mem z
        rw [List.length_take] at hm
        rw [List.getElem_take] at em
        have := nodup_at nd (show ks[m]? = some k by rw [List.getElem?_eq_getElem (by omega), em]) hk
        omega
      have eU : at_ U k = at_ S k := by
        rw [val k kn]
        unfold lowVl
        have a0 : ¬ ((ks.take i).any fun l => relOf ps l k) = true := fun z => by
          obtain ⟨l, hl, r⟩ := List.any_eq_true.mp z
          rw [lows.anti (List.mem_of_mem_take hl) (List.mem_of_getElem? hk)] at r
          cases r
        rw [if_neg nk, if_neg a0]
      obtain ⟨xs, al, hb, _, hal, hL⟩ := W.rows.at (relRows_at (R := relOf ps) kn)
      refine ⟨_, rfl, _, rfl, fr, _, _, _, rfl, rfl, SqL.of hU, atI_nat kU, _, _, rfl, rfl, _, rfl, _, rfl, set_at hU (ixN_nat (by rw [List.length_map, lU]; exact kn)) fun G2 s2 h2 => ?_⟩
      rw [stV_set] at h2
      have s24 : Same H G2 := s2.to_same sG nf
      refine ⟨_, rfl, _, rfl, be, xs, _, _, rfl, rfl, SqL.of (s24 _ _ hb), atI_nat hal, al, rfl, ⟨_, SqL.of (s24 _ _ hL)⟩, ?_⟩
      refine for_list (K := K) (a := al) (xs := nL (Bel n (relOf ps) k)) (fun m σ G5 => ∃ (v5 : Option V) (U2 : List Int), σ = [some (.ref be), some (.int h), some (.ref t), some (.ref l), some (.ref fr), some (.int (k : Int)), v5] ∧ Same H G5 ∧ G5 fr = some (.lst (stV U2)) ∧ U2.length = n ∧ ∀ j, j < n → at_ U2 j = if j ∈ (Bel n (relOf ps) k).take m then (h : Int) - 1 else if j = k then at_ S k - 1 else lowVl h (relOf ps) S (ks.take i) j)
        ⟨_, _, rfl, s24, h2, by rw [List.length_set]; exact lU, fun j hj => ?_⟩ (fun m σ G5 _ ⟨_, _, _, s, _⟩ => SqL.of (s _ _ hL)) ?_ ?_
      · rw [if_neg (by simp), at_set (by rw [lU]; exact kn)]
        by_cases e : k = j
        · rw [if_pos e, if_pos e.symm, eU]
        · rw [if_neg e, if_neg fun z => e z.symm]; exact val j hj
      · rintro m y σ G5 hy ⟨v5, U2, rfl, s5, h5, lU2, val2⟩
        obtain ⟨j, hj, rfl⟩ := nL_it2 hy
        have jn : j < n := (mem_Bel.mp (List.mem_of_getElem? hj)).1
        have jU : j < U2.length := by rw [lU2]; exact jn
        refine ⟨_, rfl, _, _, rfl, rfl, _, rfl, _, rfl, set_at h5 (ixN_nat (by rw [List.length_map]; exact jU)) fun G6 s6 h6 => ?_⟩
        rw [stV_set] at h6
        refine ⟨_, _, rfl, s6.to_same s5 nf, h6, by rw [List.length_set]; exact lU2, fun c hc => ?_⟩
        have tj : (Bel n (relOf ps) k).take (m + 1) = (Bel n (relOf ps) k).take m ++ [j] := by rw [List.take_add_one, hj]; rfl
        rw [at_set jU, tj]
        by_cases e : j = c
        · rw [if_pos e, if_pos (by rw [e]; exact List.mem_append_right _ List.mem_cons_self)]
        · rw [if_neg e, val2 c hc]
          have z : c ∈ (Bel n (relOf ps) k).take m ++ [j] ↔ c ∈ (Bel n (relOf ps) k).take m := by rw [List.mem_append, List.mem_singleton]; exact ⟨fun z => z.elim id fun z => absurd z.symm e, .inl⟩
          simp only [z]
      · rintro σ G5 ⟨v5, U2, rfl, s5, h5, lU2, val2⟩
        rw [nL_len, List.take_length] at val2
        refine ⟨_, _, U2, rfl, s5, h5, lU2, fun j hj => ?_⟩
        rw [tk, ← low_more (by rw [← tk]; exact lows.take _), val2 j hj]
        have z : j ∈ Bel n (relOf ps) k ↔ relOf ps k j = true := by rw [mem_Bel]; exact ⟨fun z => z.2, fun z => ⟨hj, z⟩⟩
        simp only [z]
    · rintro σ G ⟨v4, v5, U, rfl, sG, hU, lU, val⟩
      rw [nL_len, List.take_length] at val
      have eU : U = lowS n h (relOf ps) S ks := ext_at lU lowS_len fun j hj => by rw [lowS_at hj]; exact val j hj
      rw [eU] at hU
      exact ⟨_, rfl, fr, _, rfl, .inl ⟨SqL.of hU, fun p np => q p _ (sG.trans (same_new np)) upd_same⟩⟩
theorem st_set {n h i : Nat} {S : List Int} {z : Int} (ok : StOk n h S) (z0 : 0 ≤ z) (z1 : z < (h : Int)) : StOk n h (S.set i z) := ⟨by rw [List.length_set, ok.1], fun y hy => by
  rcases List.mem_or_eq_of_mem_set hy with hy | hy
  · exact ok.2 y hy
  · rw [hy]; exact ⟨z0, z1⟩⟩
abbrev s__law_covers_of : Stmt := top 64
theorem sc__law_covers_of : FnScope ["below", "hues", "state", "found", "lamp", "lower", "hand"] ["below", "hues", "state"] (defScope s__law_covers_of) := ⟨rfl, rfl, rfl, by decide +kernel, rfl, by decide +kernel, by decide +kernel⟩
-- slots of _law_covers_of: 0 below, 1 hues, 2 state, 3 found, 4 lamp, 5 lower, 6 hand
def spCovOfL : Sp := fun vs H Q _ => ∃ (be t : Addr) (n h : Nat) (ps : List (Nat × Nat)) (S : List Int), vs = [.ref be, .int h, .ref t] ∧ Bw H be n h ps ∧ H t = some (.tup (stV S)) ∧ StOk n h S ∧ ∀ (p : Addr) (H' : Hp) (xs : List V), Same H H' → H p = none → H' p = some (.lst xs) → PrL H' n h xs (uvL n h (relOf ps) S) → Q (.ref p) H'
theorem ok__law_covers_of (T : Txt K mg C) {f : Addr} {fd : FuncData} (F : Fun K "_law_covers_of" "_law_covers_of" s__law_covers_of f fd) : FnOk P w K mg base CX0 1 f fd ["below", "hues", "state"] spCovOfL := by
  refine F.ok sc__law_covers_of (fun vs H Q E h => ?_) (fun cdv A outer s H vs Q E hr h => ?_)
  · obtain ⟨be, t, n, h, ps, S, rfl, _⟩ := h; rfl
  · obtain ⟨be, t, n, h, ps, S, rfl, W, ht, ok, q⟩ := h
    refine ⟨_, (pss_cons (ps_set (i := 3) sc__law_covers_of.nd rfl (by first | exact Or.inl rfl | exact Or.inr rfl) (pe_lst pa_nil))
      (pss_cons (ps_for PassesOwn.never rfl (pi_range1 (by rfl) T.range (pa_cons (pe_callB (lenS_ K) (by rfl) T.len b_len (pa_cons (pv 2) pa_nil)) pa_nil)) (pg_name (i := 4) sc__law_covers_of.nd rfl (by first | exact Or.inl rfl | exact Or.inr rfl))
      (pss_one (ps_if (PW.pt (pw_and (pt_cmpR op_lt (pe_ix (ixT_ K) (pv 2) (pv 4) (fun _ _ => rfl)) (pe_op op_sub (pv 1) pe_int) (nomark _)) (pw_and1 (pt_val (pe_callB (all_ K rfl) (by rfl) T.all b_all (pa_cons (pe_lc (own := [("lower", 5)]) (g := gName 5) (tt := tYes) rfl sc__law_covers_of.nd (pil_ K (pe_ix (ixL_ K) (pv 0) (pv 4) (fun _ _ => rfl))) (blkOk_by (by kernel_rfl)) (fun _ _ _ _ _ => (pg_name (i := 5) sc__law_covers_of.nd rfl (by first | exact Or.inl rfl | exact Or.inr rfl))) (fun _ _ _ _ _ => pts_nil) (fun _ _ _ _ _ => (pe_cmpR op_eq (pe_ix (ixT_ K) (pv 2) (pv 5) (fun _ _ => rfl)) (pe_op op_sub (pv 1) pe_int) (nomark _)))) pa_nil))))))
      (pss_cons (ps_set (i := 6) sc__law_covers_of.nd rfl (by first | exact Or.inl rfl | exact Or.inr rfl) (pe_callTy (lstOf_ K) (by rfl) T.list b_list (pa_cons (pv 2) pa_nil)))
      (pss_cons (ps_asg (pe_op op_add (pe_ix (ixL_ K) (pv 6) (pv 4) (fun _ _ => rfl)) pe_int) (pg_sub (pv 6) (pv 4) set_list))
      (pss_cons (ps_for PassesOwn.never rfl (pil_ K (pe_ix (ixL_ K) (pv 0) (pv 4) (fun _ _ => rfl))) (pg_name (i := 5) sc__law_covers_of.nd rfl (by first | exact Or.inl rfl | exact Or.inr rfl))
      (pss_one (ps_asg pe_int (pg_sub (pv 6) (pv 5) set_list))))
      (pss_one (ps_expr (pe_bm PySem.F.plainAttrs_list PySem.F.slot_list_append PySem.F.type_list_append mt_append (pv 3) (pa_cons (pe_tup (pa_cons (pv 4) (pa_cons (pe_callTy (tupOf_ K) (by rfl) T.tuple b_tuple (pa_cons (pv 6) pa_nil)) pa_nil))) pa_nil))))))) pss_nil)))
      (pss_one (ps_ret (pv 3))))), ?_⟩
    refine ⟨by show 0 ≤ sizeLine; decide, fun fr nf => ?_⟩
    have s0 : Same H (L2.upd H fr (.lst [])) := same_new nf
    have h0 : (L2.upd H fr (.lst [])) fr = some (.lst []) := upd_same
    generalize L2.upd H fr (.lst []) = H0 at s0 h0 ⊢
    have n16 := W.n16
    have h2 := W.h2
    have h10 := W.h10
    have irr := W.ws.ranked.irr
    have lS : (stV S).length = n := by rw [List.length_map, ok.1]
    refine ⟨_, rfl, t, _, rfl, .inr (SqT.of (s0 _ _ ht)), _, rfl, by rw [lS]; omega, by rw [lS]; omega, ?_⟩
    rw [lS, Int.toNat_natCast]
    refine for_range (fun i σ G => ∃ (v4 v5 v6 : Option V) (xs : List V), σ = [some (.ref be), some (.int h), some (.ref t), some (.ref fr), v4, v5, v6] ∧ Same H G ∧ G fr = some (.lst xs) ∧ xs.length ≤ i ∧ PrL G n h xs ((List.range i).filterMap fun k => (upO n h (relOf ps) S k true).map fun U => (k, U))) ⟨_, _, _, [], rfl, s0, h0, Nat.le_refl _, rfl, fun i y p e => by simp at e⟩ ?_ ?_
    · rintro k σ G kn ⟨v4, v5, v6, xs, rfl, sG, hf, lx, pr⟩
      have e0 : (0 : Int) + (k : Int) = (k : Int) := by omega
      rw [e0]
      have more : ((List.range (k + 1)).filterMap fun k => (upO n h (relOf ps) S k true).map fun U => (k, U)) = ((List.range k).filterMap fun k => (upO n h (relOf ps) S k true).map fun U => (k, U)) ++ ([k].filterMap fun k => (upO n h (relOf ps) S k true).map fun U => (k, U)) := by rw [List.range_succ, List.filterMap_append]
      have none' : ¬ mayB n h (relOf ps) S k true true = true → ((List.range (k + 1)).filterMap fun k => (upO n h (relOf ps) S k true).map fun U => (k, U)) = (List.range k).filterMap fun k => (upO n h (relOf ps) S k true).map fun U => (k, U) := fun m => by
        have e1 : ([k].filterMap fun k => (upO n h (relOf ps) S k true).map fun U => (k, U)) = [] := by simp [upO_none m]
        rw [more, e1, List.append_nil]
      obtain ⟨ys, al, hb, _, hal, hL⟩ := W.rows.at (relRows_at (R := relOf ps) kn)
      have kS := stV_get (S := S) (k := k) (by rw [ok.1]; exact kn)
      have bl := Bel_len n (relOf ps) k
      have bk := ok.at kn
      refine ⟨_, rfl, _, rfl, t, _, _, _, rfl, rfl, SqT.of (sG _ _ ht), atI_nat kS, _, rfl, _, _, rfl, rfl, _, _, rfl, rfl, _, rfl, ite2 (fun hlt => ?_) fun hge => ⟨_, _, _, xs, rfl, sG, hf, by omega, by rw [none' fun m => hge (decide_eq_true (by have := (may_iff.mp m).1; rw [last_up] at this; omega))]; exact pr⟩⟩
      have lt : at_ S k < (h : Int) - 1 := of_decide_eq_true hlt
      refine ⟨_, rfl, _, rfl, be, _, _, _, rfl, rfl, SqL.of (sG _ _ hb), atI_nat hal, al, rfl, ⟨_, SqL.of (sG _ _ hL)⟩, fun D hD => ?_⟩
      refine lc_list (xs := nL (Bel n (relOf ps) k)) (fun j G2 => G2 D = some (.lst ((((Bel n (relOf ps) k).take j).map fun u => decide (V.int (at_ S u) = V.int ((h : Int) - 1))).map V.bl)) ∧ Same G G2) ⟨upd_same, same_new hD⟩ (fun j G2 _ ⟨_, s⟩ => SqL.of (s _ _ (sG _ _ hL))) ?_ ?_
      · rintro j z G2 hz ⟨g2, t2⟩
        obtain ⟨e, he, rfl⟩ := nL_it2 hz
        have en : e < n := (mem_Bel.mp (List.mem_of_getElem? he)).1
        refine ⟨rfl, yesT ⟨_, rfl, _, rfl, t, _, _, _, rfl, rfl, SqT.of ((sG.trans t2) _ _ ht), atI_nat (stV_get (by rw [ok.1]; exact en)), _, rfl, _, _, rfl, rfl, rfl, _, g2, ?_, ?_, same_upd t2 hD⟩⟩
        · rw [List.length_map, List.length_map, List.length_take, sizeLine_eq]; omega
        · rw [upd_same, List.take_add_one, he, List.map_append, List.map_append]; rfl
      rintro G2 ⟨g2, t2⟩
      rw [nL_len, List.take_length] at g2
      have s2 := sG.trans t2
      have hf2 := t2 _ _ hf
      have all : (((Bel n (relOf ps) k).map fun u => decide (V.int (at_ S u) = V.int ((h : Int) - 1))).all id) = true ↔ ∀ e, e < n → relOf ps k e = true → at_ S e = (h : Int) - 1 := by
        rw [List.all_eq_true]
        constructor
        · intro a e en re
          have z := of_decide_eq_true (a _ (List.mem_map_of_mem (mem_Bel.mpr ⟨en, re⟩)))
          injection z
        · intro a x hx
          obtain ⟨u, hu, rfl⟩ := List.mem_map.mp hx
          exact decide_eq_true (by rw [a u (mem_Bel.mp hu).1 (mem_Bel.mp hu).2])
      refine ⟨D, _, rfl, SqL.of g2, _, rfl, ite2 (fun hall => ?_) fun hno => ⟨_, _, _, xs, rfl, s2, hf2, by omega, by rw [none' fun m => hno (all.mpr fun e en re => by have := (may_iff.mp m).2 rfl e en re; rw [last_up] at this; exact this)]; exact pr.same t2⟩⟩
      have full := all.mp hall
      have ne : at_ S k ≠ (h : Int) - 1 := by omega
      have may : mayB n h (relOf ps) S k true true = true := may_iff.mpr ⟨ne, fun _ e en re => full e en re⟩
      refine ⟨_, rfl, t, _, rfl, .inr (SqT.of (s2 _ _ ht)), fun hz nhz => ?_⟩
      have s1 : Same G2 (L2.upd G2 hz (.lst (stV S))) := same_new nhz
      have hf1 : (L2.upd G2 hz (.lst (stV S))) hz = some (.lst (stV S)) := upd_same
      generalize L2.upd G2 hz (.lst (stV S)) = H3 at s1 hf1 ⊢
      refine ⟨_, rfl, _, rfl, hz, _, _, _, rfl, rfl, SqL.of hf1, atI_nat kS, _, _, rfl, rfl, _, rfl, _, rfl, set_at hf1 (ixN_nat (by rw [List.length_map, ok.1]; exact kn)) fun H4 s4 h4 => ?_⟩
      rw [stV_set] at h4
      have s24 : Same G2 H4 := s4.to_same s1 nhz
      refine ⟨_, rfl, _, rfl, be, _, _, _, rfl, rfl, SqL.of (s24 _ _ (s2 _ _ hb)), atI_nat hal, al, rfl, ⟨_, SqL.of (s24 _ _ (s2 _ _ hL))⟩, ?_⟩
      have init0 : ∀ u, u < n → at_ (S.set k (at_ S k + 1)) u = if u = k then at_ S k + 1 else if u ∈ (Bel n (relOf ps) k).take 0 then 0 else at_ S u := fun u hu => by
        rw [at_set (by rw [ok.1]; exact kn)]
        by_cases e : k = u
        · rw [if_pos e, if_pos e.symm]
        · rw [if_neg e, if_neg fun z => e z.symm]; simp
      refine for_list (K := K) (a := al) (xs := nL (Bel n (relOf ps) k)) (fun i σ H5 => ∃ (v5 : Option V) (U : List Int), σ = [some (.ref be), some (.int h), some (.ref t), some (.ref fr), some (.int k), v5, some (.ref hz)] ∧ Same G2 H5 ∧ H5 hz = some (.lst (stV U)) ∧ StOk n h U ∧ ∀ u, u < n → at_ U u = if u = k then at_ S k + 1 else if u ∈ (Bel n (relOf ps) k).take i then 0 else at_ S u)
        ⟨_, _, rfl, s24, h4, st_set ok (by omega) (by omega), init0⟩ (fun i σ H5 _ ⟨_, _, _, s, _⟩ => SqL.of (s _ _ (s2 _ _ hL))) ?_ ?_
      · rintro i y σ H5 hy ⟨v5, U, rfl, s5, h5, okU, val⟩
        obtain ⟨j, hj, rfl⟩ := nL_it2 hy
        obtain ⟨jn, rj⟩ := mem_Bel.mp (List.mem_of_getElem? hj)
        have jU : j < U.length := by rw [okU.1]; exact jn
        refine ⟨_, rfl, _, rfl, set_at h5 (ixN_nat (by rw [List.length_map]; exact jU)) fun H6 s6 h6 => ?_⟩
        rw [stV_set] at h6
        refine ⟨_, _, rfl, s6.to_same s5 nhz, h6, st_set okU (by omega) (by omega), fun u hu => ?_⟩
        have tk : (Bel n (relOf ps) k).take (i + 1) = (Bel n (relOf ps) k).take i ++ [j] := by rw [List.take_add_one, hj]; rfl
        have jk : j ≠ k := fun z => by rw [z, irr k] at rj; cases rj
        rw [at_set jU, val u hu, tk]
        by_cases e : j = u
        · rw [if_pos e, if_neg (by omega), if_pos (List.mem_append_right _ (by rw [e]; exact List.mem_cons_self))]
        · rw [if_neg e]
          have e2 : (u ∈ (Bel n (relOf ps) k).take i ++ [j]) ↔ u ∈ (Bel n (relOf ps) k).take i := by
            rw [List.mem_append]
            exact ⟨fun z => z.elim id fun z => absurd (List.mem_singleton.mp z).symm e, .inl⟩
          simp only [e2]
      · rintro σ H5 ⟨v5, U, rfl, s5, h5, okU, val⟩
        rw [nL_len, List.take_length] at val
        have eU : U = stepL n h (relOf ps) S k true := by
          refine st_eq okU.1 (stepL_len ..) fun j hj => ?_
          rw [val j hj]
          by_cases e : j = k
          · rw [if_pos e, e, step_k kn]; rfl
          · rw [if_neg e]
            by_cases r : relOf ps k j = true
            · rw [if_pos (mem_Bel.mpr ⟨hj, r⟩), step_b hj e r, full j hj r]
              show (0 : Int) = ((h : Int) - 1 + 1) % (h : Int)
              rw [show (h : Int) - 1 + 1 = (h : Int) by omega, Int.emod_self]
            · rw [if_neg fun z => r (mem_Bel.mp z).2, step_o hj e r]
        have hf5 := s5 _ _ hf2
        refine ⟨_, rfl, .inl ⟨rfl, _, SqL.of hf5⟩, _, rfl, _, rfl, hz, _, rfl, .inl ⟨SqL.of h5, fun p np => ⟨by show 2 ≤ sizeLine; decide, fun tp ntp => ?_⟩⟩⟩
        have t6 : Same H5 (L2.upd H5 p (.tup (stV U))) := same_new np
        have hp6 : (L2.upd H5 p (.tup (stV U))) p = some (.tup (stV U)) := upd_same
        generalize L2.upd H5 p (.tup (stV U)) = H6 at t6 hp6 ntp ⊢
        have t7 : Same H6 (L2.upd H6 tp (.tup [.int (k : Int), .ref p])) := same_new ntp
        have htp : (L2.upd H6 tp (.tup [.int (k : Int), .ref p])) tp = some (.tup [.int (k : Int), .ref p]) := upd_same
        generalize L2.upd H6 tp (.tup [.int (k : Int), .ref p]) = H7 at t7 htp ⊢
        have t57 := t6.trans t7
        have hf7 := t57 _ _ hf5
        refine ⟨fr, _, _, rfl, rfl, hf7, by rw [sizeLine_eq]; omega, _, _, _, xs ++ [.ref tp], rfl, same_upd ((s2.trans s5).trans t57) nf, upd_same, by rw [List.length_append]; show _ + 1 ≤ _; omega, ?_⟩
        have e1 : ([k].filterMap fun k => (upO n h (relOf ps) S k true).map fun U => (k, U)) = [(k, U)] := by simp [upO_some may, eU]
        rw [more, e1]
        exact ((pr.same (t2.trans (s5.trans t57))).more okU htp (t7 _ _ hp6)).laid hf7
    · rintro σ G ⟨v4, v5, v6, xs, rfl, sG, hf, lx, pr⟩
      exact ⟨_, rfl, q fr G xs sG nf hf pr⟩
end
end Hue

end
section
set_option maxRecDepth 100000
set_option maxHeartbeats 4000000
namespace Hue
open PySem PySem.Spec PyProof.Rows L2
section
variable {P : Program} {w : World} {K : PySem.W.Frag} {mg : Str → Option Value} {base : Heap} {C CL CS : Addr}
/-! ### what is known of lowest lit lamps -/
theorem low_step {n h : Nat} {R : Rel} {S : List Int} (h2 : 2 ≤ h) {k : Nat} (hk : k < n) (l : lowB n R S k = true) : lowS n h R S [k] = stepL n h R S k false := by
  refine ext_at lowS_len (stepL_len ..) fun j hj => ?_
  rw [lowS_at hj]
  unfold lowVl
  by_cases e : j = k
  · rw [if_pos (by rw [e]; exact List.mem_cons_self), e, step_k hk]; rfl
  · rw [if_neg fun z => e (List.mem_singleton.mp z)]
    cases r : R k j with
    | true =>
      rw [if_pos (by rw [List.any_cons, r]; rfl), step_b hj e r, (lowB_yes.mp l).2 j hj r]
      show (h : Int) - 1 = (0 + -1) % (h : Int)
      have e2 : ((0 : Int) + -1) = ((h : Int) - 1) + (-1) * (h : Int) := by omega
      rw [e2, Int.add_mul_emod_self_right]
      exact (emod_small (by omega) (by omega)).symm
    | false => rw [if_neg (by simp [r]), step_o hj e (by rw [r]; exact Bool.false_ne_true)]
theorem down_ok {n h : Nat} {R : Rel} {S : List Int} (ok : StOk n h S) (h2 : 2 ≤ h) {k : Nat} (hk : k < n) (pos : at_ S k > 0) : StOk n h (stepL n h R S k false) := step_ok (careful := false) h2 ok hk (may_iff.mpr ⟨(by show at_ S k ≠ 0; omega), fun z => by cases z⟩)
theorem mem_low {n : Nat} {R : Rel} {S : List Int} {k : Nat} : k ∈ lowL n R S ↔ k < n ∧ lowB n R S k = true := by unfold lowL; rw [List.mem_filter, List.mem_range]
theorem low_few {n : Nat} {R : Rel} {S : List Int} : (lowL n R S).length ≤ n := filt_few' (lowB n R S) n
theorem low_nd {n : Nat} {R : Rel} {S : List Int} : (lowL n R S).Nodup := List.Pairwise.filter _ List.nodup_range
theorem cv_len {n h : Nat} {R : Rel} {S : List Int} : (cvL n h R S).length ≤ n := by unfold cvL; rw [List.length_map]; exact low_few
theorem uv_len {n h : Nat} {R : Rel} {S : List Int} : (uvL n h R S).length ≤ n := Nat.le_trans (List.length_filterMap_le _ _) (by rw [List.length_range]; exact Nat.le_refl _)
theorem cv_yes {n h : Nat} {R : Rel} {S D : List Int} : isCv n h R S D = true ↔ ∃ k, k ∈ lowL n R S ∧ D = stepL n h R S k false := by
  unfold isCv cvL
  rw [decide_eq_true_iff, List.map_map, List.mem_map]
  exact ⟨fun ⟨k, hk, e⟩ => ⟨k, hk, e.symm⟩, fun ⟨k, hk, e⟩ => ⟨k, hk, e.symm⟩⟩
theorem filter_one {p : Nat → Bool} {k : Nat} : ∀ {n : Nat}, (∀ j, j < n → (p j = true ↔ j = k)) → (List.range n).filter p = if k < n then [k] else []
  | 0, _ => rfl
  | n + 1, a => by
    have ih := filter_one (n := n) fun j hj => a j (by omega)
    rw [List.range_succ, List.filter_append, ih]
    by_cases e : n = k
    · have pn : p n = true := (a n (by omega)).mpr e
      rw [if_neg (by omega), if_pos (by omega), List.filter_cons, if_pos pn, e]
      rfl
    · have pn : ¬ p n = true := fun z => e ((a n (by omega)).mp z)
      rw [List.filter_cons, if_neg pn]
      by_cases l : k < n
      · rw [if_pos l, if_pos (by omega)]; rfl
      · rw [if_neg l, if_neg (by omega)]; rfl
theorem pc_yes {R : Rel} {S : List Int} {l j : Nat} (h : j = l ∨ R j l = true) : pcV R S l j = at_ S j := by
  unfold pcV
  rw [if_pos]
  rcases h with e | r
  · rw [decide_eq_true e]; rfl
  · rw [r, Bool.or_true]
theorem pc_no {R : Rel} {S : List Int} {l j : Nat} (e : ¬ j = l) (r : R j l = false) : pcV R S l j = 0 := by
  unfold pcV
  rw [if_neg]
  rw [decide_eq_false e, r]
  exact Bool.false_ne_true
theorem piece_low {n h : Nat} {R : Rel} (hR : Ranked R) (hT : Trans R) {S : List Int} (ok : StOk n h S) {l : Nat} (hl : l < n) (low : lowB n R S l = true) : lowL n R (pcS n R S l) = [l] := by
  obtain ⟨pos, un⟩ := lowB_yes.mp low
  have z : lowL n R (pcS n R S l) = if l < n then [l] else [] := filter_one fun k hk => by
    rw [lowB_yes]
    refine ⟨fun ⟨a, b⟩ => ?_, fun e => ?_⟩
    · rw [pcS_at hk] at a
      by_cases e : k = l
      · exact e
      · cases r : R k l with
        | false => rw [pc_no e r] at a; omega
        | true =>
          have z := b l hl r
          rw [pcS_at hl, pc_yes (.inl rfl)] at z
          omega
    · subst e
      refine ⟨by rw [pcS_at hk, pc_yes (.inl rfl)]; exact pos, fun u hu r => ?_⟩
      rw [pcS_at hu]
      refine pc_no (fun e => by rw [e, hR.irr k] at r; cases r) ?_
      cases q : R u k with
      | false => rfl
      | true =>
        have z := hT _ _ _ r q
        rw [hR.irr k] at z
        cases z
  rw [z, if_pos hl]
theorem lowS_mem {n h : Nat} {R : Rel} {S : List Int} {ks ls : List Nat} (e : ∀ k, k ∈ ks ↔ k ∈ ls) : lowS n h R S ks = lowS n h R S ls := by
  unfold lowS
  refine List.map_congr_left fun j _ => ?_
  unfold lowVl
  have a : (ks.any fun k => R k j) = ls.any fun k => R k j := by
    rw [Bool.eq_iff_iff, List.any_eq_true, List.any_eq_true]
    exact ⟨fun ⟨x, hx, r⟩ => ⟨x, (e x).mp hx, r⟩, fun ⟨x, hx, r⟩ => ⟨x, (e x).mpr hx, r⟩⟩
  simp only [e j, a]
theorem lows_all {n : Nat} {R : Rel} {S : List Int} : Lows n R S (lowL n R S) := ⟨fun k hk => (mem_low.mp hk).1, fun k hk => (mem_low.mp hk).2⟩
/-- lowered at all of them: a cover of a single state alone -/
theorem cover_all {n h : Nat} {R : Rel} {S : List Int} (h2 : 2 ≤ h) : isCv n h R S (lowS n h R S (lowL n R S)) = decide ((lowL n R S).length = 1) := by
  rw [Bool.eq_iff_iff, cv_yes, decide_eq_true_iff]
  constructor
  · rintro ⟨k, hk, e⟩
    obtain ⟨kn, lk⟩ := mem_low.mp hk
    match eL : lowL n R S with
    | [] => rw [eL] at hk; cases hk
    | [a] => rfl
    | a :: b :: L =>
      exfalso
      have nd : (a :: b :: L).Nodup := by rw [← eL]; exact low_nd
      have ab : a ≠ b := fun z => (List.nodup_cons.mp nd).1 (by rw [z]; exact List.mem_cons_self)
      obtain ⟨m, hm, ne⟩ : ∃ m, m ∈ lowL n R S ∧ m ≠ k := by
        by_cases z : a = k
        · exact ⟨b, by rw [eL]; exact List.mem_cons_of_mem _ List.mem_cons_self, fun y => ab (z.trans y.symm)⟩
        · exact ⟨a, by rw [eL]; exact List.mem_cons_self, z⟩
      have mn := (mem_low.mp hm).1
      have e2 : at_ (lowS n h R S (lowL n R S)) m = at_ (stepL n h R S k false) m := by rw [e]
      rw [lowS_at mn, step_o mn ne (by rw [lows_all.anti hk hm]; exact Bool.false_ne_true)] at e2
      unfold lowVl at e2
      rw [if_pos hm] at e2
      omega
  · intro e
    obtain ⟨k, ek⟩ := List.length_eq_one_iff.mp e
    have hk : k ∈ lowL n R S := by rw [ek]; exact List.mem_cons_self
    refine ⟨k, hk, ?_⟩
    rw [ek]
    exact low_step h2 (mem_low.mp hk).1 (mem_low.mp hk).2
/-- a move that is no careful one leads to no cover -/
theorem cover_other {n h : Nat} {R : Rel} {S : List Int} {m : Nat} (hm : m < n) (pos : at_ S m > 0) (no : m ∉ lowL n R S) : isCv n h R S (stepL n h R S m false) = false := by
  rw [Bool.eq_false_iff]
  intro z
  obtain ⟨k, hk, e⟩ := cv_yes.mp z
  obtain ⟨kn, lk⟩ := mem_low.mp hk
  have ne : m ≠ k := fun y => no (by rw [y]; exact hk)
  have e2 : at_ (stepL n h R S m false) m = at_ (stepL n h R S k false) m := by rw [e]
  have r : ¬ R k m = true := fun y => by
    have := (lowB_yes.mp lk).2 m hm y
    omega
  rw [step_k hm, step_o hm ne r] at e2
  have : shI false = -1 := rfl
  omega
/-! ### the law's tests -/
/-- the class that is raised -/
structure TxLS (K : PySem.W.Frag) (mg : Str → Option Value) (CS CL : Addr) : Prop where
  gS : mg "InvalidState" = some (.ref CS)
  gL : mg "InvalidLamp" = some (.ref CL)
  xcS : XCls K CS
  xcL : XCls K CL
  ss : PySem.W.exmOne K (.ref CS) (.ref CS) = some true
  ll : PySem.W.exmOne K (.ref CL) (.ref CL) = some true
  sl : PySem.W.exmOne K (.ref CS) (.ref CL) = some false
  nlS : PySem.W.findIn K (.ref CS) "state" = some none
  nlL : PySem.W.findIn K (.ref CL) "lamp" = some none
abbrev s__law_refuses : Stmt := top 65
theorem sc__law_refuses : FnScope ["house", "state", "lamps", "lamp", "raised"] ["house", "state", "lamps", "lamp"] (defScope s__law_refuses) := ⟨rfl, rfl, rfl, by decide +kernel, rfl, by decide +kernel, by decide +kernel⟩
-- slots of _law_refuses: 0 house, 1 state, 2 lamps, 3 lamp, 4 raised
def spRefusesL (C : Addr) : Sp := fun vs H Q _ => ∃ (x t l : Addr) (n h m : Nat) (ps : List (Nat × Nat)) (S : List Int), vs = [.ref x, .ref t, .ref l, .int m] ∧ Hs2 C H x n h ps ∧ H t = some (.tup (stV S)) ∧ StOk n h S ∧ H l = some (.lst (nL (lowL n (relOf ps) S ++ [m]))) ∧ m < n ∧ m ∉ lowL n (relOf ps) S ∧ ∀ H', Same H H' → Q (.bl true) H'
theorem ok__law_refuses (T : Txt K mg C) (TE : TxLS K mg CS CL) {f : Addr} {fd : FuncData} (F : Fun K "_law_refuses" "_law_refuses" s__law_refuses f fd) (x_lowered : CalX P w K mg base "lowered" 10 (spLoweredX C CL CS)) (l__law_is_integer : CalL P w K mg base "_law_is_integer" 1 spIsInt) : FnOk P w K mg base CX0 11 f fd ["house", "state", "lamps", "lamp"] (spRefusesL C) := by
  refine F.ok sc__law_refuses (fun vs H Q E h => ?_) (fun cdv A outer s H vs Q E hr h => ?_)
  · obtain ⟨x, t, l, n, h, m, ps, S, rfl, _⟩ := h; rfl
  · obtain ⟨x, t, l, n, h, m, ps, S, rfl, hs, ht, ok, hl, mn, no, q⟩ := h
    have n16 := hs.n16
    refine ⟨_, (pss_cons (ps_try_as (i := 4) (Wout := fun _ _ _ _ => False) rfl rfl sc__law_refuses.nd rfl rfl ⟨rfl, by decide, Or.inl TE.gL⟩ takes0
        (fun W pn xe tk _ => pss_one (ps_expr (pe_calW x_lowered tk (hr.mono (by decide)) (pa_cons (pv 0) (pa_cons (pv 1) (pa_cons (pv 2) pa_nil))))))
        (fun a oe cls d pn hz hf => (pss_one (ps_ret (pe_and (pe_calL l__law_is_integer (L2H.RoomH.mono (j := 1) (k := 10) ⟨hr.dp, hr.un⟩ (by decide)) ⟨_, List.mem_cons_self⟩ (pa_cons (pe_xf TE.xcL.xf TE.nlL hz hf (pv 4)) pa_nil)) (pe_one (pe_cmpR op_eq (pe_xf TE.xcL.xf TE.nlL hz hf (pv 4)) (pv 3) (nomark _))))))))
      (pss_one (ps_ret pe_bl))), ?_⟩
    have lt : ∀ k ∈ lowL n (relOf ps) S ++ [m], k < 1000 := fun k hk => by
      rcases List.mem_append.mp hk with z | z
      · have := (mem_low.mp z).1; omega
      · rw [List.mem_singleton.mp z]; omega
    refine ⟨_, rfl, _, rfl, _, rfl, x, l, n, h, ps, _, stD S, _, _, rfl, hs, st_lf2 ht (by rw [ok.1]; omega) (ok.small hs.h10), hl, nat_lfs lt, fun t' S' ev ht' ok' => ?_, fun bad => by rw [st_stB ok] at bad; cases bad⟩
    injection ev with ev
    subst ev
    rw [ht] at ht'
    injection ht' with ht'
    injection ht' with ht'
    have eS := stV_inj ht'
    subst eS
    refine ⟨fun ks eks al => ?_, fun i u ez noz past xd H1 nd s1 hd => ?_⟩
    · have ek : lowL n (relOf ps) S ++ [m] = ks := by
        have z := congrArg (fun vs : List V => vs.map fun v => match v with | .int i => i.toNat | _ => 0) eks
        unfold nL nI at z
        simpa [List.map_map, Function.comp_def] using z
      exact absurd (al m (by rw [← ek]; exact List.mem_append_right _ List.mem_cons_self)) no
    · obtain ⟨k, hk, rfl⟩ := nL_it2 ez
      have ekm : k = m := by
        rcases List.mem_append.mp (List.mem_of_getElem? hk) with z | z
        · exact absurd ⟨k, z, rfl⟩ noz
        · exact List.mem_singleton.mp z
      subst ekm
      refine ⟨true, TE.ll, fun _ a na => ?_, fun q => Bool.noConfusion q⟩
      refine ⟨_, rfl, rfl, rfl, xd, _, _, rfl, hd, rfl, ?_⟩
      dsimp only [tNil]
      refine ⟨_, rfl, true, rfl, ?_⟩
      refine ⟨_, rfl, rfl, rfl, xd, _, _, rfl, hd, rfl, _, rfl, rfl, ?_⟩
      rw [decide_eq_true rfl]
      exact q H1 s1
abbrev s__law_agree : Stmt := top 66
theorem sc__law_agree : FnScope ["house", "below", "above", "hues", "state", "due", "steps", "lamp", "parts", "turn", "lowest", "allowed", "covers", "found"] ["house", "below", "above", "hues", "state"] (defScope s__law_agree) := ⟨rfl, rfl, rfl, by decide +kernel, rfl, by decide +kernel, by decide +kernel⟩
-- slots of _law_agree: 0 house, 1 below, 2 above, 3 hues, 4 state, 5 due, 6 steps, 7 lamp, 8 parts, 9 turn, 10 lowest, 11 allowed, 12 covers, 13 found
def spAgree (C : Addr) : Sp := fun vs H Q _ => ∃ (x be ab t : Addr) (n h : Nat) (ps : List (Nat × Nat)) (S : List Int), vs = [.ref x, .ref be, .ref ab, .int h, .ref t] ∧ Hs2 C H x n h ps ∧ Bw H be n h ps ∧ Rows H ab (relRows n (flip (relOf ps))) ∧ H t = some (.tup (stV S)) ∧ StOk n h S ∧ ∀ H', Same H H' → Q (.bl true) H'
theorem ok__law_agree (T : Txt K mg C) {f : Addr} {fd : FuncData} (F : Fun K "_law_agree" "_law_agree" s__law_agree f fd) (c__law_lowest : Cal P w K mg base "_law_lowest" 1 spLowest) (c__law_after : Cal P w K mg base "_law_after" 1 spAfterL) (c__law_piece : Cal P w K mg base "_law_piece" 1 spPieceL) (c_lowest_lit : Cal P w K mg base "lowest_lit" 9 (spLowS C)) (c_allowed_lamps : KwCal P w K mg base "allowed_lamps" 8 2 "careful" (spAllowedS C)) (c_covered_by : Cal P w K mg base "covered_by" 9 (spCoveredS C)) (c_pieces : Cal P w K mg base "pieces" 10 (spPiecesS C))
    (c__law_same : Cal P w K mg base "_law_same" 2 spSameN) (c__law_same_pairs : Cal P w K mg base "_law_same_pairs" 4 spSamePrs) (c__law_same_states : Cal P w K mg base "_law_same_states" 4 spSameSts) (c_is_single : Cal P w K mg base "is_single" 10 (spSingleS C)) (c__law_truth : Cal P w K mg base "_law_truth" 1 spTruth) : FnOk P w K mg base CX0 11 f fd ["house", "below", "above", "hues", "state"] (spAgree C) := by
  refine F.ok sc__law_agree (fun vs H Q E h => ?_) (fun cdv A outer s H vs Q E hr h => ?_)
  · obtain ⟨x, be, ab, t, n, h, ps, S, rfl, _⟩ := h; rfl
  · obtain ⟨x, be, ab, t, n, h, ps, S, rfl, hs, W, hA, ht, ok, q⟩ := h
    have n16 := W.n16
    have h2 := W.h2
    have h10 := W.h10
    have irr := W.ws.ranked.irr
    refine ⟨_, (pss_cons (ps_set (i := 5) sc__law_agree.nd rfl (by first | exact Or.inl rfl | exact Or.inr rfl) (pe_cal c__law_lowest (hr.mono (by decide)) (pa_cons (pv 1) (pa_cons (pv 4) pa_nil))))
      (pss_cons (ps_setLc (i := 6) (own := [("lamp", 7)]) (g := gName 7) (tt := tYes) rfl sc__law_agree.nd rfl rfl (sw_true rfl rfl rfl (by kernel_rfl)) (pil_ K (pv 5)) (blkOk_by (by kernel_rfl)) (fun _ _ _ _ _ => (pg_name (i := 7) sc__law_agree.nd rfl (by first | exact Or.inl rfl | exact Or.inr rfl))) (fun _ _ _ _ _ => pts_nil) (fun _ _ _ _ _ => (pe_tup (pa_cons (pv 7) (pa_cons (pe_cal c__law_after (hr.mono (by decide)) (pa_cons (pv 1) (pa_cons (pv 3) (pa_cons (pv 4) (pa_cons (pv 7) pa_nil))))) pa_nil)))))
      (pss_cons (ps_setLc (i := 8) (own := [("lamp", 7)]) (g := gName 7) (tt := tYes) rfl sc__law_agree.nd rfl rfl (sw_true rfl rfl rfl (by kernel_rfl)) (pil_ K (pv 5)) (blkOk_by (by kernel_rfl)) (fun _ _ _ _ _ => (pg_name (i := 7) sc__law_agree.nd rfl (by first | exact Or.inl rfl | exact Or.inr rfl))) (fun _ _ _ _ _ => pts_nil) (fun _ _ _ _ _ => (pe_cal c__law_piece (hr.mono (by decide)) (pa_cons (pv 2) (pa_cons (pv 4) (pa_cons (pv 7) pa_nil))))))
      (pss_cons (ps_for PassesOwn.never rfl (pi_range1 (by rfl) T.range (pa_cons pe_int pa_nil)) (pg_name (i := 9) sc__law_agree.nd rfl (by first | exact Or.inl rfl | exact Or.inr rfl))
      (pss_cons (ps_set (i := 10) sc__law_agree.nd rfl (by first | exact Or.inl rfl | exact Or.inr rfl) (pe_cal c_lowest_lit (hr.mono (by decide)) (pa_cons (pv 0) (pa_cons (pv 4) pa_nil))))
      (pss_cons (ps_set (i := 11) sc__law_agree.nd rfl (by first | exact Or.inl rfl | exact Or.inr rfl) (pe_kw1 c_allowed_lamps (hr.mono (by decide)) (pa_cons (pv 0) (pa_cons (pv 4) pa_nil)) (pk_cons pe_bl pk_nil)))
      (pss_cons (ps_set (i := 12) sc__law_agree.nd rfl (by first | exact Or.inl rfl | exact Or.inr rfl) (pe_cal c_covered_by (hr.mono (by decide)) (pa_cons (pv 0) (pa_cons (pv 4) pa_nil))))
      (pss_cons (ps_set (i := 13) sc__law_agree.nd rfl (by first | exact Or.inl rfl | exact Or.inr rfl) (pe_cal c_pieces (hr.mono (by decide)) (pa_cons (pv 0) (pa_cons (pv 4) pa_nil))))
      (pss_cons (ps_if (PW.pt (pw_or (pt_not (pt_val (pe_cal c__law_same (hr.mono (by decide)) (pa_cons (pv 10) (pa_cons (pv 5) pa_nil))))) (pw_or1 (pt_not (pt_val (pe_cal c__law_same (hr.mono (by decide)) (pa_cons (pv 11) (pa_cons (pv 5) pa_nil))))))))
      (pss_one (ps_ret pe_bl)) pss_nil)
      (pss_cons (ps_if (PW.pt (pw_or (pt_not (pt_val (pe_cal c__law_same_pairs (hr.mono (by decide)) (pa_cons (pv 12) (pa_cons (pv 6) pa_nil))))) (pw_or1 (pt_not (pt_val (pe_cal c__law_same_states (hr.mono (by decide)) (pa_cons (pv 13) (pa_cons (pv 8) pa_nil))))))))
      (pss_one (ps_ret pe_bl)) pss_nil)
      (pss_cons (ps_expr (pe_bm PySem.F.plainAttrs_list PySem.F.slot_list_append PySem.F.type_list_append mt_append (pv 10) (pa_cons (pe_callB (lenS_ K) (by rfl) T.len b_len (pa_cons (pv 4) pa_nil)) pa_nil)))
      (pss_cons (ps_expr (pe_bm0 PySem.F.plainAttrs_list PySem.F.slot_list_clear PySem.F.type_list_clear mt_clear (pv 11)))
      (pss_cons (ps_expr (pe_bm PySem.F.plainAttrs_list PySem.F.slot_list_append PySem.F.type_list_append mt_append (pv 12) (pa_cons (pe_tup (pa_cons (pe_callB (lenS_ K) (by rfl) T.len b_len (pa_cons (pv 4) pa_nil)) (pa_cons (pv 4) pa_nil))) pa_nil)))
      (pss_one (ps_expr (pe_bm PySem.F.plainAttrs_list PySem.F.slot_list_append PySem.F.type_list_append mt_append (pv 13) (pa_cons (pv 4) pa_nil))))))))))))))
      (pss_one (ps_ret (pe_cal c__law_truth (hr.mono (by decide)) (pa_cons (pe_cal c_is_single (hr.mono (by decide)) (pa_cons (pv 0) (pa_cons (pv 4) pa_nil))) (pa_cons (pe_cmpR op_eq (pe_callB (lenS_ K) (by rfl) T.len b_len (pa_cons (pv 5) pa_nil)) pe_int (nomark _)) pa_nil))))))))), ?_⟩
    have few : (lowL n (relOf ps) S).length ≤ n := low_few
    (repeat refine ⟨_, rfl, ?_⟩)
    refine ⟨be, t, n, h, ps, S, rfl, W, ht, ok, fun d H1 s1 nd hd => ?_⟩
    refine ⟨_, rfl, d, rfl, ⟨_, SqL.of hd⟩, fun D hD => ?_⟩
    refine lc_list (xs := nL (lowL n (relOf ps) S)) (fun i G => ∃ ys : List V, G D = some (.lst ys) ∧ PrL G n h ys (((lowL n (relOf ps) S).take i).map fun k => (k, stepL n h (relOf ps) S k false)) ∧ Same H1 G) ⟨[], upd_same, ⟨rfl, fun i y p e => by simp at e⟩, same_new hD⟩ (fun i G _ ⟨_, _, _, s⟩ => SqL.of (s _ _ hd)) ?_ ?_
    · rintro i z G hz ⟨ys, gD, pr, sG⟩
      obtain ⟨k, hk, rfl⟩ := nL_it2 hz
      obtain ⟨kn, lk⟩ := mem_low.mp (List.mem_of_getElem? hk)
      have pos := (lowB_yes.mp lk).1
      have s1G := s1.trans sG
      have il := (List.getElem?_eq_some_iff.mp hk).1
      refine ⟨rfl, yesT ?_⟩
      refine ⟨_, rfl, _, rfl, _, rfl, _, rfl, _, rfl, be, t, n, h, k, relOf ps, S, rfl, n16, h2, W.rows.same s1G, irr, s1G _ _ ht, ok, kn, pos, fun p G1 t1 np hp => ⟨by show 2 ≤ sizeLine; decide, fun tp ntp => ?_⟩⟩
      have t2 : Same G1 (L2.upd G1 tp (.tup [.int (k : Int), .ref p])) := same_new ntp
      have htp : (L2.upd G1 tp (.tup [.int (k : Int), .ref p])) tp = some (.tup [.int (k : Int), .ref p]) := upd_same
      generalize L2.upd G1 tp (.tup [.int (k : Int), .ref p]) = G2 at t2 htp ⊢
      have t12 := t1.trans t2
      refine ⟨_, t12 _ _ gD, ?_, ys ++ [.ref tp], upd_same, ?_, same_upd (sG.trans t12) hD⟩
      · have := pr.1
        rw [List.length_map, List.length_take] at this
        rw [sizeLine_eq]; omega
      · rw [List.take_add_one, hk, List.map_append]
        exact ((pr.same t12).more (down_ok ok h2 kn pos) htp (t2 _ _ hp)).laid (t12 _ _ gD)
    rintro H2 ⟨ys, hy2, prS, s2⟩
    rw [nL_len, List.take_length] at prS
    have prS : PrL H2 n h ys (cvL n h (relOf ps) S) := prS
    have hd2 := s2 _ _ hd
    refine ⟨_, rfl, d, rfl, ⟨_, SqL.of hd2⟩, fun D2 hD2 => ?_⟩
    refine lc_list (xs := nL (lowL n (relOf ps) S)) (fun i G => ∃ zs : List V, G D2 = some (.lst zs) ∧ StL G n h zs (((lowL n (relOf ps) S).take i).map (pcS n (relOf ps) S)) ∧ Same H2 G) ⟨[], upd_same, ⟨rfl, fun i y p e => by simp at e⟩, same_new hD2⟩ (fun i G _ ⟨_, _, _, s⟩ => SqL.of (s _ _ hd2)) ?_ ?_
    · rintro i z G hz ⟨zs, gD, sl, sG⟩
      obtain ⟨k, hk, rfl⟩ := nL_it2 hz
      obtain ⟨kn, lk⟩ := mem_low.mp (List.mem_of_getElem? hk)
      have s2G := (s1.trans s2).trans sG
      have il := (List.getElem?_eq_some_iff.mp hk).1
      refine ⟨rfl, yesT ?_⟩
      refine ⟨_, rfl, _, rfl, _, rfl, ab, t, n, h, k, relOf ps, S, rfl, n16, h10, kn, hA.same s2G, s2G _ _ ht, ok, fun p G1 t1 np hp => ?_⟩
      refine ⟨_, t1 _ _ gD, ?_, zs ++ [.ref p], upd_same, ?_, same_upd (sG.trans t1) hD2⟩
      · have := sl.1
        rw [List.length_map, List.length_take] at this
        rw [sizeLine_eq]; omega
      · rw [List.take_add_one, hk, List.map_append]
        exact ((sl.same t1).more (pcS_ok ok h2 k) hp).laid (t1 _ _ gD)
    rintro H3 ⟨zs, hz3, slS, s3⟩
    rw [nL_len, List.take_length] at slS
    have s12 := (s1.trans s2).trans s3
    have hs3 := hs.same s12
    have ht3 := s12 _ _ ht
    have hd3 := s3 _ _ hd2
    have hy3 := s3 _ _ hy2
    have pr3 := prS.same s3
    have cl := cv_len (n := n) (h := h) (R := relOf ps) (S := S)
    refine ⟨_, rfl, by decide, by decide, ?_⟩
    refine for_range (fun i σ G => ∃ v9 v10 v11 v12 v13 : Option V, σ = [some (.ref x), some (.ref be), some (.ref ab), some (.int h), some (.ref t), some (.ref d), some (.ref D), none, some (.ref D2), v9, v10, v11, v12, v13] ∧ Same H3 G) ⟨_, _, _, _, _, rfl, Same.refl _⟩ ?_ ?_
    · rintro i σ G _ ⟨v9, v10, v11, v12, v13, rfl, sG⟩
      refine ⟨_, rfl, _, rfl, x, t, n, h, ps, S, rfl, hs3.same sG, sG _ _ ht3, ok, fun a1 G1 t1 n1 ha1 => ?_⟩
      have u1 := sG.trans t1
      refine ⟨_, rfl, _, rfl, rfl, rfl, x, t, n, h, ps, S, rfl, hs3.same u1, u1 _ _ ht3, ok, fun a2 G2 t2 n2 ha2 => ?_⟩
      have u2 := u1.trans t2
      refine ⟨_, rfl, _, rfl, x, t, n, h, ps, S, rfl, hs3.same u2, u2 _ _ ht3, ok, fun a3 G3 xs3 t3 n3 ha3 pa3 => ?_⟩
      have u3 := u2.trans t3
      refine ⟨_, rfl, _, rfl, x, t, n, h, ps, S, rfl, hs3.same u3, u3 _ _ ht3, ok, fun a4 G4 xs4 t4 n4 ha4 sa4 => ?_⟩
      have u4 := u3.trans t4
      have t34 := t3.trans t4
      have t24 := t2.trans t34
      refine ⟨_, rfl, _, rfl, a1, d, nI (lowL n (relOf ps) S), rfl, by rw [nI_len]; omega, t24 _ _ ha1, u4 _ _ hd3, true, rfl, iteF ?_⟩
      refine ⟨_, rfl, _, rfl, a2, d, nI (lowL n (relOf ps) S), rfl, by rw [nI_len]; omega, t34 _ _ ha2, u4 _ _ hd3, true, rfl, iteF ?_⟩
      refine ⟨_, rfl, _, rfl, a3, D, n, h, xs3, ys, _, rfl, n16, by omega, t4 _ _ ha3, u4 _ _ hy3, pa3.same t4, pr3.same u4, fun G5 t5 => ⟨true, rfl, iteF ?_⟩⟩
      have u5 := u4.trans t5
      refine ⟨_, rfl, _, rfl, a4, D2, n, h, xs4, zs, _, rfl, n16, by rw [List.length_map]; omega, t5 _ _ ha4, u5 _ _ hz3, sa4.same t5, slS.same u5, fun G6 t6 => ⟨true, rfl, iteF ?_⟩⟩
      have u6 := u5.trans t6
      have k1 := t6 _ _ (t5 _ _ (t24 _ _ ha1))
      have k2 := t6 _ _ (t5 _ _ (t34 _ _ ha2))
      have k3 := t6 _ _ (t5 _ _ (t4 _ _ ha3))
      have k4 := t6 _ _ (t5 _ _ ha4)
      have f1 : H3 a1 = none := sG.free n1
      have f2 : H3 a2 = none := u1.free n2
      have f3 : H3 a3 = none := u2.free n3
      have f4 : H3 a4 = none := u3.free n4
      have e12 : a2 ≠ a1 := (ne_of_none (show G1 a1 = _ from ha1) n2).symm
      have e13 : a3 ≠ a1 := (ne_of_none (t2 _ _ ha1) n3).symm
      have e23 : a3 ≠ a2 := (ne_of_none ha2 n3).symm
      have e14 : a4 ≠ a1 := (ne_of_none ((t2.trans t3) _ _ ha1) n4).symm
      have e24 : a4 ≠ a2 := (ne_of_none (t3 _ _ ha2) n4).symm
      have e34 : a4 ≠ a3 := (ne_of_none ha3 n4).symm
      refine ⟨_, rfl, .inl ⟨rfl, _, SqL.of k1⟩, _, rfl, t, _, rfl, .inr (SqT.of (u6 _ _ ht3)), a1, _, _, rfl, rfl, k1, by rw [nL_len, sizeLine_eq]; omega, ?_⟩
      have v1 : Same H3 (L2.upd G6 a1 (.lst (nL (lowL n (relOf ps) S) ++ [V.int ((stV S).length : Int)]))) := same_upd u6 f1
      have k2 : (L2.upd G6 a1 (.lst (nL (lowL n (relOf ps) S) ++ [V.int ((stV S).length : Int)]))) a2 = _ := (upd_ne e12).trans k2
      have k3 : (L2.upd G6 a1 (.lst (nL (lowL n (relOf ps) S) ++ [V.int ((stV S).length : Int)]))) a3 = _ := (upd_ne e13).trans k3
      have k4 : (L2.upd G6 a1 (.lst (nL (lowL n (relOf ps) S) ++ [V.int ((stV S).length : Int)]))) a4 = _ := (upd_ne e14).trans k4
      generalize L2.upd G6 a1 (.lst (nL (lowL n (relOf ps) S) ++ [V.int ((stV S).length : Int)])) = G7 at v1 k2 k3 k4 ⊢
      refine ⟨_, rfl, .inl ⟨rfl, _, SqL.of k2⟩, a2, _, rfl, rfl, k2, ?_⟩
      have v2 : Same H3 (L2.upd G7 a2 (.lst [])) := same_upd v1 f2
      have k3 : (L2.upd G7 a2 (.lst [])) a3 = _ := (upd_ne e23).trans k3
      have k4 : (L2.upd G7 a2 (.lst [])) a4 = _ := (upd_ne e24).trans k4
      generalize L2.upd G7 a2 (.lst []) = G8 at v2 k3 k4 ⊢
      refine ⟨_, rfl, .inl ⟨rfl, _, SqL.of k3⟩, _, rfl, t, _, rfl, .inr (SqT.of (v2 _ _ ht3)), _, rfl, by show 2 ≤ sizeLine; decide, fun tq ntq => ?_⟩
      have v3 : Same H3 (L2.upd G8 tq (.tup [V.int ((stV S).length : Int), .ref t])) := v2.trans (same_new ntq)
      have k3 : (L2.upd G8 tq (.tup [V.int ((stV S).length : Int), .ref t])) a3 = _ := (same_new ntq) _ _ k3
      have k4 : (L2.upd G8 tq (.tup [V.int ((stV S).length : Int), .ref t])) a4 = _ := (same_new ntq) _ _ k4
      generalize L2.upd G8 tq (.tup [V.int ((stV S).length : Int), .ref t]) = G9 at v3 k3 k4 ⊢
      refine ⟨a3, _, _, rfl, rfl, k3, by rw [pa3.1, sizeLine_eq]; omega, ?_⟩
      have v4 : Same H3 (L2.upd G9 a3 (.lst (xs3 ++ [V.ref tq]))) := same_upd v3 f3
      have k4 : (L2.upd G9 a3 (.lst (xs3 ++ [V.ref tq]))) a4 = _ := (upd_ne e34).trans k4
      generalize L2.upd G9 a3 (.lst (xs3 ++ [V.ref tq])) = GA at v4 k4 ⊢
      exact ⟨_, rfl, .inl ⟨rfl, _, SqL.of k4⟩, _, rfl, a4, _, _, rfl, rfl, k4, by rw [sa4.1, List.length_map, sizeLine_eq]; omega, _, _, _, _, _, rfl, same_upd v4 f4⟩
    · rintro σ G ⟨v9, v10, v11, v12, v13, rfl, sG⟩
      refine ⟨_, rfl, _, rfl, x, t, n, h, ps, S, rfl, hs3.same sG, sG _ _ ht3, ok, fun G2 s2' => ?_⟩
      have sG2 := sG.trans s2'
      refine ⟨_, rfl, d, _, rfl, .inl (SqL.of (sG2 _ _ hd3)), rfl, ?_⟩
      rw [nL_len]
      have e : decide (V.int ((lowL n (relOf ps) S).length : Int) = V.int 1) = decide ((lowL n (relOf ps) S).length = 1) := decide_eq_decide.mpr ⟨fun z => by injection z with z; omega, fun z => by rw [z]; rfl⟩
      rw [e]
      exact ⟨_, rfl, q G2 (s12.trans sG2)⟩
end
end Hue

end
section
set_option maxRecDepth 100000
set_option maxHeartbeats 4000000
namespace Hue
open PySem PySem.Spec PyProof.Rows L2
section
variable {P : Program} {w : World} {K : PySem.W.Frag} {mg : Str → Option Value} {base : Heap} {C CL CS : Addr}
theorem nL_dp {H : Hp} {a : Addr} {L : List Nat} (h : H a = some (.lst (nL L))) : Dp K H (.ref a) (.list ((L.map Int.ofNat).map .int)) := by
  refine .lst (SqL.of h) ?_
  have e : nL L = stV (L.map Int.ofNat) := by unfold nL nI stV; rw [List.map_map]; rw [List.map_map]; rfl
  rw [e]
  exact ints_dp _
theorem intsL_shaped (S : List Int) : SeqAt.shaped (.list (S.map .int)) = true := by
  have h2 : PyData.depth (.list (S.map .int)) ≤ 64 := by
    have := ints_deep S
    show PyData.depthAll (S.map .int) + 1 ≤ 64
    omega
  show (PyData.canLay0 (.list (S.map .int)) && decide (PyData.depth (.list (S.map .int)) ≤ 64)) = true
  rw [decide_eq_true h2, Bool.and_true]
  exact ints_lay S
theorem map_nat_inj : ∀ {L M : List Nat}, L.map Int.ofNat = M.map Int.ofNat → L = M
  | [], [], _ => rfl
  | [], _ :: _, e => by cases e
  | _ :: _, [], e => by cases e
  | a :: L, b :: M, e => by
    injection e with e1 e2
    injection e1 with e1
    rw [e1, map_nat_inj e2]
theorem intsL_eqv (L M : List Nat) : PyData.eqv (.list ((L.map Int.ofNat).map .int)) (.list ((M.map Int.ofNat).map .int)) = decide (L = M) := by
  have z := ints_eqv (L.map Int.ofNat) (M.map Int.ofNat)
  have e : decide (L.map Int.ofNat = M.map Int.ofNat) = decide (L = M) := decide_eq_decide.mpr ⟨map_nat_inj, fun e => by rw [e]⟩
  rw [e] at z
  rw [← z]
  simp [PyData.eqv]
abbrev s__law_one_lamp : Stmt := top 67
theorem sc__law_one_lamp : FnScope ["house", "below", "above", "hues", "state", "lamp", "other", "piece"] ["house", "below", "above", "hues", "state", "lamp"] (defScope s__law_one_lamp) := ⟨rfl, rfl, rfl, by decide +kernel, rfl, by decide +kernel, by decide +kernel⟩
-- slots of _law_one_lamp: 0 house, 1 below, 2 above, 3 hues, 4 state, 5 lamp, 6 other, 7 piece
def spOneLamp (C : Addr) : Sp := fun vs H Q _ => ∃ (x be ab t : Addr) (n h k : Nat) (ps : List (Nat × Nat)) (S : List Int), vs = [.ref x, .ref be, .ref ab, .int h, .ref t, .int k] ∧ Hs2 C H x n h ps ∧ Bw H be n h ps ∧ Rows H ab (relRows n (flip (relOf ps))) ∧ H t = some (.tup (stV S)) ∧ StOk n h S ∧ k ∈ lowL n (relOf ps) S ∧ ∀ H', Same H H' → Q (.bl true) H'
theorem ok__law_one_lamp (T : Txt K mg C) {f : Addr} {fd : FuncData} (F : Fun K "_law_one_lamp" "_law_one_lamp" s__law_one_lamp f fd) (c__law_after : Cal P w K mg base "_law_after" 1 spAfterL) (c_lowered : Cal P w K mg base "lowered" 10 (spLoweredS C)) (c__law_is : Cal P w K mg base "_law_is" 3 spIsT) (c_is_cover : Cal P w K mg base "is_cover" 10 (spIsCoverS C)) (c_covers_of : Cal P w K mg base "covers_of" 9 (spCoversS C)) (c__law_covers_of : Cal P w K mg base "_law_covers_of" 1 spCovOfL) (c__law_same_pairs : Cal P w K mg base "_law_same_pairs" 4 spSamePrs)
    (c__law_piece : Cal P w K mg base "_law_piece" 1 spPieceL) (c_lowest_lit : Cal P w K mg base "lowest_lit" 9 (spLowS C)) (c__law_same : Cal P w K mg base "_law_same" 2 spSameN) (c_is_single : Cal P w K mg base "is_single" 10 (spSingleS C)) (c_covered_by : Cal P w K mg base "covered_by" 9 (spCoveredS C)) : FnOk P w K mg base CX0 11 f fd ["house", "below", "above", "hues", "state", "lamp"] (spOneLamp C) := by
  refine F.ok sc__law_one_lamp (fun vs H Q E h => ?_) (fun cdv A outer s H vs Q E hr h => ?_)
  · obtain ⟨x, be, ab, t, n, h, k, ps, S, rfl, _⟩ := h; rfl
  · obtain ⟨x, be, ab, t, n, h, k, ps, S, rfl, hs, W, hA, ht, ok, mk, q⟩ := h
    have n16 := W.n16
    have h2 := W.h2
    have h10 := W.h10
    have hR := W.ws.ranked
    have irr := hR.irr
    have hT := relOf_trans ps
    obtain ⟨kn, lk⟩ := mem_low.mp mk
    have pos := (lowB_yes.mp lk).1
    have okD := down_ok (R := relOf ps) ok h2 kn pos
    have eD := low_step (R := relOf ps) (S := S) h2 kn lk
    refine ⟨_, (pss_cons (ps_set (i := 6) sc__law_one_lamp.nd rfl (by first | exact Or.inl rfl | exact Or.inr rfl) (pe_cal c__law_after (hr.mono (by decide)) (pa_cons (pv 1) (pa_cons (pv 3) (pa_cons (pv 4) (pa_cons (pv 5) pa_nil))))))
      (pss_cons (ps_if (PW.pt (pw_or (pt_not (pt_val (pe_cal c__law_is (hr.mono (by decide)) (pa_cons (pe_cal c_lowered (hr.mono (by decide)) (pa_cons (pv 0) (pa_cons (pv 4) (pa_cons (pe_lst (pa_cons (pv 5) pa_nil)) pa_nil)))) (pa_cons (pv 6) pa_nil))))) (pw_or1 (pt_cmpR op_notB (pe_cal c_is_cover (hr.mono (by decide)) (pa_cons (pv 0) (pa_cons (pv 4) (pa_cons (pv 6) pa_nil)))) pe_bl (nomark _)))))
      (pss_one (ps_ret pe_bl)) pss_nil)
      (pss_cons (ps_if (pt_not (pt_val (pe_cal c__law_same_pairs (hr.mono (by decide)) (pa_cons (pe_cal c_covers_of (hr.mono (by decide)) (pa_cons (pv 0) (pa_cons (pv 6) pa_nil))) (pa_cons (pe_cal c__law_covers_of (hr.mono (by decide)) (pa_cons (pv 1) (pa_cons (pv 3) (pa_cons (pv 6) pa_nil)))) pa_nil)))))
      (pss_one (ps_ret pe_bl)) pss_nil)
      (pss_cons (ps_set (i := 7) sc__law_one_lamp.nd rfl (by first | exact Or.inl rfl | exact Or.inr rfl) (pe_cal c__law_piece (hr.mono (by decide)) (pa_cons (pv 2) (pa_cons (pv 4) (pa_cons (pv 5) pa_nil)))))
      (pss_cons (ps_if (PW.pt (pw_or (pt_not (pt_val (pe_cal c__law_same (hr.mono (by decide)) (pa_cons (pe_cal c_lowest_lit (hr.mono (by decide)) (pa_cons (pv 0) (pa_cons (pv 7) pa_nil))) (pa_cons (pe_lst (pa_cons (pv 5) pa_nil)) pa_nil))))) (pw_or1 (pt_cmpR op_notB (pe_cal c_is_single (hr.mono (by decide)) (pa_cons (pv 0) (pa_cons (pv 7) pa_nil))) pe_bl (nomark _)))))
      (pss_one (ps_ret pe_bl)) pss_nil)
      (pss_one (ps_ret (pe_cal c__law_same_pairs (hr.mono (by decide)) (pa_cons (pe_cal c_covered_by (hr.mono (by decide)) (pa_cons (pv 0) (pa_cons (pv 7) pa_nil))) (pa_cons (pe_lst (pa_cons (pe_tup (pa_cons (pv 5) (pa_cons (pe_cal c__law_after (hr.mono (by decide)) (pa_cons (pv 1) (pa_cons (pv 3) (pa_cons (pv 7) (pa_cons (pv 5) pa_nil))))) pa_nil))) pa_nil)) pa_nil)))))))))), ?_⟩
    refine ⟨_, rfl, _, rfl, _, rfl, _, rfl, be, t, n, h, k, relOf ps, S, rfl, n16, h2, W.rows, irr, ht, ok, kn, pos, fun o H1 s1 no ho => ?_⟩
    have hs1 := hs.same s1
    have W1 := W.same s1
    have hA1 := hA.same s1
    have ht1 := s1 _ _ ht
    have okP := pcS_ok (R := relOf ps) ok h2 k
    have pl := piece_low hR hT ok kn lk
    have posP : at_ (pcS n (relOf ps) S k) k > 0 := by rw [pcS_at kn, pc_yes (.inl rfl)]; exact pos
    refine ⟨_, rfl, _, rfl, _, rfl, by show 1 ≤ sizeLine; decide, fun l nl => ?_⟩
    have a1 : Same H1 (L2.upd H1 l (.lst (nL [k]))) := same_new nl
    have hl : (L2.upd H1 l (.lst (nL [k]))) l = some (.lst (nL [k])) := upd_same
    rw [show L2.upd H1 l (.lst [.int (k : Int)]) = L2.upd H1 l (.lst (nL [k])) from rfl]
    generalize L2.upd H1 l (.lst (nL [k])) = H2 at a1 hl ⊢
    refine ⟨x, t, l, n, h, ps, S, [k], rfl, hs1.same a1, a1 _ _ ht1, ok, hl, fun m hm => by rw [List.mem_singleton.mp hm]; exact mk, fun p H3 s3 np hp => ?_⟩
    rw [eD] at hp
    have a3 := a1.trans s3
    refine ⟨_, rfl, p, o, stepL n h (relOf ps) S k false, rfl, by rw [okD.1]; omega, hp, a3 _ _ ho, fun H4 s4 => ⟨true, rfl, iteF ?_⟩⟩
    have a4 := a3.trans s4
    refine ⟨_, rfl, _, rfl, _, rfl, x, t, o, n, h, ps, S, _, rfl, hs1.same a4, a4 _ _ ht1, a4 _ _ ho, ok, okD, fun H5 s5 => ?_⟩
    have a5 := a4.trans s5
    rw [cv_yes.mpr ⟨k, mk, rfl⟩]
    refine ⟨_, _, rfl, rfl, _, rfl, iteF ?_⟩
    have ul := uv_len (n := n) (h := h) (R := relOf ps) (S := stepL n h (relOf ps) S k false)
    refine ⟨_, rfl, _, rfl, x, o, n, h, ps, _, rfl, hs1.same a5, a5 _ _ ho, okD, fun p1 G1 xs t1 n1 h1 pr1 => ?_⟩
    have b1 := a5.trans t1
    refine ⟨_, rfl, _, rfl, _, rfl, be, o, n, h, ps, _, rfl, W1.same b1, b1 _ _ ho, okD, fun p2 G2 ys t2 n2 hy2 pr2 => ?_⟩
    have b2 := b1.trans t2
    refine ⟨p1, p2, n, h, xs, ys, _, rfl, n16, by omega, t2 _ _ h1, hy2, pr1.same t2, pr2, fun G3 t3 => ⟨true, rfl, iteF ?_⟩⟩
    have b3 := b2.trans t3
    refine ⟨_, rfl, _, rfl, _, rfl, ab, t, n, h, k, relOf ps, S, rfl, n16, h10, kn, hA1.same b3, b3 _ _ ht1, ok, fun pc G4 t4 n4 hpc => ?_⟩
    have b4 := b3.trans t4
    refine ⟨_, rfl, _, rfl, x, pc, n, h, ps, _, rfl, hs1.same b4, hpc, okP, fun l1 G5 t5 n5 hl1 => ?_⟩
    rw [pl] at hl1
    have b5 := b4.trans t5
    refine ⟨_, rfl, by show 1 ≤ sizeLine; decide, fun l2 nl2 => ?_⟩
    have t6 : Same G5 (L2.upd G5 l2 (.lst [.int (k : Int)])) := same_new nl2
    have hl2 : (L2.upd G5 l2 (.lst [.int (k : Int)])) l2 = some (.lst [.int (k : Int)]) := upd_same
    generalize L2.upd G5 l2 (.lst [.int (k : Int)]) = G6 at t6 hl2 ⊢
    refine ⟨l1, l2, [(k : Int)], rfl, by show 1 < 1000; decide, t6 _ _ hl1, hl2, true, rfl, iteF ?_⟩
    have b6 := b5.trans t6
    have hpc6 := t6 _ _ (t5 _ _ hpc)
    refine ⟨_, rfl, _, rfl, x, pc, n, h, ps, _, rfl, hs1.same b6, hpc6, okP, fun G7 t7 => ?_⟩
    rw [pl]
    refine ⟨_, _, rfl, rfl, _, rfl, iteF ?_⟩
    have b7 := b6.trans t7
    have hpc7 := t7 _ _ hpc6
    refine ⟨_, rfl, _, rfl, x, pc, n, h, ps, _, rfl, hs1.same b7, hpc7, okP, fun p8 G8 zs t8 n8 hz8 pr8 => ?_⟩
    have b8 := b7.trans t8
    have ecv : cvL n h (relOf ps) (pcS n (relOf ps) S k) = [(k, stepL n h (relOf ps) (pcS n (relOf ps) S k) k false)] := by unfold cvL; rw [pl]; rfl
    rw [ecv] at pr8
    refine ⟨_, rfl, _, rfl, _, rfl, _, rfl, _, rfl, be, pc, n, h, k, relOf ps, _, rfl, n16, h2, (W1.same b8).rows, irr, t8 _ _ hpc7, okP, kn, posP, fun p9 G9 t9 n9 hp9 => ⟨by show 2 ≤ sizeLine; decide, fun tp ntp => ?_⟩⟩
    have tA : Same G9 (L2.upd G9 tp (.tup [.int (k : Int), .ref p9])) := same_new ntp
    have htp : (L2.upd G9 tp (.tup [.int (k : Int), .ref p9])) tp = some (.tup [.int (k : Int), .ref p9]) := upd_same
    generalize L2.upd G9 tp (.tup [.int (k : Int), .ref p9]) = GA at tA htp ⊢
    refine ⟨by show 1 ≤ sizeLine; decide, fun lz nlz => ?_⟩
    have tB : Same GA (L2.upd GA lz (.lst [.ref tp])) := same_new nlz
    have hlz : (L2.upd GA lz (.lst [.ref tp])) lz = some (.lst [.ref tp]) := upd_same
    generalize L2.upd GA lz (.lst [.ref tp]) = GB at tB hlz ⊢
    have tAB := tA.trans tB
    have one : PrL GB n h [.ref tp] [(k, stepL n h (relOf ps) (pcS n (relOf ps) S k) k false)] := (show PrL GB n h [] [] from ⟨rfl, fun i y p e => by simp at e⟩).more (down_ok okP h2 kn posP) (tB _ _ htp) (tAB _ _ hp9)
    exact ⟨p8, lz, n, h, zs, _, _, rfl, n16, by show 1 < 1000; decide, (t9.trans tAB) _ _ hz8, hlz, pr8.same (t9.trans tAB), one, fun GC tC => q GC (((s1.trans b8).trans (t9.trans tAB)).trans tC)⟩
abbrev s__law_other_lamps : Stmt := top 68
theorem sc__law_other_lamps : FnScope ["house", "below", "hues", "state", "due", "pick", "together", "lamps", "others", "lamp"] ["house", "below", "hues", "state", "due", "pick"] (defScope s__law_other_lamps) := ⟨rfl, rfl, rfl, by decide +kernel, rfl, by decide +kernel, by decide +kernel⟩
-- slots of _law_other_lamps: 0 house, 1 below, 2 hues, 3 state, 4 due, 5 pick, 6 together, 7 lamps, 8 others, 9 lamp
def spOtherLamps (C : Addr) : Sp := fun vs H Q _ => ∃ (x be t d : Addr) (n h pk : Nat) (ps : List (Nat × Nat)) (S : List Int), vs = [.ref x, .ref be, .int h, .ref t, .ref d, .int pk] ∧ Hs2 C H x n h ps ∧ Bw H be n h ps ∧ H t = some (.tup (stV S)) ∧ StOk n h S ∧ H d = some (.lst (nL (lowL n (relOf ps) S))) ∧ ∀ H', Same H H' → Q (.bl true) H'
theorem ok__law_other_lamps (T : Txt K mg C) {f : Addr} {fd : FuncData} (F : Fun K "_law_other_lamps" "_law_other_lamps" s__law_other_lamps f fd) (c__law_all_lowered : Cal P w K mg base "_law_all_lowered" 1 spAllLow) (c_lowered : Cal P w K mg base "lowered" 10 (spLoweredS C)) (c__law_is : Cal P w K mg base "_law_is" 3 spIsT) (c__law_truth : Cal P w K mg base "_law_truth" 1 spTruth) (c_is_cover : Cal P w K mg base "is_cover" 10 (spIsCoverS C)) (c_is_allowed : KwCal P w K mg base "is_allowed" 8 3 "careful" (spIsAllowed C)) (c__law_after : Cal P w K mg base "_law_after" 1 spAfterL) (c__law_refuses : Cal P w K mg base "_law_refuses" 11 (spRefusesL C)) :
    FnOk P w K mg base CX0 12 f fd ["house", "below", "hues", "state", "due", "pick"] (spOtherLamps C) := by
  refine F.ok sc__law_other_lamps (fun vs H Q E h => ?_) (fun cdv A outer s H vs Q E hr h => ?_)
  · obtain ⟨x, be, t, d, n, h, pk, ps, S, rfl, _⟩ := h; rfl
  · obtain ⟨x, be, t, d, n, h, pk, ps, S, rfl, hs, W, ht, ok, hd, q⟩ := h
    have n16 := W.n16
    have h2 := W.h2
    have h10 := W.h10
    have hR := W.ws.ranked
    have irr := hR.irr
    have few : (lowL n (relOf ps) S).length ≤ n := low_few
    refine ⟨_, (pss_cons (ps_set (i := 6) sc__law_other_lamps.nd rfl (by first | exact Or.inl rfl | exact Or.inr rfl) (pe_cal c__law_all_lowered (hr.mono (by decide)) (pa_cons (pv 1) (pa_cons (pv 2) (pa_cons (pv 3) (pa_cons (pv 4) pa_nil))))))
      (pss_cons (ps_set (i := 7) sc__law_other_lamps.nd rfl (by first | exact Or.inl rfl | exact Or.inr rfl) (pe_op op_cat (revL_ K (pv 4)) (pv 4)))
      (pss_cons (ps_if (PW.pt (pw_or (pt_not (pt_val (pe_cal c__law_is (hr.mono (by decide)) (pa_cons (pe_cal c_lowered (hr.mono (by decide)) (pa_cons (pv 0) (pa_cons (pv 3) (pa_cons (pv 7) pa_nil)))) (pa_cons (pv 6) pa_nil))))) (pw_or1 (pt_cmpR (hu_neD K hr.units) (pv 7) (pe_op op_cat (revL_ K (pv 4)) (pv 4)) (nomark _)))))
      (pss_one (ps_ret pe_bl)) pss_nil)
      (pss_cons (ps_if (pt_not (pt_val (pe_cal c__law_truth (hr.mono (by decide)) (pa_cons (pe_cal c_is_cover (hr.mono (by decide)) (pa_cons (pv 0) (pa_cons (pv 3) (pa_cons (pv 6) pa_nil)))) (pa_cons (pe_cmpR op_eq (pe_callB (lenS_ K) (by rfl) T.len b_len (pa_cons (pv 4) pa_nil)) pe_int (nomark _)) pa_nil)))))
      (pss_one (ps_ret pe_bl)) pss_nil)
      (pss_cons (ps_setLc (i := 8) (own := [("lamp", 9)]) (g := gName 9) rfl sc__law_other_lamps.nd rfl rfl (sw_true rfl rfl rfl (by kernel_rfl)) (pi_range1 (by rfl) T.range (pa_cons (pe_callB (lenS_ K) (by rfl) T.len b_len (pa_cons (pv 3) pa_nil)) pa_nil)) (blkOk_by (by kernel_rfl)) (fun _ _ _ _ _ => (pg_name (i := 9) sc__law_other_lamps.nd rfl (by first | exact Or.inl rfl | exact Or.inr rfl))) (fun _ _ _ _ _ => (pts_one (PW.pt (pw_and (pt_cmpR op_gt (pe_ix (ixT_ K) (pv 3) (pv 9) (fun _ _ => rfl)) pe_int (nomark _)) (pw_and1 (pt_cmpR (ninS_ K) (pv 9) (pv 4) (by rfl))))))) (fun _ _ _ _ _ => (pv 9)))
      (pss_cons (ps_if (pt_cmpR (hu_eqD K hr.units) (pv 8) (pe_lst pa_nil) (nomark _))
      (pss_one (ps_ret pe_bl)) pss_nil)
      (pss_cons (ps_set (i := 9) sc__law_other_lamps.nd rfl (by first | exact Or.inl rfl | exact Or.inr rfl) (pe_ix (ixL_ K) (pv 8) (pe_op op_mod (pe_callTy call_int1 (by rfl) T.int b_int (pa_cons (pv 5) pa_nil)) (pe_callB (lenS_ K) (by rfl) T.len b_len (pa_cons (pv 8) pa_nil))) (fun _ _ => rfl)))
      (pss_cons (ps_if (pt_cmpR op_notB (pe_kw1 c_is_allowed (hr.mono (by decide)) (pa_cons (pv 0) (pa_cons (pv 3) (pa_cons (pv 9) pa_nil))) (pk_cons pe_bl pk_nil)) pe_bl (nomark _))
      (pss_one (ps_ret pe_bl)) pss_nil)
      (pss_cons (ps_if (pt_cmpR op_notB (pe_cal c_is_cover (hr.mono (by decide)) (pa_cons (pv 0) (pa_cons (pv 3) (pa_cons (pe_cal c__law_after (hr.mono (by decide)) (pa_cons (pv 1) (pa_cons (pv 2) (pa_cons (pv 3) (pa_cons (pv 9) pa_nil))))) pa_nil)))) pe_bl (nomark _))
      (pss_one (ps_ret pe_bl)) pss_nil)
      (pss_one (ps_ret (pe_cal c__law_refuses (hr.mono (by decide)) (pa_cons (pv 0) (pa_cons (pv 3) (pa_cons (pe_op op_cat (pv 4) (pe_lst (pa_cons (pv 9) pa_nil))) (pa_cons (pv 9) pa_nil)))))))))))))))), ?_⟩
    refine ⟨_, rfl, _, rfl, _, rfl, _, rfl, be, t, d, n, h, ps, S, _, rfl, W, ht, hd, ok, lows_all, low_nd, fun g H1 s1 hg => ?_⟩
    have hs1 := hs.same s1
    have W1 := W.same s1
    have ht1 := s1 _ _ ht
    have hd1 := s1 _ _ hd
    have er : ∀ L : List Nat, (nL L).reverse = nL L.reverse := fun L => by unfold nL nI; rw [List.map_reverse, List.map_reverse]
    have okL : StOk n h (lowS n h (relOf ps) S (lowL n (relOf ps) S)) := lows_all.ok ok h2
    refine ⟨_, rfl, d, _, rfl, SqL.of hd1, fun r1 nr1 => ?_⟩
    rw [er]
    have a1 : Same H1 (L2.upd H1 r1 (.lst (nL (lowL n (relOf ps) S).reverse))) := same_new nr1
    have hr1 : (L2.upd H1 r1 (.lst (nL (lowL n (relOf ps) S).reverse))) r1 = some (.lst (nL (lowL n (relOf ps) S).reverse)) := upd_same
    generalize L2.upd H1 r1 (.lst (nL (lowL n (relOf ps) S).reverse)) = H2 at a1 hr1 ⊢
    refine ⟨_, rfl, r1, d, _, _, rfl, rfl, hr1, a1 _ _ hd1, by rw [nL_len, nL_len, List.length_reverse, sizeLine_eq]; omega, fun lm nlm => ?_⟩
    rw [← nL_app]
    have a2 : Same H1 (L2.upd H2 lm (.lst (nL ((lowL n (relOf ps) S).reverse ++ lowL n (relOf ps) S)))) := a1.trans (same_new nlm)
    have hlm : (L2.upd H2 lm (.lst (nL ((lowL n (relOf ps) S).reverse ++ lowL n (relOf ps) S)))) lm = some (.lst (nL ((lowL n (relOf ps) S).reverse ++ lowL n (relOf ps) S))) := upd_same
    generalize L2.upd H2 lm (.lst (nL ((lowL n (relOf ps) S).reverse ++ lowL n (relOf ps) S))) = H3 at a2 hlm ⊢
    have mem : ∀ k, k ∈ (lowL n (relOf ps) S).reverse ++ lowL n (relOf ps) S ↔ k ∈ lowL n (relOf ps) S := fun k => by
      rw [List.mem_append, List.mem_reverse]
      exact ⟨fun z => z.elim id id, .inl⟩
    refine ⟨_, rfl, _, rfl, _, rfl, x, t, lm, n, h, ps, S, _, rfl, hs1.same a2, a2 _ _ ht1, ok, hlm, fun k hk => (mem k).mp hk, fun p H4 s4 np hp => ?_⟩
    rw [lowS_mem mem] at hp
    have a4 := a2.trans s4
    refine ⟨_, rfl, p, g, _, rfl, by rw [okL.1]; omega, hp, a4 _ _ hg, fun H5 s5 => ⟨true, rfl, iteF ?_⟩⟩
    have a5 := a4.trans s5
    have hlm5 := s5 _ _ (s4 _ _ hlm)
    refine ⟨_, rfl, _, rfl, d, _, rfl, SqL.of (a5 _ _ hd1), fun r2 nr2 => ?_⟩
    rw [er]
    have t6 : Same H5 (L2.upd H5 r2 (.lst (nL (lowL n (relOf ps) S).reverse))) := same_new nr2
    have hr2 : (L2.upd H5 r2 (.lst (nL (lowL n (relOf ps) S).reverse))) r2 = some (.lst (nL (lowL n (relOf ps) S).reverse)) := upd_same
    generalize L2.upd H5 r2 (.lst (nL (lowL n (relOf ps) S).reverse)) = H6 at t6 hr2 ⊢
    refine ⟨_, rfl, r2, d, _, _, rfl, rfl, hr2, t6 _ _ (a5 _ _ hd1), by rw [nL_len, nL_len, List.length_reverse, sizeLine_eq]; omega, fun l3 nl3 => ?_⟩
    rw [← nL_app]
    have t7 : Same H5 (L2.upd H6 l3 (.lst (nL ((lowL n (relOf ps) S).reverse ++ lowL n (relOf ps) S)))) := t6.trans (same_new nl3)
    have hl3 : (L2.upd H6 l3 (.lst (nL ((lowL n (relOf ps) S).reverse ++ lowL n (relOf ps) S)))) l3 = some (.lst (nL ((lowL n (relOf ps) S).reverse ++ lowL n (relOf ps) S))) := upd_same
    generalize L2.upd H6 l3 (.lst (nL ((lowL n (relOf ps) S).reverse ++ lowL n (relOf ps) S))) = H7 at t7 hl3 ⊢
    have a7 := a5.trans t7
    refine ⟨_, _, nL_dp (t7 _ _ hlm5), nL_dp hl3, intsL_shaped _, intsL_shaped _, ?_⟩
    rw [intsL_eqv, decide_eq_true rfl]
    refine ⟨_, rfl, iteF ?_⟩
    refine ⟨_, rfl, _, rfl, _, rfl, x, t, g, n, h, ps, S, _, rfl, hs1.same a7, a7 _ _ ht1, a7 _ _ hg, ok, okL, fun H8 s8 => ?_⟩
    have a8 := a7.trans s8
    rw [cover_all h2]
    refine ⟨_, rfl, d, _, rfl, .inl (SqL.of (a8 _ _ hd1)), rfl, ?_⟩
    rw [nL_len]
    have e : decide (V.int ((lowL n (relOf ps) S).length : Int) = V.int 1) = decide ((lowL n (relOf ps) S).length = 1) := decide_eq_decide.mpr ⟨fun z => by injection z with z; omega, fun z => by rw [z]; rfl⟩
    rw [e]
    refine ⟨_, rfl, true, rfl, iteF ?_⟩
    have lS : (stV S).length = n := by rw [List.length_map, ok.1]
    refine ⟨_, rfl, t, _, rfl, .inr (SqT.of (a8 _ _ ht1)), _, rfl, by rw [lS]; omega, by rw [lS]; omega, fun D hD => ?_⟩
    rw [lS, Int.toNat_natCast]
    refine lc_range (fun j G => G D = some (.lst (nL ((List.range j).filter fun m => decide (at_ S m > 0) && !decide (m ∈ lowL n (relOf ps) S)))) ∧ Same H8 G) ⟨upd_same, same_new hD⟩ ?_ ?_
    · rintro j G hj ⟨gD, sG⟩
      have e0 : (0 : Int) + (j : Int) = (j : Int) := by omega
      rw [e0]
      have kJ := stV_get (S := S) (k := j) (by rw [ok.1]; exact hj)
      have fw := filt_few' (fun m => decide (at_ S m > 0) && !decide (m ∈ lowL n (relOf ps) S)) j
      refine ⟨rfl, _, rfl, _, rfl, t, _, _, _, rfl, rfl, SqT.of ((a8.trans sG) _ _ ht1), atI_nat kJ, _, _, rfl, rfl, _, rfl, ite2 (fun hp => ?_) fun hn => ⟨?_, sG⟩⟩
      · have hp' : decide (at_ S j > 0) = true := hp
        refine ⟨_, rfl, _, rfl, d, _, rfl, .inl (SqL.of ((a8.trans sG) _ _ hd1)), rfl, flat_nL _, _, rfl, ?_⟩
        rw [in_nL]
        by_cases mj : j ∈ lowL n (relOf ps) S
        · rw [decide_eq_true mj]
          refine iteF ⟨?_, sG⟩
          rw [gD, filt_more', if_neg (by rw [decide_eq_true mj]; simp), List.append_nil]
        · rw [decide_eq_false mj]
          refine iteT ⟨_, rfl, _, gD, by rw [nL_len, sizeLine_eq]; omega, ?_, same_upd sG hD⟩
          rw [upd_same, filt_more', if_pos (by rw [hp', decide_eq_false mj]; rfl), nL_app]; rfl
      · have hn' : decide (at_ S j > 0) = false := Bool.eq_false_iff.mpr hn
        rw [gD, filt_more', if_neg (by rw [hn']; simp), List.append_nil]
    rintro H9 ⟨hD9, s9⟩
    have a9 := a8.trans s9
    have mO : ∀ m, m ∈ (List.range n).filter (fun m => decide (at_ S m > 0) && !decide (m ∈ lowL n (relOf ps) S)) → m < n ∧ at_ S m > 0 ∧ m ∉ lowL n (relOf ps) S := fun m hm => by
      obtain ⟨z1, z2⟩ := List.mem_filter.mp hm
      rw [Bool.and_eq_true, decide_eq_true_iff, Bool.not_eq_true', decide_eq_false_iff_not] at z2
      exact ⟨List.mem_range.mp z1, z2⟩
    generalize (List.range n).filter (fun m => decide (at_ S m > 0) && !decide (m ∈ lowL n (relOf ps) S)) = O at hD9 mO
    refine ⟨_, rfl, by decide, fun z nz => ?_⟩
    have tz : Same H9 (L2.upd H9 z (.lst [])) := same_new nz
    have hz : (L2.upd H9 z (.lst [])) z = some (.lst (nL [])) := upd_same
    generalize L2.upd H9 z (.lst []) = HA at tz hz ⊢
    have aA := a9.trans tz
    have hDA := tz _ _ hD9
    refine ⟨_, _, nL_dp hDA, nL_dp hz, intsL_shaped _, intsL_shaped _, ?_⟩
    rw [intsL_eqv]
    refine ⟨_, rfl, ite2 (fun _ => q HA (s1.trans aA)) fun hne => ?_⟩
    have pO : 0 < O.length := by
      rcases Nat.eq_zero_or_pos O.length with y | y
      · exact absurd (decide_eq_true (by rw [List.eq_nil_of_length_eq_zero y])) hne
      · exact y
    have il : pk % O.length < O.length := Nat.mod_lt _ pO
    obtain ⟨m, hm⟩ : ∃ m, O[pk % O.length]? = some m := ⟨_, List.getElem?_eq_getElem il⟩
    obtain ⟨mn, pos, no⟩ := mO m (List.mem_of_getElem? hm)
    have em : (pk : Int) % ((nL O).length : Int) = ((pk % O.length : Nat) : Int) := by rw [nL_len]; rfl
    refine ⟨_, rfl, _, rfl, .inl ⟨_, rfl, _, rfl, D, _, rfl, .inl (SqL.of hDA), _, _, rfl, rfl, (by show (0 : Int) < ((nL O).length : Int); rw [nL_len]; omega), ?_⟩⟩
    refine ⟨D, _, _, .int (m : Int), rfl, rfl, SqL.of hDA, (by show atI _ ((pk : Int) % ((nL O).length : Int)) = _; rw [em]; exact atI_nat (nL_get hm)), ?_⟩
    refine ⟨_, rfl, _, rfl, _, rfl, rfl, rfl, x, t, n, h, m, ps, S, true, rfl, hs1.same aA, mn, aA _ _ ht1, ok, fun HB sB => ?_⟩
    have aB := aA.trans sB
    have nl : lowB n (relOf ps) S m = false := Bool.eq_false_iff.mpr fun y => no (mem_low.mpr ⟨mn, y⟩)
    rw [canB_low ok mn, nl]
    refine ⟨_, _, rfl, rfl, _, rfl, iteF ?_⟩
    refine ⟨_, rfl, _, rfl, _, rfl, _, rfl, _, rfl, _, rfl, be, t, n, h, m, relOf ps, S, rfl, n16, h2, (W1.same aB).rows, irr, aB _ _ ht1, ok, mn, pos, fun o HC sC no' ho => ?_⟩
    have aC := aB.trans sC
    refine ⟨x, t, o, n, h, ps, S, _, rfl, hs1.same aC, aC _ _ ht1, ho, ok, down_ok ok h2 mn pos, fun HD sD => ?_⟩
    have aD := aC.trans sD
    rw [cover_other mn pos no]
    refine ⟨_, _, rfl, rfl, _, rfl, iteF ?_⟩
    refine ⟨_, rfl, _, rfl, _, rfl, _, rfl, by show 1 ≤ sizeLine; decide, fun z2 nz2 => ?_⟩
    have tE : Same HD (L2.upd HD z2 (.lst [.int (m : Int)])) := same_new nz2
    have hz2 : (L2.upd HD z2 (.lst [.int (m : Int)])) z2 = some (.lst (nL [m])) := upd_same
    generalize L2.upd HD z2 (.lst [.int (m : Int)]) = HE at tE hz2 ⊢
    have aE := aD.trans tE
    refine ⟨d, z2, _, _, rfl, rfl, aE _ _ hd1, hz2, by rw [nL_len, nL_len, sizeLine_eq]; show _ + 1 ≤ _; omega, fun p2 np2 => ?_⟩
    rw [← nL_app]
    have tF : Same HE (L2.upd HE p2 (.lst (nL (lowL n (relOf ps) S ++ [m])))) := same_new np2
    have hp2 : (L2.upd HE p2 (.lst (nL (lowL n (relOf ps) S ++ [m])))) p2 = some (.lst (nL (lowL n (relOf ps) S ++ [m]))) := upd_same
    generalize L2.upd HE p2 (.lst (nL (lowL n (relOf ps) S ++ [m]))) = HF at tF hp2 ⊢
    have aF := aE.trans tF
    exact ⟨_, rfl, x, t, p2, n, h, m, ps, S, rfl, hs1.same aF, aF _ _ ht1, ok, hp2, mn, no, fun HG sG => q HG ((s1.trans aF).trans sG)⟩
end
end Hue

end
section
set_option maxRecDepth 100000
set_option maxHeartbeats 8000000
namespace Hue
open PySem PySem.Spec PyProof.Rows L2
section
variable {P : Program} {w : World} {K : PySem.W.Frag} {mg : Str → Option Value} {base : Heap} {C CS : Addr}
/-! ### a house of a list of wires -/
theorem makeH {H : Hp} {D : Addr} {n h : Nat} {ts : List Addr} {ps : List (Nat × Nat)} (hD : H D = some (.lst (ts.map V.ref))) (hp : Pairs H ts ps) (n1 : 1 ≤ n) (n16 : n ≤ 16) (h2 : 2 ≤ h) (h10 : h ≤ 10) (W : WsOk n ps) {R : VK} {E : XK} {x dx : Addr} (nx : H x = none) (ndx : H dx = none) (nxd : dx ≠ x) (g : ∀ H' : Hp, Same H H' → Hs2 C H' x n h ps → R .non H') :
    spInit K C (.ref x :: [.int (n : Nat), .int (h : Nat), .ref D]) (L2.upd (L2.upd H dx (.own x)) x (.ins C dx [])) R E := by
  have s12 : Same H (L2.upd (L2.upd H dx (.own x)) x (.ins C dx [])) := fun c o e => by
    rw [upd_ne (ne_of_none e nx), upd_ne (ne_of_none e ndx)]; exact e
  obtain ⟨ρ, _, hρ⟩ := W.rk
  exact ⟨x, dx, D, n, h, ps, rfl, upd_same, n1, n16, h2, h10, ⟨⟨ts, .inl (SqL.of (s12 _ _ hD)), hp.same s12⟩, W.nd, W.few, W.lt, ρ, hρ⟩, fun H' sb at_ x_ => g H' (fun c o e => sb c o (ne_of_none e nx) (s12 c o e)) ⟨⟨at_, x_⟩, n1, n16, h2, h10, W.ranked⟩⟩
def tabV (tab : List Nat) : List V := tab.map fun k : Nat => V.int (k : Int)
theorem tab_get {tab : List Nat} {d : Nat} (h : d < tab.length) : (tabV tab)[d]? = some (V.int (tab.getD d 0 : Nat)) := by
  unfold tabV
  rw [List.getElem?_map, List.getElem?_eq_getElem h, List.getD_eq_getElem?_getD, List.getElem?_eq_getElem h]
  rfl
theorem tabA : ∀ d, d < 4 → 1 ≤ [6, 6, 6, 16].getD d 0 ∧ [6, 6, 6, 16].getD d 0 ≤ 16 := by decide +kernel
theorem tabB : ∀ d, d < 3 → 1 ≤ [3, 3, 9].getD d 0 ∧ [3, 3, 9].getD d 0 ≤ 9 := by decide +kernel
abbrev s_law : Stmt := top 69
theorem sc_law : FnScope ["script", "purse", "count", "hues", "line", "direct", "below", "above", "house", "state", "turn", "due", "lamp"] ["script"] (defScope s_law) := ⟨rfl, rfl, rfl, by decide +kernel, rfl, by decide +kernel, by decide +kernel⟩
-- slots of law: 0 script, 1 purse, 2 count, 3 hues, 4 line, 5 direct, 6 below, 7 above, 8 house, 9 state, 10 turn, 11 due, 12 lamp
def spLaw (K : PySem.W.Frag) : Sp := fun vs H Q _ => ∃ (a : Addr) (ns : List Int), vs = [.ref a] ∧ SqL K H a (ns.map V.int) ∧ ns.length ≤ 63 ∧ ∀ H', Q (.bl true) H'
theorem ok_law (T : Txt K mg C) {f : Addr} {fd : FuncData} (F : Fun K "law" "law" s_law f fd) (c__law_purse : Cal P w K mg base "_law_purse" 1 (spPurse K)) (c__law_draw : Cal P w K mg base "_law_draw" 1 spDraw) (c__law_wires : Cal P w K mg base "_law_wires" 2 spWires) (c__law_below : Cal P w K mg base "_law_below" 1 spBelow) (c__law_above : Cal P w K mg base "_law_above" 1 spAboveL) (c__law_pairs : Cal P w K mg base "_law_pairs" 1 spPairsL) (c_House : NCal P w K mg base C "House" 5 (spInit K C)) (c__law_state : Cal P w K mg base "_law_state" 2 spState) (c__law_lowest : Cal P w K mg base "_law_lowest" 1 spLowest)
    (c__law_agree : Cal P w K mg base "_law_agree" 11 (spAgree C)) (c__law_other_lamps : Cal P w K mg base "_law_other_lamps" 12 (spOtherLamps C)) (c__law_one_lamp : Cal P w K mg base "_law_one_lamp" 11 (spOneLamp C)) (c__law_after : Cal P w K mg base "_law_after" 1 spAfterL) : GOk P w K mg base CX0 14 f fd ["script"] (spLaw K) := by
  refine F.okG sc_law (fun vs H Q E h => ?_) (fun cdv A gA outer s H vs Q E hr h => ?_)
  · obtain ⟨a, ns, rfl, _⟩ := h; rfl
  · obtain ⟨a, ns, rfl, ha, few, q⟩ := h
    refine ⟨_, (pss_cons (ps_set (i := 1) sc_law.nd rfl (by first | exact Or.inl rfl | exact Or.inr rfl) (pe_cal c__law_purse (hr.mono (by decide)) (pa_cons (pv 0) (pa_cons pe_int pa_nil))))
      (pss_cons (ps_set (i := 2) sc_law.nd rfl (by first | exact Or.inl rfl | exact Or.inr rfl) (pe_op op_add pe_int (pe_cal c__law_draw (hr.mono (by decide)) (pa_cons (pv 1) (pa_cons (pe_ix (ixL_ K) (pe_lst (pa_cons pe_int (pa_cons pe_int (pa_cons pe_int (pa_cons pe_int pa_nil))))) (pe_cal c__law_draw (hr.mono (by decide)) (pa_cons (pv 1) (pa_cons pe_int pa_nil))) (fun _ _ => rfl)) pa_nil)))))
      (pss_cons (ps_set (i := 3) sc_law.nd rfl (by first | exact Or.inl rfl | exact Or.inr rfl) (pe_op op_add pe_int (pe_cal c__law_draw (hr.mono (by decide)) (pa_cons (pv 1) (pa_cons (pe_ix (ixL_ K) (pe_lst (pa_cons pe_int (pa_cons pe_int (pa_cons pe_int pa_nil)))) (pe_cal c__law_draw (hr.mono (by decide)) (pa_cons (pv 1) (pa_cons pe_int pa_nil))) (fun _ _ => rfl)) pa_nil)))))
      (pss_cons (ps_asg (pe_cal c__law_wires (hr.mono (by decide)) (pa_cons (pv 1) (pa_cons (pv 2) pa_nil))) (pg_unl (by rfl) (pgs_cons (pg_name (i := 4) sc_law.nd rfl (by first | exact Or.inl rfl | exact Or.inr rfl)) (pgs_cons (pg_name (i := 5) sc_law.nd rfl (by first | exact Or.inl rfl | exact Or.inr rfl)) pgs_nil))))
      (pss_cons (ps_set (i := 6) sc_law.nd rfl (by first | exact Or.inl rfl | exact Or.inr rfl) (pe_cal c__law_below (hr.mono (by decide)) (pa_cons (pv 4) (pa_cons (pv 5) pa_nil))))
      (pss_cons (ps_set (i := 7) sc_law.nd rfl (by first | exact Or.inl rfl | exact Or.inr rfl) (pe_cal c__law_above (hr.mono (by decide)) (pa_cons (pv 6) pa_nil)))
      (pss_cons (ps_set (i := 8) sc_law.nd rfl (by first | exact Or.inl rfl | exact Or.inr rfl) (pe_ncal c_House (hr.mono (by decide)) (pa_cons (pv 2) (pa_cons (pv 3) (pa_cons (pe_cal c__law_pairs (hr.mono (by decide)) (pa_cons (pv 4) (pa_cons (pv 5) pa_nil))) pa_nil)))))
      (pss_cons (ps_set (i := 1) sc_law.nd rfl (by first | exact Or.inl rfl | exact Or.inr rfl) (pe_cal c__law_purse (hr.mono (by decide)) (pa_cons (pv 0) (pa_cons pe_int pa_nil))))
      (pss_cons (ps_set (i := 9) sc_law.nd rfl (by first | exact Or.inl rfl | exact Or.inr rfl) (pe_cal c__law_state (hr.mono (by decide)) (pa_cons (pv 1) (pa_cons (pv 2) (pa_cons (pv 3) pa_nil)))))
      (pss_cons (ps_for PassesOwn.never rfl (pi_range1 (by rfl) T.range (pa_cons pe_int pa_nil)) (pg_name (i := 10) sc_law.nd rfl (by first | exact Or.inl rfl | exact Or.inr rfl))
      (pss_cons (ps_set (i := 11) sc_law.nd rfl (by first | exact Or.inl rfl | exact Or.inr rfl) (pe_cal c__law_lowest (hr.mono (by decide)) (pa_cons (pv 6) (pa_cons (pv 9) pa_nil))))
      (pss_cons (ps_if (pt_not (pt_val (pe_cal c__law_agree (hr.mono (by decide)) (pa_cons (pv 8) (pa_cons (pv 6) (pa_cons (pv 7) (pa_cons (pv 3) (pa_cons (pv 9) pa_nil))))))))
      (pss_one (ps_ret pe_bl)) pss_nil)
      (pss_cons (ps_if (pt_not (pt_val (pe_cal c__law_other_lamps (hr.mono (by decide)) (pa_cons (pv 8) (pa_cons (pv 6) (pa_cons (pv 3) (pa_cons (pv 9) (pa_cons (pv 11) (pa_cons (pe_cal c__law_draw (hr.mono (by decide)) (pa_cons (pv 1) (pa_cons pe_int pa_nil))) pa_nil)))))))))
      (pss_one (ps_ret pe_bl)) pss_nil)
      (pss_cons (ps_if (pt_cmpR (hu_eqD K hr.units) (pv 11) (pe_lst pa_nil) (nomark _))
      (pss_one (ps_ret pe_bl)) pss_nil)
      (pss_cons (ps_set (i := 12) sc_law.nd rfl (by first | exact Or.inl rfl | exact Or.inr rfl) (pe_ix (ixL_ K) (pv 11) (pe_cal c__law_draw (hr.mono (by decide)) (pa_cons (pv 1) (pa_cons (pe_callB (lenS_ K) (by rfl) T.len b_len (pa_cons (pv 11) pa_nil)) pa_nil))) (fun _ _ => rfl)))
      (pss_cons (ps_if (pt_not (pt_val (pe_cal c__law_one_lamp (hr.mono (by decide)) (pa_cons (pv 8) (pa_cons (pv 6) (pa_cons (pv 7) (pa_cons (pv 3) (pa_cons (pv 9) (pa_cons (pv 12) pa_nil)))))))))
      (pss_one (ps_ret pe_bl)) pss_nil)
      (pss_one (ps_set (i := 9) sc_law.nd rfl (by first | exact Or.inl rfl | exact Or.inr rfl) (pe_cal c__law_after (hr.mono (by decide)) (pa_cons (pv 6) (pa_cons (pv 3) (pa_cons (pv 9) (pa_cons (pv 12) pa_nil))))))))))))))
      (pss_one (ps_ret (pe_cal c__law_agree (hr.mono (by decide)) (pa_cons (pv 8) (pa_cons (pv 6) (pa_cons (pv 7) (pa_cons (pv 3) (pa_cons (pv 9) pa_nil)))))))))))))))))), ?_⟩
    refine ⟨_, rfl, a, ns, 0, rfl, ha, few, by decide, fun H1 b s1 nb p1 => ?_⟩
    -- the number of lamps
    refine ⟨_, rfl, by show 4 ≤ sizeLine; decide, fun ta nta => ?_⟩
    have h1 : (L2.upd H1 ta (.lst (tabV [6, 6, 6, 16]))) ta = some (.lst (tabV [6, 6, 6, 16])) := upd_same
    have nab := p1.new nta
    have p2 := p1.same (same_new (o := .lst (tabV [6, 6, 6, 16])) nta)
    have z2 : Same H1 (L2.upd H1 ta (.lst (tabV [6, 6, 6, 16]))) := same_new nta
    rw [show L2.upd H1 ta (.lst [.int 6, .int 6, .int 6, .int 16]) = L2.upd H1 ta (.lst (tabV [6, 6, 6, 16])) from rfl]
    generalize L2.upd H1 ta (.lst (tabV [6, 6, 6, 16])) = H2 at h1 p2 z2 ⊢
    refine ⟨_, rfl, b, 4, rfl, by decide, by decide, p2, fun d3 H3 hd3 s3 p3 => ?_⟩
    obtain ⟨m1, m2⟩ := tabA d3 hd3
    refine ⟨ta, _, _, _, rfl, rfl, SqL.of (s3 _ _ nab h1), atI_nat (tab_get (show d3 < [6, 6, 6, 16].length from hd3)), ?_⟩
    refine ⟨b, _, rfl, m1, by omega, p3, fun c4 H4 hc4 s4 p4 => ⟨_, _, rfl, rfl, ?_⟩⟩
    have en : (1 : Int) + (c4 : Int) = ((1 + c4 : Nat) : Int) := by omega
    show gName 2 (V.int ((1 : Int) + (c4 : Int))) _ _ _
    rw [en]
    obtain ⟨n, hn⟩ : ∃ n, 1 + c4 = n := ⟨_, rfl⟩
    rw [hn]
    have n1 : 1 ≤ n := by omega
    have n16 : n ≤ 16 := by omega
    -- the number of hues
    refine ⟨_, rfl, by show 3 ≤ sizeLine; decide, fun tb ntb => ?_⟩
    have h5 : (L2.upd H4 tb (.lst (tabV [3, 3, 9]))) tb = some (.lst (tabV [3, 3, 9])) := upd_same
    have nbb := p4.new ntb
    have p5 := p4.same (same_new (o := .lst (tabV [3, 3, 9])) ntb)
    have z5 : Same H4 (L2.upd H4 tb (.lst (tabV [3, 3, 9]))) := same_new ntb
    rw [show L2.upd H4 tb (.lst [.int 3, .int 3, .int 9]) = L2.upd H4 tb (.lst (tabV [3, 3, 9])) from rfl]
    generalize L2.upd H4 tb (.lst (tabV [3, 3, 9])) = H5 at h5 p5 z5 ⊢
    refine ⟨_, rfl, b, 3, rfl, by decide, by decide, p5, fun d6 H6 hd6 s6 p6 => ?_⟩
    obtain ⟨k1, k2⟩ := tabB d6 hd6
    refine ⟨tb, _, _, _, rfl, rfl, SqL.of (s6 _ _ nbb h5), atI_nat (tab_get (show d6 < [3, 3, 9].length from hd6)), ?_⟩
    refine ⟨b, _, rfl, k1, by omega, p6, fun c7 H7 hc7 s7 p7 => ⟨_, _, rfl, rfl, ?_⟩⟩
    have eh : (2 : Int) + (c7 : Int) = ((2 + c7 : Nat) : Int) := by omega
    show gName 3 (V.int ((2 : Int) + (c7 : Int))) _ _ _
    rw [eh]
    obtain ⟨h, hh⟩ : ∃ h, 2 + c7 = h := ⟨_, rfl⟩
    rw [hh]
    have h2 : 2 ≤ h := by omega
    have h10 : h ≤ 10 := by omega
    clear hc4 hc7 en eh hn hh m1 m2 k1 k2 h1 h5 p2 p3 p4 p5 p6
    -- wires
    refine ⟨_, rfl, _, rfl, b, n, rfl, n1, n16, p7, fun line D t ln dr H8 lok lD dn s8 ht8 hl8 hD8 => ?_⟩
    refine ⟨t, _, rfl, SqL.of ht8, rfl, _, _, rfl, _, _, rfl, rfl, ?_⟩
    have WS := pairs_ok n16 lok lD dn
    refine ⟨_, rfl, _, rfl, ln, dr, n, line, D, rfl, n1, n16, hl8, hD8, lok, lD, dn, fun be H9 s9 hB9 => ?_⟩
    refine ⟨_, rfl, be, n, _, rfl, n16, hB9, fun ab HA sA hA => ?_⟩
    have s8A := s9.trans sA
    have WA : Bw HA be n h (pairsOf line D) := ⟨n1, n16, h2, h10, WS, hB9.same sA⟩
    refine ⟨_, rfl, _, rfl, _, rfl, _, rfl, ln, dr, n, line, D, rfl, n16, s8A _ _ hl8, hD8.same s8A, lok, lD, dn, fun pz HB ts sB hpz hp => ?_⟩
    intro x dx nx ndx ne
    have hp : Pairs HB ts (pairsOf line D) := hp
    refine makeH hpz hp n1 n16 h2 h10 WS nx ndx ne fun HC sC hs => ⟨rfl, ?_⟩
    have sAC := sB.trans sC
    have WC := WA.same sAC
    have hAC := hA.same sAC
    have s04 : Same H H4 := SB.past (SB.past (s1.trans z2) nb s3) nb s4
    have s0C : Same H HC := ((SB.past (SB.past (SB.past (s04.trans z5) nb s6) nb s7) nb s8).trans s8A).trans sAC
    have haC := Same.sqL s0C ha
    clear s04 s0C s3 s4 s6 s7 s8 z2 z5 s1 p1 p7 hl8 hD8 ht8 hB9 s9 sA hA WA s8A hpz hp sB sC sAC nta ntb nab nbb ha
    have irr := WS.ranked.irr
    generalize pairsOf line D = ps at WC hAC WS hs irr
    -- a state
    refine ⟨_, rfl, a, ns, 1, rfl, haC, few, by decide, fun HD b2 sD nb2 p2 => ?_⟩
    refine ⟨_, rfl, _, rfl, _, rfl, b2, n, h, rfl, n16, h2, h10, p2, fun t S HE ok sE pE htE => ?_⟩
    refine ⟨_, rfl, by decide, by decide, ?_⟩
    refine for_range (fun i σ G => ∃ (v10 v11 v12 : Option V) (t : Addr) (S : List Int), σ = [some (.ref a), some (.ref b2), some (.int n), some (.int h), some (.ref ln), some (.ref dr), some (.ref be), some (.ref ab), some (.ref x), some (.ref t), v10, v11, v12] ∧ Same HC G ∧ Pu G b2 ∧ G t = some (.tup (stV S)) ∧ StOk n h S)
      ⟨_, _, _, t, S, rfl, SB.past sD nb2 sE, pE, htE, ok⟩ ?_ ?_
    · clear htE ok pE sE p2
      rintro i σ G _ ⟨v10, v11, v12, t, S, rfl, sG, pG, ht, ok⟩
      have fl : (lowL n (relOf ps) S).length ≤ n := low_few
      have ntb : t ≠ b2 := by
        obtain ⟨_, _, _, e⟩ := pG
        exact ne_of ht e (by intro z; cases z)
      refine ⟨_, rfl, _, rfl, be, t, n, h, ps, S, rfl, WC.same sG, ht, ok, fun d G1 t1 nd hd => ?_⟩
      have ndb := pG.new nd
      have u1 := sG.trans t1
      refine ⟨_, rfl, _, rfl, _, rfl, _, rfl, _, rfl, x, be, ab, t, n, h, ps, S, rfl, hs.same u1, WC.same u1, hAC.same u1, t1 _ _ ht, ok, fun G2 t2 => ⟨true, rfl, iteF ?_⟩⟩
      have t12 := t1.trans t2
      have u2 := sG.trans t12
      refine ⟨_, rfl, _, rfl, _, rfl, _, rfl, _, rfl, _, rfl, b2, 16, rfl, by decide, by decide, pG.same t12, fun pk G3 hpk t3 p3 => ?_⟩
      have u3 : Same HC G3 := SB.past u2 nb2 t3
      have ht3 := t3 _ _ ntb (t12 _ _ ht)
      have hd3 := t3 _ _ ndb (t2 _ _ hd)
      refine ⟨x, be, t, d, n, h, pk, ps, S, rfl, hs.same u3, WC.same u3, ht3, ok, hd3, fun G4 t4 => ⟨true, rfl, iteF ?_⟩⟩
      refine ⟨_, rfl, by decide, fun z nz => ?_⟩
      have tz : Same G4 (L2.upd G4 z (.lst [])) := same_new nz
      have hz : (L2.upd G4 z (.lst [])) z = some (.lst (nL [])) := upd_same
      generalize L2.upd G4 z (.lst []) = G5 at tz hz ⊢
      have t45 := t4.trans tz
      have u5 := u3.trans t45
      have hd5 := t45 _ _ hd3
      have ht5 := t45 _ _ ht3
      have p5 := p3.same t45
      refine ⟨_, _, nL_dp hd5, nL_dp hz, intsL_shaped _, intsL_shaped _, ?_⟩
      rw [intsL_eqv]
      refine ⟨_, rfl, ite2 (fun _ => q _) fun hne => ?_⟩
      have pos1 : 1 ≤ (lowL n (relOf ps) S).length := by
        rcases Nat.eq_zero_or_pos (lowL n (relOf ps) S).length with y | y
        · exact absurd (decide_eq_true (List.eq_nil_of_length_eq_zero y)) hne
        · exact y
      refine ⟨_, rfl, _, rfl, _, rfl, d, _, rfl, .inl (SqL.of hd5), b2, (lowL n (relOf ps) S).length, by rw [nL_len], pos1, by omega, p5, fun j G6 hj t6 p6 => ?_⟩
      obtain ⟨k, hk⟩ : ∃ k, (lowL n (relOf ps) S)[j]? = some k := ⟨_, List.getElem?_eq_getElem hj⟩
      have mk := List.mem_of_getElem? hk
      obtain ⟨kn, lk⟩ := mem_low.mp mk
      have pos := (lowB_yes.mp lk).1
      have u6 : Same HC G6 := SB.past u5 nb2 t6
      have ht6 := t6 _ _ ntb ht5
      refine ⟨d, _, _, _, rfl, rfl, SqL.of (t6 _ _ ndb hd5), atI_nat (nL_get hk), ?_⟩
      refine ⟨_, rfl, _, rfl, _, rfl, _, rfl, _, rfl, _, rfl, x, be, ab, t, n, h, k, ps, S, rfl, hs.same u6, WC.same u6, hAC.same u6, ht6, ok, mk, fun G7 t7 => ⟨true, rfl, iteF ?_⟩⟩
      have u7 := u6.trans t7
      refine ⟨_, rfl, _, rfl, _, rfl, _, rfl, be, t, n, h, k, relOf ps, S, rfl, n16, h2, (WC.same u7).rows, irr, t7 _ _ ht6, ok, kn, pos, fun p G8 t8 np hp => ?_⟩
      exact ⟨_, _, _, p, _, rfl, u7.trans t8, p6.same (t7.trans t8), hp, down_ok ok h2 kn pos⟩
    · rintro σ G ⟨v10, v11, v12, t, S, rfl, sG, pG, ht, ok⟩
      exact ⟨_, rfl, _, rfl, _, rfl, _, rfl, _, rfl, x, be, ab, t, n, h, ps, S, rfl, hs.same sG, WC.same sG, hAC.same sG, ht, ok, fun G2 _ => q G2⟩
end
end Hue

end
section
set_option maxRecDepth 100000
set_option maxHeartbeats 4000000
namespace Hue
open PySem PySem.Spec PyProof.Rows L2
/-! ### the end: what the top has written, and the head -/
theorem binds_init {K : PySem.W.Frag} {T E : Addr} {ocT : Value} {odT : Option Addr} {itT : Value} {nT : Nat} {slT : Array (Option Value)} (lT : K.lookup T = some ⟨ocT, odT, .seq #[itT] nT, slT⟩) {kV dc pm cd ct : Value} {an : Option Addr} :
    Binds K (PySem.W.fnOf "__init__" "House.__init__" (defArgs s_House___init__) (defBody s_House___init__) (defScope s_House___init__) (.ref T) kV dc pm an cd ct) ["self", "count", "hues", "wires"] [] := fun s us X hl => by
  rw [List.append_nil] at hl ⊢
  match us, hl with
  | [a, b, c, d], _ =>
    refine BindsTo.of_looks fun M => ?_
    have e : ∃ k, bindArgs (PySem.W.fnOf "__init__" "House.__init__" (defArgs s_House___init__) (defBody s_House___init__) (defScope s_House___init__) (.ref T) kV dc pm an cd ct) ⟨[a, b, c, d], []⟩ = seqItems? (.ref T) >>= k ∧ k (some #[itT]) = pure ((["self", "count", "hues", "wires"] : List Str).zip [a, b, c, d]) := ⟨_, rfl, rfl⟩
    obtain ⟨k, e1, e2⟩ := e
    rw [e1]
    exact looks_items X lT rfl (.of_pure e2)
theorem binds_init0 {K : PySem.W.Frag} {T : Addr} {ocT : Value} {odT : Option Addr} {itT : Value} {nT : Nat} {slT : Array (Option Value)} (lT : K.lookup T = some ⟨ocT, odT, .seq #[itT] nT, slT⟩) {kV dc pm cd ct : Value} {an : Option Addr} :
    Binds K (PySem.W.fnOf "__init__" "House.__init__" (defArgs s_House___init__) (defBody s_House___init__) (defScope s_House___init__) (.ref T) kV dc pm an cd ct) ["self", "count", "hues", "wires"] [itT] := fun s us X hl => by
  have l3 : us.length = 3 := by
    rw [List.length_append] at hl
    exact Nat.succ.inj hl
  match us, l3 with
  | [a, b, c], _ =>
    refine BindsTo.of_looks fun M => ?_
    have e : ∃ k, bindArgs (PySem.W.fnOf "__init__" "House.__init__" (defArgs s_House___init__) (defBody s_House___init__) (defScope s_House___init__) (.ref T) kV dc pm an cd ct) ⟨[a, b, c], []⟩ = seqItems? (.ref T) >>= k ∧ k (some #[itT]) = pure ((["self", "count", "hues", "wires"] : List Str).zip [a, b, c, itT]) := ⟨_, rfl, rfl⟩
    obtain ⟨k, e1, e2⟩ := e
    rw [e1]
    exact looks_items X lT rfl (.of_pure e2)
theorem kw_allowed_lamps {K : PySem.W.Frag} {D : Addr} {u dc pm cd ct : Value} {an : Option Addr} (nd : PySem.W.nsIn K D "careful" = some (some u)) :
    Binds K (PySem.W.fnOf "allowed_lamps" "allowed_lamps" (defArgs s_allowed_lamps) (defBody s_allowed_lamps) (defScope s_allowed_lamps) .none (.ref D) dc pm an cd ct) ["house", "state", "careful"] [u] := fun s us X hl => by
  have l3 : us.length = 2 := by
    rw [List.length_append] at hl
    exact Nat.succ.inj hl
  match us, l3 with
  | [a, b], _ =>
    exact BindsTo.of_looks fun M => KwChain.looks (l := [("careful", u)]) X (fun q hq => by rw [List.mem_singleton.mp hq]; exact nd) ⟨_, _, _, _, _, _, rfl, rfl, rfl⟩
theorem kk_allowed_lamps {K : PySem.W.Frag} {D : Addr} {dc pm cd ct : Value} {an : Option Addr} :
    KBn K (PySem.W.fnOf "allowed_lamps" "allowed_lamps" (defArgs s_allowed_lamps) (defBody s_allowed_lamps) (defScope s_allowed_lamps) .none (.ref D) dc pm an cd ct) ["house", "state", "careful"] 2 ["careful"] (fun us ws => us ++ ws) (fun vs zs => vs ++ zs) := ⟨fun s us ws X h1 h2 => by
  match us, h1, ws, h2 with
  | [a, b], _, [v], _ => exact .of_eq rfl, fun r z => r.append z⟩
theorem kw_after {K : PySem.W.Frag} {D : Addr} {u dc pm cd ct : Value} {an : Option Addr} (nd : PySem.W.nsIn K D "careful" = some (some u)) :
    Binds K (PySem.W.fnOf "after" "after" (defArgs s_after) (defBody s_after) (defScope s_after) .none (.ref D) dc pm an cd ct) ["house", "state", "lamp", "careful"] [u] := fun s us X hl => by
  have l3 : us.length = 3 := by
    rw [List.length_append] at hl
    exact Nat.succ.inj hl
  match us, l3 with
  | [a, b, c], _ =>
    exact BindsTo.of_looks fun M => KwChain.looks (l := [("careful", u)]) X (fun q hq => by rw [List.mem_singleton.mp hq]; exact nd) ⟨_, _, _, _, _, _, rfl, rfl, rfl⟩
theorem kk_after {K : PySem.W.Frag} {D : Addr} {dc pm cd ct : Value} {an : Option Addr} :
    KBn K (PySem.W.fnOf "after" "after" (defArgs s_after) (defBody s_after) (defScope s_after) .none (.ref D) dc pm an cd ct) ["house", "state", "lamp", "careful"] 3 ["careful"] (fun us ws => us ++ ws) (fun vs zs => vs ++ zs) := ⟨fun s us ws X h1 h2 => by
  match us, h1, ws, h2 with
  | [a, b, c], _, [v], _ => exact .of_eq rfl, fun r z => r.append z⟩
theorem kw_before {K : PySem.W.Frag} {D : Addr} {u dc pm cd ct : Value} {an : Option Addr} (nd : PySem.W.nsIn K D "careful" = some (some u)) :
    Binds K (PySem.W.fnOf "before" "before" (defArgs s_before) (defBody s_before) (defScope s_before) .none (.ref D) dc pm an cd ct) ["house", "state", "lamp", "careful"] [u] := fun s us X hl => by
  have l3 : us.length = 3 := by
    rw [List.length_append] at hl
    exact Nat.succ.inj hl
  match us, l3 with
  | [a, b, c], _ =>
    exact BindsTo.of_looks fun M => KwChain.looks (l := [("careful", u)]) X (fun q hq => by rw [List.mem_singleton.mp hq]; exact nd) ⟨_, _, _, _, _, _, rfl, rfl, rfl⟩
theorem kk_before {K : PySem.W.Frag} {D : Addr} {dc pm cd ct : Value} {an : Option Addr} :
    KBn K (PySem.W.fnOf "before" "before" (defArgs s_before) (defBody s_before) (defScope s_before) .none (.ref D) dc pm an cd ct) ["house", "state", "lamp", "careful"] 3 ["careful"] (fun us ws => us ++ ws) (fun vs zs => vs ++ zs) := ⟨fun s us ws X h1 h2 => by
  match us, h1, ws, h2 with
  | [a, b, c], _, [v], _ => exact .of_eq rfl, fun r z => r.append z⟩
theorem kw_is_allowed {K : PySem.W.Frag} {D : Addr} {u dc pm cd ct : Value} {an : Option Addr} (nd : PySem.W.nsIn K D "careful" = some (some u)) :
    Binds K (PySem.W.fnOf "is_allowed" "is_allowed" (defArgs s_is_allowed) (defBody s_is_allowed) (defScope s_is_allowed) .none (.ref D) dc pm an cd ct) ["house", "state", "lamp", "careful"] [u] := fun s us X hl => by
  have l3 : us.length = 3 := by
    rw [List.length_append] at hl
    exact Nat.succ.inj hl
  match us, l3 with
  | [a, b, c], _ =>
    exact BindsTo.of_looks fun M => KwChain.looks (l := [("careful", u)]) X (fun q hq => by rw [List.mem_singleton.mp hq]; exact nd) ⟨_, _, _, _, _, _, rfl, rfl, rfl⟩
theorem kk_is_allowed {K : PySem.W.Frag} {D : Addr} {dc pm cd ct : Value} {an : Option Addr} :
    KBn K (PySem.W.fnOf "is_allowed" "is_allowed" (defArgs s_is_allowed) (defBody s_is_allowed) (defScope s_is_allowed) .none (.ref D) dc pm an cd ct) ["house", "state", "lamp", "careful"] 3 ["careful"] (fun us ws => us ++ ws) (fun vs zs => vs ++ zs) := ⟨fun s us ws X h1 h2 => by
  match us, h1, ws, h2 with
  | [a, b, c], _, [v], _ => exact .of_eq rfl, fun r z => r.append z⟩
theorem exm_of {K : PySem.W.Frag} {S E : Addr} {b : Bool} (h1 : PySem.W.subIn K (.ref E) (.type "BaseException") = some true) (h2 : PySem.W.isClsIn K E = true) (h3 : PySem.W.typeIn K (.ref E) = some (.type "type")) (h4 : PySem.W.subIn K (.ref S) (.ref E) = some b) : PySem.W.exmOne K (.ref S) (.ref E) = some b := by
  have e1 : (PySem.W.subIn K (.ref E) (.type "BaseException") == some true) = true := by rw [h1] <;> rfl
  have e2 : ((PySem.W.clsIn K E).isSome && PySem.W.typeIn K (.ref E) == some (.type "type")) = true := by
    have h2' : (PySem.W.clsIn K E).isSome = true := h2
    rw [h2', h3] <;> rfl
  show (if (PySem.W.subIn K (.ref E) (.type "BaseException") == some true) = true then (if ((PySem.W.clsIn K E).isSome && PySem.W.typeIn K (.ref E) == some (.type "type")) = true then PySem.W.subIn K (.ref S) (.ref E) else none) else none) = some b
  rw [if_pos e1, if_pos e2]
  exact h4
theorem kit_self {K : PySem.W.Frag} {S : Addr} : PySem.W.kitOne K (.ref S) (.ref S) = some true := by
  show (if ((Value.ref S) == (Value.ref S)) = true then some true else _) = some true
  rw [if_pos (beq_iff_eq.mpr rfl)]
theorem kit_yes {K : PySem.W.Frag} {S E : Addr} (h2 : PySem.W.isClsIn K E = true) (h3 : PySem.W.typeIn K (.ref E) = some (.type "type")) (h4 : PySem.W.subIn K (.ref S) (.ref E) = some true) : PySem.W.kitOne K (.ref S) (.ref E) = some true := by
  have e2 : ((PySem.W.clsIn K E).isSome && PySem.W.typeIn K (.ref E) == some (.type "type")) = true := by
    have h2' : (PySem.W.clsIn K E).isSome = true := h2
    rw [h2', h3] <;> rfl
  show (if ((Value.ref S) == (Value.ref E)) = true then some true else (if ((PySem.W.clsIn K E).isSome && PySem.W.typeIn K (.ref E) == some (.type "type")) = true then PySem.W.subIn K (.ref S) (.ref E) else none)) = some true
  by_cases z : ((Value.ref S) == (Value.ref E)) = true
  · rw [if_pos z]
  · rw [if_neg z, if_pos e2]
    exact h4
theorem kit_no {K : PySem.W.Frag} {S E : Addr} (h2 : PySem.W.isClsIn K E = true) (h3 : PySem.W.typeIn K (.ref E) = some (.type "type")) (h4 : PySem.W.subIn K (.ref S) (.ref E) = some false) (h5 : PySem.W.subIn K (.ref S) (.ref S) = some true) : PySem.W.kitOne K (.ref S) (.ref E) = some false := by
  have ne : ¬ ((Value.ref S) == (Value.ref E)) = true := fun z => by
    have e := beq_iff_eq.mp z
    rw [← e, h5] at h4
    cases h4
  have e2 : ((PySem.W.clsIn K E).isSome && PySem.W.typeIn K (.ref E) == some (.type "type")) = true := by
    have h2' : (PySem.W.clsIn K E).isSome = true := h2
    rw [h2', h3] <;> rfl
  show (if ((Value.ref S) == (Value.ref E)) = true then some true else (if ((PySem.W.clsIn K E).isSome && PySem.W.typeIn K (.ref E) == some (.type "type")) = true then PySem.W.subIn K (.ref S) (.ref E) else none)) = some false
  rw [if_neg ne, if_pos e2]
  exact h4
theorem kit_tyV {K : PySem.W.Frag} {S : Addr} (h : PySem.W.subIn K (.ref S) (.type "ValueError") = some true) : PySem.W.kitOne K (.ref S) (.type "ValueError") = some true := by
  have ne : ¬ ((Value.ref S) == (Value.type "ValueError")) = true := fun z => by
    have e := beq_iff_eq.mp z
    cases e
  show (if ((Value.ref S) == (Value.type "ValueError")) = true then some true else (if PySem.W.kitMeta "ValueError" = true then PySem.W.subIn K (.ref S) (.type "ValueError") else none)) = some true
  rw [if_neg ne, if_pos (by decide +kernel)]
  exact h
theorem kit_no3 {K : PySem.W.Frag} {S A B D : Addr} (a : PySem.W.kitOne K (.ref S) (.ref A) = some false) (b : PySem.W.kitOne K (.ref S) (.ref B) = some false) (c : PySem.W.kitOne K (.ref S) (.ref D) = some false) : PySem.W.kitAny K (.ref S) [.ref A, .ref B, .ref D] = some false := by
  unfold PySem.W.kitAny
  rw [a]
  show PySem.W.kitAny K (.ref S) [.ref B, .ref D] = some false
  unfold PySem.W.kitAny
  rw [b]
  show PySem.W.kitAny K (.ref S) [.ref D] = some false
  unfold PySem.W.kitAny
  rw [c]
  rfl
theorem all_mk {l : PySem.W.OpenLaw} {w : World} {K : PySem.W.Frag} {h : Heap} {mg : Str → Option Value} {fa : Addr} (X : K.In h) (G : h.Ns mainGlobals mg) (hfa : mg "law" = some (.ref fa))
    {f0 : Addr} {od0 an0 : Option Addr} {sl0 : Array (Option Value)} {oc0 kV0 dc0 pm0 cd0 ct0 : Value}
    {f1 : Addr} {od1 an1 : Option Addr} {sl1 : Array (Option Value)} {oc1 kV1 dc1 pm1 cd1 ct1 : Value}
    {f2 : Addr} {od2 an2 : Option Addr} {sl2 : Array (Option Value)} {oc2 kV2 dc2 pm2 cd2 ct2 : Value}
    {f3 : Addr} {od3 an3 : Option Addr} {sl3 : Array (Option Value)} {oc3 kV3 dc3 pm3 cd3 ct3 : Value}
    {f4 : Addr} {od4 an4 : Option Addr} {sl4 : Array (Option Value)} {oc4 kV4 dc4 pm4 cd4 ct4 : Value}
    {f5 : Addr} {od5 an5 : Option Addr} {sl5 : Array (Option Value)} {oc5 kV5 dc5 pm5 cd5 ct5 : Value}
    {f6 : Addr} {od6 an6 : Option Addr} {sl6 : Array (Option Value)} {oc6 kV6 dc6 pm6 cd6 ct6 : Value}
    {f7 : Addr} {od7 an7 : Option Addr} {sl7 : Array (Option Value)} {oc7 kV7 dc7 pm7 cd7 ct7 : Value}
    {f8 : Addr} {od8 an8 : Option Addr} {sl8 : Array (Option Value)} {oc8 kV8 dc8 pm8 cd8 ct8 : Value}
    {f9 : Addr} {od9 an9 : Option Addr} {sl9 : Array (Option Value)} {oc9 kV9 dc9 pm9 cd9 ct9 : Value}
    {f10 : Addr} {od10 an10 : Option Addr} {sl10 : Array (Option Value)} {oc10 kV10 dc10 pm10 cd10 ct10 : Value}
    {f11 : Addr} {od11 an11 : Option Addr} {sl11 : Array (Option Value)} {oc11 kV11 dc11 pm11 cd11 ct11 : Value}
    {f12 : Addr} {od12 an12 : Option Addr} {sl12 : Array (Option Value)} {oc12 kV12 dc12 pm12 cd12 ct12 : Value}
    {f13 : Addr} {od13 an13 : Option Addr} {sl13 : Array (Option Value)} {oc13 kV13 dc13 pm13 cd13 ct13 : Value}
    {f14 : Addr} {od14 an14 : Option Addr} {sl14 : Array (Option Value)} {oc14 kV14 dc14 pm14 cd14 ct14 : Value}
    {f15 : Addr} {od15 an15 : Option Addr} {sl15 : Array (Option Value)} {oc15 kV15 dc15 pm15 cd15 ct15 : Value}
    {f16 : Addr} {od16 an16 : Option Addr} {sl16 : Array (Option Value)} {oc16 kV16 dc16 pm16 cd16 ct16 : Value}
    {f17 : Addr} {od17 an17 : Option Addr} {sl17 : Array (Option Value)} {oc17 kV17 dc17 pm17 cd17 ct17 : Value}
    {f18 : Addr} {od18 an18 : Option Addr} {sl18 : Array (Option Value)} {oc18 kV18 dc18 pm18 cd18 ct18 : Value}
    {f19 : Addr} {od19 an19 : Option Addr} {sl19 : Array (Option Value)} {oc19 kV19 dc19 pm19 cd19 ct19 : Value}
    {f20 : Addr} {od20 an20 : Option Addr} {sl20 : Array (Option Value)} {oc20 kV20 dc20 pm20 cd20 ct20 : Value}
    {f21 : Addr} {od21 an21 : Option Addr} {sl21 : Array (Option Value)} {oc21 kV21 dc21 pm21 cd21 ct21 : Value}
    {f22 : Addr} {od22 an22 : Option Addr} {sl22 : Array (Option Value)} {oc22 kV22 dc22 pm22 cd22 ct22 : Value}
    {f23 : Addr} {od23 an23 : Option Addr} {sl23 : Array (Option Value)} {oc23 kV23 dc23 pm23 cd23 ct23 : Value}
    {f24 : Addr} {od24 an24 : Option Addr} {sl24 : Array (Option Value)} {oc24 kV24 dc24 pm24 cd24 ct24 : Value}
    {f25 : Addr} {od25 an25 : Option Addr} {sl25 : Array (Option Value)} {oc25 kV25 dc25 pm25 cd25 ct25 : Value}
    {f26 : Addr} {od26 an26 : Option Addr} {sl26 : Array (Option Value)} {oc26 kV26 dc26 pm26 cd26 ct26 : Value}
    {f27 : Addr} {od27 an27 : Option Addr} {sl27 : Array (Option Value)} {oc27 kV27 dc27 pm27 cd27 ct27 : Value}
    {f28 : Addr} {od28 an28 : Option Addr} {sl28 : Array (Option Value)} {oc28 kV28 dc28 pm28 cd28 ct28 : Value}
    {f29 : Addr} {od29 an29 : Option Addr} {sl29 : Array (Option Value)} {oc29 kV29 dc29 pm29 cd29 ct29 : Value}
    {f30 : Addr} {od30 an30 : Option Addr} {sl30 : Array (Option Value)} {oc30 kV30 dc30 pm30 cd30 ct30 : Value}
    {f31 : Addr} {od31 an31 : Option Addr} {sl31 : Array (Option Value)} {oc31 kV31 dc31 pm31 cd31 ct31 : Value}
    {f32 : Addr} {od32 an32 : Option Addr} {sl32 : Array (Option Value)} {oc32 kV32 dc32 pm32 cd32 ct32 : Value}
    {f33 : Addr} {od33 an33 : Option Addr} {sl33 : Array (Option Value)} {oc33 kV33 dc33 pm33 cd33 ct33 : Value}
    {f34 : Addr} {od34 an34 : Option Addr} {sl34 : Array (Option Value)} {oc34 kV34 dc34 pm34 cd34 ct34 : Value}
    {f35 : Addr} {od35 an35 : Option Addr} {sl35 : Array (Option Value)} {oc35 kV35 dc35 pm35 cd35 ct35 : Value}
    {f36 : Addr} {od36 an36 : Option Addr} {sl36 : Array (Option Value)} {oc36 kV36 dc36 pm36 cd36 ct36 : Value}
    {f37 : Addr} {od37 an37 : Option Addr} {sl37 : Array (Option Value)} {oc37 kV37 dc37 pm37 cd37 ct37 : Value}
    {f38 : Addr} {od38 an38 : Option Addr} {sl38 : Array (Option Value)} {oc38 kV38 dc38 pm38 cd38 ct38 : Value}
    {f39 : Addr} {od39 an39 : Option Addr} {sl39 : Array (Option Value)} {oc39 kV39 dc39 pm39 cd39 ct39 : Value}
    {f40 : Addr} {od40 an40 : Option Addr} {sl40 : Array (Option Value)} {oc40 kV40 dc40 pm40 cd40 ct40 : Value}
    {f41 : Addr} {od41 an41 : Option Addr} {sl41 : Array (Option Value)} {oc41 kV41 dc41 pm41 cd41 ct41 : Value}
    {f42 : Addr} {od42 an42 : Option Addr} {sl42 : Array (Option Value)} {oc42 kV42 dc42 pm42 cd42 ct42 : Value}
    {f43 : Addr} {od43 an43 : Option Addr} {sl43 : Array (Option Value)} {oc43 kV43 dc43 pm43 cd43 ct43 : Value}
    {f44 : Addr} {od44 an44 : Option Addr} {sl44 : Array (Option Value)} {oc44 kV44 dc44 pm44 cd44 ct44 : Value}
    {f45 : Addr} {od45 an45 : Option Addr} {sl45 : Array (Option Value)} {oc45 kV45 dc45 pm45 cd45 ct45 : Value}
    {f46 : Addr} {od46 an46 : Option Addr} {sl46 : Array (Option Value)} {oc46 kV46 dc46 pm46 cd46 ct46 : Value}
    {f47 : Addr} {od47 an47 : Option Addr} {sl47 : Array (Option Value)} {oc47 kV47 dc47 pm47 cd47 ct47 : Value}
    {fW0 DW0 : Addr} {odW0 anW0 : Option Addr} {slW0 : Array (Option Value)} {ocW0 dcW0 pmW0 cdW0 ctW0 uW0 : Value}
    {fW1 DW1 : Addr} {odW1 anW1 : Option Addr} {slW1 : Array (Option Value)} {ocW1 dcW1 pmW1 cdW1 ctW1 uW1 : Value}
    {fW2 DW2 : Addr} {odW2 anW2 : Option Addr} {slW2 : Array (Option Value)} {ocW2 dcW2 pmW2 cdW2 ctW2 uW2 : Value}
    {fW3 DW3 : Addr} {odW3 anW3 : Option Addr} {slW3 : Array (Option Value)} {ocW3 dcW3 pmW3 cdW3 ctW3 uW3 : Value}
    {fM0 : Addr} {odM0 anM0 : Option Addr} {slM0 : Array (Option Value)} {ocM0 kVM0 dcM0 pmM0 cdM0 ctM0 : Value}
    {fM1 : Addr} {odM1 anM1 : Option Addr} {slM1 : Array (Option Value)} {ocM1 kVM1 dcM1 pmM1 cdM1 ctM1 : Value}
    {C T0 E0 : Addr} {ocT ocE : Value} {odT odE : Option Addr} {nT nE : Nat} {slT slE : Array (Option Value)} {u1 u2 : Value}
    {fI : Addr} {odI anI : Option Addr} {slI : Array (Option Value)} {ocI kVI dcI pmI cdI ctI : Value}
    {CE CS CL : Addr}
    {NLS fXS : Addr} {nmLS qLS : Str} {bsLS : List Value} {snLS : List Str} {subLS : List Value} {abLS : Bool} {colLS : Option Bool} {ddLS : Option Addr} {m0LS m1LS m2LS m3LS m5LS : Option Value} {odXS anXS : Option Addr} {slXS : Array (Option Value)} {ocXS kVXS dcXS pmXS cdXS ctXS : Value}
    {NLL fXL : Addr} {nmLL qLL : Str} {bsLL : List Value} {snLL : List Str} {subLL : List Value} {abLL : Bool} {colLL : Option Bool} {ddLL : Option Addr} {m0LL m1LL m2LL m3LL m5LL : Option Value} {odXL anXL : Option Addr} {slXL : Array (Option Value)} {ocXL kVXL dcXL pmXL cdXL ctXL : Value}
    (aC : PySem.W.nsIn K mainGlobals "House" = some (some (.ref C)))
    (a0 : PySem.W.nsIn K mainGlobals "is_whole" = some (some (.ref f0))) (l0 : K.lookup f0 = some ⟨oc0, od0, .func (PySem.W.fnOf "is_whole" "is_whole" (defArgs s_is_whole) (defBody s_is_whole) (defScope s_is_whole) .none kV0 dc0 pm0 an0 cd0 ct0), sl0⟩) (c0 : PySem.W.codeIn K cd0 "is_whole" = true) (k0 : PySem.W.keepIn K (.ref f0) = true)
    (a1 : PySem.W.nsIn K mainGlobals "is_whole_in" = some (some (.ref f1))) (l1 : K.lookup f1 = some ⟨oc1, od1, .func (PySem.W.fnOf "is_whole_in" "is_whole_in" (defArgs s_is_whole_in) (defBody s_is_whole_in) (defScope s_is_whole_in) .none kV1 dc1 pm1 an1 cd1 ct1), sl1⟩) (c1 : PySem.W.codeIn K cd1 "is_whole_in" = true) (k1 : PySem.W.keepIn K (.ref f1) = true)
    (a2 : PySem.W.nsIn K mainGlobals "check_count" = some (some (.ref f2))) (l2 : K.lookup f2 = some ⟨oc2, od2, .func (PySem.W.fnOf "check_count" "check_count" (defArgs s_check_count) (defBody s_check_count) (defScope s_check_count) .none kV2 dc2 pm2 an2 cd2 ct2), sl2⟩) (c2 : PySem.W.codeIn K cd2 "check_count" = true) (k2 : PySem.W.keepIn K (.ref f2) = true)
    (a3 : PySem.W.nsIn K mainGlobals "check_hues" = some (some (.ref f3))) (l3 : K.lookup f3 = some ⟨oc3, od3, .func (PySem.W.fnOf "check_hues" "check_hues" (defArgs s_check_hues) (defBody s_check_hues) (defScope s_check_hues) .none kV3 dc3 pm3 an3 cd3 ct3), sl3⟩) (c3 : PySem.W.codeIn K cd3 "check_hues" = true) (k3 : PySem.W.keepIn K (.ref f3) = true)
    (a4 : PySem.W.nsIn K mainGlobals "is_wire" = some (some (.ref f4))) (l4 : K.lookup f4 = some ⟨oc4, od4, .func (PySem.W.fnOf "is_wire" "is_wire" (defArgs s_is_wire) (defBody s_is_wire) (defScope s_is_wire) .none kV4 dc4 pm4 an4 cd4 ct4), sl4⟩) (c4 : PySem.W.codeIn K cd4 "is_wire" = true) (k4 : PySem.W.keepIn K (.ref f4) = true)
    (a5 : PySem.W.nsIn K mainGlobals "with_wire" = some (some (.ref f5))) (l5 : K.lookup f5 = some ⟨oc5, od5, .func (PySem.W.fnOf "with_wire" "with_wire" (defArgs s_with_wire) (defBody s_with_wire) (defScope s_with_wire) .none kV5 dc5 pm5 an5 cd5 ct5), sl5⟩) (c5 : PySem.W.codeIn K cd5 "with_wire" = true) (k5 : PySem.W.keepIn K (.ref f5) = true)
    (a6 : PySem.W.nsIn K mainGlobals "lamps_beneath" = some (some (.ref f6))) (l6 : K.lookup f6 = some ⟨oc6, od6, .func (PySem.W.fnOf "lamps_beneath" "lamps_beneath" (defArgs s_lamps_beneath) (defBody s_lamps_beneath) (defScope s_lamps_beneath) .none kV6 dc6 pm6 an6 cd6 ct6), sl6⟩) (c6 : PySem.W.codeIn K cd6 "lamps_beneath" = true) (k6 : PySem.W.keepIn K (.ref f6) = true)
    (a7 : PySem.W.nsIn K mainGlobals "is_next" = some (some (.ref f7))) (l7 : K.lookup f7 = some ⟨oc7, od7, .func (PySem.W.fnOf "is_next" "is_next" (defArgs s_is_next) (defBody s_is_next) (defScope s_is_next) .none kV7 dc7 pm7 an7 cd7 ct7), sl7⟩) (c7 : PySem.W.codeIn K cd7 "is_next" = true) (k7 : PySem.W.keepIn K (.ref f7) = true)
    (a8 : PySem.W.nsIn K mainGlobals "order_list" = some (some (.ref f8))) (l8 : K.lookup f8 = some ⟨oc8, od8, .func (PySem.W.fnOf "order_list" "order_list" (defArgs s_order_list) (defBody s_order_list) (defScope s_order_list) .none kV8 dc8 pm8 an8 cd8 ct8), sl8⟩) (c8 : PySem.W.codeIn K cd8 "order_list" = true) (k8 : PySem.W.keepIn K (.ref f8) = true)
    (a9 : PySem.W.nsIn K mainGlobals "is_lamp" = some (some (.ref f9))) (l9 : K.lookup f9 = some ⟨oc9, od9, .func (PySem.W.fnOf "is_lamp" "is_lamp" (defArgs s_is_lamp) (defBody s_is_lamp) (defScope s_is_lamp) .none kV9 dc9 pm9 an9 cd9 ct9), sl9⟩) (c9 : PySem.W.codeIn K cd9 "is_lamp" = true) (k9 : PySem.W.keepIn K (.ref f9) = true)
    (a10 : PySem.W.nsIn K mainGlobals "check_lamp" = some (some (.ref f10))) (l10 : K.lookup f10 = some ⟨oc10, od10, .func (PySem.W.fnOf "check_lamp" "check_lamp" (defArgs s_check_lamp) (defBody s_check_lamp) (defScope s_check_lamp) .none kV10 dc10 pm10 an10 cd10 ct10), sl10⟩) (c10 : PySem.W.codeIn K cd10 "check_lamp" = true) (k10 : PySem.W.keepIn K (.ref f10) = true)
    (a11 : PySem.W.nsIn K mainGlobals "is_state" = some (some (.ref f11))) (l11 : K.lookup f11 = some ⟨oc11, od11, .func (PySem.W.fnOf "is_state" "is_state" (defArgs s_is_state) (defBody s_is_state) (defScope s_is_state) .none kV11 dc11 pm11 an11 cd11 ct11), sl11⟩) (c11 : PySem.W.codeIn K cd11 "is_state" = true) (k11 : PySem.W.keepIn K (.ref f11) = true)
    (a12 : PySem.W.nsIn K mainGlobals "check_state" = some (some (.ref f12))) (l12 : K.lookup f12 = some ⟨oc12, od12, .func (PySem.W.fnOf "check_state" "check_state" (defArgs s_check_state) (defBody s_check_state) (defScope s_check_state) .none kV12 dc12 pm12 an12 cd12 ct12), sl12⟩) (c12 : PySem.W.codeIn K cd12 "check_state" = true) (k12 : PySem.W.keepIn K (.ref f12) = true)
    (a13 : PySem.W.nsIn K mainGlobals "first_lit_beneath" = some (some (.ref f13))) (l13 : K.lookup f13 = some ⟨oc13, od13, .func (PySem.W.fnOf "first_lit_beneath" "first_lit_beneath" (defArgs s_first_lit_beneath) (defBody s_first_lit_beneath) (defScope s_first_lit_beneath) .none kV13 dc13 pm13 an13 cd13 ct13), sl13⟩) (c13 : PySem.W.codeIn K cd13 "first_lit_beneath" = true) (k13 : PySem.W.keepIn K (.ref f13) = true)
    (a14 : PySem.W.nsIn K mainGlobals "can_move" = some (some (.ref f14))) (l14 : K.lookup f14 = some ⟨oc14, od14, .func (PySem.W.fnOf "can_move" "can_move" (defArgs s_can_move) (defBody s_can_move) (defScope s_can_move) .none kV14 dc14 pm14 an14 cd14 ct14), sl14⟩) (c14 : PySem.W.codeIn K cd14 "can_move" = true) (k14 : PySem.W.keepIn K (.ref f14) = true)
    (a15 : PySem.W.nsIn K mainGlobals "turned" = some (some (.ref f15))) (l15 : K.lookup f15 = some ⟨oc15, od15, .func (PySem.W.fnOf "turned" "turned" (defArgs s_turned) (defBody s_turned) (defScope s_turned) .none kV15 dc15 pm15 an15 cd15 ct15), sl15⟩) (c15 : PySem.W.codeIn K cd15 "turned" = true) (k15 : PySem.W.keepIn K (.ref f15) = true)
    (a16 : PySem.W.nsIn K mainGlobals "moved" = some (some (.ref f16))) (l16 : K.lookup f16 = some ⟨oc16, od16, .func (PySem.W.fnOf "moved" "moved" (defArgs s_moved) (defBody s_moved) (defScope s_moved) .none kV16 dc16 pm16 an16 cd16 ct16), sl16⟩) (c16 : PySem.W.codeIn K cd16 "moved" = true) (k16 : PySem.W.keepIn K (.ref f16) = true)
    (a17 : PySem.W.nsIn K mainGlobals "lowest_lit" = some (some (.ref f17))) (l17 : K.lookup f17 = some ⟨oc17, od17, .func (PySem.W.fnOf "lowest_lit" "lowest_lit" (defArgs s_lowest_lit) (defBody s_lowest_lit) (defScope s_lowest_lit) .none kV17 dc17 pm17 an17 cd17 ct17), sl17⟩) (c17 : PySem.W.codeIn K cd17 "lowest_lit" = true) (k17 : PySem.W.keepIn K (.ref f17) = true)
    (a18 : PySem.W.nsIn K mainGlobals "lowered_at" = some (some (.ref f18))) (l18 : K.lookup f18 = some ⟨oc18, od18, .func (PySem.W.fnOf "lowered_at" "lowered_at" (defArgs s_lowered_at) (defBody s_lowered_at) (defScope s_lowered_at) .none kV18 dc18 pm18 an18 cd18 ct18), sl18⟩) (c18 : PySem.W.codeIn K cd18 "lowered_at" = true) (k18 : PySem.W.keepIn K (.ref f18) = true)
    (a19 : PySem.W.nsIn K mainGlobals "lowered" = some (some (.ref f19))) (l19 : K.lookup f19 = some ⟨oc19, od19, .func (PySem.W.fnOf "lowered" "lowered" (defArgs s_lowered) (defBody s_lowered) (defScope s_lowered) .none kV19 dc19 pm19 an19 cd19 ct19), sl19⟩) (c19 : PySem.W.codeIn K cd19 "lowered" = true) (k19 : PySem.W.keepIn K (.ref f19) = true)
    (a20 : PySem.W.nsIn K mainGlobals "pieces" = some (some (.ref f20))) (l20 : K.lookup f20 = some ⟨oc20, od20, .func (PySem.W.fnOf "pieces" "pieces" (defArgs s_pieces) (defBody s_pieces) (defScope s_pieces) .none kV20 dc20 pm20 an20 cd20 ct20), sl20⟩) (c20 : PySem.W.codeIn K cd20 "pieces" = true) (k20 : PySem.W.keepIn K (.ref f20) = true)
    (a21 : PySem.W.nsIn K mainGlobals "is_single" = some (some (.ref f21))) (l21 : K.lookup f21 = some ⟨oc21, od21, .func (PySem.W.fnOf "is_single" "is_single" (defArgs s_is_single) (defBody s_is_single) (defScope s_is_single) .none kV21 dc21 pm21 an21 cd21 ct21), sl21⟩) (c21 : PySem.W.codeIn K cd21 "is_single" = true) (k21 : PySem.W.keepIn K (.ref f21) = true)
    (a22 : PySem.W.nsIn K mainGlobals "covered_by" = some (some (.ref f22))) (l22 : K.lookup f22 = some ⟨oc22, od22, .func (PySem.W.fnOf "covered_by" "covered_by" (defArgs s_covered_by) (defBody s_covered_by) (defScope s_covered_by) .none kV22 dc22 pm22 an22 cd22 ct22), sl22⟩) (c22 : PySem.W.codeIn K cd22 "covered_by" = true) (k22 : PySem.W.keepIn K (.ref f22) = true)
    (a23 : PySem.W.nsIn K mainGlobals "covers_of" = some (some (.ref f23))) (l23 : K.lookup f23 = some ⟨oc23, od23, .func (PySem.W.fnOf "covers_of" "covers_of" (defArgs s_covers_of) (defBody s_covers_of) (defScope s_covers_of) .none kV23 dc23 pm23 an23 cd23 ct23), sl23⟩) (c23 : PySem.W.codeIn K cd23 "covers_of" = true) (k23 : PySem.W.keepIn K (.ref f23) = true)
    (a24 : PySem.W.nsIn K mainGlobals "is_cover" = some (some (.ref f24))) (l24 : K.lookup f24 = some ⟨oc24, od24, .func (PySem.W.fnOf "is_cover" "is_cover" (defArgs s_is_cover) (defBody s_is_cover) (defScope s_is_cover) .none kV24 dc24 pm24 an24 cd24 ct24), sl24⟩) (c24 : PySem.W.codeIn K cd24 "is_cover" = true) (k24 : PySem.W.keepIn K (.ref f24) = true)
    (a25 : PySem.W.nsIn K mainGlobals "_law_purse" = some (some (.ref f25))) (l25 : K.lookup f25 = some ⟨oc25, od25, .func (PySem.W.fnOf "_law_purse" "_law_purse" (defArgs s__law_purse) (defBody s__law_purse) (defScope s__law_purse) .none kV25 dc25 pm25 an25 cd25 ct25), sl25⟩) (c25 : PySem.W.codeIn K cd25 "_law_purse" = true) (k25 : PySem.W.keepIn K (.ref f25) = true)
    (a26 : PySem.W.nsIn K mainGlobals "_law_draw" = some (some (.ref f26))) (l26 : K.lookup f26 = some ⟨oc26, od26, .func (PySem.W.fnOf "_law_draw" "_law_draw" (defArgs s__law_draw) (defBody s__law_draw) (defScope s__law_draw) .none kV26 dc26 pm26 an26 cd26 ct26), sl26⟩) (c26 : PySem.W.codeIn K cd26 "_law_draw" = true) (k26 : PySem.W.keepIn K (.ref f26) = true)
    (a27 : PySem.W.nsIn K mainGlobals "_law_wires" = some (some (.ref f27))) (l27 : K.lookup f27 = some ⟨oc27, od27, .func (PySem.W.fnOf "_law_wires" "_law_wires" (defArgs s__law_wires) (defBody s__law_wires) (defScope s__law_wires) .none kV27 dc27 pm27 an27 cd27 ct27), sl27⟩) (c27 : PySem.W.codeIn K cd27 "_law_wires" = true) (k27 : PySem.W.keepIn K (.ref f27) = true)
    (a28 : PySem.W.nsIn K mainGlobals "_law_pairs" = some (some (.ref f28))) (l28 : K.lookup f28 = some ⟨oc28, od28, .func (PySem.W.fnOf "_law_pairs" "_law_pairs" (defArgs s__law_pairs) (defBody s__law_pairs) (defScope s__law_pairs) .none kV28 dc28 pm28 an28 cd28 ct28), sl28⟩) (c28 : PySem.W.codeIn K cd28 "_law_pairs" = true) (k28 : PySem.W.keepIn K (.ref f28) = true)
    (a29 : PySem.W.nsIn K mainGlobals "_law_below" = some (some (.ref f29))) (l29 : K.lookup f29 = some ⟨oc29, od29, .func (PySem.W.fnOf "_law_below" "_law_below" (defArgs s__law_below) (defBody s__law_below) (defScope s__law_below) .none kV29 dc29 pm29 an29 cd29 ct29), sl29⟩) (c29 : PySem.W.codeIn K cd29 "_law_below" = true) (k29 : PySem.W.keepIn K (.ref f29) = true)
    (a30 : PySem.W.nsIn K mainGlobals "_law_above" = some (some (.ref f30))) (l30 : K.lookup f30 = some ⟨oc30, od30, .func (PySem.W.fnOf "_law_above" "_law_above" (defArgs s__law_above) (defBody s__law_above) (defScope s__law_above) .none kV30 dc30 pm30 an30 cd30 ct30), sl30⟩) (c30 : PySem.W.codeIn K cd30 "_law_above" = true) (k30 : PySem.W.keepIn K (.ref f30) = true)
    (a31 : PySem.W.nsIn K mainGlobals "_law_state" = some (some (.ref f31))) (l31 : K.lookup f31 = some ⟨oc31, od31, .func (PySem.W.fnOf "_law_state" "_law_state" (defArgs s__law_state) (defBody s__law_state) (defScope s__law_state) .none kV31 dc31 pm31 an31 cd31 ct31), sl31⟩) (c31 : PySem.W.codeIn K cd31 "_law_state" = true) (k31 : PySem.W.keepIn K (.ref f31) = true)
    (a32 : PySem.W.nsIn K mainGlobals "_law_after" = some (some (.ref f32))) (l32 : K.lookup f32 = some ⟨oc32, od32, .func (PySem.W.fnOf "_law_after" "_law_after" (defArgs s__law_after) (defBody s__law_after) (defScope s__law_after) .none kV32 dc32 pm32 an32 cd32 ct32), sl32⟩) (c32 : PySem.W.codeIn K cd32 "_law_after" = true) (k32 : PySem.W.keepIn K (.ref f32) = true)
    (a33 : PySem.W.nsIn K mainGlobals "_law_is_integer" = some (some (.ref f33))) (l33 : K.lookup f33 = some ⟨oc33, od33, .func (PySem.W.fnOf "_law_is_integer" "_law_is_integer" (defArgs s__law_is_integer) (defBody s__law_is_integer) (defScope s__law_is_integer) .none kV33 dc33 pm33 an33 cd33 ct33), sl33⟩) (c33 : PySem.W.codeIn K cd33 "_law_is_integer" = true) (k33 : PySem.W.keepIn K (.ref f33) = true)
    (a34 : PySem.W.nsIn K mainGlobals "_law_truth" = some (some (.ref f34))) (l34 : K.lookup f34 = some ⟨oc34, od34, .func (PySem.W.fnOf "_law_truth" "_law_truth" (defArgs s__law_truth) (defBody s__law_truth) (defScope s__law_truth) .none kV34 dc34 pm34 an34 cd34 ct34), sl34⟩) (c34 : PySem.W.codeIn K cd34 "_law_truth" = true) (k34 : PySem.W.keepIn K (.ref f34) = true)
    (a35 : PySem.W.nsIn K mainGlobals "_law_same" = some (some (.ref f35))) (l35 : K.lookup f35 = some ⟨oc35, od35, .func (PySem.W.fnOf "_law_same" "_law_same" (defArgs s__law_same) (defBody s__law_same) (defScope s__law_same) .none kV35 dc35 pm35 an35 cd35 ct35), sl35⟩) (c35 : PySem.W.codeIn K cd35 "_law_same" = true) (k35 : PySem.W.keepIn K (.ref f35) = true)
    (a36 : PySem.W.nsIn K mainGlobals "_law_is" = some (some (.ref f36))) (l36 : K.lookup f36 = some ⟨oc36, od36, .func (PySem.W.fnOf "_law_is" "_law_is" (defArgs s__law_is) (defBody s__law_is) (defScope s__law_is) .none kV36 dc36 pm36 an36 cd36 ct36), sl36⟩) (c36 : PySem.W.codeIn K cd36 "_law_is" = true) (k36 : PySem.W.keepIn K (.ref f36) = true)
    (a37 : PySem.W.nsIn K mainGlobals "_law_same_pairs" = some (some (.ref f37))) (l37 : K.lookup f37 = some ⟨oc37, od37, .func (PySem.W.fnOf "_law_same_pairs" "_law_same_pairs" (defArgs s__law_same_pairs) (defBody s__law_same_pairs) (defScope s__law_same_pairs) .none kV37 dc37 pm37 an37 cd37 ct37), sl37⟩) (c37 : PySem.W.codeIn K cd37 "_law_same_pairs" = true) (k37 : PySem.W.keepIn K (.ref f37) = true)
    (a38 : PySem.W.nsIn K mainGlobals "_law_same_states" = some (some (.ref f38))) (l38 : K.lookup f38 = some ⟨oc38, od38, .func (PySem.W.fnOf "_law_same_states" "_law_same_states" (defArgs s__law_same_states) (defBody s__law_same_states) (defScope s__law_same_states) .none kV38 dc38 pm38 an38 cd38 ct38), sl38⟩) (c38 : PySem.W.codeIn K cd38 "_law_same_states" = true) (k38 : PySem.W.keepIn K (.ref f38) = true)
    (a39 : PySem.W.nsIn K mainGlobals "_law_lowest" = some (some (.ref f39))) (l39 : K.lookup f39 = some ⟨oc39, od39, .func (PySem.W.fnOf "_law_lowest" "_law_lowest" (defArgs s__law_lowest) (defBody s__law_lowest) (defScope s__law_lowest) .none kV39 dc39 pm39 an39 cd39 ct39), sl39⟩) (c39 : PySem.W.codeIn K cd39 "_law_lowest" = true) (k39 : PySem.W.keepIn K (.ref f39) = true)
    (a40 : PySem.W.nsIn K mainGlobals "_law_piece" = some (some (.ref f40))) (l40 : K.lookup f40 = some ⟨oc40, od40, .func (PySem.W.fnOf "_law_piece" "_law_piece" (defArgs s__law_piece) (defBody s__law_piece) (defScope s__law_piece) .none kV40 dc40 pm40 an40 cd40 ct40), sl40⟩) (c40 : PySem.W.codeIn K cd40 "_law_piece" = true) (k40 : PySem.W.keepIn K (.ref f40) = true)
    (a41 : PySem.W.nsIn K mainGlobals "_law_all_lowered" = some (some (.ref f41))) (l41 : K.lookup f41 = some ⟨oc41, od41, .func (PySem.W.fnOf "_law_all_lowered" "_law_all_lowered" (defArgs s__law_all_lowered) (defBody s__law_all_lowered) (defScope s__law_all_lowered) .none kV41 dc41 pm41 an41 cd41 ct41), sl41⟩) (c41 : PySem.W.codeIn K cd41 "_law_all_lowered" = true) (k41 : PySem.W.keepIn K (.ref f41) = true)
    (a42 : PySem.W.nsIn K mainGlobals "_law_covers_of" = some (some (.ref f42))) (l42 : K.lookup f42 = some ⟨oc42, od42, .func (PySem.W.fnOf "_law_covers_of" "_law_covers_of" (defArgs s__law_covers_of) (defBody s__law_covers_of) (defScope s__law_covers_of) .none kV42 dc42 pm42 an42 cd42 ct42), sl42⟩) (c42 : PySem.W.codeIn K cd42 "_law_covers_of" = true) (k42 : PySem.W.keepIn K (.ref f42) = true)
    (a43 : PySem.W.nsIn K mainGlobals "_law_refuses" = some (some (.ref f43))) (l43 : K.lookup f43 = some ⟨oc43, od43, .func (PySem.W.fnOf "_law_refuses" "_law_refuses" (defArgs s__law_refuses) (defBody s__law_refuses) (defScope s__law_refuses) .none kV43 dc43 pm43 an43 cd43 ct43), sl43⟩) (c43 : PySem.W.codeIn K cd43 "_law_refuses" = true) (k43 : PySem.W.keepIn K (.ref f43) = true)
    (a44 : PySem.W.nsIn K mainGlobals "_law_agree" = some (some (.ref f44))) (l44 : K.lookup f44 = some ⟨oc44, od44, .func (PySem.W.fnOf "_law_agree" "_law_agree" (defArgs s__law_agree) (defBody s__law_agree) (defScope s__law_agree) .none kV44 dc44 pm44 an44 cd44 ct44), sl44⟩) (c44 : PySem.W.codeIn K cd44 "_law_agree" = true) (k44 : PySem.W.keepIn K (.ref f44) = true)
    (a45 : PySem.W.nsIn K mainGlobals "_law_one_lamp" = some (some (.ref f45))) (l45 : K.lookup f45 = some ⟨oc45, od45, .func (PySem.W.fnOf "_law_one_lamp" "_law_one_lamp" (defArgs s__law_one_lamp) (defBody s__law_one_lamp) (defScope s__law_one_lamp) .none kV45 dc45 pm45 an45 cd45 ct45), sl45⟩) (c45 : PySem.W.codeIn K cd45 "_law_one_lamp" = true) (k45 : PySem.W.keepIn K (.ref f45) = true)
    (a46 : PySem.W.nsIn K mainGlobals "_law_other_lamps" = some (some (.ref f46))) (l46 : K.lookup f46 = some ⟨oc46, od46, .func (PySem.W.fnOf "_law_other_lamps" "_law_other_lamps" (defArgs s__law_other_lamps) (defBody s__law_other_lamps) (defScope s__law_other_lamps) .none kV46 dc46 pm46 an46 cd46 ct46), sl46⟩) (c46 : PySem.W.codeIn K cd46 "_law_other_lamps" = true) (k46 : PySem.W.keepIn K (.ref f46) = true)
    (a47 : PySem.W.nsIn K mainGlobals "law" = some (some (.ref f47))) (l47 : K.lookup f47 = some ⟨oc47, od47, .func (PySem.W.fnOf "law" "law" (defArgs s_law) (defBody s_law) (defScope s_law) .none kV47 dc47 pm47 an47 cd47 ct47), sl47⟩) (c47 : PySem.W.codeIn K cd47 "law" = true) (k47 : PySem.W.keepIn K (.ref f47) = true)
    (aW0 : PySem.W.nsIn K mainGlobals "allowed_lamps" = some (some (.ref fW0))) (lW0 : K.lookup fW0 = some ⟨ocW0, odW0, .func (PySem.W.fnOf "allowed_lamps" "allowed_lamps" (defArgs s_allowed_lamps) (defBody s_allowed_lamps) (defScope s_allowed_lamps) .none (.ref DW0) dcW0 pmW0 anW0 cdW0 ctW0), slW0⟩) (cW0 : PySem.W.codeIn K cdW0 "allowed_lamps" = true) (kW0 : PySem.W.keepIn K (.ref fW0) = true) (nW0 : PySem.W.nsIn K DW0 "careful" = some (some uW0)) (rW0 : uW0 = .bool false)
    (aW1 : PySem.W.nsIn K mainGlobals "after" = some (some (.ref fW1))) (lW1 : K.lookup fW1 = some ⟨ocW1, odW1, .func (PySem.W.fnOf "after" "after" (defArgs s_after) (defBody s_after) (defScope s_after) .none (.ref DW1) dcW1 pmW1 anW1 cdW1 ctW1), slW1⟩) (cW1 : PySem.W.codeIn K cdW1 "after" = true) (kW1 : PySem.W.keepIn K (.ref fW1) = true) (nW1 : PySem.W.nsIn K DW1 "careful" = some (some uW1)) (rW1 : uW1 = .bool false)
    (aW2 : PySem.W.nsIn K mainGlobals "before" = some (some (.ref fW2))) (lW2 : K.lookup fW2 = some ⟨ocW2, odW2, .func (PySem.W.fnOf "before" "before" (defArgs s_before) (defBody s_before) (defScope s_before) .none (.ref DW2) dcW2 pmW2 anW2 cdW2 ctW2), slW2⟩) (cW2 : PySem.W.codeIn K cdW2 "before" = true) (kW2 : PySem.W.keepIn K (.ref fW2) = true) (nW2 : PySem.W.nsIn K DW2 "careful" = some (some uW2)) (rW2 : uW2 = .bool false)
    (aW3 : PySem.W.nsIn K mainGlobals "is_allowed" = some (some (.ref fW3))) (lW3 : K.lookup fW3 = some ⟨ocW3, odW3, .func (PySem.W.fnOf "is_allowed" "is_allowed" (defArgs s_is_allowed) (defBody s_is_allowed) (defScope s_is_allowed) .none (.ref DW3) dcW3 pmW3 anW3 cdW3 ctW3), slW3⟩) (cW3 : PySem.W.codeIn K cdW3 "is_allowed" = true) (kW3 : PySem.W.keepIn K (.ref fW3) = true) (nW3 : PySem.W.nsIn K DW3 "careful" = some (some uW3)) (rW3 : uW3 = .bool false)
    (aM0 : PySem.W.findIn K (.ref C) "above" = some (some (.ref fM0))) (iM0 : PySem.W.isFn K (.ref fM0) = true) (lM0 : K.lookup fM0 = some ⟨ocM0, odM0, .func (PySem.W.fnOf "above" "House.above" (defArgs s_House_above) (defBody s_House_above) (defScope s_House_above) .none kVM0 dcM0 pmM0 anM0 cdM0 ctM0), slM0⟩) (cM0 : PySem.W.codeIn K cdM0 "House.above" = true) (kM0 : PySem.W.keepIn K (.ref fM0) = true)
    (aM1 : PySem.W.findIn K (.ref C) "beneath" = some (some (.ref fM1))) (iM1 : PySem.W.isFn K (.ref fM1) = true) (lM1 : K.lookup fM1 = some ⟨ocM1, odM1, .func (PySem.W.fnOf "beneath" "House.beneath" (defArgs s_House_beneath) (defBody s_House_beneath) (defScope s_House_beneath) .none kVM1 dcM1 pmM1 anM1 cdM1 ctM1), slM1⟩) (cM1 : PySem.W.codeIn K cdM1 "House.beneath" = true) (kM1 : PySem.W.keepIn K (.ref fM1) = true)
    (aI : PySem.W.findIn K (.ref C) "__init__" = some (some (.ref fI))) (iI : PySem.W.isFn K (.ref fI) = true) (lI : K.lookup fI = some ⟨ocI, odI, .func (PySem.W.fnOf "__init__" "House.__init__" (defArgs s_House___init__) (defBody s_House___init__) (defScope s_House___init__) (.ref T0) kVI dcI pmI anI cdI ctI), slI⟩) (cI : PySem.W.codeIn K cdI "House.__init__" = true) (kI : PySem.W.keepIn K (.ref fI) = true)
    (lT : K.lookup T0 = some ⟨ocT, odT, .seq #[.ref E0] nT, slT⟩) (lE : K.lookup E0 = some ⟨ocE, odE, .seq #[] nE, slE⟩) (eE : ocE = .type "tuple")
    (pg : PySem.W.plainGet K C Str.empty = true) (hd : PySem.W.hasDictIn K C = true) (po : PySem.W.plainOver K C = true) (sa : PySem.W.findIn K (.ref C) "__setattr__" = some (some (.builtin "object.__setattr__"))) (mk : PySem.W.makesIn K C = true) (kc : PySem.W.keepIn K (.ref C) = true)
    (nCount : PySem.W.findIn K (.ref C) "count" = some none)
    (nHues : PySem.W.findIn K (.ref C) "hues" = some none)
    (nBen : PySem.W.findIn K (.ref C) "_beneath" = some none)
    (nWires : PySem.W.findIn K (.ref C) "wires" = some none)
    (nAbove : PySem.W.findIn K (.ref C) "_above" = some none)
    (nDirect : PySem.W.findIn K (.ref C) "_direct" = some none)
    (nOrder : PySem.W.findIn K (.ref C) "_order" = some none)
    (rd : PySem.W.readsIn K C (.type "type") = true) (ga : PySem.W.specialIn K (.ref C) "__getattribute__" = some (some (.builtin "type.__getattribute__"))) (v1 : PySem.W.findCls K (.ref C) (.type "type") "MOST_LAMPS" = some (.val u1)) (r1 : ∃ t, u1 = .int 16 t) (v2 : PySem.W.findCls K (.ref C) (.type "type") "MOST_HUES" = some (.val u2)) (r2 : ∃ t, u2 = .int 10 t)
    (b_len : PySem.W.nsIn K mainGlobals "len" = some none)
    (b_range : PySem.W.nsIn K mainGlobals "range" = some none)
    (b_isinstance : PySem.W.nsIn K mainGlobals "isinstance" = some none)
    (b_int : PySem.W.nsIn K mainGlobals "int" = some none)
    (b_bool : PySem.W.nsIn K mainGlobals "bool" = some none)
    (b_tuple : PySem.W.nsIn K mainGlobals "tuple" = some none)
    (b_list : PySem.W.nsIn K mainGlobals "list" = some none)
    (b_set : PySem.W.nsIn K mainGlobals "set" = some none)
    (b_enumerate : PySem.W.nsIn K mainGlobals "enumerate" = some none)
    (b_sorted : PySem.W.nsIn K mainGlobals "sorted" = some none)
    (b_min : PySem.W.nsIn K mainGlobals "min" = some none)
    (b_all : PySem.W.nsIn K mainGlobals "all" = some none)
    (b_any : PySem.W.nsIn K mainGlobals "any" = some none)
    (b_abs : PySem.W.nsIn K mainGlobals "abs" = some none)
    (b_reversed : PySem.W.nsIn K mainGlobals "reversed" = some none)
    (b_max : PySem.W.nsIn K mainGlobals "max" = some none)
    (b_str : PySem.W.nsIn K mainGlobals "str" = some none)
    (b_repr : PySem.W.nsIn K mainGlobals "repr" = some none)
    (b_sum : PySem.W.nsIn K mainGlobals "sum" = some none)
    (b_ValueError : PySem.W.nsIn K mainGlobals "ValueError" = some none)
    (xaE : PySem.W.nsIn K mainGlobals "HuefallError" = some (some (.ref CE))) (xeE : PySem.W.subIn K (.ref CE) (.type "BaseException") = some true) (xiE : PySem.W.isClsIn K CE = true) (xtE : PySem.W.typeIn K (.ref CE) = some (.type "type")) (xa_CS : PySem.W.nsIn K mainGlobals "InvalidState" = some (some (.ref CS))) (xi_CS : PySem.W.isClsIn K CS = true) (xt_CS : PySem.W.typeIn K (.ref CS) = some (.type "type")) (xa_CL : PySem.W.nsIn K mainGlobals "InvalidLamp" = some (some (.ref CL))) (xi_CL : PySem.W.isClsIn K CL = true) (xt_CL : PySem.W.typeIn K (.ref CL) = some (.type "type")) (xlS : K.lookup CS = some (excClassObj nmLS qLS CS NLS bsLS [.ref CE, .type "ValueError", .type "Exception", .type "BaseException", .type "object"] true snLS subLS abLS colLS ddLS m0LS m1LS m2LS m3LS m5LS "ValueError.__new__")) (xsaS : PySem.W.findIn K (.ref CS) "__setattr__" = some (some (.builtin "object.__setattr__"))) (xgaS : PySem.W.findIn K (.ref CS) "__getattribute__" = some (some (.builtin "BaseException.__getattribute__"))) (xggS : PySem.W.findIn K (.ref CS) "__getattr__" = some none) (xcaS : PySem.W.findIn K (.ref CS) "__class__" = some (some (.builtin "object.__class__"))) (xnlS : PySem.W.findIn K (.ref CS) "state" = some none) (xinS : PySem.W.findIn K (.ref CS) "__init__" = some (some (.ref fXS))) (xtyS : PySem.W.typeIn K (.ref fXS) = some (.type "function")) (xlxS : K.lookup fXS = some ⟨ocXS, odXS, .func (PySem.W.fnOf "__init__" "InvalidState.__init__" (defArgs s_InvalidState___init__) (defBody s_InvalidState___init__) (defScope s_InvalidState___init__) .none kVXS dcXS pmXS anXS cdXS ctXS), slXS⟩) (xcxS : PySem.W.codeIn K cdXS "InvalidState.__init__" = true) (xkxS : PySem.W.keepIn K (.ref fXS) = true) (xkcS : PySem.W.keepIn K (.ref CS) = true) (xebS : PySem.W.subIn K (.ref CS) (.type "BaseException") = some true) (xhdS : PySem.W.hasDictIn K CS = true) (xmrS : PySem.W.mroIn K CS (.type "object") = some true) (xssS : PySem.W.subIn K (.ref CS) (.ref CS) = some true) (xseS : PySem.W.subIn K (.ref CS) (.ref CE) = some true) (xsS0 : PySem.W.subIn K (.ref CS) (.ref CL) = some false) (xlL : K.lookup CL = some (excClassObj nmLL qLL CL NLL bsLL [.ref CE, .type "ValueError", .type "Exception", .type "BaseException", .type "object"] true snLL subLL abLL colLL ddLL m0LL m1LL m2LL m3LL m5LL "ValueError.__new__")) (xsaL : PySem.W.findIn K (.ref CL) "__setattr__" = some (some (.builtin "object.__setattr__"))) (xgaL : PySem.W.findIn K (.ref CL) "__getattribute__" = some (some (.builtin "BaseException.__getattribute__"))) (xggL : PySem.W.findIn K (.ref CL) "__getattr__" = some none) (xcaL : PySem.W.findIn K (.ref CL) "__class__" = some (some (.builtin "object.__class__"))) (xnlL : PySem.W.findIn K (.ref CL) "lamp" = some none) (xinL : PySem.W.findIn K (.ref CL) "__init__" = some (some (.ref fXL))) (xtyL : PySem.W.typeIn K (.ref fXL) = some (.type "function")) (xlxL : K.lookup fXL = some ⟨ocXL, odXL, .func (PySem.W.fnOf "__init__" "InvalidLamp.__init__" (defArgs s_InvalidLamp___init__) (defBody s_InvalidLamp___init__) (defScope s_InvalidLamp___init__) .none kVXL dcXL pmXL anXL cdXL ctXL), slXL⟩) (xcxL : PySem.W.codeIn K cdXL "InvalidLamp.__init__" = true) (xkxL : PySem.W.keepIn K (.ref fXL) = true) (xkcL : PySem.W.keepIn K (.ref CL) = true) (xebL : PySem.W.subIn K (.ref CL) (.type "BaseException") = some true) (xhdL : PySem.W.hasDictIn K CL = true) (xmrL : PySem.W.mroIn K CL (.type "object") = some true) (xssL : PySem.W.subIn K (.ref CL) (.ref CL) = some true) (xseL : PySem.W.subIn K (.ref CL) (.ref CE) = some true) (xgs : PySem.W.specialIn K (.builtin "object.__class__") "__get__" = some (some (.builtin "getset_descriptor.__get__"))) (xtk : PySem.W.takesIn K (.builtin "object.__class__") = some true)
    : ∃ fd : FuncData, (∀ (s : Shared) (v : Value), BindsTo s fd ⟨[v], []⟩ [("script", v)]) ∧ ∀ base : Heap, K.In base → base.Ns mainGlobals mg → GOk l.prog w K mg base CX0 14 fa fd ["script"] (spLaw K) := by
  have e := hfa.symm.trans (PySem.W.mg_of X G a47)
  cases e
  have T : Txt K mg C := { cl := ⟨pg, hd, po, sa⟩, nCount := nCount, nHues := nHues, nBen := nBen, nWires := nWires, nAbove := nAbove, nDirect := nDirect, nOrder := nOrder, mgC := PySem.W.mg_of X G aC, con := ⟨.type "type", ⟨rd, ga⟩, ⟨u1, v1, r1⟩, ⟨u2, v2, r2⟩⟩, len := PySem.W.mg_none_of X G b_len, range := PySem.W.mg_none_of X G b_range, isinstance := PySem.W.mg_none_of X G b_isinstance, int := PySem.W.mg_none_of X G b_int, bool := PySem.W.mg_none_of X G b_bool, tuple := PySem.W.mg_none_of X G b_tuple, list := PySem.W.mg_none_of X G b_list, set := PySem.W.mg_none_of X G b_set, enumerate := PySem.W.mg_none_of X G b_enumerate, sorted := PySem.W.mg_none_of X G b_sorted, min := PySem.W.mg_none_of X G b_min, all := PySem.W.mg_none_of X G b_all, any := PySem.W.mg_none_of X G b_any, abs := PySem.W.mg_none_of X G b_abs, reversed := PySem.W.mg_none_of X G b_reversed, max := PySem.W.mg_none_of X G b_max, str := PySem.W.mg_none_of X G b_str, repr := PySem.W.mg_none_of X G b_repr, sum := PySem.W.mg_none_of X G b_sum, ValueError := PySem.W.mg_none_of X G b_ValueError }
  refine ⟨PySem.W.fnOf "law" "law" (defArgs s_law) (defBody s_law) (defScope s_law) .none kV47 dc47 pm47 an47 cd47 ct47, fun s v => .of_eq rfl, fun base _ _ => ?_⟩
  have XCS : XCls K CS := ⟨⟨⟨_, _, _, _, _, _, _, _, _, _, _, _, _, _, _, xlS, by rfl⟩, xsaS, xebS, xt_CS, xkcS⟩, ⟨xgaS, xggS, xebS, xhdS⟩, xcaS, xmrS⟩
  have F_xS : Fun K "__init__" "InvalidState.__init__" s_InvalidState___init__ fXS _ := fun_mk (st := s_InvalidState___init__) xlxS xcxS xkxS
  have M_state : XMk l.prog w K mg base CS "InvalidState" "state" := ⟨⟨_, _, _, ok_InvalidState F_xS, F_xS.binds fun _ _ _ _ _ _ us hl => match us, hl with | [_, _], _ => rfl, xinS, xtyS⟩, PySem.W.mg_of X G xa_CS, XCS, xnlS⟩
  have XCL : XCls K CL := ⟨⟨⟨_, _, _, _, _, _, _, _, _, _, _, _, _, _, _, xlL, by rfl⟩, xsaL, xebL, xt_CL, xkcL⟩, ⟨xgaL, xggL, xebL, xhdL⟩, xcaL, xmrL⟩
  have F_xL : Fun K "__init__" "InvalidLamp.__init__" s_InvalidLamp___init__ fXL _ := fun_mk (st := s_InvalidLamp___init__) xlxL xcxL xkxL
  have M_lamp : XMk l.prog w K mg base CL "InvalidLamp" "lamp" := ⟨⟨_, _, _, ok_InvalidLamp F_xL, F_xL.binds fun _ _ _ _ _ _ us hl => match us, hl with | [_, _], _ => rfl, xinL, xtyL⟩, PySem.W.mg_of X G xa_CL, XCL, xnlL⟩
  have TES : TxLS K mg CS CL := ⟨PySem.W.mg_of X G xa_CS, PySem.W.mg_of X G xa_CL, XCS, XCL, exm_of xebS xi_CS xt_CS xssS, exm_of xebL xi_CL xt_CL xssL, exm_of xebL xi_CL xt_CL xsS0, xnlS, xnlL⟩
  have F_is_whole := fun_mk (st := s_is_whole) l0 c0 k0
  have c_is_whole : Cal l.prog w K mg base "is_whole" 1 spWholeV := ⟨⟨_, _, _, ok_is_whole T F_is_whole, PySem.W.mg_of X G a0, k0, F_is_whole.binds fun _ _ _ _ _ _ us hl => match us, hl with | [_], _ => rfl⟩⟩
  have F_is_whole_in := fun_mk (st := s_is_whole_in) l1 c1 k1
  have c_is_whole_in : Cal l.prog w K mg base "is_whole_in" 2 spWholeInV := ⟨⟨_, _, _, ok_is_whole_in T F_is_whole_in c_is_whole, PySem.W.mg_of X G a1, k1, F_is_whole_in.binds fun _ _ _ _ _ _ us hl => match us, hl with | [_, _, _], _ => rfl⟩⟩
  have c_int : Cal l.prog w K mg base "is_whole_in" 2 spWholeIn := c_is_whole_in.imp whole_in_int
  have F_check_count := fun_mk (st := s_check_count) l2 c2 k2
  have c_check_count : Cal l.prog w K mg base "check_count" 3 spCheckCount := ⟨⟨_, _, _, ok_check_count T F_check_count c_int, PySem.W.mg_of X G a2, k2, F_check_count.binds fun _ _ _ _ _ _ us hl => match us, hl with | [_], _ => rfl⟩⟩
  have F_check_hues := fun_mk (st := s_check_hues) l3 c3 k3
  have c_check_hues : Cal l.prog w K mg base "check_hues" 3 spCheckHues := ⟨⟨_, _, _, ok_check_hues T F_check_hues c_int, PySem.W.mg_of X G a3, k3, F_check_hues.binds fun _ _ _ _ _ _ us hl => match us, hl with | [_], _ => rfl⟩⟩
  have F_is_wire := fun_mk (st := s_is_wire) l4 c4 k4
  have c_is_wire : Cal l.prog w K mg base "is_wire" 3 spIsWire := ⟨⟨_, _, _, ok_is_wire T F_is_wire c_int, PySem.W.mg_of X G a4, k4, F_is_wire.binds fun _ _ _ _ _ _ us hl => match us, hl with | [_, _], _ => rfl⟩⟩
  have F_with_wire := fun_mk (st := s_with_wire) l5 c5 k5
  have c_with_wire : Cal l.prog w K mg base "with_wire" 1 spWithWire := ⟨⟨_, _, _, ok_with_wire T F_with_wire, PySem.W.mg_of X G a5, k5, F_with_wire.binds fun _ _ _ _ _ _ us hl => match us, hl with | [_, _, _], _ => rfl⟩⟩
  have F_lamps_beneath := fun_mk (st := s_lamps_beneath) l6 c6 k6
  have c_lamps_beneath : Cal l.prog w K mg base "lamps_beneath" 4 (spLampsBeneath K) := ⟨⟨_, _, _, ok_lamps_beneath T F_lamps_beneath c_is_wire c_with_wire, PySem.W.mg_of X G a6, k6, F_lamps_beneath.binds fun _ _ _ _ _ _ us hl => match us, hl with | [_, _], _ => rfl⟩⟩
  have F_is_next := fun_mk (st := s_is_next) l7 c7 k7
  have c_is_next : Cal l.prog w K mg base "is_next" 1 spIsNext := ⟨⟨_, _, _, ok_is_next T F_is_next, PySem.W.mg_of X G a7, k7, F_is_next.binds fun _ _ _ _ _ _ us hl => match us, hl with | [_, _, _], _ => rfl⟩⟩
  have F_order_list := fun_mk (st := s_order_list) l8 c8 k8
  have c_order_list : Cal l.prog w K mg base "order_list" 2 spOrderList := ⟨⟨_, _, _, ok_order_list T F_order_list c_is_next, PySem.W.mg_of X G a8, k8, F_order_list.binds fun _ _ _ _ _ _ us hl => match us, hl with | [_], _ => rfl⟩⟩
  have F_is_lamp := fun_mk (st := s_is_lamp) l9 c9 k9
  have c_is_lamp : Cal l.prog w K mg base "is_lamp" 3 (spIsLampV C) := ⟨⟨_, _, _, ok_is_lamp T F_is_lamp c_is_whole_in, PySem.W.mg_of X G a9, k9, F_is_lamp.binds fun _ _ _ _ _ _ us hl => match us, hl with | [_, _], _ => rfl⟩⟩
  have F_check_lamp := fun_mk (st := s_check_lamp) l10 c10 k10
  have c_check_lamp : CalX l.prog w K mg base "check_lamp" 4 (spCheckLampX C CL) := ⟨⟨_, _, _, ok_check_lamp T M_lamp F_check_lamp c_is_lamp, PySem.W.mg_of X G a10, k10, F_check_lamp.binds fun _ _ _ _ _ _ us hl => match us, hl with | [_, _], _ => rfl⟩⟩
  have n_check_lamp : Cal l.prog w K mg base "check_lamp" 4 (spCheckLamp C) := c_check_lamp.calm fun vs H Q E h => check_int vs H Q E h
  have F_is_state := fun_mk (st := s_is_state) l11 c11 k11
  have c_is_state : Cal l.prog w K mg base "is_state" 3 (spIsStateV C) := ⟨⟨_, _, _, ok_is_state T F_is_state c_is_whole_in, PySem.W.mg_of X G a11, k11, F_is_state.binds fun _ _ _ _ _ _ us hl => match us, hl with | [_, _], _ => rfl⟩⟩
  have F_check_state := fun_mk (st := s_check_state) l12 c12 k12
  have c_check_state : CalX l.prog w K mg base "check_state" 4 (spCheckStateX C CS) := ⟨⟨_, _, _, ok_check_state T M_state F_check_state c_is_state, PySem.W.mg_of X G a12, k12, F_check_state.binds fun _ _ _ _ _ _ us hl => match us, hl with | [_, _], _ => rfl⟩⟩
  have n_check_state : Cal l.prog w K mg base "check_state" 4 (spCheckState C) := c_check_state.calm fun vs H Q E h => check_st vs H Q E h
  have F_beneath := fun_mk (st := s_House_beneath) lM1 cM1 kM1
  have M_beneath : MCalX l.prog w K mg base C "beneath" 5 (spBeneathX C CL) := ⟨⟨_, _, _, ok_beneath T F_beneath c_check_lamp, ⟨aM1, iM1, kM1⟩, F_beneath.binds fun _ _ _ _ _ _ us hl => match us, hl with | [_, _], _ => rfl⟩⟩
  have M_beneathN : MCal l.prog w K mg base C "beneath" 5 (spBeneath C) := M_beneath.calm fun vs H Q E h => beneath_n vs H Q E h
  have F_first_lit_beneath := fun_mk (st := s_first_lit_beneath) l13 c13 k13
  have c_first_lit_beneath : Cal l.prog w K mg base "first_lit_beneath" 6 (spFirstLit C) := ⟨⟨_, _, _, ok_first_lit_beneath T F_first_lit_beneath M_beneathN, PySem.W.mg_of X G a13, k13, F_first_lit_beneath.binds fun _ _ _ _ _ _ us hl => match us, hl with | [_, _, _], _ => rfl⟩⟩
  have F_can_move := fun_mk (st := s_can_move) l14 c14 k14
  have c_can_move : Cal l.prog w K mg base "can_move" 7 (spCanMove C) := ⟨⟨_, _, _, ok_can_move T F_can_move c_first_lit_beneath, PySem.W.mg_of X G a14, k14, F_can_move.binds fun _ _ _ _ _ _ us hl => match us, hl with | [_, _, _, _], _ => rfl⟩⟩
  have F_turned := fun_mk (st := s_turned) l15 c15 k15
  have c_turned : Cal l.prog w K mg base "turned" 1 (spTurned C) := ⟨⟨_, _, _, ok_turned T F_turned, PySem.W.mg_of X G a15, k15, F_turned.binds fun _ _ _ _ _ _ us hl => match us, hl with | [_, _, _, _], _ => rfl⟩⟩
  have F_moved := fun_mk (st := s_moved) l16 c16 k16
  have c_moved : Cal l.prog w K mg base "moved" 7 (spMovedP C) := ⟨⟨_, _, _, ok_moved T F_moved c_first_lit_beneath c_turned M_beneathN, PySem.W.mg_of X G a16, k16, F_moved.binds fun _ _ _ _ _ _ us hl => match us, hl with | [_, _, _, _, _], _ => rfl⟩⟩
  have F_allowed_lamps : FunV K "allowed_lamps" "allowed_lamps" s_allowed_lamps fW0 _ := ⟨⟨_, _, _, _, _, _, _, _, _, _, rfl, lW0, cW0⟩, kW0⟩
  have x_allowed_lamps : KwCalX l.prog w K mg base "allowed_lamps" 8 2 "careful" (spAllowedX C CS) := ⟨⟨_, _, _, ok_allowed_lamps T F_allowed_lamps c_check_state c_can_move, PySem.W.mg_of X G aW0, kW0, ⟨[uW0], .cons (by rw [rW0]; rfl) .nil, kw_allowed_lamps nW0⟩, kk_allowed_lamps⟩⟩
  have F_lowest_lit := fun_mk (st := s_lowest_lit) l17 c17 k17
  have x_lowest_lit : CalX l.prog w K mg base "lowest_lit" 9 (spLowX C CS) := ⟨⟨_, _, _, ok_lowest_lit T F_lowest_lit x_allowed_lamps, PySem.W.mg_of X G a17, k17, F_lowest_lit.binds fun _ _ _ _ _ _ us hl => match us, hl with | [_, _], _ => rfl⟩⟩
  have c_lowest_lit : Cal l.prog w K mg base "lowest_lit" 9 (spLowS C) := x_lowest_lit.calm fun vs H Q E h => low_st vs H Q E h
  have c_allowed_lamps : KwCal l.prog w K mg base "allowed_lamps" 8 2 "careful" (spAllowedS C) := x_allowed_lamps.calm fun vs H Q E h => allowed_st vs H Q E h
  have F_lowered_at := fun_mk (st := s_lowered_at) l18 c18 k18
  have c_lowered_at : Cal l.prog w K mg base "lowered_at" 6 (spLowAt C) := ⟨⟨_, _, _, ok_lowered_at T F_lowered_at M_beneathN, PySem.W.mg_of X G a18, k18, F_lowered_at.binds fun _ _ _ _ _ _ us hl => match us, hl with | [_, _, _], _ => rfl⟩⟩
  have F_lowered := fun_mk (st := s_lowered) l19 c19 k19
  have x_lowered : CalX l.prog w K mg base "lowered" 10 (spLoweredX C CL CS) := ⟨⟨_, _, _, ok_lowered T M_lamp F_lowered x_lowest_lit c_is_lamp c_lowered_at, PySem.W.mg_of X G a19, k19, F_lowered.binds fun _ _ _ _ _ _ us hl => match us, hl with | [_, _, _], _ => rfl⟩⟩
  have c_lowered : Cal l.prog w K mg base "lowered" 10 (spLoweredS C) := x_lowered.calm fun vs H Q E h => lowered_st vs H Q E h
  have F_above := fun_mk (st := s_House_above) lM0 cM0 kM0
  have M_above : MCalX l.prog w K mg base C "above" 5 (spAboveX C CL) := ⟨⟨_, _, _, ok_above T F_above c_check_lamp, ⟨aM0, iM0, kM0⟩, F_above.binds fun _ _ _ _ _ _ us hl => match us, hl with | [_, _], _ => rfl⟩⟩
  have M_aboveN : MCal l.prog w K mg base C "above" 5 (spAbove C) := M_above.calm fun vs H Q E h => above_n vs H Q E h
  have F_pieces := fun_mk (st := s_pieces) l20 c20 k20
  have x_pieces : CalX l.prog w K mg base "pieces" 10 (spPiecesX C CS) := ⟨⟨_, _, _, ok_pieces T F_pieces x_lowest_lit M_aboveN, PySem.W.mg_of X G a20, k20, F_pieces.binds fun _ _ _ _ _ _ us hl => match us, hl with | [_, _], _ => rfl⟩⟩
  have c_pieces : Cal l.prog w K mg base "pieces" 10 (spPiecesS C) := x_pieces.calm fun vs H Q E h => pieces_st vs H Q E h
  have F_is_single := fun_mk (st := s_is_single) l21 c21 k21
  have x_is_single : CalX l.prog w K mg base "is_single" 10 (spSingleX C CS) := ⟨⟨_, _, _, ok_is_single T F_is_single x_lowest_lit, PySem.W.mg_of X G a21, k21, F_is_single.binds fun _ _ _ _ _ _ us hl => match us, hl with | [_, _], _ => rfl⟩⟩
  have c_is_single : Cal l.prog w K mg base "is_single" 10 (spSingleS C) := x_is_single.calm fun vs H Q E h => single_st vs H Q E h
  have F_after : FunV K "after" "after" s_after fW1 _ := ⟨⟨_, _, _, _, _, _, _, _, _, _, rfl, lW1, cW1⟩, kW1⟩
  have c_after : KwCal l.prog w K mg base "after" 8 3 "careful" (spAfter C) := ⟨⟨_, _, _, ok_after T F_after n_check_state n_check_lamp c_moved, PySem.W.mg_of X G aW1, kW1, ⟨[uW1], .cons (by rw [rW1]; rfl) .nil, kw_after nW1⟩, kk_after⟩⟩
  have F_covered_by := fun_mk (st := s_covered_by) l22 c22 k22
  have x_covered_by : CalX l.prog w K mg base "covered_by" 9 (spCoveredX C CS) := ⟨⟨_, _, _, ok_covered_by T F_covered_by x_allowed_lamps c_after, PySem.W.mg_of X G a22, k22, F_covered_by.binds fun _ _ _ _ _ _ us hl => match us, hl with | [_, _], _ => rfl⟩⟩
  have c_covered_by : Cal l.prog w K mg base "covered_by" 9 (spCoveredS C) := x_covered_by.calm fun vs H Q E h => covered_st vs H Q E h
  have F_before : FunV K "before" "before" s_before fW2 _ := ⟨⟨_, _, _, _, _, _, _, _, _, _, rfl, lW2, cW2⟩, kW2⟩
  have c_before : KwCal l.prog w K mg base "before" 8 3 "careful" (spBefore C) := ⟨⟨_, _, _, ok_before T F_before n_check_state n_check_lamp c_turned M_beneathN, PySem.W.mg_of X G aW2, kW2, ⟨[uW2], .cons (by rw [rW2]; rfl) .nil, kw_before nW2⟩, kk_before⟩⟩
  have F_covers_of := fun_mk (st := s_covers_of) l23 c23 k23
  have x_covers_of : CalX l.prog w K mg base "covers_of" 9 (spCoversX C CS) := ⟨⟨_, _, _, ok_covers_of T F_covers_of c_check_state c_before, PySem.W.mg_of X G a23, k23, F_covers_of.binds fun _ _ _ _ _ _ us hl => match us, hl with | [_, _], _ => rfl⟩⟩
  have c_covers_of : Cal l.prog w K mg base "covers_of" 9 (spCoversS C) := x_covers_of.calm fun vs H Q E h => covers_st vs H Q E h
  have F_is_cover := fun_mk (st := s_is_cover) l24 c24 k24
  have x_is_cover : CalX l.prog w K mg base "is_cover" 10 (spIsCoverX C CS) := ⟨⟨_, _, _, ok_is_cover T F_is_cover c_check_state c_covered_by, PySem.W.mg_of X G a24, k24, F_is_cover.binds fun _ _ _ _ _ _ us hl => match us, hl with | [_, _, _], _ => rfl⟩⟩
  have c_is_cover : Cal l.prog w K mg base "is_cover" 10 (spIsCoverS C) := x_is_cover.calm fun vs H Q E h => cover_st vs H Q E h
  have F_init : FunV K "__init__" "House.__init__" s_House___init__ fI _ := ⟨⟨_, _, _, _, _, _, _, _, _, _, rfl, lI, cI⟩, kI⟩
  have i_ok := ok_init T F_init c_check_count c_check_hues c_lamps_beneath c_order_list
  have c_House : NCal l.prog w K mg base C "House" 5 (spInit K C) := ⟨⟨_, _, _, i_ok, ⟨mk, aI, iI, kc⟩, binds_init (E := 0) lT⟩, PySem.W.mg_of X G aC⟩
  have F__law_purse := fun_mk (st := s__law_purse) l25 c25 k25
  have c__law_purse : Cal l.prog w K mg base "_law_purse" 1 (spPurse K) := ⟨⟨_, _, _, ok__law_purse T F__law_purse, PySem.W.mg_of X G a25, k25, F__law_purse.binds fun _ _ _ _ _ _ us hl => match us, hl with | [_, _], _ => rfl⟩⟩
  have F__law_draw := fun_mk (st := s__law_draw) l26 c26 k26
  have c__law_draw : Cal l.prog w K mg base "_law_draw" 1 spDraw := ⟨⟨_, _, _, ok__law_draw T F__law_draw, PySem.W.mg_of X G a26, k26, F__law_draw.binds fun _ _ _ _ _ _ us hl => match us, hl with | [_, _], _ => rfl⟩⟩
  have F__law_wires := fun_mk (st := s__law_wires) l27 c27 k27
  have c__law_wires : Cal l.prog w K mg base "_law_wires" 2 spWires := ⟨⟨_, _, _, ok__law_wires T F__law_wires c__law_draw, PySem.W.mg_of X G a27, k27, F__law_wires.binds fun _ _ _ _ _ _ us hl => match us, hl with | [_, _], _ => rfl⟩⟩
  have F__law_pairs := fun_mk (st := s__law_pairs) l28 c28 k28
  have c__law_pairs : Cal l.prog w K mg base "_law_pairs" 1 spPairsL := ⟨⟨_, _, _, ok__law_pairs T F__law_pairs, PySem.W.mg_of X G a28, k28, F__law_pairs.binds fun _ _ _ _ _ _ us hl => match us, hl with | [_, _], _ => rfl⟩⟩
  have F__law_below := fun_mk (st := s__law_below) l29 c29 k29
  have c__law_below : Cal l.prog w K mg base "_law_below" 1 spBelow := ⟨⟨_, _, _, ok__law_below T F__law_below, PySem.W.mg_of X G a29, k29, F__law_below.binds fun _ _ _ _ _ _ us hl => match us, hl with | [_, _], _ => rfl⟩⟩
  have F__law_above := fun_mk (st := s__law_above) l30 c30 k30
  have c__law_above : Cal l.prog w K mg base "_law_above" 1 spAboveL := ⟨⟨_, _, _, ok__law_above T F__law_above, PySem.W.mg_of X G a30, k30, F__law_above.binds fun _ _ _ _ _ _ us hl => match us, hl with | [_], _ => rfl⟩⟩
  have F__law_state := fun_mk (st := s__law_state) l31 c31 k31
  have c__law_state : Cal l.prog w K mg base "_law_state" 2 spState := ⟨⟨_, _, _, ok__law_state T F__law_state c__law_draw, PySem.W.mg_of X G a31, k31, F__law_state.binds fun _ _ _ _ _ _ us hl => match us, hl with | [_, _, _], _ => rfl⟩⟩
  have F__law_after := fun_mk (st := s__law_after) l32 c32 k32
  have c__law_after : Cal l.prog w K mg base "_law_after" 1 spAfterL := ⟨⟨_, _, _, ok__law_after T F__law_after, PySem.W.mg_of X G a32, k32, F__law_after.binds fun _ _ _ _ _ _ us hl => match us, hl with | [_, _, _, _], _ => rfl⟩⟩
  have F__law_is_integer := fun_mk (st := s__law_is_integer) l33 c33 k33
  have c__law_is_integer : Cal l.prog w K mg base "_law_is_integer" 1 spIsInt := ⟨⟨_, _, _, ok__law_is_integer T F__law_is_integer, PySem.W.mg_of X G a33, k33, F__law_is_integer.binds fun _ _ _ _ _ _ us hl => match us, hl with | [_], _ => rfl⟩⟩
  have l__law_is_integer : CalL l.prog w K mg base "_law_is_integer" 1 spIsInt := ⟨⟨_, _, _, okL__law_is_integer T F__law_is_integer, PySem.W.mg_of X G a33, k33, F__law_is_integer.binds fun _ _ _ _ _ _ us hl => match us, hl with | [_], _ => rfl⟩⟩
  have F__law_truth := fun_mk (st := s__law_truth) l34 c34 k34
  have c__law_truth : Cal l.prog w K mg base "_law_truth" 1 spTruth := ⟨⟨_, _, _, ok__law_truth T F__law_truth, PySem.W.mg_of X G a34, k34, F__law_truth.binds fun _ _ _ _ _ _ us hl => match us, hl with | [_, _], _ => rfl⟩⟩
  have F__law_same := fun_mk (st := s__law_same) l35 c35 k35
  have c__law_same : Cal l.prog w K mg base "_law_same" 2 spSameN := ⟨⟨_, _, _, ok__law_same T F__law_same c__law_is_integer, PySem.W.mg_of X G a35, k35, F__law_same.binds fun _ _ _ _ _ _ us hl => match us, hl with | [_, _], _ => rfl⟩⟩
  have F__law_is := fun_mk (st := s__law_is) l36 c36 k36
  have c__law_is : Cal l.prog w K mg base "_law_is" 3 spIsT := ⟨⟨_, _, _, ok__law_is T F__law_is c__law_same, PySem.W.mg_of X G a36, k36, F__law_is.binds fun _ _ _ _ _ _ us hl => match us, hl with | [_, _], _ => rfl⟩⟩
  have F__law_same_pairs := fun_mk (st := s__law_same_pairs) l37 c37 k37
  have c__law_same_pairs : Cal l.prog w K mg base "_law_same_pairs" 4 spSamePrs := ⟨⟨_, _, _, ok__law_same_pairs T F__law_same_pairs c__law_is_integer c__law_is, PySem.W.mg_of X G a37, k37, F__law_same_pairs.binds fun _ _ _ _ _ _ us hl => match us, hl with | [_, _], _ => rfl⟩⟩
  have F__law_same_states := fun_mk (st := s__law_same_states) l38 c38 k38
  have c__law_same_states : Cal l.prog w K mg base "_law_same_states" 4 spSameSts := ⟨⟨_, _, _, ok__law_same_states T F__law_same_states c__law_is, PySem.W.mg_of X G a38, k38, F__law_same_states.binds fun _ _ _ _ _ _ us hl => match us, hl with | [_, _], _ => rfl⟩⟩
  have F__law_lowest := fun_mk (st := s__law_lowest) l39 c39 k39
  have c__law_lowest : Cal l.prog w K mg base "_law_lowest" 1 spLowest := ⟨⟨_, _, _, ok__law_lowest T F__law_lowest, PySem.W.mg_of X G a39, k39, F__law_lowest.binds fun _ _ _ _ _ _ us hl => match us, hl with | [_, _], _ => rfl⟩⟩
  have F__law_piece := fun_mk (st := s__law_piece) l40 c40 k40
  have c__law_piece : Cal l.prog w K mg base "_law_piece" 1 spPieceL := ⟨⟨_, _, _, ok__law_piece T F__law_piece, PySem.W.mg_of X G a40, k40, F__law_piece.binds fun _ _ _ _ _ _ us hl => match us, hl with | [_, _, _], _ => rfl⟩⟩
  have F__law_all_lowered := fun_mk (st := s__law_all_lowered) l41 c41 k41
  have c__law_all_lowered : Cal l.prog w K mg base "_law_all_lowered" 1 spAllLow := ⟨⟨_, _, _, ok__law_all_lowered T F__law_all_lowered, PySem.W.mg_of X G a41, k41, F__law_all_lowered.binds fun _ _ _ _ _ _ us hl => match us, hl with | [_, _, _, _], _ => rfl⟩⟩
  have F__law_covers_of := fun_mk (st := s__law_covers_of) l42 c42 k42
  have c__law_covers_of : Cal l.prog w K mg base "_law_covers_of" 1 spCovOfL := ⟨⟨_, _, _, ok__law_covers_of T F__law_covers_of, PySem.W.mg_of X G a42, k42, F__law_covers_of.binds fun _ _ _ _ _ _ us hl => match us, hl with | [_, _, _], _ => rfl⟩⟩
  have F__law_refuses := fun_mk (st := s__law_refuses) l43 c43 k43
  have c__law_refuses : Cal l.prog w K mg base "_law_refuses" 11 (spRefusesL C) := ⟨⟨_, _, _, ok__law_refuses T TES F__law_refuses x_lowered l__law_is_integer, PySem.W.mg_of X G a43, k43, F__law_refuses.binds fun _ _ _ _ _ _ us hl => match us, hl with | [_, _, _, _], _ => rfl⟩⟩
  have F__law_agree := fun_mk (st := s__law_agree) l44 c44 k44
  have c__law_agree : Cal l.prog w K mg base "_law_agree" 11 (spAgree C) := ⟨⟨_, _, _, ok__law_agree T F__law_agree c__law_lowest c__law_after c__law_piece c_lowest_lit c_allowed_lamps c_covered_by c_pieces c__law_same c__law_same_pairs c__law_same_states c_is_single c__law_truth, PySem.W.mg_of X G a44, k44, F__law_agree.binds fun _ _ _ _ _ _ us hl => match us, hl with | [_, _, _, _, _], _ => rfl⟩⟩
  have F__law_one_lamp := fun_mk (st := s__law_one_lamp) l45 c45 k45
  have c__law_one_lamp : Cal l.prog w K mg base "_law_one_lamp" 11 (spOneLamp C) := ⟨⟨_, _, _, ok__law_one_lamp T F__law_one_lamp c__law_after c_lowered c__law_is c_is_cover c_covers_of c__law_covers_of c__law_same_pairs c__law_piece c_lowest_lit c__law_same c_is_single c_covered_by, PySem.W.mg_of X G a45, k45, F__law_one_lamp.binds fun _ _ _ _ _ _ us hl => match us, hl with | [_, _, _, _, _, _], _ => rfl⟩⟩
  have F_is_allowed : FunV K "is_allowed" "is_allowed" s_is_allowed fW3 _ := ⟨⟨_, _, _, _, _, _, _, _, _, _, rfl, lW3, cW3⟩, kW3⟩
  have c_is_allowed : KwCal l.prog w K mg base "is_allowed" 8 3 "careful" (spIsAllowed C) := ⟨⟨_, _, _, ok_is_allowed T F_is_allowed n_check_state n_check_lamp c_can_move, PySem.W.mg_of X G aW3, kW3, ⟨[uW3], .cons (by rw [rW3]; rfl) .nil, kw_is_allowed nW3⟩, kk_is_allowed⟩⟩
  have F__law_other_lamps := fun_mk (st := s__law_other_lamps) l46 c46 k46
  have c__law_other_lamps : Cal l.prog w K mg base "_law_other_lamps" 12 (spOtherLamps C) := ⟨⟨_, _, _, ok__law_other_lamps T F__law_other_lamps c__law_all_lowered c_lowered c__law_is c__law_truth c_is_cover c_is_allowed c__law_after c__law_refuses, PySem.W.mg_of X G a46, k46, F__law_other_lamps.binds fun _ _ _ _ _ _ us hl => match us, hl with | [_, _, _, _, _, _], _ => rfl⟩⟩
  exact ok_law T (fun_mk (st := s_law) l47 c47 k47) c__law_purse c__law_draw c__law_wires c__law_below c__law_above c__law_pairs c_House c__law_state c__law_lowest c__law_agree c__law_other_lamps c__law_one_lamp c__law_after
theorem walk {l : PySem.W.OpenLaw} {q : Program} {loose : List Str} {XP : (Str → Option Value) → Heap → Prop} {YP : World → Heap → Prop} {d : DefRec} {K : Params → PySem.W.Frag} (hn : l.most = some 63) (hdf : d.params.defaults = [])
    (hY : ∀ (w : World) (h : Heap), YP w h → (K w.params).In h)
    (F : ∀ (w : World) (mg : Str → Option Value) (fa : Addr) (h : Heap), (K w.params).In h → h.Ns mainGlobals mg → mg d.name = some (.ref fa) →
      ∃ fd : FuncData, (∀ (s : Shared) (u : Value), BindsTo s fd ⟨[u], []⟩ [("script", u)]) ∧ ∀ base : Heap, (K w.params).In base → base.Ns mainGlobals mg → GOk l.prog w (K w.params) mg base CX0 14 fa fd ["script"] (spLaw (K w.params))) :
    PySem.W.WalkO q loose XP YP l.row.toRowW d [] (fun f vs => PySem.call f vs) :=
  L2.walk_ofG (n := 63) (k := 14) (x := "script") (sp := fun w => spLaw (K w.params)) hn (by decide) hdf ⟨rfl, by decide, by decide⟩ hY F (fun _ _ a ns hl _ hS => ⟨a, ns, rfl, hS, hl, fun _ => rfl⟩)
end Hue

end
section


open PySem PySem.W PyProof.Rows in
set_option maxRecDepth 100000 in
set_option maxHeartbeats 0 in
theorem PySem.Challenge.cw_huefall_k82_lowest_lit_lamps_agree_holds : PySem.Challenge.rw_huefall_k82_lowest_lit_lamps_agree.Holds := by
  w_on; o_law; k_head; (case hw => w_witness2)
  k_fill
  refine Hue.walk (l := PySem.Challenge.rw_huefall_k82_lowest_lit_lamps_agree) rfl rfl (fun w h Y => PySem.W.kIn_of Y) ?F
  case F =>
    intro w mg fa h KX G hmg
    refine' Hue.all_mk KX G hmg ?aC ?a0 ?l0 ?c0 ?k0 ?a1 ?l1 ?c1 ?k1 ?a2 ?l2 ?c2 ?k2 ?a3 ?l3 ?c3 ?k3 ?a4 ?l4 ?c4 ?k4 ?a5 ?l5 ?c5 ?k5 ?a6 ?l6 ?c6 ?k6 ?a7 ?l7 ?c7 ?k7 ?a8 ?l8 ?c8 ?k8 ?a9 ?l9 ?c9 ?k9 ?a10 ?l10 ?c10 ?k10 ?a11 ?l11 ?c11 ?k11 ?a12 ?l12 ?c12 ?k12 ?a13 ?l13 ?c13 ?k13 ?a14 ?l14 ?c14 ?k14 ?a15 ?l15 ?c15 ?k15 ?a16 ?l16 ?c16 ?k16 ?a17 ?l17 ?c17 ?k17 ?a18 ?l18 ?c18 ?k18 ?a19 ?l19 ?c19 ?k19 ?a20 ?l20 ?c20 ?k20 ?a21 ?l21 ?c21 ?k21 ?a22 ?l22 ?c22 ?k22 ?a23 ?l23 ?c23 ?k23 ?a24 ?l24 ?c24 ?k24 ?a25 ?l25 ?c25 ?k25 ?a26 ?l26 ?c26 ?k26 ?a27 ?l27 ?c27 ?k27 ?a28 ?l28 ?c28 ?k28 ?a29 ?l29 ?c29 ?k29 ?a30 ?l30 ?c30 ?k30 ?a31 ?l31 ?c31 ?k31 ?a32 ?l32 ?c32 ?k32 ?a33 ?l33 ?c33 ?k33 ?a34 ?l34 ?c34 ?k34 ?a35 ?l35 ?c35 ?k35 ?a36 ?l36 ?c36 ?k36 ?a37 ?l37 ?c37 ?k37 ?a38 ?l38 ?c38 ?k38 ?a39 ?l39 ?c39 ?k39 ?a40 ?l40 ?c40 ?k40 ?a41 ?l41 ?c41 ?k41 ?a42 ?l42 ?c42 ?k42 ?a43 ?l43 ?c43 ?k43 ?a44 ?l44 ?c44 ?k44 ?a45 ?l45 ?c45 ?k45 ?a46 ?l46 ?c46 ?k46 ?a47 ?l47 ?c47 ?k47 ?aW0 ?lW0 ?cW0 ?kW0 ?nW0 ?rW0 ?aW1 ?lW1 ?cW1 ?kW1 ?nW1 ?rW1 ?aW2 ?lW2 ?cW2 ?kW2 ?nW2 ?rW2 ?aW3 ?lW3 ?cW3 ?kW3 ?nW3 ?rW3 ?aM0 ?iM0 ?lM0 ?cM0 ?kM0 ?aM1 ?iM1 ?lM1 ?cM1 ?kM1 ?aI ?iI ?lI ?cI ?kI ?lT ?lE ?eE ?pg ?hd ?po ?sa ?mk ?kc ?nCount ?nHues ?nBen ?nWires ?nAbove ?nDirect ?nOrder ?rd ?ga ?v1 ?r1 ?v2 ?r2 ?b_len ?b_range ?b_isinstance ?b_int ?b_bool ?b_tuple ?b_list ?b_set ?b_enumerate ?b_sorted ?b_min ?b_all ?b_any ?b_abs ?b_reversed ?b_max ?b_str ?b_repr ?b_sum ?b_ValueError ?xaE ?xeE ?xiE ?xtE ?xa_CS ?xi_CS ?xt_CS ?xa_CL ?xi_CL ?xt_CL ?xlS ?xsaS ?xgaS ?xggS ?xcaS ?xnlS ?xinS ?xtyS ?xlxS ?xcxS ?xkxS ?xkcS ?xebS ?xhdS ?xmrS ?xssS ?xseS ?xsS0 ?xlL ?xsaL ?xgaL ?xggL ?xcaL ?xnlL ?xinL ?xtyL ?xlxL ?xcxL ?xkxL ?xkcL ?xebL ?xhdL ?xmrL ?xssL ?xseL ?xgs ?xtk
    (case aC => k_is)
    (case a0 => k_is)
    (case l0 => k_is)
    (case c0 => k_is)
    (case k0 => k_is)
    (case a1 => k_is)
    (case l1 => k_is)
    (case c1 => k_is)
    (case k1 => k_is)
    (case a2 => k_is)
    (case l2 => k_is)
    (case c2 => k_is)
    (case k2 => k_is)
    (case a3 => k_is)
    (case l3 => k_is)
    (case c3 => k_is)
    (case k3 => k_is)
    (case a4 => k_is)
    (case l4 => k_is)
    (case c4 => k_is)
    (case k4 => k_is)
    (case a5 => k_is)
    (case l5 => k_is)
    (case c5 => k_is)
    (case k5 => k_is)
    (case a6 => k_is)
    (case l6 => k_is)
    (case c6 => k_is)
    (case k6 => k_is)
    (case a7 => k_is)
    (case l7 => k_is)
    (case c7 => k_is)
    (case k7 => k_is)
    (case a8 => k_is)
    (case l8 => k_is)
    (case c8 => k_is)
    (case k8 => k_is)
    (case a9 => k_is)
    (case l9 => k_is)
    (case c9 => k_is)
    (case k9 => k_is)
    (case a10 => k_is)
    (case l10 => k_is)
    (case c10 => k_is)
    (case k10 => k_is)
    (case a11 => k_is)
    (case l11 => k_is)
    (case c11 => k_is)
    (case k11 => k_is)
    (case a12 => k_is)
    (case l12 => k_is)
    (case c12 => k_is)
    (case k12 => k_is)
    (case a13 => k_is)
    (case l13 => k_is)
    (case c13 => k_is)
    (case k13 => k_is)
    (case a14 => k_is)
    (case l14 => k_is)
    (case c14 => k_is)
    (case k14 => k_is)
    (case a15 => k_is)
    (case l15 => k_is)
    (case c15 => k_is)
    (case k15 => k_is)
    (case a16 => k_is)
    (case l16 => k_is)
    (case c16 => k_is)
    (case k16 => k_is)
    (case a17 => k_is)
    (case l17 => k_is)
    (case c17 => k_is)
    (case k17 => k_is)
    (case a18 => k_is)
    (case l18 => k_is)
    (case c18 => k_is)
    (case k18 => k_is)
    (case a19 => k_is)
    (case l19 => k_is)
    (case c19 => k_is)
    (case k19 => k_is)
    (case a20 => k_is)
    (case l20 => k_is)
    (case c20 => k_is)
    (case k20 => k_is)
    (case a21 => k_is)
    (case l21 => k_is)
    (case c21 => k_is)
    (case k21 => k_is)
    (case a22 => k_is)
    (case l22 => k_is)
    (case c22 => k_is)
    (case k22 => k_is)
    (case a23 => k_is)
    (case l23 => k_is)
    (case c23 => k_is)
    (case k23 => k_is)
    (case a24 => k_is)
    (case l24 => k_is)
    (case c24 => k_is)
    (case k24 => k_is)
    (case a25 => k_is)
    (case l25 => k_is)
    (case c25 => k_is)
    (case k25 => k_is)
    (case a26 => k_is)
    (case l26 => k_is)
    (case c26 => k_is)
    (case k26 => k_is)
    (case a27 => k_is)
    (case l27 => k_is)
    (case c27 => k_is)
    (case k27 => k_is)
    (case a28 => k_is)
    (case l28 => k_is)
    (case c28 => k_is)
    (case k28 => k_is)
    (case a29 => k_is)
    (case l29 => k_is)
    (case c29 => k_is)
    (case k29 => k_is)
    (case a30 => k_is)
    (case l30 => k_is)
    (case c30 => k_is)
    (case k30 => k_is)
    (case a31 => k_is)
    (case l31 => k_is)
    (case c31 => k_is)
    (case k31 => k_is)
    (case a32 => k_is)
    (case l32 => k_is)
    (case c32 => k_is)
    (case k32 => k_is)
    (case a33 => k_is)
    (case l33 => k_is)
    (case c33 => k_is)
    (case k33 => k_is)
    (case a34 => k_is)
    (case l34 => k_is)
    (case c34 => k_is)
    (case k34 => k_is)
    (case a35 => k_is)
    (case l35 => k_is)
    (case c35 => k_is)
    (case k35 => k_is)
    (case a36 => k_is)
    (case l36 => k_is)
    (case c36 => k_is)
    (case k36 => k_is)
    (case a37 => k_is)
    (case l37 => k_is)
    (case c37 => k_is)
    (case k37 => k_is)
    (case a38 => k_is)
    (case l38 => k_is)
    (case c38 => k_is)
    (case k38 => k_is)
    (case a39 => k_is)
    (case l39 => k_is)
    (case c39 => k_is)
    (case k39 => k_is)
    (case a40 => k_is)
    (case l40 => k_is)
    (case c40 => k_is)
    (case k40 => k_is)
    (case a41 => k_is)
    (case l41 => k_is)
    (case c41 => k_is)
    (case k41 => k_is)
    (case a42 => k_is)
    (case l42 => k_is)
    (case c42 => k_is)
    (case k42 => k_is)
    (case a43 => k_is)
    (case l43 => k_is)
    (case c43 => k_is)
    (case k43 => k_is)
    (case a44 => k_is)
    (case l44 => k_is)
    (case c44 => k_is)
    (case k44 => k_is)
    (case a45 => k_is)
    (case l45 => k_is)
    (case c45 => k_is)
    (case k45 => k_is)
    (case a46 => k_is)
    (case l46 => k_is)
    (case c46 => k_is)
    (case k46 => k_is)
    (case a47 => k_is)
    (case l47 => k_is)
    (case c47 => k_is)
    (case k47 => k_is)
    (case aW0 => k_is)
    (case lW0 => k_is)
    (case cW0 => k_is)
    (case kW0 => k_is)
    (case nW0 => k_is)
    (case rW0 => rfl)
    (case aW1 => k_is)
    (case lW1 => k_is)
    (case cW1 => k_is)
    (case kW1 => k_is)
    (case nW1 => k_is)
    (case rW1 => rfl)
    (case aW2 => k_is)
    (case lW2 => k_is)
    (case cW2 => k_is)
    (case kW2 => k_is)
    (case nW2 => k_is)
    (case rW2 => rfl)
    (case aW3 => k_is)
    (case lW3 => k_is)
    (case cW3 => k_is)
    (case kW3 => k_is)
    (case nW3 => k_is)
    (case rW3 => rfl)
    (case aM0 => k_is)
    (case iM0 => k_is)
    (case lM0 => k_is)
    (case cM0 => k_is)
    (case kM0 => k_is)
    (case aM1 => k_is)
    (case iM1 => k_is)
    (case lM1 => k_is)
    (case cM1 => k_is)
    (case kM1 => k_is)
    (case aI => k_is)
    (case iI => k_is)
    (case lI => k_is)
    (case cI => k_is)
    (case kI => k_is)
    (case lT => k_is)
    (case lE => k_is)
    (case eE => rfl)
    (case pg => k_is)
    (case hd => k_is)
    (case po => k_is)
    (case sa => k_is)
    (case mk => k_is)
    (case kc => k_is)
    (case nCount => k_is)
    (case nHues => k_is)
    (case nBen => k_is)
    (case nWires => k_is)
    (case nAbove => k_is)
    (case nDirect => k_is)
    (case nOrder => k_is)
    (case rd => k_is)
    (case ga => k_is)
    (case v1 => k_is)
    (case r1 => exact ⟨_, rfl⟩)
    (case v2 => k_is)
    (case r2 => exact ⟨_, rfl⟩)
    (case b_len => k_is)
    (case b_range => k_is)
    (case b_isinstance => k_is)
    (case b_int => k_is)
    (case b_bool => k_is)
    (case b_tuple => k_is)
    (case b_list => k_is)
    (case b_set => k_is)
    (case b_enumerate => k_is)
    (case b_sorted => k_is)
    (case b_min => k_is)
    (case b_all => k_is)
    (case b_any => k_is)
    (case b_abs => k_is)
    (case b_reversed => k_is)
    (case b_max => k_is)
    (case b_str => k_is)
    (case b_repr => k_is)
    (case b_sum => k_is)
    (case b_ValueError => k_is)
    (case xaE => first | k_is | rfl)
    (case xeE => first | k_is | rfl)
    (case xiE => first | k_is | rfl)
    (case xtE => first | k_is | rfl)
    (case xa_CS => first | k_is | rfl)
    (case xi_CS => first | k_is | rfl)
    (case xt_CS => first | k_is | rfl)
    (case xa_CL => first | k_is | rfl)
    (case xi_CL => first | k_is | rfl)
    (case xt_CL => first | k_is | rfl)
    (case xlS => first | k_is | rfl)
    (case xsaS => first | k_is | rfl)
    (case xgaS => first | k_is | rfl)
    (case xggS => first | k_is | rfl)
    (case xcaS => first | k_is | rfl)
    (case xnlS => first | k_is | rfl)
    (case xinS => first | k_is | rfl)
    (case xtyS => first | k_is | rfl)
    (case xlxS => first | k_is | rfl)
    (case xcxS => first | k_is | rfl)
    (case xkxS => first | k_is | rfl)
    (case xkcS => first | k_is | rfl)
    (case xebS => first | k_is | rfl)
    (case xhdS => first | k_is | rfl)
    (case xmrS => first | k_is | rfl)
    (case xssS => first | k_is | rfl)
    (case xseS => first | k_is | rfl)
    (case xsS0 => first | k_is | rfl)
    (case xlL => first | k_is | rfl)
    (case xsaL => first | k_is | rfl)
    (case xgaL => first | k_is | rfl)
    (case xggL => first | k_is | rfl)
    (case xcaL => first | k_is | rfl)
    (case xnlL => first | k_is | rfl)
    (case xinL => first | k_is | rfl)
    (case xtyL => first | k_is | rfl)
    (case xlxL => first | k_is | rfl)
    (case xcxL => first | k_is | rfl)
    (case xkxL => first | k_is | rfl)
    (case xkcL => first | k_is | rfl)
    (case xebL => first | k_is | rfl)
    (case xhdL => first | k_is | rfl)
    (case xmrL => first | k_is | rfl)
    (case xssL => first | k_is | rfl)
    (case xseL => first | k_is | rfl)
    (case xgs => first | k_is | rfl)
    (case xtk => first | k_is | rfl)

end
