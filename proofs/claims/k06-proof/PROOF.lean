import PyProof.Rows.All
import Wide.All
import OpenK.AllK
import Wide.FinOn
import HandS.TupSets
import HandS.Sort
import HandS.SetFor
import HandS.Strs
import HandS.ForMost
import HandS.Flow
import HandS.Style
import HandS.IsInst
import HandS.Conv
import HandS.ClsMeth
import HandS.SortRule
import HandS.TupLen
import HandS.Star
import HandS.TupAny
import HandS.Codes
import HandS.SortInts
import HandS.Walk
import KE.GoesEnum
import HandS.Iter
import PyProof.TupleOfSeq
import HandS.SortOrd
import PyProof.ReprRoads
import PyProof.CallFns
import HandS.Ends
import HandS.WordsExc
import KE.KExcIs
import KE.KIsAll
import HandS.Exc
import HandS.ExcOwn
import HandS.ExcInit
import HandS.ExcField
import HandS.TupMul
import PyProof.ReprLen
import PyProof.FitsInt
import HandS.Text
import HandS.Defaults
import PySem.Challenge.RW_huefall_k06_whole_state_numbers
set_option Elab.async false
set_option linter.all false
section
set_option maxRecDepth 100000
set_option maxHeartbeats 2000000
namespace L2
open PySem PySem.Spec PyProof.Rows
/-! ### ranges as values, walked by their name -/
section
variable {X : Cx} {tg e : Expr} {te : TE}
theorem hu_cr_range1 : CallR X (.type "range") (fun vs H Q => ∃ j, vs = [V.int j] ∧ ∀ p, H p = none → Q (.ref p) (upd H p (.rng 0 j))) := by
  intro pins s σ H vs us Q I r h
  obtain ⟨j, rfl, q⟩ := h
  cases r with
  | cons rj rr =>
    cases rr
    obtain ⟨t, rfl⟩ := rj
    have lay := I.laid (a := s.heap.objs.size) (o := .rng 0 j) (t' := s.toks + 1 + 1) (h' := s.heap.push { cls := .type "range", data := .fields #[.int 0 s.toks, .int j t, .int 1 (s.toks + 1)] })
      (fun b o ho => Heap.get?_push_of_some _ ho) (Nat.le_refl _) ⟨s.toks, t, s.toks + 1, Heap.get?_push_size _ rfl⟩
    exact call_range_1 ⟨.ref s.heap.objs.size, _, lay, rfl, q _ (I.hok.fresh (Nat.le_refl _))⟩
def iHuRng (te : TE) : TI := fun σ H R => te σ H fun v H1 => ∃ a lo hi, v = .ref a ∧ H1 a = some (.rng lo hi) ∧ (-(2 ^ 62) ≤ lo ∧ lo < 2 ^ 62 ∧ -(2 ^ 62) ≤ hi ∧ hi < 2 ^ 62) ∧ R (Itr lo (hi - lo).toNat) H1
theorem hu_pi_rng (he : PE X e te) : PI X tg e (iHuRng te) := by
  refine ⟨fun pins s σ H R I h => ?_⟩
  refine thn (he.run pins s σ H _ I h) fun v s1 ⟨x, H1, I1, r1, q1⟩ => ?_
  obtain ⟨a, lo, hi, rfl, ha, ⟨b1, b2, b3, b4⟩, q⟩ := q1
  cases r1
  obtain ⟨t, u, w, ho⟩ := I1.hok a _ ha
  have ho' : IsRange s1.heap a lo hi 1 t u w := ho
  refine wpAny_pyIter_range ho' (small_one b1 b2 b3 b4) ?_
  refine ⟨s1.heap.objs.size, [s1.heap.objs.size], _, _, H1, rfl, I1.kept (t' := s1.toks) fun b o eo => Heap.get?_push_of_some _ eo, turn_range _ lo (hi - lo).toNat, ?_, fun b hb => ?_, q⟩
  · have z1 : lo + ((0 : Nat) : Int) * 1 = lo := by simp
    have z2 : (((hi - lo).toNat : Nat) : Int) - ((0 : Nat) : Int) = Builtin.Range.rangeSize lo hi 1 := by
      rw [rangeSize_one]; split <;> omega
    show IsRangeIter _ _ (lo + ((0 : Nat) : Int) * 1) ((((hi - lo).toNat : Nat) : Int) - ((0 : Nat) : Int)) 1
    rw [z1, z2]
    exact Heap.get?_push_size _ rfl
  · obtain rfl : b = s1.heap.objs.size := by simpa using hb
    exact I1.fpOk (Nat.le_refl _) (I1.hok.fresh (Nat.le_refl _))
end
/-! ### set(xs), xs a list of ints -/
section
variable {P : Program} {w : World} {A : Around} {E : Value → Shared → Prop} {s : Shared}
/-- the new set's record -/
abbrev newSetO (w : World) : Obj := { cls := .type "set", dict := none, data := .set #[] 0 (.fresh 0 0 (!w.params.followText "set-order")) }
set_option maxHeartbeats 3200000 in
theorem hu_call_set_list {l : Addr} {its : Array Value} (ns : List Int) {Q : Value → Shared → Prop} (nh : A.handled = none) (isl : s.heap.IsList l its) (hin : IntsAre its.toList ns) (small : ns.length + 1 < scanBound)
    (fin : ∀ (g : Heap) (tk c : Nat), SetR w g s.heap.objs.size (fun j => decide (j ∈ ns)) c → c ≤ ns.length → (∀ b o, s.heap.get? b = some o → g.get? b = some o) → Q (.ref s.heap.objs.size) { s with heap := g, toks := tk }) :
    wpAny (model P w) A (call (.type "set") [.ref l]) Q E s := by
  have size_eq : its.size = ns.length := by
    have z := IntsAre.length hin
    rwa [Array.length_toList] at z
  obtain ⟨c, tl, hmro⟩ := F.called_set.mro
  have made := F.called_set.made
  have sub := F.called_set.sub
  refine wpAny_call (codeAny_of_tree ?_)
  show wpAny _ _ (callAny (.type "set") _) _ _ _
  refine wpAny_pure ⟨Code.quiet_builtin _ (by decide +kernel), codeAny_builtin F.entry_type_call ?_⟩
  rw [Around.under_plain (weight_type_call_type "set" [.ref l] []) rfl]
  have nt := F.called_set.notType
  have cc := F.called_set.canCreate
  have tc := F.typeCall_set_1 (.ref l)
  repeat (any_goals (first | assumption | wp_step))
  refine codeAny_mono (code_set_led1 (.ref l) (E := E) (Q₁ := fun obj s1 => obj = .ref s.heap.objs.size ∧ s1 = { s with heap := s.heap.push (newSetO w) }) ⟨rfl, rfl⟩) fun r s1 hr => ?_
  cases r with
  | error e => exact hr
  | ok fl =>
    cases fl with
    | ret obj =>
      obtain ⟨rfl, rfl⟩ := hr
      have gS : (s.heap.push (newSetO w)).get? s.heap.objs.size = some (newSetO w) := Heap.get?_push_size _ rfl
      have tS : Shared.TypeIs { s with heap := s.heap.push (newSetO w) } (.ref s.heap.objs.size) "set" := ⟨_, gS, rfl⟩
      have il := F.called_set.init.lookup
      have ib := F.called_set.init.bind (.ref s.heap.objs.size)
      repeat (any_goals (first | assumption | wp_step))
      refine codeAny_mono (codeAny_call_builtin (R := wants (fun r s2 => r = .none ∧ ∃ g tk c, s2 = { s with heap := g, toks := tk } ∧ SetR w g s.heap.objs.size (fun j => decide (j ∈ ns)) c ∧ c ≤ ns.length ∧
          (∀ b o, s.heap.get? b = some o → g.get? b = some o)) E) F.called_set.init.plain F.entry_set_init (check_set_init_1 tS ?_)) fun r2 s2 hr2 => ?_
      · obtain ⟨⟨oc, od, odat, osl⟩, hol, hcl, nl, hdl⟩ := isl
        simp only at hcl hdl
        subst hcl; subst hdl
        have hol1 : (s.heap.push (newSetO w)).get? l = some { cls := .type "list", dict := od, data := .seq its nl, slots := osl } := Heap.get?_push_of_some _ hol
        have k1 := F.sub_list_set
        have k2 := F.sub_list_frozenset
        have k3 : (Value.type "list" == Value.type "dict") = false := by decide
        have isl1 : (s.heap.push (newSetO w)).IsList l its := ⟨_, hol1, rfl, nl, rfl⟩
        unfold Builtin.«set.__init__» noKeywords Builtin.Frozenset.updateFrom
        generalize hPI : pyIter = PI
        wp_walk
        subst hPI
        refine wpAny_pyIter_list isl1 ?_
        refine wpAny_bind (wpAny_runValue ?_)
        have lt : l < s.heap.objs.size := Heap.lt_size hol
        have nh3 : A.in1.in1.in1.handled = none := by simp [nh]
        have ne1 : l ≠ (s.heap.push (newSetO w)).objs.size := by
          rw [Heap.size_push]; exact Nat.ne_of_lt (Nat.lt_succ_of_lt lt)
        have nin : s.heap.objs.size ∉ [(s.heap.push (newSetO w)).objs.size, l] := by
          rw [Heap.size_push]
          simp only [List.mem_cons, List.mem_singleton, List.not_mem_nil, or_false, not_or]
          exact ⟨Nat.ne_of_lt (Nat.lt_succ_self _), Nat.ne_of_gt lt⟩
        have val : ∀ (i : Nat) (v : Value), its[i]? = some v → ∃ k t, ns[i]? = some k ∧ v = .int k t := fun i v hv => by
          have hi : i < ns.length := by rw [← size_eq]; exact (Array.getElem?_eq_some_iff.mp hv).1
          obtain ⟨t, e⟩ := PyProof.Rows.IntsAre.int_at hin i v (by rw [Array.getElem?_toList]; exact hv)
          refine ⟨ns[i], t, List.getElem?_eq_getElem hi, ?_⟩
          rw [e, List.getD_eq_getElem?_getD, List.getElem?_eq_getElem hi] <;> rfl
        refine set_update_ints ((Walks.list nh3 _ l ne1 its).toS) s.heap.objs.size nin ns size_eq small val (its.size - 0) 0 _ (by omega) (Nat.zero_le _)
          ⟨⟨_, Heap.get?_push_size _ rfl, rfl, rfl⟩, (isl1.push _)⟩ ?start ?ends
        case start =>
          exact ⟨0, Nat.le_refl 0, setR_new_at (Heap.get?_push_of_some _ gS)⟩
        case ends =>
          intro s3 c3 mv hc3 hS3
          obtain ⟨g3, gn3, d3, tk3, os3⟩ := s3
          obtain rfl : gn3 = s.gens := mv.gens
          obtain rfl : d3 = s.drawn := mv.drawn
          obtain rfl : os3 = s.os := mv.os
          show wpAny _ _ _ _ _ _
          refine wpAny_pure ?_
          show wpAny _ _ (ret Value.none) _ _ _
          rw [size_eq] at hc3
          refine wpAny_pure ⟨rfl, g3, tk3, c3, rfl, hS3, hc3, fun b o e => ?_⟩
          have b0 : b < s.heap.objs.size := Heap.lt_size e
          have b2 : b ≠ (s.heap.push (newSetO w)).objs.size := by
            rw [Heap.size_push]; exact Nat.ne_of_lt (Nat.lt_succ_of_lt b0)
          refine mv.heap b o ?_ (Heap.get?_push_of_some _ (Heap.get?_push_of_some _ e))
          simp only [List.mem_cons, List.mem_singleton, List.not_mem_nil, or_false, not_or]
          exact ⟨Nat.ne_of_lt b0, b2⟩
      · cases r2 with
        | error e => exact hr2
        | ok fl2 =>
          cases fl2 with
          | ret r =>
            obtain ⟨rfl, g, tk, c, rfl, hS, hc, hk⟩ := hr2
            repeat (any_goals (first | assumption | wp_step))
            exact fin _ _ _ hS hc hk
          | _ => exact hr2.elim
    | _ => exact hr.elim
end
section
variable {X : Cx}
/-- set(xs) of a list of ints -/
def rHuSetL (K : PySem.W.Frag) (w : World) : List V → Hp → VK → Prop := fun vs H Q => ∃ (a : Addr) (ns : List Int), vs = [V.ref a] ∧ SqL K H a (ns.map V.int) ∧ ns.length ≤ 1000 ∧
  ∀ p c, H p = none → c ≤ ns.length → Q (.ref p) (upd H p (SetO w p (fun j => decide (j ∈ ns)) c))
theorem hu_cr_setL (hc : X.calm = true) : CallR X (.type "set") (rHuSetL X.K X.w) := by
  intro pins s σ H vs us Q I r h
  obtain ⟨a, ns, rfl, hl, hn, q⟩ := h
  rw [Vals.ref1 r]
  obtain ⟨its, rv, pl, hz⟩ := I.list hl
  refine hu_call_set_list (P := X.prog) (w := X.w) ns (I.ok.hd hc) pl.isList (by simpa using rv.ints) (by unfold scanBound; omega) fun g tk c hS hle hk => ?_
  exact ⟨.ref s.heap.objs.size, _, I.laid (t' := tk) hk (Nat.le_refl _) (setO_new hS), rfl, q _ c (I.hok.fresh (Nat.le_refl _)) hle⟩
end
end L2

end
section
set_option maxRecDepth 100000
set_option maxHeartbeats 2000000
namespace L2
open PySem PySem.Spec PyProof.Rows
/-! ### sets of tuples of ints: in, add, set() -/
section
variable {P : Program} {w : World} {A : Around} {E : Value → Shared → Prop} {s : Shared}
variable {a : Addr} {L : List (Addr × List Int)} {es : Array (Int × Value)} {ep : Nat} {t : SetTable}
/-- the c-th place that a search for the hash comes to -/
abbrev pAt (m : Nat) (h : Int) (c : Nat) : SetTable.Probe := nth m (runAt m (SetTable.bits h % (m + 1)) (SetTable.bits h)) c
theorem pAt_dummy (m : Nat) (h : Int) (c : Nat) : (pAt m h c).dummy = none := by
  have all : ∀ (n : Nat) (p : SetTable.Probe), p.dummy = none → (nth m p n).dummy = none := by
    intro n
    induction n with
    | zero => exact fun p hp => hp
    | succ n ih =>
      intro p hp
      refine ih (adv m p) ?_
      unfold adv
      split <;> exact hp
  exact all c _ rfl
theorem pAt_on (m : Nat) (h : Int) (c q : Nat) : nth m (pAt m h c) q = pAt m h (c + q) := (nth_add m c _ q).symm
/-- a search that only asks -/
theorem find_from (R : SetTR P w s.heap a L es ep t) {x : Addr} {k : List Int} (hx : IsT P w s.heap k x) (hu : A.units < cLine) {K : Nat} (fuelK : K < 10 * SetTable.turns t.mask)
    (freeK : way t.mask (thash P w k) K ∉ t.place.toList) (below : ∀ c, c < K → way t.mask (thash P w k) c ∈ t.place.toList) {Q : SetFound → Shared → Prop}
    (yes : ∀ i, k ∈ L.map (·.2) → Q (.there (some i)) s) (no : k ∉ L.map (·.2) → Q (.free (way t.mask (thash P w k) K) false) s) :
    ∀ (f c : Nat) (stand : Option SetTable.Probe), stand.getD (t.probeStart (thash P w k)) = pAt t.mask (thash P w k) c → c ≤ K → K - c < f →
      (∀ (i : Nat) p, L[i]? = some p → p.2 = k → ∃ d, c ≤ d ∧ d < K ∧ t.place.toList[i]? = some (way t.mask (thash P w k) d)) →
      wpAny (model P w) A (setSearchFrom a (.ref x) (thash P w k) false f stand) Q E s
  | 0, _, _, _, _, lt, _ => absurd lt (Nat.not_lt_zero _)
  | f + 1, c, stand, st, cK, lt, left => by
    obtain ⟨o, ho, hex, hd⟩ := R.ob
    rw [setSearchFrom_succ]
    refine wpAny_bind (wpAny_setState_of ho hd R.fits ?_)
    dsimp only
    refine wp_if_neg R.gw ?_
    try refine wpAny_bind (wpAny_pure ?_)
    have jq : ∀ q, (nth t.mask (pAt t.mask (thash P w k) c) q).j = way t.mask (thash P w k) (c + q) := fun q => congrArg SetTable.Probe.j (pAt_on ..)
    have hashAt : ∀ (i : Nat) p, L[i]? = some p → (es[i]?.map (·.1)).getD 0 = thash P w p.2 := fun i p hp => by
      rw [R.entry hp] <;> rfl
    rcases go_spec t R.tab.ris R.tab.dm (fun i => (es[i]?.map (·.1)).getD 0) (thash P w k) (10 * SetTable.turns t.mask) (K - c) _ (pAt_dummy t.mask (thash P w k) c) (by omega)
      (fun q hq => by rw [jq]; exact below (c + q) (by omega)) (by rw [jq, show c + (K - c) = K by omega]; exact freeK) with ⟨q, i, hq, hi, hh, hno, hpr⟩ | ⟨hno, hpr⟩
    · have pr : t.probe (fun i => (es[i]?.map (·.1)).getD 0) (thash P w k) (stand.getD (t.probeStart (thash P w k))) = some (.candidate (way t.mask (thash P w k) (c + q)) i (pAt t.mask (thash P w k) (c + (q + 1)))) := by
        rw [st, ← jq, ← pAt_on]
        exact hpr
      rw [pr]
      dsimp only
      rw [jq] at hi
      have il : i < L.length := by
        have z1 : i < t.place.toList.length := (List.getElem?_eq_some_iff.mp hi).1
        have z2 := R.tab.sz
        rw [List.length_map] at z2
        rw [Array.length_toList] at z1
        omega
      obtain ⟨p, hp⟩ : ∃ p, L[i]? = some p := ⟨_, List.getElem?_eq_getElem il⟩
      have mem : p ∈ L := List.mem_of_getElem? hp
      have live : t.slot (way t.mask (thash P w k) (c + q)) = .live i := slot_live R.tab.ris hi
      have cont : wpAny (model P w) A (searchRest a (.ref x) (thash P w k) false f es t (way t.mask (thash P w k) (c + q)) i (pAt t.mask (thash P w k) (c + (q + 1)))) Q E s := by
        unfold searchRest
        rw [R.entry hp]
        dsimp only
        refine wpAny_bind (wpAny_holding (wpAny_eqBool_tuple hu (R.tup p mem) hx ?_))
        refine wpAny_bind (wpAny_setState_of ho hd R.fits ?_)
        dsimp only
        refine wp_if_neg (by simp) ?_
        try refine wpAny_bind (wpAny_pure ?_)
        rw [sameMem]
        dsimp only
        simp only [if_true, live, R.entry hp]
        refine wpAny_bind (wpAny_isSame_ref_self (wpAny_bind (wpAny_pure ?_)))
        simp only [if_true]
        by_cases kk : p.2 = k
        · refine wp_if_pos (by simp [kk]) ?_
          exact wpAny_pure (yes i (List.mem_map.mpr ⟨p, mem, kk⟩))
        · refine wp_if_neg (by simp [kk]) ?_
          refine find_from R hx hu fuelK freeK below yes no f (c + (q + 1)) _ rfl (by omega) (by omega) fun i0 p0 h0 k0 => ?_
          obtain ⟨d, d1, d2, d3⟩ := left i0 p0 h0 k0
          refine ⟨d, ?_, d2, d3⟩
          have e0 : (es[i0]?.map (·.1)).getD 0 = thash P w k := (hashAt i0 p0 h0).trans (congrArg (thash P w) k0)
          rcases Nat.lt_trichotomy d (c + q) with z | z | z
          · exact absurd e0 (hno (d - c) i0 (by omega) (by rw [jq, show c + (d - c) = d by omega]; exact d3))
          · exfalso
            rw [z] at d3
            have live0 := slot_live R.tab.ris d3
            rw [live] at live0
            injection live0 with ei
            rw [← ei, hp] at h0
            exact kk ((congrArg Prod.snd (Option.some.inj h0)).trans k0)
          · omega
      by_cases led : t.led = true
      · refine wp_if_neg (by simp [led]) ?_
        try refine wpAny_bind (wpAny_pure ?_)
        exact cont
      · refine wp_if_pos (by simp [led]) ?_
        refine wpAny_bind (seen_tup hx (fun y hy => ?_) ?_)
        · obtain ⟨e, he, ee⟩ := List.mem_map.mp hy
          have he1 : e ∈ es ∧ e.1 = thash P w k := by simpa using he
          have he2 : e ∈ es.toList := by simpa using he1.1
          rw [R.rows] at he2
          obtain ⟨p2, hp2, e2⟩ := List.mem_map.mp he2
          exact ⟨p2.2, p2.1, by rw [← ee, ← e2], R.tup p2 hp2⟩
        · refine wp_if_neg (by decide) ?_
          try refine wpAny_bind (wpAny_pure ?_)
          exact cont
    · have pr : t.probe (fun i => (es[i]?.map (·.1)).getD 0) (thash P w k) (stand.getD (t.probeStart (thash P w k))) = some (.empty (way t.mask (thash P w k) K) none) := by
        have eK : way t.mask (thash P w k) K = (nth t.mask (pAt t.mask (thash P w k) c) (K - c)).j := by
          rw [jq, show c + (K - c) = K by omega]
        rw [st, eK]
        exact hpr
      rw [pr]
      dsimp only
      refine wpAny_pure (no fun hm => ?_)
      obtain ⟨p0, h0, k0⟩ := List.mem_map.mp hm
      obtain ⟨i0, hi0, e0⟩ := List.getElem_of_mem h0
      have at0 : L[i0]? = some p0 := by rw [List.getElem?_eq_getElem hi0, e0]
      obtain ⟨d, d1, d2, d3⟩ := left i0 p0 at0 k0
      exact hno (d - c) i0 (by omega) (by rw [jq, show c + (d - c) = d by omega]; exact d3) ((hashAt i0 p0 at0).trans (congrArg (thash P w) k0))
/-- x in the set -/
theorem find_at (R : SetTR P w s.heap a L es ep t) {x : Addr} {k : List Int} (hx : IsT P w s.heap k x) (hu : A.units < cLine) {Q : Option Nat → Shared → Prop}
    (h : ∀ r : Option Nat, r.isSome = decide (k ∈ L.map (·.2)) → Q r s) : wpAny (model P w) A (setFind a (.ref x) (thash P w k)) Q E s := by
  obtain ⟨o, ho, hex, hd⟩ := R.ob
  have room := R.room
  obtain ⟨K, fuelK, freeK, below⟩ := R.tab.first (by rw [List.length_map]; omega) (thash P w k)
  have big : K < 100000 := by
    have z : 10 * SetTable.turns t.mask ≤ 1420 := by
      unfold SetTable.turns
      rcases R.tab.mok with e | e | e <;> omega
    omega
  unfold setFind
  rw [show (100000 : Nat) = 99999 + 1 from rfl]
  unfold setFindIn
  refine wpAny_bind (wpAny_setState_of ho hd R.fits ?_)
  dsimp only
  refine wp_if_neg (by simp [byScan, Value.scannable]) ?_
  try refine wpAny_bind (wpAny_pure ?_)
  unfold setSearch
  refine wpAny_bind (find_from R hx hu fuelK freeK below (fun i hm => ?_) (fun hm => ?_) 100000 0 none rfl (Nat.zero_le _) (by omega) fun i p hp hk => ?_)
  · exact wpAny_pure (h _ (by rw [decide_eq_true hm] <;> rfl))
  · exact wpAny_pure (h _ (by rw [decide_eq_false hm] <;> rfl))
  · have hi : (L.map fun p => thash P w p.2)[i]? = some (thash P w k) := by rw [List.getElem?_map, hp, ← hk] <;> rfl
    have il : i < t.place.toList.length := by
      have z1 : i < L.length := (List.getElem?_eq_some_iff.mp hp).1
      have z2 := R.tab.sz
      rw [List.length_map] at z2
      rw [Array.length_toList]
      omega
    have hj := List.getElem?_eq_getElem il
    obtain ⟨c, hc, e⟩ := R.tab.before freeK hi hj
    exact ⟨c, Nat.zero_le _, hc, by rw [hj, e]⟩
theorem SetTR.typ (R : SetTR P w s.heap a L es ep t) : s.TypeIs (.ref a) "set" := let ⟨o, ho, hex, _⟩ := R.ob; ⟨o, ho, hex.1⟩
theorem in_tupset (R : SetTR P w s.heap a L es ep t) {x : Addr} {k : List Int} (hx : IsT P w s.heap k x) (hu : A.units + 64 < cLine) {Q : Value → Shared → Prop}
    (h : ∀ tk, Q (.bool (decide (k ∈ L.map (·.2)))) { s with toks := tk }) : wpAny (model P w) A (compareOp .In (.ref x) (.ref a)) Q E s := by
  show wpAny _ _ (do return .bool (← contains (.ref a) (.ref x))) Q E s
  refine wpAny_bind ?_
  unfold contains
  try with_reducible refine wpAny_holding ?_
  refine wpAny_bind (wpAny_specialOf R.typ F.slot_set_contains.lookup ?_)
  show wpAny _ _ (if (some (Value.builtin "set.__contains__") == some Value.none) = true then _ else _) _ E s
  rw [if_neg (by rw [beq_builtin_none]; exact Bool.false_ne_true)]
  refine wpAny_bind (wpAny_callSpecialUnlessNone?_slot (name := Str.ofString "__contains__") R.typ F.slot_set_contains
    (wpAny_call_entry F.slot_set_contains R.typ entry_set_contains ?_ (F.args_set_contains_2 _ _)))
  unfold Builtin.«frozenset.__contains__» Builtin.Frozenset.oneOther
  simp only [List.isEmpty_nil, bind_assoc]
  unfold Builtin.Frozenset.addrOf Builtin.Frozenset.withSetAsKey setContains
  refine wpAny_bind (wpAny_pure ?_)
  try dsimp only
  refine wpAny_bind (wpAny_pure ?_)
  try dsimp only
  refine wpAny_bind (wpAny_tryCatch ?_)
  refine wpAny_holding ?_
  refine wpAny_bind (wpAny_pyHash_tuple ?_ hx ?_)
  · show A.units + 1 < cLine
    omega
  refine wpAny_bind (find_at (s := { s with toks := s.toks + (k.length + 1) }) R hx ?_ fun r hr => ?_)
  · show A.units + 1 < cLine
    omega
  refine wpAny_pure ?_
  show wpAny _ _ (ret (Value.bool r.isSome)) _ _ _
  rw [hr]
  exact wpAny_pure ⟨_, rfl, wpAny_truthy_bool (wpAny_pure (h _))⟩
theorem add_tupset (R : SetTR P w s.heap a L es ep t) {x : Addr} {k : List Int} (hx : IsT P w s.heap k x) (hu : A.units + 64 < cLine) (few : L.length + 1 < 64) {Q : Value → Shared → Prop}
    (h : ∀ g tk L2 es2 ep2 t2, Heap.SameBut a s.heap g → SetTR P w g a L2 es2 ep2 t2 → (k ∈ L.map (·.2) → L2 = L) → (k ∉ L.map (·.2) → L2.Perm ((x, k) :: L)) → Q .none { s with heap := g, toks := tk }) :
    wpAny (model P w) A (call (.builtin "set.add") [.ref a, .ref x]) Q E s := by
  refine wpAny_call_entry F.slot_set_add R.typ F.entry_set_add ?_ (F.args_set_add_2 _ _)
  unfold Builtin.«set.add» Builtin.Frozenset.oneOther
  simp only [List.isEmpty_nil, bind_assoc]
  unfold Builtin.Frozenset.addrOf setAdd
  refine wpAny_bind (wpAny_pure ?_)
  try dsimp only
  refine wpAny_bind (wpAny_pure ?_)
  try dsimp only
  refine wpAny_bind ?_
  refine wpAny_holding ?_
  refine wpAny_bind (wpAny_pyHash_tuple ?_ hx ?_)
  · show A.units + 1 < cLine
    omega
  refine add_at (s := { s with toks := s.toks + (k.length + 1) }) R hx ?_ few fun b g L2 es2 ep2 t2 sb R2 c1 c2 => ?_
  · show A.units + 1 < cLine
    omega
  show wpAny _ _ (ret Value.none) _ _ _
  exact wpAny_pure ⟨_, rfl, h g _ L2 es2 ep2 t2 sb R2 c1 c2⟩
end
section
variable {X : Cx}
/-- the set at a holds the tuples L, each still readable -/
def HasT (K : PySem.W.Frag) (P : Program) (w : World) (H : Hp) (a : Addr) (L : List (Addr × List Int)) : Prop :=
  H a = some (SetTO P w a L) ∧ ∀ p ∈ L, SqT K H p.1 (p.2.map V.int)
theorem HasT.full {pins : List (Addr × Obj)} {σ : St} {H : Hp} {s : Shared} {a : Addr} {L : List (Addr × List Int)} (I : Inv X pins σ H s) (h : HasT X.K X.prog X.w H a L) : ∃ es ep t, SetTR X.prog X.w s.heap a L es ep t := by
  have R0 : SetT0 X.prog X.w s.heap a L := (I.hok a _ h.1).1
  exact R0.full fun p hp => I.isT (h.2 p hp)
def rHuSet0T (P : Program) (w : World) : List V → Hp → VK → Prop := fun vs H Q => vs = [] ∧ ∀ p, H p = none → Q (.ref p) (upd H p (SetTO P w p []))
theorem hu_cr_set0T : CallR X (.type "set") (rHuSet0T X.prog X.w) := by
  intro pins s σ H vs us Q I r h
  obtain ⟨rfl, q⟩ := h
  cases r
  refine setR_new fun _ => ?_
  have R := setTR_fresh (P := X.prog) (w := X.w) (h := s.heap.push { cls := .type "set", dict := none, data := .set #[] 0 (.fresh 0 0 (!X.w.params.followText "set-order")) }) (a := s.heap.objs.size) (Heap.get?_push_size _ rfl)
  exact ⟨.ref _, _, I.laid (t' := s.toks) (fun b u e => Heap.get?_push_of_some _ e) (Nat.le_refl _) (setTO_new R.t0), rfl, q _ (I.hok.fresh (Nat.le_refl _))⟩
/-- k in found -/
def rHuInT (K : PySem.W.Frag) (P : Program) (w : World) : V → V → Hp → VK → Prop := fun x y H Q => ∃ (b a : Addr) (k : List Int) (L : List (Addr × List Int)), x = V.ref b ∧ y = V.ref a ∧ SqT K H b (k.map V.int) ∧ HasT K P w H a L ∧ Q (.bl (decide (k ∈ L.map (·.2)))) H
theorem hu_or_inT (hu : X.A.units + 64 < cLine) : OpR X (compareOp .In) (rHuInT X.K X.prog X.w) := by
  intro pins s σ H x y v u Q I rx ry h
  obtain ⟨b, a, k, L, rfl, rfl, hb, ha, q⟩ := h
  cases rx
  cases ry
  obtain ⟨es, ep, t, R⟩ := ha.full I
  exact in_tupset R (I.isT hb) hu fun tk => ⟨.bl _, H, I.tok _, rfl, q⟩
/-- found.add(k) -/
def rHuAddT (K : PySem.W.Frag) (P : Program) (w : World) : V → List V → Hp → VK → Prop := fun x vs H Q => ∃ (a b : Addr) (k : List Int) (L : List (Addr × List Int)), x = V.ref a ∧ vs = [V.ref b] ∧ SqT K H b (k.map V.int) ∧ HasT K P w H a L ∧ L.length + 1 < 64 ∧
  k ∉ L.map (·.2) ∧ ∀ L2, L2.Perm ((b, k) :: L) → Q .non (upd H a (SetTO P w a L2))
theorem hu_mt_addT (hu : X.A.units + 64 < cLine) : MtR X "set.add" (rHuAddT X.K X.prog X.w) := by
  intro pins s σ H x vs v us Q I rx rxs h
  obtain ⟨a, b, k, L, rfl, rfl, hb, ha, few, new, q⟩ := h
  cases rx
  rw [Vals.ref1 rxs]
  obtain ⟨es, ep, t, R⟩ := ha.full I
  refine add_tupset R (I.isT hb) hu few fun g tk L2 es2 ep2 t2 sb R2 _ c2 => ?_
  obtain ⟨o2, ho2, _⟩ := R2.ob
  exact ⟨.non, _, I.write (e := a) (t' := tk) (by rw [ha.1]; trivial) (.inl rfl) (fun c u hc hu => (sb.2 c hc).trans hu) ⟨o2, ho2⟩ (setTO_new R2.t0), rfl, q L2 (c2 new)⟩
def tHuAddT (K : PySem.W.Frag) (P : Program) (w : World) (to : TE) (t : TA) : TE := fun σ H Q => to σ H fun x H1 => (∃ a L, x = V.ref a ∧ H1 a = some (SetTO P w a L)) ∧ t σ H1 fun xs H2 => rHuAddT K P w x xs H2 Q
variable {o e : Expr} {es : List Expr} {to : TE} {t : TA} {apos cpos : Pos}
theorem hu_pe_addT (hu : X.A.units + 64 < cLine) (ho : PE X o to) (ha : PA X (e :: es) t)
    (hbase : attributeBase o "add" X.env (eval o X.env) = eval o X.env := by rfl)
    (hfew : ((backTo cpos (starEach (e :: es) X.env)).all (fun x => !x.1) && (backToKw cpos (keywordEach [] X.env)).all (fun x => x.1.isSome)
      && decide ((e :: es).length + ([] : List Keyword).length + (if ([] : List Keyword).isEmpty then 0 else 1) < 30)) = true := by rfl)
    (hline : (apos.endLine == cpos.line) = true := by rfl) (hs : starEach (e :: es) X.env = (false, eval e X.env) :: starEach es X.env := by rfl) (hplain : (backTo cpos (starEach es X.env)).any (·.1) = false := by rfl) :
    PE X (.Call (.Attribute o "add" apos) (e :: es) [] cpos) (tHuAddT X.K X.prog X.w to t) := by
  refine ⟨fun pins s σ H Q I h => ?_⟩
  refine wpAny_Call_method_late hbase hfew hline rfl (thn (ho.run pins s σ H _ I h) fun v s1 ⟨x, H1, I1, r1, ⟨a, L, ex, hka⟩, q1⟩ => ?_)
  subst ex
  have R0 : SetT0 X.prog X.w s1.heap a L := (I1.hok a _ hka).1
  obtain ⟨es0, ep0, t0, ⟨o0, ho0, hex0, _⟩, _⟩ := R0.ex
  cases r1
  refine ⟨"set", "set.add", F.plainAttrs_set, F.slot_set_add, F.type_set_add, ⟨o0, ho0, hex0.1⟩, ?_, ?_⟩
  · intro b eb
    injection eb with eb
    subst eb
    exact ⟨o0, ho0, by first | exact hex0.2.1 | exact hex0.2.2⟩
  have hA := ha.run cpos pins s1 σ H1 _ I1 q1
  rw [hs] at hA ⊢
  refine Calls.callWith_builtin (by show (false || (backTo cpos (starEach es X.env)).any (·.1)) = false; rw [hplain] <;> rfl) (Calls.evalArgs_plain ?_)
  exact thn hA fun us s2 ⟨vs, H2, I2, r2, q2⟩ => hu_mt_addT hu pins s2 σ H2 (.ref a) vs (.ref a) us Q I2 rfl r2 q2
end
end L2

end
section
set_option maxRecDepth 100000
set_option maxHeartbeats 2000000
namespace L2
open PySem PySem.Spec PyProof.Rows
/-! ### sets of tuples of ints, up to 4914 of them -/
section
/-- the masks of such a set -/
def Wid (m : Nat) : Prop := m = 7 ∨ m = 31 ∨ m = 127 ∨ m = 511 ∨ m = 2047 ∨ m = 8191
theorem Wid.pow {m : Nat} (h : Wid m) : ∃ k, m + 1 = 2 ^ k := by
  rcases h with e | e | e | e | e | e
  · exact ⟨3, by rw [e]⟩
  · exact ⟨5, by rw [e]⟩
  · exact ⟨7, by rw [e]⟩
  · exact ⟨9, by rw [e]⟩
  · exact ⟨11, by rw [e]⟩
  · exact ⟨13, by rw [e]⟩
theorem Wid.bounds {m : Nat} (h : Wid m) : 7 ≤ m ∧ m ≤ 8191 ∧ m % 2 = 1 := by
  rcases h with e | e | e | e | e | e <;> omega

/-- five times and one more, again and again -/
def five : Nat → Nat → Nat
  | x, 0 => x
  | x, n + 1 => five (5 * x + 1) n
theorem five_add : ∀ (a x b : Nat), five x (a + b) = five (five x a) b
  | 0, x, b => by rw [Nat.zero_add] <;> rfl
  | a + 1, x, b => by
    have e : a + 1 + b = (a + b) + 1 := by omega
    rw [e]
    exact five_add a (5 * x + 1) b
/-- 2^k of these steps: x goes to x + 2^k, but for a multiple of 2^(k+1) -/
theorem five_pow (k : Nat) : ∃ a b : Nat, ∀ x, five x (2 ^ k) = (1 + 4 * (2 ^ k * a)) * x + 2 ^ k * (1 + 2 * b) := by
  induction k with
  | zero =>
    refine ⟨1, 0, fun x => ?_⟩
    show 5 * x + 1 = (1 + 4 * (2 ^ 0 * 1)) * x + 2 ^ 0 * (1 + 2 * 0)
    omega
  | succ k ih =>
    obtain ⟨a, b, h⟩ := ih
    refine ⟨a + 2 * (2 ^ k * a * a), b + 2 ^ k * a + 2 * (2 ^ k * a * b), fun x => ?_⟩
    have e : (2 : Nat) ^ (k + 1) = 2 ^ k + 2 ^ k := by rw [Nat.pow_succ]; omega
    rw [e, five_add, h, h]
    generalize (2 : Nat) ^ k = N
    grind
theorem five_shift (k x : Nat) : five x (2 ^ k) % 2 ^ (k + 1) = (x + 2 ^ k) % 2 ^ (k + 1) := by
  obtain ⟨a, b, h⟩ := five_pow k
  rw [h x]
  have e : (1 + 4 * (2 ^ k * a)) * x + 2 ^ k * (1 + 2 * b) = (x + 2 ^ k) + 2 ^ (k + 1) * (2 * (a * x) + b) := by
    rw [Nat.pow_succ]
    generalize (2 : Nat) ^ k = N
    grind
  rw [e, Nat.add_mul_mod_self_left]
/-- each remainder comes -/
theorem five_covers (x j : Nat) : ∀ k, ∃ n, n < 2 ^ k ∧ five x n % 2 ^ k = j % 2 ^ k
  | 0 => ⟨0, by decide, by rw [Nat.pow_zero, Nat.mod_one, Nat.mod_one]⟩
  | k + 1 => by
    obtain ⟨n, hn, e⟩ := five_covers x j k
    have hp : 0 < (2 : Nat) ^ k := Nat.pow_pos (by decide)
    have e2 : (2 : Nat) ^ (k + 1) = 2 ^ k * 2 := Nat.pow_succ ..
    by_cases c : five x n / 2 ^ k % 2 = j / 2 ^ k % 2
    · refine ⟨n, by omega, ?_⟩
      rw [e2, Nat.mod_mul, Nat.mod_mul, e, c]
    · refine ⟨n + 2 ^ k, by omega, ?_⟩
      rw [five_add, five_shift, e2, Nat.mod_mul, Nat.mod_mul, Nat.add_mod_right, e, Nat.add_div_right _ hp]
      have d : (five x n / 2 ^ k).succ % 2 = j / 2 ^ k % 2 := by omega
      rw [d]
theorem lcgI_five (m i : Nat) (hi : i ≤ m) : ∀ n, lcgI m i n = five i n % (m + 1)
  | 0 => (Nat.mod_eq_of_lt (Nat.lt_succ_of_le hi)).symm
  | n + 1 => by
    have e : five i (n + 1) = 5 * five i n + 1 := by rw [five_add] <;> rfl
    show (lcgI m i n * 5 + 1) % (m + 1) = _
    rw [lcgI_five m i hi n, e, Nat.add_mod, Nat.mul_mod, Nat.mod_mod, ← Nat.mul_mod, ← Nat.add_mod, Nat.mul_comm]
theorem Wid.covers {m : Nat} (h : Wid m) {i j : Nat} (hi : i ≤ m) (hj : j ≤ m) : ∃ n, n ≤ m ∧ lcgI m i n = j := by
  obtain ⟨k, hk⟩ := h.pow
  obtain ⟨n, hn, e⟩ := five_covers i j k
  rw [← hk] at hn e
  exact ⟨n, Nat.le_of_lt_succ hn, by rw [lcgI_five m i hi, e, Nat.mod_eq_of_lt (Nat.lt_succ_of_le hj)]⟩
/-- a run starts at each place, soon enough -/
theorem Wid.start {m : Nat} (wd : Wid m) (g : Int) {j : Nat} (hj : j ≤ m) : ∃ n, n ≤ m + 12 ∧ runI m (SetTable.bits g) n = j := by
  obtain ⟨n, hn, e⟩ := wd.covers (runI_le m (SetTable.bits g) 12) hj
  refine ⟨12 + n, by omega, ?_⟩
  rw [runI_tail (bits_lt g), e]
theorem Wid.comes {m : Nat} (wd : Wid m) (g : Int) {j : Nat} (hj : j ≤ m) : ∃ c, c < 10 * SetTable.turns m ∧ way m g c = j := by
  obtain ⟨n, hn, e⟩ := wd.start g hj
  obtain ⟨c, hc, e2⟩ := run_nth m (SetTable.bits g) n
  have e3 : way m g c = runI m (SetTable.bits g) n := congrArg SetTable.Probe.j e2
  exact ⟨c, by unfold SetTable.turns; omega, e3.trans e⟩
theorem way_low (m : Nat) (g : Int) (c : Nat) : way m g c ≤ m := by
  have b0 : SetTable.bits g % (m + 1) ≤ m := Nat.le_of_lt_succ (Nat.mod_lt _ (Nat.succ_pos m))
  have b1 := runEnd_bd b0
  have b2 := nth_in (m := m) c (runAt m (SetTable.bits g % (m + 1)) (SetTable.bits g)) (by
    show SetTable.bits g % (m + 1) + (SetTable.runEnd m (SetTable.bits g % (m + 1)) - SetTable.bits g % (m + 1)) ≤ m
    omega)
  exact Nat.le_trans (Nat.le_add_right _ _) b2

/-- a table in which a search for a hash passes its places -/
structure Lay (t : SetTable) (hs : List Int) : Prop where
  wid : Wid t.mask
  up : Ris t.place.toList
  bare : t.dummies = #[]
  many : t.place.size = hs.length
  low : ∀ j ∈ t.place.toList, j ≤ t.mask
  path : ∀ (i : Nat) (g : Int) (j : Nat), hs[i]? = some g → t.place.toList[i]? = some j → ∃ n, way t.mask g n = j ∧ ∀ c, c < n → way t.mask g c ∈ t.place.toList
variable {t : SetTable} {hs : List Int}
theorem Lay.hole (T : Lay t hs) (le : hs.length ≤ t.mask) (g : Int) : ∃ n, n < 10 * SetTable.turns t.mask ∧ way t.mask g n ∉ t.place.toList ∧ ∀ c, c < n → way t.mask g c ∈ t.place.toList := by
  obtain ⟨j, lt, out⟩ := st_missing t.place.toList (t.mask + 1) (by rw [Array.length_toList, T.many]; omega)
  obtain ⟨c0, lt0, e0⟩ := T.wid.comes g (Nat.le_of_lt_succ lt)
  obtain ⟨n, n1, n2, n3⟩ := st_least (p := fun c => way t.mask g c ∉ t.place.toList) c0 (fun hm => out (e0 ▸ hm))
  exact ⟨n, Nat.lt_of_le_of_lt n1 lt0, n2, fun c hc => Classical.not_not.mp (n3 c hc)⟩
theorem Lay.ahead (T : Lay t hs) {g : Int} {n i j : Nat} (out : way t.mask g n ∉ t.place.toList) (hi : hs[i]? = some g) (hj : t.place.toList[i]? = some j) : ∃ c, c < n ∧ way t.mask g c = j := by
  obtain ⟨c, e, bef⟩ := T.path i g j hi hj
  refine ⟨c, Nat.lt_of_not_le fun le => ?_, e⟩
  rcases Nat.lt_or_eq_of_le le with lt | eq
  · exact out (bef n lt)
  · rw [eq, e] at out
    exact out (List.mem_of_getElem? hj)
theorem Lay.put (T : Lay t hs) {g : Int} {n : Nat} (out : way t.mask g n ∉ t.place.toList) (bef : ∀ c, c < n → way t.mask g c ∈ t.place.toList) :
    SetTable.below t.place (way t.mask g n) ≤ hs.length ∧ Lay (t.put (way t.mask g n)).1 (hs.take (SetTable.below t.place (way t.mask g n)) ++ g :: hs.drop (SetTable.below t.place (way t.mask g n))) ∧
    (t.put (way t.mask g n)).1.fill = hs.length + 1 := by
  have jm := way_low t.mask g n
  obtain ⟨j, ej⟩ : ∃ j, way t.mask g n = j := ⟨_, rfl⟩
  rw [ej] at out jm ⊢
  have b1 : SetTable.below t.place j ≤ t.place.size := (below_cut T.up j).1
  have b2 : SetTable.below t.place j ≤ t.place.toList.length := by rw [Array.length_toList]; exact b1
  have b3 : SetTable.below t.place j ≤ hs.length := by rw [← T.many]; exact b1
  have pl := put_place t j
  have inn : ∀ x ∈ t.place.toList, x ∈ (t.put j).1.place.toList := fun x hx => by
    rw [pl]
    exact mem_ins.2 (.inr hx)
  have sz : (t.put j).1.place.size = hs.length + 1 := by
    rw [← Array.length_toList, pl, len_ins _ b2, Array.length_toList, T.many]
  refine ⟨b3, ⟨T.wid, ?_, put_dm T.bare j, by rw [len_ins _ b3]; exact sz, fun x hx => ?_, fun i g' j' h1 h2 => ?_⟩, ?_⟩
  · exact ris_insert T.up fun e => out (List.mem_of_getElem? (by rw [Array.getElem?_toList]; exact e))
  · rw [pl] at hx
    rcases mem_ins.1 hx with e | hx
    · rw [e]
      exact jm
    · exact T.low x hx
  · rw [pl, tins_get _ b2] at h2
    rw [tins_get hs b3] at h1
    have old : ∀ i0, hs[i0]? = some g' → t.place.toList[i0]? = some j' → ∃ n0, way t.mask g' n0 = j' ∧ ∀ c, c < n0 → way t.mask g' c ∈ (t.put j).1.place.toList := fun i0 a1 a2 => by
      obtain ⟨n0, x1, x2⟩ := T.path i0 g' j' a1 a2
      exact ⟨n0, x1, fun c hc => inn _ (x2 c hc)⟩
    rcases Nat.lt_trichotomy i (SetTable.below t.place j) with c | c | c
    · rw [if_pos c] at h1 h2
      exact old i h1 h2
    · rw [if_neg (by omega), if_pos c] at h1 h2
      obtain rfl := Option.some.inj h1
      obtain rfl := Option.some.inj h2
      exact ⟨n, ej, fun c hc => inn _ (bef c hc)⟩
    · rw [if_neg (by omega), if_neg (by omega)] at h1 h2
      exact old (i - 1) h1 h2
  · show (t.put j).1.place.size + (t.put j).1.dummies.size = _
    rw [sz, put_dm T.bare j] <;> rfl

/-! the table laid out again -/
theorem Wid.free {m : Nat} (wd : Wid m) (owner : Array (Option Nat)) (g : Int) {j : Nat} (hj : j ≤ m) (none0 : oAt owner j = none) :
    ∃ n, SetTable.layClean.free m owner (SetTable.turns m) (SetTable.bits g % (m + 1)) (SetTable.bits g) = some (way m g n) ∧ oAt owner (way m g n) = none ∧ ∀ c, c < n → oAt owner (way m g c) ≠ none := by
  obtain ⟨r, le, e⟩ := wd.start g hj
  have at_ : way m g (off m (SetTable.bits g % (m + 1)) (SetTable.bits g) r) = j := by
    refine Eq.trans (congrArg SetTable.Probe.j (nth_off m r _ _)) ?_
    rw [itL_run]
    exact e
  obtain ⟨n, n1, n2, n3⟩ := st_least (p := fun c => oAt owner (way m g c) = none) _ (show oAt owner (way m g _) = none by rw [at_]; exact none0)
  refine ⟨n, free_spec m owner _ r _ _ n (by unfold SetTable.turns; omega) n1 (fun c hc => ?_) ?_, n2, n3⟩
  · cases z : oAt owner (way m g c) with
    | none => exact absurd z (n3 c hc)
    | some q => rfl
  · exact (congrArg Option.isNone n2)
theorem Wid.own {m : Nat} (wd : Wid m) {done : List Int} {owner : Array (Option Nat)} (W : Own m done owner) (few : done.length ≤ m) (g : Int) :
    ∃ j, SetTable.layClean.free m owner (SetTable.turns m) (SetTable.bits g % (m + 1)) (SetTable.bits g) = some j ∧ Own m (done ++ [g]) (owner.setIfInBounds j (some done.length)) := by
  obtain ⟨ps, lp, cov⟩ := W.ps
  obtain ⟨j0, lt0, out0⟩ := st_missing ps (m + 1) (by omega)
  have no0 : oAt owner j0 = none := Classical.byContradiction fun z => out0 (cov j0 (Nat.le_of_lt_succ lt0) z)
  obtain ⟨n, f, vac, bef⟩ := wd.free owner g (Nat.le_of_lt_succ lt0) no0
  have lm := way_low m g n
  refine ⟨_, f, ?_⟩
  generalize hj : way m g n = j at vac lm
  have slf := oAt_set_self (owner := owner) (some done.length) (j := j) (by rw [W.sz]; omega)
  have keep : ∀ i, oAt owner i ≠ none → oAt (owner.setIfInBounds j (some done.length)) i ≠ none := fun i hi => by
    by_cases c : i = j
    · rw [c, slf]
      exact Option.some_ne_none _
    · rw [oAt_set_ne _ c]
      exact hi
  constructor
  · rw [Array.size_setIfInBounds, W.sz]
  · intro i k hi e
    by_cases c : i = j
    · rw [c, slf] at e
      obtain rfl := Option.some.inj e
      refine ⟨g, n, ?_, hj.trans c.symm, fun c hc => keep _ (bef c hc)⟩
      rw [List.getElem?_append_right (Nat.le_refl _), Nat.sub_self] <;> rfl
    · rw [oAt_set_ne _ c] at e
      obtain ⟨g', n', x1, x2, x3⟩ := W.at_ i k hi e
      exact ⟨g', n', by rw [List.getElem?_append_left (List.getElem?_eq_some_iff.mp x1).1]; exact x1, x2, fun c hc => keep _ (x3 c hc)⟩
  · intro k hk
    rw [List.length_append, List.length_singleton] at hk
    rcases Nat.lt_or_eq_of_le (Nat.le_of_lt_succ hk) with c | c
    · obtain ⟨i, hi, e⟩ := W.all k c
      have ne : i ≠ j := fun z => by
        rw [z, vac] at e
        exact nomatch e
      exact ⟨i, hi, by rw [oAt_set_ne _ ne]; exact e⟩
    · exact ⟨j, lm, by rw [slf, c]⟩
  · refine ⟨j :: ps, by rw [List.length_cons, lp, List.length_append] <;> rfl, fun i hi e => ?_⟩
    by_cases c : i = j
    · rw [c]
      exact .head _
    · rw [oAt_set_ne _ c] at e
      exact .tail _ (cov i hi e)
theorem Wid.lays {m : Nat} (wd : Wid m) : ∀ (rest done : List Int) (owner : Array (Option Nat)), Own m done owner → done.length + rest.length ≤ m →
    ∃ o2, rest.foldl (stepF m) (some (owner, done.length)) = some (o2, (done ++ rest).length) ∧ Own m (done ++ rest) o2
  | [], done, owner, W, _ => by
    rw [List.append_nil]
    exact ⟨owner, rfl, W⟩
  | g :: rest, done, owner, W, le => by
    have lc : (g :: rest).length = rest.length + 1 := rfl
    have ls : (done ++ [g]).length = done.length + 1 := by rw [List.length_append] <;> rfl
    obtain ⟨j, f, W1⟩ := wd.own W (by omega) g
    obtain ⟨o2, h1, h2⟩ := wd.lays rest (done ++ [g]) _ W1 (by omega)
    rw [ls, List.append_assoc] at h1
    rw [List.append_assoc] at h2
    exact ⟨o2, by rw [List.foldl_cons, stepF_some f]; exact h1, h2⟩
theorem Wid.relaid {M : Nat} (wd : Wid M) (t : SetTable) {hs : Array Int} {wanted : Nat} (hw : SetTable.sizeAbove wanted - 1 = M) (le : hs.size ≤ M) :
    ∃ t2 order, t.relaid hs wanted = some (t2, order) ∧ order.toList.Perm (List.range hs.size) ∧ Lay t2 (order.toList.map fun i => hs.getD i 0) ∧ t2.mask = M ∧ t2.led = t.led ∧ t2.plain = t.plain := by
  obtain ⟨owner, f, W⟩ := wd.lays hs.toList [] _ (Own.init M) (by rw [Array.length_toList]; show 0 + hs.size ≤ M; omega)
  rw [List.nil_append] at f W
  have lay : SetTable.layClean M hs = some owner := by
    rw [layClean_eq]
    exact (congrArg (Option.map (·.1)) f)
  generalize hLv : liveOf M owner = Lv
  have mem : ∀ j k, (j, k) ∈ Lv ↔ j ≤ M ∧ oAt owner j = some k := fun j k => by
    rw [← hLv]
    exact mem_live W.sz
  have up : Ris (Lv.map (·.1)) ∧ ∀ x ∈ Lv.map (·.1), x ∈ List.range (M + 1) := by
    rw [← hLv]
    exact ris_live (fun j => owner.getD j none) (List.range (M + 1)) (by
      unfold Ris
      first | exact List.pairwise_lt_range | exact List.pairwise_lt_range _)
  have ks : ∀ k, k < hs.size → k ∈ Lv.map (·.2) := fun k hk => by
    obtain ⟨j, j1, j2⟩ := W.all k (by rw [Array.length_toList]; exact hk)
    exact List.mem_map.mpr ⟨(j, k), (mem j k).2 ⟨j1, j2⟩, rfl⟩
  have cnt : (Lv.map (·.2)).length = hs.size := by
    obtain ⟨ps, lp, cov⟩ := W.ps
    have fs : (Lv.map (·.1)).Nodup := List.Pairwise.imp (fun h => Nat.ne_of_lt h) up.1
    have c1 := nat_nodup_len (Lv.map (·.1)) ps fs fun x hx => by
      obtain ⟨⟨j, k⟩, jk, rfl⟩ := List.mem_map.mp hx
      obtain ⟨x1, x2⟩ := (mem j k).1 jk
      exact cov j x1 (by rw [x2]; exact Option.some_ne_none k)
    have c2 := nat_nodup_len (List.range hs.size) (Lv.map (·.2)) List.nodup_range fun k hk => ks k (List.mem_range.mp hk)
    have z : hs.toList.length = hs.size := rfl
    rw [List.length_map, lp] at c1
    rw [List.length_range, List.length_map] at c2
    rw [List.length_map]
    omega
  refine ⟨tabOf t M owner, (Lv.map (·.2)).toArray, ?_, perm_range hs.size _ cnt ks, ⟨wd, ?_, rfl, ?_, fun j hj => ?_, fun i g j h1 h2 => ?_⟩, rfl, rfl, rfl⟩
  · rw [relaid_eq, hw, lay, ← hLv] <;> rfl
  · show Ris ((liveOf M owner).map (·.1))
    rw [hLv]
    exact up.1
  · show ((liveOf M owner).map (·.1)).toArray.size = _
    rw [hLv, List.size_toArray, List.length_map, List.length_map, List.length_map]
  · have hj' : j ∈ (liveOf M owner).map (·.1) := hj
    rw [hLv] at hj'
    exact Nat.le_of_lt_succ (List.mem_range.mp (up.2 j hj'))
  · have h2' : ((liveOf M owner).map (·.1))[i]? = some j := h2
    have h1' : ((Lv.map (·.2)).map fun i => hs.getD i 0)[i]? = some g := h1
    rw [hLv, List.getElem?_map] at h2'
    rw [List.getElem?_map, List.getElem?_map] at h1'
    obtain ⟨⟨y, k⟩, q1, rfl⟩ := Option.map_eq_some_iff.mp h2'
    rw [q1] at h1'
    obtain rfl := Option.some.inj h1'
    obtain ⟨m1, m2⟩ := (mem y k).1 (List.mem_of_getElem? q1)
    obtain ⟨g0, n, d1, d2, d3⟩ := W.at_ y k m1 m2
    have eg : hs.getD k 0 = g0 := by
      rw [Array.getD_eq_getD_getElem?, ← Array.getElem?_toList, d1] <;> rfl
    show ∃ n, way M (hs.getD k 0) n = y ∧ ∀ c, c < n → way M (hs.getD k 0) c ∈ (liveOf M owner).map (·.1)
    rw [eg, hLv]
    refine ⟨n, d2, fun c hc => ?_⟩
    obtain ⟨k2, e2⟩ := Option.ne_none_iff_exists'.mp (d3 c hc)
    exact List.mem_map.mpr ⟨(way M g0 c, k2), (mem _ _).2 ⟨way_low M g0 c, e2⟩, rfl⟩
end
end L2

end
section
set_option maxRecDepth 100000
set_option maxHeartbeats 2000000
namespace L2
open PySem PySem.Spec PyProof.Rows
/-! ### a set of up to 4914 tuples of ints: searching, adding -/
section
variable {P : Program} {w : World} {A : Around} {E : Value → Shared → Prop} {s : Shared}
variable {a : Addr} {L : List (Addr × List Int)} {es : Array (Int × Value)} {ep : Nat} {t : SetTable}
/-- the hashes of the rows -/
abbrev hsh (P : Program) (w : World) (L : List (Addr × List Int)) : List Int := L.map fun p => thash P w p.2
/-- the object at a is a set whose entries are L -/
structure BigO (P : Program) (w : World) (h : Heap) (a : Addr) (L : List (Addr × List Int)) (es : Array (Int × Value)) (ep : Nat) (t : SetTable) : Prop where
  obj : ∃ o, h.get? a = some o ∧ o.ExactSet ∧ o.data = .set es ep t
  ent : es.toList = rowsOf P w L
  lay : Lay t (hsh P w L)
  dif : (L.map (·.2)).Nodup
  pln : t.plain = true
  seq : w.params.followText "set-order" = true ∨ t.led = true
  gap : L.length * 5 < t.mask * 3
theorem rowsOf_len {es : Array (Int × Value)} (h : es.toList = rowsOf P w L) : es.size = L.length := by
  have e := congrArg List.length h
  rw [Array.length_toList] at e
  exact e.trans (List.length_map ..)
namespace BigO
theorem size (R : BigO P w s.heap a L es ep t) : es.size = L.length := rowsOf_len R.ent
theorem many (R : BigO P w s.heap a L es ep t) : t.place.size = L.length := R.lay.many.trans (List.length_map ..)
theorem fits (R : BigO P w s.heap a L es ep t) : t.fits es.size = true := by
  have g := R.gap
  have c1 : t.place.size = es.size := R.many.trans R.size.symm
  have c2 : t.place.size + t.dummies.size ≤ t.mask := by
    rw [R.lay.bare, R.many]
    show L.length + 0 ≤ _
    omega
  unfold SetTable.fits SetTable.fill
  rw [Bool.and_eq_true, beq_iff_eq, decide_eq_true_eq]
  exact ⟨c1, c2⟩
theorem row (R : BigO P w s.heap a L es ep t) {i : Nat} {p : Addr × List Int} (h : L[i]? = some p) : es[i]? = some (thash P w p.2, Value.ref p.1) := by
  rw [← Array.getElem?_toList, R.ent]
  refine (List.getElem?_map ..).trans ?_
  rw [h] <;> rfl
theorem whole (R : BigO P w s.heap a L es ep t) : ¬ t.gaveWay = true := by
  unfold SetTable.gaveWay
  rw [R.lay.wid.bounds.2.2]
  decide
end BigO
/-- a search, from its c-th place on: for adding, or for asking -/
theorem big_from (R : BigO P w s.heap a L es ep t) (tup : ∀ p ∈ L, IsT P w s.heap p.2 p.1) {x : Addr} {k : List Int} (hx : IsT P w s.heap k x) (hu : A.units < cLine) (adding : Bool) {n : Nat} (fuel : n < 10 * SetTable.turns t.mask)
    (out : way t.mask (thash P w k) n ∉ t.place.toList) (bef : ∀ c, c < n → way t.mask (thash P w k) c ∈ t.place.toList) {Q : SetFound → Shared → Prop}
    (yes : ∀ r, (adding = true → r = none) → (adding = false → r.isSome = true) → k ∈ L.map (·.2) → Q (.there r) s) (no : k ∉ L.map (·.2) → Q (.free (way t.mask (thash P w k) n) false) s) :
    ∀ (f c : Nat) (stand : Option SetTable.Probe), stand.getD (t.probeStart (thash P w k)) = pAt t.mask (thash P w k) c → c ≤ n → n - c < f →
      (∀ (i : Nat) p, L[i]? = some p → p.2 = k → ∃ d, c ≤ d ∧ d < n ∧ t.place.toList[i]? = some (way t.mask (thash P w k) d)) →
      wpAny (model P w) A (setSearchFrom a (.ref x) (thash P w k) adding f stand) Q E s
  | 0, _, _, _, _, lt, _ => absurd lt (Nat.not_lt_zero _)
  | f + 1, c, stand, st, cn, lt, left => by
    obtain ⟨o, ho, hex, hd⟩ := R.obj
    rw [setSearchFrom_succ]
    refine wpAny_bind (wpAny_setState_of ho hd R.fits ?_)
    dsimp only
    refine wp_if_neg R.whole ?_
    try refine wpAny_bind (wpAny_pure ?_)
    have step : ∀ q, (nth t.mask (pAt t.mask (thash P w k) c) q).j = way t.mask (thash P w k) (c + q) := fun q => congrArg SetTable.Probe.j (pAt_on t.mask (thash P w k) c q)
    have rest : n - c + c = n := Nat.sub_add_cancel cn
    have hash : ∀ (i : Nat) p, L[i]? = some p → (es[i]?.map (·.1)).getD 0 = thash P w p.2 := fun i p hp => by
      rw [R.row hp] <;> rfl
    have last : (nth t.mask (pAt t.mask (thash P w k) c) (n - c)).j = way t.mask (thash P w k) n := by rw [step, Nat.add_comm c, rest]
    have spec := go_spec t R.lay.up R.lay.bare (fun i => (es[i]?.map (·.1)).getD 0) (thash P w k) (10 * SetTable.turns t.mask) (n - c) _ (pAt_dummy t.mask (thash P w k) c) (by omega)
      (fun q hq => by rw [step]; exact bef (c + q) (by omega)) (by rw [last]; exact out)
    rcases spec with ⟨q, i, hq, hi, hh, before, pr⟩ | ⟨before, pr⟩
    · rw [step] at hi pr
      rw [show stand.getD (t.probeStart (thash P w k)) = pAt t.mask (thash P w k) c from st]
      rw [show t.probe (fun i => (es[i]?.map (·.1)).getD 0) (thash P w k) (pAt t.mask (thash P w k) c) = _ from pr]
      dsimp only
      have il : i < L.length := by
        have z := (List.getElem?_eq_some_iff.mp hi).1
        rw [Array.length_toList, R.many] at z
        exact z
      obtain ⟨p, hp⟩ : ∃ p, L[i]? = some p := ⟨_, List.getElem?_eq_getElem il⟩
      have mem : p ∈ L := List.mem_of_getElem? hp
      have live : t.slot (way t.mask (thash P w k) (c + q)) = .live i := slot_live R.lay.up hi
      have cont : wpAny (model P w) A (searchRest a (.ref x) (thash P w k) adding f es t (way t.mask (thash P w k) (c + q)) i (nth t.mask (pAt t.mask (thash P w k) c) (q + 1))) Q E s := by
        unfold searchRest
        rw [R.row hp]
        dsimp only
        refine wpAny_bind (wpAny_holding (wpAny_eqBool_tuple hu (tup p mem) hx ?_))
        refine wpAny_bind (wpAny_setState_of ho hd R.fits ?_)
        dsimp only
        by_cases kk : p.2 = k
        · have km : k ∈ L.map (·.2) := List.mem_map.mpr ⟨p, mem, kk⟩
          cases adding with
          | true =>
            refine wp_if_pos (by simp [kk]) ?_
            exact wpAny_pure (yes none (fun _ => rfl) (fun z => nomatch z) km)
          | false =>
            refine wp_if_neg (by simp) ?_
            try refine wpAny_bind (wpAny_pure ?_)
            rw [sameMem]
            dsimp only
            simp only [if_true, live, R.row hp]
            refine wpAny_bind (wpAny_isSame_ref_self (wpAny_bind (wpAny_pure ?_)))
            simp only [if_true]
            refine wp_if_pos (by simp [kk]) ?_
            exact wpAny_pure (yes (some i) (fun z => nomatch z) (fun _ => rfl) km)
        · refine wp_if_neg (by simp [kk]) ?_
          try refine wpAny_bind (wpAny_pure ?_)
          rw [sameMem]
          dsimp only
          simp only [if_true, live, R.row hp]
          refine wpAny_bind (wpAny_isSame_ref_self (wpAny_bind (wpAny_pure ?_)))
          simp only [if_true]
          refine wp_if_neg (by simp [kk]) ?_
          refine big_from R tup hx hu adding fuel out bef yes no f (c + (q + 1)) _ (pAt_on ..) (by omega) (by omega) fun i0 p0 h0 k0 => ?_
          obtain ⟨d, d1, d2, d3⟩ := left i0 p0 h0 k0
          refine ⟨d, Nat.lt_of_not_le fun le => ?_, d2, d3⟩
          have h1 : (es[i0]?.map (·.1)).getD 0 = thash P w k := (hash i0 p0 h0).trans (congrArg (thash P w) k0)
          have le2 : d ≤ c + q := le
          rcases Nat.lt_or_eq_of_le le2 with z | z
          · refine before (d - c) i0 (by omega) ?_ h1
            rw [step, show c + (d - c) = d by omega]
            exact d3
          · rw [z] at d3
            have two := live.symm.trans (slot_live R.lay.up d3)
            injection two with two
            rw [← two, hp] at h0
            exact kk ((congrArg Prod.snd (Option.some.inj h0)).trans k0)
      by_cases led : t.led = true
      · refine wp_if_neg (by simp [led]) ?_
        try refine wpAny_bind (wpAny_pure ?_)
        exact cont
      · refine wp_if_pos (by simp [led]) ?_
        refine wpAny_bind (seen_tup hx (fun y hy => ?_) (wp_if_neg (by decide) ?_))
        · obtain ⟨e, he, rfl⟩ := List.mem_map.mp hy
          have he2 : e ∈ es ∧ e.1 = thash P w k := by simpa using he
          have he3 : e ∈ rowsOf P w L := by
            rw [← R.ent]
            simpa using he2.1
          obtain ⟨p2, m2, rfl⟩ := List.mem_map.mp he3
          exact ⟨p2.2, p2.1, rfl, tup p2 m2⟩
        · try refine wpAny_bind (wpAny_pure ?_)
          exact cont
    · rw [last] at pr
      rw [show stand.getD (t.probeStart (thash P w k)) = pAt t.mask (thash P w k) c from st]
      rw [show t.probe (fun i => (es[i]?.map (·.1)).getD 0) (thash P w k) (pAt t.mask (thash P w k) c) = _ from pr]
      dsimp only
      refine wpAny_pure (no fun hm => ?_)
      obtain ⟨p0, m0, k0⟩ := List.mem_map.mp hm
      obtain ⟨i0, l0, e0⟩ := List.getElem_of_mem m0
      have h0 : L[i0]? = some p0 := (List.getElem?_eq_getElem l0).trans (congrArg some e0)
      obtain ⟨d, d1, d2, d3⟩ := left i0 p0 h0 k0
      refine before (d - c) i0 (by omega) ?_ ((hash i0 p0 h0).trans (congrArg (thash P w) k0))
      rw [step, show c + (d - c) = d by omega]
      exact d3
/-- the whole search -/
theorem big_search (R : BigO P w s.heap a L es ep t) (tup : ∀ p ∈ L, IsT P w s.heap p.2 p.1) {x : Addr} {k : List Int} (hx : IsT P w s.heap k x) (hu : A.units < cLine) (adding : Bool) {Q : SetFound → Shared → Prop}
    (yes : ∀ r, (adding = true → r = none) → (adding = false → r.isSome = true) → k ∈ L.map (·.2) → Q (.there r) s)
    (no : ∀ n, k ∉ L.map (·.2) → way t.mask (thash P w k) n ∉ t.place.toList → (∀ c, c < n → way t.mask (thash P w k) c ∈ t.place.toList) → Q (.free (way t.mask (thash P w k) n) false) s) :
    wpAny (model P w) A (setSearch a (.ref x) (thash P w k) adding) Q E s := by
  have g := R.gap
  obtain ⟨n, fuel, out, bef⟩ := R.lay.hole (by rw [List.length_map]; omega) (thash P w k)
  have big : n < 100000 := by
    have b := R.lay.wid.bounds.2.1
    unfold SetTable.turns at fuel
    omega
  unfold setSearch
  refine big_from R tup hx hu adding fuel out bef yes (fun nm => no n nm out bef) 100000 0 none rfl (Nat.zero_le _) (by omega) fun i p hp hk => ?_
  have hi : (hsh P w L)[i]? = some (thash P w k) := by
    refine (List.getElem?_map ..).trans ?_
    rw [hp, ← hk] <;> rfl
  have il : i < t.place.toList.length := by
    rw [Array.length_toList, R.many]
    exact (List.getElem?_eq_some_iff.mp hp).1
  obtain ⟨c, c1, c2⟩ := R.lay.ahead out hi (List.getElem?_eq_getElem il)
  exact ⟨c, Nat.zero_le c, c1, by rw [c2]; exact List.getElem?_eq_getElem il⟩
theorem BigO.typ (R : BigO P w s.heap a L es ep t) : s.TypeIs (.ref a) "set" := let ⟨o, ho, hex, _⟩ := R.obj; ⟨o, ho, hex.1⟩
/-- k in the set -/
theorem big_in (R : BigO P w s.heap a L es ep t) (tup : ∀ p ∈ L, IsT P w s.heap p.2 p.1) {x : Addr} {k : List Int} (hx : IsT P w s.heap k x) (hu : A.units + 64 < cLine) {Q : Value → Shared → Prop}
    (h : ∀ tk, Q (.bool (decide (k ∈ L.map (·.2)))) { s with toks := tk }) : wpAny (model P w) A (compareOp .In (.ref x) (.ref a)) Q E s := by
  show wpAny _ _ (do return .bool (← contains (.ref a) (.ref x))) Q E s
  refine wpAny_bind ?_
  unfold contains
  try with_reducible refine wpAny_holding ?_
  refine wpAny_bind (wpAny_specialOf R.typ F.slot_set_contains.lookup ?_)
  show wpAny _ _ (if (some (Value.builtin "set.__contains__") == some Value.none) = true then _ else _) _ E s
  rw [if_neg (by rw [beq_builtin_none]; exact Bool.false_ne_true)]
  refine wpAny_bind (wpAny_callSpecialUnlessNone?_slot (name := Str.ofString "__contains__") R.typ F.slot_set_contains
    (wpAny_call_entry F.slot_set_contains R.typ entry_set_contains ?_ (F.args_set_contains_2 _ _)))
  unfold Builtin.«frozenset.__contains__» Builtin.Frozenset.oneOther
  simp only [List.isEmpty_nil, bind_assoc]
  unfold Builtin.Frozenset.addrOf Builtin.Frozenset.withSetAsKey setContains
  refine wpAny_bind (wpAny_pure ?_)
  try dsimp only
  refine wpAny_bind (wpAny_pure ?_)
  try dsimp only
  refine wpAny_bind (wpAny_tryCatch ?_)
  refine wpAny_holding ?_
  refine wpAny_bind (wpAny_pyHash_tuple ?_ hx ?_)
  · show A.units + 1 < cLine
    omega
  have R2 : BigO P w ({ s with toks := s.toks + (k.length + 1) } : Shared).heap a L es ep t := R
  obtain ⟨o, ho, hex, hd⟩ := R2.obj
  have fin : ∀ r : Option Nat, r.isSome = decide (k ∈ L.map (·.2)) → wpAny (model P w) A (pure (Value.bool r.isSome)) (fun v s' => Q v s') E { s with toks := s.toks + (k.length + 1) } := fun r hr => by
    rw [hr]
    exact wpAny_pure (h _)
  refine wpAny_bind (Q := _) (m := setFind a (.ref x) (thash P w k)) ?_
  unfold setFind
  rw [show (100000 : Nat) = 99999 + 1 from rfl]
  unfold setFindIn
  refine wpAny_bind (wpAny_setState_of ho hd R2.fits ?_)
  dsimp only
  refine wp_if_neg (by simp [byScan, Value.scannable]) ?_
  try refine wpAny_bind (wpAny_pure ?_)
  refine wpAny_bind (big_search R2 tup hx (by show A.units + 1 < cLine; omega) false (fun r _ hr hm => ?_) (fun n nm out bef => ?_))
  · refine wpAny_pure ?_
    refine wpAny_pure ?_
    show wpAny _ _ (ret (Value.bool r.isSome)) _ _ _
    rw [hr rfl, ← decide_eq_true hm]
    exact wpAny_pure ⟨_, rfl, wpAny_truthy_bool (wpAny_pure (h _))⟩
  · refine wpAny_pure ?_
    refine wpAny_pure ?_
    show wpAny _ _ (ret (Value.bool (none : Option Nat).isSome)) _ _ _
    rw [show (none : Option Nat).isSome = decide (k ∈ L.map (·.2)) from (decide_eq_false nm).symm]
    exact wpAny_pure ⟨_, rfl, wpAny_truthy_bool (wpAny_pure (h _))⟩

theorem grow_size {n m : Nat} (wd : Wid m) (lt : n * 5 < m * 3) (ge : (n + 1) * 5 ≥ m * 3) (few : n + 1 < 4915) : ∃ M, SetTable.sizeAbove (SetTable.grown (n + 1)) = M + 1 ∧ Wid M ∧ (n + 1) * 5 < M * 3 ∧ M ≤ 8191 := by
  rcases wd with e | e | e | e | e | e
  · obtain rfl : n = 4 := by omega
    exact ⟨31, by decide +kernel, .inr (.inl rfl), by omega, by omega⟩
  · obtain rfl : n = 18 := by omega
    exact ⟨127, by decide +kernel, .inr (.inr (.inl rfl)), by omega, by omega⟩
  · obtain rfl : n = 76 := by omega
    exact ⟨511, by decide +kernel, .inr (.inr (.inr (.inl rfl))), by omega, by omega⟩
  · obtain rfl : n = 306 := by omega
    exact ⟨2047, by decide +kernel, .inr (.inr (.inr (.inr (.inl rfl)))), by omega, by omega⟩
  · obtain rfl : n = 1228 := by omega
    exact ⟨8191, by decide +kernel, .inr (.inr (.inr (.inr (.inr rfl)))), by omega, by omega⟩
  · omega
/-- the set's table laid out anew, larger -/
theorem big_relay {o : Obj} (ho : s.heap.get? a = some o) (hex : o.ExactSet) (hd : o.data = .set es ep t) (ent : es.toList = rowsOf P w L) (lay : Lay t (hsh P w L)) (le : L.length ≤ t.mask)
    (dif : (L.map (·.2)).Nodup) (pln : t.plain = true) (seq : w.params.followText "set-order" = true ∨ t.led = true) {wanted M : Nat}
    (hw : SetTable.sizeAbove wanted = M + 1) (wd : Wid M) (room : L.length * 5 < M * 3) {Q : Unit → Shared → Prop}
    (q : ∀ g L2 es2 ep2 t2, Heap.SameBut a s.heap g → BigO P w g a L2 es2 ep2 t2 → L2.Perm L → Q () { s with heap := g }) : wpAny (model P w) A (setRelay a wanted) Q E s := by
  have sz : es.size = L.length := rowsOf_len ent
  have many : t.place.size = L.length := lay.many.trans (List.length_map ..)
  have fits : t.fits es.size = true := by
    unfold SetTable.fits SetTable.fill
    rw [Bool.and_eq_true, beq_iff_eq, decide_eq_true_eq, lay.bare, many, sz]
    exact ⟨rfl, by show L.length + 0 ≤ _; omega⟩
  have bM := wd.bounds
  obtain ⟨t2, order, e, pm, lay2, em, el, ep2⟩ := wd.relaid t (hs := es.map (·.1)) (wanted := wanted) (by omega) (by rw [Array.size_map, sz]; omega)
  rw [Array.size_map, sz] at pm
  obtain ⟨L2, r1, r2, r3⟩ := order_rows L es order ent pm
  have lay3 : Lay t2 (hsh P w L2) := by
    show Lay t2 (L2.map fun p => thash P w p.2)
    rw [r3]
    exact lay2
  have sz2 : (order.filterMap (es[·]?)).size = es.size := by rw [rowsOf_len r1, r2.length_eq, sz]
  rw [setRelay_eq]
  refine wpAny_bind (wpAny_setState_of ho hd fits ?_)
  dsimp only
  refine wp_if_neg (by rw [hw, sizeLine_eq]; omega) ?_
  try refine wpAny_bind (wpAny_pure ?_)
  rw [e]
  dsimp only
  refine wpAny_bind (wp_if_neg (by rw [sz2]; simp) ?_)
  try refine wpAny_bind (wpAny_pure ?_)
  refine wpAny_pure ?_
  dsimp only
  refine wpAny_storeSet_of ho hd ?_ (by rw [sz2, sz, sizeLine_eq]; omega)
  refine q _ L2 (order.filterMap (es[·]?)) (ep + 1) t2 (Heap.SameBut.update ..) ?_ r2
  exact ⟨⟨_, store_at ho hd, ⟨hex.1, hex.2.1, hex.2.2⟩, rfl⟩, r1, lay3, (r2.map (·.2)).nodup_iff.mpr dif, ep2.trans pln, by rw [el]; exact seq, by rw [r2.length_eq, em]; exact room⟩
/-- one more tuple -/
theorem big_add (R : BigO P w s.heap a L es ep t) (tup : ∀ p ∈ L, IsT P w s.heap p.2 p.1) {x : Addr} {k : List Int} (hx : IsT P w s.heap k x) (hu : A.units < cLine) (few : L.length + 1 < 4915) {Q : Bool → Shared → Prop}
    (q : ∀ b g L2 es2 ep2 t2, Heap.SameBut a s.heap g → BigO P w g a L2 es2 ep2 t2 → (k ∈ L.map (·.2) → L2 = L) → (k ∉ L.map (·.2) → L2.Perm ((x, k) :: L)) → Q b { s with heap := g }) :
    wpAny (model P w) A (setAddHashed a (.ref x) (thash P w k)) Q E s := by
  obtain ⟨o, ho, hex, hd⟩ := R.obj
  have sz := R.size
  unfold setAddHashed
  refine wpAny_holding ?_
  rw [show (100000 : Nat) = 99999 + 1 from rfl, setAddHashedIn_succ]
  refine wpAny_bind (wpAny_setState_of ho hd R.fits ?_)
  dsimp only
  refine wp_if_neg (by simp [byScan, Value.scannable]) ?_
  try refine wpAny_bind (wpAny_pure ?_)
  refine wpAny_bind (big_search R tup hx hu true (fun r hr _ hm => ?_) fun n nm out bef => ?_)
  · dsimp only
    exact wpAny_pure (q false s.heap L es ep t (Heap.SameBut.refl a s.heap) R (fun _ => rfl) fun z => absurd hm z)
  dsimp only
  refine wpAny_bind (wpAny_setState_of ho hd R.fits ?_)
  dsimp only
  obtain ⟨le, lay1, fill1⟩ := R.lay.put out bef
  have m1 : (t.put (way t.mask (thash P w k) n)).1.mask = t.mask := rfl
  have p1 : (t.put (way t.mask (thash P w k) n)).1.plain = true := R.pln
  have l1 : w.params.followText "set-order" = true ∨ (t.put (way t.mask (thash P w k) n)).1.led = true := R.seq
  have at1 : (t.put (way t.mask (thash P w k) n)).2 = SetTable.below t.place (way t.mask (thash P w k) n) := rfl
  generalize hp1 : t.put (way t.mask (thash P w k) n) = pt at lay1 fill1 m1 p1 l1 at1 ⊢
  obtain ⟨t1, i⟩ := pt
  dsimp only at lay1 fill1 m1 p1 l1 at1 ⊢
  rw [← at1] at lay1
  first
    | (refine wpAny_bind ?_; refine wp_if_pos p1 ?_; refine hashBy_tup hx ?_)
    | refine wp_if_pos p1 (wpAny_bind (hashBy_tup hx ?_))
  simp only [if_true]
  have pm := put_perm L i (x, k)
  have ent1 : (SetTable.insertAt es i (thash P w k, Value.ref x)).toList = rowsOf P w (L.take i ++ (x, k) :: L.drop i) := by
    rw [SetTable.toList_insertAt, rows_put, R.ent]
  have lay2 : Lay t1 (hsh P w (L.take i ++ (x, k) :: L.drop i)) := by
    show Lay t1 ((L.take i ++ (x, k) :: L.drop i).map fun p => thash P w p.2)
    rw [List.map_append, List.map_cons, List.map_take, List.map_drop]
    exact lay1
  generalize SetTable.insertAt es i (thash P w k, Value.ref x) = es1 at ent1 ⊢
  generalize L.take i ++ (x, k) :: L.drop i = L1 at pm ent1 lay2
  have len1 : L1.length = L.length + 1 := pm.length_eq
  have sz1 : es1.size = L.length + 1 := (rowsOf_len ent1).trans len1
  have dif1 : (L1.map (·.2)).Nodup := (pm.map (·.2)).nodup_iff.mpr (by rw [List.map_cons]; exact List.nodup_cons.mpr ⟨nm, R.dif⟩)
  refine wpAny_bind (wpAny_storeSet_of ho hd ?_ (by rw [sz1, sizeLine_eq]; omega))
  have ho1 := store_at (es' := es1) (t' := t1) ho hd
  have sb : Heap.SameBut a s.heap (s.heap.update a (Obj.putSet es1 t1)) := Heap.SameBut.update ..
  generalize s.heap.update a (Obj.putSet es1 t1) = g1 at ho1 sb ⊢
  have gap := R.gap
  rw [List.length_map] at fill1
  by_cases full : t1.tooFull = true
  · have ge : (L.length + 1) * 5 ≥ t.mask * 3 := by
      have z := full
      unfold SetTable.tooFull at z
      rw [decide_eq_true_eq, fill1, m1] at z
      exact z
    obtain ⟨M, e1, e2, e3, e4⟩ := grow_size R.lay.wid gap ge few
    first
      | (refine wpAny_bind ?_; refine wp_if_pos (by simp [full]) ?_)
      | (refine wp_if_pos (by simp [full]) ?_; refine wpAny_bind ?_)
    rw [sz]
    refine big_relay (s := { s with heap := g1 }) ho1 ⟨hex.1, hex.2.1, hex.2.2⟩ rfl ent1 lay2 (by rw [len1, m1]; have := R.lay.wid.bounds; omega) dif1 p1 l1 e1 e2 (by rw [len1]; exact e3) fun g2 L2 es2 ep2 t2 sb2 R2 pm2 => ?_
    exact wpAny_pure (q true g2 L2 es2 ep2 t2 (sb.trans sb2) R2 (fun z => absurd z nm) fun _ => pm2.trans pm)
  · first
      | refine wp_if_neg (by simp [full]) ?_
      | (refine wpAny_bind ?_; refine wp_if_neg (by simp [full]) ?_; refine wpAny_pure ?_)
    refine wpAny_pure (q true g1 L1 es1 (ep + 1) t1 sb ⟨⟨_, ho1, ⟨hex.1, hex.2.1, hex.2.2⟩, rfl⟩, ent1, lay2, dif1, p1, l1, ?_⟩ (fun z => absurd z nm) fun _ => pm)
    have z := full
    unfold SetTable.tooFull at z
    rw [decide_eq_true_eq, fill1, m1] at z
    rw [len1, m1]
    omega
end
end L2

end
section
set_option maxRecDepth 100000
set_option maxHeartbeats 2000000
namespace L2
open PySem PySem.Spec PyProof.Rows
section
variable {P : Program} {w : World} {A : Around} {E : Value → Shared → Prop} {s : Shared}
variable {a : Addr} {L : List (Addr × List Int)} {es : Array (Int × Value)} {ep : Nat} {t : SetTable}
/-- the call that adds -/
theorem big_add_call (R : BigO P w s.heap a L es ep t) (tup : ∀ p ∈ L, IsT P w s.heap p.2 p.1) {x : Addr} {k : List Int} (hx : IsT P w s.heap k x) (hu : A.units + 64 < cLine) (few : L.length + 1 < 4915) {Q : Value → Shared → Prop}
    (h : ∀ g tk L2 es2 ep2 t2, Heap.SameBut a s.heap g → BigO P w g a L2 es2 ep2 t2 → (k ∈ L.map (·.2) → L2 = L) → (k ∉ L.map (·.2) → L2.Perm ((x, k) :: L)) → Q .none { s with heap := g, toks := tk }) :
    wpAny (model P w) A (call (.builtin "set.add") [.ref a, .ref x]) Q E s := by
  refine wpAny_call_entry F.slot_set_add R.typ F.entry_set_add ?_ (F.args_set_add_2 _ _)
  unfold Builtin.«set.add» Builtin.Frozenset.oneOther
  simp only [List.isEmpty_nil, bind_assoc]
  unfold Builtin.Frozenset.addrOf setAdd
  refine wpAny_bind (wpAny_pure ?_)
  try dsimp only
  refine wpAny_bind (wpAny_pure ?_)
  try dsimp only
  refine wpAny_bind (wpAny_holding (wpAny_bind (wpAny_pyHash_tuple (by show A.units + 1 < cLine; omega) hx ?_)))
  have R2 : BigO P w ({ s with toks := s.toks + (k.length + 1) } : Shared).heap a L es ep t := R
  refine big_add (s := { s with toks := s.toks + (k.length + 1) }) R2 tup hx (by show A.units + 1 < cLine; omega) few fun b g L2 es2 ep2 t2 sb R3 c1 c2 => ?_
  show wpAny _ _ (ret Value.none) _ _ _
  exact wpAny_pure ⟨_, rfl, h g _ L2 es2 ep2 t2 sb R3 c1 c2⟩
/-- the set() that was just made -/
theorem bigO_new {h : Heap} {a : Addr} (ho : h.get? a = some { cls := .type "set", dict := none, data := .set #[] 0 (.fresh 0 0 (!w.params.followText "set-order")) }) : BigO P w h a [] #[] 0 (.fresh 0 0 (!w.params.followText "set-order")) := by
  refine ⟨⟨_, ho, ⟨rfl, rfl, rfl⟩, rfl⟩, rfl, ⟨.inl rfl, .nil, rfl, rfl, (fun j hj => nomatch hj), (fun i g j h => nomatch h)⟩, .nil, rfl, ?_, by show 0 * 5 < 7 * 3; decide⟩
  show _ ∨ (!w.params.followText "set-order") = true
  cases w.params.followText "set-order"
  · exact .inr rfl
  · exact .inl rfl
end
section
/-- as an object of the heap -/
def BigSet (P : Program) (w : World) (h : Heap) (a : Addr) (L : List (Addr × List Int)) : Prop := ∃ es ep t, BigO P w h a L es ep t
def BigHO (P : Program) (w : World) (a : Addr) (L : List (Addr × List Int)) : HO := .ext fun h => BigSet P w h a L
theorem bigHO_new {P : Program} {w : World} {H : Hp} {h : Heap} {a : Addr} {L : List (Addr × List Int)} (R : BigSet P w h a L) : ObjOk P w H h a (BigHO P w a L) := by
  have ⟨es, ep, t, B⟩ := R
  have ⟨o, ho, _⟩ := B.obj
  refine ⟨R, ⟨o, ho⟩, fun h1 h2 p k => ?_⟩
  have ⟨es', ep', t', B'⟩ := (p : BigSet P w h1 a L)
  have ⟨o', ho', r'⟩ := B'.obj
  exact ⟨es', ep', t', ⟨⟨o', k o' ho', r'⟩, B'.ent, B'.lay, B'.dif, B'.pln, B'.seq, B'.gap⟩⟩
variable {X : Cx}
/-- a's set has the tuples L, and they are still there to be read -/
def HasB (K : PySem.W.Frag) (P : Program) (w : World) (H : Hp) (a : Addr) (L : List (Addr × List Int)) : Prop := H a = some (BigHO P w a L) ∧ ∀ p ∈ L, SqT K H p.1 (p.2.map V.int)
theorem HasB.get {pins : List (Addr × Obj)} {σ : St} {H : Hp} {s : Shared} {a : Addr} {L : List (Addr × List Int)} (I : Inv X pins σ H s) (h : HasB X.K X.prog X.w H a L) :
    (∃ es ep t, BigO X.prog X.w s.heap a L es ep t) ∧ ∀ p ∈ L, IsT X.prog X.w s.heap p.2 p.1 := ⟨(I.hok a _ h.1).1, fun p hp => I.isT (h.2 p hp)⟩
def rB0 (P : Program) (w : World) : List V → Hp → VK → Prop := fun vs H Q => vs = [] ∧ ∀ p, H p = none → Q (.ref p) (upd H p (BigHO P w p []))
theorem cr_b0 : CallR X (.type "set") (rB0 X.prog X.w) := by
  intro pins s σ H vs us Q I r h
  obtain ⟨rfl, q⟩ := h
  cases r
  refine setR_new fun _ => ?_
  have R := bigO_new (P := X.prog) (w := X.w) (h := s.heap.push { cls := .type "set", dict := none, data := .set #[] 0 (.fresh 0 0 (!X.w.params.followText "set-order")) }) (a := s.heap.objs.size) (Heap.get?_push_size _ rfl)
  exact ⟨.ref _, _, I.laid (t' := s.toks) (fun b u e => Heap.get?_push_of_some _ e) (Nat.le_refl _) (bigHO_new ⟨_, _, _, R⟩), rfl, q _ (I.hok.fresh (Nat.le_refl _))⟩
def rBIn (K : PySem.W.Frag) (P : Program) (w : World) : V → V → Hp → VK → Prop := fun x y H Q => ∃ (b a : Addr) (k : List Int) (L : List (Addr × List Int)), x = V.ref b ∧ y = V.ref a ∧ SqT K H b (k.map V.int) ∧ HasB K P w H a L ∧ Q (.bl (decide (k ∈ L.map (·.2)))) H
theorem or_bIn (hu : X.A.units + 64 < cLine) : OpR X (compareOp .In) (rBIn X.K X.prog X.w) := by
  intro pins s σ H x y v u Q I rx ry h
  obtain ⟨b, a, k, L, rfl, rfl, hb, ha, q⟩ := h
  cases rx
  cases ry
  obtain ⟨⟨es, ep, t, R⟩, tup⟩ := ha.get I
  exact big_in R tup (I.isT hb) hu fun tk => ⟨.bl _, H, I.tok _, rfl, q⟩
theorem bIn_ {K : PySem.W.Frag} (P : Program) (w : World) (hu : X.A.units + 64 < cLine) (hP : X.prog = P := by rfl) (hw : X.w = w := by rfl) (hK : X.K = K := by rfl) : OpR X (compareOp .In) (rBIn K P w) := by subst hK hP hw; exact or_bIn hu
def rBAdd (K : PySem.W.Frag) (P : Program) (w : World) : V → List V → Hp → VK → Prop := fun x vs H Q => ∃ (a b : Addr) (k : List Int) (L : List (Addr × List Int)), x = V.ref a ∧ vs = [V.ref b] ∧ SqT K H b (k.map V.int) ∧ HasB K P w H a L ∧ L.length + 1 < 4915 ∧
  (k ∈ L.map (·.2) → Q .non (upd H a (BigHO P w a L))) ∧ (k ∉ L.map (·.2) → ∀ L2, L2.Perm ((b, k) :: L) → Q .non (upd H a (BigHO P w a L2)))
theorem mt_bAdd (hu : X.A.units + 64 < cLine) : MtR X "set.add" (rBAdd X.K X.prog X.w) := by
  intro pins s σ H x vs v us Q I rx rxs h
  obtain ⟨a, b, k, L, rfl, rfl, hb, ha, few, q1, q2⟩ := h
  cases rx
  rw [Vals.ref1 rxs]
  obtain ⟨⟨es, ep, t, R⟩, tup⟩ := ha.get I
  refine big_add_call R tup (I.isT hb) hu few fun g tk L2 es2 ep2 t2 sb R2 c1 c2 => ?_
  obtain ⟨o2, ho2, _⟩ := R2.obj
  refine ⟨.non, _, I.write (e := a) (t' := tk) (by rw [ha.1]; trivial) (.inl rfl) (fun c u hc hu => (sb.2 c hc).trans hu) ⟨o2, ho2⟩ (bigHO_new ⟨_, _, _, R2⟩), rfl, ?_⟩
  by_cases m : k ∈ L.map (·.2)
  · rw [c1 m]
    exact q1 m
  · exact q2 m L2 (c2 m)
def tBAdd (K : PySem.W.Frag) (P : Program) (w : World) (to : TE) (t : TA) : TE := fun σ H Q => to σ H fun x H1 => (∃ a L, x = V.ref a ∧ H1 a = some (BigHO P w a L)) ∧ t σ H1 fun xs H2 => rBAdd K P w x xs H2 Q
variable {o e : Expr} {es : List Expr} {to : TE} {t : TA} {apos cpos : Pos}
theorem pe_bAdd (hu : X.A.units + 64 < cLine) (ho : PE X o to) (ha : PA X (e :: es) t)
    (late : attributeBase o "add" X.env (eval o X.env) = eval o X.env := by rfl)
    (less30 : ((backTo cpos (starEach (e :: es) X.env)).all (fun x => !x.1) && (backToKw cpos (keywordEach [] X.env)).all (fun x => x.1.isSome)
        && decide ((e :: es).length + ([] : List Keyword).length + (if ([] : List Keyword).isEmpty then 0 else 1) < 30)) = true := by rfl)
    (oneRow : (apos.endLine == cpos.line) = true := by rfl) (first1 : starEach (e :: es) X.env = (false, eval e X.env) :: starEach es X.env := by rfl)
    (noStar : (backTo cpos (starEach es X.env)).any (·.1) = false := by rfl) : PE X (.Call (.Attribute o "add" apos) (e :: es) [] cpos) (tBAdd X.K X.prog X.w to t) := by
  refine ⟨fun pins s σ H Q I h => ?_⟩
  refine wpAny_Call_method_late late less30 oneRow rfl (thn (ho.run pins s σ H _ I h) fun v s1 ⟨x, H1, I1, r1, ⟨a, L, ex, hka⟩, q1⟩ => ?_)
  subst ex
  obtain ⟨es0, ep0, t0, B⟩ := (show BigSet X.prog X.w s1.heap a L from (I1.hok a _ hka).1)
  obtain ⟨o0, ho0, hex0, _⟩ := B.obj
  cases r1
  refine ⟨"set", "set.add", F.plainAttrs_set, F.slot_set_add, F.type_set_add, ⟨o0, ho0, hex0.1⟩, fun b eb => ?_, ?_⟩
  · obtain rfl : a = b := by injection eb
    exact ⟨o0, ho0, by first | exact hex0.2.1 | exact hex0.2.2⟩
  have hA := ha.run cpos pins s1 σ H1 _ I1 q1
  rw [first1] at hA ⊢
  refine Calls.callWith_builtin (by show (false || (backTo cpos (starEach es X.env)).any (·.1)) = false; rw [noStar] <;> rfl) (Calls.evalArgs_plain ?_)
  exact thn hA fun us s2 ⟨vs, H2, I2, r2, q2⟩ => mt_bAdd hu pins s2 σ H2 (.ref a) vs (.ref a) us Q I2 rfl r2 q2
end
end L2

end
section
set_option maxRecDepth 100000
namespace L2
open PySem PySem.Spec PyProof.Rows
/-! ### a def of the text under its name: its promise, its level, how it is bound -/
structure Cal (P : Program) (w : World) (K : PySem.W.Frag) (mg : Str → Option Value) (base : Heap) (x : Str) (k : Nat) (sp : Sp) : Prop where
  ex : ∃ (f : Addr) (fd : FuncData) (ps : List Str), FnOk P w K mg base CX0 k f fd ps sp ∧ mg x = some (.ref f) ∧ PySem.W.keepIn K (.ref f) = true ∧ Binds K fd ps []
/-- a method of the class at C -/
structure MCal (P : Program) (w : World) (K : PySem.W.Frag) (mg : Str → Option Value) (base : Heap) (C : Addr) (m : Str) (k : Nat) (sp : Sp) : Prop where
  ex : ∃ (f : Addr) (fd : FuncData) (ps : List Str), FnOk P w K mg base CX0 k f fd ps sp ∧ Meth K C m f ∧ Binds K fd ps []
/-- the making of an instance of the class at C, named x; k: the level of its __init__ -/
structure NCal (P : Program) (w : World) (K : PySem.W.Frag) (mg : Str → Option Value) (base : Heap) (C : Addr) (x : Str) (k : Nat) (sp : Sp) : Prop where
  ex : ∃ (f : Addr) (fd : FuncData) (ps : List Str), FnOk P w K mg base CX0 k f fd ps sp ∧ Mk K C f ∧ Binds K fd ps []
  mg : mg x = some (.ref C)
section
variable {X : Cx} {e o : Expr} {es : List Expr} {t : TA} {ta : TE} {x m : Str} {k : Nat} {sp : Sp} {C : Addr} {p pos apos : Pos}
theorem tCall_nil {t : TA} {E : XK} {σ : St} {H : Hp} {Q : VK} (h : t σ H fun vs H1 => sp vs H1 Q E) : tCall sp [] E t σ H Q := by
  unfold tCall
  simpa only [List.append_nil] using h
def tCal (sp : Sp) (t : TA) : TE := fun σ H Q => t σ H fun vs H1 => sp vs H1 Q E0
def tMCal (C : Addr) (m : Str) (sp : Sp) (to : TE) (t : TA) : TE := fun σ H Q => to σ H fun x H1 => ∃ a dx fs, x = .ref a ∧ H1 a = some (.ins C dx fs) ∧ fs.lookup m = none ∧ t σ H1 fun vs H2 => sp (x :: vs) H2 Q E0
def tNCal (C : Addr) (sp : Sp) (t : TA) : TE := fun σ H Q => t σ H fun vs H1 => ∀ x dx, H1 x = none → H1 dx = none → dx ≠ x → sp (.ref x :: vs) (upd (upd H1 dx (.own x)) x (.ins C dx [])) (fun v H2 => v = .non ∧ Q (.ref x) H2) E0
theorem PE.to {t u : TE} (h : PE X e t) (le : ∀ σ H Q, u σ H Q → t σ H Q) : PE X e u := ⟨fun pins s σ H Q I q => h.run pins s σ H Q I (le σ H Q q)⟩
theorem pe_cal (c : Cal X.prog X.w X.K X.mg X.base x k sp) (hr : Room k X.A) (ha : PA X (e :: es) t) (hg : Gl X x := by rfl) (hdb : (x == ("__debug__" : Str)) = false := by decide)
    (he : starEach (e :: es) X.env = (false, eval e X.env) :: starEach es X.env := by rfl) (hpl : (backTo pos (starEach es X.env)).any (·.1) = false := by rfl) :
    PE X (.Call (.Name x p) (e :: es) [] pos) (tCal sp t) := by
  obtain ⟨f, fd, ps, F, hm, hk, hb⟩ := c.ex
  exact (pe_call F hr hg hm hk hb .nil pass0 ha hdb he hpl).to fun σ H Q q => tCall_nil q
theorem pe_cal0 (c : Cal X.prog X.w X.K X.mg X.base x k sp) (hr : Room k X.A) (hg : Gl X x := by rfl) (hdb : (x == ("__debug__" : Str)) = false := by decide) :
    PE X (.Call (.Name x p) [] [] pos) (tCal sp tNil) := by
  obtain ⟨f, fd, ps, F, hm, hk, hb⟩ := c.ex
  exact (pe_call0 F hr hg hm hk hb .nil pass0 hdb).to fun σ H Q q => tCall_nil q
theorem pe_ncal (c : NCal X.prog X.w X.K X.mg X.base C x k sp) (hr : Room (k + 1) X.A) (ha : PA X (e :: es) t) (hg : Gl X x := by rfl) (hdb : (x == ("__debug__" : Str)) = false := by decide)
    (he : starEach (e :: es) X.env = (false, eval e X.env) :: starEach es X.env := by rfl) (hpl : (backTo pos (starEach es X.env)).any (·.1) = false := by rfl) :
    PE X (.Call (.Name x p) (e :: es) [] pos) (tNCal C sp t) := by
  obtain ⟨f, fd, ps, F, M, hb⟩ := c.ex
  refine (pe_make M F hr hg c.mg hb .nil pass0 ha hdb he hpl).to fun σ H Q q => ?_
  unfold tNCal at q
  unfold tMake
  simpa only [List.append_nil] using q
theorem setL_ (K : PySem.W.Frag) (w : World) (hc : X.calm = true) (hK : X.K = K := by rfl) (hw : X.w = w := by rfl) : CallR X (.type "set") (rHuSetL K w) := by
  subst hK hw; exact hu_cr_setL hc
theorem sortedSet_ (w : World) (hc : X.calm = true) (hw : X.w = w := by rfl) : CallR X (.builtin "sorted") (rSortedSet w) := by
  subst hw; exact cr_sortedSet hc
section
variable (K : PySem.W.Frag)
theorem all_ (hc : X.calm = true) (hK : X.K = K := by rfl) : CallR X (.builtin "all") (rAll K) := by subst hK; exact cr_all hc
theorem any_ (hc : X.calm = true) (hK : X.K = K := by rfl) : CallR X (.builtin "any") (rAny K) := by subst hK; exact cr_any hc
theorem sum_ (hc : X.calm = true) (hK : X.K = K := by rfl) : CallR X (.builtin "sum") (rSum K) := by subst hK; exact cr_sum hc
theorem min_ (hc : X.calm = true) (hK : X.K = K := by rfl) : CallR X (.builtin "min") (rMin K) := by subst hK; exact cr_min hc
theorem sortedI_ (hK : X.K = K := by rfl) : CallR X (.builtin "sorted") (rSortedI K) := by subst hK; exact cr_sortedI
theorem sortedPO_ (hK : X.K = K := by rfl) : CallR X (.builtin "sorted") (rSortedPO K) := by subst hK; exact cr_sortedPO
theorem isi_ (hK : X.K = K := by rfl) : CallR X (.builtin "isinstance") (rIsi K) := by subst hK; exact call_isi
theorem inS_ (hK : X.K = K := by rfl) : OpR X (compareOp .In) (rIn K false) := by subst hK; exact op_in_seq
theorem ninS_ (hK : X.K = K := by rfl) : OpR X (compareOp .NotIn) (rIn K true) := by subst hK; exact op_notIn_seq
theorem ixL_ (hK : X.K = K := by rfl) : IxR X (rIxL K) := by subst hK; exact ix_list
theorem ixT_ (hK : X.K = K := by rfl) : IxR X (rIxT K) := by subst hK; exact ix_tup
theorem slL_ (hK : X.K = K := by rfl) : SlR X (rSlL K) := by subst hK; exact sl_list
theorem slT_ (hK : X.K = K := by rfl) : SlR X (rSlT K) := by subst hK; exact sl_tup
theorem catT_ (hK : X.K = K := by rfl) : OpR X (binaryOp .Add) (rCatT K) := by subst hK; exact op_catT
theorem catA_ (hK : X.K = K := by rfl) : OpR X (binaryOp .Add) (rCatA K) := by subst hK; exact op_catA
theorem eqD_ (hu : X.A.units + 64 < cLine) (hK : X.K = K := by rfl) : OpR X (compareOp .Eq) (rEqD K) := by subst hK; exact op_eqD hu
theorem neD_ (hu : X.A.units + 64 < cLine) (hK : X.K = K := by rfl) : OpR X (compareOp .NotEq) (rNeD K) := by subst hK; exact op_neD hu
def rLenS (K : PySem.W.Frag) : List V → Hp → VK → Prop := fun xs H Q => ∃ p ys, xs = [.ref p] ∧ (SqL K H p ys ∨ SqT K H p ys) ∧ Q (.int ys.length) H
theorem lenS_ (hK : X.K = K := by rfl) : CallR X (.builtin "len") (rLenS K) := by subst hK; exact call_len_seq
def rLstOf (K : PySem.W.Frag) : List V → Hp → VK → Prop := fun xs H Q => ∃ p ys, xs = [.ref p] ∧ (SqL K H p ys ∨ SqT K H p ys) ∧ ∀ l, H l = none → Q (.ref l) (upd H l (.lst ys))
theorem lstOf_ (hK : X.K = K := by rfl) : CallR X (.type "list") (rLstOf K) := by subst hK; exact call_list_of
def rTupOf (K : PySem.W.Frag) : List V → Hp → VK → Prop := fun xs H Q => ∃ p ys, xs = [.ref p] ∧ ((SqL K H p ys ∧ ∀ l, H l = none → Q (.ref l) (upd H l (.tup ys))) ∨ (SqT K H p ys ∧ Q (.ref p) H))
theorem tupOf_ (hK : X.K = K := by rfl) : CallR X (.type "tuple") (rTupOf K) := by subst hK; exact call_tuple_of
theorem inT_ (P : Program) (w : World) (hu : X.A.units + 64 < cLine) (hP : X.prog = P := by rfl) (hw : X.w = w := by rfl) (hK : X.K = K := by rfl) : OpR X (compareOp .In) (rHuInT K P w) := by subst hK hP hw; exact hu_or_inT hu
theorem fld_ {f : Str} (he : PE X e ta) (hb : attributeBase e f X.env (eval e X.env) = eval e X.env := by rfl) (hK : X.K = K := by rfl) : PE X (.Attribute e f pos) (tFld K ta f) := by subst hK; exact pe_fld he hb
theorem cval_ {f : Str} (he : PE X e ta) (hb : attributeBase e f X.env (eval e X.env) = eval e X.env := by rfl) (hK : X.K = K := by rfl) : PE X (.Attribute e f pos) (ClX.tCVal K ta f) := by subst hK; exact ClX.pe_cval he hb
theorem pil_ {tg l : Expr} {tl : TE} (hl : PE X l tl) (hK : X.K = K := by rfl) : PI X tg l (iList K tl) := by subst hK; exact pi_list hl
theorem pit_ {tg l : Expr} {tl : TE} (hl : PE X l tl) (hK : X.K = K := by rfl) : PI X tg l (iTup K tl) := by subst hK; exact pi_tup hl
theorem star_ {te : TE} (he : PE X e te) (hr : PA X es t) (hK : X.K = K := by rfl) : PA X (.Starred e p :: es) (StX.tStar K te t) := by subst hK; exact StX.pa_star he hr
theorem revL_ {te : TE} {j : Nat} {p1 p2 p3 : Pos} (he : PE X e te) (hK : X.K = K := by rfl) : PE X (.Subscript e (.Slice none none (some (.UnaryOp .USub (.Constant (.int 1) j p1) p2)) p3) pos) (tRevL K te) := by subst hK; exact pe_revL he
def tTru (K : PySem.W.Frag) (ta : TE) : TT := fun σ H Q => ta σ H fun x H' => ∃ k, TruV K x H' k ∧ Q k H'
theorem truth_ (he : PE X e ta) (hh : ∀ whole, isTrue e X.env whole = (do let v ← whole; standAt e.pos; holding [v] (truthy v)) := by intro _; rfl) (hK : X.K = K := by rfl) : PT X e (tTru K ta) := by subst hK; exact pt_truth he hh
end
end
theorem b_len : bootBuiltins ("len" : Str) = some (.builtin "len") := by decide +kernel
theorem b_abs : bootBuiltins ("abs" : Str) = some (.builtin "abs") := by decide +kernel
theorem b_min : bootBuiltins ("min" : Str) = some (.builtin "min") := by decide +kernel
theorem b_max : bootBuiltins ("max" : Str) = some (.builtin "max") := by decide +kernel
theorem b_all : bootBuiltins ("all" : Str) = some (.builtin "all") := by decide +kernel
theorem b_any : bootBuiltins ("any" : Str) = some (.builtin "any") := by decide +kernel
theorem b_sum : bootBuiltins ("sum" : Str) = some (.builtin "sum") := by decide +kernel
theorem b_sorted : bootBuiltins ("sorted" : Str) = some (.builtin "sorted") := by decide +kernel
theorem b_isinstance : bootBuiltins ("isinstance" : Str) = some (.builtin "isinstance") := by decide +kernel
theorem b_int : bootBuiltins ("int" : Str) = some (.type "int") := by decide +kernel
theorem b_bool : bootBuiltins ("bool" : Str) = some (.type "bool") := by decide +kernel
theorem b_tuple : bootBuiltins ("tuple" : Str) = some (.type "tuple") := by decide +kernel
theorem b_list : bootBuiltins ("list" : Str) = some (.type "list") := by decide +kernel
theorem b_set : bootBuiltins ("set" : Str) = some (.type "set") := by decide +kernel
theorem b_range : bootBuiltins ("range" : Str) = some (.type "range") := by decide +kernel
theorem b_str : bootBuiltins ("str" : Str) = some (.type "str") := by decide +kernel
end L2

end
section
set_option maxRecDepth 100000
namespace Hue
open PySem PySem.Spec PyProof.Rows L2
/-! ### heaps -/
theorem same_new {H : Hp} {p : Addr} {o : HO} (h : H p = Option.none) : Same H (upd H p o) := fun b u e => by
  rw [upd_ne (ne_of_none e h)]; exact e
theorem same_upd {H0 H : Hp} {p : Addr} {o : HO} (s : Same H0 H) (h : H0 p = Option.none) : Same H0 (upd H p o) := fun b u e => by
  rw [upd_ne (ne_of_none e h)]; exact s b u e
theorem same_then {H0 H : Hp} {p : Addr} {o : HO} (s : Same H0 H) (h : H p = Option.none) : Same H0 (upd H p o) := s.trans (same_new h)
theorem Same.tup {K : PySem.W.Frag} {H H' : Hp} {a : Addr} {xs : List V} (e : Same H H') (h : SqT K H a xs) : SqT K H' a xs := by
  rcases h with (h | ⟨o, h⟩) | h
  · exact .inl (.inl (e _ _ h))
  · exact .inl (.inr ⟨o, e _ _ h⟩)
  · exact .inr h
theorem ifT {c : Bool} {A B : Prop} (hc : c = true) (h : A) : if c = true then A else B := by rw [if_pos hc]; exact h
theorem ifF {c : Bool} {A B : Prop} (hc : c = false) (h : B) : if c = true then A else B := by rw [hc, if_neg Bool.false_ne_true]; exact h
theorem yesT {σ : L2.St} {H : Hp} {X Y : Hp → Prop} (h : X H) : tYes σ H (fun b H3 => if b = true then X H3 else Y H3) := h
/-! ### lists of numbers -/
def nI (l : List Nat) : List Int := l.map fun k : Nat => (k : Int)
def nL (l : List Nat) : List V := (nI l).map V.int
theorem nL_get {l : List Nat} {i k : Nat} (h : l[i]? = some k) : (nL l)[i]? = some (V.int (k : Int)) := by
  unfold nL nI; simp [List.getElem?_map, h]
theorem nL_len (l : List Nat) : (nL l).length = l.length := by unfold nL nI; simp
theorem nI_len (l : List Nat) : (nI l).length = l.length := by unfold nI; simp
theorem mem_nI {l : List Nat} {z : Int} : z ∈ nI l ↔ ∃ k, k ∈ l ∧ (k : Int) = z := by unfold nI; simp
theorem nL_app (a b : List Nat) : nL (a ++ b) = nL a ++ nL b := by unfold nL nI; simp
theorem nL_one (k : Nat) : nL [k] = [V.int (k : Int)] := rfl
theorem asc_ext : ∀ {a b : List Int}, a.Pairwise (· < ·) → b.Pairwise (· < ·) → (∀ k, k ∈ a ↔ k ∈ b) → a = b
  | [], [], _, _, _ => rfl
  | [], y :: b, _, _, h => absurd ((h y).mpr List.mem_cons_self) List.not_mem_nil
  | x :: a, [], _, _, h => absurd ((h x).mp List.mem_cons_self) List.not_mem_nil
  | x :: a, y :: b, ha, hb, h => by
    rw [List.pairwise_cons] at ha hb
    have exy : x = y := by
      rcases List.mem_cons.mp ((h x).mp List.mem_cons_self) with e | e
      · exact e
      · rcases List.mem_cons.mp ((h y).mpr List.mem_cons_self) with f | f
        · exact f.symm
        · have h1 := hb.1 x e
          have h2 := ha.1 y f
          omega
    subst exy
    rw [asc_ext ha.2 hb.2 fun k => ⟨fun hk => ?_, fun hk => ?_⟩]
    · rcases List.mem_cons.mp ((h k).mp (List.mem_cons_of_mem _ hk)) with e | e
      · have := ha.1 k hk; omega
      · exact e
    · rcases List.mem_cons.mp ((h k).mpr (List.mem_cons_of_mem _ hk)) with e | e
      · have := hb.1 k hk; omega
      · exact e
/-! ### relations on lamps -/
abbrev Rel := Nat → Nat → Bool
def Bel (n : Nat) (R : Rel) (i : Nat) : List Nat := (List.range n).filter fun j => R i j
theorem mem_Bel {n : Nat} {R : Rel} {i j : Nat} : j ∈ Bel n R i ↔ j < n ∧ R i j = true := by unfold Bel; simp
theorem Bel_asc (n : Nat) (R : Rel) (i : Nat) : (nI (Bel n R i)).Pairwise (· < ·) := by
  unfold nI
  rw [List.pairwise_map]
  have h : (List.range n).Pairwise (· < ·) := List.pairwise_lt_range
  refine List.Pairwise.imp ?_ (List.Pairwise.filter _ h)
  intro a b hab; omega
theorem Bel_len (n : Nat) (R : Rel) (i : Nat) : (Bel n R i).length ≤ n := by
  unfold Bel
  refine Nat.le_trans (List.length_filter_le ..) ?_
  rw [List.length_range]; exact Nat.le_refl _
theorem Bel_congr {n : Nat} {R S : Rel} {i : Nat} (h : ∀ j, j < n → R i j = S i j) : Bel n R i = Bel n S i := by
  unfold Bel
  refine List.filter_congr fun j hj => ?_
  exact h j (List.mem_range.mp hj)
def addW (R : Rel) (u l : Nat) : Rel := fun i j => R i j || ((i == u || R i u) && (j == l || R l j))
/-- at b: a list of lists of numbers -/
def Rows (H : Hp) (b : Addr) (rows : List (List Nat)) : Prop :=
  ∃ as : List Addr, H b = some (.lst (as.map V.ref)) ∧ as.length = rows.length ∧ ∀ (i : Nat) a r, as[i]? = some a → rows[i]? = some r → H a = some (.lst (nL r))
theorem Rows.same {H H' : Hp} {b : Addr} {rows : List (List Nat)} (h : Rows H b rows) (s : Same H H') : Rows H' b rows := by
  obtain ⟨as, h1, h2, h3⟩ := h
  exact ⟨as, s _ _ h1, h2, fun i a r ha hr => s _ _ (h3 i a r ha hr)⟩
/-- the row at i, as Python reads it -/
theorem Rows.at {H : Hp} {b : Addr} {rows : List (List Nat)} (h : Rows H b rows) {i : Nat} {r : List Nat} (hr : rows[i]? = some r) : ∃ xs a, H b = some (.lst xs) ∧ xs.length = rows.length ∧ xs[i]? = some (V.ref a) ∧ H a = some (.lst (nL r)) := by
  obtain ⟨as, h1, h2, h3⟩ := h
  have hi : i < as.length := by rw [h2]; exact (List.getElem?_eq_some_iff.mp hr).1
  refine ⟨_, as[i], h1, by rw [List.length_map, h2], by rw [List.getElem?_map, List.getElem?_eq_getElem hi]; rfl, h3 i _ r (List.getElem?_eq_getElem hi) hr⟩
def relRows (n : Nat) (R : Rel) : List (List Nat) := (List.range n).map (Bel n R)
theorem relRows_at {n : Nat} {R : Rel} {i : Nat} (h : i < n) : (relRows n R)[i]? = some (Bel n R i) := by
  unfold relRows; rw [List.getElem?_map, List.getElem?_range h]; rfl
theorem relRows_len (n : Nat) (R : Rel) : (relRows n R).length = n := by unfold relRows; simp
theorem flat_nL (l : List Nat) : (nL l).all flatV = true := by
  unfold nL; rw [List.all_eq_true]; intro x hx
  obtain ⟨z, _, rfl⟩ := List.mem_map.mp hx
  rfl
theorem in_nL {k : Nat} {l : List Nat} : inV (V.int (k : Int)) (nL l) = decide (k ∈ l) := by
  unfold inV nL nI
  rw [Bool.eq_iff_iff, List.any_eq_true, decide_eq_true_eq]
  constructor
  · rintro ⟨x, hx, e⟩
    obtain ⟨z, hz, rfl⟩ := List.mem_map.mp hx
    obtain ⟨m, hm, rfl⟩ := List.mem_map.mp hz
    have e2 : ((m : Int) == (k : Int)) = true := e
    have e3 : (m : Int) = (k : Int) := by simpa using e2
    have e4 : m = k := by omega
    rw [← e4]; exact hm
  · intro hk
    refine ⟨V.int k, List.mem_map.mpr ⟨k, List.mem_map.mpr ⟨k, hk, rfl⟩, rfl⟩, ?_⟩
    show ((k : Int) == (k : Int)) = true
    simp
theorem Rows.ext {H : Hp} {b e : Addr} {rows : List (List Nat)} {φ : Heap → Prop} {o : HO} (h : Rows H b rows) (he : H e = some (.ext φ)) : Rows (upd H e o) b rows := by
  obtain ⟨as, h1, h2, h3⟩ := h
  refine ⟨as, ?_, h2, fun i a r ha hr => ?_⟩
  · rw [upd_ne (ne_of h1 he (by intro z; cases z))]; exact h1
  · rw [upd_ne (ne_of (h3 i a r ha hr) he (by intro z; cases z))]; exact h3 i a r ha hr
/-- the tuples at ts are the pairs ps -/
def Pairs (H : Hp) (ts : List Addr) (ps : List (Nat × Nat)) : Prop :=
  ts.length = ps.length ∧ ∀ (i : Nat) t p, ts[i]? = some t → ps[i]? = some p → H t = some (.tup [.int (p.1 : Int), .int (p.2 : Int)])
theorem Pairs.same {H H' : Hp} {ts : List Addr} {ps : List (Nat × Nat)} (h : Pairs H ts ps) (s : Same H H') : Pairs H' ts ps := ⟨h.1, fun i t p a b => s _ _ (h.2 i t p a b)⟩
def relOf (ps : List (Nat × Nat)) : Rel := ps.foldl (fun R p => addW R p.1 p.2) fun _ _ => false
theorem relOf_more {ps : List (Nat × Nat)} {i : Nat} {p : Nat × Nat} (h : ps[i]? = some p) : relOf (ps.take (i + 1)) = addW (relOf (ps.take i)) p.1 p.2 := by
  unfold relOf
  rw [List.take_add_one, h, List.foldl_append]
  rfl
/-- along a rank the relation goes up -/
theorem relOf_rank {ρ : Nat → Nat} : ∀ {ps : List (Nat × Nat)}, (∀ p ∈ ps, ρ p.1 < ρ p.2) → ∀ i j, relOf ps i j = true → ρ i < ρ j := by
  have key : ∀ (ps : List (Nat × Nat)) (R : Rel), (∀ i j, R i j = true → ρ i < ρ j) → (∀ p ∈ ps, ρ p.1 < ρ p.2) → ∀ i j, ps.foldl (fun R p => addW R p.1 p.2) R i j = true → ρ i < ρ j := by
    intro ps
    induction ps with
    | nil => intro R hR _; exact hR
    | cons p ps ih =>
      intro R hR hp
      refine ih (addW R p.1 p.2) (fun i j h => ?_) fun q hq => hp q (List.mem_cons_of_mem _ hq)
      have hp0 := hp p List.mem_cons_self
      unfold addW at h
      rw [Bool.or_eq_true, Bool.and_eq_true, Bool.or_eq_true, Bool.or_eq_true, beq_iff_eq, beq_iff_eq] at h
      rcases h with h | ⟨h1, h2⟩
      · exact hR i j h
      · have a1 : ρ i ≤ ρ p.1 := by
          rcases h1 with e | e
          · rw [e]; exact Nat.le_refl _
          · exact Nat.le_of_lt (hR _ _ e)
        have a2 : ρ p.2 ≤ ρ j := by
          rcases h2 with e | e
          · rw [e]; exact Nat.le_refl _
          · exact Nat.le_of_lt (hR _ _ e)
        omega
  intro ps hp i j h
  exact key ps _ (fun i j h => by cases h) hp i j h
theorem mem_take_of {α : Type} {l : List α} {n : Nat} {x : α} (h : x ∈ l.take n) : x ∈ l := List.mem_of_mem_take h
/-! ### lists that a comprehension collects -/
def Coll (H1 : Hp) (D : Addr) (f : Nat → List V) (i : Nat) (H2 : Hp) : Prop :=
  ∃ as : List Addr, H2 D = some (.lst (as.map V.ref)) ∧ as.length = i ∧ Same H1 H2 ∧ ∀ (j : Nat) a, as[j]? = some a → a ≠ D ∧ H2 a = some (.lst (f j))
theorem Coll.start {H1 : Hp} {D : Addr} {f : Nat → List V} (hD : H1 D = Option.none) : Coll H1 D f 0 (upd H1 D (.lst [])) := ⟨[], upd_same, rfl, same_new hD, fun j a e => by simp at e⟩
theorem Coll.more {H1 H2 H3 : Hp} {D a : Addr} {f : Nat → List V} {i : Nat} (c : Coll H1 D f i H2) (hD : H1 D = Option.none) (s : Same H2 H3) (na : a ≠ D) (ha : H3 a = some (.lst (f i))) (hi : i < 1000) :
    ∃ acc, H3 D = some (.lst acc) ∧ acc.length < sizeLine ∧ Coll H1 D f (i + 1) (upd H3 D (.lst (acc ++ [V.ref a]))) := by
  obtain ⟨as, h1, h2, s2, h3⟩ := c
  refine ⟨_, s _ _ h1, by rw [List.length_map, h2, sizeLine_eq]; omega, as ++ [a], by rw [upd_same, List.map_append]; rfl, by rw [List.length_append, h2]; rfl, same_upd (s2.trans s) hD, fun j c2 e => ?_⟩
  rcases Nat.lt_or_ge j as.length with lt | ge
  · rw [List.getElem?_append_left lt] at e
    obtain ⟨n1, n2⟩ := h3 j c2 e
    exact ⟨n1, by rw [upd_ne n1]; exact s _ _ n2⟩
  · rw [List.getElem?_append_right ge] at e
    have j0 : j - as.length = 0 := by
      rcases Nat.eq_zero_or_pos (j - as.length) with z | z
      · exact z
      · rw [List.getElem?_eq_none (by rw [List.length_singleton]; exact z)] at e; cases e
    rw [j0] at e
    cases e
    have ji : j = i := by omega
    rw [ji]
    exact ⟨na, by rw [upd_ne na]; exact ha⟩
theorem Coll.same {H1 H2 : Hp} {D : Addr} {f : Nat → List V} {i : Nat} (c : Coll H1 D f i H2) : Same H1 H2 := let ⟨_, _, _, s, _⟩ := c; s
theorem Coll.rows {H1 H2 : Hp} {D : Addr} {n : Nat} {R : Rel} (c : Coll H1 D (fun j => nL (Bel n R j)) n H2) : Rows H2 D (relRows n R) := by
  obtain ⟨as, h1, h2, _, h3⟩ := c
  refine ⟨as, h1, by rw [h2, relRows_len], fun i a r ha hr => ?_⟩
  have hi : i < n := by rw [← h2]; exact (List.getElem?_eq_some_iff.mp ha).1
  rw [relRows_at hi] at hr
  cases hr
  exact (h3 i a ha).2
/-! ### all but one place as it was -/
def SB (x : Addr) (H H' : Hp) : Prop := ∀ b o, b ≠ x → H b = some o → H' b = some o
theorem SB.of {x : Addr} {H H' : Hp} (s : Same H H') : SB x H H' := fun b o _ e => s b o e
theorem SB.trans {x : Addr} {H H1 H2 : Hp} (a : SB x H H1) (b : SB x H1 H2) : SB x H H2 := fun c o n e => b c o n (a c o n e)
theorem SB.refl (x : Addr) (H : Hp) : SB x H H := fun _ _ _ e => e
theorem SB.upd {x : Addr} {H H1 : Hp} {o : HO} (a : SB x H H1) : SB x H (upd H1 x o) := fun c u n e => by rw [upd_ne n]; exact a c u n e
theorem SB.rows {x b : Addr} {H H' : Hp} {rows : List (List Nat)} {C dx : Addr} {fs : List (Str × V)} (s : SB x H H') (hx : H x = some (.ins C dx fs)) (h : Rows H b rows) : Rows H' b rows := by
  obtain ⟨as, h1, h2, h3⟩ := h
  exact ⟨as, s _ _ (ne_of h1 hx (by intro z; cases z)) h1, h2, fun i a r ha hr => s _ _ (ne_of (h3 i a r ha hr) hx (by intro z; cases z)) (h3 i a r ha hr)⟩
theorem lk_same (f : Str) (v : V) (fs : List (Str × V)) : (putF f v fs).lookup f = some v := by rw [lookup_putF, if_pos rfl]
theorem lk_ne {f g : Str} (v : V) (fs : List (Str × V)) (h : ¬ g = f) : (putF f v fs).lookup g = fs.lookup g := by rw [lookup_putF, if_neg h]
theorem put_few {f : Str} {v : V} {fs : List (Str × V)} {k : Nat} (h : fs.length ≤ k) : (putF f v fs).length ≤ k + 1 := by
  have := length_putF f v fs; omega
/-! ### a def with defaults, all parameters given -/
structure FunV (K : PySem.W.Frag) (x qual : Str) (st : Stmt) (f : Addr) (fd : FuncData) : Prop where
  ex : ∃ (oc : Value) (od : Option Addr) (dV kV doc pm : Value) (an : Option Addr) (cdv ct : Value) (osl : Array (Option Value)),
    fd = PySem.W.fnOf x qual (defArgs st) (defBody st) (defScope st) dV kV doc pm an cdv ct ∧ K.lookup f = some ⟨oc, od, .func fd, osl⟩ ∧ PySem.W.codeIn K cdv qual = true
  kp : PySem.W.keepIn K (.ref f) = true
theorem FunV.ok {P : Program} {w : World} {K : PySem.W.Frag} {mg : Str → Option Value} {base : Heap} {x qual : Str} {st : Stmt} {f : Addr} {fd : FuncData} {N ps : List Str} {k : Nat} {sp : Sp} (F : FunV K x qual st f fd) (S : FnScope N ps (defScope st)) (len : ∀ vs H Q E, sp vs H Q E → vs.length = ps.length)
    (hbody : ∀ (cdv : Value) (A : Around) (outer : List Env) (s : Shared) (H : Hp) (vs : List V) (Q : VK) (E : XK), Room k (A.deeper (envOfC qual (defScope st) s.heap.objs.size f cdv)) → sp vs H Q E →
      ∃ t, PSs (cxOf CX0 P w K mg base N qual (defScope st) f cdv A outer s H E).nox (defBody st) t ∧ t { nx := fun _ H' => Q .non H', rt := Q } (start N vs) H) : FnOk P w K mg base CX0 (k + 1) f fd ps sp := by
  obtain ⟨oc, od, dV, kV, doc, pm, an, cdv, ct, osl, rfl, lk, hcd⟩ := F.ex
  refine fn_of lk hcd S len fun A outer s H vs Q E hr hsp => ?_
  obtain ⟨t, h, q⟩ := hbody cdv A outer s H vs Q E hr hsp
  exact ⟨t, h.nox, q⟩
/-- a store into a list by place -/
theorem set_at {H : Hp} {p : Addr} {xs : List V} {k : Int} {j : Nat} {v : V} {Q : Hp → Prop} (hp : H p = some (.lst xs)) (hk : ixN xs.length k = some j)
    (h : ∀ H', SB p H H' → H' p = some (.lst (xs.set j v)) → Q H') : rSetL (.ref p) (.int k) v H Q := ⟨p, xs, k, j, rfl, rfl, hp, hk, h _ (SB.upd (SB.refl p H)) upd_same⟩
theorem ixN_nat {n k : Nat} (h : k < n) : ixN n (k : Int) = some k := by
  unfold ixN
  rw [if_pos (by omega), if_pos (by omega), Int.toNat_natCast]
theorem SB.to_same {x : Addr} {H0 H H' : Hp} (s : SB x H H') (s0 : Same H0 H) (n : H0 x = Option.none) : Same H0 H' := fun b o e => s b o (fun z => by rw [z, n] at e; cases e) (s0 b o e)
end Hue

end
section
set_option maxRecDepth 100000
set_option maxHeartbeats 2000000
namespace L2
open PySem PySem.Spec PyProof.Rows
/-! ### enumerate(t), t a tuple -/
theorem eT_new {v : Value} {o : Obj} {G : Heap → Prop} (B : Begins v o G) :
    Meets (Builtin.«enumerate.__new__» ⟨[.type "enumerate", v], []⟩) (fun _ R s => G s.heap ∧
      R (.ok (.ret (.ref (s.heap.push o).objs.size))) { s with heap := (s.heap.push o).push { cls := .type "enumerate", data := .fields #[.none, .bool false, .ref s.heap.objs.size, rawInt 0, .none, .none] } }) :=
  .of_wp fun prog w A R s h => by
    obtain ⟨hp, g, d, tk, os⟩ := s
    obtain ⟨h1, h⟩ := h
    have hsub := sub_enumerate
    have q1 : ∀ {A' : Around} {E : Value → Shared → Prop} {Q : Value → Shared → Prop}, Q (.ref hp.objs.size) ⟨hp.push o, g, d, tk, os⟩ → wpAny (model prog w) A' (pyIter v) Q E ⟨hp, g, d, tk, os⟩ :=
      fun q => B.iter prog w _ _ ⟨hp, g, d, tk, os⟩ _ h1 q
    wp_walk using q1
    refine wpAny_stack_any fun st => wpAny_pure ?_
    split
    · rename_i c _ _ _ _ _
      cases (c == Value.type "enumerate")
      · wp_walk using q1
        exact ⟨_, rfl, h⟩
      · wp_walk using q1
        exact ⟨_, rfl, h⟩
    · wp_walk using q1
      exact ⟨_, rfl, h⟩
section
variable {prog : Program} {w : World} {A : Around} {E : Value → Shared → Prop} {s : Shared}
theorem eT_call {v : Value} {o : Obj} {G : Heap → Prop} {Q : Value → Shared → Prop} (B : Begins v o G) (h1 : G s.heap)
    (h : ∀ h', IsEnum h' (s.heap.objs.size + 1) s.heap.objs.size 0 .none → h'.get? s.heap.objs.size = some o → (∀ b o, s.heap.get? b = some o → h'.get? b = some o) → Q (.ref (s.heap.objs.size + 1)) { s with heap := h' }) :
    wpAny (model prog w) A (call (.type "enumerate") [v]) Q E s := by
  refine callType_new F.called_enumerate (by decide) (F.typeCall_enumerate_1 _) (F.newCall_enumerate_1 _) (fun obj => F.args_object_init_2 obj _) F.entry_enumerate_new (eT_new B) ⟨h1, ?_⟩
  have sz : (s.heap.push o).objs.size = s.heap.objs.size + 1 := Heap.size_push ..
  show _ ∧ _
  rw [sz]
  have new : IsEnum ((s.heap.push o).push { cls := .type "enumerate", data := .fields #[.none, .bool false, .ref s.heap.objs.size, rawInt 0, .none, .none] }) (s.heap.objs.size + 1) s.heap.objs.size 0 .none := by
    have z := Heap.get?_push_size (s.heap.push o) (o := { cls := .type "enumerate", data := .fields #[.none, .bool false, .ref s.heap.objs.size, rawInt 0, .none, .none] }) rfl
    rw [sz] at z
    exact z
  exact ⟨⟨_, new, rfl⟩, h _ new (Heap.get?_push_of_some _ (Heap.get?_push_size _ B.free)) fun b o x => Heap.get?_push_of_some _ (Heap.get?_push_of_some _ x)⟩
end
/-- the turns of enumerate(t), t the tuple at a -/
def IteT (K : PySem.W.Frag) (a : Addr) (n : Nat) : It :=
  ⟨fun i H => i < n ∧ ∃ (xs : List V) (x : V), SqT K H a xs ∧ xs[i]? = some x, fun i H v H' => ∃ T x, v = .ref T ∧ H T = none ∧ H' = upd H T (.tup [.int (i : Nat), x]) ∧ ∀ xs, SqT K H a xs → xs[i]? = some x, fun i H => n ≤ i ∧ ∃ xs : List V, SqT K H a xs ∧ xs.length = n⟩
theorem turn_enumT {P : Program} {w : World} {K : PySem.W.Frag} {elts : List Expr} {kk : Nat} {tpos : Pos} (a e it : Addr) (n : Nat) :
    Turn P w K (.Tuple elts kk tpos) (IteT K a n) [e, it] e (fun i h => i ≤ n ∧ (∃ old, IsEnum h e it ((i : Nat) : Int) old) ∧ h.IsTupleIter it a i ∧ e ≠ it ∧ a ≠ it) where
  mem := by simp
  obj := fun i h st b hb => by
    obtain ⟨_, ⟨old, he⟩, ⟨o, ho, hc, hd⟩, _⟩ := st
    rcases (show b = e ∨ b = it by simpa using hb) with z | z
    · rw [z]; exact ⟨_, he, fun v q => nomatch q⟩
    · rw [z]; exact ⟨o, ho, fun v q => by rw [hd] at q; cases q⟩
  keep := fun i h h' st k => by
    obtain ⟨le, ⟨old, he⟩, ⟨o, ho, r⟩, n1, n2⟩ := st
    exact ⟨le, ⟨old, k e (by simp) _ he⟩, ⟨o, k it (by simp) o ho, r⟩, n1, n2⟩
  item := by
    intro X hP hw hK hc i pins s σ H E I hf st hg
    subst hP hw hK
    obtain ⟨le, ⟨old, he⟩, hit, hne, nai⟩ := st
    obtain ⟨ltn, xs, x, hq, hx⟩ := hg
    obtain ⟨its, rv, p, hz⟩ := I.tuple hq
    obtain ⟨u, hu, ru⟩ := rv.get hx
    have hel : e < s.heap.objs.size := Heap.lt_size he
    have hil : it < s.heap.objs.size := by obtain ⟨_, q, _⟩ := hit; exact Heap.lt_size q
    have nea : e ≠ a := fun z => by
      obtain ⟨o, ho, hcl, _⟩ := p
      have he2 := he
      rw [z] at he2
      have q := ho.symm.trans he2
      cases q
      exact absurd (Value.type.inj hcl) (by decide)
    have iu : i < its.toArray.size := by
      have z := (List.getElem?_eq_some_iff.mp hu).1
      simpa using z
    refine wpAny_pyNext_enum_itemD (Draws.tuple (A := X.A.in1) (I.ok.hd hc) it a nai its.toArray) he ⟨hit, p⟩ iu hne (by simp [hne, nea]) fun v h' tk hv ho st' hT hsz hk => ?_
    have ev : v = u := by
      have hv' : its.toArray[i]? = some v := hv
      have hu' : its.toArray[i]? = some u := by simpa using hu
      rw [hu'] at hv'
      exact (Option.some.inj hv').symm
    subst ev
    refine ⟨_, rfl, wpAny_letOwnedTupleGo_enum (s := { s with heap := h', toks := tk + 1 }) ho fun h'' he' sb => ?_⟩
    have hT2 : h''.get? s.heap.objs.size = some { cls := .type "tuple", data := .seq #[.int i tk, v] } := (sb.2 _ (Nat.ne_of_gt hel)).trans hT
    have new : ObjOk X.prog X.w (upd H s.heap.objs.size (.tup [.int (i : Nat), x])) h'' s.heap.objs.size (.tup [.int (i : Nat), x]) :=
      ⟨by show 2 ≤ sizeLine; decide, [.int i tk, v], .cons ⟨_, rfl⟩ (.cons ru .nil), ⟨_, hT2, rfl, _, rfl⟩⟩
    have I1 : Inv X pins σ (upd H s.heap.objs.size (.tup [.int (i : Nat), x])) { s with heap := h'', toks := tk + 1 } :=
      I.turnedNew (ch := [e, it]) (fun b ob hb q => (sb.2 b (fun z => hb (by simp [z]))).trans (hk b ob (fun z => hb (by simp [z])) (fun z => hb (by simp [z])) q)) hf (Nat.le_refl _) new
    refine ⟨.ref s.heap.objs.size, _, I1, rfl, ⟨_, x, rfl, I.hok.fresh (Nat.le_refl _), rfl, fun ys hy => by rw [I.tuple_inj hy hq]; exact hx⟩, ⟨ltn, ⟨v, ?_⟩, ?_, hne, nai⟩, fun b hb => ?_⟩
    · have e1 : ((i + 1 : Nat) : Int) = (i : Int) + 1 := by omega
      rw [e1]; exact he'
    · obtain ⟨o, ho2, r⟩ := st'.1
      exact ⟨o, (sb.2 it (Ne.symm hne)).trans ho2, r⟩
    · have lt : b < s.heap.objs.size := by
        rcases (show b = e ∨ b = it by simpa using hb) with z | z
        · rw [z]; exact hel
        · rw [z]; exact hil
      rw [upd_ne (Nat.ne_of_lt lt)]
      exact (hf b hb).1
  done := by
    intro X hP hw hK hc i pins s σ H E I hf st hg
    subst hP hw hK
    obtain ⟨le, ⟨old, he⟩, hit, hne, nai⟩ := st
    obtain ⟨gen, xs, hq, hx⟩ := hg
    obtain ⟨its, rv, p, hz⟩ := I.tuple hq
    obtain ⟨f0, f1, f2, f3, f4, f5⟩ := hf it (by simp)
    have ei : i = its.toArray.size := by
      rw [List.size_toArray, ← rv.length]
      omega
    rw [ei] at hit
    exact wpAny_pyNext_enum_endD (Draws.tuple (A := X.A.in1) (I.ok.hd hc) it a nai its.toArray) he ⟨hit, p⟩ fun h' eb => ⟨rfl, I.turned (t' := s.toks) (fun b o hb q => eb b o hb q) f0 f1 f3 f4 f5⟩
  self := fun A i s Q E st h => let ⟨_, ⟨_, he⟩, _⟩ := st; wpAny_pyIter_enum he h
/-- enumerate(x), x a list or a tuple -/
def iEnumA (K : PySem.W.Frag) (ta : TA) : TI := fun σ H R => ta σ H fun vs H1 => ∃ a xs, vs = [.ref a] ∧ ((SqL K H1 a xs ∧ R (Ite K a) H1) ∨ (SqT K H1 a xs ∧ R (IteT K a xs.length) H1))
theorem pi_enumA {X : Cx} {e : Expr} {ta : TA} {p pos tpos : Pos} {elts : List Expr} {kk : Nat} (hg : Gl X "enumerate") (hm : X.mg "enumerate" = none) (ha : PA X [e] ta) (hs : starEach [e] X.env = [(false, eval e X.env)] := by rfl) :
    PI X (.Tuple elts kk tpos) (.Call (.Name "enumerate" p) [e] [] pos) (iEnumA X.K ta) := by
  refine ⟨fun pins s σ H R I h => ?_⟩
  refine Call_ (ld_blt I hg hm boot_enumerate (PyProof.Rows.callWith_type1 (thn (ha.run pos pins s σ H _ I h) fun us s1 ⟨vs, H1, I1, r1, q1⟩ => ?_) hs rfl))
  obtain ⟨a, xs, ex, q⟩ := q1
  subst ex
  cases r1 with
  | cons r rr =>
    cases rr
    cases r
    have fp : ∀ b ∈ [s1.heap.objs.size + 1, s1.heap.objs.size], s1.heap.objs.size ≤ b := fun b hb => by
      rcases (show b = s1.heap.objs.size + 1 ∨ b = s1.heap.objs.size by simpa using hb) with z | z
      · rw [z]; exact Nat.le_succ _
      · rw [z]; exact Nat.le_refl _
    rcases q with ⟨hq, q⟩ | ⟨hq, q⟩
    · obtain ⟨its, rv, p', hz⟩ := I1.list hq
      refine eT_call (begins_list a its.toArray) p'.isList fun h' he hit hk => wpAny_pyIter_enum he ?_
      exact ⟨_, _, _, _, H1, rfl, I1.kept (t' := s1.toks) hk, turn_enum a (s1.heap.objs.size + 1) s1.heap.objs.size, ⟨⟨.none, he⟩, ⟨_, hit, rfl, rfl⟩, Nat.succ_ne_self _⟩, fun b hb => I1.fpOk (fp b hb) (I1.hok.fresh (fp b hb)), q⟩
    · obtain ⟨its, rv, p', hz⟩ := I1.tuple hq
      have lt : a < s1.heap.objs.size := let ⟨_, ho, _⟩ := p'; Heap.lt_size ho
      refine eT_call (begins_tuple a its.toArray) p' fun h' he hit hk => wpAny_pyIter_enum he ?_
      exact ⟨_, _, _, _, H1, rfl, I1.kept (t' := s1.toks) hk, turn_enumT a (s1.heap.objs.size + 1) s1.heap.objs.size xs.length, ⟨Nat.zero_le _, ⟨.none, he⟩, ⟨_, hit, rfl, rfl⟩, Nat.succ_ne_self _, Nat.ne_of_lt lt⟩, fun b hb => I1.fpOk (fp b hb) (I1.hok.fresh (fp b hb)), q⟩
theorem walk_enumT {K : PySem.W.Frag} {a : Addr} {xs : List V} : Walk (IteT K a xs.length) xs.length (fun H => SqT K H a xs) (YPair (fun i => some (.int (i : Nat))) (fun i => xs[i]?)) := by
  refine ⟨fun i _ hi q => ⟨hi, xs, xs[i], q, by simp [hi]⟩, fun _ q => ⟨Nat.le_refl _, xs, q, rfl⟩, fun i H v H' _ q y => ?_⟩
  obtain ⟨T, x, h1, h2, h3, h4⟩ := y
  exact ⟨T, .int (i : Nat), x, h1, h2, h3, rfl, h4 xs q⟩
end L2

end
section
set_option maxRecDepth 100000
set_option maxHeartbeats 2000000
namespace Srt
open PySem PySem.W PySem.Calls PyProof.Rows
section
variable {prog : Program} {w : World} {A : Around} {E : Value → Shared → Prop} {s : Shared}
/-- sorted(x), x a list or a tuple of pairs of ints -/
theorem hu_sorted_seq {l : Addr} {T : String} {o : Obj} {items : Array Value} {n : Nat} {Q : Value → Shared → Prop} (hT : T = "list" ∨ T = "tuple") (ho : s.heap.get? l = some o) (hc : o.cls = .type T) (hd : o.data = .seq items n) (hz : items.size ≤ sizeLine)
    (hp : ∀ v ∈ items.toList, ∃ x y, IsPair s.heap v x y)
    (h : ∀ (h1 h' : Heap) (d : Addr) (out : List Value), out.Perm items.toList → (∀ b o, s.heap.get? b = some o → h1.get? b = some o) → (∀ b o, h1.get? b = some o → h'.get? b = some o) → h1.objs.size ≤ d → (∃ n, h'.get? d = some (seqObj "list" out.toArray n)) → Q (.ref d) { s with heap := h' }) :
    wpAny (model prog w) A (call (.builtin "sorted") [.ref l]) Q E s := by
  have hz' : items.toList.length ≤ sizeLine := hz
  refine Calls.call_function_entry kind_sorted plain_sorted entry_sorted (args_sorted1 _) ?_
  unfold Builtin.«sorted»
  refine wpAny_bind (m := checkCount "sorted" 1 1 _) (wpAny_pure ?_)
  refine wpAny_bind (wpAny_collect_seq l hT ho hc hd (fun h1 k1 => ?_) hz)
  refine wpAny_bind (wpAny_newList ?_ hz')
  have hoL : (h1.push (seqObj "list" items.toList.toArray 0)).get? h1.objs.size = some (seqObj "list" items.toList.toArray 0) := Heap.get?_push_size _ rfl
  have keep : ∀ b o, h1.get? b = some o → b < h1.objs.size ∧ (h1.push (seqObj "list" items.toList.toArray 0)).get? b = some o := fun b o e => ⟨Heap.lt_size e, Heap.get?_push_of_some _ e⟩
  refine wpAny_bind (wpAny_holding (wpAny_call_entry slot_list_sort ⟨_, hoL, rfl⟩ entry_list_sort (list_sort_any (s := { s with heap := h1.push (seqObj "list" items.toList.toArray 0) }) hoL hz' (fun h2 => ?_) fun out pm => ⟨_, rfl, ?_⟩) (args_list_sort _)))
  · refine pairs_sortable (s := { s with heap := h1.push (seqObj "list" items.toList.toArray 0) }) (by omega) (fun v hm => ?_) fun o e => ?_
    · obtain ⟨x, y, p⟩ := hp v hm
      exact ⟨x, y, p.keeps fun b o e _ => (keep b o (k1 b o e)).2⟩
    · have e' : some o = some (seqObj "list" items.toList.toArray 0) := e.symm.trans hoL
      cases e'
      intro c
      exact absurd (Value.type.inj c) (by decide)
  · refine wpAny_pure ⟨_, rfl, h h1 _ h1.objs.size out pm k1 (fun b o e => ?_) (Nat.le_refl _) (sortedHeap_at hoL)⟩
    obtain ⟨lt, e2⟩ := keep b o e
    rw [sortedHeap_old (Nat.ne_of_lt lt) (by rw [size_push']; exact Nat.lt_succ_of_lt lt)]
    exact e2
end
end Srt

namespace L2
open PySem PySem.Spec PyProof.Rows
section
variable {X : Cx}
/-- sorted(x), x a list or a tuple of pairs of ints -/
def rSortPA (K : PySem.W.Frag) : List V → Hp → VK → Prop := fun vs H Q => ∃ a xs, vs = [V.ref a] ∧ (SqL K H a xs ∨ SqT K H a xs) ∧ (∀ x ∈ xs, ∃ t i j, x = V.ref t ∧ H t = some (.tup [.int i, .int j])) ∧ ∀ ys p, ys.Perm xs → H p = none → Q (.ref p) (upd H p (.lst ys))
theorem cr_sortPA : CallR X (.builtin "sorted") (rSortPA X.K) := by
  intro pins s σ H vs us Q I r h
  obtain ⟨a, xs, rfl, hs, hx, q⟩ := h
  obtain ⟨T, its, o, n, hT, rv, ho, hc, hd, hz⟩ : ∃ (T : String) (its : List Value) (o : Obj) (n : Nat), (T = "list" ∨ T = "tuple") ∧ Vals xs its ∧ s.heap.get? a = some o ∧ o.cls = .type T ∧ o.data = .seq its.toArray n ∧ xs.length ≤ sizeLine := by
    rcases hs with hs | hs
    · obtain ⟨its, rv, hl, hz⟩ := I.list hs
      obtain ⟨o, ho, hc, n, hd⟩ := hl.isList
      exact ⟨"list", its, o, n, .inl rfl, rv, ho, hc, hd, hz⟩
    · obtain ⟨its, rv, ⟨o, ho, hc, n, hd⟩, hz⟩ := I.tuple hs
      exact ⟨"tuple", its, o, n, .inr rfl, rv, ho, hc, hd, hz⟩
  obtain ⟨u, rfl, ru⟩ := vals1 r
  obtain rfl : u = Value.ref a := ru
  obtain ⟨e1, e2⟩ := bkV_refs rv fun x m => by
    obtain ⟨t, _, _, e, _⟩ := hx x m
    exact ⟨t, e⟩
  refine Srt.hu_sorted_seq hT ho hc hd (by rw [List.size_toArray, ← rv.length]; exact hz) (fun v hv => ?_) fun h1 h' d out hp k1 k2 hd' hn => ?_
  · obtain ⟨t, rfl⟩ := e2 v hv
    have hm : V.ref t ∈ xs := by rw [e1]; exact List.mem_map.mpr ⟨_, hv, rfl⟩
    obtain ⟨t', i, j, e, ht⟩ := hx _ hm
    cases e
    obtain ⟨_, its2, r2, o2, ho2, hc2, n2, hd2⟩ := I.hok _ _ ht
    obtain ⟨u1, u2, rfl, ri, rj⟩ := vals2 r2
    obtain ⟨t1, rfl⟩ := ri
    obtain ⟨t2, rfl⟩ := rj
    exact ⟨i, j, t, o2, t1, t2, n2, rfl, ho2, hc2, hd2⟩
  · have h3 : ∀ u ∈ out, ∃ a, u = Value.ref a := fun u hu => e2 u (hp.mem_iff.mp hu)
    obtain ⟨n, hn⟩ := hn
    have I1 : Inv X pins σ H { s with heap := h1 } := I.kept (t' := s.toks) k1
    refine ⟨.ref d, upd H d (.lst (out.map bkV)), I1.laid (t' := s.toks) k2 hd' ⟨?_, out, n, bkV_vals h3, hn⟩, rfl, q _ d ?_ (I1.hok.fresh hd')⟩
    · rw [List.length_map, hp.length_eq]
      show its.length ≤ sizeLine
      rw [← rv.length]; exact hz
    · rw [e1]
      exact hp.map bkV
end
end L2

end
section
set_option maxRecDepth 100000
set_option maxHeartbeats 2000000
namespace Srt
open PySem PySem.W PySem.Calls PyProof.Rows
section
variable {prog : Program} {w : World} {A : Around} {E : Value → Shared → Prop} {s : Shared}
/-- sorted(x), x a list or a tuple of pairs of ints: in order -/
theorem hu_sorted_ord {l : Addr} {T : String} {o : Obj} {items : Array Value} {n : Nat} {Q : Value → Shared → Prop} {k : Value → Int × Int} (hT : T = "list" ∨ T = "tuple") (ho : s.heap.get? l = some o) (hc : o.cls = .type T) (hd : o.data = .seq items n) (hz : items.size ≤ sizeLine)
    (hp : ∀ v ∈ items.toList, IsPair s.heap v (k v).1 (k v).2)
    (h : ∀ (h1 h' : Heap) (d : Addr) (out : List Value), out.Perm items.toList → SrtO.Srtd (fun v u => SrtO.lexB (k v) (k u)) out → (∀ b o, s.heap.get? b = some o → h1.get? b = some o) → (∀ b o, h1.get? b = some o → h'.get? b = some o) → h1.objs.size ≤ d → (∃ n, h'.get? d = some (seqObj "list" out.toArray n)) → Q (.ref d) { s with heap := h' }) :
    wpAny (model prog w) A (call (.builtin "sorted") [.ref l]) Q E s := by
  have hz' : items.toList.length ≤ sizeLine := hz
  refine Calls.call_function_entry kind_sorted plain_sorted entry_sorted (args_sorted1 _) ?_
  unfold Builtin.«sorted»
  refine wpAny_bind (m := checkCount "sorted" 1 1 _) (wpAny_pure ?_)
  refine wpAny_bind (wpAny_collect_seq l hT ho hc hd (fun h1 k1 => ?_) hz)
  refine wpAny_bind (wpAny_newList ?_ hz')
  have hoL : (h1.push (seqObj "list" items.toList.toArray 0)).get? h1.objs.size = some (seqObj "list" items.toList.toArray 0) := Heap.get?_push_size _ rfl
  have keep : ∀ b o, h1.get? b = some o → b < h1.objs.size ∧ (h1.push (seqObj "list" items.toList.toArray 0)).get? b = some o := fun b o e => ⟨Heap.lt_size e, Heap.get?_push_of_some _ e⟩
  refine wpAny_bind (wpAny_holding (wpAny_call_entry slot_list_sort ⟨_, hoL, rfl⟩ entry_list_sort (SrtO.list_sort_ord (s := { s with heap := h1.push (seqObj "list" items.toList.toArray 0) }) (SrtO.swo_lex k) hoL hz' (fun h2 => ?_) fun out so pm => ⟨_, rfl, ?_⟩) (args_list_sort _)))
  · refine SrtO.pairs_sortableO (s := { s with heap := h1.push (seqObj "list" items.toList.toArray 0) }) (by omega) (fun v hm => ?_) fun o e => ?_
    · exact (hp v hm).keeps fun b o e _ => (keep b o (k1 b o e)).2
    · have e' : some o = some (seqObj "list" items.toList.toArray 0) := e.symm.trans hoL
      cases e'
      intro c
      exact absurd (Value.type.inj c) (by decide)
  · refine wpAny_pure ⟨_, rfl, h h1 _ h1.objs.size out pm.perm so k1 (fun b o e => ?_) (Nat.le_refl _) (sortedHeap_at hoL)⟩
    obtain ⟨lt, e2⟩ := keep b o e
    rw [sortedHeap_old (Nat.ne_of_lt lt) (by rw [size_push']; exact Nat.lt_succ_of_lt lt)]
    exact e2
end
end Srt

namespace L2
open PySem PySem.Spec PyProof.Rows
section
variable {X : Cx}
/-- sorted(x), x a list or a tuple of pairs of ints: in order -/
def rSortPS (K : PySem.W.Frag) : List V → Hp → VK → Prop := fun vs H Q => ∃ (a : Addr) (xs : List V) (k : V → Int × Int), vs = [V.ref a] ∧ (SqL K H a xs ∨ SqT K H a xs) ∧ (∀ x ∈ xs, ∃ t, x = V.ref t ∧ H t = some (.tup [.int (k x).1, .int (k x).2])) ∧
  ∀ ys p, ys.Perm xs → (ys.Pairwise fun x y => ¬ ((k y).1 < (k x).1 ∨ ((k y).1 = (k x).1 ∧ (k y).2 < (k x).2))) → H p = none → Q (.ref p) (upd H p (.lst ys))
theorem cr_sortPS : CallR X (.builtin "sorted") (rSortPS X.K) := by
  intro pins s σ H vs us Q I r h
  obtain ⟨a, xs, k, rfl, hs, hx, q⟩ := h
  obtain ⟨T, its, o, n, hT, rv, ho, hc, hd, hz⟩ : ∃ (T : String) (its : List Value) (o : Obj) (n : Nat), (T = "list" ∨ T = "tuple") ∧ Vals xs its ∧ s.heap.get? a = some o ∧ o.cls = .type T ∧ o.data = .seq its.toArray n ∧ xs.length ≤ sizeLine := by
    rcases hs with hs | hs
    · obtain ⟨its, rv, hl, hz⟩ := I.list hs
      obtain ⟨o, ho, hc, n, hd⟩ := hl.isList
      exact ⟨"list", its, o, n, .inl rfl, rv, ho, hc, hd, hz⟩
    · obtain ⟨its, rv, ⟨o, ho, hc, n, hd⟩, hz⟩ := I.tuple hs
      exact ⟨"tuple", its, o, n, .inr rfl, rv, ho, hc, hd, hz⟩
  obtain ⟨u, rfl, ru⟩ := vals1 r
  obtain rfl : u = Value.ref a := ru
  obtain ⟨e1, e2⟩ := bkV_refs rv fun x m => by
    obtain ⟨t, e, _⟩ := hx x m
    exact ⟨t, e⟩
  refine Srt.hu_sorted_ord (k := fun u => k (bkV u)) hT ho hc hd (by rw [List.size_toArray, ← rv.length]; exact hz) (fun v hv => ?_) fun h1 h' d out hp so k1 k2 hd' hn => ?_
  · obtain ⟨t, rfl⟩ := e2 v hv
    have hm : V.ref t ∈ xs := by rw [e1]; exact List.mem_map.mpr ⟨_, hv, rfl⟩
    obtain ⟨t', e, ht⟩ := hx _ hm
    cases e
    obtain ⟨_, its2, r2, o2, ho2, hc2, n2, hd2⟩ := I.hok _ _ ht
    obtain ⟨u1, u2, rfl, ri, rj⟩ := vals2 r2
    obtain ⟨t1, rfl⟩ := ri
    obtain ⟨t2, rfl⟩ := rj
    exact ⟨t, o2, t1, t2, n2, rfl, ho2, hc2, hd2⟩
  · have h3 : ∀ u ∈ out, ∃ a, u = Value.ref a := fun u hu => e2 u (hp.mem_iff.mp hu)
    obtain ⟨n, hn⟩ := hn
    have I1 : Inv X pins σ H { s with heap := h1 } := I.kept (t' := s.toks) k1
    refine ⟨.ref d, upd H d (.lst (out.map bkV)), I1.laid (t' := s.toks) k2 hd' ⟨?_, out, n, bkV_vals h3, hn⟩, rfl, q _ d ?_ ?_ (I1.hok.fresh hd')⟩
    · rw [List.length_map, hp.length_eq]
      show its.length ≤ sizeLine
      rw [← rv.length]; exact hz
    · rw [e1]
      exact hp.map bkV
    · rw [List.pairwise_map]
      exact so.imp fun z => SrtO.lexB_no.mp z
theorem sortPS_ (K : PySem.W.Frag) (hK : X.K = K := by rfl) : CallR X (.builtin "sorted") (rSortPS K) := by subst hK; exact cr_sortPS
/-! ### is, of two bools -/
theorem op_isB : OpR X (compareOp .Is) (fun x y H Q => ∃ b c : Bool, x = .bl b ∧ y = .bl c ∧ Q (.bl (decide (b = c))) H) := by
  intro pins s σ H x y v u Q I rx ry h
  obtain ⟨b, c, rfl, rfl, q⟩ := h
  cases rx
  cases ry
  show wpAny _ _ ((isSame (Value.bool b) (Value.bool c)) >>= fun z => pure (Value.bool z)) _ _ s
  exact wpAny_bind (wpAny_isSame_plain (by cases b <;> cases c <;> rfl) (wpAny_pure (fin_bl I q (by cases b <;> cases c <;> rfl))))
theorem op_notB : OpR X (compareOp .IsNot) (fun x y H Q => ∃ b c : Bool, x = .bl b ∧ y = .bl c ∧ Q (.bl (!decide (b = c))) H) := by
  intro pins s σ H x y v u Q I rx ry h
  obtain ⟨b, c, rfl, rfl, q⟩ := h
  cases rx
  cases ry
  show wpAny _ _ ((isSame (Value.bool b) (Value.bool c)) >>= fun z => pure (Value.bool (!z))) _ _ s
  exact wpAny_bind (wpAny_isSame_plain (by cases b <;> cases c <;> rfl) (wpAny_pure (fin_bl I q (by cases b <;> cases c <;> rfl))))
end
end L2

end
section
set_option maxRecDepth 100000
namespace L2
open PySem PySem.Spec PyProof.Rows
/-! ### a list or a tuple -/
def SqA (K : PySem.W.Frag) (H : Hp) (a : Addr) (xs : List V) : Prop := SqL K H a xs ∨ SqT K H a xs
section
variable {X : Cx} {K : PySem.W.Frag}
/-- all of H0 stands in H -/
def Same0 (H0 H : Hp) : Prop := ∀ b o, H0 b = some o → H b = some o
theorem Same0.sqL {H H' : Hp} {a : Addr} {xs : List V} (e : Same0 H H') (h : SqL K H a xs) : SqL K H' a xs := by
  rcases h with (h | ⟨o, h⟩) | h
  · exact .inl (.inl (e _ _ h))
  · exact .inl (.inr ⟨o, e _ _ h⟩)
  · exact .inr h
theorem Same0.sqT {H H' : Hp} {a : Addr} {xs : List V} (e : Same0 H H') (h : SqT K H a xs) : SqT K H' a xs := by
  rcases h with (h | ⟨o, h⟩) | h
  · exact .inl (.inl (e _ _ h))
  · exact .inl (.inr ⟨o, e _ _ h⟩)
  · exact .inr h
theorem SqA.same {H H' : Hp} {a : Addr} {xs : List V} (h : SqA K H a xs) (e : Same0 H H') : SqA K H' a xs := h.imp (Same0.sqL e) (Same0.sqT e)
/-- also where an instance changes -/
theorem SqA.sb {H H' : Hp} {a x C dx : Addr} {fs : List (Str × V)} {xs : List V} (h : SqA K H a xs) (hx : H x = some (.ins C dx fs)) (s : ∀ b o, b ≠ x → H b = some o → H' b = some o) : SqA K H' a xs := by
  rcases h with ((h | ⟨o, h⟩) | h) | ((h | ⟨o, h⟩) | h)
  · exact .inl (.inl (.inl (s _ _ (ne_of h hx (by intro z; cases z)) h)))
  · exact .inl (.inl (.inr ⟨o, s _ _ (ne_of h hx (by intro z; cases z)) h⟩))
  · exact .inl (.inr h)
  · exact .inr (.inl (.inl (s _ _ (ne_of h hx (by intro z; cases z)) h)))
  · exact .inr (.inl (.inr ⟨o, s _ _ (ne_of h hx (by intro z; cases z)) h⟩))
  · exact .inr (.inr h)
theorem piA_ (K : PySem.W.Frag) {e : Expr} {ta : TA} {p pos tpos : Pos} {elts : List Expr} {kk : Nat} (hg : Gl X "enumerate") (hm : X.mg "enumerate" = none) (ha : PA X [e] ta) (hs : starEach [e] X.env = [(false, eval e X.env)] := by rfl) (hK : X.K = K := by rfl) :
    PI X (.Tuple elts kk tpos) (.Call (.Name "enumerate" p) [e] [] pos) (iEnumA K ta) := by subst hK; exact pi_enumA hg hm ha hs
theorem sortPA_ (K : PySem.W.Frag) (hK : X.K = K := by rfl) : CallR X (.builtin "sorted") (rSortPA K) := by subst hK; exact cr_sortPA
/-- for i, x in enumerate(a list or a tuple) -/
theorem for_enumA {a : Addr} {xs : List V} {g : TG} {tb : TS} {D : Ends} {σ : L2.St} {H H0 : Hp} (sa : SqA K H0 a xs) (s0 : Same0 H0 H) (Pv : Nat → L2.St → Hp → Prop) (h0 : Pv 0 σ H) (keep : ∀ i σ H, i ≤ xs.length → Pv i σ H → Same0 H0 H)
    (hs : ∀ i x σ H H', i < xs.length → Pv i σ H → YPair (fun i => some (.int (i : Nat))) (fun i => xs[i]?) i H x H' → g x σ H' fun σ2 H2 => tb { D with nx := Pv (i + 1), ct := Pv (i + 1), bk := D.nx } σ2 H2) (hd : ∀ σ H, Pv xs.length σ H → D.nx σ H) :
    (SqL K H a xs ∧ ∃ W : Nat → Nat → L2.St → Hp → Prop, (∃ m, W 0 m σ H) ∧ ∀ i m σ H, W i m σ H →
      ((Ite K a).stop i H ∧ D.nx σ H) ∨ ((Ite K a).go i H ∧ ∃ N : L2.St → Hp → Prop, (∀ σ' H', N σ' H' → ∃ m', m' < m ∧ W (i + 1) m' σ' H') ∧ ∀ x H', (Ite K a).yld i H x H' → g x σ H' fun σ2 H2 => tb { D with nx := N, ct := N, bk := D.nx } σ2 H2)) ∨
    (SqT K H a xs ∧ ∃ W : Nat → Nat → L2.St → Hp → Prop, (∃ m, W 0 m σ H) ∧ ∀ i m σ H, W i m σ H →
      ((IteT K a xs.length).stop i H ∧ D.nx σ H) ∨ ((IteT K a xs.length).go i H ∧ ∃ N : L2.St → Hp → Prop, (∀ σ' H', N σ' H' → ∃ m', m' < m ∧ W (i + 1) m' σ' H') ∧ ∀ x H', (IteT K a xs.length).yld i H x H' → g x σ H' fun σ2 H2 => tb { D with nx := N, ct := N, bk := D.nx } σ2 H2)) := by
  rcases sa with sl | st
  · exact .inl ⟨Same0.sqL s0 sl, for_it walk_enum Pv h0 (fun i σ H hi p => Same0.sqL (keep i σ H hi p) sl) hs hd⟩
  · exact .inr ⟨Same0.sqT s0 st, for_it walk_enumT Pv h0 (fun i σ H hi p => Same0.sqT (keep i σ H hi p) st) hs hd⟩
end
end L2

end
section
set_option maxRecDepth 100000
namespace Hue
open PySem PySem.Spec PyProof.Rows L2
/-! ### the order list -/
def flip (R : Rel) : Rel := fun i j => R j i
/-- k is the next in turn -/
def nxt (n : Nat) (R : Rel) (ord : List Nat) (k : Nat) : Bool := !decide (k ∈ ord) && (Bel n (flip R) k).all fun j => decide (j ∈ ord)
def cands (n : Nat) (R : Rel) (ord : List Nat) : List Nat := (List.range n).filter (nxt n R ord)
def ordN (n : Nat) (R : Rel) : Nat → List Nat
  | 0 => []
  | k + 1 => ordN n R k ++ (cands n R (ordN n R k)).take 1
def Ranked (R : Rel) : Prop := ∃ ρ : Nat → Nat, ∀ i j, R i j = true → ρ i < ρ j
theorem nxt_iff {n : Nat} {R : Rel} {ord : List Nat} {k : Nat} : nxt n R ord k = true ↔ k ∉ ord ∧ ∀ j, j < n → R j k = true → j ∈ ord := by
  unfold nxt
  rw [Bool.and_eq_true, Bool.not_eq_true', decide_eq_false_iff_not, List.all_eq_true]
  constructor
  · rintro ⟨h1, h2⟩
    exact ⟨h1, fun j hj hr => of_decide_eq_true (h2 j (mem_Bel.mpr ⟨hj, hr⟩))⟩
  · rintro ⟨h1, h2⟩
    exact ⟨h1, fun j hj => decide_eq_true (h2 j (mem_Bel.mp hj).1 (mem_Bel.mp hj).2)⟩
theorem cands_ne {n : Nat} {R : Rel} (hR : Ranked R) {ord : List Nat} (hl : ord.length < n) : ∃ c rest, cands n R ord = c :: rest := by
  obtain ⟨ρ, hρ⟩ := hR
  have least : ∀ m i, i < n → i ∉ ord → ρ i ≤ m → ∃ c, c < n ∧ nxt n R ord c = true := by
    intro m
    induction m with
    | zero =>
      intro i hi hn hm
      refine ⟨i, hi, nxt_iff.mpr ⟨hn, fun j hj hr => ?_⟩⟩
      have := hρ j i hr
      omega
    | succ m ih =>
      intro i hi hn hm
      rcases Classical.em (∃ j, j < n ∧ R j i = true ∧ j ∉ ord) with ⟨j, hj, hr, hjn⟩ | none
      · have := hρ j i hr
        exact ih j hj hjn (by omega)
      · refine ⟨i, hi, nxt_iff.mpr ⟨hn, fun j hj hr => ?_⟩⟩
        rcases Classical.em (j ∈ ord) with h | h
        · exact h
        · exact absurd ⟨j, hj, hr, h⟩ none
  obtain ⟨i, hi, hn⟩ := st_missing ord n hl
  obtain ⟨c, hc, hx⟩ := least (ρ i) i hi hn (Nat.le_refl _)
  cases e : cands n R ord with
  | nil =>
    have : c ∈ cands n R ord := List.mem_filter.mpr ⟨List.mem_range.mpr hc, hx⟩
    rw [e] at this
    cases this
  | cons a rest => exact ⟨a, rest, rfl⟩
theorem cands_asc (n : Nat) (R : Rel) (ord : List Nat) : (cands n R ord).Pairwise (· < ·) := List.Pairwise.filter _ List.pairwise_lt_range
/-- the least of the candidates is the first -/
theorem cands_min {n : Nat} {R : Rel} {ord : List Nat} {c : Nat} {rest : List Nat} (e : cands n R ord = c :: rest) {m : Int} (hm : m ∈ nI (cands n R ord)) (hle : ∀ y, y ∈ nI (cands n R ord) → m ≤ y) : m = (c : Int) := by
  obtain ⟨k, hk, rfl⟩ := mem_nI.mp hm
  have h1 := hle (c : Int) (mem_nI.mpr ⟨c, by rw [e]; exact List.mem_cons_self, rfl⟩)
  have pw := cands_asc n R ord
  rw [e] at hk pw
  rcases List.mem_cons.mp hk with z | z
  · rw [z]
  · have := (List.pairwise_cons.mp pw).1 k z
    omega
theorem ordN_succ {n : Nat} {R : Rel} {k c : Nat} {rest : List Nat} (e : cands n R (ordN n R k) = c :: rest) : ordN n R (k + 1) = ordN n R k ++ [c] := by
  show ordN n R k ++ (cands n R (ordN n R k)).take 1 = _
  rw [e]; rfl
structure OrdOk (n : Nat) (R : Rel) (ord : List Nat) : Prop where
  nd : ord.Nodup
  lt : ∀ i ∈ ord, i < n
  up : ∀ q i, ord[q]? = some i → ∀ j, j < n → R j i = true → j ∈ ord.take q
theorem ordN_ok {n : Nat} {R : Rel} (hR : Ranked R) : ∀ k, k ≤ n → (ordN n R k).length = k ∧ OrdOk n R (ordN n R k)
  | 0, _ => ⟨rfl, ⟨List.nodup_nil, fun i h => absurd h List.not_mem_nil, fun q i h => by simp [ordN] at h⟩⟩
  | k + 1, hk => by
    obtain ⟨l, ok⟩ := ordN_ok hR k (Nat.le_of_succ_le hk)
    obtain ⟨c, rest, e⟩ := cands_ne (n := n) hR (ord := ordN n R k) (by omega)
    have cm : c ∈ cands n R (ordN n R k) := by rw [e]; exact List.mem_cons_self
    obtain ⟨c1, c2⟩ := List.mem_filter.mp cm
    obtain ⟨c3, c4⟩ := nxt_iff.mp c2
    rw [ordN_succ e]
    refine ⟨by rw [List.length_append, l]; rfl, ⟨?_, fun i hi => ?_, fun q i hq j hj hr => ?_⟩⟩
    · rw [List.nodup_append]
      refine ⟨ok.nd, by simp, fun a ha b hb => ?_⟩
      rw [List.mem_singleton.mp hb]
      intro z
      exact c3 (z ▸ ha)
    · rcases List.mem_append.mp hi with h | h
      · exact ok.lt i h
      · rw [List.mem_singleton.mp h]; exact List.mem_range.mp c1
    · rcases Nat.lt_or_ge q (ordN n R k).length with h | h
      · rw [List.getElem?_append_left h] at hq
        rw [List.take_append_of_le_length (Nat.le_of_lt h)]
        exact ok.up q i hq j hj hr
      · rw [List.getElem?_append_right h] at hq
        have q0 : q - (ordN n R k).length = 0 := by
          rcases Nat.eq_zero_or_pos (q - (ordN n R k).length) with z | z
          · exact z
          · rw [List.getElem?_eq_none (by rw [List.length_singleton]; exact z)] at hq; cases hq
        rw [q0] at hq
        cases hq
        have eq : q = (ordN n R k).length := by omega
        rw [eq, List.take_left']
        · exact c4 j hj hr
        · rfl
/-- every lamp stands in it -/
theorem ord_all {n : Nat} {R : Rel} (hR : Ranked R) {i : Nat} (hi : i < n) : i ∈ ordN n R n := by
  obtain ⟨l, ok⟩ := ordN_ok hR n (Nat.le_refl _)
  rcases Classical.em (i ∈ ordN n R n) with h | h
  · exact h
  · exfalso
    have := nat_nodup_len (i :: ordN n R n) (List.range n) (List.nodup_cons.mpr ⟨h, ok.nd⟩) fun x hx => by
      rcases List.mem_cons.mp hx with z | z
      · rw [z]; exact List.mem_range.mpr hi
      · exact List.mem_range.mpr (ok.lt x z)
    rw [List.length_cons, l, List.length_range] at this
    omega
theorem relOf_ranked {ps : List (Nat × Nat)} {ρ : Nat → Nat} (h : ∀ p ∈ ps, ρ p.1 < ρ p.2) : Ranked (relOf ps) := ⟨ρ, relOf_rank h⟩
/-! ### the relation goes on -/
def Trans (R : Rel) : Prop := ∀ i j k, R i j = true → R j k = true → R i k = true
theorem addW_iff {R : Rel} {u l i j : Nat} : addW R u l i j = true ↔ R i j = true ∨ ((i = u ∨ R i u = true) ∧ (j = l ∨ R l j = true)) := by
  unfold addW
  rw [Bool.or_eq_true, Bool.and_eq_true, Bool.or_eq_true, Bool.or_eq_true, beq_iff_eq, beq_iff_eq]
theorem addW_trans {R : Rel} (hR : Trans R) (u l : Nat) : Trans (addW R u l) := by
  intro i j k h1 h2
  rw [addW_iff] at h1 h2 ⊢
  rcases h1 with h1 | ⟨a1, a2⟩ <;> rcases h2 with h2 | ⟨b1, b2⟩
  · exact .inl (hR i j k h1 h2)
  · refine .inr ⟨.inr ?_, b2⟩
    rcases b1 with e | e
    · rw [← e]; exact h1
    · exact hR _ _ _ h1 e
  · refine .inr ⟨a1, .inr ?_⟩
    rcases a2 with e | e
    · rw [← e]; exact h2
    · exact hR _ _ _ e h2
  · exact .inr ⟨a1, b2⟩
theorem relOf_trans : ∀ (ps : List (Nat × Nat)), Trans (relOf ps) := by
  have key : ∀ (ps : List (Nat × Nat)) (R : Rel), Trans R → Trans (ps.foldl (fun R p => addW R p.1 p.2) R) := by
    intro ps
    induction ps with
    | nil => intro R h; exact h
    | cons p ps ih => intro R h; exact ih _ (addW_trans h p.1 p.2)
  intro ps
  exact key ps _ fun i j k h => by cases h
/-! ### states -/
abbrev stV (S : List Int) : List V := S.map V.int
def at_ (S : List Int) (k : Nat) : Int := S.getD k 0
theorem stV_get {S : List Int} {k : Nat} (h : k < S.length) : (stV S)[k]? = some (V.int (at_ S k)) := by
  unfold stV at_
  rw [List.getElem?_map, List.getElem?_eq_getElem h, List.getD_eq_getElem?_getD, List.getElem?_eq_getElem h]
  rfl
def StOk (n h : Nat) (S : List Int) : Prop := S.length = n ∧ ∀ z ∈ S, 0 ≤ z ∧ z < (h : Int)
theorem StOk.at {n h : Nat} {S : List Int} (s : StOk n h S) {k : Nat} (hk : k < n) : 0 ≤ at_ S k ∧ at_ S k < (h : Int) := by
  have hl : k < S.length := by rw [s.1]; exact hk
  unfold at_
  rw [List.getD_eq_getElem?_getD, List.getElem?_eq_getElem hl]
  exact s.2 _ (List.getElem_mem hl)
/-- T is reachable from S: every topmost difference goes down -/
def Reach (n : Nat) (R : Rel) (S T : List Int) : Prop := ∀ k, k < n → at_ S k ≠ at_ T k → (∀ u, u < n → R u k = true → at_ S u = at_ T u) → at_ T k < at_ S k
theorem rgV_nL (n : Nat) : rgV 0 (n : Int) = nL (List.range n) := by
  unfold rgV nL nI
  simp
theorem rgOk (n : Nat) (h : n ≤ 1000) : RgOk 0 (n : Int) := by
  unfold RgOk
  exact ⟨by omega, by omega, by omega, by omega, by omega⟩
theorem nL_erase (l : List Nat) (j : Nat) : (nL l).eraseIdx j = nL (l.eraseIdx j) := by
  unfold nL nI
  rw [List.map_map, List.map_map]
  induction l generalizing j with
  | nil => rfl
  | cons a l ih =>
    cases j with
    | zero => rfl
    | succ j => show _ :: _ = _ :: _; exact congrArg _ (ih j)
/-! ### the relation by its last wire -/
theorem fold_mono : ∀ (ps : List (Nat × Nat)) (R : Rel) (i j : Nat), R i j = true → ps.foldl (fun R p => addW R p.1 p.2) R i j = true
  | [], _, _, _, h => h
  | p :: ps, R, i, j, h => fold_mono ps _ i j (addW_iff.mpr (.inl h))
theorem fold_wire : ∀ (ps : List (Nat × Nat)) (R : Rel) (p : Nat × Nat), p ∈ ps → ps.foldl (fun R p => addW R p.1 p.2) R p.1 p.2 = true
  | [], _, _, h => by cases h
  | q :: ps, R, p, h => by
    rcases List.mem_cons.mp h with e | h
    · rw [e]
      exact fold_mono ps _ _ _ (addW_iff.mpr (.inr ⟨.inl rfl, .inl rfl⟩))
    · exact fold_wire ps _ p h
theorem rel_last {ps : List (Nat × Nat)} {j i : Nat} : relOf ps j i = true ↔ ∃ u, (u, i) ∈ ps ∧ (j = u ∨ relOf ps j u = true) := by
  have key : ∀ (ps qs : List (Nat × Nat)) (R : Rel), (∀ j i, R j i = true → ∃ u, (u, i) ∈ qs ∧ (j = u ∨ R j u = true)) →
      ∀ j i, ps.foldl (fun R p => addW R p.1 p.2) R j i = true → ∃ u, (u, i) ∈ qs ++ ps ∧ (j = u ∨ ps.foldl (fun R p => addW R p.1 p.2) R j u = true) := by
    intro ps
    induction ps with
    | nil =>
      intro qs R h j i hr
      rw [List.append_nil]
      exact h j i hr
    | cons p ps ih =>
      intro qs R h j i hr
      have z := ih (qs ++ [p]) (addW R p.1 p.2) (fun j i h2 => ?_) j i hr
      · rw [List.append_assoc] at z
        exact z
      · rcases addW_iff.mp h2 with h3 | ⟨h3, h4⟩
        · obtain ⟨u, hu, e⟩ := h j i h3
          exact ⟨u, List.mem_append_left _ hu, e.imp id fun z => addW_iff.mpr (.inl z)⟩
        · rcases h4 with e | e
          · refine ⟨p.1, List.mem_append_right _ (by rw [e]; exact List.mem_cons_self), ?_⟩
            exact h3.imp id fun z => addW_iff.mpr (.inl z)
          · obtain ⟨u, hu, e2⟩ := h p.2 i e
            refine ⟨u, List.mem_append_left _ hu, .inr (addW_iff.mpr (.inr ⟨h3, ?_⟩))⟩
            exact e2.imp Eq.symm id
  constructor
  · intro h
    have z := key ps [] (fun _ _ => false) (fun j i h => by cases h) j i h
    rw [List.nil_append] at z
    exact z
  · rintro ⟨u, hu, e⟩
    have w : relOf ps u i = true := fold_wire ps _ (u, i) hu
    rcases e with e | e
    · rw [e]; exact w
    · exact relOf_trans ps _ _ _ e w
end Hue

end
section
set_option maxRecDepth 100000
namespace L2
open PySem PySem.Spec PyProof.Rows
/-! ### states by == and != -/
section
variable {X : Cx}
theorem hu_eqD (K : PySem.W.Frag) (hu : X.A.units + 64 < cLine) (hK : X.K = K := by rfl) : OpR X (compareOp .Eq) (rEqD K) := by subst hK; exact op_eqD hu
theorem hu_neD (K : PySem.W.Frag) (hu : X.A.units + 64 < cLine) (hK : X.K = K := by rfl) : OpR X (compareOp .NotEq) (rNeD K) := by subst hK; exact op_neD hu
end
end L2
namespace Hue
open PySem PySem.Spec PyProof.Rows L2
/-- a state as plain data -/
def stD (S : List Int) : PyData := .tuple (S.map .int)
theorem ints_dp {K : PySem.W.Frag} {H : Hp} : ∀ S : List Int, DpAll K H (stV S) (S.map .int)
  | [] => .nil
  | z :: S => .cons (.int z) (ints_dp S)
theorem st_dp {K : PySem.W.Frag} {H : Hp} {a : Addr} {S : List Int} (h : H a = some (.tup (stV S))) : Dp K H (.ref a) (stD S) := .tup (SqT.of h) (ints_dp S)
theorem ints_lay : ∀ S : List Int, PyData.canLayAll0 (S.map .int) = true
  | [] => by simp [PyData.canLayAll0]
  | z :: S => by simp [PyData.canLayAll0, PyData.canLay0, ints_lay S]
theorem ints_deep : ∀ S : List Int, PyData.depthAll (S.map .int) ≤ 1
  | [] => by simp [PyData.depthAll]
  | z :: S => by
    have := ints_deep S
    simp only [List.map_cons, PyData.depthAll, PyData.depth]
    omega
theorem st_shaped (S : List Int) : SeqAt.shaped (stD S) = true := by
  have h1 := ints_deep S
  have h2 : PyData.depth (stD S) ≤ 64 := by
    simp only [stD, PyData.depth]
    omega
  show (PyData.canLay0 (stD S) && decide (PyData.depth (stD S) ≤ 64)) = true
  rw [decide_eq_true h2, Bool.and_true]
  show PyData.canLay0 (.tuple (S.map .int)) = true
  simp only [PyData.canLay0]
  exact ints_lay S
theorem ints_eqv : ∀ S T : List Int, PyData.eqvAll (S.map .int) (T.map .int) = decide (S = T)
  | [], [] => by simp [PyData.eqvAll]
  | [], _ :: _ => by simp [PyData.eqvAll]
  | _ :: _, [] => by simp [PyData.eqvAll]
  | z :: S, y :: T => by
    simp only [List.map_cons, PyData.eqvAll, PyData.eqv, ints_eqv S T]
    by_cases e : z = y
    · by_cases e2 : S = T
      · simp [e, e2]
      · simp [e, e2]
    · simp [e]
theorem st_eqv (S T : List Int) : PyData.eqv (stD S) (stD T) = decide (S = T) := by
  simp only [stD, PyData.eqv]
  exact ints_eqv S T
end Hue

end
section
set_option maxRecDepth 100000
namespace L2
open PySem PySem.Spec PyProof.Rows
/-! ### repr of plain data, where no repr is under way -/
def rRepr (K : PySem.W.Frag) : List V → Hp → VK → Prop := fun xs H Q => ∃ x d, xs = [x] ∧ Dp K H x d ∧ d.showable = true ∧ d.hasDict = false ∧ d.depth ≤ 64 ∧ d.shown.length ≤ sizeLine ∧ Q (.str d.shown) H
theorem cr_repr {X : Cx} (hg : X.A.guards = some []) (hu : X.A.units + 100 < cLine) : CallR X (.builtin "repr") (rRepr X.K) := by
  intro pins s σ H xs us Q I r h
  obtain ⟨x, d, rfl, hd, hs, hno, hdep, hz, q⟩ := h
  cases r with
  | cons ru rn =>
    rename_i u us'
    cases rn
    obtain ⟨as, rd⟩ := Dp.reads I d x u hd ru
    have leaf : ∀ (y : Str) (tk : Nat), d.shown = y → EP X pins σ Q (.str y s.toks) { s with toks := tk } := fun y tk e => ⟨.str y, H, I.tok tk, ⟨_, rfl⟩, e ▸ q⟩
    cases rd with
    | none => exact PySem.P.repr_of_none (leaf _ _ rfl)
    | bool b => exact PySem.P.repr_of_bool (leaf _ _ (by cases b <;> rfl))
    | int i t => exact PySem.P.repr_of_int (of_decide_eq_true hs) (leaf _ _ rfl)
    | str y t => exact PySem.P.repr_of_str (leaf _ _ rfl) hz
    | list h1 h2 h3 h4 => exact repr_of_reads' (.list h1 h2 h3 h4) hs (fun z => by rw [hno] at z; cases z) hg (by omega) (fun b o e => e) (fun h' u tk hk => ⟨.str _, H, I.kept hk, ⟨u, rfl⟩, q⟩) hz
    | tuple h1 h2 h3 h4 => exact repr_of_reads' (.tuple h1 h2 h3 h4) hs (fun z => by rw [hno] at z; cases z) hg (by omega) (fun b o e => e) (fun h' u tk hk => ⟨.str _, H, I.kept hk, ⟨u, rfl⟩, q⟩) hz
    | dict h1 h2 h3 h4 h5 => cases hd
end L2

end
section
set_option maxRecDepth 100000
namespace L2
open PySem PySem.Spec PyProof.Rows
/-! ### a def's promise where no repr is under way around it -/
structure GOk (P : Program) (w : World) (K : PySem.W.Frag) (mg : Str → Option Value) (base : Heap) (CX : CXT) (k : Nat) (f : Addr) (fd : FuncData) (ps : List Str) (sp : Sp) : Prop where
  ln : ∀ vs H Q E, sp vs H Q E → vs.length = ps.length
  go : ∀ A : Around, A.guards = some [] → ∀ (outer : List Env) (s : Shared) (H : Hp) (args : Args) (us : List Value) (vs : List V) (Q : VK) (E : XK), Room k A → Env0 P w K mg base A outer s H → BindsTo s fd args (ps.zip us) → Vals vs us → sp vs H Q E →
    codeAny (model P w) A (.call (.ref f) args) (CR CX outer P w H s Q E) s
section
variable {P : Program} {w : World} {K : PySem.W.Frag} {mg : Str → Option Value} {base : Heap} {CX : CXT} {k : Nat} {f : Addr} {fd : FuncData} {N ps : List Str} {sp : Sp}
/-- what holds everywhere holds there too -/
theorem FnOk.g (F : FnOk P w K mg base CX k f fd ps sp) : GOk P w K mg base CX k f fd ps sp := ⟨F.len, fun A _ => F.run A⟩
/-- by the body, which may know that the guards are none -/
theorem g_of {name qual : Str} {params : Arguments} {body : List Stmt} {scope : Scope} {dV kV doc pm cdv ct oc : Value} {an od : Option Addr} {osl : Array (Option Value)}
    (at_f : K.lookup f = some ⟨oc, od, .func (PySem.W.fnOf name qual params body scope dV kV doc pm an cdv ct), osl⟩) (code : PySem.W.codeIn K cdv qual = true) (S : FnScope N ps scope) (ln : ∀ vs H Q E, sp vs H Q E → vs.length = ps.length)
    (bd : ∀ A : Around, A.guards = some [] → ∀ (outer : List Env) (s : Shared) (H : Hp) (vs : List V) (Q : VK) (E : XK), Room k (A.deeper (envOfC qual scope s.heap.objs.size f cdv)) → sp vs H Q E →
      ∃ t, PSs (cxOf CX P w K mg base N qual scope f cdv A outer s H E) body t ∧ t { nx := fun _ H' => Q .non H', rt := Q } (start N vs) H) :
    GOk P w K mg base CX (k + 1) f (PySem.W.fnOf name qual params body scope dV kV doc pm an cdv ct) ps sp := by
  constructor
  · exact ln
  intro A gA outer s H args us vs Q E room env bnd vals want
  have kept0 : ∀ c ob, base.get? c = some ob → s.heap.get? c = some ob := fun c ob z => (env.bs c ob z).1
  have inK := env.mod.kin.keeps kept0
  refine codeAny_call_function room.depth (inK _ _ at_f) rfl S.co S.gen rfl (PySem.W.codeRec_of inK code) (bnd _ _ _ _ ?_)
  refine wpAny_newFunctionEnv_cells S.kind ?_ fun en en_is s1 fresh => ?_
  · rintro ⟨n, v⟩ mem
    exact (S.par n (List.of_mem_zip mem).1).imp id fun cell => ⟨cell, PySem.W.cellsFrom_some _ _ _ (.inl cell)⟩
  subst en_is
  refine ⟨(env.mod.nolimit.keeps kept0).keeps fresh.toInCall.keep, codeAny_func ?_⟩
  obtain ⟨t, rd, start_ok⟩ := bd A gA outer s H vs Q E (room.deeper _) want
  refine wpAny_mono (rd.run [] s1 (start N vs) H _ (inv_start S room.hd env (ln _ _ _ _ want) vals fresh) start_ok) (fun fl s' ended => ?_) fun _ _ z => z
  cases fl with
  | ret u =>
    obtain ⟨v, _, H', J, rv, q⟩ := ended
    exact ⟨v, H', J.os, J.bare, J.base, J.hok, rv, q⟩
  | next =>
    obtain ⟨_, H', J, q⟩ := ended
    exact ⟨V.non, H', J.os, J.bare, J.base, J.hok, rfl, q⟩
  | brk => exact ended.choose_spec.choose_spec.2.elim
  | cont => exact ended.choose_spec.choose_spec.2.elim
/-- a def of the text, no defaults, nothing leaves it -/
theorem Fun.okG {x qual : Str} {st : Stmt} (F : Fun K x qual st f fd) (S : FnScope N ps (defScope st)) (ln : ∀ vs H Q E, sp vs H Q E → vs.length = ps.length)
    (bd : ∀ (cdv : Value) (A : Around), A.guards = some [] → ∀ (outer : List Env) (s : Shared) (H : Hp) (vs : List V) (Q : VK) (E : XK), Room k (A.deeper (envOfC qual (defScope st) s.heap.objs.size f cdv)) → sp vs H Q E →
      ∃ t, PSs (cxOf CX0 P w K mg base N qual (defScope st) f cdv A outer s H E).nox (defBody st) t ∧ t { nx := fun _ H' => Q .non H', rt := Q } (start N vs) H) : GOk P w K mg base CX0 (k + 1) f fd ps sp := by
  obtain ⟨oc, od, kV, doc, pm, an, cdv, ct, osl, rfl, at_f, code⟩ := F.ex
  refine g_of at_f code S ln fun A gA outer s H vs Q E room want => ?_
  obtain ⟨t, rd, q⟩ := bd cdv A gA outer s H vs Q E room want
  exact ⟨t, rd.nox, q⟩
/-- such a def under its name -/
structure CalG (P : Program) (w : World) (K : PySem.W.Frag) (mg : Str → Option Value) (base : Heap) (x : Str) (k : Nat) (sp : Sp) : Prop where
  ex : ∃ (f : Addr) (fd : FuncData) (ps : List Str), GOk P w K mg base CX0 k f fd ps sp ∧ mg x = some (.ref f) ∧ PySem.W.keepIn K (.ref f) = true ∧ Binds K fd ps []
end
section
variable {X : Cx} {e : Expr} {es : List Expr} {t : TA} {x : Str} {k : Nat} {sp : Sp} {p pos : Pos}
theorem pe_calG (c : CalG X.prog X.w X.K X.mg X.base x k sp) (gX : X.A.guards = some []) (hr : Room k X.A) (ha : PA X (e :: es) t) (hg : Gl X x := by rfl) (hdb : (x == ("__debug__" : Str)) = false := by decide)
    (he : starEach (e :: es) X.env = (false, eval e X.env) :: starEach es X.env := by rfl) (hpl : (backTo pos (starEach es X.env)).any (·.1) = false := by rfl) :
    PE X (.Call (.Name x p) (e :: es) [] pos) (tCal sp t) := by
  obtain ⟨f, fd, ps, F, hm, hk, hb⟩ := c.ex
  refine ⟨fun pins s σ H Q I h => wpAny_Call_Name_kw (ld_glob I hg hm ?_ hdb)⟩
  refine PySem.W.callWith_K (h₀ := X.base) I.ok.mod.kin hk (thn (ha.run pos pins s σ H _ I h) fun us s1 got => ?_) he hpl
  obtain ⟨vs, H1, I1, rv, want⟩ := got
  refine ⟨I1.kIn, wpAny_call ?_⟩
  have n := rv.length ▸ F.ln _ _ _ _ want
  have bnd := hb s1 us I1.kIn (by rw [List.append_nil]; exact n)
  rw [List.append_nil] at bnd
  refine codeAny_mono (F.go X.A gX X.stack s1 H1 ⟨us, []⟩ us vs Q E0 hr I1.env0 bnd rv want) fun r s' ended => ?_
  match r, ended with
  | .ok (.ret u), z => exact I1.after z
  | .ok .next, z => exact z.elim
  | .ok .brk, z => exact z.elim
  | .ok .cont, z => exact z.elim
  | .error _, z => exact z.elim
end
end L2

end
section
set_option maxRecDepth 100000
namespace L2
open PySem PySem.Spec PyProof.Rows
/-! ### the end, by a promise that wants no guards -/
section
variable {P : Program} {w : World} {K : PySem.W.Frag} {mg mb : Str → Option Value} {k : Nat} {fa a : Addr} {fd : FuncData} {x : Str} {sp : Sp} {s1 : Shared} {vs : List Value} {ns : List Int}
/-- the heap in which the script alone may be tracked, and only if it is none of the text's own objects -/
def scrH (K : PySem.W.Frag) (a : Addr) (vs : List Value) (ns : List Int) : Hp := fun b => if b = a ∧ K.lookup a = none then some (.frz { cls := .type "list", data := .seq vs.toArray } (.lst (ns.map V.int))) else none
theorem scrH_some {b : Addr} {o : HO} (h : scrH K a vs ns b = some o) : b = a ∧ K.lookup a = none ∧ o = .frz { cls := .type "list", data := .seq vs.toArray } (.lst (ns.map V.int)) := by
  unfold scrH at h
  split at h
  · rename_i c
    cases h
    exact ⟨c.1, c.2, rfl⟩
  · cases h
theorem scrH_only : Only (scrH K a vs ns) := fun b => by
  cases e : scrH K a vs ns b with
  | none => exact .inl rfl
  | some o => exact .inr ⟨_, _, congrArg some (scrH_some e).2.2⟩
theorem scr_call (inK : K.In s1.heap) (tops : s1.heap.Ns mainGlobals mg) (blt : s1.heap.Ns builtinsNs mb) (boot : ∀ x : Str, x ≠ "__name__" → mb x = bootBuiltins x) (lim : s1.heap.NoLimit) (none_run : s1.gens = #[])
    (obj : s1.heap.get? a = some { cls := .type "list", data := .seq vs.toArray }) (isI : IntsAre vs ns) (few : ns.length ≤ sizeLine) (room : Room k callerA)
    (F : ∀ base : Heap, K.In base → base.Ns mainGlobals mg → GOk P w K mg base CX0 k fa fd [x] sp) (bnd : ∀ (s : Shared) (u : Value), BindsTo s fd ⟨[u], []⟩ [(x, u)])
    (want : ∀ H : Hp, Only H → SqL K H a (ns.map V.int) → sp [.ref a] H (fun v _ => v = .bl true) fun _ _ _ => False) :
    codeAny (model P w) callerA (.call (.ref fa) ⟨[.ref a], []⟩) (fun r s' => r = .ok (.ret (.bool true)) ∧ OldK s1.heap s'.heap ∧ s'.os = s1.os ∧ AllBare s'.gens) s1 := by
  have vals := vals_ints isI
  have lv := isI.length
  have stand : ∀ {b : Addr} {o : Obj}, s1.heap.get? b = some o → b ≠ a ∨ K.lookup a ≠ none → (hidT s1.heap (scrH K a vs ns)).get? b = some o := fun {b o} e c => hidT_get e (by
    cases z : scrH K a vs ns b with
    | none => rfl
    | some u =>
      obtain ⟨z1, z2, _⟩ := scrH_some z
      rcases c with c | c
      · exact absurd z1 c
      · exact absurd z2 c)
  have dicts : ∀ {b : Addr} {o : Obj} {es : Array DictEntry} {ep : Nat}, s1.heap.get? b = some o → o.data = .dict es ep → b ≠ a := fun {b o es ep} e d z => by
    rw [z, obj] at e
    cases e
    cases d
  have spaces : ∀ {b : Addr} {m : Str → Option Value}, s1.heap.Ns b m → (hidT s1.heap (scrH K a vs ns)).Ns b m := fun {b m} ns => by
    obtain ⟨o, es, ep, e, d, r⟩ := ns
    exact ⟨o, es, ep, stand e (.inl (dicts e d)), d, r⟩
  have inB : K.In (hidT s1.heap (scrH K a vs ns)) := fun b o e => stand (inK b o e) (by
    by_cases z : b = a
    · exact .inr fun n => by rw [← z, e] at n; cases n
    · exact .inl z)
  have limB : (hidT s1.heap (scrH K a vs ns)).NoLimit := let ⟨mc, h1, h2⟩ := lim; ⟨mc, spaces h1, h2⟩
  have long : (ns.map V.int).length ≤ sizeLine := by rw [List.length_map]; exact few
  have ok : HOk P w (scrH K a vs ns) s1.heap := fun b o e => by
    obtain ⟨rfl, _, rfl⟩ := scrH_some e
    exact ⟨obj, long, vs, _, vals, obj⟩
  have listed : SqL K (scrH K a vs ns) a (ns.map V.int) := by
    cases lk : K.lookup a with
    | none => exact .inl (.inr ⟨_, if_pos ⟨rfl, lk⟩⟩)
    | some o =>
      have e := (inK a o lk).symm.trans obj
      cases e
      exact .inr ⟨_, vs.toArray, _, lk, rfl, rfl, rfl, by rw [List.size_toArray, lv]; exact few, by simpa using vals⟩
  have env : Env0 P w K mg (hidT s1.heap (scrH K a vs ns)) callerA [] s1 (scrH K a vs ns) :=
    { frames := rfl, mod := ⟨inB, spaces tops, ⟨mb, spaces blt, boot⟩, limB⟩, bs := fun b o e => of_hidT e, bsz := Nat.le_of_eq (hidT_size _ _), funs := trivial, frf := fun b z => (List.not_mem_nil z).elim, hok := ok, bare := .of_eq none_run }
  refine codeAny_mono ((F _ inB (spaces tops)).go callerA rfl [] s1 _ ⟨[.ref a], []⟩ [.ref a] [.ref a] _ _ room env (bnd s1 (.ref a)) (.cons rfl .nil) (want _ scrH_only listed)) fun r s' ended => ?_
  match r, ended with
  | .ok (.ret u), z =>
    obtain ⟨v, H', os, bare, un, ok', rv, q⟩ := z
    have ev : v = .bl true := q
    rw [ev] at rv
    cases rv
    refine ⟨rfl, .of_keep fun b o e => ?_, os, bare⟩
    cases n : scrH K a vs ns b with
    | none => exact un.keep b o e n List.not_mem_nil List.not_mem_nil
    | some t =>
      obtain ⟨rfl, _, rfl⟩ := scrH_some n
      have same := (ok' b _ (un.frzs b _ _ n)).1
      rw [obj] at e
      cases e
      exact same
  | .ok .next, z => exact z.elim
  | .ok .brk, z => exact z.elim
  | .ok .cont, z => exact z.elim
  | .error _, z => exact z.elim
end
theorem walk_ofG {l : PySem.W.OpenLaw} {n k : Nat} {q : Program} {loose : List Str} {XP : (Str → Option Value) → Heap → Prop} {YP : World → Heap → Prop} {d : DefRec} {K : Params → PySem.W.Frag} {sp : World → Sp} {x : Str}
    (hn : l.most = some n) (hn2 : n ≤ sizeLine) (hdf : d.params.defaults = []) (room : Room k callerA) (hY : ∀ (w : World) (h : Heap), YP w h → (K w.params).In h)
    (F : ∀ (w : World) (mg : Str → Option Value) (fa : Addr) (h : Heap), (K w.params).In h → h.Ns mainGlobals mg → mg d.name = some (.ref fa) →
      ∃ fd : FuncData, (∀ (s : Shared) (u : Value), BindsTo s fd ⟨[u], []⟩ [(x, u)]) ∧ ∀ base : Heap, (K w.params).In base → base.Ns mainGlobals mg → GOk l.prog w (K w.params) mg base CX0 k fa fd [x] (sp w))
    (want : ∀ (w : World) (H : Hp) (a : Addr) (ns : List Int), ns.length ≤ n → Only H → SqL (K w.params) H a (ns.map V.int) → sp w [.ref a] H (fun v _ => v = .bl true) fun _ _ _ => False) :
    PySem.W.WalkO q loose XP YP l.row.toRowW d [] (fun f vs => PySem.call f vs) := by
  refine Att.attach_call hn hdf fun w s0 s1 mg mb fa o pm cd doc a vs ns G Y _ _ _ named obj isI len none_run => ?_
  obtain ⟨fd, bnd, ok⟩ := F w mg fa _ (hY w _ Y) G.T.g named
  exact scr_call (hY w _ Y) G.T.g G.T.b G.T.builtins G.T.nolimit none_run obj isI (Nat.le_trans len hn2) room ok bnd fun H hO hS => want w H a ns len hO hS
end L2

end
section
set_option maxRecDepth 100000
namespace L2
open PySem PySem.Spec PyProof.Rows
/-! ### own exceptions with a field -/
/-- what an own exception class at C must have -/
structure XCls (K : PySem.W.Frag) (C : Addr) : Prop where
  oex : OexC K C
  xf : XfC K C
  ca : PySem.W.findIn K (.ref C) "__class__" = some (some (.builtin "object.__class__"))
  mo : PySem.W.mroIn K C (.type "object") = some true
structure XGlob (K : PySem.W.Frag) : Prop where
  gs : PySem.W.specialIn K (.builtin "object.__class__") "__get__" = some (some (.builtin "getset_descriptor.__get__"))
  tk : PySem.W.takesIn K (.builtin "object.__class__") = some true
/-- isinstance of the exception at a (class cls, dict d) -/
def rIsX (K : PySem.W.Frag) (a : Addr) (cls : Value) (C : Addr) (d : Option Addr) : List V → Hp → VK → Prop := fun xs H Q => cls = .ref C ∧ (∃ (dd : Addr) (fs : List (Str × V)), d = some dd ∧ H dd = some (.xd fs)) ∧
  ((∃ (D : Addr) (b : Bool), xs = [.ref a, .ref D] ∧ PySem.W.kitOne K (.ref C) (.ref D) = some b ∧ Q (.bl b) H) ∨
    (∃ (n : String) (b : Bool), xs = [.ref a, .ty n] ∧ PySem.W.kitOne K (.ref C) (.type n) = some b ∧ Q (.bl b) H) ∨
    ∃ (tp : Addr) (ds : List Addr) (b : Bool), xs = [.ref a, .ref tp] ∧ H tp = some (.tup (ds.map V.ref)) ∧ PySem.W.kitAny K (.ref C) (ds.map Value.ref) = some b ∧ Q (.bl b) H)
theorem refs_vals : ∀ {ds : List Addr} {us : List Value}, Vals (ds.map V.ref) us → us = ds.map Value.ref
  | [], _, .nil => rfl
  | d :: ds, _, .cons h r => by
    cases h
    rw [refs_vals r]
    rfl
theorem cr_isX {X : Cx} {a C : Addr} {cls : Value} {oe : Obj} {d : Option Addr} {pn : List (Addr × Obj)} (T : XCls X.K C) (G : XGlob X.K) (hz : Zc cls d oe) (hf : ∃ vs, oe.data = .fields vs) : CallR (X.suite a ((a, oe) :: pn)) (.builtin "isinstance") (rIsX X.K a cls C d) := by
  intro pins s σ H xs us Q I r h
  obtain ⟨ec, ⟨dd, fs, ed, hdd⟩, h⟩ := h
  subst ec
  subst ed
  obtain ⟨hget, _⟩ := I.pin (a, oe) (List.mem_append.mpr (.inl List.mem_cons_self))
  obtain ⟨fv, hv⟩ := hf
  have hx : ObjOk X.prog X.w H s.heap dd (.xd fs) := I.hok dd _ hdd
  obtain ⟨mA, hns, _⟩ := hx
  obtain ⟨od, ho, _⟩ := lookIn_ns hns
  have J : PySem.W.InstAt s.heap a oe C (some od) := ⟨hget, hz.1, by unfold PySem.W.notCls; rw [hv] <;> rfl, by rw [hz.2]; exact ho⟩
  have some_cls : (PySem.W.clsIn X.K C).isSome = true := by
    obtain ⟨nm, q, N, bs, bm, sn, sub, ab, col, dd, k0, k1, k2, k3, k5, hC, _⟩ := T.oex.cls
    unfold PySem.W.clsIn
    rw [hC] <;> rfl
  have Z := PySem.W.kitx_exc (x := a) (ox := oe) (od := some od) some_cls T.xf.ga T.xf.gg T.xf.exC T.ca G.gs G.tk T.mo
  have fin : ∀ b : Bool, Q (.bl b) H → ∀ tk, EP (X.suite a ((a, oe) :: pn)) pins σ Q (.bool b) { s with toks := tk } := fun b q tk => ⟨.bl b, H, I.tok tk, rfl, q⟩
  rcases h with ⟨D, b, rfl, e, q⟩ | ⟨n, b, rfl, e, q⟩ | ⟨tp, ds, b, rfl, ht, e, q⟩
  · cases r with
    | cons r1 r2 => cases r2 with
      | cons r2 r3 =>
        cases r3
        cases r1
        cases r2
        exact PySem.W.kia_one Z I.kIn J e (fun z => nomatch z) (fin b q)
  · cases r with
    | cons r1 r2 => cases r2 with
      | cons r2 r3 =>
        cases r3
        cases r1
        cases r2
        exact PySem.W.kia_one Z I.kIn J e (fun z => nomatch z) (fin b q)
  · cases r with
    | cons r1 r2 => cases r2 with
      | cons r2 r3 =>
        cases r3
        cases r1
        cases r2
        obtain ⟨_, its, rv, ⟨o, ho, hc, n, hd⟩⟩ := I.hok tp _ ht
        have ei := refs_vals rv
        subst ei
        obtain ⟨oc, odd, oda, osl⟩ := o
        cases hc
        cases hd
        exact PySem.W.kia_tup Z I.kIn J ho e (fun z => nomatch z) (fin b q)
/-! ### defs and methods that may raise -/
structure CalX (P : Program) (w : World) (K : PySem.W.Frag) (mg : Str → Option Value) (base : Heap) (x : Str) (k : Nat) (sp : Sp) : Prop where
  ex : ∃ (f : Addr) (fd : FuncData) (ps : List Str), FnOk P w K mg base (L2.CX P w) k f fd ps sp ∧ mg x = some (.ref f) ∧ PySem.W.keepIn K (.ref f) = true ∧ Binds K fd ps []
structure MCalX (P : Program) (w : World) (K : PySem.W.Frag) (mg : Str → Option Value) (base : Heap) (C : Addr) (m : Str) (k : Nat) (sp : Sp) : Prop where
  ex : ∃ (f : Addr) (fd : FuncData) (ps : List Str), FnOk P w K mg base (L2.CX P w) k f fd ps sp ∧ Meth K C m f ∧ Binds K fd ps []
section
variable {X : Cx} {e o : Expr} {es : List Expr} {t : TA} {ta : TE} {x m : Str} {k : Nat} {sp : Sp} {C : Addr} {E : XK} {W : WX} {p pos apos : Pos}
/-- what a callee lets out goes on -/
theorem goes_on (tk : Takes X (fun cls d _ H => E cls d H)) : Passes (L2.CX X.prog X.w) X E := fun _ _ _ _ e s' I c => tk e s' (XE.of_call I (fun _ _ _ h => h) c)
def tCalX (sp : Sp) (E : XK) (t : TA) : TE := fun σ H Q => t σ H fun vs H1 => sp vs H1 Q E
theorem pe_calX (c : CalX X.prog X.w X.K X.mg X.base x k sp) (tk : Takes X (fun cls d _ H => E cls d H)) (hr : Room k X.A) (ha : PA X (e :: es) t) (hg : Gl X x := by rfl) (hdb : (x == ("__debug__" : Str)) = false := by decide)
    (he : starEach (e :: es) X.env = (false, eval e X.env) :: starEach es X.env := by rfl) (hpl : (backTo pos (starEach es X.env)).any (·.1) = false := by rfl) :
    PE X (.Call (.Name x p) (e :: es) [] pos) (tCalX sp E t) := by
  obtain ⟨f, fd, ps, F, hm, hk, hb⟩ := c.ex
  refine (pe_call F hr hg hm hk hb .nil (goes_on tk) ha hdb he hpl).to fun σ H Q q => ?_
  have q' : t σ H fun vs H1 => sp vs H1 Q E := q
  show t σ H fun vs H1 => sp (vs ++ []) H1 Q E
  simpa only [List.append_nil] using q'
/-- the same where a try of the def's own takes it: wished for at the slots -/
theorem pe_calW (c : CalX X.prog X.w X.K X.mg X.base x k sp) (tk : Takes X W) (hr : Room k X.A) (ha : PA X (e :: es) t) (hg : Gl X x := by rfl) (hdb : (x == ("__debug__" : Str)) = false := by decide)
    (he : starEach (e :: es) X.env = (false, eval e X.env) :: starEach es X.env := by rfl) (hpl : (backTo pos (starEach es X.env)).any (·.1) = false := by rfl) :
    PE X (.Call (.Name x p) (e :: es) [] pos) (tCallS sp (WE W) t) := by
  obtain ⟨f, fd, ps, F, hm, hk, hb⟩ := c.ex
  exact pe_callS F hr hg hm hk hb (fun σ => passAt tk σ) ha hdb he hpl
/-- a method at the slots -/
def tMethW (C : Addr) (m : Str) (sp : Sp) (W : WX) (ta : TE) (t : TA) : TE := fun σ H Q => ta σ H fun y H1 => ∃ a dx fs, y = .ref a ∧ H1 a = some (.ins C dx fs) ∧ fs.lookup m = none ∧ t σ H1 fun vs H2 => sp (y :: vs) H2 Q (WE W σ)
theorem pe_methW {pl : Sem Bool} (ho : PE X o ta) (cl : Cls X.K C) (M : MCalX X.prog X.w X.K X.mg X.base C m k sp) (tk : Takes X W) (hr : Room k X.A) (ha : PA X (e :: es) t)
    (hst : starEach (e :: es) X.env = (false, eval e X.env) :: starEach es X.env := by rfl) (hpl : (backTo pos (starEach es X.env)).any (·.1) = false := by rfl)
    (shape : eval (.Call (.Attribute o m apos) (e :: es) [] pos) X.env = (do let ov ← eval o X.env; standAt apos.atName; let (f, first) ← holding [ov] (getMethod ov m pl); callWith pos f first (backTo pos (starEach (e :: es) X.env)) (backToKw pos (keywordEach [] X.env))) := by rfl) :
    PE X (.Call (.Attribute o m apos) (e :: es) [] pos) (tMethW C m sp W ta t) := by
  obtain ⟨f, fd, ps, F, hm, hb⟩ := M.ex
  refine ⟨fun pins s σ H Q I h => PySem.W.methodCall_KW (pl := pl) (thn (ho.run pins s σ H _ I h) fun u s1 got => ?_) shape⟩
  obtain ⟨y, H1, I1, ry, a, dx, fs, rfl, ea, l, q⟩ := got
  cases ry
  refine getmeth_ok I1 ea cl hm l (PySem.W.callWith_K (first := [.ref a]) (h₀ := X.base) I.ok.mod.kin hm.kp (thn (ha.run pos pins s1 σ H1 _ I1 q) fun us s2 got => ?_) hst hpl)
  obtain ⟨vs, H2, I2, rv, want⟩ := got
  exact ⟨I2.kIn, run_fnS (us := .ref a :: us) (vs := .ref a :: vs) F hr hb (passAt tk σ) I2 (.cons rfl rv) want⟩
/-- a method whose exceptions leave the def -/
def tMethX (C : Addr) (m : Str) (sp : Sp) (E : XK) (ta : TE) (t : TA) : TE := fun σ H Q => ta σ H fun y H1 => ∃ a dx fs, y = .ref a ∧ H1 a = some (.ins C dx fs) ∧ fs.lookup m = none ∧ t σ H1 fun vs H2 => sp (y :: vs) H2 Q E
/-- raise C(e, ..), C's own __init__ keeping sp -/
theorem ps_raiseX {fI : Addr} {fd : FuncData} {ps : List Str} (calm : X.calm = true) (tk : Takes X W) (T : OexC X.K C) (iC : PySem.W.findIn X.K (.ref C) "__init__" = some (some (.ref fI))) (tI : PySem.W.typeIn X.K (.ref fI) = some (.type "function"))
    (F : FnOk X.prog X.w X.K X.mg X.base CX0 k fI fd ps sp) (hr : Room (k + 1) X.A) (hb : Binds X.K fd ps []) (hm : X.mg x = some (.ref C)) (ha : PA X (e :: es) t) (hg : Gl X x := by rfl)
    (hdb : (x == ("__debug__" : Str)) = false := by decide) (he : starEach (e :: es) X.env = (false, eval e X.env) :: starEach es X.env := by rfl) (hpl : (backTo apos (starEach es X.env)).any (·.1) = false := by rfl) :
    PS X (.Raise (some (.Call (.Name x p) (e :: es) [] apos)) none pos) (fun _ σ H => tMkO C sp [] t σ H fun cls d H' => W cls d σ H') :=
  ps_raise calm tk (pmk_oex T iC tI F hr hb .nil (fun _ _ _ _ _ _ _ z => z.elim) hg hm ha hdb he hpl)
end
/-! ### an __init__ that keeps its one argument in a field -/
def spKeep (K : PySem.W.Frag) (f : Str) : Sp := fun vs H Q _ => ∃ (a C : Addr) (v : V), vs = [.ref a, v] ∧ OexC K C ∧ PySem.W.findIn K (.ref C) f = some none ∧ H a = some (exo a C none) ∧ ∀ dx, H dx = none → dx ≠ a → Q .non (upd (upd H dx (exd dx [(f, v)])) a (exo a C (some dx)))
/-- its raising, as the callers see it -/
theorem keep_raised {K : PySem.W.Frag} {C : Addr} {f : Str} {v : V} {H : Hp} {Q : XK} (T : OexC K C) (hf : PySem.W.findIn K (.ref C) f = some none) (q : ∀ (d : Addr) (H' : Hp), H d = none → Same H H' → H' d = some (.xd [(f, v)]) → Q (.ref C) (some d) H') (a : Addr) (na : H a = none) :
    spKeep K f [.ref a, v] (upd H a (exo a C none)) (fun y H2 => y = .non ∧ ∃ (d : Addr) (fs : List (Str × V)), H2 a = some (exo a C (some d)) ∧ H2 d = some (exd d fs) ∧ H d = none ∧ Q (.ref C) (some d) (upd (del H2 a) d (.xd fs))) fun _ _ _ => False := by
  refine ⟨a, C, v, rfl, T, hf, upd_same, fun dx ndx ne => ⟨rfl, dx, _, upd_same, by rw [upd_ne ne, upd_same], ?_, q dx _ ?_ (fun b o e => ?_) upd_same⟩⟩
  · rw [upd_ne ne] at ndx; exact ndx
  · rw [upd_ne ne] at ndx; exact ndx
  · have nb : b ≠ dx := fun z => by
      rw [upd_ne ne] at ndx
      rw [z, ndx] at e; cases e
    have na' : b ≠ a := fun z => by rw [z, na] at e; cases e
    rw [upd_ne nb, del_ne na', upd_ne na', upd_ne nb, upd_ne na']
    exact e
end L2
namespace L2
open PySem PySem.Spec PyProof.Rows
/-- an exception class with such an __init__, under its name -/
structure XMk (P : Program) (w : World) (K : PySem.W.Frag) (mg : Str → Option Value) (base : Heap) (C : Addr) (x f : Str) : Prop where
  ex : ∃ (fI : Addr) (fd : FuncData) (ps : List Str), FnOk P w K mg base CX0 1 fI fd ps (spKeep K f) ∧ Binds K fd ps [] ∧ PySem.W.findIn K (.ref C) "__init__" = some (some (.ref fI)) ∧ PySem.W.typeIn K (.ref fI) = some (.type "function")
  mg : mg x = some (.ref C)
  cls : XCls K C
  no : PySem.W.findIn K (.ref C) f = some none
section
variable {X : Cx} {e : Expr} {es : List Expr} {t : TA} {x f : Str} {C : Addr} {W : WX} {p pos apos : Pos}
theorem ps_raiseM (M : XMk X.prog X.w X.K X.mg X.base C x f) (calm : X.calm = true) (tk : Takes X W) (hr : Room 2 X.A) (ha : PA X (e :: es) t) (hg : Gl X x := by rfl)
    (hdb : (x == ("__debug__" : Str)) = false := by decide) (he : starEach (e :: es) X.env = (false, eval e X.env) :: starEach es X.env := by rfl) (hpl : (backTo apos (starEach es X.env)).any (·.1) = false := by rfl) :
    PS X (.Raise (some (.Call (.Name x p) (e :: es) [] apos)) none pos) (fun _ σ H => tMkO C (spKeep X.K f) [] t σ H fun cls d H' => W cls d σ H') := by
  obtain ⟨fI, fd, ps, F, hb, iC, tI⟩ := M.ex
  exact ps_raiseX calm tk M.cls.oex iC tI F hr hb M.mg ha hg hdb he hpl
end
/-- where it does not raise, it is as one that never does -/
theorem FnOk.calm {P : Program} {w : World} {K : PySem.W.Frag} {mg : Str → Option Value} {base : Heap} {k : Nat} {f : Addr} {fd : FuncData} {ps : List Str} {sp : Sp} (F : FnOk P w K mg base (L2.CX P w) k f fd ps sp) : FnOk P w K mg base CX0 k f fd ps (fun vs H Q _ => sp vs H Q fun _ _ _ => False) where
  len := fun vs H Q _ h => F.len vs H Q _ h
  run := fun A outer s H args us vs Q _ hr env bnd vals want => codeAny_mono (F.run A outer s H args us vs Q _ hr env bnd vals want) fun r s' z => match r, z with
    | .ok (.ret _), z => z
    | .ok .next, z => z.elim
    | .ok .brk, z => z.elim
    | .ok .cont, z => z.elim
    | .error _, ⟨_, _, _, _, _, _, _, _, _, _, _, _, no⟩ => no.elim
theorem CalX.calm {P : Program} {w : World} {K : PySem.W.Frag} {mg : Str → Option Value} {base : Heap} {x : Str} {k : Nat} {sp sp' : Sp} (c : CalX P w K mg base x k sp) (h : ∀ vs H Q E, sp' vs H Q E → sp vs H Q fun _ _ _ => False) : Cal P w K mg base x k sp' := by
  obtain ⟨f, fd, ps, F, r⟩ := c.ex
  exact ⟨f, fd, ps, F.calm.imp h, r⟩
theorem MCalX.calm {P : Program} {w : World} {K : PySem.W.Frag} {mg : Str → Option Value} {base : Heap} {C : Addr} {m : Str} {k : Nat} {sp sp' : Sp} (c : MCalX P w K mg base C m k sp) (h : ∀ vs H Q E, sp' vs H Q E → sp vs H Q fun _ _ _ => False) : MCal P w K mg base C m k sp' := by
  obtain ⟨f, fd, ps, F, r⟩ := c.ex
  exact ⟨f, fd, ps, F.calm.imp h, r⟩
theorem Cal.imp {P : Program} {w : World} {K : PySem.W.Frag} {mg : Str → Option Value} {base : Heap} {x : Str} {k : Nat} {sp sp' : Sp} (c : Cal P w K mg base x k sp) (h : ∀ vs H Q E, sp' vs H Q E → sp vs H Q E) : Cal P w K mg base x k sp' := by
  obtain ⟨f, fd, ps, F, r⟩ := c.ex
  exact ⟨f, fd, ps, F.imp h, r⟩
end L2

end
section
set_option maxRecDepth 100000
set_option maxHeartbeats 4000000
namespace L2
open PySem PySem.Spec PyProof.Rows
/-! ### a tuple once, or many times -/
theorem tuple_mul1 (l : Addr) (items : Array Value) (n : Nat) (dd : Option Addr) (sl : Array (Option Value)) (u : Tok) :
    Meets (Builtin.«tuple.__mul__» ⟨[.ref l, .int 1 u], []⟩) (fun _ R s => s.heap.get? l = some { cls := .type "tuple", dict := dd, data := .seq items n, slots := sl } ∧ R (.ok (.ret (Value.ref l))) s) :=
  .of_wp fun prog w A R s h => by
    obtain ⟨hp, g, d, tk, os⟩ := s
    obtain ⟨hl, h⟩ := h
    have f1 := AutoSeq1.idx_int
    have c1 : (items.isEmpty || (1 : Int) == 1) = true := by rw [show ((1 : Int) == 1) = true from rfl, Bool.or_true]
    wp_walk using wpAny_loadPart' hl
    repeat (first
      | (refine wpAny_ite_true (decide_eq_true c1) ?_; wp_walk using wpAny_loadPart' hl)
      | (refine wpAny_ite_true c1 ?_; wp_walk using wpAny_loadPart' hl))
    all_goals exact ⟨_, rfl, h⟩
def rRepTA (K : PySem.W.Frag) : R2 := fun x y H Q => ∃ l k xs, x = .ref l ∧ y = .int k ∧ SqT K H l xs ∧ xs ≠ [] ∧ 1 ≤ k ∧ k ≤ 1000 ∧ xs.length ≤ 1000 ∧ (k = 1 → Q (.ref l) H) ∧ (2 ≤ k → ∀ p, H p = none → Q (.ref p) (upd H p (.tup (List.replicate k.toNat xs).flatten)))
section
variable {X : Cx}
theorem op_repTA (K : PySem.W.Frag) (hK : X.K = K := by rfl) : OpR X (binaryOp .Mult) (rRepTA K) := by
  subst hK
  intro pins s σ H x y v u Q I rx ry h
  obtain ⟨l, k, xs, rfl, rfl, hT, hne, h1, h2, hz, q1, q2⟩ := h
  rcases Int.lt_or_le 1 k with h3 | h3
  · exact op_repT pins s σ H _ _ v u Q I rx ry ⟨l, k, xs, rfl, rfl, hT, hne, by omega, h2, hz, q2 (by omega)⟩
  obtain rfl : k = 1 := by omega
  cases rx
  obtain ⟨t, rfl⟩ := ry
  obtain ⟨its, r, ⟨⟨cls, dd, data, sl⟩, ho, hc, n, hd⟩, hs⟩ := I.tuple hT
  simp only at hc hd
  subst hc hd
  refine wpAny_binaryOp_repeat_ref (T := "tuple") (U := "int") (by decide) ⟨_, ho, rfl⟩ (fun s' => typeIs_int s' 1 t) noFill_tuple_mul F.fills_int_mul F.slot_int_rmul repeat_tuple F.slot_int_index.lookup
    (call_meets F.slot_int_rmul (typeIs_int s 1 t) F.entry_int_rmul (F.args_int_rmul_2 _ _) (int_rmul_tuple 1 t l its.toArray n dd sl)
      ⟨ho, rfl, ⟨_, ho, rfl⟩, call_meets F.slot_tuple_mul ⟨_, ho, rfl⟩ F.entry_tuple_mul (F.args_tuple_mul_2 _ _) (tuple_mul1 l its.toArray n dd sl t) ⟨ho, ?_⟩⟩)
  exact ⟨.ref l, H, I, rfl, q1 rfl⟩
end
end L2

end
section
set_option maxRecDepth 100000
namespace L2
open PySem PySem.Spec PyProof.Rows
/-! ### a call that knows nothing of one list leaves that list as it is, and builds nothing upon it -/
section
variable {P : Program} {w : World} {K : PySem.W.Frag} {mg : Str → Option Value} {base : Heap} {k : Nat} {f : Addr} {fd : FuncData} {ps : List Str}
/-- H without what stands at b -/
def hide (H : Hp) (b : Addr) : Hp := fun a => if a = b then none else H a
theorem hide_same {H : Hp} {b : Addr} : hide H b b = none := if_pos rfl
theorem hide_ne {H : Hp} {a b : Addr} (h : a ≠ b) : hide H b a = H a := if_neg h
theorem hide_some {H : Hp} {a b : Addr} {o : HO} (h : hide H b a = some o) : a ≠ b ∧ H a = some o := by
  have ne : a ≠ b := fun e => by
    rw [e, hide_same] at h
    cases h
  exact ⟨ne, (hide_ne (H := H) ne).symm.trans h⟩
/-- an object asks of the others for tuples and for the dicts of instances alone -/
theorem objOk_swap {H H2 : Hp} {h : Heap} {a : Addr} (tups : ∀ c xs, H c = some (.tup xs) → H2 c = some (.tup xs)) (owns : ∀ c x, H c = some (.own x) → H2 c = some (.own x)) : ∀ o : HO, ObjOk P w H h a o → ObjOk P w H2 h a o
  | .lst _, k => k
  | .tup _, k => k
  | .dK _, k => k
  | .dT _, ⟨l, s, xs, p, r⟩ => ⟨l, s, xs, by
    clear r
    induction p with
    | nil => exact .nil
    | cons e _ ih => exact .cons ⟨e.1, tups _ _ e.2.1, e.2.2⟩ (ih (Nat.le_of_succ_le l)), r⟩
  | .set _ _, k => k
  | .ins _ _ _, ⟨d, r⟩ => ⟨owns _ _ d, r⟩
  | .own _, k => k
  | .xd _, k => k
  | .met _ _, k => k
  | .rng _ _, k => k
  | .frz _ u, ⟨d, r⟩ => ⟨d, objOk_swap tups owns u r⟩
  | .tbl _, k => k
  | .ext _, k => k
theorem hOk_hide {H : Hp} {h : Heap} {b : Addr} {xs : List V} (hb : H b = some (.lst xs)) (k : HOk P w H h) : HOk P w (hide H b) h := fun a o ha =>
  objOk_swap (fun c ys e => by rw [hide_ne (ne_of e hb (by intro z; cases z))]; exact e) (fun c x e => by rw [hide_ne (ne_of e hb (by intro z; cases z))]; exact e) o (k a o (hide_some ha).2)
theorem env0_hide {A : Around} {outer : List Env} {s : Shared} {H : Hp} {b : Addr} {xs : List V} (hb : H b = some (.lst xs)) (e : Env0 P w K mg base A outer s H) : Env0 P w K mg base A outer s (hide H b) where
  frames := e.frames
  mod := e.mod
  bs := fun c o q => ⟨(e.bs c o q).1, by
    by_cases z : c = b
    · rw [z, hide_same]
    · rw [hide_ne z]; exact (e.bs c o q).2⟩
  bsz := e.bsz
  funs := e.funs
  frf := fun c hc => by
    by_cases z : c = b
    · rw [z, hide_same]
    · rw [hide_ne z]; exact e.frf c hc
  hok := hOk_hide hb e.hok
  bare := e.bare
/-- a spec, asked of the heap without the list at b -/
def Off (sp : Sp) : Sp := fun vs H Q E => ∃ (b : Addr) (xs : List V), H b = some (.lst xs) ∧ sp vs (hide H b) (fun v H' => H' b = none → Q v (upd H' b (.lst xs))) E
theorem FnOk.off {sp : Sp} (F : FnOk P w K mg base CX0 k f fd ps sp) : FnOk P w K mg base CX0 k f fd ps (Off sp) where
  len := fun vs H Q E ⟨b, xs, _, h⟩ => F.len _ _ _ _ h
  run := fun A outer s H args us vs Q E hr he hb hv ⟨b, xs, hbx, hs⟩ => by
    refine codeAny_mono (F.run A outer s (hide H b) args us vs _ E hr (env0_hide hbx he) hb hv hs) fun r s' hq => ?_
    cases r with
    | error e => exact hq
    | ok fl =>
      cases fl with
      | ret u =>
        obtain ⟨v, H', ho, hg, un, hok, rv, q⟩ := hq
        obtain ⟨hl, its, n, vv, hget⟩ := he.hok b _ hbx
        have nf : b ∉ frs outer := fun z => by
          rw [he.frf b z] at hbx
          cases hbx
        have kept := un.keep b _ hget hide_same nf List.not_mem_nil
        have gone := un.free b _ hget hide_same List.not_mem_nil
        have off : ∀ {c : Addr}, H c = none → c ≠ b ∧ hide H b c = none := fun {c} e => by
          have ne : c ≠ b := fun z => by rw [z, hbx] at e; cases e
          exact ⟨ne, by rw [hide_ne ne]; exact e⟩
        refine ⟨v, upd H' b (.lst xs), ho, hg, ⟨fun c o q n => un.keep c o q (off n).2, fun c o q n => un.slot c o q (off n).2, fun c o q n x => ?_, un.there, fun c ys e => ?_, fun c o u e => ?_, fun c ys e => ?_⟩, fun a o ha => ?_, rv, q gone⟩
        · rw [upd_ne (off n).1]
          exact un.free c o q (off n).2 x
        · have ne : c ≠ b := ne_of e hbx (by intro z; cases z)
          rw [upd_ne ne]
          exact un.tups c ys (by rw [hide_ne ne]; exact e)
        · have ne : c ≠ b := ne_of e hbx (by intro z; cases z)
          rw [upd_ne ne]
          exact un.frzs c o u (by rw [hide_ne ne]; exact e)
        · have ne : c ≠ b := ne_of e hbx (by intro z; cases z)
          obtain ⟨more, m⟩ := un.tbls c ys (by rw [hide_ne ne]; exact e)
          exact ⟨more, by rw [upd_ne ne]; exact m⟩
        · by_cases z : a = b
          · subst z
            rw [upd_same] at ha
            cases ha
            exact ⟨hl, its, n, vv, kept⟩
          · rw [upd_ne z] at ha
            have keepH : ∀ c o, H' c = some o → upd H' b (.lst xs) c = some o := fun c o e => by
              rw [upd_ne (ne_of_none e gone)]
              exact e
            exact objOk_swap (fun c ys e => keepH c _ e) (fun c x e => keepH c _ e) o (hok a o ha)
      | next => exact hq
      | brk => exact hq
      | cont => exact hq
end
end L2

end
section
set_option maxRecDepth 100000
namespace Hue
open PySem PySem.Spec PyProof.Rows L2
/-! ### the text by places -/
def top (i : Nat) : Stmt := PySem.Challenge.pw_huefall_k06_whole_state_numbers.main.body.getD i (.Pass ⟨0, 0, 0, 0⟩)
/-- what the top has left: the class, the built-ins' names -/
structure Txt (K : PySem.W.Frag) (mg : Str → Option Value) (C : Addr) : Prop where
  cl : Cls K C
  nCount : NoAttr K C "count"
  nHues : NoAttr K C "hues"
  nBen : NoAttr K C "_beneath"
  nWires : NoAttr K C "wires"
  nAbove : NoAttr K C "_above"
  nDirect : NoAttr K C "_direct"
  nOrder : NoAttr K C "_order"
  mgC : mg "House" = some (.ref C)
  con : ∃ mc, ClX.CRead K C mc ∧ (∃ u, ClX.CVal K C mc "MOST_LAMPS" (.int 16) u) ∧ ∃ u, ClX.CVal K C mc "MOST_HUES" (.int 10) u
  len : mg "len" = none
  range : mg "range" = none
  isinstance : mg "isinstance" = none
  int : mg "int" = none
  bool : mg "bool" = none
  tuple : mg "tuple" = none
  list : mg "list" = none
  set : mg "set" = none
  enumerate : mg "enumerate" = none
  sorted : mg "sorted" = none
  min : mg "min" = none
  all : mg "all" = none
  abs : mg "abs" = none
  reversed : mg "reversed" = none
  max : mg "max" = none
  str : mg "str" = none
  repr : mg "repr" = none
section
variable {P : Program} {w : World} {K : PySem.W.Frag} {mg : Str → Option Value} {base : Heap} {C : Addr}
/-! ### whole numbers -/
/-- the kinds of values that are asked -/
inductive Kd (H : Hp) : V → Prop
  | int (i : Int) : Kd H (.int i)
  | bl (b : Bool) : Kd H (.bl b)
  | non : Kd H .non
  | str (s : Str) : Kd H (.str s)
  | tup {t : Addr} {xs : List V} (h : H t = some (.tup xs)) : Kd H (.ref t)
  | lst {t : Addr} {xs : List V} (h : H t = some (.lst xs)) : Kd H (.ref t)
theorem Kd.same {H H' : Hp} {v : V} (k : Kd H v) (s : Same H H') : Kd H' v := by
  cases k with
  | int i => exact .int i
  | bl b => exact .bl b
  | non => exact .non
  | str s => exact .str s
  | tup h => exact .tup (s _ _ h)
  | lst h => exact .lst (s _ _ h)
def isI : V → Bool
  | .int _ => true
  | _ => false
def inI (v : V) (lo hi : Int) : Bool := match v with
  | .int i => decide (lo ≤ i) && decide (i ≤ hi)
  | _ => false
abbrev s_is_whole : Stmt := top 8
theorem sc_is_whole : FnScope ["value"] ["value"] (defScope s_is_whole) := ⟨rfl, rfl, rfl, by decide +kernel, rfl, by decide +kernel, by decide +kernel⟩
-- slots of is_whole: 0 value
def spWholeV : Sp := fun vs H Q _ => ∃ v, vs = [v] ∧ Kd H v ∧ Q (.bl (isI v)) H
theorem ok_is_whole (T : Txt K mg C) {f : Addr} {fd : FuncData} (F : Fun K "is_whole" "is_whole" s_is_whole f fd) : FnOk P w K mg base CX0 1 f fd ["value"] spWholeV := by
  refine F.ok sc_is_whole (fun vs H Q E h => ?_) (fun cdv A outer s H vs Q E hr h => ?_)
  · obtain ⟨v, rfl, _⟩ := h; rfl
  · obtain ⟨v, rfl, k, q⟩ := h
    refine ⟨_, (pss_one (ps_ret (pe_and (pe_callB (isi_ K) (by rfl) T.isinstance b_isinstance (pa_cons (pv 0) (pa_cons (pe_bltn (v := .ty "int") (by rfl) T.int b_int rfl) pa_nil))) (pe_one (pe_not (pe_callB (isi_ K) (by rfl) T.isinstance b_isinstance (pa_cons (pv 0) (pa_cons (pe_bltn (v := .ty "bool") (by rfl) T.bool b_bool rfl) pa_nil)))))))), ?_⟩
    cases k with
    | int i =>
      refine ⟨_, rfl, _, _, _, _, true, rfl, .ty _, .base (.int i), kit_ty (by decide +kernel), true, rfl, iteT ?_⟩
      exact ⟨_, rfl, _, _, _, _, false, rfl, .ty _, .base (.int i), kit_ty (by decide +kernel), false, rfl, q⟩
    | bl b =>
      refine ⟨_, rfl, _, _, _, _, true, rfl, .ty _, .base (.bl b), kit_ty (by decide +kernel), true, rfl, iteT ?_⟩
      exact ⟨_, rfl, _, _, _, _, true, rfl, .ty _, .base (.bl b), kit_ty (by decide +kernel), true, rfl, q⟩
    | non => exact ⟨_, rfl, _, _, _, _, false, rfl, .ty _, .base .non, kit_ty (by decide +kernel), false, rfl, iteF q⟩
    | str s => exact ⟨_, rfl, _, _, _, _, false, rfl, .ty _, .base (.str s), kit_ty (by decide +kernel), false, rfl, iteF q⟩
    | tup h => exact ⟨_, rfl, _, _, _, _, false, rfl, .ty _, .base (.tup h), kit_ty (by decide +kernel), false, rfl, iteF q⟩
    | lst h => exact ⟨_, rfl, _, _, _, _, false, rfl, .ty _, .base (.lst h), kit_ty (by decide +kernel), false, rfl, iteF q⟩
abbrev s_is_whole_in : Stmt := top 9
theorem sc_is_whole_in : FnScope ["value", "low", "high"] ["value", "low", "high"] (defScope s_is_whole_in) := ⟨rfl, rfl, rfl, by decide +kernel, rfl, by decide +kernel, by decide +kernel⟩
-- slots of is_whole_in: 0 value, 1 low, 2 high
def spWholeInV : Sp := fun vs H Q _ => ∃ v lo hi, vs = [v, .int lo, .int hi] ∧ Kd H v ∧ Q (.bl (inI v lo hi)) H
def spWholeIn : Sp := fun vs H Q _ => ∃ v lo hi, vs = [.int v, .int lo, .int hi] ∧ Q (.bl (decide (lo ≤ v) && decide (v ≤ hi))) H
theorem whole_in_int (vs : List V) (H : Hp) (Q : VK) (E : XK) (h : spWholeIn vs H Q E) : spWholeInV vs H Q E := by
  obtain ⟨v, lo, hi, e, q⟩ := h
  exact ⟨.int v, lo, hi, e, .int v, q⟩
theorem ok_is_whole_in (T : Txt K mg C) {f : Addr} {fd : FuncData} (F : Fun K "is_whole_in" "is_whole_in" s_is_whole_in f fd) (c_is_whole : Cal P w K mg base "is_whole" 1 spWholeV) : FnOk P w K mg base CX0 2 f fd ["value", "low", "high"] spWholeInV := by
  refine F.ok sc_is_whole_in (fun vs H Q E h => ?_) (fun cdv A outer s H vs Q E hr h => ?_)
  · obtain ⟨v, lo, hi, rfl, _⟩ := h; rfl
  · obtain ⟨v, lo, hi, rfl, k, q⟩ := h
    refine ⟨_, (pss_one (ps_ret (pe_and (pe_cal c_is_whole (hr.mono (by decide)) (pa_cons (pv 0) pa_nil)) (pe_one (pe_chain op_le op_le (pv 1) (pv 0) (pv 2)))))), ?_⟩
    refine ⟨_, rfl, v, rfl, k, ?_⟩
    cases v with
    | int i =>
      refine ⟨true, rfl, iteT ?_⟩
      refine ⟨_, rfl, _, rfl, _, _, rfl, rfl, _, rfl, ?_⟩
      refine ite2 (fun h1 => ?_) (fun h1 => ?_)
      · refine ⟨_, rfl, _, _, rfl, rfl, ?_⟩
        have e : inI (.int i) lo hi = decide (i ≤ hi) := by
          show (decide (lo ≤ i) && decide (i ≤ hi)) = _
          rw [h1, Bool.true_and]
        rw [e] at q
        exact q
      · have e : inI (.int i) lo hi = false := by
          show (decide (lo ≤ i) && decide (i ≤ hi)) = _
          rw [Bool.eq_false_iff.mpr h1, Bool.false_and]
        rw [e] at q
        exact q
    | _ => exact ⟨false, rfl, iteF q⟩
/-! ### the checks of a house's parts -/
abbrev s_check_count : Stmt := top 25
theorem sc_check_count : FnScope ["count"] ["count"] (defScope s_check_count) := ⟨rfl, rfl, rfl, by decide +kernel, rfl, by decide +kernel, by decide +kernel⟩
-- slots of check_count: 0 count
def spCheckCount : Sp := fun vs H Q _ => ∃ c : Int, vs = [.int c] ∧ 1 ≤ c ∧ c ≤ 16 ∧ Q .non H
theorem ok_check_count (T : Txt K mg C) {f : Addr} {fd : FuncData} (F : Fun K "check_count" "check_count" s_check_count f fd) (c_is_whole_in : Cal P w K mg base "is_whole_in" 2 spWholeIn) : FnOk P w K mg base CX0 3 f fd ["count"] spCheckCount := by
  refine F.ok sc_check_count (fun vs H Q E h => ?_) (fun cdv A outer s H vs Q E hr h => ?_)
  · obtain ⟨c, rfl, _⟩ := h; rfl
  · obtain ⟨c, rfl, h1, h2, q⟩ := h
    obtain ⟨mc, rd, ⟨u, cv⟩, _⟩ := T.con
    refine ⟨_, (pss_one (ps_if (pt_not (pt_val (pe_cal c_is_whole_in (hr.mono (by decide)) (pa_cons (pv 0) (pa_cons pe_int (pa_cons (cval_ K (pe_glob (v := .ref C) (by rfl) T.mgC rfl)) pa_nil))))))
      pss_never pss_nil)), ?_⟩
    refine ⟨_, rfl, C, mc, _, _, rfl, rd, cv, c, 1, 16, rfl, _, rfl, ifF ?_ q⟩
    rw [decide_eq_true h1, decide_eq_true h2] <;> rfl
abbrev s_check_hues : Stmt := top 26
theorem sc_check_hues : FnScope ["hues"] ["hues"] (defScope s_check_hues) := ⟨rfl, rfl, rfl, by decide +kernel, rfl, by decide +kernel, by decide +kernel⟩
-- slots of check_hues: 0 hues
def spCheckHues : Sp := fun vs H Q _ => ∃ c : Int, vs = [.int c] ∧ 2 ≤ c ∧ c ≤ 10 ∧ Q .non H
theorem ok_check_hues (T : Txt K mg C) {f : Addr} {fd : FuncData} (F : Fun K "check_hues" "check_hues" s_check_hues f fd) (c_is_whole_in : Cal P w K mg base "is_whole_in" 2 spWholeIn) : FnOk P w K mg base CX0 3 f fd ["hues"] spCheckHues := by
  refine F.ok sc_check_hues (fun vs H Q E h => ?_) (fun cdv A outer s H vs Q E hr h => ?_)
  · obtain ⟨c, rfl, _⟩ := h; rfl
  · obtain ⟨c, rfl, h1, h2, q⟩ := h
    obtain ⟨mc, rd, _, ⟨u, cv⟩⟩ := T.con
    refine ⟨_, (pss_one (ps_if (pt_not (pt_val (pe_cal c_is_whole_in (hr.mono (by decide)) (pa_cons (pv 0) (pa_cons pe_int (pa_cons (cval_ K (pe_glob (v := .ref C) (by rfl) T.mgC rfl)) pa_nil))))))
      pss_never pss_nil)), ?_⟩
    refine ⟨_, rfl, C, mc, _, _, rfl, rd, cv, c, 2, 10, rfl, _, rfl, ifF ?_ q⟩
    rw [decide_eq_true h1, decide_eq_true h2] <;> rfl
abbrev s_is_wire : Stmt := top 27
theorem sc_is_wire : FnScope ["count", "value", "upper", "lower"] ["count", "value"] (defScope s_is_wire) := ⟨rfl, rfl, rfl, by decide +kernel, rfl, by decide +kernel, by decide +kernel⟩
-- slots of is_wire: 0 count, 1 value, 2 upper, 3 lower
def spIsWire : Sp := fun vs H Q _ => ∃ (c u l : Int) (t : Addr), vs = [.int c, .ref t] ∧ H t = some (.tup [.int u, .int l]) ∧ 0 ≤ u ∧ u < c ∧ 0 ≤ l ∧ l < c ∧ u ≠ l ∧ Q (.bl true) H
theorem ok_is_wire (T : Txt K mg C) {f : Addr} {fd : FuncData} (F : Fun K "is_wire" "is_wire" s_is_wire f fd) (c_is_whole_in : Cal P w K mg base "is_whole_in" 2 spWholeIn) : FnOk P w K mg base CX0 3 f fd ["count", "value"] spIsWire := by
  refine F.ok sc_is_wire (fun vs H Q E h => ?_) (fun cdv A outer s H vs Q E hr h => ?_)
  · obtain ⟨c, u, l, t, rfl, _⟩ := h; rfl
  · obtain ⟨c, u, l, t, rfl, ht, u0, u1, l0, l1, ne, q⟩ := h
    refine ⟨_, (pss_cons (ps_if (PW.pt (pw_or (pt_not (pt_val (pe_callB (isi_ K) (by rfl) T.isinstance b_isinstance (pa_cons (pv 1) (pa_cons (pe_bltn (v := .ty "tuple") (by rfl) T.tuple b_tuple rfl) pa_nil))))) (pw_or1 (pt_cmpR op_ne (pe_callB (lenS_ K) (by rfl) T.len b_len (pa_cons (pv 1) pa_nil)) pe_int (nomark _)))))
      (pss_one (ps_ret pe_bl)) pss_nil)
      (pss_cons (ps_asg (pv 1) (pg_tup (by rfl) (pgs_cons (pg_name (i := 2) sc_is_wire.nd rfl (by first | exact Or.inl rfl | exact Or.inr rfl)) (pgs_cons (pg_name (i := 3) sc_is_wire.nd rfl (by first | exact Or.inl rfl | exact Or.inr rfl)) pgs_nil))))
      (pss_one (ps_ret (pe_and (pe_cal c_is_whole_in (hr.mono (by decide)) (pa_cons (pv 2) (pa_cons pe_int (pa_cons (pe_op op_sub (pv 0) pe_int) pa_nil)))) (pe_and (pe_cal c_is_whole_in (hr.mono (by decide)) (pa_cons (pv 3) (pa_cons pe_int (pa_cons (pe_op op_sub (pv 0) pe_int) pa_nil)))) (pe_one (pe_cmpR op_ne (pv 2) (pv 3) (nomark _))))))))), ?_⟩
    refine ⟨_, rfl, _, _, _, _, true, rfl, .ty _, .base (.tup ht), kit_ty (by decide +kernel), true, rfl, iteF ?_⟩
    refine ⟨_, rfl, t, _, rfl, .inr (SqT.of ht), rfl, _, rfl, iteNS rfl ?_⟩
    refine ⟨_, rfl, t, _, rfl, SqT.of ht, rfl, _, _, rfl, _, _, rfl, rfl, ?_⟩
    refine ⟨_, rfl, _, rfl, _, _, rfl, rfl, u, 0, c - 1, rfl, _, rfl, ifT (by rw [decide_eq_true u0, decide_eq_true (by omega : u ≤ c - 1)] <;> rfl) ?_⟩
    refine ⟨_, rfl, _, rfl, _, _, rfl, rfl, l, 0, c - 1, rfl, _, rfl, ifT (by rw [decide_eq_true l0, decide_eq_true (by omega : l ≤ c - 1)] <;> rfl) ?_⟩
    refine ⟨_, rfl, _, rfl, rfl, ?_⟩
    have e : decide (V.int u = V.int l) = false := decide_eq_false fun z => ne (by injection z)
    rw [e]
    exact q
/-! ### the lamps beneath -/
abbrev s_with_wire : Stmt := top 29
theorem sc_with_wire : FnScope ["beneath", "upper", "lower", "gained", "lamp", "lamps"] ["beneath", "upper", "lower"] (defScope s_with_wire) := ⟨rfl, rfl, rfl, by decide +kernel, rfl, by decide +kernel, by decide +kernel⟩
-- slots of with_wire: 0 beneath, 1 upper, 2 lower, 3 gained, 4 lamp, 5 lamps
def spWithWire : Sp := fun vs H Q _ => ∃ (b : Addr) (n u l : Nat) (R : Rel), vs = [.ref b, .int u, .int l] ∧ n ≤ 16 ∧ u < n ∧ l < n ∧ Rows H b (relRows n R) ∧
  ∀ (H' : Hp) (p : Addr), Same H H' → Rows H' p (relRows n (addW R u l)) → Q (.ref p) H'
theorem ok_with_wire (T : Txt K mg C) {f : Addr} {fd : FuncData} (F : Fun K "with_wire" "with_wire" s_with_wire f fd) : FnOk P w K mg base CX0 1 f fd ["beneath", "upper", "lower"] spWithWire := by
  refine F.ok sc_with_wire (fun vs H Q E h => ?_) (fun cdv A outer s H vs Q E hr h => ?_)
  · obtain ⟨b, n, u, l, R, rfl, _⟩ := h; rfl
  · obtain ⟨b, n, u, l, R, rfl, hn, hu, hl, rw0, q⟩ := h
    obtain ⟨xs, al, hb, hxs, hal, hL⟩ := rw0.at (relRows_at (R := R) hl)
    refine ⟨_, (pss_cons (ps_set (i := 3) sc_with_wire.nd rfl (by first | exact Or.inl rfl | exact Or.inr rfl) (pe_lst (pa_cons (pv 2) (star_ K (pe_ix (ixL_ K) (pv 0) (pv 2) (fun _ _ => rfl)) pa_nil))))
      (pss_one (ps_ret (pe_lc (own := [("lamp", 4), ("lamps", 5)]) (g := gTup K 2 (gCons (gName 4) (gCons (gName 5) gNil))) (tt := tYes) rfl sc_with_wire.nd (pi_enum (by rfl) T.enumerate (pa_cons (pv 0) pa_nil)) (blkOk_by (by kernel_rfl)) (fun _ _ _ _ _ => (pg_tup (by rfl) (pgs_cons (pg_name (i := 4) sc_with_wire.nd rfl (by first | exact Or.inl rfl | exact Or.inr rfl)) (pgs_cons (pg_name (i := 5) sc_with_wire.nd rfl (by first | exact Or.inl rfl | exact Or.inr rfl)) pgs_nil)))) (fun _ _ _ _ _ => pts_nil) (fun _ _ _ _ _ => (pe_ifExp (PW.pt (pw_or (pt_cmpR op_eq (pv 4) (pv 1) (nomark _)) (pw_or1 (pt_cmpR (inS_ K) (pv 1) (pv 5) (by rfl))))) (pe_callB (sortedSet_ w rfl) (by rfl) T.sorted b_sorted (pa_cons (pe_callTy (setL_ K w rfl) (by rfl) T.set b_set (pa_cons (pe_op op_cat (pv 5) (pv 3)) pa_nil)) pa_nil)) (pv 5))))))), ?_⟩
    -- gained = [lower, *beneath[lower]]
    refine ⟨_, rfl, _, rfl, _, rfl, b, xs, _, _, rfl, rfl, SqL.of hb, atI_nat hal, al, _, rfl, .inr (SqL.of hL), ?_, fun g hg => ?_⟩
    · have := Bel_len n R l
      rw [List.length_cons, List.length_append, nL_len, List.length_nil, sizeLine_eq]
      omega
    have eg : (V.int (l : Int) :: (nL (Bel n R l) ++ [])) = nL (l :: Bel n R l) := by rw [List.append_nil]; rfl
    rw [eg]
    have s1 : Same H (upd H g (.lst (nL (l :: Bel n R l)))) := same_new hg
    have hg1 : (upd H g (.lst (nL (l :: Bel n R l)))) g = some (.lst (nL (l :: Bel n R l))) := upd_same
    generalize upd H g (.lst (nL (l :: Bel n R l))) = H1 at s1 hg1 ⊢
    have rw1 := rw0.same s1
    obtain ⟨as0, hb1, las0, hrow⟩ := id rw1
    rw [relRows_len] at las0
    refine ⟨_, rfl, b, as0.map V.ref, rfl, SqL.of hb1, fun D hD => lc_it walk_enum (fun i H2 => ∃ as : List Addr, H2 D = some (.lst (as.map V.ref)) ∧ as.length = i ∧ Same H1 H2 ∧ ∀ (j : Nat) a, as[j]? = some a → a ≠ D ∧ H2 a = some (.lst (nL (Bel n (addW R u l) j))))
      ⟨[], upd_same, rfl, same_new hD, fun j a e => by simp at e⟩ (fun i H2 _ ⟨_, _, _, s2, _⟩ => SqL.of (s2 _ _ hb1)) ?_ ?_⟩
    · rintro i x H2 H3 hi ⟨as, h1, h2, s2, h3⟩ ⟨t, x1, y, rfl, ht, rfl, e1, e2⟩
      cases e1
      rw [List.length_map, las0] at hi
      obtain ⟨a, ha, rfl⟩ : ∃ a, as0[i]? = some a ∧ y = V.ref a := by
        have e3 : (as0.map V.ref)[i]? = some y := e2
        rw [List.getElem?_map] at e3
        obtain ⟨a, h, e⟩ := Option.map_eq_some_iff.mp e3
        exact ⟨a, h, e.symm⟩
      have hrow_i := hrow i a _ ha (relRows_at hi)
      have hz : as.length < sizeLine := by rw [h2, sizeLine_eq]; omega
      have nDt : D ≠ t := ne_of_none h1 ht
      have s3 : Same H1 (upd H2 t (.tup [.int (i : Int), .ref a])) := same_then s2 ht
      have h1' : (upd H2 t (.tup [.int (i : Int), .ref a])) D = some (.lst (as.map V.ref)) := by rw [upd_ne nDt]; exact h1
      have h3' : ∀ (j : Nat) c, as[j]? = some c → c ≠ D ∧ (upd H2 t (.tup [.int (i : Int), .ref a])) c = some (.lst (nL (Bel n (addW R u l) j))) := fun j c e => ⟨(h3 j c e).1, by rw [upd_ne (ne_of_none (h3 j c e).2 ht)]; exact (h3 j c e).2⟩
      have htt : (upd H2 t (.tup [.int (i : Int), .ref a])) t = some (.tup [.int (i : Int), .ref a]) := upd_same
      generalize upd H2 t (.tup [.int (i : Int), .ref a]) = H3 at s3 h1' h3' htt ⊢
      refine ⟨t, _, rfl, SqT.of htt, rfl, _, _, rfl, _, _, rfl, rfl, rfl, yesT ?_⟩
      -- what a turn ends with
      have fin : ∀ (H4 : Hp) (c : Addr), Same H3 H4 → c ≠ D → H4 c = some (.lst (nL (Bel n (addW R u l) i))) → ∃ acc, H4 D = some (.lst acc) ∧ acc.length < sizeLine ∧
          ∃ as : List Addr, (upd H4 D (.lst (acc ++ [V.ref c]))) D = some (.lst (as.map V.ref)) ∧ as.length = i + 1 ∧ Same H1 (upd H4 D (.lst (acc ++ [V.ref c]))) ∧ ∀ (j : Nat) a, as[j]? = some a → a ≠ D ∧ (upd H4 D (.lst (acc ++ [V.ref c]))) a = some (.lst (nL (Bel n (addW R u l) j))) := by
        intro H4 c s4 nc hc
        refine ⟨_, s4 _ _ h1', by rw [List.length_map]; exact hz, as ++ [c], by rw [upd_same, List.map_append]; rfl, by rw [List.length_append, h2]; rfl, same_upd (s3.trans s4) hD, fun j c2 e => ?_⟩
        rcases Nat.lt_or_ge j as.length with lt | ge
        · rw [List.getElem?_append_left lt] at e
          obtain ⟨n1, n2⟩ := h3' j c2 e
          exact ⟨n1, by rw [upd_ne n1]; exact s4 _ _ n2⟩
        · rw [List.getElem?_append_right ge] at e
          have j0 : j - as.length = 0 := by
            rcases Nat.eq_zero_or_pos (j - as.length) with z | z
            · exact z
            · rw [List.getElem?_eq_none (by rw [List.length_singleton]; exact z)] at e; cases e
          rw [j0] at e
          cases e
          have ji : j = i := by omega
          rw [ji]
          exact ⟨nc, by rw [upd_ne nc]; exact hc⟩
      -- the new row
      have grow : (i = u ∨ R i u = true) → tCB (rSortedSet w) (tCons (tCB (rHuSetL K w) (tCons (tOp rCat (tVar 5) (tVar 3)) tNil)) tNil)
          [some (.ref b), some (.int u), some (.int l), some (.ref g), some (.int (i : Int)), some (.ref a)] H3 fun y H4 => ∃ acc, H4 D = some (.lst acc) ∧ acc.length < sizeLine ∧
          ∃ as : List Addr, (upd H4 D (.lst (acc ++ [y]))) D = some (.lst (as.map V.ref)) ∧ as.length = i + 1 ∧ Same H1 (upd H4 D (.lst (acc ++ [y]))) ∧ ∀ (j : Nat) a, as[j]? = some a → a ≠ D ∧ (upd H4 D (.lst (acc ++ [y]))) a = some (.lst (nL (Bel n (addW R u l) j))) := by
        intro hcond
        have b1 := Bel_len n R i
        have b2 := Bel_len n R l
        refine ⟨_, rfl, _, rfl, a, g, _, _, rfl, rfl, s3 _ _ hrow_i, s3 _ _ hg1, ?_, fun c hc => ?_⟩
        · rw [nL_len, nL_len, List.length_cons, sizeLine_eq]; omega
        refine ⟨c, nI (Bel n R i ++ l :: Bel n R l), rfl, SqL.of (by rw [upd_same, ← nL_app]; rfl), by rw [nI_len, List.length_append, List.length_cons]; omega, fun d k hd hk => ?_⟩
        refine ⟨d, _, k, rfl, upd_same, ?_, fun ns p asc mem _ hp => ?_⟩
        · rw [nI_len, List.length_append, List.length_cons] at hk; omega
        have ens : ns = nI (Bel n (addW R u l) i) := by
          refine asc_ext asc (Bel_asc ..) fun z => ?_
          rw [mem, decide_eq_true_eq, mem_nI, mem_nI]
          constructor
          · rintro ⟨m, hm, rfl⟩
            refine ⟨m, mem_Bel.mpr ?_, rfl⟩
            unfold addW
            rcases List.mem_append.mp hm with hm | hm
            · obtain ⟨m1, m2⟩ := mem_Bel.mp hm
              exact ⟨m1, by rw [m2, Bool.true_or]⟩
            · have c1 : (i == u || R i u) = true := by
                rcases hcond with e | e
                · rw [e]; simp
                · rw [e, Bool.or_true]
              rcases List.mem_cons.mp hm with e | hm
              · rw [e, c1]; exact ⟨hl, by simp⟩
              · obtain ⟨m1, m2⟩ := mem_Bel.mp hm
                exact ⟨m1, by rw [c1, m2]; simp⟩
          · rintro ⟨m, hm, rfl⟩
            refine ⟨m, ?_, rfl⟩
            obtain ⟨m1, m2⟩ := mem_Bel.mp hm
            unfold addW at m2
            rw [Bool.or_eq_true, Bool.and_eq_true, Bool.or_eq_true, Bool.or_eq_true, beq_iff_eq, beq_iff_eq] at m2
            rcases m2 with e | ⟨_, e | e⟩
            · exact List.mem_append_left _ (mem_Bel.mpr ⟨m1, e⟩)
            · exact List.mem_append_right _ (by rw [e]; exact List.mem_cons_self)
            · exact List.mem_append_right _ (List.mem_cons_of_mem _ (mem_Bel.mpr ⟨m1, e⟩))
        have s4 := ((same_new (o := .lst (nL (Bel n R i) ++ nL (l :: Bel n R l))) hc).trans (same_new (o := SetO w d (fun j => decide (j ∈ nI (Bel n R i ++ l :: Bel n R l))) k) hd)).trans (same_new (o := .lst (ns.map V.int)) hp)
        refine fin _ p s4 ?_ (by rw [upd_same, ens]; rfl)
        intro e
        have z := (((same_new (o := .lst (nL (Bel n R i) ++ nL (l :: Bel n R l))) hc).trans (same_new (o := SetO w d (fun j => decide (j ∈ nI (Bel n R i ++ l :: Bel n R l))) k) hd)) _ _ h1')
        rw [← e, hp] at z
        cases z
      refine ⟨_, rfl, _, rfl, rfl, _, rfl, ?_⟩
      refine ite2 (fun he => ?_) (fun hne => ?_)
      · have e0 : i = u := by
          have z := of_decide_eq_true he
          injection z with z
          omega
        exact iteT (grow (.inl e0))
      · refine ⟨_, rfl, _, rfl, a, _, rfl, .inl (SqL.of (s3 _ _ hrow_i)), rfl, flat_nL _, _, rfl, ?_⟩
        have nu : ¬ i = u := fun z => hne (by rw [z]; exact decide_eq_true rfl)
        show if (inV (V.int (u : Int)) (nL (Bel n R i))) = true then _ else _
        rw [in_nL]
        refine ite2 (fun he => ?_) (fun hne2 => ?_)
        · exact grow (.inr (mem_Bel.mp (of_decide_eq_true he)).2)
        · refine ⟨_, rfl, fin H3 a (Same.refl _) (fun z => ?_) ?_⟩
          · have q1 := hrow_i
            rw [z, hD] at q1
            cases q1
          · rw [s3 _ _ hrow_i]
            have nR : R i u = false := by
              cases e : R i u with
              | false => rfl
              | true => exact absurd (decide_eq_true (mem_Bel.mpr ⟨hu, e⟩)) hne2
            rw [Bel_congr (S := addW R u l) (i := i) fun j _ => ?_]
            unfold addW
            rw [nR, Bool.or_false, beq_eq_false_iff_ne.mpr nu, Bool.false_and, Bool.or_false]
    · rintro H2 ⟨as, h1, h2, s2, h3⟩
      rw [List.length_map, las0] at h2
      refine q H2 D (s1.trans s2) ⟨as, h1, by rw [h2, relRows_len], fun i a r ha hr => ?_⟩
      have hi : i < n := by rw [← h2]; exact (List.getElem?_eq_some_iff.mp ha).1
      rw [relRows_at hi] at hr
      cases hr
      exact (h3 i a ha).2
abbrev s_lamps_beneath : Stmt := top 28
theorem sc_lamps_beneath : FnScope ["count", "wires", "beneath", "_", "earlier", "index", "wire", "upper", "lower"] ["count", "wires"] (defScope s_lamps_beneath) := ⟨rfl, rfl, rfl, by decide +kernel, rfl, by decide +kernel, by decide +kernel⟩
-- slots of lamps_beneath: 0 count, 1 wires, 2 beneath, 3 _, 4 earlier, 5 index, 6 wire, 7 upper, 8 lower
/-- at a: a list of the tuples ts, which are the pairs ps: wires down a rank -/
def Wires (K : PySem.W.Frag) (H : Hp) (a : Addr) (n : Nat) (ps : List (Nat × Nat)) : Prop :=
  (∃ ts : List Addr, SqA K H a (ts.map V.ref) ∧ Pairs H ts ps) ∧ ps.Nodup ∧ ps.length < 4900 ∧ (∀ p ∈ ps, p.1 < n ∧ p.2 < n) ∧ ∃ ρ : Nat → Nat, ∀ p ∈ ps, ρ p.1 < ρ p.2
def spLampsBeneath (K : PySem.W.Frag) : Sp := fun vs H Q _ => ∃ (a : Addr) (n : Nat) (ps : List (Nat × Nat)), vs = [.int n, .ref a] ∧ n ≤ 16 ∧ Wires K H a n ps ∧
  ∀ (H' : Hp) (p : Addr), Same H H' → Rows H' p (relRows n (relOf ps)) → Q (.ref p) H'
theorem ok_lamps_beneath (T : Txt K mg C) {f : Addr} {fd : FuncData} (F : Fun K "lamps_beneath" "lamps_beneath" s_lamps_beneath f fd) (c_is_wire : Cal P w K mg base "is_wire" 3 spIsWire) (c_with_wire : Cal P w K mg base "with_wire" 1 spWithWire) : FnOk P w K mg base CX0 4 f fd ["count", "wires"] (spLampsBeneath K) := by
  refine F.ok sc_lamps_beneath (fun vs H Q E h => ?_) (fun cdv A outer s H vs Q E hr h => ?_)
  · obtain ⟨a, n, ps, rfl, _⟩ := h; rfl
  · obtain ⟨a, n, ps, rfl, hn, ⟨⟨ts, ha, hps⟩, nd, few, lt, ρ, rank⟩, q⟩ := h
    refine ⟨_, (pss_cons (ps_setLc (i := 2) (own := [("_", 3)]) (g := gName 3) (tt := tYes) rfl sc_lamps_beneath.nd rfl rfl (sw_true rfl rfl rfl (by kernel_rfl)) (pi_range1 (by rfl) T.range (pa_cons (pv 0) pa_nil)) (blkOk_by (by kernel_rfl)) (fun _ _ _ _ _ => (pg_name (i := 3) sc_lamps_beneath.nd rfl (by first | exact Or.inl rfl | exact Or.inr rfl))) (fun _ _ _ _ _ => pts_nil) (fun _ _ _ _ _ => (pe_lst pa_nil)))
      (pss_cons (ps_set (i := 4) sc_lamps_beneath.nd rfl (by first | exact Or.inl rfl | exact Or.inr rfl) (pe_callTy0 cr_b0 (by rfl) T.set b_set))
      (pss_cons (ps_for PassesOwn.never rfl (piA_ K (by rfl) T.enumerate (pa_cons (pv 1) pa_nil)) (pg_tup (by rfl) (pgs_cons (pg_name (i := 5) sc_lamps_beneath.nd rfl (by first | exact Or.inl rfl | exact Or.inr rfl)) (pgs_cons (pg_name (i := 6) sc_lamps_beneath.nd rfl (by first | exact Or.inl rfl | exact Or.inr rfl)) pgs_nil)))
      (pss_cons (ps_if (pt_not (pt_val (pe_cal c_is_wire (hr.mono (by decide)) (pa_cons (pv 0) (pa_cons (pv 6) pa_nil)))))
      pss_never pss_nil)
      (pss_cons (ps_if (pt_cmpR (bIn_ P w hr.units) (pv 6) (pv 4) (by rfl))
      pss_never pss_nil)
      (pss_cons (ps_asg (pv 6) (pg_tup (by rfl) (pgs_cons (pg_name (i := 7) sc_lamps_beneath.nd rfl (by first | exact Or.inl rfl | exact Or.inr rfl)) (pgs_cons (pg_name (i := 8) sc_lamps_beneath.nd rfl (by first | exact Or.inl rfl | exact Or.inr rfl)) pgs_nil))))
      (pss_cons (ps_if (pt_cmpR (inS_ K) (pv 7) (pe_ix (ixL_ K) (pv 2) (pv 8) (fun _ _ => rfl)) (by rfl))
      pss_never pss_nil)
      (pss_cons (ps_expr (pe_bAdd hr.units (pv 4) (pa_cons (pv 6) pa_nil)))
      (pss_one (ps_set (i := 2) sc_lamps_beneath.nd rfl (by first | exact Or.inl rfl | exact Or.inr rfl) (pe_cal c_with_wire (hr.mono (by decide)) (pa_cons (pv 2) (pa_cons (pv 7) (pa_cons (pv 8) pa_nil))))))))))))
      (pss_one (ps_ret (pv 2)))))), ?_⟩
    -- beneath = [[] for _ in range(count)]
    refine ⟨_, rfl, _, rfl, by omega, by omega, fun D hD => ?_⟩
    rw [Int.toNat_natCast]
    refine lc_range (fun i H2 => ∃ as : List Addr, H2 D = some (.lst (as.map V.ref)) ∧ as.length = i ∧ Same H H2 ∧ ∀ (j : Nat) a, as[j]? = some a → a ≠ D ∧ H2 a = some (.lst []))
      ⟨[], upd_same, rfl, same_new hD, fun j a e => by simp at e⟩ ?_ ?_
    · rintro i H2 hi ⟨as, h1, h2, s2, h3⟩
      refine ⟨rfl, yesT ⟨by decide, fun p hp => ?_⟩⟩
      have nDp : D ≠ p := ne_of_none h1 hp
      refine ⟨_, by rw [upd_ne nDp]; exact h1, by rw [List.length_map, h2, sizeLine_eq]; omega, as ++ [p], by rw [upd_same, List.map_append]; rfl, by rw [List.length_append, h2]; rfl, same_upd (same_then s2 hp) hD, fun j c e => ?_⟩
      rcases Nat.lt_or_ge j as.length with l | g
      · rw [List.getElem?_append_left l] at e
        obtain ⟨n1, n2⟩ := h3 j c e
        exact ⟨n1, by rw [upd_ne n1, upd_ne (ne_of_none n2 hp)]; exact n2⟩
      · rw [List.getElem?_append_right g] at e
        have j0 : j - as.length = 0 := by
          rcases Nat.eq_zero_or_pos (j - as.length) with z | z
          · exact z
          · rw [List.getElem?_eq_none (by rw [List.length_singleton]; exact z)] at e; cases e
        rw [j0] at e
        cases e
        exact ⟨nDp.symm, by rw [upd_ne nDp.symm, upd_same]⟩
    rintro H1 ⟨as, h1, h2, s1, h3⟩
    have rows1 : Rows H1 D (relRows n fun _ _ => false) := ⟨as, h1, by rw [h2, relRows_len], fun i a r hi hr => by
      have il : i < n := by rw [← h2]; exact (List.getElem?_eq_some_iff.mp hi).1
      rw [relRows_at il] at hr
      cases hr
      have e0 : Bel n (fun _ _ => false) i = [] := by unfold Bel; simp
      rw [e0]
      exact (h3 i a hi).2⟩
    -- earlier = set()
    refine ⟨rfl, fun e he => ?_⟩
    have s2 : Same H (upd H1 e (BigHO P w e [])) := same_then s1 he
    have h0e : H e = Option.none := s1.free he
    refine ⟨_, rfl, a, ts.map V.ref, rfl, ?_⟩
    refine for_enumA ha s2 (fun i σ H2 => ∃ (b : Addr) (L : List (Addr × List Int)) (v5 v6 v7 v8 : Option V), σ = [some (.int n), some (.ref a), some (.ref b), Option.none, some (.ref e), v5, v6, v7, v8] ∧ Same H H2 ∧
        Rows H2 b (relRows n (relOf (ps.take i))) ∧ HasB K P w H2 e L ∧ L.length = i ∧ ∀ k, k ∈ L.map (·.2) → ∃ p ∈ ps.take i, k = [(p.1 : Int), (p.2 : Int)])
      ⟨D, [], _, _, _, _, rfl, s2, rows1.same (same_new he), ⟨upd_same, fun p hp => by cases hp⟩, rfl, fun k hk => by cases hk⟩ (fun i σ H2 _ ⟨_, _, _, _, _, _, _, s, _⟩ => s) ?_ ?_
    · rintro i x σ H2 H3 hi ⟨b, L, v5, v6, v7, v8, rfl, s3, rows, hasT, lenL, memL⟩ ⟨tp, x1, y, rfl, htp, rfl, e1, e2⟩
      cases e1
      rw [List.length_map] at hi
      have e3 : (ts.map V.ref)[i]? = some y := e2
      rw [List.getElem?_map] at e3
      obtain ⟨t, ht, rfl⟩ := Option.map_eq_some_iff.mp e3
      have hip : i < ps.length := by rw [← hps.1]; exact hi
      obtain ⟨p, hp⟩ : ∃ p, ps[i]? = some p := ⟨_, List.getElem?_eq_getElem hip⟩
      have pmem : p ∈ ps := List.mem_of_getElem? hp
      obtain ⟨plt1, plt2⟩ := lt p pmem
      have prank := rank p pmem
      have tup0 : H t = some (.tup [.int (p.1 : Int), .int (p.2 : Int)]) := hps.2 i t p ht hp
      have s4 : Same H2 (upd H2 tp (.tup [.int (i : Int), .ref t])) := same_new htp
      have rows4 := rows.same s4
      have hasT4 : HasB K P w (upd H2 tp (.tup [.int (i : Int), .ref t])) e L := ⟨s4 _ _ hasT.1, fun q hq => Same.tup s4 (hasT.2 q hq)⟩
      have s5 := s3.trans s4
      have htt : (upd H2 tp (.tup [.int (i : Int), .ref t])) tp = some (.tup [.int (i : Int), .ref t]) := upd_same
      generalize upd H2 tp (.tup [.int (i : Int), .ref t]) = H4 at s4 rows4 hasT4 s5 htt ⊢
      have tup4 := s5 _ _ tup0
      have new : [(p.1 : Int), (p.2 : Int)] ∉ L.map (·.2) := by
        intro z
        obtain ⟨p2, m2, e⟩ := memL _ z
        injection e with z1 z2
        injection z2 with z2 _
        have ep : p2 = p := by
          obtain ⟨a1, a2⟩ := p
          obtain ⟨b1, b2⟩ := p2
          simp only at z1 z2
          rw [Prod.mk.injEq]
          omega
        rw [ep] at m2
        obtain ⟨j, hj, ej⟩ := List.getElem_of_mem m2
        rw [List.length_take] at hj
        rw [List.getElem_take] at ej
        have ei : ps[i] = p := by
          have z := List.getElem?_eq_getElem hip
          rw [hp] at z
          exact (Option.some.inj z).symm
        exact absurd (ej.trans ei.symm) (List.pairwise_iff_getElem.mp nd j i (by omega) hip (by omega))
      refine ⟨tp, _, rfl, SqT.of htt, rfl, _, _, rfl, _, _, rfl, rfl, ?_⟩
      refine ⟨_, rfl, _, rfl, n, p.1, p.2, t, rfl, tup4, by omega, by omega, by omega, by omega, fun z => ?_, true, rfl, iteF ?_⟩
      · have : p.1 = p.2 := by omega
        rw [this] at prank
        exact Nat.lt_irrefl _ prank
      refine ⟨_, rfl, _, rfl, t, e, [(p.1 : Int), (p.2 : Int)], L, rfl, rfl, SqT.of tup4, hasT4, _, rfl, ifF (decide_eq_false new) ?_⟩
      refine ⟨_, rfl, t, _, rfl, SqT.of tup4, rfl, _, _, rfl, _, _, rfl, rfl, ?_⟩
      obtain ⟨xs, al, hb, _, hal, hL⟩ := rows4.at (relRows_at (R := relOf (ps.take i)) plt2)
      refine ⟨_, rfl, _, rfl, _, rfl, b, xs, _, _, rfl, rfl, SqL.of hb, atI_nat hal, al, _, rfl, .inl (SqL.of hL), rfl, flat_nL _, _, rfl, ?_⟩
      refine ifF ?_ ?_
      · show inV (V.int (p.1 : Int)) (nL (Bel n (relOf (ps.take i)) p.2)) = false
        rw [in_nL, decide_eq_false_iff_not]
        intro z
        have r1 := relOf_rank (ρ := ρ) (ps := ps.take i) (fun q hq => rank q (List.mem_of_mem_take hq)) _ _ (mem_Bel.mp z).2
        omega
      refine ⟨_, rfl, ⟨e, L, rfl, hasT4.1⟩, _, rfl, e, t, [(p.1 : Int), (p.2 : Int)], L, rfl, rfl, SqT.of tup4, hasT4, by omega, fun z => absurd z new, fun _ L2 pm => ?_⟩
      have rows5 : Rows (upd H4 e (BigHO P w e L2)) b (relRows n (relOf (ps.take i))) := rows4.ext hasT4.1
      refine ⟨_, rfl, _, rfl, _, rfl, b, n, p.1, p.2, relOf (ps.take i), rfl, hn, plt1, plt2, rows5, fun H6 c s6 rows6 => ?_⟩
      have s7 : Same H H6 := (same_upd s5 h0e).trans s6
      refine ⟨c, L2, _, _, _, _, rfl, s7, by rw [relOf_more hp]; exact rows6, ⟨s6 _ _ upd_same, fun r hr => ?_⟩, ?_, fun k hk => ?_⟩
      · rcases List.mem_cons.mp (pm.mem_iff.mp hr) with z | z
        · rw [z]; exact SqT.of (s7 _ _ tup0)
        · refine Same.tup s6 ?_
          have w0 := hasT4.2 r z
          rcases w0 with (w0 | ⟨o, w0⟩) | w0
          · refine .inl (.inl ?_)
            rw [upd_ne (ne_of w0 hasT4.1 (by intro z; cases z))]; exact w0
          · refine .inl (.inr ⟨o, ?_⟩)
            rw [upd_ne (ne_of w0 hasT4.1 (by intro z; cases z))]; exact w0
          · exact .inr w0
      · rw [pm.length_eq, List.length_cons, lenL]
      · have pm2 := (pm.map (·.2)).mem_iff.mp hk
        rw [List.map_cons] at pm2
        rcases List.mem_cons.mp pm2 with z | z
        · refine ⟨p, ?_, z⟩
          rw [List.take_add_one, hp]
          exact List.mem_append_right _ List.mem_cons_self
        · obtain ⟨p2, m2, e⟩ := memL k z
          refine ⟨p2, ?_, e⟩
          rw [List.take_add_one]
          exact List.mem_append_left _ m2
    · rintro σ H2 ⟨b, L, v5, v6, v7, v8, rfl, s3, rows, _⟩
      rw [List.length_map, hps.1, List.take_length] at rows
      exact ⟨_, rfl, q H2 b s3 rows⟩
end
end Hue

end
section
set_option maxRecDepth 100000
namespace Hue
open PySem PySem.Spec PyProof.Rows L2
section
variable {P : Program} {w : World} {K : PySem.W.Frag} {mg : Str → Option Value} {base : Heap} {C : Addr}
/-! ### the order list -/
abbrev s_is_next : Stmt := top 31
theorem sc_is_next : FnScope ["above", "order", "lamp", "upper"] ["above", "order", "lamp"] (defScope s_is_next) := ⟨rfl, rfl, rfl, by decide +kernel, rfl, by decide +kernel, by decide +kernel⟩
-- slots of is_next: 0 above, 1 order, 2 lamp, 3 upper
def spIsNext : Sp := fun vs H Q _ => ∃ (ab o : Addr) (n k : Nat) (R : Rel) (ord : List Nat), vs = [.ref ab, .ref o, .int k] ∧ n ≤ 16 ∧ k < n ∧ Rows H ab (relRows n (flip R)) ∧ H o = some (.lst (nL ord)) ∧
  ∀ H', Same H H' → Q (.bl (nxt n R ord k)) H'
theorem ok_is_next (T : Txt K mg C) {f : Addr} {fd : FuncData} (F : Fun K "is_next" "is_next" s_is_next f fd) : FnOk P w K mg base CX0 1 f fd ["above", "order", "lamp"] spIsNext := by
  refine F.ok sc_is_next (fun vs H Q E h => ?_) (fun cdv A outer s H vs Q E hr h => ?_)
  · obtain ⟨ab, o, n, k, R, ord, rfl, _⟩ := h; rfl
  · obtain ⟨ab, o, n, k, R, ord, rfl, hn, hk, rows, ho, q⟩ := h
    refine ⟨_, (pss_one (ps_ret (pe_and (pe_cmpR (ninS_ K) (pv 2) (pv 1) (by rfl)) (pe_one (pe_callB (all_ K rfl) (by rfl) T.all b_all (pa_cons (pe_lc (own := [("upper", 3)]) (g := gName 3) (tt := tYes) rfl sc_is_next.nd (pil_ K (pe_ix (ixL_ K) (pv 0) (pv 2) (fun _ _ => rfl))) (blkOk_by (by kernel_rfl)) (fun _ _ _ _ _ => (pg_name (i := 3) sc_is_next.nd rfl (by first | exact Or.inl rfl | exact Or.inr rfl))) (fun _ _ _ _ _ => pts_nil) (fun _ _ _ _ _ => (pe_cmpR (inS_ K) (pv 3) (pv 1) (by rfl)))) pa_nil)))))), ?_⟩
    refine ⟨_, rfl, _, rfl, o, _, rfl, .inl (SqL.of ho), rfl, flat_nL _, _, rfl, ?_⟩
    show if (!inV (V.int (k : Int)) (nL ord)) = true then _ else _
    rw [in_nL]
    refine ite2 (fun h1 => ?_) (fun h1 => ?_)
    · obtain ⟨xs, al, hb, _, hal, hL⟩ := rows.at (relRows_at (R := flip R) hk)
      refine ⟨_, rfl, _, rfl, ab, xs, _, _, rfl, rfl, SqL.of hb, atI_nat hal, al, rfl, ⟨_, SqL.of hL⟩, fun D hD => ?_⟩
      refine lc_list (xs := nL (Bel n (flip R) k)) (fun i H2 => H2 D = some (.lst ((((Bel n (flip R) k).take i).map fun j => decide (j ∈ ord)).map V.bl)) ∧ Same H H2)
        ⟨upd_same, same_new hD⟩ (fun i H2 _ ⟨_, s⟩ => SqL.of (s _ _ hL)) ?_ ?_
      · rintro i x H2 hx ⟨h2, s2⟩
        obtain ⟨j, hj, rfl⟩ : ∃ j, (Bel n (flip R) k)[i]? = some j ∧ x = V.int (j : Int) := by
          unfold nL nI at hx
          rw [List.map_map, List.getElem?_map] at hx
          obtain ⟨j, hj, e⟩ := Option.map_eq_some_iff.mp hx
          exact ⟨j, hj, e.symm⟩
        refine ⟨rfl, yesT ⟨_, rfl, _, rfl, o, _, rfl, .inl (SqL.of (s2 _ _ ho)), rfl, flat_nL _, _, h2, ?_, ?_, same_upd s2 hD⟩⟩
        · rw [List.length_map, List.length_map, List.length_take, sizeLine_eq]
          have := Bel_len n (flip R) k
          omega
        · rw [upd_same, List.take_add_one, hj, List.map_append, List.map_append]
          show some (HO.lst (_ ++ [V.bl (inV (V.int (j : Int)) (nL ord))])) = _
          rw [in_nL]
          rfl
      · rintro H2 ⟨h2, s2⟩
        rw [nL_len, List.take_length] at h2
        refine ⟨D, _, rfl, SqL.of h2, ?_⟩
        have e : nxt n R ord k = ((Bel n (flip R) k).map fun j => decide (j ∈ ord)).all id := by
          unfold nxt
          rw [h1, Bool.true_and, List.all_map]
          rfl
        rw [← e]
        exact q H2 s2
    · have e : nxt n R ord k = false := by
        unfold nxt
        rw [Bool.eq_false_iff.mpr h1, Bool.false_and]
      rw [← e]
      exact q H (Same.refl H)
abbrev s_order_list : Stmt := top 30
theorem sc_order_list : FnScope ["above", "order", "lamp"] ["above"] (defScope s_order_list) := ⟨rfl, rfl, rfl, by decide +kernel, rfl, by decide +kernel, by decide +kernel⟩
-- slots of order_list: 0 above, 1 order, 2 lamp
def spOrderList : Sp := fun vs H Q _ => ∃ (ab : Addr) (n : Nat) (R : Rel), vs = [.ref ab] ∧ n ≤ 16 ∧ Ranked R ∧ Rows H ab (relRows n (flip R)) ∧
  ∀ (H' : Hp) (p : Addr), Same H H' → H p = Option.none → H' p = some (.lst (nL (ordN n R n))) → Q (.ref p) H'
theorem ok_order_list (T : Txt K mg C) {f : Addr} {fd : FuncData} (F : Fun K "order_list" "order_list" s_order_list f fd) (c_is_next : Cal P w K mg base "is_next" 1 spIsNext) : FnOk P w K mg base CX0 2 f fd ["above"] spOrderList := by
  refine F.ok sc_order_list (fun vs H Q E h => ?_) (fun cdv A outer s H vs Q E hr h => ?_)
  · obtain ⟨ab, n, R, rfl, _⟩ := h; rfl
  · obtain ⟨ab, n, R, rfl, hn, hR, rows, q⟩ := h
    refine ⟨_, (pss_cons (ps_set (i := 1) sc_order_list.nd rfl (by first | exact Or.inl rfl | exact Or.inr rfl) (pe_lst pa_nil))
      (pss_cons (ps_while PassesOwn.never (pt_cmpR op_lt (pe_callB (lenS_ K) (by rfl) T.len b_len (pa_cons (pv 1) pa_nil)) (pe_callB (lenS_ K) (by rfl) T.len b_len (pa_cons (pv 0) pa_nil)) (nomark _))
      (pss_one (ps_expr (pe_bm PySem.F.plainAttrs_list PySem.F.slot_list_append PySem.F.type_list_append mt_append (pv 1) (pa_cons (pe_callB (min_ K rfl) (by rfl) T.min b_min (pa_cons (pe_lc (own := [("lamp", 2)]) (g := gName 2) rfl sc_order_list.nd (pi_range1 (by rfl) T.range (pa_cons (pe_callB (lenS_ K) (by rfl) T.len b_len (pa_cons (pv 0) pa_nil)) pa_nil)) (blkOk_by (by kernel_rfl)) (fun _ _ _ _ _ => (pg_name (i := 2) sc_order_list.nd rfl (by first | exact Or.inl rfl | exact Or.inr rfl))) (fun _ _ _ _ _ => (pts_one (pt_val (pe_cal c_is_next (hr.mono (by decide)) (pa_cons (pv 0) (pa_cons (pv 1) (pa_cons (pv 2) pa_nil))))))) (fun _ _ _ _ _ => (pv 2))) pa_nil)) pa_nil)))))
      (pss_one (ps_ret (pv 1))))), ?_⟩
    refine ⟨by decide, fun o ho => ?_⟩
    refine ⟨fun m σ H2 => ∃ k, m = n - k ∧ k ≤ n ∧ ∃ v, σ = [some (.ref ab), some (.ref o), v] ∧ Same H H2 ∧ H2 o = some (.lst (nL (ordN n R k))),
      ⟨n - 0, 0, rfl, Nat.zero_le _, _, rfl, same_new ho, upd_same⟩, ?_⟩
    rintro m σ H2 ⟨k, rfl, hk, v, rfl, s2, h2⟩
    have rows2 := rows.same s2
    obtain ⟨as, hab, las, _⟩ := id rows2
    rw [relRows_len] at las
    obtain ⟨len, ok⟩ := ordN_ok hR k hk
    refine ⟨_, rfl, o, _, rfl, .inl (SqL.of h2), _, rfl, ab, _, rfl, .inl (SqL.of hab), _, _, rfl, rfl, _, rfl, ?_⟩
    rw [nL_len, len, List.length_map, las]
    refine ite2 (fun hlt => ?_) (fun hge => ?_)
    · have klt : k < n := by have := of_decide_eq_true hlt; omega
      refine ⟨fun σ' H' => ∃ v, σ' = [some (.ref ab), some (.ref o), v] ∧ Same H H' ∧ H' o = some (.lst (nL (ordN n R (k + 1)))), fun σ' H' ⟨v, e1, e2, e3⟩ => ⟨n - (k + 1), by omega, k + 1, rfl, klt, v, e1, e2, e3⟩, ?_⟩
      obtain ⟨c, rest, ec⟩ := cands_ne (n := n) hR (ord := ordN n R k) (by omega)
      refine ⟨_, rfl, .inl ⟨rfl, _, SqL.of h2⟩, _, rfl, ab, _, rfl, .inl (SqL.of hab), _, rfl, ?_, ?_, fun D hD => ?_⟩
      · rw [List.length_map, las]; omega
      · rw [List.length_map, las]; omega
      rw [List.length_map, las, Int.toNat_natCast]
      refine lc_range (fun i H3 => H3 D = some (.lst (nL ((List.range i).filter (nxt n R (ordN n R k))))) ∧ Same H2 H3) ⟨upd_same, same_new hD⟩ ?_ ?_
      · rintro i H3 hi ⟨h3, s3⟩
        have e0 : (0 : Int) + (i : Int) = (i : Int) := by omega
        rw [e0]
        refine ⟨rfl, _, rfl, _, rfl, _, rfl, ab, o, n, i, R, ordN n R k, rfl, hn, hi, rows2.same s3, s3 _ _ h2, fun H4 s4 => ⟨_, rfl, ?_⟩⟩
        have h4 := s4 _ _ h3
        have grown : (List.range (i + 1)).filter (nxt n R (ordN n R k)) = (List.range i).filter (nxt n R (ordN n R k)) ++ (if nxt n R (ordN n R k) i = true then [i] else []) := by
          rw [List.range_succ, List.filter_append, List.filter_cons]
          rfl
        refine ite2 (fun hx => ?_) (fun hx => ?_)
        · refine ⟨_, rfl, _, h4, ?_, ?_, same_upd (s3.trans s4) hD⟩
          · rw [nL_len, sizeLine_eq]
            have := List.length_filter_le (nxt n R (ordN n R k)) (List.range i)
            rw [List.length_range] at this
            omega
          · rw [upd_same, grown, if_pos hx, nL_app]; rfl
        · refine ⟨?_, s3.trans s4⟩
          rw [h4, grown, if_neg hx, List.append_nil]
      · rintro H3 ⟨h3, s3⟩
        refine ⟨D, nI (cands n R (ordN n R k)), rfl, SqL.of h3, ?_, fun mm hm hle => ?_⟩
        · rw [nI_len, ec]; exact Nat.succ_pos _
        have em := cands_min ec hm hle
        rw [em]
        refine ⟨o, _, _, rfl, rfl, s3 _ _ h2, ?_, _, rfl, same_upd (s2.trans s3) ho, ?_⟩
        · rw [nL_len, len, sizeLine_eq]; omega
        · rw [upd_same, ordN_succ ec, nL_app]; rfl
    · have kn : k = n := by
        have z : ¬ ((k : Int) < (n : Int)) := fun z => hge (decide_eq_true z)
        omega
      rw [kn] at h2
      exact ⟨_, rfl, q H2 o s2 ho h2⟩
/-! ### the house -/
/-- the lamps directly beneath i, in the order of the wires qs -/
def dirL (qs : List (Nat × Nat)) (i : Nat) : List Nat := (qs.filter fun p => p.1 == i).map (·.2)
theorem mem_dirL {qs : List (Nat × Nat)} {i j : Nat} : j ∈ dirL qs i ↔ (i, j) ∈ qs := by
  unfold dirL
  rw [List.mem_map]
  constructor
  · rintro ⟨⟨a, b⟩, hm, rfl⟩
    obtain ⟨h1, h2⟩ := List.mem_filter.mp hm
    have e : a = i := by simpa using h2
    rw [← e]; exact h1
  · exact fun h => ⟨(i, j), List.mem_filter.mpr ⟨h, by simp⟩, rfl⟩
theorem dirL_few (qs : List (Nat × Nat)) (i : Nat) : (dirL qs i).length ≤ qs.length := by
  unfold dirL
  rw [List.length_map]
  exact List.length_filter_le ..
theorem dirL_more {qs : List (Nat × Nat)} {i j : Nat} {p : Nat × Nat} (h : qs[j]? = some p) : dirL (qs.take (j + 1)) i = dirL (qs.take j) i ++ (if p.1 = i then [p.2] else []) := by
  unfold dirL
  rw [List.take_add_one, h, List.filter_append, List.map_append]
  congr 1
  by_cases e : p.1 = i
  · simp [e]
  · simp [e]
/-- a list of the same tuples in another order -/
theorem pairs_perm {H : Hp} {ts : List Addr} {ps : List (Nat × Nat)} {ys : List V} (hp : Pairs H ts ps) (perm : ys.Perm (ts.map V.ref)) : ∃ (us : List Addr) (qs : List (Nat × Nat)), ys = us.map V.ref ∧ Pairs H us qs ∧ qs.Perm ps := by
  let pv : V → Nat × Nat := fun v => match v with
    | .ref t => match H t with
      | some (.tup [.int i, .int j]) => (i.toNat, j.toNat)
      | _ => (0, 0)
    | _ => (0, 0)
  let av : V → Addr := fun v => match v with
    | .ref t => t
    | _ => 0
  have pvt : ∀ (i : Nat) t p, ts[i]? = some t → ps[i]? = some p → pv (.ref t) = p := fun i t p a b => by
    show (match H t with
      | some (.tup [.int i, .int j]) => (i.toNat, j.toNat)
      | _ => (0, 0)) = p
    rw [hp.2 i t p a b]
    rfl
  have eps : (ts.map V.ref).map pv = ps := by
    refine List.ext_getElem? fun i => ?_
    rw [List.getElem?_map, List.getElem?_map]
    cases e : ts[i]? with
    | none =>
      rw [List.getElem?_eq_none_iff] at e
      rw [show ps[i]? = none from List.getElem?_eq_none_iff.mpr (by rw [← hp.1]; exact e)]
      rfl
    | some t =>
      have il : i < ps.length := by rw [← hp.1]; exact (List.getElem?_eq_some_iff.mp e).1
      rw [List.getElem?_eq_getElem il]
      exact congrArg some (pvt i t _ e (List.getElem?_eq_getElem il))
  have isr : ∀ y ∈ ys, ∃ (i : Nat) (t : Addr), y = V.ref t ∧ ts[i]? = some t := fun y hy => by
    obtain ⟨t, ht, rfl⟩ := List.mem_map.mp (perm.mem_iff.mp hy)
    obtain ⟨i, hi, e⟩ := List.getElem_of_mem ht
    exact ⟨i, t, rfl, by rw [List.getElem?_eq_getElem hi, e]⟩
  refine ⟨ys.map av, ys.map pv, ?_, ⟨by rw [List.length_map, List.length_map], fun i t p a b => ?_⟩, ?_⟩
  · rw [List.map_map]
    refine (List.map_id _).symm.trans (List.map_congr_left fun y hy => ?_)
    obtain ⟨_, t, rfl, _⟩ := isr y hy
    rfl
  · rw [List.getElem?_map] at a b
    obtain ⟨y, hy, rfl⟩ := Option.map_eq_some_iff.mp a
    rw [hy] at b
    cases b
    obtain ⟨j, t, rfl, hj⟩ := isr y (List.mem_of_getElem? hy)
    have jl : j < ps.length := by rw [← hp.1]; exact (List.getElem?_eq_some_iff.mp hj).1
    have e := pvt j t _ hj (List.getElem?_eq_getElem jl)
    rw [e]
    exact hp.2 j t _ hj (List.getElem?_eq_getElem jl)
  · have z := perm.map pv
    rw [eps] at z
    exact z
theorem Coll.rowsF {H1 H2 : Hp} {D : Addr} {n : Nat} {f : Nat → List Nat} (c : Coll H1 D (fun j => nL (f j)) n H2) : Rows H2 D ((List.range n).map f) := by
  obtain ⟨as, h1, h2, _, h3⟩ := c
  refine ⟨as, h1, by rw [h2, List.length_map, List.length_range], fun i a r ha hr => ?_⟩
  have hi : i < n := by rw [← h2]; exact (List.getElem?_eq_some_iff.mp ha).1
  rw [List.getElem?_map, List.getElem?_range hi] at hr
  cases hr
  exact (h3 i a ha).2
/-- pairs in order -/
def leP (p q : Nat × Nat) : Prop := ¬ (q.1 < p.1 ∨ (q.1 = p.1 ∧ q.2 < p.2))
def PermS (qs ps : List (Nat × Nat)) : Prop := qs.Perm ps ∧ qs.Pairwise leP
def kOf (H : Hp) : V → Int × Int := fun v => match v with
  | .ref t => match H t with
    | some (.tup [.int i, .int j]) => (i, j)
    | _ => (0, 0)
  | _ => (0, 0)
theorem kOf_ref {H : Hp} {t : Addr} {i j : Int} (h : H t = some (.tup [.int i, .int j])) : kOf H (.ref t) = (i, j) := by
  show (match H t with
    | some (.tup [.int i, .int j]) => (i, j)
    | _ => (0, 0)) = (i, j)
  rw [h]
/-- the names of the methods -/
def mNames : List Str := ["order", "beneath", "above", "direct", "depth", "tops", "bottoms", "is_beneath", "is_comparable", "closed", "reduced"]
theorem mN {m f : Str} (hm : m ∈ mNames) (hf : f ∉ mNames) : ¬ m = f := fun e => hf (e ▸ hm)
/-- the rest of what a house keeps -/
def HouseX (C : Addr) (H : Hp) (x : Addr) (n : Nat) (ps : List (Nat × Nat)) : Prop := ∃ (dx : Addr) (fs : List (Str × V)) (ab di l : Addr) (us : List Addr) (qs : List (Nat × Nat)), H x = some (.ins C dx fs) ∧ fs.lookup ("_above" : Str) = some (.ref ab) ∧ Rows H ab (relRows n (flip (relOf ps))) ∧
  fs.lookup ("_direct" : Str) = some (.ref di) ∧ Rows H di ((List.range n).map (dirL qs)) ∧ fs.lookup ("wires" : Str) = some (.ref l) ∧ H l = some (.tup (us.map V.ref)) ∧ Pairs H us qs ∧ PermS qs ps ∧ ∀ m ∈ mNames, fs.lookup m = Option.none
theorem HouseX.same {H H' : Hp} {x : Addr} {n : Nat} {ps : List (Nat × Nat)} (a : HouseX C H x n ps) (s : Same H H') : HouseX C H' x n ps := by
  obtain ⟨dx, fs, ab, di, l, us, qs, h1, h2, h3, h4, h5, h6, h7, h8, h9, h10⟩ := a
  exact ⟨dx, fs, ab, di, l, us, qs, s _ _ h1, h2, h3.same s, h4, h5.same s, h6, s _ _ h7, h8.same s, h9, h10⟩
abbrev s_House___init__ : Stmt := inClass (top 22) 2
theorem sc_House___init__ : FnScope ["self", "count", "hues", "wires", "lamps", "upper", "lamp", "lower"] ["self", "count", "hues", "wires"] (defScope s_House___init__) := ⟨rfl, rfl, rfl, by decide +kernel, rfl, by decide +kernel, by decide +kernel⟩
-- slots of House.__init__: 0 self, 1 count, 2 hues, 3 wires, 4 lamps, 5 upper, 6 lamp, 7 lower
def HouseAt (C : Addr) (H : Hp) (x : Addr) (n h : Nat) (R : Rel) : Prop := ∃ (dx : Addr) (fs : List (Str × V)) (be o : Addr), H x = some (.ins C dx fs) ∧ fs.lookup ("count" : Str) = some (.int n) ∧ fs.lookup ("hues" : Str) = some (.int h) ∧
  fs.lookup ("_beneath" : Str) = some (.ref be) ∧ Rows H be (relRows n R) ∧ fs.lookup ("_order" : Str) = some (.ref o) ∧ H o = some (.lst (nL (ordN n R n))) ∧ fs.lookup ("order" : Str) = Option.none ∧ fs.lookup ("beneath" : Str) = Option.none
def spInit (K : PySem.W.Frag) (C : Addr) : Sp := fun vs H Q _ => ∃ (x dx a : Addr) (n h : Nat) (ps : List (Nat × Nat)), vs = [.ref x, .int n, .int h, .ref a] ∧ H x = some (.ins C dx []) ∧ 1 ≤ n ∧ n ≤ 16 ∧ 2 ≤ h ∧ h ≤ 10 ∧ Wires K H a n ps ∧
  ∀ H', SB x H H' → HouseAt C H' x n h (relOf ps) → HouseX C H' x n ps → Q .non H'
theorem ok_init (T : Txt K mg C) {f : Addr} {fd : FuncData} (F : FunV K "__init__" "House.__init__" s_House___init__ f fd) (c_check_count : Cal P w K mg base "check_count" 3 spCheckCount) (c_check_hues : Cal P w K mg base "check_hues" 3 spCheckHues)
    (c_lamps_beneath : Cal P w K mg base "lamps_beneath" 4 (spLampsBeneath K)) (c_order_list : Cal P w K mg base "order_list" 2 spOrderList) : FnOk P w K mg base CX0 5 f fd ["self", "count", "hues", "wires"] (spInit K C) := by
  refine F.ok sc_House___init__ (fun vs H Q E h => ?_) (fun cdv A outer s H vs Q E hr h => ?_)
  · obtain ⟨x, dx, a, n, h, ps, rfl, _⟩ := h; rfl
  · obtain ⟨x, dx, a, n, h, ps, rfl, hx, n1, n16, h2, h10, W, q⟩ := h
    refine ⟨_, (pss_cons (ps_expr (pe_cal c_check_count (hr.mono (by decide)) (pa_cons (pv 1) pa_nil)))
      (pss_cons (ps_expr (pe_cal c_check_hues (hr.mono (by decide)) (pa_cons (pv 2) pa_nil)))
      (pss_cons (ps_fld (pv 0) (pv 1) rfl)
      (pss_cons (ps_fld (pv 0) (pv 2) rfl)
      (pss_cons (ps_fld (pv 0) (pe_cal c_lamps_beneath (hr.mono (by decide)) (pa_cons (pv 1) (pa_cons (pv 3) pa_nil))) rfl)
      (pss_cons (ps_fld (pv 0) (pe_callTy (tupOf_ K) (by rfl) T.tuple b_tuple (pa_cons (pe_callB (sortPS_ K) (by rfl) T.sorted b_sorted (pa_cons (pv 3) pa_nil)) pa_nil)) rfl)
      (pss_cons (ps_set (i := 4) sc_House___init__.nd rfl (by first | exact Or.inl rfl | exact Or.inr rfl) (pe_callTy hu_cr_range1 (by rfl) T.range b_range (pa_cons (pv 1) pa_nil)))
      (pss_cons (ps_fld (pv 0) (pe_lc (own := [("lamp", 6)]) (g := gName 6) (tt := tYes) rfl sc_House___init__.nd (hu_pi_rng (pv 4)) (blkOk_by (by kernel_rfl)) (fun _ _ _ _ _ => (pg_name (i := 6) sc_House___init__.nd rfl (by first | exact Or.inl rfl | exact Or.inr rfl))) (fun _ _ _ _ _ => pts_nil) (fun _ _ _ _ _ => (pe_lc (own := [("upper", 5)]) (g := gName 5) rfl sc_House___init__.nd (hu_pi_rng (pv 4)) (blkOk_by (by kernel_rfl)) (fun _ _ _ _ _ => (pg_name (i := 5) sc_House___init__.nd rfl (by first | exact Or.inl rfl | exact Or.inr rfl))) (fun _ _ _ _ _ => (pts_one (pt_cmpR (inS_ K) (pv 6) (pe_ix (ixL_ K) (fld_ K (pv 0)) (pv 5) (fun _ _ => rfl)) (by rfl)))) (fun _ _ _ _ _ => (pv 5))))) rfl)
      (pss_cons (ps_fld (pv 0) (pe_lc (own := [("lamp", 6)]) (g := gName 6) (tt := tYes) rfl sc_House___init__.nd (hu_pi_rng (pv 4)) (blkOk_by (by kernel_rfl)) (fun _ _ _ _ _ => (pg_name (i := 6) sc_House___init__.nd rfl (by first | exact Or.inl rfl | exact Or.inr rfl))) (fun _ _ _ _ _ => pts_nil) (fun _ _ _ _ _ => (pe_lc (own := [("upper", 5), ("lower", 7)]) (g := gTup K 2 (gCons (gName 5) (gCons (gName 7) gNil))) rfl sc_House___init__.nd (pit_ K (fld_ K (pv 0))) (blkOk_by (by kernel_rfl)) (fun _ _ _ _ _ => (pg_tup (by rfl) (pgs_cons (pg_name (i := 5) sc_House___init__.nd rfl (by first | exact Or.inl rfl | exact Or.inr rfl)) (pgs_cons (pg_name (i := 7) sc_House___init__.nd rfl (by first | exact Or.inl rfl | exact Or.inr rfl)) pgs_nil)))) (fun _ _ _ _ _ => (pts_one (pt_cmpR op_eq (pv 5) (pv 6) (nomark _)))) (fun _ _ _ _ _ => (pv 7))))) rfl)
      (pss_one (ps_fld (pv 0) (pe_cal c_order_list (hr.mono (by decide)) (pa_cons (fld_ K (pv 0)) pa_nil)) rfl))))))))))), ?_⟩
    refine ⟨_, rfl, n, rfl, by omega, by omega, _, rfl, h, rfl, by omega, by omega, ?_⟩
    -- self.count, self.hues
    refine ⟨_, rfl, _, rfl, x, C, dx, _, rfl, hx, T.cl, T.nCount, by decide, ?_⟩
    refine ⟨_, rfl, _, rfl, x, C, dx, _, rfl, upd_same, T.cl, T.nHues, Nat.lt_of_le_of_lt (put_few (Nat.le_refl 0)) (by decide), ?_⟩
    rw [upd_upd]
    have sb1 : SB x H (upd H x (.ins C dx (putF "hues" (.int h) (putF "count" (.int n) [])))) := (SB.refl x H).upd
    have hx1 : (upd H x (.ins C dx (putF "hues" (.int h) (putF "count" (.int n) [])))) x = some (.ins C dx (putF "hues" (.int h) (putF "count" (.int n) []))) := upd_same
    have lk1 : (putF "hues" (.int h) (putF "count" (.int n) []) : List (Str × V)).length ≤ 2 := put_few (put_few (Nat.le_refl 0))
    generalize upd H x (.ins C dx (putF "hues" (.int h) (putF "count" (.int n) []))) = H1 at sb1 hx1 ⊢
    obtain ⟨⟨ts, ha, hps⟩, nd, few, lt, ρ, rank⟩ := id W
    have W1 : Wires K H1 a n ps := ⟨⟨ts, ha.sb hx sb1, hps.1, fun i t p e1 e2 => sb1 _ _ (ne_of (hps.2 i t p e1 e2) hx (by intro z; cases z)) (hps.2 i t p e1 e2)⟩, nd, few, lt, ρ, rank⟩
    -- self._beneath
    refine ⟨_, rfl, _, rfl, a, n, ps, rfl, n16, W1, fun H2 be s2 rows2 => ?_⟩
    refine ⟨_, rfl, x, C, dx, _, rfl, s2 _ _ hx1, T.cl, T.nBen, by omega, ?_⟩
    have sb3 : SB x H (upd H2 x (.ins C dx (putF "_beneath" (.ref be) (putF "hues" (.int h) (putF "count" (.int n) []))))) := (sb1.trans (SB.of s2)).upd
    have rows3 : Rows (upd H2 x (.ins C dx (putF "_beneath" (.ref be) (putF "hues" (.int h) (putF "count" (.int n) []))))) be (relRows n (relOf ps)) := SB.rows ((SB.refl x H2).upd) (s2 _ _ hx1) rows2
    have hx3 : (upd H2 x (.ins C dx (putF "_beneath" (.ref be) (putF "hues" (.int h) (putF "count" (.int n) []))))) x = some (.ins C dx (putF "_beneath" (.ref be) (putF "hues" (.int h) (putF "count" (.int n) [])))) := upd_same
    have lk3 : (putF "_beneath" (.ref be) (putF "hues" (.int h) (putF "count" (.int n) [])) : List (Str × V)).length ≤ 3 := put_few lk1
    generalize upd H2 x (.ins C dx (putF "_beneath" (.ref be) (putF "hues" (.int h) (putF "count" (.int n) [])))) = H3 at sb3 rows3 hx3 ⊢
    -- self.wires
    have ha3 := ha.sb hx sb3
    refine ⟨_, rfl, a, ts.map V.ref, kOf H3, rfl, ha3, fun y hy => ?_, fun ys c perm so nc => ?_⟩
    · obtain ⟨t, ht, rfl⟩ := List.mem_map.mp hy
      obtain ⟨j, hj, e⟩ := List.getElem_of_mem ht
      have jl : j < ps.length := by rw [← hps.1]; exact hj
      have e2 := hps.2 j t ps[j] (by rw [List.getElem?_eq_getElem hj, e]) (List.getElem?_eq_getElem jl)
      have e3 := sb3 _ _ (ne_of e2 hx (by intro z; cases z)) e2
      exact ⟨t, rfl, by rw [kOf_ref e3]; exact e3⟩
    refine ⟨c, ys, rfl, .inl ⟨SqL.of upd_same, fun l nl => ?_⟩⟩
    have s4 : Same H3 (upd (upd H3 c (.lst ys)) l (.tup ys)) := (same_new nc).trans (same_new nl)
    have hl4 : (upd (upd H3 c (.lst ys)) l (.tup ys)) l = some (.tup ys) := upd_same
    generalize upd (upd H3 c (.lst ys)) l (.tup ys) = H4 at s4 hl4 ⊢
    refine ⟨_, rfl, x, C, dx, _, rfl, s4 _ _ hx3, T.cl, T.nWires, by omega, ?_⟩
    have nlx : l ≠ x := ne_of hl4 (s4 _ _ hx3) (by intro z; cases z)
    generalize hf5 : putF "wires" (.ref l) (putF "_beneath" (.ref be) (putF "hues" (.int h) (putF "count" (.int n) []))) = fs5
    have lk5 : fs5.length ≤ 4 := by rw [← hf5]; exact put_few lk3
    have ben5 : fs5.lookup ("_beneath" : Str) = some (.ref be) := by rw [← hf5, lk_ne _ _ (by decide +kernel), lk_same]
    have wir5 : fs5.lookup ("wires" : Str) = some (.ref l) := by rw [← hf5, lk_same]
    have cnt5 : fs5.lookup ("count" : Str) = some (.int n) := by rw [← hf5, lk_ne _ _ (by decide +kernel), lk_ne _ _ (by decide +kernel), lk_ne _ _ (by decide +kernel), lk_same]
    have hue5 : fs5.lookup ("hues" : Str) = some (.int h) := by rw [← hf5, lk_ne _ _ (by decide +kernel), lk_ne _ _ (by decide +kernel), lk_same]
    have ord5 : fs5.lookup ("order" : Str) = Option.none := by rw [← hf5, lk_ne _ _ (by decide +kernel), lk_ne _ _ (by decide +kernel), lk_ne _ _ (by decide +kernel), lk_ne _ _ (by decide +kernel)] <;> rfl
    have bnt5 : fs5.lookup ("beneath" : Str) = Option.none := by rw [← hf5, lk_ne _ _ (by decide +kernel), lk_ne _ _ (by decide +kernel), lk_ne _ _ (by decide +kernel), lk_ne _ _ (by decide +kernel)] <;> rfl
    have mth5 : ∀ m ∈ mNames, fs5.lookup m = Option.none := fun m hm => by rw [← hf5, lk_ne _ _ (mN hm (by decide +kernel)), lk_ne _ _ (mN hm (by decide +kernel)), lk_ne _ _ (mN hm (by decide +kernel)), lk_ne _ _ (mN hm (by decide +kernel))] <;> rfl
    have sb5 : SB x H (upd H4 x (.ins C dx fs5)) := (sb3.trans (SB.of s4)).upd
    have rows5 : Rows (upd H4 x (.ins C dx fs5)) be (relRows n (relOf ps)) := SB.rows ((SB.refl x H4).upd) (s4 _ _ hx3) (rows3.same s4)
    have hl5 : (upd H4 x (.ins C dx fs5)) l = some (.tup ys) := by rw [upd_ne nlx]; exact hl4
    have hx5 : (upd H4 x (.ins C dx fs5)) x = some (.ins C dx fs5) := upd_same
    generalize upd H4 x (.ins C dx fs5) = H5 at sb5 rows5 hl5 hx5 ⊢
    have hps5 : Pairs H5 ts ps := ⟨hps.1, fun i t p e1 e2 => sb5 _ _ (ne_of (hps.2 i t p e1 e2) hx (by intro z; cases z)) (hps.2 i t p e1 e2)⟩
    obtain ⟨us, qs, eys, hus5, pqs⟩ := pairs_perm hps5 perm
    have kq : ∀ (i : Nat) t r, us[i]? = some t → qs[i]? = some r → kOf H3 (.ref t) = ((r.1 : Int), (r.2 : Int)) := by
      intro i t r e1 e2
      have m : V.ref t ∈ ts.map V.ref := perm.mem_iff.mp (by rw [eys]; exact List.mem_map.mpr ⟨t, List.mem_of_getElem? e1, rfl⟩)
      obtain ⟨t', ht', et⟩ := List.mem_map.mp m
      cases et
      obtain ⟨j, hj, e⟩ := List.getElem_of_mem ht'
      have jl : j < ps.length := by rw [← hps.1]; exact hj
      have h0 := hps.2 j t ps[j] (by rw [List.getElem?_eq_getElem hj, e]) (List.getElem?_eq_getElem jl)
      have ntx := ne_of h0 hx (by intro z; cases z)
      have h5 := hus5.2 i t r e1 e2
      rw [sb5 _ _ ntx h0] at h5
      injection h5 with h5
      injection h5 with h5
      injection h5 with a1 a2
      injection a1 with a1
      injection a2 with a2 _
      injection a2 with a2
      rw [kOf_ref (sb3 _ _ ntx h0), a1, a2]
    have pqs : PermS qs ps := ⟨pqs, by
      rw [List.pairwise_iff_getElem]
      intro i j hi hj ij
      have li : i < us.length := by rw [hus5.1]; exact hi
      have lj : j < us.length := by rw [hus5.1]; exact hj
      rw [eys, List.pairwise_map, List.pairwise_iff_getElem] at so
      have z := so i j li lj ij
      rw [kq i _ _ (List.getElem?_eq_getElem li) (List.getElem?_eq_getElem hi), kq j _ _ (List.getElem?_eq_getElem lj) (List.getElem?_eq_getElem hj)] at z
      show ¬ (qs[j].1 < qs[i].1 ∨ (qs[j].1 = qs[i].1 ∧ qs[j].2 < qs[i].2))
      intro y
      refine z ?_
      show ((qs[j].1 : Int) < (qs[i].1 : Int) ∨ ((qs[j].1 : Int) = (qs[i].1 : Int) ∧ (qs[j].2 : Int) < (qs[i].2 : Int)))
      omega⟩
    have ys5 : ∀ y ∈ ys, ∃ (t : Addr) (i j : Nat), y = V.ref t ∧ H5 t = some (.tup [.int (i : Int), .int (j : Int)]) := by
      intro y hy
      obtain ⟨t, ht, rfl⟩ := List.mem_map.mp (perm.mem_iff.mp hy)
      obtain ⟨j, hj, e⟩ := List.getElem_of_mem ht
      have jl : j < ps.length := by rw [← hps.1]; exact hj
      have e2 := hps.2 j t ps[j] (by rw [List.getElem?_eq_getElem hj, e]) (List.getElem?_eq_getElem jl)
      exact ⟨t, _, _, rfl, sb5 _ _ (ne_of e2 hx (by intro z; cases z)) e2⟩
    have ysl : ys.length < 4900 := by rw [perm.length_eq, List.length_map, hps.1]; exact few
    -- lamps = range(count)
    refine ⟨_, rfl, _, rfl, fun r nr => ?_⟩
    have s6 : Same H5 (upd H5 r (.rng 0 (n : Int))) := same_new nr
    have hr6 : (upd H5 r (.rng 0 (n : Int))) r = some (.rng 0 (n : Int)) := upd_same
    generalize upd H5 r (.rng 0 (n : Int)) = H6 at s6 hr6 ⊢
    have nrx : r ≠ x := ne_of hr6 (s6 _ _ hx5) (by intro z; cases z)
    have rows6 := rows5.same s6
    -- self._above
    refine ⟨_, rfl, r, 0, n, rfl, hr6, ⟨by omega, by omega, by omega, by omega⟩, fun D hD => ?_⟩
    rw [show ((n : Int) - 0).toNat = n by omega]
    refine lc_range (fun i H7 => Coll H6 D (fun j => nL (Bel n (flip (relOf ps)) j)) i H7) (Coll.start hD) ?_ ?_
    · intro i H7 hi c7
      have e0 : (0 : Int) + (i : Int) = (i : Int) := by omega
      rw [e0]
      obtain ⟨_, hD7, _, s7, _⟩ := id c7
      refine ⟨rfl, yesT ⟨_, rfl, r, 0, n, rfl, s7 _ _ hr6, ⟨by omega, by omega, by omega, by omega⟩, fun D2 hD2 => ?_⟩⟩
      rw [show ((n : Int) - 0).toNat = n by omega]
      refine lc_range (fun j H8 => H8 D2 = some (.lst (nL ((List.range j).filter (flip (relOf ps) i)))) ∧ Same H7 H8) ⟨upd_same, same_new hD2⟩ ?_ ?_
      · rintro j H8 hj ⟨h8, s8⟩
        have e0 : (0 : Int) + (j : Int) = (j : Int) := by omega
        rw [e0]
        have s68 : Same H6 H8 := s7.trans s8
        obtain ⟨xs, al, hb, _, hal, hL⟩ := (rows6.same s68).at (relRows_at (R := relOf ps) hj)
        refine ⟨rfl, _, rfl, _, rfl, x, C, dx, _, _, rfl, s68 _ _ (s6 _ _ hx5), T.cl, T.nBen, ben5, _, rfl, be, xs, _, _, rfl, rfl, SqL.of hb, atI_nat hal, al, _, rfl, .inl (SqL.of hL), rfl, flat_nL _, _, rfl, ?_⟩
        have grown : (List.range (j + 1)).filter (flip (relOf ps) i) = (List.range j).filter (flip (relOf ps) i) ++ (if flip (relOf ps) i j = true then [j] else []) := by
          rw [List.range_succ, List.filter_append, List.filter_cons]
          rfl
        have same_test : inV (V.int (i : Int)) (nL (Bel n (relOf ps) j)) = flip (relOf ps) i j := by
          rw [in_nL, Bool.eq_iff_iff, decide_eq_true_eq, mem_Bel]
          exact ⟨fun z => z.2, fun z => ⟨hi, z⟩⟩
        show if inV (V.int (i : Int)) (nL (Bel n (relOf ps) j)) = true then _ else _
        rw [same_test]
        refine ite2 (fun hx' => ?_) (fun hx' => ?_)
        · refine ⟨_, rfl, _, h8, ?_, ?_, same_upd s8 hD2⟩
          · rw [nL_len, sizeLine_eq]
            have := List.length_filter_le (flip (relOf ps) i) (List.range j)
            rw [List.length_range] at this
            omega
          · rw [upd_same, grown, if_pos hx', nL_app]; rfl
        · refine ⟨?_, s8⟩
          rw [h8, grown, if_neg hx', List.append_nil]
      · rintro H8 ⟨h8, s8⟩
        exact c7.more hD s8 (fun z => by rw [z, hD7] at hD2; cases hD2) h8 (by omega)
    intro H7 c7
    have rowsA := c7.rows
    obtain ⟨_, hD7, _, s7, _⟩ := id c7
    refine ⟨_, rfl, x, C, dx, _, rfl, s7 _ _ (s6 _ _ hx5), T.cl, T.nAbove, by omega, ?_⟩
    generalize hf8 : putF "_above" (.ref D) fs5 = fs8
    have lk8 : fs8.length ≤ 5 := by rw [← hf8]; exact put_few lk5
    have ben8 : fs8.lookup ("_beneath" : Str) = some (.ref be) := by rw [← hf8, lk_ne _ _ (by decide +kernel)]; exact ben5
    have wir8 : fs8.lookup ("wires" : Str) = some (.ref l) := by rw [← hf8, lk_ne _ _ (by decide +kernel)]; exact wir5
    have cnt8 : fs8.lookup ("count" : Str) = some (.int n) := by rw [← hf8, lk_ne _ _ (by decide +kernel)]; exact cnt5
    have hue8 : fs8.lookup ("hues" : Str) = some (.int h) := by rw [← hf8, lk_ne _ _ (by decide +kernel)]; exact hue5
    have ord8 : fs8.lookup ("order" : Str) = Option.none := by rw [← hf8, lk_ne _ _ (by decide +kernel)]; exact ord5
    have bnt8 : fs8.lookup ("beneath" : Str) = Option.none := by rw [← hf8, lk_ne _ _ (by decide +kernel)]; exact bnt5
    have abv8 : fs8.lookup ("_above" : Str) = some (.ref D) := by rw [← hf8, lk_same]
    have mth8 : ∀ m ∈ mNames, fs8.lookup m = Option.none := fun m hm => by rw [← hf8, lk_ne _ _ (mN hm (by decide +kernel))]; exact mth5 m hm
    have s67 := s6.trans s7
    have sb8 : SB x H (upd H7 x (.ins C dx fs8)) := (sb5.trans (SB.of s67)).upd
    have rows8 : Rows (upd H7 x (.ins C dx fs8)) be (relRows n (relOf ps)) := SB.rows ((SB.refl x H7).upd) (s67 _ _ hx5) (rows6.same s7)
    have rowsA8 : Rows (upd H7 x (.ins C dx fs8)) D (relRows n (flip (relOf ps))) := SB.rows ((SB.refl x H7).upd) (s67 _ _ hx5) rowsA
    have hl8 : (upd H7 x (.ins C dx fs8)) l = some (.tup ys) := by rw [upd_ne nlx]; exact s67 _ _ hl5
    have hr8 : (upd H7 x (.ins C dx fs8)) r = some (.rng 0 (n : Int)) := by rw [upd_ne nrx]; exact s7 _ _ hr6
    have hx8 : (upd H7 x (.ins C dx fs8)) x = some (.ins C dx fs8) := upd_same
    have ys8 : ∀ y ∈ ys, ∃ (t : Addr) (i j : Nat), y = V.ref t ∧ (upd H7 x (.ins C dx fs8)) t = some (.tup [.int (i : Int), .int (j : Int)]) := by
      intro y hy
      obtain ⟨t, i, j, e1, e2⟩ := ys5 y hy
      exact ⟨t, i, j, e1, by rw [upd_ne (ne_of e2 hx5 (by intro z; cases z))]; exact s67 _ _ e2⟩
    have hus8 : Pairs (upd H7 x (.ins C dx fs8)) us qs := ⟨hus5.1, fun i t p e1 e2 => by rw [upd_ne (ne_of (hus5.2 i t p e1 e2) hx5 (by intro z; cases z))]; exact s67 _ _ (hus5.2 i t p e1 e2)⟩
    generalize upd H7 x (.ins C dx fs8) = H8 at sb8 rows8 rowsA8 hl8 hr8 hx8 ys8 hus8 ⊢
    -- self._direct
    refine ⟨_, rfl, r, 0, n, rfl, hr8, ⟨by omega, by omega, by omega, by omega⟩, fun D3 hD3 => ?_⟩
    rw [show ((n : Int) - 0).toNat = n by omega]
    have lq : qs.length < 4900 := by rw [pqs.1.length_eq]; exact few
    refine lc_range (fun i H9 => Coll H8 D3 (fun i => nL (dirL qs i)) i H9) (Coll.start hD3) ?_ ?_
    · intro i H9 hi c9
      have e0 : (0 : Int) + (i : Int) = (i : Int) := by omega
      rw [e0]
      obtain ⟨_, hD9, _, s9, _⟩ := id c9
      refine ⟨rfl, yesT ⟨_, rfl, x, C, dx, _, _, rfl, s9 _ _ hx8, T.cl, T.nWires, wir8, l, rfl, ⟨_, SqT.of (s9 _ _ hl8)⟩, fun D4 hD4 => ?_⟩⟩
      refine lc_it (walk_tup (xs := ys)) (fun j H10 => H10 D4 = some (.lst (nL (dirL (qs.take j) i))) ∧ Same H9 H10) ⟨upd_same, same_new hD4⟩ (fun j H10 _ ⟨_, s10⟩ => SqT.of (s10 _ _ (s9 _ _ hl8))) ?_ ?_
      · rintro j y H10 H11 hj ⟨h10, s10⟩ ⟨rfl, hy⟩
        rw [eys, List.getElem?_map] at hy
        obtain ⟨t, ht, rfl⟩ := Option.map_eq_some_iff.mp hy
        have jl : j < qs.length := by rw [← hus8.1]; exact (List.getElem?_eq_some_iff.mp ht).1
        obtain ⟨p, hp⟩ : ∃ p, qs[j]? = some p := ⟨_, List.getElem?_eq_getElem jl⟩
        have htp := hus8.2 j t p ht hp
        have fewj : (dirL (qs.take j) i).length < 4900 := Nat.lt_of_le_of_lt (dirL_few _ _) (by rw [List.length_take]; omega)
        refine ⟨t, _, rfl, SqT.of (s10 _ _ (s9 _ _ htp)), rfl, _, _, rfl, _, _, rfl, rfl, rfl, ?_⟩
        refine ⟨_, rfl, _, rfl, rfl, _, rfl, ?_⟩
        refine ite2 (fun he => ?_) (fun hne => ?_)
        · have e : p.1 = i := by
            have z := of_decide_eq_true he
            injection z with z
            omega
          refine ⟨_, rfl, _, h10, by rw [nL_len, sizeLine_eq]; omega, ?_, same_upd s10 hD4⟩
          rw [upd_same, dirL_more hp, if_pos e, nL_app]; rfl
        · have ne : ¬ p.1 = i := fun z => hne (decide_eq_true (by rw [z]))
          refine ⟨?_, s10⟩
          rw [h10, dirL_more hp, if_neg ne, List.append_nil]
      · rintro H10 ⟨h10, s10⟩
        have e : ys.length = qs.length := by rw [eys, List.length_map, hus8.1]
        rw [e, List.take_length] at h10
        exact c9.more hD3 s10 (fun z => by rw [z, hD9] at hD4; cases hD4) h10 (by omega)
    rintro H9 c9
    have rowsD := c9.rowsF
    have s9 := c9.same
    refine ⟨_, rfl, x, C, dx, _, rfl, s9 _ _ hx8, T.cl, T.nDirect, by omega, ?_⟩
    generalize hf10 : putF "_direct" (.ref D3) fs8 = fs10
    have lk10 : fs10.length ≤ 6 := by rw [← hf10]; exact put_few lk8
    have ben10 : fs10.lookup ("_beneath" : Str) = some (.ref be) := by rw [← hf10, lk_ne _ _ (by decide +kernel)]; exact ben8
    have cnt10 : fs10.lookup ("count" : Str) = some (.int n) := by rw [← hf10, lk_ne _ _ (by decide +kernel)]; exact cnt8
    have hue10 : fs10.lookup ("hues" : Str) = some (.int h) := by rw [← hf10, lk_ne _ _ (by decide +kernel)]; exact hue8
    have ord10 : fs10.lookup ("order" : Str) = Option.none := by rw [← hf10, lk_ne _ _ (by decide +kernel)]; exact ord8
    have bnt10 : fs10.lookup ("beneath" : Str) = Option.none := by rw [← hf10, lk_ne _ _ (by decide +kernel)]; exact bnt8
    have abv10 : fs10.lookup ("_above" : Str) = some (.ref D) := by rw [← hf10, lk_ne _ _ (by decide +kernel)]; exact abv8
    have dir10 : fs10.lookup ("_direct" : Str) = some (.ref D3) := by rw [← hf10, lk_same]
    have wir10 : fs10.lookup ("wires" : Str) = some (.ref l) := by rw [← hf10, lk_ne _ _ (by decide +kernel)]; exact wir8
    have mth10 : ∀ m ∈ mNames, fs10.lookup m = Option.none := fun m hm => by rw [← hf10, lk_ne _ _ (mN hm (by decide +kernel))]; exact mth8 m hm
    have rowsD10 : Rows (upd H9 x (.ins C dx fs10)) D3 ((List.range n).map (dirL qs)) := SB.rows ((SB.refl x H9).upd) (s9 _ _ hx8) rowsD
    have hl10 : (upd H9 x (.ins C dx fs10)) l = some (.tup ys) := by rw [upd_ne nlx]; exact s9 _ _ hl8
    have hus10 : Pairs (upd H9 x (.ins C dx fs10)) us qs := ⟨hus8.1, fun i t p e1 e2 => by rw [upd_ne (ne_of (hus8.2 i t p e1 e2) hx8 (by intro z; cases z))]; exact s9 _ _ (hus8.2 i t p e1 e2)⟩
    have sb10 : SB x H (upd H9 x (.ins C dx fs10)) := (sb8.trans (SB.of s9)).upd
    have rows10 : Rows (upd H9 x (.ins C dx fs10)) be (relRows n (relOf ps)) := SB.rows ((SB.refl x H9).upd) (s9 _ _ hx8) (rows8.same s9)
    have rowsA10 : Rows (upd H9 x (.ins C dx fs10)) D (relRows n (flip (relOf ps))) := SB.rows ((SB.refl x H9).upd) (s9 _ _ hx8) (rowsA8.same s9)
    have hx10 : (upd H9 x (.ins C dx fs10)) x = some (.ins C dx fs10) := upd_same
    generalize upd H9 x (.ins C dx fs10) = H10 at sb10 rows10 rowsA10 hx10 rowsD10 hl10 hus10 ⊢
    -- self._order
    refine ⟨_, rfl, x, C, dx, _, _, rfl, hx10, T.cl, T.nAbove, abv10, D, n, relOf ps, rfl, n16, relOf_ranked rank, rowsA10, fun H11 o s11 no ho => ?_⟩
    refine ⟨_, rfl, x, C, dx, _, rfl, s11 _ _ hx10, T.cl, T.nOrder, by omega, ?_⟩
    have nox : o ≠ x := ne_of ho (s11 _ _ hx10) (by intro z; cases z)
    refine q _ (sb10.trans (SB.of s11)).upd ⟨dx, _, be, o, upd_same, ?_, ?_, ?_, SB.rows ((SB.refl x H11).upd) (s11 _ _ hx10) (rows10.same s11), ?_, by rw [upd_ne nox]; exact ho, ?_, ?_⟩ ⟨dx, _, D, D3, l, us, qs, upd_same, ?_, SB.rows ((SB.refl x H11).upd) (s11 _ _ hx10) (rowsA10.same s11), ?_, SB.rows ((SB.refl x H11).upd) (s11 _ _ hx10) (rowsD10.same s11), ?_, by rw [upd_ne nlx, ← eys]; exact s11 _ _ hl10, ⟨hus10.1, fun i t p e1 e2 => by rw [upd_ne (ne_of (hus10.2 i t p e1 e2) hx10 (by intro z; cases z))]; exact s11 _ _ (hus10.2 i t p e1 e2)⟩, pqs, fun m hm => ?_⟩
    · rw [lk_ne _ _ (by decide +kernel)]; exact cnt10
    · rw [lk_ne _ _ (by decide +kernel)]; exact hue10
    · rw [lk_ne _ _ (by decide +kernel)]; exact ben10
    · rw [lk_same]
    · rw [lk_ne _ _ (by decide +kernel)]; exact ord10
    · rw [lk_ne _ _ (by decide +kernel)]; exact bnt10
    · rw [lk_ne _ _ (by decide +kernel)]; exact abv10
    · rw [lk_ne _ _ (by decide +kernel)]; exact dir10
    · rw [lk_ne _ _ (by decide +kernel)]; exact wir10
    · rw [lk_ne _ _ (mN hm (by decide +kernel))]; exact mth10 m hm
end
end Hue

end
section
set_option maxRecDepth 100000
set_option maxHeartbeats 4000000
namespace Hue
open PySem PySem.Spec PyProof.Rows L2
section
variable {P : Program} {w : World} {K : PySem.W.Frag} {mg : Str → Option Value} {base : Heap} {C CL : Addr}
theorem HouseAt.same {H H' : Hp} {x : Addr} {n h : Nat} {R : Rel} (a : HouseAt C H x n h R) (s : Same H H') : HouseAt C H' x n h R := by
  obtain ⟨dx, fs, be, o, h1, h2, h3, h4, h5, h6, h7, h8, h9⟩ := a
  exact ⟨dx, fs, be, o, s _ _ h1, h2, h3, h4, h5.same s, h6, s _ _ h7, h8, h9⟩
abbrev s_InvalidLamp___init__ : Stmt := inClass (top 4) 0
theorem sc_InvalidLamp___init__ : FnScope ["self", "lamp"] ["self", "lamp"] (defScope s_InvalidLamp___init__) := ⟨rfl, rfl, rfl, by decide +kernel, rfl, by decide +kernel, by decide +kernel⟩
-- slots of InvalidLamp.__init__: 0 self, 1 lamp
theorem ok_InvalidLamp {f : Addr} {fd : FuncData} (F : Fun K "__init__" "InvalidLamp.__init__" s_InvalidLamp___init__ f fd) : FnOk P w K mg base CX0 1 f fd ["self", "lamp"] (spKeep K "lamp") := by
  refine F.ok sc_InvalidLamp___init__ (fun vs H Q E h => ?_) (fun cdv A outer s H vs Q E hr h => ?_)
  · obtain ⟨a, D, v, rfl, _⟩ := h; rfl
  · obtain ⟨a, D, v, rfl, T, no, ha, q⟩ := h
    refine ⟨_, (pss_one (ps_ost (pv 0) (pv 1))), ?_⟩
    exact ⟨_, rfl, _, rfl, a, D, rfl, T, no, .inl ⟨ha, fun dx nd ne => q dx nd ne⟩⟩
abbrev s_House_order : Stmt := inClass (top 22) 10
theorem sc_House_order : FnScope ["self"] ["self"] (defScope s_House_order) := ⟨rfl, rfl, rfl, by decide +kernel, rfl, by decide +kernel, by decide +kernel⟩
-- slots of House.order: 0 self
def spOrder (C : Addr) : Sp := fun vs H Q _ => ∃ (x : Addr) (n h : Nat) (R : Rel), vs = [.ref x] ∧ HouseAt C H x n h R ∧ ∀ (H' : Hp) (p : Addr), Same H H' → H p = Option.none → H' p = some (.lst (nL (ordN n R n))) → Q (.ref p) H'
theorem ok_order (T : Txt K mg C) {f : Addr} {fd : FuncData} (F : Fun K "order" "House.order" s_House_order f fd) : FnOk P w K mg base CX0 1 f fd ["self"] (spOrder C) := by
  refine F.ok sc_House_order (fun vs H Q E h => ?_) (fun cdv A outer s H vs Q E hr h => ?_)
  · obtain ⟨x, n, h, R, rfl, _⟩ := h; rfl
  · obtain ⟨x, n, h, R, rfl, ⟨dx, fs, be, o, h1, h2, h3, h4, h5, h6, h7, h8, h9⟩, q⟩ := h
    refine ⟨_, (pss_one (ps_ret (pe_callTy (lstOf_ K) (by rfl) T.list b_list (pa_cons (fld_ K (pv 0)) pa_nil)))), ?_⟩
    exact ⟨_, rfl, x, C, dx, _, _, rfl, h1, T.cl, T.nOrder, h6, o, _, rfl, .inl (SqL.of h7), fun l nl => q _ l (same_new nl) nl upd_same⟩
abbrev s_is_lamp : Stmt := top 23
theorem sc_is_lamp : FnScope ["house", "value"] ["house", "value"] (defScope s_is_lamp) := ⟨rfl, rfl, rfl, by decide +kernel, rfl, by decide +kernel, by decide +kernel⟩
-- slots of is_lamp: 0 house, 1 value
def spIsLampV (C : Addr) : Sp := fun vs H Q _ => ∃ (x : Addr) (n h : Nat) (R : Rel) (v : V), vs = [.ref x, v] ∧ HouseAt C H x n h R ∧ Kd H v ∧ Q (.bl (inI v 0 ((n : Int) - 1))) H
theorem ok_is_lamp (T : Txt K mg C) {f : Addr} {fd : FuncData} (F : Fun K "is_lamp" "is_lamp" s_is_lamp f fd) (c_is_whole_in : Cal P w K mg base "is_whole_in" 2 spWholeInV) : FnOk P w K mg base CX0 3 f fd ["house", "value"] (spIsLampV C) := by
  refine F.ok sc_is_lamp (fun vs H Q E h => ?_) (fun cdv A outer s H vs Q E hr h => ?_)
  · obtain ⟨x, n, h, R, i, rfl, _⟩ := h; rfl
  · obtain ⟨x, n, h, R, v, rfl, ⟨dx, fs, be, o, h1, h2, h3, h4, h5, h6, h7, h8, h9⟩, k, q⟩ := h
    refine ⟨_, (pss_one (ps_ret (pe_cal c_is_whole_in (hr.mono (by decide)) (pa_cons (pv 1) (pa_cons pe_int (pa_cons (pe_op op_sub (fld_ K (pv 0)) pe_int) pa_nil)))))), ?_⟩
    exact ⟨_, rfl, _, rfl, x, C, dx, _, _, rfl, h1, T.cl, T.nCount, h2, _, _, rfl, rfl, v, 0, (n : Int) - 1, rfl, k, q⟩
abbrev s_check_lamp : Stmt := top 24
theorem sc_check_lamp : FnScope ["house", "lamp"] ["house", "lamp"] (defScope s_check_lamp) := ⟨rfl, rfl, rfl, by decide +kernel, rfl, by decide +kernel, by decide +kernel⟩
-- slots of check_lamp: 0 house, 1 lamp
/-- the wish where v is no lamp -/
def Odd1 (CL : Addr) (f : Str) (v : V) (H : Hp) (E : XK) : Prop := ∀ (d : Addr) (H' : Hp), H d = Option.none → Same H H' → H' d = some (.xd [(f, v)]) → E (.ref CL) (some d) H'
theorem Odd1.after {CL : Addr} {f : Str} {v : V} {H H1 : Hp} {E : XK} (o : Odd1 CL f v H E) (s : Same H H1) : Odd1 CL f v H1 E := fun d H' nd s' hd => o d H' (s.free nd) (s.trans s') hd
def spCheckLampX (C CL : Addr) : Sp := fun vs H Q E => ∃ (x : Addr) (n h : Nat) (R : Rel) (v : V), vs = [.ref x, v] ∧ HouseAt C H x n h R ∧ Kd H v ∧ (inI v 0 ((n : Int) - 1) = true → Q .non H) ∧ (inI v 0 ((n : Int) - 1) = false → Odd1 CL "lamp" v H E)
theorem ok_check_lamp (T : Txt K mg C) (M_lamp : XMk P w K mg base CL "InvalidLamp" "lamp") {f : Addr} {fd : FuncData} (F : Fun K "check_lamp" "check_lamp" s_check_lamp f fd) (c_is_lamp : Cal P w K mg base "is_lamp" 3 (spIsLampV C)) : FnOk P w K mg base (L2.CX P w) 4 f fd ["house", "lamp"] (spCheckLampX C CL) := by
  refine F.okX sc_check_lamp (fun vs H Q E h => ?_) (fun cdv A outer s H vs Q E hr h => ?_)
  · obtain ⟨x, n, h, R, v, rfl, _⟩ := h; rfl
  · obtain ⟨x, n, h, R, v, rfl, ha, k, q1, q2⟩ := h
    refine ⟨_, (pss_one (ps_if (pt_not (pt_val (pe_cal c_is_lamp (hr.mono (by decide)) (pa_cons (pv 0) (pa_cons (pv 1) pa_nil)))))
      (pss_one (ps_raiseM M_lamp rfl (takes_of rfl rfl rfl rfl) (hr.mono (by decide)) (pa_cons (pv 1) pa_nil))) pss_nil)), ?_⟩
    refine ⟨_, rfl, _, rfl, x, n, h, R, v, rfl, ha, k, _, rfl, ?_⟩
    cases e : inI v 0 ((n : Int) - 1) with
    | true => exact iteF (q1 e)
    | false => exact iteT ⟨_, rfl, by show 1 ≤ 1000; decide, fun a na => keep_raised M_lamp.cls.oex M_lamp.no (q2 e) a na⟩
theorem check_int (vs : List V) (H : Hp) (Q : VK) (E : XK) (h : ∃ (x : Addr) (n h : Nat) (R : Rel) (i : Int), vs = [.ref x, .int i] ∧ HouseAt C H x n h R ∧ 0 ≤ i ∧ i < (n : Int) ∧ Q .non H) : spCheckLampX C CL vs H Q fun _ _ _ => False := by
  obtain ⟨x, n, h, R, i, e, ha, i0, i1, q⟩ := h
  have z : inI (.int i) 0 ((n : Int) - 1) = true := by
    show (decide (0 ≤ i) && decide (i ≤ (n : Int) - 1)) = true
    rw [decide_eq_true i0, decide_eq_true (by omega : i ≤ (n : Int) - 1)]
    rfl
  exact ⟨x, n, h, R, .int i, e, ha, .int i, fun _ => q, fun y => by rw [z] at y; cases y⟩
/-! ### tops and bottoms -/
theorem nL_it2 {l : List Nat} {i : Nat} {y : V} (h : (nL l)[i]? = some y) : ∃ k, l[i]? = some k ∧ y = V.int (k : Int) := by
  unfold nL nI at h
  rw [List.map_map, List.getElem?_map] at h
  obtain ⟨k, hk, e⟩ := Option.map_eq_some_iff.mp h
  exact ⟨k, hk, e.symm⟩
theorem filt_more' (f : Nat → Bool) (i : Nat) : (List.range (i + 1)).filter f = (List.range i).filter f ++ (if f i = true then [i] else []) := by
  rw [List.range_succ, List.filter_append, List.filter_cons]
  rfl
theorem filt_few' (f : Nat → Bool) (i : Nat) : ((List.range i).filter f).length ≤ i := by
  have := List.length_filter_le f (List.range i)
  rw [List.length_range] at this
  exact this
theorem isEmpty_nL (l : List Nat) : (!(nL l).isEmpty) = !decide (l = []) := by
  cases l <;> simp [nL, nI]
/-! ### the depth -/
def depStep (ps : List (Nat × Nat)) (d : Nat → Nat) (u : Nat) : Nat → Nat := fun j => if (u, j) ∈ ps then max (d j) (d u + 1) else d j
def depO (ps : List (Nat × Nat)) (ord : List Nat) : Nat → Nat := ord.foldl (depStep ps) fun _ => 0
theorem depStep_congr {ps qs : List (Nat × Nat)} (h : ∀ p, p ∈ ps ↔ p ∈ qs) : depStep ps = depStep qs := by
  funext d u j
  unfold depStep
  simp only [h]
theorem depO_congr {ps qs : List (Nat × Nat)} (h : ∀ p, p ∈ ps ↔ p ∈ qs) (ord : List Nat) : depO ps ord = depO qs ord := by
  unfold depO
  rw [depStep_congr h]
theorem depO_more {ps : List (Nat × Nat)} {ord : List Nat} {i u : Nat} (h : ord[i]? = some u) : depO ps (ord.take (i + 1)) = depStep ps (depO ps (ord.take i)) u := by
  unfold depO
  rw [List.take_add_one, h, List.foldl_append]
  rfl
/-- n numbers -/
def nF (n : Nat) (f : Nat → Nat) : List V := nL ((List.range n).map f)
theorem nF_len (n : Nat) (f : Nat → Nat) : (nF n f).length = n := by unfold nF; rw [nL_len, List.length_map, List.length_range]
theorem nF_get {n : Nat} {f : Nat → Nat} {j : Nat} (h : j < n) : (nF n f)[j]? = some (V.int (f j : Nat)) := nL_get (by rw [List.getElem?_map, List.getElem?_range h]; rfl)
theorem nF_set {n : Nat} {f : Nat → Nat} {k m : Nat} : (nF n f).set k (V.int (m : Nat)) = nF n fun j => if j = k then m else f j := by
  refine List.ext_getElem? fun i => ?_
  rw [List.getElem?_set, nF_len]
  by_cases hi : i < n
  · rw [nF_get (f := fun j => if j = k then m else f j) hi]
    by_cases e : k = i
    · rw [if_pos e, if_pos (by omega), if_pos e.symm]
    · rw [if_neg e, nF_get hi, if_neg (fun z => e z.symm)]
  · rw [List.getElem?_eq_none (l := nF n fun j => if j = k then m else f j) (by rw [nF_len]; omega), List.getElem?_eq_none (l := nF n f) (by rw [nF_len]; omega)]
    by_cases e : k = i
    · rw [if_pos e, if_neg (by omega)]
    · rw [if_neg e]
theorem nF_congr {n : Nat} {f g : Nat → Nat} (h : ∀ j, j < n → f j = g j) : nF n f = nF n g := by
  unfold nF
  rw [List.map_congr_left fun j hj => h j (List.mem_range.mp hj)]
theorem rep0 (n : Nat) : (List.replicate ((n : Int)).toNat [V.int 0]).flatten = nF n fun _ => 0 := by
  rw [Int.toNat_natCast]
  refine List.ext_getElem? fun i => ?_
  have e : (List.replicate n [V.int 0]).flatten = List.replicate n (V.int 0) := by
    induction n with
    | zero => rfl
    | succ n ih => rw [List.replicate_succ, List.flatten_cons, ih, List.replicate_succ]; rfl
  rw [e, List.getElem?_replicate]
  by_cases hi : i < n
  · rw [if_pos hi, nF_get hi]; rfl
  · rw [if_neg hi, List.getElem?_eq_none (by rw [nF_len]; omega)]
theorem max_nat (a b : Nat) : (V.int (if ((b : Nat) : Int) + 1 > ((a : Nat) : Int) then ((b : Nat) : Int) + 1 else ((a : Nat) : Int))) = V.int ((max a (b + 1) : Nat) : Int) := by
  congr 1
  by_cases h : ((b : Nat) : Int) + 1 > ((a : Nat) : Int)
  · rw [if_pos h]; omega
  · rw [if_neg h]; omega
end
end Hue

end
section
set_option maxRecDepth 100000
set_option maxHeartbeats 4000000
namespace Hue
open PySem PySem.Spec PyProof.Rows L2
section
variable {P : Program} {w : World} {K : PySem.W.Frag} {mg : Str → Option Value} {base : Heap} {C CL : Addr}
theorem inI_nat {v : V} {n : Nat} (hin : inI v 0 ((n : Int) - 1) = true) : ∃ k : Nat, k < n ∧ v = .int (k : Nat) := by
  cases v with
  | int i =>
    have z : (decide (0 ≤ i) && decide (i ≤ (n : Int) - 1)) = true := hin
    rw [Bool.and_eq_true, decide_eq_true_eq, decide_eq_true_eq] at z
    exact ⟨i.toNat, by omega, by congr 1; omega⟩
  | _ => cases hin
theorem nat_inI {k n : Nat} (h : k < n) : inI (.int (k : Nat)) 0 ((n : Int) - 1) = true := by
  show (decide (0 ≤ (k : Int)) && decide ((k : Int) ≤ (n : Int) - 1)) = true
  rw [decide_eq_true (by omega), decide_eq_true (by omega)]
  rfl
theorem in_Bel {n : Nat} {R : Rel} {i j : Nat} (h : i < n) : decide (i ∈ Bel n R j) = R j i := by
  rw [Bool.eq_iff_iff, decide_eq_true_eq, mem_Bel]
  exact ⟨fun z => z.2, fun z => ⟨h, z⟩⟩
/-! ### methods that check a lamp and hand out a list -/
abbrev s_House_beneath : Stmt := inClass (top 22) 5
theorem sc_House_beneath : FnScope ["self", "lamp"] ["self", "lamp"] (defScope s_House_beneath) := ⟨rfl, rfl, rfl, by decide +kernel, rfl, by decide +kernel, by decide +kernel⟩
-- slots of House.beneath: 0 self, 1 lamp
def spBeneathX (C CL : Addr) : Sp := fun vs H Q E => ∃ (x : Addr) (n h : Nat) (R : Rel) (v : V), vs = [.ref x, v] ∧ HouseAt C H x n h R ∧ Kd H v ∧
  (∀ k : Nat, k < n → v = .int (k : Nat) → ∀ (H' : Hp) (p : Addr), Same H H' → H p = Option.none → H' p = some (.lst (nL (Bel n R k))) → Q (.ref p) H') ∧ (inI v 0 ((n : Int) - 1) = false → Odd1 CL "lamp" v H E)
theorem ok_beneath (T : Txt K mg C) {f : Addr} {fd : FuncData} (F : Fun K "beneath" "House.beneath" s_House_beneath f fd) (c_check_lamp : CalX P w K mg base "check_lamp" 4 (spCheckLampX C CL)) : FnOk P w K mg base (L2.CX P w) 5 f fd ["self", "lamp"] (spBeneathX C CL) := by
  refine F.okX sc_House_beneath (fun vs H Q E h => ?_) (fun cdv A outer s H vs Q E hr h => ?_)
  · obtain ⟨x, n, h, R, v, rfl, _⟩ := h; rfl
  · obtain ⟨x, n, h, R, v, rfl, ha, kd, q1, q2⟩ := h
    obtain ⟨dx, fs, be, o, h1, h2, h3, h4, h5, h6, h7, h8, h9⟩ := id ha
    refine ⟨_, (pss_cons (ps_expr (pe_calX c_check_lamp (takes_of rfl rfl rfl rfl) (hr.mono (by decide)) (pa_cons (pv 0) (pa_cons (pv 1) pa_nil))))
      (pss_one (ps_ret (pe_callTy (lstOf_ K) (by rfl) T.list b_list (pa_cons (pe_ix (ixL_ K) (fld_ K (pv 0)) (pv 1) (fun _ _ => rfl)) pa_nil))))), ?_⟩
    refine ⟨_, rfl, _, rfl, x, n, h, R, v, rfl, ha, kd, fun hin => ?_, q2⟩
    obtain ⟨k, hk, rfl⟩ := inI_nat hin
    obtain ⟨xs, al, hb, _, hal, hL⟩ := h5.at (relRows_at (R := R) hk)
    exact ⟨_, rfl, x, C, dx, _, _, rfl, h1, T.cl, T.nBen, h4, _, rfl, be, xs, _, _, rfl, rfl, SqL.of hb, atI_nat hal, al, _, rfl, .inl (SqL.of hL), fun p np => q1 k hk rfl _ p (same_new np) np upd_same⟩
abbrev s_House_above : Stmt := inClass (top 22) 6
theorem sc_House_above : FnScope ["self", "lamp"] ["self", "lamp"] (defScope s_House_above) := ⟨rfl, rfl, rfl, by decide +kernel, rfl, by decide +kernel, by decide +kernel⟩
-- slots of House.above: 0 self, 1 lamp
def spAboveX (C CL : Addr) : Sp := fun vs H Q E => ∃ (x : Addr) (n h : Nat) (ps : List (Nat × Nat)) (v : V), vs = [.ref x, v] ∧ HouseAt C H x n h (relOf ps) ∧ HouseX C H x n ps ∧ Kd H v ∧
  (∀ k : Nat, k < n → v = .int (k : Nat) → ∀ (H' : Hp) (p : Addr), Same H H' → H p = Option.none → H' p = some (.lst (nL (Bel n (flip (relOf ps)) k))) → Q (.ref p) H') ∧ (inI v 0 ((n : Int) - 1) = false → Odd1 CL "lamp" v H E)
theorem ok_above (T : Txt K mg C) {f : Addr} {fd : FuncData} (F : Fun K "above" "House.above" s_House_above f fd) (c_check_lamp : CalX P w K mg base "check_lamp" 4 (spCheckLampX C CL)) : FnOk P w K mg base (L2.CX P w) 5 f fd ["self", "lamp"] (spAboveX C CL) := by
  refine F.okX sc_House_above (fun vs H Q E h => ?_) (fun cdv A outer s H vs Q E hr h => ?_)
  · obtain ⟨x, n, h, ps, v, rfl, _⟩ := h; rfl
  · obtain ⟨x, n, h, ps, v, rfl, ha, hX, kd, q1, q2⟩ := h
    obtain ⟨dx, fs, ab, di, l, us, qs, g1, g2, g3, g4, g5, g6, g7, g8, g9, g10⟩ := id hX
    refine ⟨_, (pss_cons (ps_expr (pe_calX c_check_lamp (takes_of rfl rfl rfl rfl) (hr.mono (by decide)) (pa_cons (pv 0) (pa_cons (pv 1) pa_nil))))
      (pss_one (ps_ret (pe_callTy (lstOf_ K) (by rfl) T.list b_list (pa_cons (pe_ix (ixL_ K) (fld_ K (pv 0)) (pv 1) (fun _ _ => rfl)) pa_nil))))), ?_⟩
    refine ⟨_, rfl, _, rfl, x, n, h, relOf ps, v, rfl, ha, kd, fun hin => ?_, q2⟩
    obtain ⟨k, hk, rfl⟩ := inI_nat hin
    obtain ⟨xs, al, hb, _, hal, hL⟩ := g3.at (relRows_at (R := flip (relOf ps)) hk)
    exact ⟨_, rfl, x, C, dx, _, _, rfl, g1, T.cl, T.nAbove, g2, _, rfl, ab, xs, _, _, rfl, rfl, SqL.of hb, atI_nat hal, al, _, rfl, .inl (SqL.of hL), fun p np => q1 k hk rfl _ p (same_new np) np upd_same⟩
/-! ### two lamps -/
/-- two values of which the first that is no lamp is told -/
def Two (CL : Addr) (n : Nat) (a b : V) (H : Hp) (E : XK) : Prop := (inI a 0 ((n : Int) - 1) = false → Odd1 CL "lamp" a H E) ∧ (inI a 0 ((n : Int) - 1) = true → inI b 0 ((n : Int) - 1) = false → Odd1 CL "lamp" b H E)
end
end Hue

end
section
set_option maxRecDepth 100000
set_option maxHeartbeats 4000000
namespace Hue
open PySem PySem.Spec PyProof.Rows L2
section
variable {P : Program} {w : World} {K : PySem.W.Frag} {mg : Str → Option Value} {base : Heap} {C : Addr}
/-! ### the box of draws -/
def bx5 (ga la : Addr) (i1 i2 i3 : Int) : List V := [.ref ga, .int i1, .int i2, .int i3, .ref la]
/-- the box at b, with its two lists -/
structure Bx (H : Hp) (b ga la : Addr) : Prop where
  nga : ga ≠ b
  nla : la ≠ b
  ex : ∃ (gs ls : List Int) (i1 i2 i3 : Int), H b = some (.lst (bx5 ga la i1 i2 i3)) ∧ H ga = some (.lst (gs.map V.int)) ∧ H la = some (.lst (ls.map V.int)) ∧ (∀ z ∈ gs, 0 ≤ z) ∧ 0 ≤ i1 ∧ 0 ≤ i2 ∧ gs.length ≤ 63 ∧ ls.length ≤ 63
namespace Bx
variable {H H' : Hp} {b ga la a : Addr} {o : HO}
theorem same (h : Bx H b ga la) (s : Same H H') : Bx H' b ga la := by
  obtain ⟨n1, n2, gs, ls, i1, i2, i3, e, g, l, r⟩ := h
  exact ⟨n1, n2, gs, ls, i1, i2, i3, s _ _ e, s _ _ g, s _ _ l, r⟩
theorem upd (h : Bx H b ga la) (n : a ≠ b) (m : a ≠ ga) (k : a ≠ la) : Bx (upd H a o) b ga la := by
  obtain ⟨n1, n2, gs, ls, i1, i2, i3, e, g, l, r⟩ := h
  exact ⟨n1, n2, gs, ls, i1, i2, i3, by rw [upd_ne n.symm]; exact e, by rw [upd_ne m.symm]; exact g, by rw [upd_ne k.symm]; exact l, r⟩
theorem new (h : Bx H b ga la) (n : H a = Option.none) : a ≠ b ∧ a ≠ ga ∧ a ≠ la := by
  obtain ⟨n1, n2, gs, ls, i1, i2, i3, e, g, l, r⟩ := h
  exact ⟨(ne_of_none e n).symm, (ne_of_none g n).symm, (ne_of_none l n).symm⟩
theorem at' (h : Bx H b ga la) : ∃ xs, H b = some (.lst xs) := let ⟨_, _, _, _, _, _, _, e, _⟩ := h; ⟨_, e⟩
end Bx
/-- what stood in H0, where the box was not, stands still -/
theorem SB.past {H0 H H' : Hp} {b : Addr} (s : Same H0 H) (n : H0 b = Option.none) (t : SB b H H') : Same H0 H' := fun a o e => t a o (ne_of_none e n) (s a o e)
theorem mod_nat {i : Int} {m : Nat} (hm : 1 ≤ m) : ∃ d : Nat, d < m ∧ i % (m : Int) = (d : Int) := by
  have h1 := Int.emod_nonneg i (by omega : (m : Int) ≠ 0)
  have h2 := Int.emod_lt_of_pos i (by omega : (0 : Int) < m)
  exact ⟨(i % (m : Int)).toNat, by omega, by omega⟩
theorem rem_small (x : Int) {m : Int} (m0 : 0 < m) (m1 : m ≤ 4294967296) : -(2 ^ 64) < x % m ∧ x % m < 2 ^ 64 := by
  have h1 := Int.emod_nonneg x (by omega : m ≠ 0)
  have h2 := Int.emod_lt_of_pos x m0
  omega
theorem Same.sqL {K : PySem.W.Frag} {H H' : Hp} {a : Addr} {xs : List V} (e : Same H H') (h : SqL K H a xs) : SqL K H' a xs := by
  rcases h with (h | ⟨o, h⟩) | h
  · exact .inl (.inl (e _ _ h))
  · exact .inl (.inr ⟨o, e _ _ h⟩)
  · exact .inr h
theorem cut_front {α : Type} {xs : List V} {l : List α} {g : α → V} (e : xs = l.map g) (k : Nat) : cutV xs none (some (k : Int)) = (l.take k).map g := by
  unfold cutV
  rw [HT.sIx_none, HT.sIx_nat, e, List.length_map, List.drop_zero, Nat.sub_zero, ← List.map_take]
  congr 1
  rcases Nat.lt_or_ge k l.length with h | h
  · rw [Nat.min_eq_left (by omega)]
  · rw [Nat.min_eq_right h, List.take_length, List.take_of_length_le h]
abbrev s__law_box : Stmt := top 33
theorem sc__law_box : FnScope ["script", "great", "cell", "lesser"] ["script"] (defScope s__law_box) := ⟨rfl, rfl, rfl, by decide +kernel, rfl, by decide +kernel, by decide +kernel⟩
-- slots of _law_box: 0 script, 1 great, 2 cell, 3 lesser
def spBox (K : PySem.W.Frag) : Sp := fun vs H Q _ => ∃ (a : Addr) (ns : List Int), vs = [.ref a] ∧ SqL K H a (ns.map V.int) ∧ ns.length ≤ 63 ∧ ∀ (H' : Hp) (b ga la : Addr), Same H H' → H b = Option.none → H ga = Option.none → H la = Option.none → Bx H' b ga la → Q (.ref b) H'
theorem filt_more {α : Type} (f : α → Bool) (l : List α) (i : Nat) {z : α} (h : l[i]? = some z) : (l.take (i + 1)).filter f = (l.take i).filter f ++ (if f z = true then [z] else []) := by
  rw [List.take_add_one, h, List.filter_append]
  show _ ++ List.filter f [z] = _
  rw [List.filter_cons]
  rfl
theorem ok__law_box (T : Txt K mg C) {f : Addr} {fd : FuncData} (F : Fun K "_law_box" "_law_box" s__law_box f fd) : FnOk P w K mg base CX0 1 f fd ["script"] (spBox K) := by
  refine F.ok sc__law_box (fun vs H Q E h => ?_) (fun cdv A outer s H vs Q E hr h => ?_)
  · obtain ⟨a, ns, rfl, _⟩ := h; rfl
  · obtain ⟨a, ns, rfl, ha, few, q⟩ := h
    refine ⟨_, (pss_cons (ps_setLc (i := 1) (own := [("cell", 2)]) (g := gName 2) rfl sc__law_box.nd rfl rfl (sw_true rfl rfl rfl (by kernel_rfl)) (pil_ K (pv 0)) (blkOk_by (by kernel_rfl)) (fun _ _ _ _ _ => (pg_name (i := 2) sc__law_box.nd rfl (by first | exact Or.inl rfl | exact Or.inr rfl))) (fun _ _ _ _ _ => (pts_one (pt_cmpR op_ge (pv 2) (pe_op op_pow pe_int pe_int) (nomark _)))) (fun _ _ _ _ _ => (pv 2)))
      (pss_cons (ps_setLc (i := 3) (own := [("cell", 2)]) (g := gName 2) rfl sc__law_box.nd rfl rfl (sw_true rfl rfl rfl (by kernel_rfl)) (pil_ K (pv 0)) (blkOk_by (by kernel_rfl)) (fun _ _ _ _ _ => (pg_name (i := 2) sc__law_box.nd rfl (by first | exact Or.inl rfl | exact Or.inr rfl))) (fun _ _ _ _ _ => (pts_one (pt_cmpR op_lt (pv 2) (pe_op op_pow pe_int pe_int) (nomark _)))) (fun _ _ _ _ _ => (pv 2)))
      (pss_one (ps_ret (pe_lst (pa_cons (pe_slice (slL_ K) (pv 1) po_none (po_some pe_int)) (pa_cons pe_int (pa_cons pe_int (pa_cons pe_int (pa_cons (pe_slice (slL_ K) (pv 3) po_none (po_some pe_int)) pa_nil)))))))))), ?_⟩
    refine ⟨_, rfl, a, rfl, ⟨_, ha⟩, fun D hD => ?_⟩
    refine lc_list (xs := ns.map V.int) (fun i H3 => H3 D = some (.lst (((ns.take i).filter fun z => decide ((10 : Int) ^ 18 ≤ z)).map V.int)) ∧ Same H H3) ⟨upd_same, same_new hD⟩ (fun i H3 _ ⟨_, s⟩ => Same.sqL s ha) ?_ ?_
    · rintro i x H3 hx ⟨h3, s3⟩
      rw [List.getElem?_map] at hx
      obtain ⟨z, hz, rfl⟩ := Option.map_eq_some_iff.mp hx
      have few' : ((ns.take i).filter fun z => decide ((10 : Int) ^ 18 ≤ z)).length ≤ i := Nat.le_trans (List.length_filter_le _ _) (List.length_take_le _ _)
      have ilt : i < ns.length := (List.getElem?_eq_some_iff.mp hz).1
      refine ⟨rfl, _, rfl, _, _, rfl, rfl, ⟨by decide, by decide, by decide⟩, _, _, rfl, rfl, _, rfl, ?_⟩
      refine ite2 (fun hy => ?_) (fun hn => ?_)
      · have hy : decide ((10 : Int) ^ 18 ≤ z) = true := hy
        refine ⟨_, rfl, _, h3, by rw [List.length_map, sizeLine_eq]; omega, ?_, same_upd s3 hD⟩
        rw [upd_same, filt_more _ _ _ hz, if_pos hy, List.map_append]; rfl
      · have hn : ¬ decide ((10 : Int) ^ 18 ≤ z) = true := hn
        refine ⟨?_, s3⟩
        rw [h3, filt_more _ _ _ hz, if_neg hn, List.append_nil]
    rintro H3 ⟨h3, s3⟩
    rw [List.length_map, List.take_length] at h3
    obtain ⟨gs, egs⟩ : ∃ gs, (ns.filter fun z => decide ((10 : Int) ^ 18 ≤ z)) = gs := ⟨_, rfl⟩
    have g0 : ∀ z ∈ gs, (0 : Int) ≤ z := fun z hz => by
      rw [← egs] at hz
      have := of_decide_eq_true (List.mem_filter.mp hz).2
      exact Int.le_trans (by decide) this
    rw [egs] at h3
    refine ⟨_, rfl, a, rfl, ⟨_, Same.sqL s3 ha⟩, fun E1 hE => ?_⟩
    have s4 : Same H3 (upd H3 E1 (.lst [])) := same_new hE
    refine lc_list (xs := ns.map V.int) (fun i H4 => H4 E1 = some (.lst (((ns.take i).filter fun z => decide (z < (10 : Int) ^ 18)).map V.int)) ∧ Same H3 H4) ⟨upd_same, s4⟩ (fun i H4 _ ⟨_, s⟩ => Same.sqL (s3.trans s) ha) ?_ ?_
    · rintro i x H4 hx ⟨h4, s5⟩
      rw [List.getElem?_map] at hx
      obtain ⟨z, hz, rfl⟩ := Option.map_eq_some_iff.mp hx
      have few' : ((ns.take i).filter fun z => decide (z < (10 : Int) ^ 18)).length ≤ i := Nat.le_trans (List.length_filter_le _ _) (List.length_take_le _ _)
      have ilt : i < ns.length := (List.getElem?_eq_some_iff.mp hz).1
      refine ⟨rfl, _, rfl, _, _, rfl, rfl, ⟨by decide, by decide, by decide⟩, _, _, rfl, rfl, _, rfl, ?_⟩
      refine ite2 (fun hy => ?_) (fun hn => ?_)
      · have hy : decide (z < (10 : Int) ^ 18) = true := hy
        refine ⟨_, rfl, _, h4, by rw [List.length_map, sizeLine_eq]; omega, ?_, same_upd s5 hE⟩
        rw [upd_same, filt_more _ _ _ hz, if_pos hy, List.map_append]; rfl
      · have hn : ¬ decide (z < (10 : Int) ^ 18) = true := hn
        refine ⟨?_, s5⟩
        rw [h4, filt_more _ _ _ hz, if_neg hn, List.append_nil]
    rintro H4 ⟨h4, s5⟩
    rw [List.length_map, List.take_length] at h4
    obtain ⟨ls, els⟩ : ∃ ls, (ns.filter fun z => decide (z < (10 : Int) ^ 18)) = ls := ⟨_, rfl⟩
    rw [els] at h4
    have h3' := s5 _ _ h3
    have e63 : ∀ l : List Int, cutV (l.map V.int) none (some 63) = (l.take 63).map V.int := fun l => cut_front rfl 63
    have n4 : Same H H4 := s3.trans s5
    refine ⟨_, rfl, _, rfl, D, _, rfl, SqL.of h3', fun p np => ?_⟩
    rw [e63]
    have s6 : Same H4 (upd H4 p (.lst ((gs.take 63).map V.int))) := same_new np
    have hp : (upd H4 p (.lst ((gs.take 63).map V.int))) p = some (.lst ((gs.take 63).map V.int)) := upd_same
    have p0 := n4.free np
    generalize upd H4 p (.lst ((gs.take 63).map V.int)) = H5 at s6 hp ⊢
    refine ⟨_, rfl, _, rfl, E1, _, rfl, SqL.of (s6 _ _ h4), fun p2 np2 => ?_⟩
    rw [e63]
    have s7 : Same H5 (upd H5 p2 (.lst ((ls.take 63).map V.int))) := same_new np2
    have hp2 : (upd H5 p2 (.lst ((ls.take 63).map V.int))) p2 = some (.lst ((ls.take 63).map V.int)) := upd_same
    have p20 := (n4.trans s6).free np2
    generalize upd H5 p2 (.lst ((ls.take 63).map V.int)) = H6 at s7 hp2 ⊢
    refine ⟨by show 5 ≤ sizeLine; decide, fun b nb => ?_⟩
    have s8 : Same H6 (upd H6 b (.lst (bx5 p p2 0 0 0))) := same_new nb
    have n6 := (n4.trans s6).trans s7
    refine q _ b p p2 (n6.trans s8) (n6.free nb) p0 p20 ⟨ne_of_none (s7 _ _ hp) nb, ne_of_none hp2 nb, gs.take 63, ls.take 63, 0, 0, 0, upd_same, s8 _ _ (s7 _ _ hp), s8 _ _ hp2, fun z hz => g0 z (List.mem_of_mem_take hz), by decide, by decide, List.length_take_le _ _, List.length_take_le _ _⟩
abbrev s__law_take : Stmt := top 34
theorem sc__law_take : FnScope ["box", "many", "digit", "cell", "first", "second", "third"] ["box", "many"] (defScope s__law_take) := ⟨rfl, rfl, rfl, by decide +kernel, rfl, by decide +kernel, by decide +kernel⟩
-- slots of _law_take: 0 box, 1 many, 2 digit, 3 cell, 4 first, 5 second, 6 third
def spTake : Sp := fun vs H Q _ => ∃ (b ga la : Addr) (m : Nat), vs = [.ref b, .int m] ∧ 1 ≤ m ∧ m < 1000000 ∧ Bx H b ga la ∧ ∀ (d : Nat) (H' : Hp), d < m → SB b H H' → Bx H' b ga la → Q (.int d) H'
section
variable {ga la : Addr} {i1 i2 i3 : Int}
theorem b50 : atI (bx5 ga la i1 i2 i3) 0 = some (V.ref ga) := atI_nat (j := 0) rfl
theorem b51 : atI (bx5 ga la i1 i2 i3) 1 = some (V.int i1) := atI_nat (j := 1) rfl
theorem b52 : atI (bx5 ga la i1 i2 i3) 2 = some (V.int i2) := atI_nat (j := 2) rfl
theorem b53 : atI (bx5 ga la i1 i2 i3) 3 = some (V.int i3) := atI_nat (j := 3) rfl
theorem b54 : atI (bx5 ga la i1 i2 i3) 4 = some (V.ref la) := atI_nat (j := 4) rfl
theorem b5x {k : Nat} (h : k < 5) : ixN (bx5 ga la i1 i2 i3).length (k : Int) = some k := ixN_nat h
end
theorem ok__law_take (T : Txt K mg C) {f : Addr} {fd : FuncData} (F : Fun K "_law_take" "_law_take" s__law_take f fd) : FnOk P w K mg base CX0 1 f fd ["box", "many"] spTake := by
  refine F.ok sc__law_take (fun vs H Q E h => ?_) (fun cdv A outer s H vs Q E hr h => ?_)
  · obtain ⟨b, ga, la, m, rfl, _⟩ := h; rfl
  · obtain ⟨b, ga, la, m, rfl, m1, m2, ⟨nga, nla, gs, ls, i1, i2, i3, hb, hg, hl, g0, j1, j2, lg, ll⟩, q⟩ := h
    refine ⟨_, (pss_cons (ps_asg (pe_op op_add (pe_ix (ixL_ K) (pv 0) pe_int (fun _ _ => rfl)) pe_int) (pg_sub (pv 0) pe_int set_list))
      (C8.pss_cut (ps_if (PW.pt (pw_and (pt_cmpR op_eq (pe_ix (ixL_ K) (pv 0) pe_int (fun _ _ => rfl)) pe_int (nomark _)) (pw_and1 (pt_cmpR op_lt (pe_ix (ixL_ K) (pv 0) pe_int (fun _ _ => rfl)) (pe_callB (lenS_ K) (by rfl) T.len b_len (pa_cons (pe_ix (ixL_ K) (pv 0) pe_int (fun _ _ => rfl)) pa_nil)) (nomark _)))))
      (pss_cons (ps_asg (pe_ix (ixL_ K) (pe_ix (ixL_ K) (pv 0) pe_int (fun _ _ => rfl)) (pe_ix (ixL_ K) (pv 0) pe_int (fun _ _ => rfl)) (fun _ _ => rfl)) (pg_sub (pv 0) pe_int set_list))
      (pss_one (ps_asg (pe_op op_add (pe_ix (ixL_ K) (pv 0) pe_int (fun _ _ => rfl)) pe_int) (pg_sub (pv 0) pe_int set_list)))) pss_nil)
      (pss_cons (ps_if (pt_cmpR op_gt (pe_ix (ixL_ K) (pv 0) pe_int (fun _ _ => rfl)) pe_int (nomark _))
      (pss_cons (ps_set (i := 2) sc__law_take.nd rfl (by first | exact Or.inl rfl | exact Or.inr rfl) (pe_op op_mod (pe_callTy call_int1 (by rfl) T.int b_int (pa_cons (pe_ix (ixL_ K) (pv 0) pe_int (fun _ _ => rfl)) pa_nil)) (pv 1)))
      (pss_cons (ps_asg (pe_op op_fdiv (pe_ix (ixL_ K) (pv 0) pe_int (fun _ _ => rfl)) (pv 1)) (pg_sub (pv 0) pe_int set_list))
      (pss_one (ps_ret (pv 2))))) pss_nil)
      (pss_cons (ps_set (i := 3) sc__law_take.nd rfl (by first | exact Or.inl rfl | exact Or.inr rfl) pe_int)
      (C8.pss_cut (ps_if (pt_cmpR op_gt (pe_callB (lenS_ K) (by rfl) T.len b_len (pa_cons (pe_ix (ixL_ K) (pv 0) pe_int (fun _ _ => rfl)) pa_nil)) pe_int (nomark _))
      (pss_one (ps_set (i := 3) sc__law_take.nd rfl (by first | exact Or.inl rfl | exact Or.inr rfl) (pe_ix (ixL_ K) (pe_ix (ixL_ K) (pv 0) pe_int (fun _ _ => rfl)) (pe_op op_mod (pe_ix (ixL_ K) (pv 0) pe_int (fun _ _ => rfl)) (pe_callB (lenS_ K) (by rfl) T.len b_len (pa_cons (pe_ix (ixL_ K) (pv 0) pe_int (fun _ _ => rfl)) pa_nil))) (fun _ _ => rfl)))) pss_nil)
      (pss_cons (ps_set (i := 4) sc__law_take.nd rfl (by first | exact Or.inl rfl | exact Or.inr rfl) (pe_op op_mod (pe_callTy call_int1 (by rfl) T.int b_int (pa_cons (pe_op op_add (pe_op op_add (pe_op op_mul (pv 3) pe_int) (pe_op op_mul (pe_ix (ixL_ K) (pv 0) pe_int (fun _ _ => rfl)) pe_int)) pe_int) pa_nil)) pe_int))
      (pss_cons (ps_set (i := 5) sc__law_take.nd rfl (by first | exact Or.inl rfl | exact Or.inr rfl) (pe_op op_mod (pe_callTy call_int1 (by rfl) T.int b_int (pa_cons (pe_op op_add (pe_op op_add (pe_op op_fdiv (pe_op op_mul (pv 4) (pv 4)) pe_int) (pe_op op_mul (pv 4) pe_int)) (pe_op op_mul (pe_ix (ixL_ K) (pv 0) pe_int (fun _ _ => rfl)) pe_int)) pa_nil)) pe_int))
      (pss_cons (ps_set (i := 6) sc__law_take.nd rfl (by first | exact Or.inl rfl | exact Or.inr rfl) (pe_op op_mod (pe_callTy call_int1 (by rfl) T.int b_int (pa_cons (pe_op op_add (pe_op op_fdiv (pe_op op_mul (pv 5) (pv 5)) pe_int) (pv 4)) pa_nil)) pe_int))
      (pss_one (ps_ret (pe_op op_mod (pe_callTy call_int1 (by rfl) T.int b_int (pa_cons (pv 6) pa_nil)) (pv 1)))))))))))), ?_⟩
    refine ⟨_, rfl, b, _, _, _, rfl, rfl, SqL.of hb, b53, _, _, rfl, rfl, _, rfl, set_at hb (b5x (k := 3) (by decide)) fun H0 s0 h0 => ?_⟩
    have h0 : H0 b = some (.lst (bx5 ga la i1 i2 (i3 + 1))) := h0
    have hg := s0 _ _ nga hg
    have hl := s0 _ _ nla hl
    generalize i3 + 1 = i3 at h0
    refine ⟨fun σ H2 => ∃ v2 v3 v4 v5 v6 : Option V, σ = [some (.ref b), some (.int m), v2, v3, v4, v5, v6] ∧ SB b H H2 ∧ ∃ (i1 i2 : Int), H2 b = some (.lst (bx5 ga la i1 i2 i3)) ∧ H2 ga = some (.lst (gs.map V.int)) ∧ H2 la = some (.lst (ls.map V.int)) ∧ 0 ≤ i1 ∧ 0 ≤ i2, ?_, ?_⟩
    · refine ⟨_, rfl, b, _, _, _, rfl, rfl, SqL.of h0, b52, rfl, _, rfl, ?_⟩
      refine ite2 (fun hz => ?_) (fun _ => ⟨_, _, _, _, _, rfl, s0, i1, i2, h0, hg, hl, j1, j2⟩)
      refine ⟨_, rfl, b, _, _, _, rfl, rfl, SqL.of h0, b51, _, rfl, b, _, _, _, rfl, rfl, SqL.of h0, b50, ga, _, rfl, .inl (SqL.of hg), _, _, rfl, rfl, _, rfl, ?_⟩
      refine ite2 (fun hlt => ?_) (fun _ => ⟨_, _, _, _, _, rfl, s0, i1, i2, h0, hg, hl, j1, j2⟩)
      have lt : i1 < ((gs.map V.int).length : Int) := of_decide_eq_true hlt
      rw [List.length_map] at lt
      obtain ⟨k, rfl⟩ : ∃ k : Nat, i1 = (k : Int) := ⟨i1.toNat, by omega⟩
      have klt : k < gs.length := by omega
      obtain ⟨z, hz⟩ : ∃ z, gs[k]? = some z := ⟨_, List.getElem?_eq_getElem klt⟩
      have hz' : (gs.map V.int)[k]? = some (V.int z) := by rw [List.getElem?_map, hz]; rfl
      refine ⟨_, rfl, b, _, _, _, rfl, rfl, SqL.of h0, b50, _, rfl, b, _, _, _, rfl, rfl, SqL.of h0, b51, ga, _, _, _, rfl, rfl, SqL.of hg, atI_nat hz', _, rfl, set_at h0 (b5x (k := 2) (by decide)) fun H1 s1 h1 => ?_⟩
      have h1 : H1 b = some (.lst (bx5 ga la (k : Int) z i3)) := h1
      refine ⟨_, rfl, b, _, _, _, rfl, rfl, SqL.of h1, b51, _, _, rfl, rfl, _, rfl, set_at h1 (b5x (k := 1) (by decide)) fun H2 s2 h2 => ?_⟩
      exact ⟨_, _, _, _, _, rfl, (s0.trans s1).trans s2, (k : Int) + 1, z, h2, s2 _ _ nga (s1 _ _ nga hg), s2 _ _ nla (s1 _ _ nla hl), by omega, g0 z (List.mem_of_getElem? hz)⟩
    · rintro σ H2 ⟨v2, v3, v4, v5, v6, rfl, s2, i1, i2, h2, hg2, hl2, j1, j2⟩
      refine ⟨_, rfl, b, _, _, _, rfl, rfl, SqL.of h2, b52, _, _, rfl, rfl, _, rfl, ?_⟩
      refine ite2 (fun hpos => ?_) (fun _ => ?_)
      · obtain ⟨d, hd, ed⟩ := mod_nat (i := i2) m1
        refine ⟨_, rfl, b, _, _, _, rfl, rfl, SqL.of h2, b52, .inl ⟨_, rfl, _, rfl, _, _, rfl, rfl, (by show (0 : Int) < (m : Int); omega), ?_⟩⟩
        refine ⟨_, rfl, b, _, _, _, rfl, rfl, SqL.of h2, b52, _, rfl, _, _, rfl, rfl, ⟨(by show (0 : Int) < (m : Int); omega), (by show (m : Int) < 1073741824; omega)⟩, _, rfl, set_at h2 (b5x (k := 2) (by decide)) fun H3 s3 h3 => ?_⟩
        refine ⟨_, rfl, ?_⟩
        show Q (V.int (i2 % (m : Int))) H3
        rw [ed]
        exact q d H3 hd (s2.trans s3) ⟨nga, nla, gs, ls, i1, i2 / (m : Int), i3, h3, s3 _ _ nga hg2, s3 _ _ nla hl2, g0, j1, Int.ediv_nonneg j2 (by omega), lg, ll⟩
      · refine ⟨fun σ H4 => H4 = H2 ∧ ∃ c : Int, σ = [some (.ref b), some (.int m), v2, some (.int c), v4, v5, v6], ?_, ?_⟩
        · refine ⟨_, rfl, b, _, _, _, rfl, rfl, SqL.of h2, b54, la, _, rfl, .inl (SqL.of hl2), _, _, rfl, rfl, _, rfl, ?_⟩
          refine ite2 (fun hp => ?_) (fun _ => ⟨rfl, _, rfl⟩)
          have lp : (0 : Int) < ((ls.map V.int).length : Int) := of_decide_eq_true hp
          rw [List.length_map] at lp
          obtain ⟨k, hk, ek⟩ := mod_nat (i := i3) (m := ls.length) (by omega)
          obtain ⟨z, hz⟩ : ∃ z, ls[k]? = some z := ⟨_, List.getElem?_eq_getElem hk⟩
          have hz' : (ls.map V.int)[k]? = some (V.int z) := by rw [List.getElem?_map, hz]; rfl
          refine ⟨_, rfl, b, _, _, _, rfl, rfl, SqL.of h2, b54, _, rfl, b, _, _, _, rfl, rfl, SqL.of h2, b53, _, rfl, b, _, _, _, rfl, rfl, SqL.of h2, b54, la, _, rfl, .inl (SqL.of hl2), _, _, rfl, rfl, (by rw [List.length_map]; exact lp), la, _, _, _, rfl, rfl, SqL.of hl2, (by rw [List.length_map, ek]; exact atI_nat hz'), rfl, _, rfl⟩
        rintro σ H4 ⟨rfl, c, rfl⟩
        refine ⟨_, rfl, _, _, rfl, rfl, .inr ⟨by decide, by decide⟩, _, rfl, b, _, _, _, rfl, rfl, SqL.of h2, b53, _, _, rfl, rfl, .inr ⟨by decide, by decide⟩, _, _, rfl, rfl, _, _, rfl, rfl, .inl ⟨_, rfl, _, _, rfl, rfl, (by show (0 : Int) < 2147483647; decide), ?_⟩⟩
        refine ⟨_, rfl, _, rfl, _, _, rfl, rfl, .inr (rem_small _ (by decide) (by decide)), _, _, rfl, rfl, ⟨by decide, by decide⟩, _, rfl, _, _, rfl, rfl, .inr ⟨by decide, by decide⟩, _, _, rfl, rfl, _, rfl, b, _, _, _, rfl, rfl, SqL.of h2, b53, _, _, rfl, rfl, .inr ⟨by decide, by decide⟩, _, _, rfl, rfl, .inl ⟨_, rfl, _, _, rfl, rfl, (by show (0 : Int) < 2147483629; decide), ?_⟩⟩
        refine ⟨_, rfl, _, rfl, _, _, rfl, rfl, .inr (rem_small _ (by decide) (by decide)), _, _, rfl, rfl, ⟨by decide, by decide⟩, _, rfl, _, _, rfl, rfl, .inl ⟨_, rfl, _, _, rfl, rfl, (by show (0 : Int) < 2147483587; decide), ?_⟩⟩
        refine ⟨_, rfl, .inl ⟨_, rfl, _, rfl, _, _, rfl, rfl, (by show (0 : Int) < (m : Int); omega), ?_⟩⟩
        generalize _ % (2147483587 : Int) = r
        obtain ⟨d, hd, ed⟩ := mod_nat (i := r) m1
        show Q (V.int (r % (m : Int))) H4
        rw [ed]
        exact q d H4 hd s2 ⟨nga, nla, gs, ls, i1, i2, i3, h2, hg2, hl2, g0, j1, j2, lg, ll⟩
end
end Hue

end
section
set_option maxRecDepth 100000
set_option maxHeartbeats 4000000
namespace Hue
open PySem PySem.Spec PyProof.Rows L2
section
variable {P : Program} {w : World} {K : PySem.W.Frag} {mg : Str → Option Value} {base : Heap} {C : Addr}
theorem Pairs.sb {H H' : Hp} {p : Addr} {xs : List V} {ts : List Addr} {ps : List (Nat × Nat)} (h : Pairs H ts ps) (hp : H p = some (.lst xs)) (s : SB p H H') : Pairs H' ts ps :=
  ⟨h.1, fun i t q a b => s _ _ (ne_of (h.2 i t q a b) hp (by intro z; cases z)) (h.2 i t q a b)⟩
theorem none_back {H H' : Hp} {a b : Addr} (s : SB b H H') (ne : a ≠ b) (n : H' a = Option.none) : H a = Option.none := by
  cases e : H a with
  | none => rfl
  | some o => rw [s _ _ ne e] at n; cases n
theorem nL_take (l : List Nat) (k : Nat) : (nL l).take k = nL (l.take k) := by unfold nL nI; rw [← List.map_take, ← List.map_take]
theorem nL_drop (l : List Nat) (k : Nat) : (nL l).drop k = nL (l.drop k) := by unfold nL nI; rw [← List.map_drop, ← List.map_drop]
theorem rg_nL (n : Nat) : rgV 0 (n : Int) = nL (List.range n) := by
  unfold rgV nL nI
  rw [List.map_map]
  have e : ((n : Int) - 0).toNat = n := by omega
  rw [e]
  refine List.map_congr_left fun i _ => ?_
  show V.int (0 + (i : Int)) = V.int (i : Int)
  rw [Int.zero_add]
theorem seqI_nat {n k : Nat} (h : k < n) : seqIndex? (k : Int) n = some k := by
  rw [PySem.seqIndex_of (by omega) (by omega)]; rfl
/-! ### the sizes -/
abbrev s__law_sizes : Stmt := top 35
theorem sc__law_sizes : FnScope ["box", "count", "hues"] ["box"] (defScope s__law_sizes) := ⟨rfl, rfl, rfl, by decide +kernel, rfl, by decide +kernel, by decide +kernel⟩
-- slots of _law_sizes: 0 box, 1 count, 2 hues
def spSizes : Sp := fun vs H Q _ => ∃ (b ga la : Addr), vs = [.ref b] ∧ Bx H b ga la ∧ ∀ (n h : Nat) (t : Addr) (H' : Hp), 1 ≤ n → n ≤ 16 → 2 ≤ h → h ≤ 10 → SB b H H' → Bx H' b ga la → H' t = some (.tup [.int (n : Nat), .int (h : Nat)]) → Q (.ref t) H'
theorem ok__law_sizes (T : Txt K mg C) {f : Addr} {fd : FuncData} (F : Fun K "_law_sizes" "_law_sizes" s__law_sizes f fd) (c__law_take : Cal P w K mg base "_law_take" 1 spTake) : FnOk P w K mg base CX0 2 f fd ["box"] spSizes := by
  refine F.ok sc__law_sizes (fun vs H Q E h => ?_) (fun cdv A outer s H vs Q E hr h => ?_)
  · obtain ⟨b, ga, la, rfl, _⟩ := h; rfl
  · obtain ⟨b, ga, la, rfl, hb, q⟩ := h
    refine ⟨_, (pss_cons (ps_set (i := 1) sc__law_sizes.nd rfl (by first | exact Or.inl rfl | exact Or.inr rfl) (pe_op op_add pe_int (pe_cal c__law_take (hr.mono (by decide)) (pa_cons (pv 0) (pa_cons pe_int pa_nil)))))
      (C8.pss_cut (ps_if (pt_cmpR op_eq (pe_cal c__law_take (hr.mono (by decide)) (pa_cons (pv 0) (pa_cons pe_int pa_nil))) pe_int (nomark _))
      (pss_one (ps_set (i := 1) sc__law_sizes.nd rfl (by first | exact Or.inl rfl | exact Or.inr rfl) (pe_op op_add pe_int (pe_cal c__law_take (hr.mono (by decide)) (pa_cons (pv 0) (pa_cons pe_int pa_nil)))))) pss_nil)
      (pss_cons (ps_set (i := 2) sc__law_sizes.nd rfl (by first | exact Or.inl rfl | exact Or.inr rfl) (pe_op op_add pe_int (pe_cal c__law_take (hr.mono (by decide)) (pa_cons (pv 0) (pa_cons pe_int pa_nil)))))
      (C8.pss_cut (ps_if (pt_cmpR op_eq (pe_cal c__law_take (hr.mono (by decide)) (pa_cons (pv 0) (pa_cons pe_int pa_nil))) pe_int (nomark _))
      (pss_one (ps_set (i := 2) sc__law_sizes.nd rfl (by first | exact Or.inl rfl | exact Or.inr rfl) (pe_op op_add pe_int (pe_cal c__law_take (hr.mono (by decide)) (pa_cons (pv 0) (pa_cons pe_int pa_nil)))))) pss_nil)
      (pss_one (ps_ret (pe_tup (pa_cons (pv 1) (pa_cons (pv 2) pa_nil))))))))), ?_⟩
    refine ⟨_, rfl, b, ga, la, 6, rfl, by decide, by decide, hb, fun d H1 hd s1 b1 => ⟨_, _, rfl, rfl, ?_⟩⟩
    refine ⟨fun σ H2 => ∃ (i : Int) (v2 : Option V), σ = [some (.ref b), some (.int i), v2] ∧ ∃ n : Nat, i = (n : Int) ∧ 1 ≤ n ∧ n ≤ 16 ∧ SB b H H2 ∧ Bx H2 b ga la, ?_, ?_⟩
    · refine ⟨_, rfl, b, ga, la, 4, rfl, by decide, by decide, b1, fun e H2 he s2 b2 => ⟨rfl, _, rfl, ?_⟩⟩
      refine ite2 (fun _ => ?_) (fun _ => ⟨_, _, rfl, d + 1, by omega, by omega, by omega, s1.trans s2, b2⟩)
      exact ⟨_, rfl, b, ga, la, 16, rfl, by decide, by decide, b2, fun e H3 he s3 b3 => ⟨_, _, rfl, rfl, _, _, rfl, e + 1, by omega, by omega, by omega, (s1.trans s2).trans s3, b3⟩⟩
    rintro σ H2 ⟨_, v2, rfl, n, rfl, n1, n16, s2, b2⟩
    refine ⟨_, rfl, b, ga, la, 3, rfl, by decide, by decide, b2, fun d H3 hd s3 b3 => ⟨_, _, rfl, rfl, ?_⟩⟩
    refine ⟨fun σ H4 => ∃ (i : Int), σ = [some (.ref b), some (.int (n : Nat)), some (.int i)] ∧ ∃ h : Nat, i = (h : Int) ∧ 2 ≤ h ∧ h ≤ 10 ∧ SB b H H4 ∧ Bx H4 b ga la, ?_, ?_⟩
    · refine ⟨_, rfl, b, ga, la, 4, rfl, by decide, by decide, b3, fun e H4 he s4 b4 => ⟨rfl, _, rfl, ?_⟩⟩
      refine ite2 (fun _ => ?_) (fun _ => ⟨_, rfl, d + 2, by omega, by omega, by omega, (s2.trans s3).trans s4, b4⟩)
      exact ⟨_, rfl, b, ga, la, 9, rfl, by decide, by decide, b4, fun e H5 he s5 b5 => ⟨_, _, rfl, rfl, _, rfl, e + 2, by omega, by omega, by omega, ((s2.trans s3).trans s4).trans s5, b5⟩⟩
    rintro σ H4 ⟨_, rfl, h, rfl, h2, h10, s4, b4⟩
    refine ⟨_, rfl, _, rfl, by show 2 ≤ sizeLine; decide, fun t nt => ?_⟩
    exact q n h t _ n1 n16 h2 h10 (s4.trans (SB.of (same_new nt))) (b4.same (same_new nt)) upd_same
/-! ### the row of the lamps -/
def LineOk (n : Nat) (line : List Nat) : Prop := line.length = n ∧ line.Nodup ∧ ∀ k ∈ line, k < n
abbrev s__law_row : Stmt := top 36
theorem sc__law_row : FnScope ["box", "count", "left", "row", "k"] ["box", "count"] (defScope s__law_row) := ⟨rfl, rfl, rfl, by decide +kernel, rfl, by decide +kernel, by decide +kernel⟩
-- slots of _law_row: 0 box, 1 count, 2 left, 3 row, 4 k
def spRow : Sp := fun vs H Q _ => ∃ (b ga la : Addr) (n : Nat), vs = [.ref b, .int n] ∧ n ≤ 16 ∧ Bx H b ga la ∧ ∀ (line : List Nat) (t : Addr) (H' : Hp), LineOk n line → SB b H H' → Bx H' b ga la → H t = Option.none → H' t = some (.lst (nL line)) → Q (.ref t) H'
theorem ok__law_row (T : Txt K mg C) {f : Addr} {fd : FuncData} (F : Fun K "_law_row" "_law_row" s__law_row f fd) (c__law_take : Cal P w K mg base "_law_take" 1 spTake) : FnOk P w K mg base CX0 2 f fd ["box", "count"] spRow := by
  refine F.ok sc__law_row (fun vs H Q E h => ?_) (fun cdv A outer s H vs Q E hr h => ?_)
  · obtain ⟨b, ga, la, n, rfl, _⟩ := h; rfl
  · obtain ⟨b, ga, la, n, rfl, n16, hb, q⟩ := h
    refine ⟨_, (pss_cons (ps_set (i := 2) sc__law_row.nd rfl (by first | exact Or.inl rfl | exact Or.inr rfl) (pe_listRg rfl (by rfl) T.list (prg_1 (by rfl) T.range (pv 1))))
      (pss_cons (ps_set (i := 3) sc__law_row.nd rfl (by first | exact Or.inl rfl | exact Or.inr rfl) (pe_lst pa_nil))
      (pss_cons (ps_for PassesOwn.never rfl (pi_range1 (by rfl) T.range (pa_cons (pv 1) pa_nil)) (pg_name (i := 4) sc__law_row.nd rfl (by first | exact Or.inl rfl | exact Or.inr rfl))
      (pss_one (ps_expr (pe_bm PySem.F.plainAttrs_list PySem.F.slot_list_append PySem.F.type_list_append mt_append (pv 3) (pa_cons (pe_bm PySem.F.plainAttrs_list PySem.F.slot_list_pop PySem.F.type_list_pop mt_popAt (pv 2) (pa_cons (pe_cal c__law_take (hr.mono (by decide)) (pa_cons (pv 0) (pa_cons (pe_callB (lenS_ K) (by rfl) T.len b_len (pa_cons (pv 2) pa_nil)) pa_nil))) pa_nil)) pa_nil)))))
      (pss_one (ps_ret (pv 3)))))), ?_⟩
    refine ⟨_, rfl, _, rfl, RgOk.of_le (by decide) (by omega) (by decide) (by omega), fun l nl => ?_⟩
    rw [rg_nL]
    obtain ⟨lb, lg, ll⟩ := hb.new nl
    have s1 : Same H (upd H l (.lst (nL (List.range n)))) := same_new nl
    have hl1 : (upd H l (.lst (nL (List.range n)))) l = some (.lst (nL (List.range n))) := upd_same
    have b1 := hb.same s1
    generalize upd H l (.lst (nL (List.range n))) = H1 at s1 hl1 b1 ⊢
    refine ⟨by decide, fun r nr => ?_⟩
    obtain ⟨rb, rg, rl⟩ := b1.new nr
    have rnl : r ≠ l := (ne_of_none hl1 nr).symm
    have nr0 := s1.free nr
    have s2 : Same H1 (upd H1 r (.lst [])) := same_new nr
    refine ⟨_, rfl, _, rfl, by omega, by omega, ?_⟩
    rw [Int.toNat_natCast]
    refine for_range (fun i σ H2 => ∃ (v : Option V) (left row : List Nat), σ = [some (.ref b), some (.int n), some (.ref l), some (.ref r), v] ∧ SB b H H2 ∧ Bx H2 b ga la ∧ H2 l = some (.lst (nL left)) ∧ H2 r = some (.lst (nL row)) ∧ (left ++ row).Perm (List.range n) ∧ row.length = i)
      ⟨_, List.range n, [], rfl, SB.of (s1.trans s2), b1.same s2, s2 _ _ hl1, upd_same, by rw [List.append_nil], rfl⟩ ?_ ?_
    · rintro i σ H2 hi ⟨v, left, row, rfl, sb2, b2, hl2, hr2, perm, len⟩
      have tot : left.length + row.length = n := by rw [← List.length_append, perm.length_eq, List.length_range]
      refine ⟨_, rfl, .inl ⟨rfl, _, SqL.of hr2⟩, _, rfl, .inl ⟨rfl, _, SqL.of hl2⟩, _, rfl, _, rfl, l, _, rfl, .inl (SqL.of hl2), b, ga, la, left.length, by rw [nL_len], by omega, by omega, b2, fun d H3 hd s3 b3 => ?_⟩
      have hl3 := s3 _ _ lb hl2
      have hr3 := s3 _ _ rb hr2
      obtain ⟨k, hk⟩ : ∃ k, left[d]? = some k := ⟨_, List.getElem?_eq_getElem hd⟩
      refine ⟨l, nL left, (d : Int), d, V.int (k : Nat), rfl, rfl, hl3, by omega, by omega, seqI_nat (by rw [nL_len]; exact hd), nL_get hk, ?_⟩
      refine ⟨r, nL row, _, rfl, rfl, by rw [upd_ne rnl]; exact hr3, by rw [nL_len, sizeLine_eq]; omega, ?_⟩
      rw [nL_erase, ← nL_one, ← nL_app]
      refine ⟨_, left.eraseIdx d, row ++ [k], rfl, fun a o na e => ?_, (b3.upd lb lg ll).upd rb rg rl, by rw [upd_ne rnl.symm, upd_same], upd_same, ?_, by rw [List.length_append, len]; rfl⟩
      · rw [upd_ne (ne_of_none e nr0), upd_ne (ne_of_none e nl)]
        exact (sb2.trans s3) a o na e
      · have p1 : (left.eraseIdx d ++ [k]).Perm left := by
          obtain ⟨e1, e2⟩ := List.getElem?_eq_some_iff.mp hk
          have e3 : left = left.take d ++ k :: left.drop (d + 1) := by
            rw [← e2, ← List.drop_eq_getElem_cons e1, List.take_append_drop]
          rw [List.eraseIdx_eq_take_drop_succ]
          conv => rhs; rw [e3]
          rw [List.append_assoc]
          exact List.Perm.append_left _ (List.perm_append_comm (l₁ := left.drop (d + 1)) (l₂ := [k]))
        have p2 : (left.eraseIdx d ++ (row ++ [k])).Perm (left ++ row) := by
          refine (List.Perm.append_left _ List.perm_append_comm).trans ?_
          rw [← List.append_assoc]
          exact p1.append_right _
        exact p2.trans perm
    · rintro σ H2 ⟨v, left, row, rfl, sb2, b2, hl2, hr2, perm, len⟩
      have tot : left.length + row.length = n := by rw [← List.length_append, perm.length_eq, List.length_range]
      have l0 : left = [] := List.length_eq_zero_iff.mp (by omega)
      rw [l0, List.nil_append] at perm
      exact ⟨_, rfl, q row r H2 ⟨len, perm.nodup_iff.mpr List.nodup_range, fun k hk => List.mem_range.mp (perm.mem_iff.mp hk)⟩ sb2 b2 nr0 hr2⟩
/-! ### the wires -/
/-- the pairs lead down the line, all drawn before (lo, hi) -/
def DownI (line : List Nat) (lo hi : Nat) (ps : List (Nat × Nat)) : Prop := ∀ p ∈ ps, ∃ h l, h < l ∧ (l < lo ∨ (l = lo ∧ h < hi)) ∧ line[h]? = some p.1 ∧ line[l]? = some p.2
def Down (line : List Nat) (ps : List (Nat × Nat)) : Prop := ∀ p ∈ ps, ∃ h l : Nat, h < l ∧ line[h]? = some p.1 ∧ line[l]? = some p.2
def Tri : Nat → Nat
  | 0 => 0
  | k + 1 => Tri k + k
theorem tri16 : ∀ n, n ≤ 16 → Tri n < 121 := by decide
theorem tri_mono {a b : Nat} (h : a ≤ b) : Tri a ≤ Tri b := by
  induction h with
  | refl => exact Nat.le_refl _
  | step _ ih => exact Nat.le_trans ih (Nat.le_add_right _ _)
theorem nodup_at {l : List Nat} (nd : l.Nodup) {i j k : Nat} (h1 : l[i]? = some k) (h2 : l[j]? = some k) : i = j := by
  obtain ⟨a1, a2⟩ := List.getElem?_eq_some_iff.mp h1
  obtain ⟨b1, b2⟩ := List.getElem?_eq_some_iff.mp h2
  rcases Nat.lt_trichotomy i j with h | h | h
  · exact absurd (a2.trans b2.symm) (List.pairwise_iff_getElem.mp nd i j a1 b1 h)
  · exact h
  · exact absurd (b2.trans a2.symm) (List.pairwise_iff_getElem.mp nd j i b1 a1 h)
theorem Pairs.app {H : Hp} {as bs : List Addr} {ps qs : List (Nat × Nat)} (h : Pairs H as ps) (g : Pairs H bs qs) : Pairs H (as ++ bs) (ps ++ qs) := by
  refine ⟨by rw [List.length_append, List.length_append, h.1, g.1], fun i t p e1 e2 => ?_⟩
  rcases Nat.lt_or_ge i as.length with lt | ge
  · rw [List.getElem?_append_left lt] at e1
    rw [List.getElem?_append_left (by rw [← h.1]; exact lt)] at e2
    exact h.2 i t p e1 e2
  · rw [List.getElem?_append_right ge] at e1
    rw [List.getElem?_append_right (by rw [← h.1]; exact ge), ← h.1] at e2
    exact g.2 _ t p e1 e2
theorem Pairs.take {H : Hp} {as : List Addr} {ps : List (Nat × Nat)} (h : Pairs H as ps) (d : Nat) : Pairs H (as.take d) (ps.take d) := by
  refine ⟨by rw [List.length_take, List.length_take, h.1], fun i t p e1 e2 => ?_⟩
  rw [List.getElem?_take] at e1 e2
  split at e1
  · rw [if_pos (by assumption)] at e2
    exact h.2 i t p e1 e2
  · cases e1
theorem Pairs.drop {H : Hp} {as : List Addr} {ps : List (Nat × Nat)} (h : Pairs H as ps) (d : Nat) : Pairs H (as.drop d) (ps.drop d) := by
  refine ⟨by rw [List.length_drop, List.length_drop, h.1], fun i t p e1 e2 => ?_⟩
  rw [List.getElem?_drop] at e1 e2
  exact h.2 _ t p e1 e2
theorem Pairs.one {H : Hp} {t : Addr} {p : Nat × Nat} (h : H t = some (.tup [.int (p.1 : Int), .int (p.2 : Int)])) : Pairs H [t] [p] := by
  refine ⟨rfl, fun i t' p' e1 e2 => ?_⟩
  match i with
  | 0 => cases e1; cases e2; exact h
  | i + 1 => cases e1
/-- the wires so far -/
structure WBox (H0 H : Hp) (b ga la wz : Addr) (line : List Nat) (lo hi : Nat) : Prop where
  sb : SB b H0 H
  box : Bx H b ga la
  ne : wz ≠ b
  ng : wz ≠ ga
  nl : wz ≠ la
  new : H0 wz = Option.none
  ex : ∃ (ts : List Addr) (ps : List (Nat × Nat)), H wz = some (.lst (ts.map V.ref)) ∧ Pairs H ts ps ∧ DownI line lo hi ps ∧ ps.Nodup ∧ ps.length ≤ Tri lo + hi
namespace WBox
variable {H0 H H' : Hp} {b ga la wz : Addr} {line : List Nat} {lo hi : Nat}
theorem draw (h : WBox H0 H b ga la wz line lo hi) (s : SB b H H') (box : Bx H' b ga la) : WBox H0 H' b ga la wz line lo hi := by
  obtain ⟨xs, hp⟩ := h.box.at'
  obtain ⟨ts, ps, a, c, r⟩ := h.ex
  exact ⟨h.sb.trans s, box, h.ne, h.ng, h.nl, h.new, ts, ps, s _ _ h.ne a, c.sb hp s, r⟩
theorem row (h : WBox H0 H b ga la wz line lo hi) (le : hi ≤ lo) : WBox H0 H b ga la wz line (lo + 1) 0 := by
  obtain ⟨ts, ps, a, b, c, d, e⟩ := h.ex
  refine ⟨h.sb, h.box, h.ne, h.ng, h.nl, h.new, ts, ps, a, b, fun q hq => ?_, d, ?_⟩
  · obtain ⟨x, y, h1, h2, h3⟩ := c q hq
    exact ⟨x, y, h1, by omega, h3⟩
  · show ps.length ≤ Tri lo + lo + 0
    omega
theorem upto (h : WBox H0 H b ga la wz line lo hi) {hj : Nat} (le : hi ≤ hj) : WBox H0 H b ga la wz line lo hj := by
  obtain ⟨ts, ps, a, b, c, d, e⟩ := h.ex
  refine ⟨h.sb, h.box, h.ne, h.ng, h.nl, h.new, ts, ps, a, b, fun q hq => ?_, d, by omega⟩
  obtain ⟨x, y, h1, h2, h3⟩ := c q hq
  exact ⟨x, y, h1, by omega, h3⟩
/-- one more at the place d -/
theorem ins (W : WBox H0 H b ga la wz line lo hi) (lnd : line.Nodup) {k1 k2 : Nat} (lt : hi < lo) (hk1 : line[hi]? = some k1) (hk2 : line[lo]? = some k2) {t : Addr} (nt : H t = Option.none) {ts : List Addr} {ps : List (Nat × Nat)} (d : Nat)
    (hw : H wz = some (.lst (ts.map V.ref))) (hps : Pairs H ts ps) (dn : DownI line lo hi ps) (nd : ps.Nodup) (len : ps.length ≤ Tri lo + hi) :
    WBox H0 (L2.upd (L2.upd H t (.tup [.int (k1 : Int), .int (k2 : Int)])) wz (.lst ((ts.map V.ref).take d ++ [V.ref t] ++ (ts.map V.ref).drop d))) b ga la wz line lo (hi + 1) := by
  have s11 : Same H (L2.upd H t (.tup [.int (k1 : Int), .int (k2 : Int)])) := same_new nt
  have nwt : t ≠ wz := (ne_of_none hw nt).symm
  have perm : (ps.take d ++ ([(k1, k2)] ++ ps.drop d)).Perm ((k1, k2) :: ps) := by
    have h := List.perm_middle (a := (k1, k2)) (l₁ := ps.take d) (l₂ := ps.drop d)
    rw [List.take_append_drop] at h
    exact h
  have keep : ∀ (as : List Addr) (qs : List (Nat × Nat)), Pairs (L2.upd H t (.tup [.int (k1 : Int), .int (k2 : Int)])) as qs → Pairs (L2.upd (L2.upd H t (.tup [.int (k1 : Int), .int (k2 : Int)])) wz (.lst ((ts.map V.ref).take d ++ [V.ref t] ++ (ts.map V.ref).drop d))) as qs := fun as qs h =>
    h.sb (s11 _ _ hw) fun c o n e => by rw [upd_ne n]; exact e
  refine ⟨fun c o nb e => ?_, (W.box.same s11).upd W.ne W.ng W.nl, W.ne, W.ng, W.nl, W.new, ts.take d ++ ([t] ++ ts.drop d), ps.take d ++ ([(k1, k2)] ++ ps.drop d), ?_, ?_, ?_, ?_, ?_⟩
  · rw [upd_ne (ne_of_none e W.new)]
    exact s11 _ _ (W.sb c o nb e)
  · rw [upd_same, List.map_append, List.map_append, List.map_take, List.map_drop, List.append_assoc]; rfl
  · exact keep _ _ (((hps.same s11).take d).app ((Pairs.one (p := (k1, k2)) upd_same).app ((hps.same s11).drop d)))
  · intro r hr
    rcases List.mem_cons.mp (perm.mem_iff.mp hr) with hr | hr
    · rw [hr]
      exact ⟨hi, lo, lt, .inr ⟨rfl, Nat.lt_succ_self _⟩, hk1, hk2⟩
    · obtain ⟨x, y, h1, h2, h3⟩ := dn r hr
      exact ⟨x, y, h1, by omega, h3⟩
  · rw [perm.nodup_iff, List.nodup_cons]
    refine ⟨fun hr => ?_, nd⟩
    obtain ⟨x, y, h1, h2, h3, h4⟩ := dn _ hr
    have e1 := nodup_at lnd h3 hk1
    have e2 := nodup_at lnd h4 hk2
    omega
  · rw [perm.length_eq, List.length_cons]; omega
end WBox
abbrev s__law_wires : Stmt := top 37
theorem sc__law_wires : FnScope ["box", "row", "thick", "wires", "low", "high"] ["box", "row"] (defScope s__law_wires) := ⟨rfl, rfl, rfl, by decide +kernel, rfl, by decide +kernel, by decide +kernel⟩
-- slots of _law_wires: 0 box, 1 row, 2 thick, 3 wires, 4 low, 5 high
def spWires : Sp := fun vs H Q _ => ∃ (b ga la a : Addr) (n : Nat) (line : List Nat), vs = [.ref b, .ref a] ∧ n ≤ 16 ∧ LineOk n line ∧ Bx H b ga la ∧ a ≠ b ∧ H a = some (.lst (nL line)) ∧
  ∀ (ts : List Addr) (ps : List (Nat × Nat)) (t : Addr) (H' : Hp), Down line ps → ps.Nodup → ps.length < 121 → SB b H H' → Bx H' b ga la → H t = Option.none → H' t = some (.lst (ts.map V.ref)) → Pairs H' ts ps → Q (.ref t) H'
theorem ok__law_wires (T : Txt K mg C) {f : Addr} {fd : FuncData} (F : Fun K "_law_wires" "_law_wires" s__law_wires f fd) (c__law_take : Cal P w K mg base "_law_take" 1 spTake) : FnOk P w K mg base CX0 2 f fd ["box", "row"] spWires := by
  refine F.ok sc__law_wires (fun vs H Q E h => ?_) (fun cdv A outer s H vs Q E hr h => ?_)
  · obtain ⟨b, ga, la, a, n, line, rfl, _⟩ := h; rfl
  · obtain ⟨b, ga, la, a, n, line, rfl, n16, ⟨ll, lnd, llt⟩, hb, nab, ha, q⟩ := h
    refine ⟨_, (pss_cons (ps_set (i := 2) sc__law_wires.nd rfl (by first | exact Or.inl rfl | exact Or.inr rfl) (pe_cal c__law_take (hr.mono (by decide)) (pa_cons (pv 0) (pa_cons pe_int pa_nil))))
      (pss_cons (ps_set (i := 3) sc__law_wires.nd rfl (by first | exact Or.inl rfl | exact Or.inr rfl) (pe_lst pa_nil))
      (pss_cons (ps_for PassesOwn.never rfl (pi_range1 (by rfl) T.range (pa_cons (pe_callB (lenS_ K) (by rfl) T.len b_len (pa_cons (pv 1) pa_nil)) pa_nil)) (pg_name (i := 4) sc__law_wires.nd rfl (by first | exact Or.inl rfl | exact Or.inr rfl))
      (pss_one (ps_for PassesOwn.never rfl (pi_range1 (by rfl) T.range (pa_cons (pv 4) pa_nil)) (pg_name (i := 5) sc__law_wires.nd rfl (by first | exact Or.inl rfl | exact Or.inr rfl))
      (pss_one (ps_if (pt_cmpR op_lt (pe_cal c__law_take (hr.mono (by decide)) (pa_cons (pv 0) (pa_cons pe_int pa_nil))) (pv 2) (nomark _))
      (pss_one (ps_expr (pe_bm PySem.F.plainAttrs_list PySem.F.slot_list_insert PySem.F.type_list_insert mt_insert (pv 3) (pa_cons (pe_cal c__law_take (hr.mono (by decide)) (pa_cons (pv 0) (pa_cons (pe_op op_add (pe_callB (lenS_ K) (by rfl) T.len b_len (pa_cons (pv 3) pa_nil)) pe_int) pa_nil))) (pa_cons (pe_tup (pa_cons (pe_ix (ixL_ K) (pv 1) (pv 5) (fun _ _ => rfl)) (pa_cons (pe_ix (ixL_ K) (pv 1) (pv 4) (fun _ _ => rfl)) pa_nil))) pa_nil))))) pss_nil)))))
      (pss_one (ps_ret (pv 3)))))), ?_⟩
    refine ⟨_, rfl, b, ga, la, 6, rfl, by decide, by decide, hb, fun sh H1 hsh s1 b1 => ?_⟩
    refine ⟨by decide, fun wz nw => ?_⟩
    obtain ⟨nwb, nwg, nwl⟩ := b1.new nw
    have hw0 : H wz = Option.none := none_back s1 nwb nw
    have W0 : WBox H (upd H1 wz (.lst [])) b ga la wz line 0 0 := ⟨s1.trans (SB.of (same_new nw)), b1.same (same_new nw), nwb, nwg, nwl, hw0, [], [], upd_same, ⟨rfl, fun i t q h => by simp at h⟩, fun q hq => absurd hq List.not_mem_nil, List.nodup_nil, Nat.zero_le _⟩
    generalize upd H1 wz (.lst []) = H2 at W0 ⊢
    refine ⟨_, rfl, a, _, rfl, .inl (SqL.of (W0.sb _ _ nab ha)), _, rfl, by rw [nL_len, ll]; omega, by rw [nL_len, ll]; omega, ?_⟩
    have en : (((nL line).length : Int)).toNat = n := by rw [nL_len, ll]; omega
    rw [en]
    refine for_range (fun i σ H4 => ∃ v4 v5 : Option V, σ = [some (.ref b), some (.ref a), some (.int sh), some (.ref wz), v4, v5] ∧ WBox H H4 b ga la wz line i 0)
      ⟨_, _, rfl, W0⟩ ?_ ?_
    · rintro lo σ H4 hi ⟨v4, v5, rfl, W4⟩
      have e0 : (0 : Int) + (lo : Int) = (lo : Int) := by omega
      rw [e0]
      have tri := tri16 lo (by omega)
      obtain ⟨k2, hk2⟩ : ∃ k, line[lo]? = some k := ⟨_, List.getElem?_eq_getElem (by omega)⟩
      refine ⟨_, rfl, _, rfl, by omega, by omega, ?_⟩
      rw [Int.toNat_natCast]
      refine for_range (fun j σ H7 => ∃ v5 : Option V, σ = [some (.ref b), some (.ref a), some (.int sh), some (.ref wz), some (.int lo), v5] ∧ WBox H H7 b ga la wz line lo j) ⟨_, rfl, W4⟩ ?_ ?_
      · rintro j σ H7 hj ⟨v5, rfl, W7⟩
        have e0 : (0 : Int) + (j : Int) = (j : Int) := by omega
        rw [e0]
        refine ⟨_, rfl, b, ga, la, 5, rfl, by decide, by decide, W7.box, fun d H8 _ s8 b8 => ⟨_, rfl, _, _, rfl, rfl, _, rfl, ?_⟩⟩
        have W8 := W7.draw s8 b8
        refine ite2 (fun _ => ?_) (fun _ => ⟨_, rfl, W8.upto (Nat.le_succ j)⟩)
        obtain ⟨ts, ps, hw, hps, dn, nd, len⟩ := W8.ex
        obtain ⟨k1, hk1⟩ : ∃ k, line[j]? = some k := ⟨_, List.getElem?_eq_getElem (by omega)⟩
        have lts : (ts.map V.ref).length = ps.length := by rw [List.length_map, hps.1]
        have e1 : ((ts.map V.ref).length : Int) + 1 = ((ps.length + 1 : Nat) : Int) := by rw [lts]; omega
        refine ⟨_, rfl, .inl ⟨rfl, _, SqL.of hw⟩, _, rfl, _, rfl, wz, _, rfl, .inl (SqL.of hw), _, _, rfl, rfl, b, ga, la, ps.length + 1, by rw [← e1], by omega, by omega, W8.box, fun d2 H9 hd2 s9 b9 => ?_⟩
        have W9 := W8.draw s9 b9
        obtain ⟨xs, hbx⟩ := W8.box.at'
        have hw9 := s9 _ _ W8.ne hw
        have hps9 := hps.sb hbx s9
        have ha9 := W9.sb _ _ nab ha
        refine ⟨_, rfl, _, rfl, a, _, _, _, rfl, rfl, SqL.of ha9, atI_nat (nL_get hk1), _, rfl, _, rfl, a, _, _, _, rfl, rfl, SqL.of ha9, atI_nat (nL_get hk2), by show 2 ≤ sizeLine; decide, fun t nt => ?_⟩
        refine ⟨wz, ts.map V.ref, (d2 : Int), V.ref t, rfl, rfl, same_new nt _ _ hw9, by rw [lts, sizeLine_eq]; omega, by omega, by omega, ?_⟩
        rw [Int.toNat_natCast]
        refine ⟨_, rfl, ?_⟩
        have := W9.ins lnd hj hk1 hk2 nt d2 hw9 hps9 dn nd len
        exact this
      · rintro σ H7 ⟨v5, rfl, W7⟩
        exact ⟨_, _, rfl, W7.row (Nat.le_refl lo)⟩
    · rintro σ H4 ⟨v4, v5, rfl, W4⟩
      obtain ⟨ts, ps, hw, hps, dn, nd, len⟩ := W4.ex
      have tri := tri16 n n16
      exact ⟨_, rfl, q ts ps wz H4 (fun r hr => let ⟨x, y, h1, _, h2⟩ := dn r hr; ⟨x, y, h1, h2⟩) nd (by omega) W4.sb W4.box hw0 hw hps⟩
end
end Hue

end
section
set_option maxRecDepth 100000
set_option maxHeartbeats 4000000
namespace Hue
open PySem PySem.Spec PyProof.Rows L2
section
variable {P : Program} {w : World} {K : PySem.W.Frag} {mg : Str → Option Value} {base : Heap} {C : Addr}
/-! ### odd lamps -/
/-- an odd value whose repr is short -/
inductive Od (H : Hp) : V → PyData → Prop
  | int (i : Int) (h0 : -100 < i) (h1 : i < 100) : Od H (.int i) (.int i)
  | bl (b : Bool) : Od H (.bl b) (.bool b)
  | non : Od H .non .none
  | str (k : Nat) (h : k < 16) : Od H (.str (toString (k : Int))) (.str (toString (k : Int)))
  | tup (k : Nat) (h : k < 16) {t : Addr} (e : H t = some (.tup [.int (k : Int)])) : Od H (.ref t) (.tuple [.int (k : Int)])
  | lst (k : Nat) (h : k < 16) {t : Addr} (e : H t = some (.lst [.int (k : Int)])) : Od H (.ref t) (.list [.int (k : Int)])
theorem Od.same {H H' : Hp} {v : V} {d : PyData} (o : Od H v d) (s : Same H H') : Od H' v d := by
  cases o with
  | int i h0 h1 => exact .int i h0 h1
  | bl b => exact .bl b
  | non => exact .non
  | str k h => exact .str k h
  | tup k h e => exact .tup k h (s _ _ e)
  | lst k h e => exact .lst k h (s _ _ e)
theorem Od.keep {H H' : Hp} {v : V} {d : PyData} (o : Od H v d) (s : ∀ t u, v = .ref t → H t = some u → H' t = some u) : Od H' v d := by
  cases o with
  | int i h0 h1 => exact .int i h0 h1
  | bl b => exact .bl b
  | non => exact .non
  | str k h => exact .str k h
  | tup k h e => exact .tup k h (s _ _ rfl e)
  | lst k h e => exact .lst k h (s _ _ rfl e)
theorem Od.kd {H : Hp} {v : V} {d : PyData} (o : Od H v d) : Kd H v := by
  cases o with
  | int i h0 h1 => exact .int i
  | bl b => exact .bl b
  | non => exact .non
  | str k h => exact .str _
  | tup k h e => exact .tup e
  | lst k h e => exact .lst e
def dOk (d : PyData) : Bool := d.showable && !d.hasDict && decide (d.depth ≤ 64) && decide (d.shown.length ≤ sizeLine)
theorem dOk_int : ∀ k : Nat, k < 100 → dOk (.int (k : Int)) = true ∧ dOk (.int (-(k : Int))) = true := by decide +kernel
theorem dOk_str : ∀ k : Nat, k < 16 → dOk (.str (toString (k : Int))) = true := by decide +kernel
theorem dOk_tup : ∀ k : Nat, k < 16 → dOk (.tuple [.int (k : Int)]) = true := by decide +kernel
theorem dOk_lst : ∀ k : Nat, k < 16 → dOk (.list [.int (k : Int)]) = true := by decide +kernel
theorem Od.data {H : Hp} {v : V} {d : PyData} (o : Od H v d) : Dp K H v d ∧ dOk d = true := by
  cases o with
  | int i h0 h1 =>
    refine ⟨.int i, ?_⟩
    by_cases h : i < 0
    · have := (dOk_int (-i).toNat (by omega)).2
      rw [show -(((-i).toNat : Nat) : Int) = i by omega] at this
      exact this
    · have := (dOk_int i.toNat (by omega)).1
      rw [show ((i.toNat : Nat) : Int) = i by omega] at this
      exact this
  | bl b => exact ⟨.bl b, by cases b <;> decide +kernel⟩
  | non => exact ⟨.non, by decide +kernel⟩
  | str k h => exact ⟨.str _, dOk_str k h⟩
  | tup k h e => exact ⟨.tup (.inl (.inl e)) (.cons (.int _) .nil), dOk_tup k h⟩
  | lst k h e => exact ⟨.lst (.inl (.inl e)) (.cons (.int _) .nil), dOk_lst k h⟩
/-- the repr of an odd value -/
theorem Od.repr {H : Hp} {v : V} {d : PyData} (o : Od H v d) {Q : VK} (q : Q (.str d.shown) H) : rRepr K [v] H Q := by
  obtain ⟨hd, ok⟩ := o.data (K := K)
  unfold dOk at ok
  rw [Bool.and_eq_true, Bool.and_eq_true, Bool.and_eq_true, decide_eq_true_eq, decide_eq_true_eq] at ok
  obtain ⟨⟨⟨o1, o2⟩, o3⟩, o4⟩ := ok
  exact ⟨v, d, rfl, hd, o1, by simpa using o2, o3, o4, q⟩
/-! ### numbers and lists that are right -/
abbrev s__law_number : Stmt := top 40
theorem sc__law_number : FnScope ["told", "due"] ["told", "due"] (defScope s__law_number) := ⟨rfl, rfl, rfl, by decide +kernel, rfl, by decide +kernel, by decide +kernel⟩
-- slots of _law_number: 0 told, 1 due
def spNumber : Sp := fun vs H Q _ => ∃ i : Int, vs = [.int i, .int i] ∧ Q (.bl true) H
theorem ok__law_number (T : Txt K mg C) {f : Addr} {fd : FuncData} (F : Fun K "_law_number" "_law_number" s__law_number f fd) : FnOk P w K mg base CX0 1 f fd ["told", "due"] spNumber := by
  refine F.ok sc__law_number (fun vs H Q E h => ?_) (fun cdv A outer s H vs Q E hr h => ?_)
  · obtain ⟨i, rfl, _⟩ := h; rfl
  · obtain ⟨i, rfl, q⟩ := h
    refine ⟨_, (pss_one (ps_ret (pe_and (pe_callB (isi_ K) (by rfl) T.isinstance b_isinstance (pa_cons (pv 0) (pa_cons (pe_bltn (v := .ty "int") (by rfl) T.int b_int rfl) pa_nil))) (pe_and (pe_not (pe_callB (isi_ K) (by rfl) T.isinstance b_isinstance (pa_cons (pv 0) (pa_cons (pe_bltn (v := .ty "bool") (by rfl) T.bool b_bool rfl) pa_nil)))) (pe_one (pe_cmpR op_eq (pv 0) (pv 1) (nomark _))))))), ?_⟩
    refine ⟨_, rfl, _, _, _, _, true, rfl, .ty _, .base (.int i), kit_ty (by decide +kernel), true, rfl, iteT ?_⟩
    refine ⟨_, rfl, _, _, _, _, false, rfl, .ty _, .base (.int i), kit_ty (by decide +kernel), false, rfl, true, rfl, iteT ?_⟩
    refine ⟨_, rfl, _, rfl, rfl, ?_⟩
    show Q (.bl (decide (V.int i = V.int i))) H
    rw [decide_eq_true rfl]
    exact q
abbrev s__law_list : Stmt := top 41
theorem sc__law_list : FnScope ["told", "due", "k"] ["told", "due"] (defScope s__law_list) := ⟨rfl, rfl, rfl, by decide +kernel, rfl, by decide +kernel, by decide +kernel⟩
-- slots of _law_list: 0 told, 1 due, 2 k
def spList : Sp := fun vs H Q _ => ∃ (a c : Addr) (l : List Nat), vs = [.ref a, .ref c] ∧ H a = some (.lst (nL l)) ∧ H c = some (.lst (nL l)) ∧ l.length ≤ 1000 ∧ Q (.bl true) H
theorem ok__law_list (T : Txt K mg C) {f : Addr} {fd : FuncData} (F : Fun K "_law_list" "_law_list" s__law_list f fd) (c__law_number : Cal P w K mg base "_law_number" 1 spNumber) : FnOk P w K mg base CX0 2 f fd ["told", "due"] spList := by
  refine F.ok sc__law_list (fun vs H Q E h => ?_) (fun cdv A outer s H vs Q E hr h => ?_)
  · obtain ⟨a, c, l, rfl, _⟩ := h; rfl
  · obtain ⟨a, c, l, rfl, ha, hc, few, q⟩ := h
    refine ⟨_, (pss_cons (ps_if (PW.pt (pw_or (pt_not (pt_val (pe_callB (isi_ K) (by rfl) T.isinstance b_isinstance (pa_cons (pv 0) (pa_cons (pe_bltn (v := .ty "list") (by rfl) T.list b_list rfl) pa_nil))))) (pw_or1 (pt_cmpR op_ne (pe_callB (lenS_ K) (by rfl) T.len b_len (pa_cons (pv 0) pa_nil)) (pe_callB (lenS_ K) (by rfl) T.len b_len (pa_cons (pv 1) pa_nil)) (nomark _)))))
      (pss_one (ps_ret pe_bl)) pss_nil)
      (pss_cons (ps_for PassesOwn.never rfl (pi_range1 (by rfl) T.range (pa_cons (pe_callB (lenS_ K) (by rfl) T.len b_len (pa_cons (pv 1) pa_nil)) pa_nil)) (pg_name (i := 2) sc__law_list.nd rfl (by first | exact Or.inl rfl | exact Or.inr rfl))
      (pss_one (ps_if (pt_not (pt_val (pe_cal c__law_number (hr.mono (by decide)) (pa_cons (pe_ix (ixL_ K) (pv 0) (pv 2) (fun _ _ => rfl)) (pa_cons (pe_ix (ixL_ K) (pv 1) (pv 2) (fun _ _ => rfl)) pa_nil)))))
      (pss_one (ps_ret pe_bl)) pss_nil)))
      (pss_one (ps_ret pe_bl)))), ?_⟩
    refine ⟨_, rfl, _, _, _, _, true, rfl, .ty _, .base (.lst ha), kit_ty (by decide +kernel), true, rfl, iteF ?_⟩
    refine ⟨_, rfl, a, _, rfl, .inl (SqL.of ha), _, rfl, c, _, rfl, .inl (SqL.of hc), rfl, _, rfl, ?_⟩
    refine ite2 (fun hn => ?_) (fun _ => ?_)
    · rw [decide_eq_true rfl] at hn
      cases hn
    refine ⟨_, rfl, c, _, rfl, .inl (SqL.of hc), _, rfl, by rw [nL_len]; omega, by rw [nL_len]; omega, ?_⟩
    have en : (((nL l).length : Int)).toNat = l.length := by rw [nL_len]; omega
    rw [en]
    refine for_range (fun i σ H2 => H2 = H ∧ ∃ v, σ = [some (.ref a), some (.ref c), v]) ⟨rfl, _, rfl⟩ ?_ ?_
    · rintro i σ H2 hi ⟨rfl, v, rfl⟩
      have e0 : (0 : Int) + (i : Int) = (i : Int) := by omega
      rw [e0]
      obtain ⟨k, hk⟩ : ∃ k, l[i]? = some k := ⟨_, List.getElem?_eq_getElem hi⟩
      exact ⟨_, rfl, _, rfl, a, _, _, _, rfl, rfl, SqL.of ha, atI_nat (nL_get hk), _, rfl, _, rfl, c, _, _, _, rfl, rfl, SqL.of hc, atI_nat (nL_get hk), _, rfl, true, rfl, iteF ⟨rfl, _, rfl⟩⟩
    · rintro σ H2 ⟨rfl, v, rfl⟩
      exact q
end
end Hue

end
section
set_option maxRecDepth 100000
set_option maxHeartbeats 4000000
namespace Hue
open PySem PySem.Spec PyProof.Rows L2
section
variable {P : Program} {w : World} {K : PySem.W.Frag} {mg : Str → Option Value} {base : Heap} {C : Addr}
theorem pair_at {H : Hp} {ts : List Addr} {ps : List (Nat × Nat)} (hps : Pairs H ts ps) {m : Nat} {y : V} (h : (ts.map V.ref)[m]? = some y) : ∃ (t : Addr) (p : Nat × Nat), y = .ref t ∧ ts[m]? = some t ∧ ps[m]? = some p ∧ H t = some (.tup [.int (p.1 : Int), .int (p.2 : Int)]) := by
  rw [List.getElem?_map] at h
  obtain ⟨t, ht, e⟩ := Option.map_eq_some_iff.mp h
  have lt : m < ps.length := by rw [← hps.1]; exact (List.getElem?_eq_some_iff.mp ht).1
  exact ⟨t, ps[m], e.symm, ht, List.getElem?_eq_getElem lt, hps.2 m t _ ht (List.getElem?_eq_getElem lt)⟩
/-! ### tables of bools -/
def bF (n : Nat) (g : Nat → Bool) : List V := (List.range n).map fun j => V.bl (g j)
theorem bF_len (n : Nat) (g : Nat → Bool) : (bF n g).length = n := by unfold bF; rw [List.length_map, List.length_range]
theorem bF_get {n : Nat} {g : Nat → Bool} {j : Nat} (h : j < n) : (bF n g)[j]? = some (V.bl (g j)) := by unfold bF; rw [List.getElem?_map, List.getElem?_range h]; rfl
theorem bF_set {n : Nat} {g : Nat → Bool} {k : Nat} {b : Bool} : (bF n g).set k (V.bl b) = bF n fun j => if j = k then b else g j := by
  refine List.ext_getElem? fun i => ?_
  rw [List.getElem?_set, bF_len]
  by_cases hi : i < n
  · rw [bF_get (g := fun j => if j = k then b else g j) hi]
    by_cases e : k = i
    · rw [if_pos e, if_pos (by omega), if_pos e.symm]
    · rw [if_neg e, bF_get hi, if_neg (fun z => e z.symm)]
  · rw [List.getElem?_eq_none (l := bF n fun j => if j = k then b else g j) (by rw [bF_len]; omega), List.getElem?_eq_none (l := bF n g) (by rw [bF_len]; omega)]
    by_cases e : k = i
    · rw [if_pos e, if_neg (by omega)]
    · rw [if_neg e]
theorem bF_congr {n : Nat} {f g : Nat → Bool} (h : ∀ j, j < n → f j = g j) : bF n f = bF n g := by
  unfold bF
  rw [List.map_congr_left fun j hj => by rw [h j (List.mem_range.mp hj)]]
theorem repB (n : Nat) : (List.replicate ((n : Int)).toNat [V.bl false]).flatten = bF n fun _ => false := by
  rw [Int.toNat_natCast]
  refine List.ext_getElem? fun i => ?_
  have e : (List.replicate n [V.bl false]).flatten = List.replicate n (V.bl false) := by
    induction n with
    | zero => rfl
    | succ n ih => rw [List.replicate_succ, List.flatten_cons, ih, List.replicate_succ]; rfl
  rw [e, List.getElem?_replicate]
  by_cases hi : i < n
  · rw [if_pos hi, bF_get hi]
  · rw [if_neg hi, List.getElem?_eq_none (by rw [bF_len]; omega)]
/-- the table at D, its rows at as -/
def TbA (H : Hp) (D : Addr) (as : List Addr) (n : Nat) (U : Nat → Nat → Bool) : Prop := H D = some (.lst (as.map V.ref)) ∧ ∀ i a, as[i]? = some a → H a = some (.lst (bF n (U i)))
structure AsOk (H : Hp) (D : Addr) (as : List Addr) (n : Nat) : Prop where
  len : as.length = n
  nd : as.Nodup
  no : ∀ a ∈ as, a ≠ D
  nw : ∀ a ∈ as, H a = none
theorem TbA.same {H H' : Hp} {D : Addr} {as : List Addr} {n : Nat} {U : Nat → Nat → Bool} (t : TbA H D as n U) (s : Same H H') : TbA H' D as n U := ⟨s _ _ t.1, fun i a h => s _ _ (t.2 i a h)⟩
theorem TbA.congr {H : Hp} {D : Addr} {as : List Addr} {n : Nat} {U W : Nat → Nat → Bool} (t : TbA H D as n U) (l : as.length = n) (h : ∀ i j, i < n → j < n → U i j = W i j) : TbA H D as n W :=
  ⟨t.1, fun i a e => by rw [t.2 i a e, bF_congr fun j hj => h i j (by rw [← l]; exact (List.getElem?_eq_some_iff.mp e).1) hj]⟩
theorem TbA.set {H0 H H' : Hp} {D a : Addr} {as : List Addr} {n i : Nat} {U : Nat → Nat → Bool} {g : Nat → Bool} (t : TbA H D as n U) (A : AsOk H0 D as n) (ha : as[i]? = some a) (s : SB a H H') (h : H' a = some (.lst (bF n g))) : TbA H' D as n fun r => if r = i then g else U r := by
  refine ⟨s _ _ (A.no a (List.mem_of_getElem? ha)).symm t.1, fun j c hc => ?_⟩
  by_cases e : j = i
  · rw [e, ha] at hc
    cases hc
    show H' a = some (.lst (bF n (if j = i then g else U j)))
    rw [if_pos e]
    exact h
  · show H' c = some (.lst (bF n (if j = i then g else U j)))
    rw [if_neg e]
    refine s _ _ (fun z => ?_) (t.2 j c hc)
    rw [z] at hc
    exact e (nodup_at A.nd hc ha)
theorem AsOk.at {H : Hp} {D : Addr} {as : List Addr} {n i : Nat} (A : AsOk H D as n) (h : i < n) : ∃ a, as[i]? = some a ∧ (as.map V.ref)[i]? = some (V.ref a) := by
  have l : i < as.length := by rw [A.len]; exact h
  exact ⟨as[i], List.getElem?_eq_getElem l, by rw [List.getElem?_map, List.getElem?_eq_getElem l]; rfl⟩
/-! ### what lies under what, by all middle lamps in turn -/
def stepW (U : Nat → Nat → Bool) (m : Nat) : Nat → Nat → Bool := fun i j => U i j || (U i m && U m j)
def closW (ps : List (Nat × Nat)) : Nat → Nat → Nat → Bool
  | 0 => fun i j => decide ((i, j) ∈ ps)
  | m + 1 => stepW (closW ps m) m
theorem stepW_iff {U : Nat → Nat → Bool} {m i j : Nat} : stepW U m i j = true ↔ U i j = true ∨ (U i m = true ∧ U m j = true) := by
  unfold stepW
  rw [Bool.or_eq_true, Bool.and_eq_true]
theorem closW_sub {ps : List (Nat × Nat)} : ∀ (m i j : Nat), closW ps m i j = true → relOf ps i j = true
  | 0, i, j, h => fold_wire ps _ (i, j) (of_decide_eq_true h)
  | m + 1, i, j, h => by
    rcases stepW_iff.mp h with h | ⟨h1, h2⟩
    · exact closW_sub m i j h
    · exact relOf_trans ps i m j (closW_sub m i m h1) (closW_sub m m j h2)
theorem closW_wire {ps : List (Nat × Nat)} {p : Nat × Nat} (h : p ∈ ps) : ∀ m, closW ps m p.1 p.2 = true
  | 0 => decide_eq_true h
  | m + 1 => stepW_iff.mpr (.inl (closW_wire h m))
theorem closW_tr {ps : List (Nat × Nat)} : ∀ (m i k j : Nat), k < m → closW ps m i k = true → closW ps m k j = true → closW ps m i j = true
  | m + 1, i, k, j, hk, h1, h2 => by
    rcases Nat.lt_or_ge k m with lt | ge
    · rcases stepW_iff.mp h1 with a | ⟨a, b⟩ <;> rcases stepW_iff.mp h2 with c | ⟨c, d⟩
      · exact stepW_iff.mpr (.inl (closW_tr m i k j lt a c))
      · exact stepW_iff.mpr (.inr ⟨closW_tr m i k m lt a c, d⟩)
      · exact stepW_iff.mpr (.inr ⟨a, closW_tr m m k j lt b c⟩)
      · exact stepW_iff.mpr (.inr ⟨a, d⟩)
    · obtain rfl : k = m := by omega
      have a : closW ps k i k = true := (stepW_iff.mp h1).elim id fun z => z.1
      have c : closW ps k k j = true := (stepW_iff.mp h2).elim id fun z => z.2
      exact stepW_iff.mpr (.inr ⟨a, c⟩)
theorem fold_sub {R : Rel} (tr : Trans R) : ∀ (ps : List (Nat × Nat)) (S : Rel), (∀ i j, S i j = true → R i j = true) → (∀ p ∈ ps, R p.1 p.2 = true) → ∀ i j, ps.foldl (fun R p => addW R p.1 p.2) S i j = true → R i j = true
  | [], S, h, _, i, j, z => h i j z
  | p :: ps, S, h, g, i, j, z => by
    refine fold_sub tr ps (addW S p.1 p.2) (fun i j y => ?_) (fun q hq => g q (List.mem_cons_of_mem _ hq)) i j z
    have r := g p List.mem_cons_self
    rcases addW_iff.mp y with y | ⟨y1, y2⟩
    · exact h i j y
    · have r1 : R i p.2 = true := by
        rcases y1 with e | e
        · rw [e]; exact r
        · exact tr _ _ _ (h _ _ e) r
      rcases y2 with e | e
      · rw [e]; exact r1
      · exact tr _ _ _ r1 (h _ _ e)
theorem closW_all {n : Nat} {ps : List (Nat × Nat)} (lt : ∀ p ∈ ps, p.1 < n ∧ p.2 < n) : closW ps n = relOf ps := by
  funext i j
  rw [Bool.eq_iff_iff]
  refine ⟨closW_sub n i j, fun h => fold_sub (R := closW ps n) (fun i k j h1 h2 => ?_) ps (fun _ _ => false) (fun i j z => by cases z) (fun p hp => closW_wire hp n) i j h⟩
  obtain ⟨u, hu, _⟩ := rel_last.mp (closW_sub n i k h1)
  exact closW_tr n i k j (lt _ hu).2 h1 h2
/-- in the middle of a turn -/
def midW (U : Nat → Nat → Bool) (m v : Nat) : Nat → Nat → Bool := fun i j => if i < v then stepW U m i j else U i j
def inW (U : Nat → Nat → Bool) (m v w : Nat) : Nat → Nat → Bool := fun i j => if i < v then stepW U m i j else if i = v ∧ j < w then U v j || U m j else U i j
theorem midW_row {U : Nat → Nat → Bool} {m v k : Nat} (h : U m m = false) : midW U m v m k = U m k := by
  unfold midW stepW
  rw [h, Bool.false_and, Bool.or_false, ite_self]
theorem inW_row {U : Nat → Nat → Bool} {m v k x : Nat} (h : U m m = false) (hv : U v m = true) : inW U m v x m k = U m k := by
  have ne : ¬ m = v := fun z => by rw [← z, h] at hv; cases hv
  unfold inW stepW
  rw [h, Bool.false_and, Bool.or_false, if_neg (fun z : m = v ∧ k < x => ne z.1), ite_self]
abbrev s__law_under : Stmt := top 38
theorem sc__law_under : FnScope ["count", "wires", "under", "v", "wire", "middle", "w"] ["count", "wires"] (defScope s__law_under) := ⟨rfl, rfl, rfl, by decide +kernel, rfl, by decide +kernel, by decide +kernel⟩
-- slots of _law_under: 0 count, 1 wires, 2 under, 3 v, 4 wire, 5 middle, 6 w
def Tb (H : Hp) (D : Addr) (n : Nat) (U : Nat → Nat → Bool) : Prop := ∃ as : List Addr, as.length = n ∧ TbA H D as n U
def spUnder : Sp := fun vs H Q _ => ∃ (a : Addr) (n : Nat) (ts : List Addr) (ps : List (Nat × Nat)), vs = [.int n, .ref a] ∧ n ≤ 16 ∧ H a = some (.lst (ts.map V.ref)) ∧ Pairs H ts ps ∧ (∀ p ∈ ps, p.1 < n ∧ p.2 < n) ∧ Ranked (relOf ps) ∧
  ∀ (t : Addr) (H' : Hp), Same H H' → Tb H' t n (relOf ps) → Q (.ref t) H'
theorem ok__law_under (T : Txt K mg C) {f : Addr} {fd : FuncData} (F : Fun K "_law_under" "_law_under" s__law_under f fd) : FnOk P w K mg base CX0 1 f fd ["count", "wires"] spUnder := by
  refine F.ok sc__law_under (fun vs H Q E h => ?_) (fun cdv A outer s H vs Q E hr h => ?_)
  · obtain ⟨a, n, ts, ps, rfl, _⟩ := h; rfl
  · obtain ⟨a, n, ts, ps, rfl, n16, ha, hps, lt, hR, q⟩ := h
    have irr : ∀ u, relOf ps u u = false := by
      obtain ⟨ρ, hρ⟩ := hR
      intro u
      cases z : relOf ps u u with
      | false => rfl
      | true => exact absurd (hρ u u z) (Nat.lt_irrefl _)
    refine ⟨_, (pss_cons (ps_setLc (i := 2) (own := [("v", 3)]) (g := gName 3) (tt := tYes) rfl sc__law_under.nd rfl rfl (sw_true rfl rfl rfl (by kernel_rfl)) (pi_range1 (by rfl) T.range (pa_cons (pv 0) pa_nil)) (blkOk_by (by kernel_rfl)) (fun _ _ _ _ _ => (pg_name (i := 3) sc__law_under.nd rfl (by first | exact Or.inl rfl | exact Or.inr rfl))) (fun _ _ _ _ _ => pts_nil) (fun _ _ _ _ _ => (pe_op op_rep (pe_lst (pa_cons pe_bl pa_nil)) (pv 0))))
      (pss_cons (ps_for PassesOwn.never rfl (pil_ K (pv 1)) (pg_name (i := 4) sc__law_under.nd rfl (by first | exact Or.inl rfl | exact Or.inr rfl))
      (pss_one (ps_asg pe_bl (pg_sub (pe_ix (ixL_ K) (pv 2) (pe_ix (ixT_ K) (pv 4) pe_int (fun _ _ => rfl)) (fun _ _ => rfl)) (pe_ix (ixT_ K) (pv 4) pe_int (fun _ _ => rfl)) set_list))))
      (pss_cons (ps_for PassesOwn.never rfl (pi_range1 (by rfl) T.range (pa_cons (pv 0) pa_nil)) (pg_name (i := 5) sc__law_under.nd rfl (by first | exact Or.inl rfl | exact Or.inr rfl))
      (pss_one (ps_for PassesOwn.never rfl (pi_range1 (by rfl) T.range (pa_cons (pv 0) pa_nil)) (pg_name (i := 3) sc__law_under.nd rfl (by first | exact Or.inl rfl | exact Or.inr rfl))
      (pss_one (ps_if (pt_val (pe_ix (ixL_ K) (pe_ix (ixL_ K) (pv 2) (pv 3) (fun _ _ => rfl)) (pv 5) (fun _ _ => rfl)))
      (pss_one (ps_for PassesOwn.never rfl (pi_range1 (by rfl) T.range (pa_cons (pv 0) pa_nil)) (pg_name (i := 6) sc__law_under.nd rfl (by first | exact Or.inl rfl | exact Or.inr rfl))
      (pss_one (ps_if (pt_val (pe_ix (ixL_ K) (pe_ix (ixL_ K) (pv 2) (pv 5) (fun _ _ => rfl)) (pv 6) (fun _ _ => rfl)))
      (pss_one (ps_asg pe_bl (pg_sub (pe_ix (ixL_ K) (pv 2) (pv 3) (fun _ _ => rfl)) (pv 6) set_list))) pss_nil)))) pss_nil)))))
      (pss_one (ps_ret (pv 2)))))), ?_⟩
    refine ⟨_, rfl, _, rfl, by omega, by omega, fun D hD => ?_⟩
    rw [Int.toNat_natCast]
    refine lc_range (fun i H2 => ∃ as : List Addr, AsOk H D as i ∧ H2 D = some (.lst (as.map V.ref)) ∧ (∀ a ∈ as, H2 a = some (.lst (bF n fun _ => false))) ∧ Same H H2) ⟨[], ⟨rfl, List.nodup_nil, fun a h => (by cases h), fun a h => (by cases h)⟩, upd_same, fun a h => (by cases h), same_new hD⟩ ?_ ?_
    · rintro i H2 hi ⟨as, A, hd, rows, s2⟩
      refine ⟨rfl, yesT ⟨by show 1 ≤ sizeLine; decide, fun zz nzz => ⟨_, rfl, zz, _, _, rfl, rfl, upd_same, by omega, by omega, ?_, fun dz ndz => ?_⟩⟩⟩
      · rw [Int.toNat_natCast, sizeLine_eq]; show 1 * n ≤ _; omega
      rw [repB]
      have s3 : Same H2 (upd (upd H2 zz (.lst [.bl false])) dz (.lst (bF n fun _ => false))) := (same_new nzz).trans (same_new ndz)
      have hdz : (upd (upd H2 zz (.lst [.bl false])) dz (.lst (bF n fun _ => false))) dz = some (.lst (bF n fun _ => false)) := upd_same
      have dz2 : H2 dz = none := (same_new nzz).free ndz
      generalize upd (upd H2 zz (.lst [.bl false])) dz (.lst (bF n fun _ => false)) = H3 at s3 hdz ⊢
      have dzD : dz ≠ D := (ne_of_none hd dz2).symm
      refine ⟨_, s3 _ _ hd, by rw [List.length_map, A.len, sizeLine_eq]; omega, as ++ [dz], ⟨by rw [List.length_append, A.len]; rfl, ?_, fun b hb => ?_, fun b hb => ?_⟩, by rw [upd_same, List.map_append]; rfl, fun b hb => ?_, same_upd (s2.trans s3) hD⟩
      · rw [List.nodup_append]
        exact ⟨A.nd, by simp, fun b hb c hc e => by
          rw [List.mem_singleton.mp hc] at e
          have := rows b hb
          rw [e, dz2] at this
          cases this⟩
      · rcases List.mem_append.mp hb with hb | hb
        · exact A.no b hb
        · rw [List.mem_singleton.mp hb]; exact dzD
      · rcases List.mem_append.mp hb with hb | hb
        · exact A.nw b hb
        · rw [List.mem_singleton.mp hb]; exact s2.free dz2
      · rcases List.mem_append.mp hb with hb | hb
        · rw [upd_ne (A.no b hb)]; exact s3 _ _ (rows b hb)
        · rw [List.mem_singleton.mp hb, upd_ne dzD]; exact hdz
    rintro H2 ⟨as, A, hd, rows, s2⟩
    have t0 : TbA H2 D as n (fun i j => decide ((i, j) ∈ ps.take 0)) := ⟨hd, fun i b hb => by rw [rows b (List.mem_of_getElem? hb)]; exact congrArg some (congrArg HO.lst (bF_congr fun j _ => by rw [List.take_zero]; rfl))⟩
    refine ⟨_, rfl, a, rfl, ⟨_, SqL.of (s2 _ _ ha)⟩, ?_⟩
    refine for_list (K := K) (a := a) (xs := ts.map V.ref) (fun m σ H3 => ∃ v3 v4 v5 v6 : Option V, σ = [some (.int n), some (.ref a), some (.ref D), v3, v4, v5, v6] ∧ Same H H3 ∧ TbA H3 D as n (fun i j => decide ((i, j) ∈ ps.take m)))
      ⟨_, _, _, _, rfl, s2, t0⟩ (fun i σ H3 _ ⟨_, _, _, _, _, s, _⟩ => SqL.of (s _ _ ha)) ?_ ?_
    · rintro m y σ H3 hy ⟨v3, v4, v5, v6, rfl, s3, t3⟩
      obtain ⟨t, p, rfl, ht, hp, hpt⟩ := pair_at hps hy
      obtain ⟨p1, p2⟩ := lt p (List.mem_of_getElem? hp)
      have hpt3 := s3 _ _ hpt
      obtain ⟨r, hr1, hr2⟩ := A.at p1
      have hrow := t3.2 _ _ hr1
      refine ⟨_, rfl, _, rfl, t, _, _, _, rfl, rfl, SqT.of hpt3, atI_nat (j := 0) rfl, D, _, _, _, rfl, rfl, SqL.of t3.1, atI_nat hr2, _, rfl, t, _, _, _, rfl, rfl, SqT.of hpt3, atI_nat (j := 1) rfl, set_at hrow (ixN_nat (by rw [bF_len]; exact p2)) fun H5 s5 h5 => ?_⟩
      rw [bF_set] at h5
      refine ⟨_, _, _, _, rfl, s5.to_same s3 (A.nw r (List.mem_of_getElem? hr1)), (t3.set A hr1 s5 h5).congr A.len fun i j _ _ => ?_⟩
      have mem : (i, j) ∈ ps.take (m + 1) ↔ (i, j) ∈ ps.take m ∨ (i, j) = p := by
        rw [List.take_add_one, hp, List.mem_append]
        exact or_congr_right List.mem_singleton
      show (if i = p.1 then (fun j => if j = p.2 then true else decide ((p.1, j) ∈ ps.take m)) else fun j => decide ((i, j) ∈ ps.take m)) j = _
      by_cases e : i = p.1
      · rw [if_pos e]
        show (if j = p.2 then true else decide ((p.1, j) ∈ ps.take m)) = _
        by_cases e2 : j = p.2
        · rw [if_pos e2, decide_eq_true (mem.mpr (.inr (by rw [e, e2])))]
        · rw [if_neg e2, decide_eq_decide.mpr ?_]
          rw [mem, e]
          exact ⟨.inl, fun z => z.elim id fun z => absurd (congrArg Prod.snd z) e2⟩
      · rw [if_neg e]
        refine decide_eq_decide.mpr ?_
        rw [mem]
        exact ⟨.inl, fun z => z.elim id fun z => absurd (congrArg Prod.fst z) e⟩
    rintro σ H3 ⟨v3, v4, v5, v6, rfl, s3, t3⟩
    rw [List.length_map, hps.1, List.take_length] at t3
    refine ⟨_, rfl, _, rfl, by omega, by omega, ?_⟩
    rw [Int.toNat_natCast]
    refine for_range (fun m σ H4 => ∃ v3 v4 v5 v6 : Option V, σ = [some (.int n), some (.ref a), some (.ref D), v3, v4, v5, v6] ∧ Same H H4 ∧ TbA H4 D as n (closW ps m)) ⟨_, _, _, _, rfl, s3, t3⟩ ?_ ?_
    · rintro m σ H4 hm ⟨v3, v4, v5, v6, rfl, s4, t4⟩
      have e0 : (0 : Int) + (m : Int) = (m : Int) := by omega
      rw [e0]
      have mm : closW ps m m m = false := by
        cases z : closW ps m m m with
        | false => rfl
        | true => have := closW_sub m m m z; rw [irr] at this; cases this
      generalize hU : closW ps m = U at t4 mm
      refine ⟨_, rfl, _, rfl, by omega, by omega, ?_⟩
      rw [Int.toNat_natCast]
      refine for_range (fun v σ H5 => ∃ v3 v4 v6 : Option V, σ = [some (.int n), some (.ref a), some (.ref D), v3, v4, some (.int (m : Nat)), v6] ∧ Same H H5 ∧ TbA H5 D as n (midW U m v)) ⟨_, _, _, rfl, s4, t4.congr A.len fun i j _ _ => by unfold midW; rw [if_neg (Nat.not_lt_zero i)]⟩ ?_ ?_
      · rintro v σ H5 hv ⟨v3, v4, v6, rfl, s5, t5⟩
        have e0 : (0 : Int) + (v : Int) = (v : Int) := by omega
        rw [e0]
        obtain ⟨rv, hv1, hv2⟩ := A.at hv
        obtain ⟨rm, hm1, hm2⟩ := A.at hm
        have rowv := t5.2 _ _ hv1
        have ev : midW U m v v m = U v m := by unfold midW; rw [if_neg (Nat.lt_irrefl v)]
        have gv : (bF n (midW U m v v))[m]? = some (V.bl (U v m)) := by rw [bF_get hm, ev]
        refine ⟨_, rfl, _, rfl, D, _, _, _, rfl, rfl, SqL.of t5.1, atI_nat hv2, _, rfl, rv, _, _, _, rfl, rfl, SqL.of rowv, atI_nat gv, _, rfl, ?_⟩
        refine ite2 (fun hx => ?_) (fun hx => ?_)
        · refine ⟨_, rfl, _, rfl, by omega, by omega, ?_⟩
          rw [Int.toNat_natCast]
          refine for_range (fun x σ H6 => ∃ v4 v6 : Option V, σ = [some (.int n), some (.ref a), some (.ref D), some (.int (v : Nat)), v4, some (.int (m : Nat)), v6] ∧ Same H H6 ∧ TbA H6 D as n (inW U m v x)) ⟨_, _, rfl, s5, t5.congr A.len fun i j _ _ => by unfold midW inW; rw [if_neg (fun z : i = v ∧ j < 0 => Nat.not_lt_zero j z.2)]⟩ ?_ ?_
          · rintro x σ H6 hxn ⟨v4, v6, rfl, s6, t6⟩
            have e0 : (0 : Int) + (x : Int) = (x : Int) := by omega
            rw [e0]
            have rowm := t6.2 _ _ hm1
            have rowv := t6.2 _ _ hv1
            have gm : (bF n (inW U m v x m))[x]? = some (V.bl (U m x)) := by rw [bF_get hxn, inW_row mm hx]
            refine ⟨_, rfl, _, rfl, D, _, _, _, rfl, rfl, SqL.of t6.1, atI_nat hm2, _, rfl, rm, _, _, _, rfl, rfl, SqL.of rowm, atI_nat gm, _, rfl, ?_⟩
            refine ite2 (fun hy => ?_) (fun hy => ?_)
            · refine ⟨_, rfl, _, rfl, D, _, _, _, rfl, rfl, SqL.of t6.1, atI_nat hv2, _, rfl, set_at rowv (ixN_nat (by rw [bF_len]; exact hxn)) fun H7 s7 h7 => ?_⟩
              rw [bF_set] at h7
              refine ⟨_, _, rfl, s7.to_same s6 (A.nw rv (List.mem_of_getElem? hv1)), (t6.set A hv1 s7 h7).congr A.len fun i j _ _ => ?_⟩
              show (if i = v then (fun j => if j = x then true else inW U m v x v j) else inW U m v x i) j = inW U m v (x + 1) i j
              by_cases e : i = v
              · rw [if_pos e, e]
                show (if j = x then true else inW U m v x v j) = inW U m v (x + 1) v j
                unfold inW
                rw [if_neg (Nat.lt_irrefl v), if_neg (Nat.lt_irrefl v)]
                by_cases e2 : j = x
                · rw [if_pos e2, if_pos ⟨rfl, by omega⟩, e2, hy, Bool.or_true]
                · rw [if_neg e2]
                  by_cases e3 : j < x
                  · rw [if_pos ⟨rfl, e3⟩, if_pos ⟨rfl, by omega⟩]
                  · rw [if_neg (fun z => e3 z.2), if_neg (fun z => e3 (by have := z.2; omega))]
              · rw [if_neg e]
                unfold inW
                rw [if_neg (fun z : i = v ∧ j < x => e z.1), if_neg (fun z : i = v ∧ j < x + 1 => e z.1)]
            · have hy : U m x = false := Bool.eq_false_iff.mpr hy
              refine ⟨_, _, rfl, s6, t6.congr A.len fun i j _ _ => ?_⟩
              unfold inW
              by_cases e : i = v ∧ j = x
              · obtain ⟨rfl, rfl⟩ := e
                rw [if_neg (Nat.lt_irrefl _), if_neg (Nat.lt_irrefl _), if_neg (fun z => Nat.lt_irrefl _ z.2), if_pos ⟨rfl, Nat.lt_succ_self _⟩, hy, Bool.or_false]
              · have e2 : (i = v ∧ j < x) ↔ (i = v ∧ j < x + 1) := ⟨fun z => ⟨z.1, by omega⟩, fun z => ⟨z.1, by
                  have := z.2
                  have : j ≠ x := fun y => e ⟨z.1, y⟩
                  omega⟩⟩
                simp only [e2]
          · rintro σ H6 ⟨v4, v6, rfl, s6, t6⟩
            refine ⟨_, _, _, rfl, s6, t6.congr A.len fun i j _ hj => ?_⟩
            unfold inW midW
            by_cases e : i = v
            · rw [e, if_neg (Nat.lt_irrefl v), if_pos ⟨rfl, hj⟩, if_pos (Nat.lt_succ_self v)]
              unfold stepW
              rw [hx, Bool.true_and]
            · rw [if_neg (fun z : i = v ∧ j < n => e z.1)]
              by_cases e2 : i < v
              · rw [if_pos e2, if_pos (by omega)]
              · rw [if_neg e2, if_neg (by omega)]
        · have hx : U v m = false := Bool.eq_false_iff.mpr hx
          refine ⟨_, _, _, rfl, s5, t5.congr A.len fun i j _ _ => ?_⟩
          unfold midW
          by_cases e : i = v
          · rw [e, if_neg (Nat.lt_irrefl v), if_pos (Nat.lt_succ_self v)]
            unfold stepW
            rw [hx, Bool.false_and, Bool.or_false]
          · by_cases e2 : i < v
            · rw [if_pos e2, if_pos (by omega)]
            · rw [if_neg e2, if_neg (by omega)]
      · rintro σ H5 ⟨v3, v4, v6, rfl, s5, t5⟩
        refine ⟨_, _, _, _, rfl, s5, t5.congr A.len fun i j hi _ => ?_⟩
        unfold midW
        rw [if_pos hi]
        show stepW U m i j = stepW (closW ps m) m i j
        rw [hU]
    · rintro σ H4 ⟨v3, v4, v5, v6, rfl, s4, t4⟩
      rw [closW_all lt] at t4
      exact ⟨_, rfl, q D H4 s4 ⟨as, A.len, t4⟩⟩
end
end Hue

end
section
set_option maxRecDepth 100000
set_option maxHeartbeats 4000000
namespace Hue
open PySem PySem.Spec PyProof.Rows L2
section
variable {P : Program} {w : World} {K : PySem.W.Frag} {mg : Str → Option Value} {base : Heap} {C : Addr}
/-! ### the order list that is due -/
/-- how many wires to l come from outside the row -/
def cw (ps : List (Nat × Nat)) (row : List Nat) (l : Nat) : Nat := (ps.filter fun p => decide (p.2 = l) && decide (p.1 ∉ row)).length
theorem cw_cons (p : Nat × Nat) (ps : List (Nat × Nat)) (row : List Nat) (l : Nat) : cw (p :: ps) row l = cw ps row l + (if p.2 = l ∧ p.1 ∉ row then 1 else 0) := by
  unfold cw
  rw [List.filter_cons]
  by_cases h : p.2 = l ∧ p.1 ∉ row
  · rw [if_pos h, if_pos (by rw [Bool.and_eq_true, decide_eq_true_eq, decide_eq_true_eq]; exact h), List.length_cons]
  · rw [if_neg h, if_neg (by rw [Bool.and_eq_true, decide_eq_true_eq, decide_eq_true_eq]; exact h)]; rfl
theorem cw_app (ps qs : List (Nat × Nat)) (row : List Nat) (l : Nat) : cw (ps ++ qs) row l = cw ps row l + cw qs row l := by
  unfold cw
  rw [List.filter_append, List.length_append]
theorem cw_more {ps : List (Nat × Nat)} {m : Nat} {p : Nat × Nat} (h : ps[m]? = some p) (row : List Nat) (l : Nat) : cw (ps.take (m + 1)) row l = cw (ps.take m) row l + (if p.2 = l ∧ p.1 ∉ row then 1 else 0) := by
  rw [List.take_add_one, h, cw_app]
  show _ + cw [p] row l = _
  rw [cw_cons]
  show _ + (0 + _) = _
  rw [Nat.zero_add]
theorem cw_less {ps : List (Nat × Nat)} {m : Nat} {p : Nat × Nat} (h : ps[m]? = some p) (row : List Nat) (l : Nat) : cw (ps.drop m) row l = cw (ps.drop (m + 1)) row l + (if p.2 = l ∧ p.1 ∉ row then 1 else 0) := by
  obtain ⟨h1, h2⟩ := List.getElem?_eq_some_iff.mp h
  rw [List.drop_eq_getElem_cons h1, h2, cw_cons]
def mixW (ps : List (Nat × Nat)) (row : List Nat) (c m : Nat) (l : Nat) : Nat := cw (ps.take m) (row ++ [c]) l + cw (ps.drop m) row l
theorem mix_hit {ps : List (Nat × Nat)} {row : List Nat} {c m : Nat} {p : Nat × Nat} (h : ps[m]? = some p) (e : p.1 = c) (n : c ∉ row) (l : Nat) : mixW ps row c m l = mixW ps row c (m + 1) l + (if l = p.2 then 1 else 0) := by
  unfold mixW
  rw [cw_more h, cw_less h row l]
  rw [if_neg (fun z : p.2 = l ∧ p.1 ∉ row ++ [c] => z.2 (by rw [e]; exact List.mem_append_right _ List.mem_cons_self))]
  by_cases q : l = p.2
  · rw [if_pos q, if_pos ⟨q.symm, by rw [e]; exact n⟩]; omega
  · rw [if_neg q, if_neg (fun z => q z.1.symm)]; omega
theorem mix_miss {ps : List (Nat × Nat)} {row : List Nat} {c m : Nat} {p : Nat × Nat} (h : ps[m]? = some p) (e : p.1 ≠ c) (l : Nat) : mixW ps row c m l = mixW ps row c (m + 1) l := by
  unfold mixW
  rw [cw_more h, cw_less h row l]
  have q : (p.1 ∉ row ++ [c]) ↔ p.1 ∉ row := by
    rw [List.mem_append, List.mem_singleton]
    exact ⟨fun z y => z (.inl y), fun z y => y.elim z e⟩
  simp only [q]
  omega
theorem cw_nxt {n : Nat} {ps : List (Nat × Nat)} {row : List Nat} (lt : ∀ p ∈ ps, p.1 < n ∧ p.2 < n) (ok : OrdOk n (relOf ps) row) {l : Nat} (hl : l < n) : nxt n (relOf ps) row l = (decide (cw ps row l = 0) && decide (l ∉ row)) := by
  rw [Bool.eq_iff_iff, nxt_iff, Bool.and_eq_true, decide_eq_true_eq, decide_eq_true_eq]
  constructor
  · rintro ⟨h1, h2⟩
    refine ⟨?_, h1⟩
    unfold cw
    rw [List.length_eq_zero_iff, List.filter_eq_nil_iff]
    intro p hp z
    rw [Bool.and_eq_true, decide_eq_true_eq, decide_eq_true_eq] at z
    have r : relOf ps p.1 p.2 = true := fold_wire ps _ p hp
    rw [z.1] at r
    exact z.2 (h2 p.1 (lt p hp).1 r)
  · rintro ⟨h1, h2⟩
    refine ⟨h2, fun j hj r => ?_⟩
    unfold cw at h1
    rw [List.length_eq_zero_iff, List.filter_eq_nil_iff] at h1
    obtain ⟨u, hu, e⟩ := rel_last.mp r
    have ur : u ∈ row := Decidable.byContradiction fun z => h1 (u, l) hu (by rw [Bool.and_eq_true, decide_eq_true_eq, decide_eq_true_eq]; exact ⟨rfl, z⟩)
    rcases e with e | e
    · rw [e]; exact ur
    · obtain ⟨q, hq⟩ := List.getElem?_of_mem ur
      exact List.mem_of_mem_take (ok.up q u hq j hj e)
abbrev s__law_due_order : Stmt := top 39
theorem sc__law_due_order : FnScope ["count", "wires", "waiting", "wire", "lamp", "row", "k", "ready"] ["count", "wires"] (defScope s__law_due_order) := ⟨rfl, rfl, rfl, by decide +kernel, rfl, by decide +kernel, by decide +kernel⟩
-- slots of _law_due_order: 0 count, 1 wires, 2 waiting, 3 wire, 4 lamp, 5 row, 6 k, 7 ready
def spDueOrder : Sp := fun vs H Q _ => ∃ (a : Addr) (n : Nat) (ts : List Addr) (ps : List (Nat × Nat)), vs = [.int n, .ref a] ∧ n ≤ 16 ∧ H a = some (.lst (ts.map V.ref)) ∧ Pairs H ts ps ∧ ps.length < 1000 ∧ Ranked (relOf ps) ∧ (∀ p ∈ ps, p.1 < n ∧ p.2 < n) ∧
  ∀ (t : Addr) (H' : Hp), Same H H' → H t = Option.none → H' t = some (.lst (nL (ordN n (relOf ps) n))) → Q (.ref t) H'
theorem ok__law_due_order (T : Txt K mg C) {f : Addr} {fd : FuncData} (F : Fun K "_law_due_order" "_law_due_order" s__law_due_order f fd) : FnOk P w K mg base CX0 1 f fd ["count", "wires"] spDueOrder := by
  refine F.ok sc__law_due_order (fun vs H Q E h => ?_) (fun cdv A outer s H vs Q E hr h => ?_)
  · obtain ⟨a, n, ts, ps, rfl, _⟩ := h; rfl
  · obtain ⟨a, n, ts, ps, rfl, n16, ha, hps, few, hR, lt, q⟩ := h
    refine ⟨_, (pss_cons (ps_set (i := 2) sc__law_due_order.nd rfl (by first | exact Or.inl rfl | exact Or.inr rfl) (pe_lc (own := [("lamp", 4)]) (g := gName 4) (tt := tYes) rfl sc__law_due_order.nd (pi_range1 (by rfl) T.range (pa_cons (pv 0) pa_nil)) (blkOk_by (by kernel_rfl)) (fun _ _ _ _ _ => (pg_name (i := 4) sc__law_due_order.nd rfl (by first | exact Or.inl rfl | exact Or.inr rfl))) (fun _ _ _ _ _ => pts_nil) (fun _ _ _ _ _ => (pe_callB (lenS_ K) (by rfl) T.len b_len (pa_cons (pe_lc (own := [("wire", 3)]) (g := gName 3) rfl sc__law_due_order.nd (pil_ K (pv 1)) (blkOk_by (by kernel_rfl)) (fun _ _ _ _ _ => (pg_name (i := 3) sc__law_due_order.nd rfl (by first | exact Or.inl rfl | exact Or.inr rfl))) (fun _ _ _ _ _ => (pts_one (pt_cmpR op_eq (pe_ix (ixT_ K) (pv 3) pe_int (fun _ _ => rfl)) (pv 4) (nomark _)))) (fun _ _ _ _ _ => (pv 3))) pa_nil)))))
      (pss_cons (ps_set (i := 5) sc__law_due_order.nd rfl (by first | exact Or.inl rfl | exact Or.inr rfl) (pe_lst pa_nil))
      (pss_cons (ps_for PassesOwn.never rfl (pi_range1 (by rfl) T.range (pa_cons (pv 0) pa_nil)) (pg_name (i := 6) sc__law_due_order.nd rfl (by first | exact Or.inl rfl | exact Or.inr rfl))
      (pss_cons (ps_setLc (i := 7) (own := [("lamp", 4)]) (g := gName 4) rfl sc__law_due_order.nd rfl rfl (sw_true rfl rfl rfl (by kernel_rfl)) (pi_range1 (by rfl) T.range (pa_cons (pv 0) pa_nil)) (blkOk_by (by kernel_rfl)) (fun _ _ _ _ _ => (pg_name (i := 4) sc__law_due_order.nd rfl (by first | exact Or.inl rfl | exact Or.inr rfl))) (fun _ _ _ _ _ => (pts_one (PW.pt (pw_and (pt_cmpR op_eq (pe_ix (ixL_ K) (pv 2) (pv 4) (fun _ _ => rfl)) pe_int (nomark _)) (pw_and1 (pt_cmpR (ninS_ K) (pv 4) (pv 5) (by rfl))))))) (fun _ _ _ _ _ => (pv 4)))
      (pss_cons (ps_set (i := 5) sc__law_due_order.nd rfl (by first | exact Or.inl rfl | exact Or.inr rfl) (pe_op op_cat (pv 5) (pe_slice (slL_ K) (pv 7) po_none (po_some pe_int))))
      (pss_one (ps_for PassesOwn.never rfl (pil_ K (pv 1)) (pg_name (i := 3) sc__law_due_order.nd rfl (by first | exact Or.inl rfl | exact Or.inr rfl))
      (pss_one (ps_if (pt_cmpR (inS_ K) (pe_ix (ixT_ K) (pv 3) pe_int (fun _ _ => rfl)) (pe_slice (slL_ K) (pv 7) po_none (po_some pe_int)) (by rfl))
      (pss_one (ps_asg (pe_op op_sub (pe_ix (ixL_ K) (pv 2) (pe_ix (ixT_ K) (pv 3) pe_int (fun _ _ => rfl)) (fun _ _ => rfl)) pe_int) (pg_sub (pv 2) (pe_ix (ixT_ K) (pv 3) pe_int (fun _ _ => rfl)) set_list))) pss_nil)))))))
      (pss_one (ps_ret (pv 5)))))), ?_⟩
    refine ⟨_, rfl, _, rfl, by omega, by omega, fun D hD => ?_⟩
    rw [Int.toNat_natCast]
    refine lc_range (fun i H2 => H2 D = some (.lst (nL ((List.range i).map (cw ps [])))) ∧ Same H H2) ⟨upd_same, same_new hD⟩ ?_ ?_
    · rintro i H2 hi ⟨hd, s2⟩
      have e0 : (0 : Int) + (i : Int) = (i : Int) := by omega
      rw [e0]
      refine ⟨rfl, yesT ⟨_, rfl, a, rfl, ⟨_, SqL.of (s2 _ _ ha)⟩, fun E1 hE => ?_⟩⟩
      refine lc_list (xs := ts.map V.ref) (fun m H3 => (∃ us : List V, H3 E1 = some (.lst us) ∧ us.length = cw (ps.take m) [] i ∧ us.length ≤ m) ∧ Same H2 H3) ⟨⟨[], upd_same, rfl, Nat.le_refl _⟩, same_new hE⟩ (fun m H3 _ ⟨_, s⟩ => SqL.of (s _ _ (s2 _ _ ha))) ?_ ?_
      · rintro m y H3 hy ⟨⟨us, hu, lu, lm⟩, s3⟩
        obtain ⟨t, p, rfl, ht, hp, hpt⟩ := pair_at hps hy
        have hpt3 := s3 _ _ (s2 _ _ hpt)
        have mlt : m < ps.length := (List.getElem?_eq_some_iff.mp hp).1
        refine ⟨rfl, _, rfl, t, _, _, _, rfl, rfl, SqT.of hpt3, atI_nat (j := 1) rfl, _, rfl, rfl, _, rfl, ?_⟩
        refine ite2 (fun hz => ?_) (fun hz => ?_)
        · have z := of_decide_eq_true hz
          injection z with z
          refine ⟨_, rfl, _, hu, by rw [sizeLine_eq]; omega, ⟨_, upd_same, ?_, by rw [List.length_append, List.length_singleton]; omega⟩, same_upd s3 hE⟩
          rw [List.length_append, cw_more hp, if_pos ⟨by omega, List.not_mem_nil⟩, lu]; rfl
        · refine ⟨⟨us, hu, ?_, by omega⟩, s3⟩
          rw [cw_more hp, if_neg (fun z => hz (decide_eq_true (by rw [z.1]))), lu, Nat.add_zero]
      · rintro H3 ⟨⟨us, hu, lu, lm⟩, s3⟩
        rw [List.length_map, hps.1, List.take_length] at lu
        refine ⟨E1, _, rfl, .inl (SqL.of hu), _, s3 _ _ hd, by rw [nL_len, List.length_map, List.length_range, sizeLine_eq]; omega, ?_, same_upd (s2.trans s3) hD⟩
        rw [upd_same, List.range_succ, List.map_append, nL_app, lu]; rfl
    rintro H2 ⟨hd, s2⟩
    have hd : H2 D = some (.lst (nF n (cw ps []))) := hd
    refine ⟨by decide, fun r nr => ?_⟩
    have rD : r ≠ D := (ne_of_none hd nr).symm
    have s3 : Same H2 (upd H2 r (.lst [])) := same_new nr
    refine ⟨_, rfl, _, rfl, by omega, by omega, ?_⟩
    rw [Int.toNat_natCast]
    refine for_range (fun k σ H3 => ∃ (v3 v4 v6 v7 : Option V) (rr : Addr), σ = [some (.int n), some (.ref a), some (.ref D), v3, v4, some (.ref rr), v6, v7] ∧ Same H H3 ∧ H3 D = some (.lst (nF n (cw ps (ordN n (relOf ps) k)))) ∧ H3 rr = some (.lst (nL (ordN n (relOf ps) k))) ∧ rr ≠ D ∧ H rr = Option.none)
      ⟨_, _, _, _, r, rfl, s2.trans s3, s3 _ _ hd, upd_same, rD, s2.free nr⟩ ?_ ?_
    · rintro k σ H3 hk ⟨v3, v4, v6, v7, rr, rfl, s3, hd3, hr3, nrD, rr0⟩
      obtain ⟨lk, ok⟩ := ordN_ok hR k (Nat.le_of_lt hk)
      obtain ⟨c, rest, ec⟩ := cands_ne (n := n) hR (ord := ordN n (relOf ps) k) (by omega)
      have osucc := ordN_succ ec
      have cn : c ∉ ordN n (relOf ps) k := by
        have : c ∈ cands n (relOf ps) (ordN n (relOf ps) k) := by rw [ec]; exact List.mem_cons_self
        exact (nxt_iff.mp (List.mem_filter.mp this).2).1
      have nxE : ∀ i, i < n → nxt n (relOf ps) (ordN n (relOf ps) k) i = (decide (cw ps (ordN n (relOf ps) k) i = 0) && decide (i ∉ ordN n (relOf ps) k)) := fun i hi => cw_nxt lt ok hi
      generalize hrow : ordN n (relOf ps) k = row at *
      refine ⟨_, rfl, _, rfl, by omega, by omega, fun E1 hE => ?_⟩
      rw [Int.toNat_natCast]
      refine lc_range (fun i H4 => H4 E1 = some (.lst (nL ((List.range i).filter (nxt n (relOf ps) row)))) ∧ Same H3 H4) ⟨upd_same, same_new hE⟩ ?_ ?_
      · rintro i H4 hi ⟨h4, s4⟩
        have e0 : (0 : Int) + (i : Int) = (i : Int) := by omega
        rw [e0]
        have fewi := filt_few' (nxt n (relOf ps) row) i
        refine ⟨rfl, _, rfl, _, rfl, D, _, _, _, rfl, rfl, SqL.of (s4 _ _ hd3), atI_nat (nF_get hi), rfl, _, rfl, ?_⟩
        have gz : ∀ b : Nat, decide (V.int (b : Int) = V.int 0) = decide (b = 0) := fun b => decide_eq_decide.mpr ⟨fun z => by injection z with z; omega, fun z => by rw [z]; rfl⟩
        rw [gz]
        refine ite2 (fun hz => ?_) (fun hz => ?_)
        · refine ⟨_, rfl, _, rfl, rr, _, rfl, .inl (SqL.of (s4 _ _ hr3)), rfl, flat_nL _, _, rfl, ?_⟩
          show if (!inV (V.int (i : Int)) (nL row)) = true then _ else _
          rw [in_nL, ← decide_not]
          refine ite2 (fun hy => ?_) (fun hy => ?_)
          · refine ⟨_, rfl, _, h4, by rw [nL_len, sizeLine_eq]; omega, ?_, same_upd s4 hE⟩
            rw [upd_same, filt_more', if_pos (by rw [nxE i hi, hz, hy]; rfl), nL_app]; rfl
          · refine ⟨?_, s4⟩
            rw [h4, filt_more', if_neg (by rw [nxE i hi, Bool.eq_false_iff.mpr hy, Bool.and_false]; exact Bool.false_ne_true), List.append_nil]
        · refine ⟨?_, s4⟩
          rw [h4, filt_more', if_neg (by rw [nxE i hi, Bool.eq_false_iff.mpr hz, Bool.false_and]; exact Bool.false_ne_true), List.append_nil]
      rintro H4 ⟨h4, s4⟩
      have h4 : H4 E1 = some (.lst (nL (c :: rest))) := by rw [h4, ← ec]; rfl
      have cut1 : cutV (nL (c :: rest)) none (some 1) = nL [c] := cut_front (g := V.int) rfl 1
      have nED : E1 ≠ D := (ne_of_none hd3 hE).symm
      have s04 := s3.trans s4
      refine ⟨_, rfl, _, rfl, _, rfl, E1, _, rfl, SqL.of h4, fun p np => ?_⟩
      rw [cut1]
      have s5 : Same H4 (upd H4 p (.lst (nL [c]))) := same_new np
      have hp5 : (upd H4 p (.lst (nL [c]))) p = some (.lst (nL [c])) := upd_same
      generalize upd H4 p (.lst (nL [c])) = H5 at s5 hp5 ⊢
      refine ⟨rr, p, _, _, rfl, rfl, s5 _ _ (s4 _ _ hr3), hp5, by rw [nL_len, nL_len, lk, sizeLine_eq]; show k + 1 ≤ _; omega, fun r2 nr2 => ?_⟩
      rw [← nL_app, ← osucc]
      have s6 : Same H5 (upd H5 r2 (.lst (nL (ordN n (relOf ps) (k + 1))))) := same_new nr2
      have hr6 : (upd H5 r2 (.lst (nL (ordN n (relOf ps) (k + 1))))) r2 = some (.lst (nL (ordN n (relOf ps) (k + 1)))) := upd_same
      have r2D : r2 ≠ D := (ne_of_none (s5 _ _ (s4 _ _ hd3)) nr2).symm
      have r20 : H r2 = Option.none := (s04.trans s5).free nr2
      have hd6 := s6 _ _ (s5 _ _ (s4 _ _ hd3))
      have he6 := s6 _ _ (s5 _ _ h4)
      have s06 := (s04.trans s5).trans s6
      generalize upd H5 r2 (.lst (nL (ordN n (relOf ps) (k + 1)))) = H6 at s6 hr6 hd6 he6 s06 ⊢
      refine ⟨_, rfl, a, rfl, ⟨_, SqL.of (s06 _ _ ha)⟩, ?_⟩
      refine for_list (K := K) (a := a) (xs := ts.map V.ref) (fun m σ H7 => ∃ (v3 v4 v6 : Option V), σ = [some (.int n), some (.ref a), some (.ref D), v3, v4, some (.ref r2), v6, some (.ref E1)] ∧ Same H H7 ∧ H7 D = some (.lst (nF n (mixW ps row c m))) ∧ H7 r2 = some (.lst (nL (ordN n (relOf ps) (k + 1)))) ∧ H7 E1 = some (.lst (nL (c :: rest))))
        ⟨_, _, _, rfl, s06, by rw [hd6]; congr 2; exact nF_congr fun j _ => by unfold mixW; rw [List.take_zero, List.drop_zero]; show _ = 0 + _; rw [Nat.zero_add], hr6, he6⟩ (fun m σ H7 _ ⟨_, _, _, _, s, _⟩ => SqL.of (s _ _ ha)) ?_ ?_
      · rintro m y σ H7 hy ⟨v3, v4, v6, rfl, s7, hd7, hr7, he7⟩
        obtain ⟨t, p, rfl, ht, hp, hpt⟩ := pair_at hps hy
        have hpt7 := s7 _ _ hpt
        have pl := lt p (List.mem_of_getElem? hp)
        refine ⟨_, rfl, t, _, _, _, rfl, rfl, SqT.of hpt7, atI_nat (j := 0) rfl, _, rfl, _, rfl, E1, _, rfl, SqL.of he7, fun p2 np2 => ?_⟩
        rw [cut1]
        have s8 : Same H7 (upd H7 p2 (.lst (nL [c]))) := same_new np2
        have hp8 : (upd H7 p2 (.lst (nL [c]))) p2 = some (.lst (nL [c])) := upd_same
        generalize upd H7 p2 (.lst (nL [c])) = H8 at s8 hp8 ⊢
        refine ⟨p2, _, rfl, .inl (SqL.of hp8), rfl, flat_nL _, _, rfl, ?_⟩
        show if inV (V.int (p.1 : Int)) (nL [c]) = true then _ else _
        rw [in_nL]
        have hd8 := s8 _ _ hd7
        have s08 := s7.trans s8
        refine ite2 (fun hz => ?_) (fun hz => ?_)
        · have pc : p.1 = c := List.mem_singleton.mp (of_decide_eq_true hz)
          have hh := mix_hit hp pc cn
          refine ⟨_, rfl, _, rfl, t, _, _, _, rfl, rfl, SqT.of (s8 _ _ hpt7), atI_nat (j := 1) rfl, D, _, _, _, rfl, rfl, SqL.of hd8, atI_nat (nF_get pl.2), _, _, rfl, rfl, _, rfl, _, rfl, t, _, _, _, rfl, rfl, SqT.of (s8 _ _ hpt7), atI_nat (j := 1) rfl, set_at hd8 (ixN_nat (by rw [nF_len]; exact pl.2)) fun H9 s9 h9 => ?_⟩
          refine ⟨_, _, _, rfl, s9.to_same s08 hD, ?_, s9 _ _ r2D (s8 _ _ hr7), s9 _ _ nED (s8 _ _ he7)⟩
          have e9 : V.int (((mixW ps row c m p.2 : Nat) : Int) - 1) = V.int ((mixW ps row c (m + 1) p.2 : Nat) : Int) := by
            have := hh p.2
            rw [if_pos rfl] at this
            congr 1; omega
          have h9 : H9 D = some (.lst ((nF n (mixW ps row c m)).set p.2 (V.int (((mixW ps row c m p.2 : Nat) : Int) - 1)))) := h9
          rw [h9, e9, nF_set]
          congr 2
          refine nF_congr fun j _ => ?_
          by_cases e : j = p.2
          · rw [if_pos e, e]
          · have := hh j
            rw [if_neg e] at this ⊢
            omega
        · have pc : p.1 ≠ c := fun z => hz (decide_eq_true (by rw [z]; exact List.mem_cons_self))
          refine ⟨_, _, _, rfl, s08, ?_, s8 _ _ hr7, s8 _ _ he7⟩
          rw [hd8]
          congr 2
          exact nF_congr fun j _ => mix_miss hp pc j
      · rintro σ H7 ⟨v3, v4, v6, rfl, s7, hd7, hr7, he7⟩
        rw [List.length_map, hps.1] at hd7
        refine ⟨_, _, _, _, r2, rfl, s7, ?_, hr7, r2D, r20⟩
        rw [hd7, osucc]
        congr 2
        refine nF_congr fun j _ => ?_
        unfold mixW
        rw [List.take_length, List.drop_length]
        rfl
    · rintro σ H3 ⟨v3, v4, v6, v7, rr, rfl, s3, hd3, hr3, nrD, rr0⟩
      exact ⟨_, rfl, q rr H3 s3 rr0 hr3⟩
end
end Hue

end
section
set_option maxRecDepth 100000
set_option maxHeartbeats 4000000
namespace Hue
open PySem PySem.Spec PyProof.Rows L2
section
variable {P : Program} {w : World} {K : PySem.W.Frag} {mg : Str → Option Value} {base : Heap} {C CL CS CN : Addr}
/-! ### plain data that may stand for a state or a number -/
inductive All2 (R : V → PyData → Prop) : List V → List PyData → Prop
  | nil : All2 R [] []
  | cons {x : V} {d : PyData} {xs : List V} {ds : List PyData} : R x d → All2 R xs ds → All2 R (x :: xs) (d :: ds)
namespace All2
variable {R R' : V → PyData → Prop}
theorem len : ∀ {xs : List V} {ds : List PyData}, All2 R xs ds → xs.length = ds.length
  | _, _, .nil => rfl
  | _, _, .cons _ r => by rw [List.length_cons, List.length_cons, len r]
theorem get : ∀ {xs : List V} {ds : List PyData} {i : Nat} {x : V}, All2 R xs ds → xs[i]? = some x → ∃ d, ds[i]? = some d ∧ R x d
  | _, _, i, x, .nil, h => by simp at h
  | _, _, 0, x, .cons r _, h => by cases h; exact ⟨_, rfl, r⟩
  | _, _, i + 1, x, .cons (xs := xs) (ds := ds) _ r, h => get (xs := xs) (ds := ds) (i := i) (x := x) r h
theorem imp (f : ∀ x d, R x d → R' x d) : ∀ {xs : List V} {ds : List PyData}, All2 R xs ds → All2 R' xs ds
  | _, _, .nil => .nil
  | _, _, .cons a r => .cons (f _ _ a) (imp f r)
theorem app : ∀ {xs ys : List V} {ds es : List PyData}, All2 R xs ds → All2 R ys es → All2 R (xs ++ ys) (ds ++ es)
  | _, _, _, _, .nil, b => b
  | _, _, _, _, .cons a r, b => .cons a (app r b)
end All2
inductive Lf : V → PyData → Prop
  | int (i : Int) (h : i.natAbs < 10 ^ 38) : Lf (.int i) (.int i)
  | bl (b : Bool) : Lf (.bl b) (.bool b)
  | non : Lf .non .none
  | str (x : Str) (h : PyData.leavesShort 40 (.str x) = true) (hs : x.cps.size ≤ 100) : Lf (.str x) (.str x)
inductive Lf1 (H : Hp) : V → PyData → Prop
  | lf {v : V} {d : PyData} : Lf v d → Lf1 H v d
  | tup {t : Addr} {xs : List V} {ds : List PyData} : H t = some (.tup xs) → All2 Lf xs ds → xs.length ≤ 20 → Lf1 H (.ref t) (.tuple ds)
  | lst {t : Addr} {xs : List V} {ds : List PyData} : H t = some (.lst xs) → All2 Lf xs ds → xs.length ≤ 20 → Lf1 H (.ref t) (.list ds)
inductive Lf2 (H : Hp) : V → PyData → Prop
  | lf {v : V} {d : PyData} : Lf v d → Lf2 H v d
  | tup {t : Addr} {xs : List V} {ds : List PyData} : H t = some (.tup xs) → All2 (Lf1 H) xs ds → xs.length ≤ 20 → Lf2 H (.ref t) (.tuple ds)
  | lst {t : Addr} {xs : List V} {ds : List PyData} : H t = some (.lst xs) → All2 (Lf1 H) xs ds → xs.length ≤ 20 → Lf2 H (.ref t) (.list ds)
theorem Lf1.same {H H' : Hp} {v : V} {d : PyData} (o : Lf1 H v d) (s : Same H H') : Lf1 H' v d := by
  cases o with
  | lf l => exact .lf l
  | tup h a b => exact .tup (s _ _ h) a b
  | lst h a b => exact .lst (s _ _ h) a b
theorem Lf2.same {H H' : Hp} {v : V} {d : PyData} (o : Lf2 H v d) (s : Same H H') : Lf2 H' v d := by
  cases o with
  | lf l => exact .lf l
  | tup h a b => exact .tup (s _ _ h) (a.imp fun _ _ z => z.same s) b
  | lst h a b => exact .lst (s _ _ h) (a.imp fun _ _ z => z.same s) b
theorem Lf.kd {H : Hp} {v : V} {d : PyData} (o : Lf v d) : Kd H v := by
  cases o with
  | int i h => exact .int i
  | bl b => exact .bl b
  | non => exact .non
  | str x _ _ => exact .str x
theorem Lf1.kd {H : Hp} {v : V} {d : PyData} (o : Lf1 H v d) : Kd H v := by
  cases o with
  | lf l => exact l.kd
  | tup h _ _ => exact .tup h
  | lst h _ _ => exact .lst h
theorem Lf2.kd {H : Hp} {v : V} {d : PyData} (o : Lf2 H v d) : Kd H v := by
  cases o with
  | lf l => exact l.kd
  | tup h _ _ => exact .tup h
  | lst h _ _ => exact .lst h
/-- what repr asks of the data -/
structure DOk (w b : Nat) (d : PyData) : Prop where
  sh : PyData.leavesShort 40 d = true
  sw : d.showable = true
  no : d.hasDict = false
  dp : d.depth ≤ b
  wt : d.weight ≤ w
theorem Lf.ok {v : V} {d : PyData} (o : Lf v d) : DOk 200 2 d := by
  cases o with
  | int i h =>
    have l2 : i.natAbs.log2 < 127 := by
      rcases Nat.eq_zero_or_pos i.natAbs with z | z
      · rw [z]; decide
      · exact (Nat.log2_lt (by omega)).mpr (Nat.lt_of_lt_of_le h (by decide))
    refine ⟨?_, decide_eq_true (by omega), rfl, by simp [PyData.depth], ?_⟩
    · have l := PySem.int_text_length_le10 (a := i) (k := 38) (by decide) h
      show decide ((PyData.shown (.int i)).length ≤ 40) = true
      refine decide_eq_true ?_
      have e : (PyData.shown (.int i)).length = (toString i).length := by
        show (Str.ofString (toString i)).length = _
        exact PySem.ofString_length _
      omega
    · show (if i == 0 then 0 else i.natAbs.log2 + 1) ≤ 200
      split <;> omega
  | bl b => exact ⟨rfl, rfl, rfl, by simp [PyData.depth], by simp [PyData.weight]⟩
  | non => exact ⟨rfl, rfl, rfl, by simp [PyData.depth], by simp [PyData.weight]⟩
  | str x h hs => exact ⟨h, rfl, rfl, by simp [PyData.depth], by show x.cps.size ≤ 200; omega⟩
theorem all_ok {R : V → PyData → Prop} {w b : Nat} (f : ∀ v d, R v d → DOk w b d) : ∀ {xs : List V} {ds : List PyData}, All2 R xs ds → PyData.leavesShortAll 40 ds = true ∧ PyData.showableAll ds = true ∧ PyData.hasDictAll ds = false ∧ PyData.depthAll ds ≤ b ∧ PyData.weightAll ds ≤ xs.length * (w + 1)
  | _, _, .nil => ⟨rfl, rfl, rfl, by simp [PyData.depthAll], by simp [PyData.weightAll]⟩
  | _, _, .cons a r => by
    obtain ⟨h1, h2, h3, h4, h5⟩ := all_ok f r
    obtain ⟨g1, g2, g3, g4, g5⟩ := f _ _ a
    refine ⟨by simp only [PyData.leavesShortAll, g1, h1]; rfl, by simp only [PyData.showableAll, g2, h2]; rfl, by simp only [PyData.hasDictAll, g3, h3]; rfl, by simp only [PyData.depthAll]; omega, ?_⟩
    simp only [PyData.weightAll, List.length_cons, Nat.succ_mul]
    omega
theorem seq_ok {R : V → PyData → Prop} {w b : Nat} (f : ∀ v d, R v d → DOk w b d) {xs : List V} {ds : List PyData} (a : All2 R xs ds) (l : xs.length ≤ 20) : DOk (20 * (w + 1)) (b + 1) (.tuple ds) ∧ DOk (20 * (w + 1)) (b + 1) (.list ds) := by
  obtain ⟨h1, h2, h3, h4, h5⟩ := all_ok f a
  have h6 : xs.length * (w + 1) ≤ 20 * (w + 1) := Nat.mul_le_mul_right _ l
  constructor
  · refine ⟨by simp only [PyData.leavesShort]; exact h1, by simp only [PyData.showable]; exact h2, by simp only [PyData.hasDict]; exact h3, ?_, ?_⟩
    · simp only [PyData.depth]; omega
    · simp only [PyData.weight]; omega
  · refine ⟨by simp only [PyData.leavesShort]; exact h1, by simp only [PyData.showable]; exact h2, by simp only [PyData.hasDict]; exact h3, ?_, ?_⟩
    · simp only [PyData.depth]; omega
    · simp only [PyData.weight]; omega
theorem DOk.mono {w w' b b' : Nat} {d : PyData} (o : DOk w b d) (h : w ≤ w') (g : b ≤ b') : DOk w' b' d := ⟨o.sh, o.sw, o.no, Nat.le_trans o.dp g, Nat.le_trans o.wt h⟩
theorem Lf1.ok {H : Hp} {v : V} {d : PyData} (o : Lf1 H v d) : DOk 4020 3 d := by
  cases o with
  | lf l => exact l.ok.mono (by decide) (by decide)
  | tup _ a l => exact (seq_ok (fun _ _ z => z.ok) a l).1
  | lst _ a l => exact (seq_ok (fun _ _ z => z.ok) a l).2
theorem Lf2.ok {H : Hp} {v : V} {d : PyData} (o : Lf2 H v d) : DOk 80420 4 d := by
  cases o with
  | lf l => exact l.ok.mono (by decide) (by decide)
  | tup _ a l => exact (seq_ok (fun _ _ z => z.ok) a l).1
  | lst _ a l => exact (seq_ok (fun _ _ z => z.ok) a l).2
theorem Lf.dp {H : Hp} {v : V} {d : PyData} (o : Lf v d) : Dp K H v d := by
  cases o with
  | int i h => exact .int i
  | bl b => exact .bl b
  | non => exact .non
  | str x _ _ => exact .str x
theorem all_dp {R : V → PyData → Prop} {H : Hp} (f : ∀ v d, R v d → Dp K H v d) : ∀ {xs : List V} {ds : List PyData}, All2 R xs ds → DpAll K H xs ds
  | _, _, .nil => .nil
  | _, _, .cons a r => .cons (f _ _ a) (all_dp f r)
theorem Lf1.dp {H : Hp} {v : V} {d : PyData} (o : Lf1 H v d) : Dp K H v d := by
  cases o with
  | lf l => exact l.dp
  | tup h a _ => exact .tup (SqT.of h) (all_dp (fun _ _ z => z.dp) a)
  | lst h a _ => exact .lst (SqL.of h) (all_dp (fun _ _ z => z.dp) a)
theorem Lf2.dp {H : Hp} {v : V} {d : PyData} (o : Lf2 H v d) : Dp K H v d := by
  cases o with
  | lf l => exact l.dp
  | tup h a _ => exact .tup (SqT.of h) (all_dp (fun _ _ z => z.dp) a)
  | lst h a _ => exact .lst (SqL.of h) (all_dp (fun _ _ z => z.dp) a)
/-- its repr -/
theorem Lf2.repr {H : Hp} {v : V} {d : PyData} (o : Lf2 H v d) {Q : VK} (q : Q (.str d.shown) H) : rRepr K [v] H Q := by
  have ok := o.ok
  have l := PyData.shown_le 40 (by decide) d ok.sh
  have wt := ok.wt
  have m : (40 + 2) * d.weight ≤ (40 + 2) * 80420 := Nat.mul_le_mul_left _ wt
  exact ⟨v, d, rfl, o.dp, ok.sw, ok.no, by have := ok.dp; omega, by rw [sizeLine_eq]; omega, q⟩
/-! ### which of them is a state -/
def inD (h : Nat) : PyData → Bool
  | .int i => decide (0 ≤ i) && decide (i ≤ (h : Int) - 1)
  | _ => false
def stB (n h : Nat) : PyData → Bool
  | .tuple ds => decide (ds.length = n) && ds.all (inD h)
  | _ => false
theorem Lf.in_ {v : V} {d : PyData} (o : Lf v d) (h : Nat) : inI v 0 ((h : Int) - 1) = inD h d := by cases o <;> rfl
theorem Lf1.in_ {H : Hp} {v : V} {d : PyData} (o : Lf1 H v d) (h : Nat) : inI v 0 ((h : Int) - 1) = inD h d := by
  cases o with
  | lf l => exact l.in_ h
  | tup _ _ _ => rfl
  | lst _ _ _ => rfl
theorem all_int {R : V → PyData → Prop} (f : ∀ v i, R v (.int i) → v = .int i) {h : Nat} : ∀ {xs : List V} {ds : List PyData}, All2 R xs ds → ds.all (inD h) = true → ∃ S : List Int, xs = stV S ∧ ds = S.map .int ∧ ∀ z ∈ S, 0 ≤ z ∧ z < (h : Int)
  | _, _, .nil, _ => ⟨[], rfl, rfl, fun z hz => by cases hz⟩
  | _, _, .cons (d := d) a r, hd => by
    rw [List.all_cons, Bool.and_eq_true] at hd
    obtain ⟨S, e1, e2, e3⟩ := all_int f r hd.2
    cases d with
    | int i =>
      have z : (decide (0 ≤ i) && decide (i ≤ (h : Int) - 1)) = true := hd.1
      rw [Bool.and_eq_true, decide_eq_true_eq, decide_eq_true_eq] at z
      refine ⟨i :: S, by rw [f _ _ a, e1]; rfl, by rw [e2]; rfl, fun y hy => ?_⟩
      rcases List.mem_cons.mp hy with e | hy
      · rw [e]; omega
      · exact e3 y hy
    | _ => exact absurd hd.1 (by intro z; cases z)
theorem Lf1.int_ {H : Hp} {v : V} {i : Int} (o : Lf1 H v (.int i)) : v = .int i := by
  cases o with
  | lf l => cases l; rfl
theorem Lf2.st {H : Hp} {v : V} {d : PyData} {n h : Nat} (o : Lf2 H v d) (hb : stB n h d = true) : ∃ (t : Addr) (S : List Int), v = .ref t ∧ H t = some (.tup (stV S)) ∧ StOk n h S ∧ d = stD S := by
  cases o with
  | lf l => cases l <;> cases hb
  | @tup t xs ds ht a l =>
    have z : (decide (ds.length = n) && ds.all (inD h)) = true := hb
    rw [Bool.and_eq_true, decide_eq_true_eq] at z
    obtain ⟨S, e1, e2, e3⟩ := all_int (fun v i z => Lf1.int_ z) a z.2
    refine ⟨t, S, rfl, by rw [ht, e1], ⟨?_, e3⟩, by rw [e2]; rfl⟩
    rw [← z.1, e2, List.length_map]
  | lst _ _ _ => cases hb
theorem ints_all (R : V → PyData → Prop) (f : ∀ i : Int, i.natAbs < 10 ^ 38 → R (.int i) (.int i)) : ∀ S : List Int, (∀ z ∈ S, z.natAbs < 10 ^ 38) → All2 R (stV S) (S.map .int)
  | [], _ => .nil
  | i :: S, h => .cons (f i (h i List.mem_cons_self)) (ints_all R f S fun z hz => h z (List.mem_cons_of_mem _ hz))
theorem st_lf2 {H : Hp} {t : Addr} {S : List Int} (ht : H t = some (.tup (stV S))) (l : S.length ≤ 20) (b : ∀ z ∈ S, z.natAbs < 10 ^ 38) : Lf2 H (.ref t) (stD S) := .tup ht (ints_all _ (fun i h => .lf (.int i h)) S b) (by rw [List.length_map]; exact l)
theorem st_lf1 {H : Hp} {t : Addr} {S : List Int} (ht : H t = some (.tup (stV S))) (l : S.length ≤ 20) (b : ∀ z ∈ S, z.natAbs < 10 ^ 38) : Lf1 H (.ref t) (stD S) := .tup ht (ints_all _ (fun i h => .int i h) S b) (by rw [List.length_map]; exact l)
theorem StOk.small {n h : Nat} {S : List Int} (o : StOk n h S) (h10 : h ≤ 10) : ∀ z ∈ S, z.natAbs < 10 ^ 38 := fun z hz => by
  have := o.2 z hz
  have e : (10 : Nat) ^ 38 = 100000000000000000000000000000000000000 := by decide
  omega
theorem st_stB {n h : Nat} {S : List Int} (o : StOk n h S) : stB n h (stD S) = true := by
  show (decide ((S.map PyData.int).length = n) && (S.map PyData.int).all (inD h)) = true
  rw [List.length_map, decide_eq_true o.1, Bool.true_and, List.all_eq_true]
  intro d hd
  obtain ⟨z, hz, rfl⟩ := List.mem_map.mp hd
  have := o.2 z hz
  show (decide (0 ≤ z) && decide (z ≤ (h : Int) - 1)) = true
  rw [decide_eq_true this.1, decide_eq_true (by omega)]
  rfl
abbrev s_is_state : Stmt := top 12
theorem sc_is_state : FnScope ["house", "value", "hue"] ["house", "value"] (defScope s_is_state) := ⟨rfl, rfl, rfl, by decide +kernel, rfl, by decide +kernel, by decide +kernel⟩
-- slots of is_state: 0 house, 1 value, 2 hue
def spIsStateV (C : Addr) : Sp := fun vs H Q _ => ∃ (x : Addr) (n h : Nat) (R : Rel) (v : V) (d : PyData), vs = [.ref x, v] ∧ HouseAt C H x n h R ∧ n ≤ 16 ∧ Lf2 H v d ∧ ∀ H', Same H H' → Q (.bl (stB n h d)) H'
theorem ok_is_state (T : Txt K mg C) {f : Addr} {fd : FuncData} (F : Fun K "is_state" "is_state" s_is_state f fd) (c_is_whole_in : Cal P w K mg base "is_whole_in" 2 spWholeInV) : FnOk P w K mg base CX0 3 f fd ["house", "value"] (spIsStateV C) := by
  refine F.ok sc_is_state (fun vs H Q E h => ?_) (fun cdv A outer s H vs Q E hr h => ?_)
  · obtain ⟨x, n, h, R, v, d, rfl, _⟩ := h; rfl
  · obtain ⟨x, n, h, R, v, d, rfl, ⟨dx, fs, be, o, h1, h2, h3, h4, h5, h6, h7, h8, h9⟩, n16, od, q⟩ := h
    refine ⟨_, (pss_cons (ps_if (PW.pt (pw_or (pt_not (pt_val (pe_callB (isi_ K) (by rfl) T.isinstance b_isinstance (pa_cons (pv 1) (pa_cons (pe_bltn (v := .ty "tuple") (by rfl) T.tuple b_tuple rfl) pa_nil))))) (pw_or1 (pt_cmpR op_ne (pe_callB (lenS_ K) (by rfl) T.len b_len (pa_cons (pv 1) pa_nil)) (fld_ K (pv 0)) (nomark _)))))
      (pss_one (ps_ret pe_bl)) pss_nil)
      (pss_one (ps_ret (pe_callB (all_ K rfl) (by rfl) T.all b_all (pa_cons (pe_lc (own := [("hue", 2)]) (g := gName 2) (tt := tYes) rfl sc_is_state.nd (pit_ K (pv 1)) (blkOk_by (by kernel_rfl)) (fun _ _ _ _ _ => (pg_name (i := 2) sc_is_state.nd rfl (by first | exact Or.inl rfl | exact Or.inr rfl))) (fun _ _ _ _ _ => pts_nil) (fun _ _ _ _ _ => (pe_cal c_is_whole_in (hr.mono (by decide)) (pa_cons (pv 2) (pa_cons pe_int (pa_cons (pe_op op_sub (fld_ K (pv 0)) pe_int) pa_nil)))))) pa_nil))))), ?_⟩
    cases od with
    | lf l =>
      cases l with
      | int i _ => exact ⟨_, rfl, _, _, _, _, false, rfl, .ty _, .base (.int i), kit_ty (by decide +kernel), false, rfl, iteT (q H (Same.refl H))⟩
      | bl b => exact ⟨_, rfl, _, _, _, _, false, rfl, .ty _, .base (.bl b), kit_ty (by decide +kernel), false, rfl, iteT (q H (Same.refl H))⟩
      | non => exact ⟨_, rfl, _, _, _, _, false, rfl, .ty _, .base .non, kit_ty (by decide +kernel), false, rfl, iteT (q H (Same.refl H))⟩
      | str z _ _ => exact ⟨_, rfl, _, _, _, _, false, rfl, .ty _, .base (.str z), kit_ty (by decide +kernel), false, rfl, iteT (q H (Same.refl H))⟩
    | lst ht _ _ => exact ⟨_, rfl, _, _, _, _, false, rfl, .ty _, .base (.lst ht), kit_ty (by decide +kernel), false, rfl, iteT (q H (Same.refl H))⟩
    | @tup t xs ds ht a l =>
      have al := a.len
      refine ⟨_, rfl, _, _, _, _, true, rfl, .ty _, .base (.tup ht), kit_ty (by decide +kernel), true, rfl, iteF ?_⟩
      refine ⟨_, rfl, t, _, rfl, .inr (SqT.of ht), _, rfl, x, C, dx, _, _, rfl, h1, T.cl, T.nCount, h2, rfl, _, rfl, ?_⟩
      have gi : decide (V.int (xs.length : Int) = V.int (n : Int)) = decide (ds.length = n) := decide_eq_decide.mpr ⟨fun z => by injection z with z; omega, fun z => by rw [al, z]⟩
      rw [gi]
      refine ite2 (fun hne => ?_) (fun heq => ?_)
      · have z : stB n h (.tuple ds) = false := by
          show (decide (ds.length = n) && ds.all (inD h)) = false
          rw [show decide (ds.length = n) = false by simpa using hne, Bool.false_and]
        rw [z] at q
        exact q H (Same.refl H)
      · have z : stB n h (.tuple ds) = ds.all (inD h) := by
          show (decide (ds.length = n) && ds.all (inD h)) = _
          rw [show decide (ds.length = n) = true by simpa using heq, Bool.true_and]
        rw [z] at q
        refine ⟨_, rfl, t, rfl, ⟨_, SqT.of ht⟩, fun D hD => ?_⟩
        refine lc_tup (xs := xs) (fun i H3 => H3 D = some (.lst (((ds.take i).map (inD h)).map V.bl)) ∧ Same H H3) ⟨upd_same, same_new hD⟩ (fun i H3 _ ⟨_, s⟩ => SqT.of (s _ _ ht)) ?_ ?_
        · rintro i y H3 hy ⟨h3', s3⟩
          obtain ⟨e, he, ye⟩ := a.get hy
          have il := (List.getElem?_eq_some_iff.mp hy).1
          refine ⟨rfl, yesT ⟨_, rfl, _, rfl, x, C, dx, _, _, rfl, s3 _ _ h1, T.cl, T.nHues, h3, _, _, rfl, rfl, y, 0, (h : Int) - 1, rfl, (ye.same s3).kd, _, h3', ?_, ?_, same_upd s3 hD⟩⟩
          · rw [List.length_map, List.length_map, List.length_take, sizeLine_eq]; omega
          · rw [upd_same, List.take_add_one, he, List.map_append, List.map_append, ye.in_ h]
            rfl
        · rintro H3 ⟨h3', s3⟩
          rw [al, List.take_length] at h3'
          refine ⟨D, _, rfl, SqL.of h3', ?_⟩
          have e : (ds.map (inD h)).all id = ds.all (inD h) := by rw [List.all_map]; rfl
          rw [e]
          exact q H3 s3
abbrev s_check_state : Stmt := top 13
theorem sc_check_state : FnScope ["house", "state"] ["house", "state"] (defScope s_check_state) := ⟨rfl, rfl, rfl, by decide +kernel, rfl, by decide +kernel, by decide +kernel⟩
-- slots of check_state: 0 house, 1 state
def spCheckStateX (C CS : Addr) : Sp := fun vs H Q E => ∃ (x : Addr) (n h : Nat) (R : Rel) (v : V) (d : PyData), vs = [.ref x, v] ∧ HouseAt C H x n h R ∧ n ≤ 16 ∧ Lf2 H v d ∧ (∀ (t : Addr) (S : List Int) (H' : Hp), v = .ref t → H t = some (.tup (stV S)) → StOk n h S → Same H H' → Q .non H') ∧ (stB n h d = false → Odd1 CS "state" v H E)
theorem ok_check_state (T : Txt K mg C) (M_state : XMk P w K mg base CS "InvalidState" "state") {f : Addr} {fd : FuncData} (F : Fun K "check_state" "check_state" s_check_state f fd) (c_is_state : Cal P w K mg base "is_state" 3 (spIsStateV C)) : FnOk P w K mg base (L2.CX P w) 4 f fd ["house", "state"] (spCheckStateX C CS) := by
  refine F.okX sc_check_state (fun vs H Q E h => ?_) (fun cdv A outer s H vs Q E hr h => ?_)
  · obtain ⟨x, n, h, R, v, d, rfl, _⟩ := h; rfl
  · obtain ⟨x, n, h, R, v, d, rfl, ha, n16, od, q1, q2⟩ := h
    refine ⟨_, (pss_one (ps_if (pt_not (pt_val (pe_cal c_is_state (hr.mono (by decide)) (pa_cons (pv 0) (pa_cons (pv 1) pa_nil)))))
      (pss_one (ps_raiseM M_state rfl (takes_of rfl rfl rfl rfl) (hr.mono (by decide)) (pa_cons (pv 1) pa_nil))) pss_nil)), ?_⟩
    refine ⟨_, rfl, _, rfl, x, n, h, R, v, d, rfl, ha, n16, od, fun H1 s1 => ?_⟩
    cases e : stB n h d with
    | true =>
      obtain ⟨t, S, ev, ht, ok, _⟩ := od.st e
      exact ⟨true, rfl, iteF (q1 t S H1 ev ht ok s1)⟩
    | false => exact ⟨false, rfl, iteT ⟨_, rfl, by show 1 ≤ 1000; decide, fun a na => keep_raised M_state.cls.oex M_state.no ((q2 e).after s1) a na⟩⟩
abbrev s_InvalidState___init__ : Stmt := inClass (top 5) 0
theorem sc_InvalidState___init__ : FnScope ["self", "state"] ["self", "state"] (defScope s_InvalidState___init__) := ⟨rfl, rfl, rfl, by decide +kernel, rfl, by decide +kernel, by decide +kernel⟩
-- slots of InvalidState.__init__: 0 self, 1 state
theorem ok_InvalidState {f : Addr} {fd : FuncData} (F : Fun K "__init__" "InvalidState.__init__" s_InvalidState___init__ f fd) : FnOk P w K mg base CX0 1 f fd ["self", "state"] (spKeep K "state") := by
  refine F.ok sc_InvalidState___init__ (fun vs H Q E h => ?_) (fun cdv A outer s H vs Q E hr h => ?_)
  · obtain ⟨a, D, v, rfl, _⟩ := h; rfl
  · obtain ⟨a, D, v, rfl, T, no, ha, q⟩ := h
    refine ⟨_, (pss_one (ps_ost (pv 0) (pv 1))), ?_⟩
    exact ⟨_, rfl, _, rfl, a, D, rfl, T, no, .inl ⟨ha, fun dx nd ne => q dx nd ne⟩⟩
abbrev s_InvalidNumber___init__ : Stmt := inClass (top 6) 0
theorem sc_InvalidNumber___init__ : FnScope ["self", "number"] ["self", "number"] (defScope s_InvalidNumber___init__) := ⟨rfl, rfl, rfl, by decide +kernel, rfl, by decide +kernel, by decide +kernel⟩
-- slots of InvalidNumber.__init__: 0 self, 1 number
theorem ok_InvalidNumber {f : Addr} {fd : FuncData} (F : Fun K "__init__" "InvalidNumber.__init__" s_InvalidNumber___init__ f fd) : FnOk P w K mg base CX0 1 f fd ["self", "number"] (spKeep K "number") := by
  refine F.ok sc_InvalidNumber___init__ (fun vs H Q E h => ?_) (fun cdv A outer s H vs Q E hr h => ?_)
  · obtain ⟨a, D, v, rfl, _⟩ := h; rfl
  · obtain ⟨a, D, v, rfl, T, no, ha, q⟩ := h
    refine ⟨_, (pss_one (ps_ost (pv 0) (pv 1))), ?_⟩
    exact ⟨_, rfl, _, rfl, a, D, rfl, T, no, .inl ⟨ha, fun dx nd ne => q dx nd ne⟩⟩
end
end Hue

end
section
set_option maxRecDepth 100000
set_option maxHeartbeats 4000000
namespace Hue
open PySem PySem.Spec PyProof.Rows L2
section
variable {P : Program} {w : World} {K : PySem.W.Frag} {mg : Str → Option Value} {base : Heap} {C CL CS CN : Addr}
/-! ### numbers that hues spell -/
/-- the number read on from x, the hues S along ord -/
def numF (h : Nat) (S : List Int) (x : Int) (ord : List Nat) : Int := ord.foldl (fun a l => a * (h : Int) + at_ S l) x
theorem numF_app (h : Nat) (S : List Int) (x : Int) (a b : List Nat) : numF h S x (a ++ b) = numF h S (numF h S x a) b := by
  unfold numF; rw [List.foldl_append]
theorem numF_one (h : Nat) (S : List Int) (x : Int) (l : Nat) : numF h S x [l] = x * (h : Int) + at_ S l := rfl
theorem numF_cons (h : Nat) (S : List Int) (x : Int) (l : Nat) (ls : List Nat) : numF h S x (l :: ls) = numF h S (x * (h : Int) + at_ S l) ls := rfl
theorem numF_congr {h : Nat} {S T : List Int} : ∀ {ord : List Nat} {x : Int}, (∀ l ∈ ord, at_ S l = at_ T l) → numF h S x ord = numF h T x ord
  | [], _, _ => rfl
  | l :: ls, x, e => by
    rw [numF_cons, numF_cons, e l List.mem_cons_self]
    exact numF_congr fun k hk => e k (List.mem_cons_of_mem _ hk)
theorem numF_pos {h : Nat} {S : List Int} : ∀ {ord : List Nat} {x : Int}, 0 ≤ x → (∀ l ∈ ord, 0 ≤ at_ S l) → 0 ≤ numF h S x ord
  | [], _, x0, _ => x0
  | l :: ls, x, x0, e => by
    rw [numF_cons]
    refine numF_pos ?_ fun k hk => e k (List.mem_cons_of_mem _ hk)
    have a := e l List.mem_cons_self
    have b : 0 ≤ x * (h : Int) := Int.mul_nonneg x0 (by omega)
    omega
/-- less ahead is less in all -/
theorem numF_lt {h : Nat} {S T : List Int} : ∀ {ord : List Nat} {x y : Int}, x < y → (∀ l ∈ ord, 0 ≤ at_ S l ∧ at_ T l < (h : Int)) → numF h T x ord < numF h S y ord
  | [], _, _, lt, _ => lt
  | l :: ls, x, y, lt, e => by
    rw [numF_cons, numF_cons]
    refine numF_lt ?_ fun k hk => e k (List.mem_cons_of_mem _ hk)
    have a := e l List.mem_cons_self
    have b : (x + 1) * (h : Int) ≤ y * (h : Int) := Int.mul_le_mul_of_nonneg_right (by omega) (by omega)
    rw [Int.add_mul, Int.one_mul] at b
    omega
theorem numF_bound {h : Nat} {S : List Int} : ∀ {ord : List Nat} {x : Int}, (∀ l ∈ ord, at_ S l < (h : Int)) → numF h S x ord < (x + 1) * (h : Int) ^ ord.length
  | [], x, _ => by
    show x < (x + 1) * (h : Int) ^ 0
    rw [Int.pow_zero, Int.mul_one]; omega
  | l :: ls, x, e => by
    rw [numF_cons]
    have ih := numF_bound (ord := ls) (x := x * (h : Int) + at_ S l) fun k hk => e k (List.mem_cons_of_mem _ hk)
    have a := e l List.mem_cons_self
    have b : (x * (h : Int) + at_ S l + 1) * (h : Int) ^ ls.length ≤ ((x + 1) * (h : Int)) * (h : Int) ^ ls.length := Int.mul_le_mul_of_nonneg_right (by rw [Int.add_mul, Int.one_mul]; omega) (Int.pow_nonneg (by omega))
    rw [List.length_cons, Int.pow_succ]
    have c : (x + 1) * ((h : Int) ^ ls.length * (h : Int)) = ((x + 1) * (h : Int)) * (h : Int) ^ ls.length := by
      rw [Int.mul_comm ((h : Int) ^ ls.length) (h : Int), Int.mul_assoc]
    rw [c]
    omega
/-- two that add up to a third in every hue do so in the number -/
theorem numF_sub {h : Nat} {S T B : List Int} : ∀ {ord : List Nat} {x y : Int}, (∀ l ∈ ord, at_ T l = at_ B l - at_ S l) → numF h T (y - x) ord = numF h B y ord - numF h S x ord
  | [], _, _, _ => rfl
  | l :: ls, x, y, e => by
    rw [numF_cons, numF_cons, numF_cons, e l List.mem_cons_self]
    have q : (y - x) * (h : Int) + (at_ B l - at_ S l) = (y * (h : Int) + at_ B l) - (x * (h : Int) + at_ S l) := by rw [Int.sub_mul]; omega
    rw [q]
    exact numF_sub fun k hk => e k (List.mem_cons_of_mem _ hk)
/-! ### the hues that a number spells -/
def digS (h : Nat) (p : List Int × Int) (l : Nat) : List Int × Int := (p.1.set l (p.2 % (h : Int)), p.2 / (h : Int))
/-- along the list of lamps ls, the last one's hue the lowest digit -/
def digF (h : Nat) (ls : List Nat) (p : List Int × Int) : List Int × Int := ls.foldl (digS h) p
theorem digF_cons (h : Nat) (l : Nat) (ls : List Nat) (p : List Int × Int) : digF h (l :: ls) p = digF h ls (p.1.set l (p.2 % (h : Int)), p.2 / (h : Int)) := rfl
theorem digF_more {h : Nat} {ls : List Nat} {i l : Nat} (e : ls[i]? = some l) (p : List Int × Int) : digF h (ls.take (i + 1)) p = digS h (digF h (ls.take i) p) l := by
  unfold digF
  rw [List.take_add_one, e, List.foldl_append]
  rfl
theorem digF_len (h : Nat) : ∀ (ls : List Nat) (p : List Int × Int), (digF h ls p).1.length = p.1.length
  | [], _ => rfl
  | l :: ls, p => by
    rw [digF_cons, digF_len h ls]
    show (p.1.set l _).length = _
    rw [List.length_set]
theorem at_setI {S : List Int} {k j : Nat} {v : Int} (hk : k < S.length) : at_ (S.set k v) j = if k = j then v else at_ S j := by
  unfold at_
  rw [List.getD_eq_getElem?_getD, List.getD_eq_getElem?_getD, List.getElem?_set]
  by_cases e : k = j
  · rw [if_pos e, if_pos e, if_pos hk]; rfl
  · rw [if_neg e, if_neg e]
theorem digF_off (h : Nat) : ∀ (ls : List Nat) (p : List Int × Int) (j : Nat), (∀ l ∈ ls, l < p.1.length) → j ∉ ls → at_ (digF h ls p).1 j = at_ p.1 j
  | [], _, _, _, _ => rfl
  | l :: ls, p, j, lt, nj => by
    have ll := lt l List.mem_cons_self
    rw [digF_cons, digF_off h ls _ j (fun k hk => by rw [List.length_set]; exact lt k (List.mem_cons_of_mem _ hk)) (fun z => nj (List.mem_cons_of_mem _ z))]
    show at_ (p.1.set l _) j = _
    rw [at_setI ll, if_neg (fun e => nj (by rw [e]; exact List.mem_cons_self))]
/-- reading the hues again gives the number -/
theorem num_dig {h : Nat} (h1 : 1 ≤ h) : ∀ (ls : List Nat) (p : List Int × Int), ls.Nodup → (∀ l ∈ ls, l < p.1.length) → numF h (digF h ls p).1 (digF h ls p).2 ls.reverse = p.2
  | [], _, _, _ => rfl
  | l :: ls, p, nd, lt => by
    obtain ⟨n1, n2⟩ := List.nodup_cons.mp nd
    have ll := lt l List.mem_cons_self
    have lt' : ∀ k ∈ ls, k < (p.1.set l (p.2 % (h : Int))).length := fun k hk => by rw [List.length_set]; exact lt k (List.mem_cons_of_mem _ hk)
    rw [List.reverse_cons, numF_app, numF_one, digF_cons]
    have ih := num_dig h1 ls (p.1.set l (p.2 % (h : Int)), p.2 / (h : Int)) n2 lt'
    rw [ih, digF_off h ls _ l lt' n1]
    show p.2 / (h : Int) * (h : Int) + at_ (p.1.set l (p.2 % (h : Int))) l = p.2
    rw [at_setI ll, if_pos rfl, Int.mul_comm]
    exact Int.mul_ediv_add_emod p.2 (h : Int)
theorem dig_rest {h : Nat} (h1 : 1 ≤ h) : ∀ (ls : List Nat) (p : List Int × Int), 0 ≤ p.2 → p.2 < (h : Int) ^ ls.length → (digF h ls p).2 = 0
  | [], p, a, b => by
    have b : p.2 < (h : Int) ^ 0 := b
    rw [Int.pow_zero] at b
    show p.2 = 0
    omega
  | l :: ls, p, a, b => by
    rw [digF_cons]
    refine dig_rest h1 ls _ (Int.ediv_nonneg a (by omega)) ?_
    show p.2 / (h : Int) < (h : Int) ^ ls.length
    rw [List.length_cons, Int.pow_succ] at b
    exact Int.ediv_lt_of_lt_mul (by omega) b
/-- the hues of a number that hues spell -/
theorem dig_num {h : Nat} {S : List Int} (ok : ∀ l, 0 ≤ at_ S l ∧ at_ S l < (h : Int)) (x : Int) : ∀ (ls : List Nat) (r : List Int), (∀ l ∈ ls, l < r.length) → ls.Nodup → ∀ j ∈ ls, at_ (digF h ls (r, numF h S x ls.reverse)).1 j = at_ S j
  | [], _, _, _, _, hj => by cases hj
  | l :: ls, r, lt, nd, j, hj => by
    obtain ⟨n1, n2⟩ := List.nodup_cons.mp nd
    have ll := lt l List.mem_cons_self
    have o := ok l
    have h0 : (0 : Int) < (h : Int) := by omega
    have lt' : ∀ v, ∀ k ∈ ls, k < (r.set l v).length := fun v k hk => by rw [List.length_set]; exact lt k (List.mem_cons_of_mem _ hk)
    rw [List.reverse_cons, numF_app, numF_one, digF_cons]
    dsimp only
    have e1 : (numF h S x ls.reverse * (h : Int) + at_ S l) % (h : Int) = at_ S l := by
      rw [Int.add_comm, Int.add_mul_emod_self_right]
      exact Int.emod_eq_of_lt o.1 o.2
    have e2 : (numF h S x ls.reverse * (h : Int) + at_ S l) / (h : Int) = numF h S x ls.reverse := by
      rw [Int.add_comm, Int.add_mul_ediv_right _ _ (by omega), Int.ediv_eq_zero_of_lt o.1 o.2, Int.zero_add]
    rw [e1, e2]
    by_cases e : j = l
    · rw [e, digF_off h ls _ l (lt' _) n1]
      show at_ (r.set l (at_ S l)) l = _
      rw [at_setI ll, if_pos rfl]
    · exact dig_num ok x ls _ (lt' _) n2 j ((List.mem_cons.mp hj).resolve_left e)
theorem dig_ok {h : Nat} (h1 : 1 ≤ h) : ∀ (ls : List Nat) (p : List Int × Int), (∀ z ∈ p.1, 0 ≤ z ∧ z < (h : Int)) → ∀ z ∈ (digF h ls p).1, 0 ≤ z ∧ z < (h : Int)
  | [], _, ok => ok
  | l :: ls, p, ok => by
    rw [digF_cons]
    refine dig_ok h1 ls _ fun z hz => ?_
    rcases List.mem_or_eq_of_mem_set hz with z1 | z1
    · exact ok z z1
    · rw [z1]
      exact ⟨Int.emod_nonneg _ (by omega), Int.emod_lt_of_pos _ (by omega)⟩
theorem st_extI {S T : List Int} {n : Nat} (l1 : S.length = n) (l2 : T.length = n) (h : ∀ j, j < n → at_ S j = at_ T j) : S = T := by
  refine List.ext_getElem? fun i => ?_
  by_cases hi : i < n
  · have e := h i hi
    unfold at_ at e
    rw [List.getD_eq_getElem?_getD, List.getD_eq_getElem?_getD, List.getElem?_eq_getElem (by omega), List.getElem?_eq_getElem (by omega)] at e
    rw [List.getElem?_eq_getElem (by omega), List.getElem?_eq_getElem (by omega)]
    exact congrArg some e
  · rw [List.getElem?_eq_none (by omega), List.getElem?_eq_none (by omega)]
theorem StOk.all_ {n h : Nat} {S : List Int} (o : StOk n h S) (h1 : 1 ≤ h) (l : Nat) : 0 ≤ at_ S l ∧ at_ S l < (h : Int) := by
  by_cases hl : l < n
  · exact o.at hl
  · have e : at_ S l = 0 := by
      unfold at_
      rw [List.getD_eq_getElem?_getD, List.getElem?_eq_none (by rw [o.1]; omega)]
      rfl
    rw [e]; omega
/-! ### what the order list must be -/
structure OrdL (n : Nat) (ord : List Nat) : Prop where
  nd : ord.Nodup
  lt : ∀ l ∈ ord, l < n
  len : ord.length = n
  all : ∀ l, l < n → l ∈ ord
def zs (n : Nat) : List Int := List.replicate n 0
/-- the hues of the number k -/
def stN (n h : Nat) (ord : List Nat) (k : Int) : List Int := (digF h ord.reverse (zs n, k)).1
theorem stN_len (n h : Nat) (ord : List Nat) (k : Int) : (stN n h ord k).length = n := by
  unfold stN
  rw [digF_len]
  show (List.replicate n (0 : Int)).length = n
  rw [List.length_replicate]
theorem stN_ok {n h : Nat} (h1 : 1 ≤ h) (ord : List Nat) (k : Int) : StOk n h (stN n h ord k) := ⟨stN_len .., dig_ok h1 _ _ fun z hz => by
  have e := List.eq_of_mem_replicate (show z ∈ List.replicate n (0 : Int) from hz)
  rw [e]; omega⟩
theorem num_stN {n h : Nat} {ord : List Nat} (O : OrdL n ord) (h1 : 1 ≤ h) {k : Int} (k0 : 0 ≤ k) (k1 : k < (h : Int) ^ n) : numF h (stN n h ord k) 0 ord = k := by
  have e := num_dig h1 ord.reverse (zs n, k) ((List.reverse_perm _).nodup_iff.mpr O.nd) (fun l hl => by
    show l < (List.replicate n (0 : Int)).length
    rw [List.length_replicate]; exact O.lt l (List.mem_reverse.mp hl))
  rw [dig_rest h1 ord.reverse (zs n, k) k0 (by rw [List.length_reverse, O.len]; exact k1), List.reverse_reverse] at e
  exact e
theorem stN_num {n h : Nat} {ord : List Nat} {S : List Int} (O : OrdL n ord) (h1 : 1 ≤ h) (ok : StOk n h S) : stN n h ord (numF h S 0 ord) = S := by
  refine st_extI (stN_len ..) ok.1 fun j hj => ?_
  have e := dig_num (ok.all_ h1) 0 ord.reverse (zs n) (fun l hl => by
    show l < (List.replicate n (0 : Int)).length
    rw [List.length_replicate]; exact O.lt l (List.mem_reverse.mp hl)) ((List.reverse_perm _).nodup_iff.mpr O.nd) j (List.mem_reverse.mpr (O.all j hj))
  rw [List.reverse_reverse] at e
  exact e
theorem num_range {n h : Nat} {ord : List Nat} {S : List Int} (O : OrdL n ord) (h1 : 1 ≤ h) (ok : StOk n h S) : 0 ≤ numF h S 0 ord ∧ numF h S 0 ord < (h : Int) ^ n := by
  refine ⟨numF_pos (Int.le_refl 0) fun l _ => (ok.all_ h1 l).1, ?_⟩
  have b := numF_bound (h := h) (S := S) (ord := ord) (x := 0) fun l _ => (ok.all_ h1 l).2
  rw [O.len, Int.zero_add, Int.one_mul] at b
  exact b
theorem ordL {n : Nat} {R : Rel} (hR : Ranked R) : OrdL n (ordN n R n) := by
  obtain ⟨l, o⟩ := ordN_ok hR n (Nat.le_refl n)
  exact ⟨o.nd, o.lt, l, fun k hk => ord_all hR hk⟩
/-! ### the program -/
abbrev s_power : Stmt := top 10
theorem sc_power : FnScope ["base", "exponent", "result", "_"] ["base", "exponent"] (defScope s_power) := ⟨rfl, rfl, rfl, by decide +kernel, rfl, by decide +kernel, by decide +kernel⟩
-- slots of power: 0 base, 1 exponent, 2 result, 3 _
theorem pow_bound {b e : Nat} (hb : b ≤ 10) (he : e ≤ 16) : b ^ e ≤ 10 ^ 16 := Nat.le_trans (Nat.pow_le_pow_left hb e) (Nat.pow_le_pow_right (by decide) he)
def spPower : Sp := fun vs H Q _ => ∃ b e : Nat, vs = [.int b, .int e] ∧ b ≤ 10 ∧ e ≤ 16 ∧ Q (.int ((b ^ e : Nat) : Int)) H
theorem ok_power (T : Txt K mg C) {f : Addr} {fd : FuncData} (F : Fun K "power" "power" s_power f fd) : FnOk P w K mg base CX0 1 f fd ["base", "exponent"] spPower := by
  refine F.ok sc_power (fun vs H Q E h => ?_) (fun cdv A outer s H vs Q E hr h => ?_)
  · obtain ⟨b, e, rfl, _⟩ := h; rfl
  · obtain ⟨b, e, rfl, hb, he, q⟩ := h
    refine ⟨_, (pss_cons (ps_set (i := 2) sc_power.nd rfl (by first | exact Or.inl rfl | exact Or.inr rfl) pe_int)
      (pss_cons (ps_for PassesOwn.never rfl (pi_range1 (by rfl) T.range (pa_cons (pv 1) pa_nil)) (pg_name (i := 3) sc_power.nd rfl (by first | exact Or.inl rfl | exact Or.inr rfl))
      (pss_one (ps_set (i := 2) sc_power.nd rfl (by first | exact Or.inl rfl | exact Or.inr rfl) (pe_op op_mul (pv 2) (pv 0)))))
      (pss_one (ps_ret (pv 2))))), ?_⟩
    refine ⟨_, rfl, _, rfl, by omega, by omega, ?_⟩
    rw [Int.toNat_natCast]
    refine for_range (fun i σ H2 => H2 = H ∧ ∃ v3 : Option V, σ = [some (.int b), some (.int e), some (.int ((b ^ i : Nat) : Int)), v3]) ⟨rfl, _, rfl⟩ ?_ ?_
    · rintro i σ H2 hi ⟨rfl, v3, rfl⟩
      refine ⟨_, rfl, _, rfl, _, _, rfl, rfl, .inr ⟨by omega, by omega⟩, rfl, some (.int ((0 : Int) + (i : Int))), ?_⟩
      show [some (V.int b), some (V.int e), some (V.int (((b ^ i : Nat) : Int) * (b : Int))), some (V.int ((0 : Int) + (i : Int)))] = _
      rw [Nat.pow_succ, Int.natCast_mul]
    · rintro σ H2 ⟨rfl, v3, rfl⟩
      exact ⟨_, rfl, q⟩
abbrev s_state_count : Stmt := top 20
theorem sc_state_count : FnScope ["house"] ["house"] (defScope s_state_count) := ⟨rfl, rfl, rfl, by decide +kernel, rfl, by decide +kernel, by decide +kernel⟩
-- slots of state_count: 0 house
def spStateCount (C : Addr) : Sp := fun vs H Q _ => ∃ (x : Addr) (n h : Nat) (R : Rel), vs = [.ref x] ∧ HouseAt C H x n h R ∧ n ≤ 16 ∧ h ≤ 10 ∧ Q (.int ((h ^ n : Nat) : Int)) H
theorem ok_state_count (T : Txt K mg C) {f : Addr} {fd : FuncData} (F : Fun K "state_count" "state_count" s_state_count f fd) (c_power : Cal P w K mg base "power" 1 spPower) : FnOk P w K mg base CX0 2 f fd ["house"] (spStateCount C) := by
  refine F.ok sc_state_count (fun vs H Q E h => ?_) (fun cdv A outer s H vs Q E hr h => ?_)
  · obtain ⟨x, n, h, R, rfl, _⟩ := h; rfl
  · obtain ⟨x, n, h, R, rfl, ⟨dx, fs, be, o, h1, h2, h3, h4, h5, h6, h7, h8, h9⟩, n16, h10, q⟩ := h
    refine ⟨_, (pss_one (ps_ret (pe_cal c_power (hr.mono (by decide)) (pa_cons (fld_ K (pv 0)) (pa_cons (fld_ K (pv 0)) pa_nil))))), ?_⟩
    exact ⟨_, rfl, x, C, dx, _, _, rfl, h1, T.cl, T.nHues, h3, _, rfl, x, C, dx, _, _, rfl, h1, T.cl, T.nCount, h2, h, n, rfl, h10, n16, q⟩
theorem repI (n : Nat) (z : Int) : (List.replicate ((n : Int)).toNat [V.int z]).flatten = stV (List.replicate n z) := by
  rw [Int.toNat_natCast]
  unfold stV
  rw [List.map_replicate]
  induction n with
  | zero => rfl
  | succ n ih => rw [List.replicate_succ, List.flatten_cons, ih, List.replicate_succ]; rfl
abbrev s_dark_state : Stmt := top 14
theorem sc_dark_state : FnScope ["house"] ["house"] (defScope s_dark_state) := ⟨rfl, rfl, rfl, by decide +kernel, rfl, by decide +kernel, by decide +kernel⟩
-- slots of dark_state: 0 house
/-- a new tuple of n equal hues, or an old one -/
def spAll (C : Addr) (g : Nat → Int) : Sp := fun vs H Q _ => ∃ (x : Addr) (n h : Nat) (R : Rel), vs = [.ref x] ∧ HouseAt C H x n h R ∧ 1 ≤ n ∧ n ≤ 16 ∧ 2 ≤ h ∧ h ≤ 10 ∧ ∀ (t : Addr) (H' : Hp), Same H H' → H' t = some (.tup (stV (List.replicate n (g h)))) → Q (.ref t) H'
theorem ok_dark_state (T : Txt K mg C) {f : Addr} {fd : FuncData} (F : Fun K "dark_state" "dark_state" s_dark_state f fd) : FnOk P w K mg base CX0 1 f fd ["house"] (spAll C fun _ => 0) := by
  refine F.ok sc_dark_state (fun vs H Q E h => ?_) (fun cdv A outer s H vs Q E hr h => ?_)
  · obtain ⟨x, n, h, R, rfl, _⟩ := h; rfl
  · obtain ⟨x, n, h, R, rfl, ⟨dx, fs, be, o, h1, h2, h3, h4, h5, h6, h7, h8, h9⟩, n1, n16, hh2, h10, q⟩ := h
    refine ⟨_, (pss_one (ps_ret (pe_op (op_repTA K) (pe_tup (pa_cons pe_int pa_nil)) (fld_ K (pv 0))))), ?_⟩
    refine ⟨by show 1 ≤ sizeLine; decide, fun z nz => ?_⟩
    have s1 : Same H (upd H z (.tup [.int 0])) := same_new nz
    have hz : (upd H z (.tup [.int 0])) z = some (.tup [.int 0]) := upd_same
    generalize upd H z (.tup [.int 0]) = H1 at s1 hz ⊢
    refine ⟨_, rfl, x, C, dx, _, _, rfl, s1 _ _ h1, T.cl, T.nCount, h2, z, _, _, rfl, rfl, SqT.of hz, by simp, by omega, by omega, by simp, fun e => ?_, fun _ p np => ?_⟩
    · have en : n = 1 := by omega
      exact q z H1 s1 (by rw [hz, en]; rfl)
    · rw [repI]
      exact q p _ (s1.trans (same_new np)) upd_same
abbrev s_bright_state : Stmt := top 15
theorem sc_bright_state : FnScope ["house"] ["house"] (defScope s_bright_state) := ⟨rfl, rfl, rfl, by decide +kernel, rfl, by decide +kernel, by decide +kernel⟩
-- slots of bright_state: 0 house
theorem ok_bright_state (T : Txt K mg C) {f : Addr} {fd : FuncData} (F : Fun K "bright_state" "bright_state" s_bright_state f fd) : FnOk P w K mg base CX0 1 f fd ["house"] (spAll C fun h => (h : Int) - 1) := by
  refine F.ok sc_bright_state (fun vs H Q E h => ?_) (fun cdv A outer s H vs Q E hr h => ?_)
  · obtain ⟨x, n, h, R, rfl, _⟩ := h; rfl
  · obtain ⟨x, n, h, R, rfl, ⟨dx, fs, be, o, h1, h2, h3, h4, h5, h6, h7, h8, h9⟩, n1, n16, hh2, h10, q⟩ := h
    refine ⟨_, (pss_one (ps_ret (pe_op (op_repTA K) (pe_tup (pa_cons (pe_op op_sub (fld_ K (pv 0)) pe_int) pa_nil)) (fld_ K (pv 0))))), ?_⟩
    refine ⟨_, rfl, x, C, dx, _, _, rfl, h1, T.cl, T.nHues, h3, _, _, rfl, rfl, by show 1 ≤ sizeLine; decide, fun z nz => ?_⟩
    have s1 : Same H (upd H z (.tup [.int ((h : Int) - 1)])) := same_new nz
    have hz : (upd H z (.tup [.int ((h : Int) - 1)])) z = some (.tup [.int ((h : Int) - 1)]) := upd_same
    generalize upd H z (.tup [.int ((h : Int) - 1)]) = H1 at s1 hz ⊢
    refine ⟨_, rfl, x, C, dx, _, _, rfl, s1 _ _ h1, T.cl, T.nCount, h2, z, _, _, rfl, rfl, SqT.of hz, by simp, by omega, by omega, by simp, fun e => ?_, fun _ p np => ?_⟩
    · have en : n = 1 := by omega
      exact q z H1 s1 (by rw [hz, en]; rfl)
    · rw [repI]
      exact q p _ (s1.trans (same_new np)) upd_same
abbrev s_mirror : Stmt := top 16
theorem sc_mirror : FnScope ["house", "state", "hue"] ["house", "state"] (defScope s_mirror) := ⟨rfl, rfl, rfl, by decide +kernel, rfl, by decide +kernel, by decide +kernel⟩
-- slots of mirror: 0 house, 1 state, 2 hue
def mirS (h : Nat) (S : List Int) : List Int := S.map fun z => (h : Int) - 1 - z
/-- what a def that checks a state gives: sg where it is one -/
def StX (CS : Addr) (n h : Nat) (v : V) (d : PyData) (H : Hp) (E : XK) (sg : Addr → List Int → Prop) : Prop := (∀ (t : Addr) (S : List Int), v = .ref t → H t = some (.tup (stV S)) → StOk n h S → sg t S) ∧ (stB n h d = false → Odd1 CS "state" v H E)
def spMirrorX (C CS : Addr) : Sp := fun vs H Q E => ∃ (x : Addr) (n h : Nat) (R : Rel) (v : V) (d : PyData), vs = [.ref x, v] ∧ HouseAt C H x n h R ∧ n ≤ 16 ∧ Lf2 H v d ∧ StX CS n h v d H E fun _ S => ∀ (p : Addr) (H' : Hp), Same H H' → H' p = some (.tup (stV (mirS h S))) → Q (.ref p) H'
theorem ok_mirror (T : Txt K mg C) {f : Addr} {fd : FuncData} (F : Fun K "mirror" "mirror" s_mirror f fd) (c_check_state : CalX P w K mg base "check_state" 4 (spCheckStateX C CS)) : FnOk P w K mg base (L2.CX P w) 5 f fd ["house", "state"] (spMirrorX C CS) := by
  refine F.okX sc_mirror (fun vs H Q E h => ?_) (fun cdv A outer s H vs Q E hr h => ?_)
  · obtain ⟨x, n, h, R, v, d, rfl, _⟩ := h; rfl
  · obtain ⟨x, n, h, R, v, d, rfl, ha, n16, od, q1, q2⟩ := h
    obtain ⟨dx, fs, be, o, h1, h2, h3, h4, h5, h6, h7, h8, h9⟩ := id ha
    refine ⟨_, (pss_cons (ps_expr (pe_calX c_check_state (takes_of rfl rfl rfl rfl) (hr.mono (by decide)) (pa_cons (pv 0) (pa_cons (pv 1) pa_nil))))
      (pss_one (ps_ret (pe_callTy (tupOf_ K) (by rfl) T.tuple b_tuple (pa_cons (pe_lc (own := [("hue", 2)]) (g := gName 2) (tt := tYes) rfl sc_mirror.nd (pit_ K (pv 1)) (blkOk_by (by kernel_rfl)) (fun _ _ _ _ _ => (pg_name (i := 2) sc_mirror.nd rfl (by first | exact Or.inl rfl | exact Or.inr rfl))) (fun _ _ _ _ _ => pts_nil) (fun _ _ _ _ _ => (pe_op op_sub (pe_op op_sub (fld_ K (pv 0)) pe_int) (pv 2)))) pa_nil))))), ?_⟩
    refine ⟨_, rfl, _, rfl, x, n, h, R, v, d, rfl, ha, n16, od, fun t S H1 ev ht ok s1 => ?_, q2⟩
    subst ev
    have q := q1 t S rfl ht ok
    have lS : (stV S).length = n := by rw [List.length_map, ok.1]
    refine ⟨_, rfl, t, rfl, ⟨_, SqT.of (s1 _ _ ht)⟩, fun D hD => ?_⟩
    refine lc_tup (xs := stV S) (fun i H3 => H3 D = some (.lst (stV (mirS h (S.take i)))) ∧ Same H1 H3) ⟨upd_same, same_new hD⟩ (fun i H3 _ ⟨_, s⟩ => SqT.of (s _ _ (s1 _ _ ht))) ?_ ?_
    · rintro i y H3 hy ⟨h3', s3⟩
      have il : i < n := by rw [← lS]; exact (List.getElem?_eq_some_iff.mp hy).1
      rw [stV_get (by rw [ok.1]; exact il)] at hy
      cases hy
      have si : S[i]? = some (at_ S i) := by
        unfold at_
        rw [List.getD_eq_getElem?_getD, List.getElem?_eq_getElem (by rw [ok.1]; exact il)]
        rfl
      refine ⟨rfl, yesT ⟨_, rfl, x, C, dx, _, _, rfl, s3 _ _ (s1 _ _ h1), T.cl, T.nHues, h3, _, _, rfl, rfl, _, rfl, _, _, rfl, rfl, _, h3', ?_, ?_, same_upd s3 hD⟩⟩
      · show (stV (mirS h (S.take i))).length < _
        unfold mirS stV
        rw [List.length_map, List.length_map, List.length_take, sizeLine_eq]; omega
      · rw [upd_same, List.take_add_one, si]
        unfold mirS stV
        rw [List.map_append, List.map_append]
        rfl
    · rintro H3 ⟨h3', s3⟩
      rw [lS, ← ok.1, List.take_length] at h3'
      exact ⟨D, _, rfl, .inl ⟨SqL.of h3', fun p np => q p _ ((s1.trans s3).trans (same_new np)) upd_same⟩⟩
abbrev s_lit_lamps : Stmt := top 17
theorem sc_lit_lamps : FnScope ["house", "state", "lamp"] ["house", "state"] (defScope s_lit_lamps) := ⟨rfl, rfl, rfl, by decide +kernel, rfl, by decide +kernel, by decide +kernel⟩
-- slots of lit_lamps: 0 house, 1 state, 2 lamp
def litL (n : Nat) (S : List Int) : List Nat := (List.range n).filter fun k => decide (at_ S k > 0)
def spLitX (C CS : Addr) : Sp := fun vs H Q E => ∃ (x : Addr) (n h : Nat) (R : Rel) (v : V) (d : PyData), vs = [.ref x, v] ∧ HouseAt C H x n h R ∧ n ≤ 16 ∧ Lf2 H v d ∧ StX CS n h v d H E fun _ S => ∀ (p : Addr) (H' : Hp), Same H H' → H p = none → H' p = some (.lst (nL (litL n S))) → Q (.ref p) H'
theorem ok_lit_lamps (T : Txt K mg C) {f : Addr} {fd : FuncData} (F : Fun K "lit_lamps" "lit_lamps" s_lit_lamps f fd) (c_check_state : CalX P w K mg base "check_state" 4 (spCheckStateX C CS)) : FnOk P w K mg base (L2.CX P w) 5 f fd ["house", "state"] (spLitX C CS) := by
  refine F.okX sc_lit_lamps (fun vs H Q E h => ?_) (fun cdv A outer s H vs Q E hr h => ?_)
  · obtain ⟨x, n, h, R, v, d, rfl, _⟩ := h; rfl
  · obtain ⟨x, n, h, R, v, d, rfl, ha, n16, od, q1, q2⟩ := h
    obtain ⟨dx, fs, be, o, h1, h2, h3, h4, h5, h6, h7, h8, h9⟩ := id ha
    refine ⟨_, (pss_cons (ps_expr (pe_calX c_check_state (takes_of rfl rfl rfl rfl) (hr.mono (by decide)) (pa_cons (pv 0) (pa_cons (pv 1) pa_nil))))
      (pss_one (ps_ret (pe_lc (own := [("lamp", 2)]) (g := gName 2) rfl sc_lit_lamps.nd (pi_range1 (by rfl) T.range (pa_cons (fld_ K (pv 0)) pa_nil)) (blkOk_by (by kernel_rfl)) (fun _ _ _ _ _ => (pg_name (i := 2) sc_lit_lamps.nd rfl (by first | exact Or.inl rfl | exact Or.inr rfl))) (fun _ _ _ _ _ => (pts_one (pt_cmpR op_gt (pe_ix (ixT_ K) (pv 1) (pv 2) (fun _ _ => rfl)) pe_int (nomark _)))) (fun _ _ _ _ _ => (pv 2)))))), ?_⟩
    refine ⟨_, rfl, _, rfl, x, n, h, R, v, d, rfl, ha, n16, od, fun t S H1 ev ht ok s1 => ?_, q2⟩
    subst ev
    have q := q1 t S rfl ht ok
    refine ⟨_, rfl, x, C, dx, _, _, rfl, s1 _ _ h1, T.cl, T.nCount, h2, _, rfl, by omega, by omega, fun D hD => ?_⟩
    rw [Int.toNat_natCast]
    refine lc_range (fun i H3 => H3 D = some (.lst (nL (litL i S))) ∧ Same H1 H3) ⟨upd_same, same_new hD⟩ ?_ ?_
    · rintro i H3 hi ⟨h3', s3⟩
      have e0 : (0 : Int) + (i : Int) = (i : Int) := by omega
      rw [e0]
      have few := filt_few' (fun k => decide (at_ S k > 0)) i
      refine ⟨rfl, _, rfl, _, rfl, t, _, _, _, rfl, rfl, SqT.of (s3 _ _ (s1 _ _ ht)), atI_nat (stV_get (by rw [ok.1]; exact hi)), _, _, rfl, rfl, _, rfl, ?_⟩
      have e : litL (i + 1) S = litL i S ++ (if decide (at_ S i > 0) = true then [i] else []) := filt_more' _ i
      refine ite2 (fun hy => ?_) (fun hn => ?_)
      · refine ⟨_, rfl, _, h3', by rw [nL_len, sizeLine_eq]; show ((List.range i).filter fun k => decide (at_ S k > 0)).length < _; omega, ?_, same_upd s3 hD⟩
        rw [upd_same, e, if_pos hy, nL_app]; rfl
      · refine ⟨?_, s3⟩
        rw [h3', e, if_neg hn, List.append_nil]
    · rintro H3 ⟨h3', s3⟩
      exact q D H3 (s1.trans s3) (s1.free hD) h3'
abbrev s_number_of : Stmt := top 18
theorem sc_number_of : FnScope ["house", "state", "number", "lamp"] ["house", "state"] (defScope s_number_of) := ⟨rfl, rfl, rfl, by decide +kernel, rfl, by decide +kernel, by decide +kernel⟩
-- slots of number_of: 0 house, 1 state, 2 number, 3 lamp
def spNumberX (C CS : Addr) : Sp := fun vs H Q E => ∃ (x : Addr) (n h : Nat) (R : Rel) (v : V) (d : PyData), vs = [.ref x, v] ∧ HouseAt C H x n h R ∧ n ≤ 16 ∧ h ≤ 10 ∧ Ranked R ∧ Lf2 H v d ∧ StX CS n h v d H E fun _ S => ∀ (H' : Hp), Same H H' → Q (.int (numF h S 0 (ordN n R n))) H'
theorem ok_number_of (T : Txt K mg C) {f : Addr} {fd : FuncData} (F : Fun K "number_of" "number_of" s_number_of f fd) (c_check_state : CalX P w K mg base "check_state" 4 (spCheckStateX C CS)) (M_order : MCal P w K mg base C "order" 1 (spOrder C)) : FnOk P w K mg base (L2.CX P w) 5 f fd ["house", "state"] (spNumberX C CS) := by
  refine F.okX sc_number_of (fun vs H Q E h => ?_) (fun cdv A outer s H vs Q E hr h => ?_)
  · obtain ⟨x, n, h, R, v, d, rfl, _⟩ := h; rfl
  · obtain ⟨x, n, h, R, v, d, rfl, ha, n16, h10, hR, od, q1, q2⟩ := h
    obtain ⟨dx, fs, be, o, h1, h2, h3, h4, h5, h6, h7, h8, h9⟩ := id ha
    obtain ⟨f_order, fd_order, ps_order, F_order, m_order, b_order⟩ := M_order.ex
    refine ⟨_, (pss_cons (ps_expr (pe_calX c_check_state (takes_of rfl rfl rfl rfl) (hr.mono (by decide)) (pa_cons (pv 0) (pa_cons (pv 1) pa_nil))))
      (pss_cons (ps_set (i := 2) sc_number_of.nd rfl (by first | exact Or.inl rfl | exact Or.inr rfl) pe_int)
      (pss_cons (ps_for (passes_of rfl) rfl (pil_ K (pe_meth0 (pv 0) T.cl m_order F_order (hr.mono (by decide)) b_order .nil pass0)) (pg_name (i := 3) sc_number_of.nd rfl (by first | exact Or.inl rfl | exact Or.inr rfl))
      (pss_one (ps_set (i := 2) sc_number_of.nd rfl (by first | exact Or.inl rfl | exact Or.inr rfl) (pe_op op_add (pe_op op_mul (pv 2) (fld_ K (pv 0))) (pe_ix (ixT_ K) (pv 1) (pv 3) (fun _ _ => rfl))))))
      (pss_one (ps_ret (pv 2)))))), ?_⟩
    refine ⟨_, rfl, _, rfl, x, n, h, R, v, d, rfl, ha, n16, od, fun t S H1 ev ht ok s1 => ?_, q2⟩
    subst ev
    have q := q1 t S rfl ht ok
    have O := ordL (n := n) hR
    refine ⟨_, rfl, x, dx, fs, rfl, s1 _ _ h1, h8, x, n, h, R, rfl, ha.same s1, fun H2 a s2 na hA => ?_⟩
    refine ⟨a, rfl, ⟨_, SqL.of hA⟩, ?_⟩
    refine for_list (K := K) (a := a) (xs := nL (ordN n R n)) (fun i σ H3 => ∃ v3 : Option V, σ = [some (.ref x), some (.ref t), some (.int (numF h S 0 ((ordN n R n).take i))), v3] ∧ Same H2 H3) ⟨_, rfl, Same.refl _⟩ (fun i σ H3 _ ⟨_, _, s⟩ => SqL.of (s _ _ hA)) ?_ ?_
    · rintro i y σ H3 hy ⟨v3, rfl, s3⟩
      obtain ⟨l, hl, rfl⟩ := nL_it2 hy
      have ln := O.lt l (List.mem_of_getElem? hl)
      have s13 := s2.trans s3
      refine ⟨_, rfl, _, rfl, x, C, dx, _, _, rfl, s13 _ _ (s1 _ _ h1), T.cl, T.nHues, h3, _, _, rfl, rfl, .inr ⟨by omega, by omega⟩, _, rfl, _, rfl, t, _, _, _, rfl, rfl, SqT.of (s13 _ _ (s1 _ _ ht)), atI_nat (stV_get (by rw [ok.1]; exact ln)), _, _, rfl, rfl, some (.int (l : Int)), ?_, s3⟩
      rw [List.take_add_one, hl, numF_app]
      rfl
    · rintro σ H3 ⟨v3, rfl, s3⟩
      rw [nL_len, List.take_length]
      exact ⟨_, rfl, q H3 ((s1.trans s2).trans s3)⟩
abbrev s_state_of : Stmt := top 19
theorem sc_state_of : FnScope ["house", "number", "hues", "rest", "lamp"] ["house", "number"] (defScope s_state_of) := ⟨rfl, rfl, rfl, by decide +kernel, rfl, by decide +kernel, by decide +kernel⟩
-- slots of state_of: 0 house, 1 number, 2 hues, 3 rest, 4 lamp
def spStateOfX (C CN : Addr) : Sp := fun vs H Q E => ∃ (x : Addr) (n h : Nat) (R : Rel) (v : V), vs = [.ref x, v] ∧ HouseAt C H x n h R ∧ 1 ≤ n ∧ n ≤ 16 ∧ 2 ≤ h ∧ h ≤ 10 ∧ Ranked R ∧ Kd H v ∧ (∀ k : Int, v = .int k → 0 ≤ k → k < ((h ^ n : Nat) : Int) → ∀ (t : Addr) (H' : Hp), Same H H' → H' t = some (.tup (stV (stN n h (ordN n R n) k))) → Q (.ref t) H') ∧ (inI v 0 (((h ^ n : Nat) : Int) - 1) = false → Odd1 CN "number" v H E)
theorem ok_state_of (T : Txt K mg C) (M_number : XMk P w K mg base CN "InvalidNumber" "number") {f : Addr} {fd : FuncData} (F : Fun K "state_of" "state_of" s_state_of f fd) (c_is_whole_in : Cal P w K mg base "is_whole_in" 2 spWholeInV) (c_state_count : Cal P w K mg base "state_count" 2 (spStateCount C)) (M_order : MCal P w K mg base C "order" 1 (spOrder C)) : FnOk P w K mg base (L2.CX P w) 4 f fd ["house", "number"] (spStateOfX C CN) := by
  refine F.okX sc_state_of (fun vs H Q E h => ?_) (fun cdv A outer s H vs Q E hr h => ?_)
  · obtain ⟨x, n, h, R, v, rfl, _⟩ := h; rfl
  · obtain ⟨x, n, h, R, v, rfl, ha, n1, n16, hh2, h10, hR, kd, q1, q2⟩ := h
    obtain ⟨dx, fs, be, o, h1, h2, h3, h4, h5, h6, h7, h8, h9⟩ := id ha
    obtain ⟨f_order, fd_order, ps_order, F_order, m_order, b_order⟩ := M_order.ex
    refine ⟨_, (pss_cons (ps_if (pt_not (pt_val (pe_cal c_is_whole_in (hr.mono (by decide)) (pa_cons (pv 1) (pa_cons pe_int (pa_cons (pe_op op_sub (pe_cal c_state_count (hr.mono (by decide)) (pa_cons (pv 0) pa_nil)) pe_int) pa_nil))))))
      (pss_one (ps_raiseM M_number rfl (takes_of rfl rfl rfl rfl) (hr.mono (by decide)) (pa_cons (pv 1) pa_nil))) pss_nil)
      (pss_cons (ps_set (i := 2) sc_state_of.nd rfl (by first | exact Or.inl rfl | exact Or.inr rfl) (pe_op op_rep (pe_lst (pa_cons pe_int pa_nil)) (fld_ K (pv 0))))
      (pss_cons (ps_set (i := 3) sc_state_of.nd rfl (by first | exact Or.inl rfl | exact Or.inr rfl) (pv 1))
      (pss_cons (ps_for (passes_of rfl) rfl (pi_reversed (by rfl) T.reversed (pa_cons (pe_meth0 (pv 0) T.cl m_order F_order (hr.mono (by decide)) b_order .nil pass0) pa_nil)) (pg_name (i := 4) sc_state_of.nd rfl (by first | exact Or.inl rfl | exact Or.inr rfl))
      (pss_cons (ps_asg (pe_op op_mod (pv 3) (fld_ K (pv 0))) (pg_sub (pv 2) (pv 4) set_list))
      (pss_one (ps_set (i := 3) sc_state_of.nd rfl (by first | exact Or.inl rfl | exact Or.inr rfl) (pe_op op_fdiv (pv 3) (fld_ K (pv 0)))))))
      (pss_one (ps_ret (pe_callTy (tupOf_ K) (by rfl) T.tuple b_tuple (pa_cons (pv 2) pa_nil)))))))), ?_⟩
    have pb := pow_bound h10 n16
    have e16 : (10 : Nat) ^ 16 = 10000000000000000 := by decide
    refine ⟨_, rfl, _, rfl, x, n, h, R, rfl, ha, n16, h10, _, _, rfl, rfl, v, 0, ((h ^ n : Nat) : Int) - 1, rfl, kd, _, rfl, ?_⟩
    cases e : inI v 0 (((h ^ n : Nat) : Int) - 1) with
    | false => exact iteT ⟨_, rfl, by show 1 ≤ 1000; decide, fun a na => keep_raised M_number.cls.oex M_number.no (q2 e) a na⟩
    | true =>
      refine iteF ?_
      obtain ⟨k, rfl, k0, k1⟩ : ∃ k : Int, v = .int k ∧ 0 ≤ k ∧ k < ((h ^ n : Nat) : Int) := by
        cases v with
        | int i =>
          have z : (decide (0 ≤ i) && decide (i ≤ ((h ^ n : Nat) : Int) - 1)) = true := e
          rw [Bool.and_eq_true, decide_eq_true_eq, decide_eq_true_eq] at z
          exact ⟨i, rfl, z.1, by omega⟩
        | _ => cases e
      have q := q1 k rfl k0 k1
      have O := ordL (n := n) hR
      refine ⟨by show 1 ≤ sizeLine; decide, fun zz nzz => ?_⟩
      refine ⟨_, rfl, x, C, dx, _, _, rfl, same_new nzz _ _ h1, T.cl, T.nCount, h2, zz, _, _, rfl, rfl, upd_same, by omega, by omega, ?_, fun D hD => ?_⟩
      · rw [Int.toNat_natCast, sizeLine_eq]; show 1 * n ≤ _; omega
      rw [repI]
      have s2 : Same H (upd (upd H zz (.lst [.int 0])) D (.lst (stV (List.replicate n 0)))) := (same_new nzz).trans (same_new hD)
      have hd2 : (upd (upd H zz (.lst [.int 0])) D (.lst (stV (List.replicate n 0)))) D = some (.lst (stV (zs n))) := upd_same
      have hdz0 : H D = Option.none := (same_new nzz).free hD
      generalize upd (upd H zz (.lst [.int 0])) D (.lst (stV (List.replicate n 0))) = H2 at s2 hd2 ⊢
      refine ⟨_, rfl, _, rfl, x, dx, fs, rfl, s2 _ _ h1, h8, x, n, h, R, rfl, ha.same s2, fun H3 a s3 na hA => ?_⟩
      have aD : a ≠ D := (ne_of_none hd2 na).symm
      have lO : (nL (ordN n R n)).length = n := by rw [nL_len, O.len]
      refine ⟨a, nL (ordN n R n), rfl, SqL.of hA, for_it walk_rev (fun i σ H4 => ∃ v4 : Option V, σ = [some (.ref x), some (.int k), some (.ref D), some (.int (digF h ((ordN n R n).reverse.take i) (zs n, k)).2), v4] ∧ Same H H4 ∧ H4 a = some (.lst (nL (ordN n R n))) ∧ H4 D = some (.lst (stV (digF h ((ordN n R n).reverse.take i) (zs n, k)).1))) ⟨_, rfl, s2.trans s3, hA, s3 _ _ hd2⟩ (fun i σ H4 _ ⟨_, _, _, a4, _⟩ => SqL.of a4) ?_ ?_⟩
      · rintro i y σ H4 H5 hi ⟨v4, rfl, s4, a4, d4⟩ ⟨rfl, hy⟩
        rw [lO] at hi hy
        obtain ⟨l, hl, rfl⟩ := nL_it2 hy
        have ln := O.lt l (List.mem_of_getElem? hl)
        have hl2 : (ordN n R n).reverse[i]? = some l := by
          rw [List.getElem?_reverse (by rw [O.len]; exact hi), O.len]
          exact hl
        have dl := digF_len h ((ordN n R n).reverse.take i) (zs n, k)
        have dl2 : (digF h ((ordN n R n).reverse.take i) (zs n, k)).1.length = n := by
          rw [dl]; show (List.replicate n (0 : Int)).length = n; rw [List.length_replicate]
        rw [digF_more hl2]
        generalize digF h ((ordN n R n).reverse.take i) (zs n, k) = p at d4 dl2 ⊢
        obtain ⟨p1, p2⟩ := p
        refine ⟨_, rfl, _, rfl, x, C, dx, _, _, rfl, s4 _ _ h1, T.cl, T.nHues, h3, _, _, rfl, rfl, (by show (0 : Int) < (h : Int); omega), _, rfl, _, rfl, set_at d4 (ixN_nat (by rw [List.length_map, dl2]; exact ln)) fun H6 s6 h6' => ?_⟩
        have h6' : H6 D = some (.lst ((stV p1).set l (V.int (p2 % (h : Int))))) := h6'
        have sv : (stV p1).set l (V.int (p2 % (h : Int))) = stV (p1.set l (p2 % (h : Int))) := by unfold stV; rw [List.map_set]
        rw [sv] at h6'
        have s06 : Same H H6 := s6.to_same s4 hdz0
        refine ⟨_, rfl, _, rfl, x, C, dx, _, _, rfl, s06 _ _ h1, T.cl, T.nHues, h3, _, _, rfl, rfl, ⟨(by show (0 : Int) < (h : Int); omega), (by show (h : Int) < 1073741824; omega)⟩, _, rfl, s06, s6 _ _ aD a4, h6'⟩
      · rintro σ H4 ⟨v4, rfl, s4, a4, d4⟩
        have e : (ordN n R n).reverse.take (nL (ordN n R n)).length = (ordN n R n).reverse := List.take_of_length_le (by rw [List.length_reverse, nL_len]; exact Nat.le_refl _)
        rw [e] at d4
        exact ⟨_, rfl, D, _, rfl, .inl ⟨SqL.of d4, fun p np => q p _ (s4.trans (same_new np)) upd_same⟩⟩
end
end Hue

end
section
set_option maxRecDepth 100000
set_option maxHeartbeats 4000000
namespace Hue
open PySem PySem.Spec PyProof.Rows L2
section
variable {P : Program} {w : World} {K : PySem.W.Frag} {mg : Str → Option Value} {base : Heap} {C CL CS CN : Addr}
structure HsOk (C : Addr) (H : Hp) (x : Addr) (n h : Nat) (ps : List (Nat × Nat)) : Prop where
  at_ : HouseAt C H x n h (relOf ps)
  x_ : HouseX C H x n ps
theorem HsOk.same {H H' : Hp} {x : Addr} {n h : Nat} {ps : List (Nat × Nat)} (a : HsOk C H x n h ps) (s : Same H H') : HsOk C H' x n h ps := ⟨a.at_.same s, a.x_.same s⟩
theorem HsOk.ins {H : Hp} {x : Addr} {n h : Nat} {ps : List (Nat × Nat)} (a : HsOk C H x n h ps) : ∃ dx fs, H x = some (.ins C dx fs) ∧ ∀ m ∈ mNames, fs.lookup m = Option.none := by
  obtain ⟨dx, fs, ab, di, l, us, qs, g1, g2, g3, g4, g5, g6, g7, g8, g9, g10⟩ := a.x_
  exact ⟨dx, fs, g1, g10⟩
/-- wires that a house may be made of -/
structure WsOk (n : Nat) (ps : List (Nat × Nat)) : Prop where
  nd : ps.Nodup
  few : ps.length < 1000
  rk : ∃ ρ : Nat → Nat, ∀ p ∈ ps, ρ p.1 < ρ p.2
  lt : ∀ p ∈ ps, p.1 < n ∧ p.2 < n
theorem WsOk.ranked {n : Nat} {ps : List (Nat × Nat)} (W : WsOk n ps) : Ranked (relOf ps) := let ⟨_, hρ⟩ := W.rk; relOf_ranked hρ
/-- .. and it stands without what is at a -/
def GivesO (C a : Addr) (H : Hp) (Q : VK) (n h : Nat) (ps : List (Nat × Nat)) : Prop := ∀ (x : Addr) (H' H0 : Hp), Same H H' → H0 a = none → Same H0 H' → HsOk C H0 x n h ps → Q (.ref x) H'
theorem makeO {H : Hp} {a D : Addr} {n h : Nat} {xs : List V} {ts : List Addr} {ps : List (Nat × Nat)} (ha : H a = some (.lst xs)) (hD : H D = some (.lst (ts.map V.ref))) (ne : D ≠ a) (hp : Pairs H ts ps) (n1 : 1 ≤ n) (n16 : n ≤ 16) (h2 : 2 ≤ h) (h10 : h ≤ 10) (W : WsOk n ps) {Q : VK} {E : XK} {H00 : Hp} (s0 : Same H00 H) (g : GivesO C a H00 Q n h ps) {x dx : Addr} (nx : H x = none) (ndx : H dx = none) (nxd : dx ≠ x) :
    Off (spInit K C) (.ref x :: [.int (n : Nat), .int (h : Nat), .ref D]) (L2.upd (L2.upd H dx (.own x)) x (.ins C dx [])) (fun v H2 => v = .non ∧ Q (.ref x) H2) E := by
  have nxa : x ≠ a := (ne_of_none ha nx).symm
  have s12 : Same H (L2.upd (L2.upd H dx (.own x)) x (.ins C dx [])) := fun c o e => by
    rw [upd_ne (ne_of_none e nx), upd_ne (ne_of_none e ndx)]; exact e
  have hx2 : (L2.upd (L2.upd H dx (.own x)) x (.ins C dx [])) x = some (.ins C dx []) := upd_same
  generalize L2.upd (L2.upd H dx (.own x)) x (.ins C dx []) = H2 at s12 hx2 ⊢
  have pr : Pairs (hide H2 a) ts ps := ⟨hp.1, fun i t p e1 e2 => by
    have e := hp.2 i t p e1 e2
    rw [hide_ne (ne_of e ha (by intro z; cases z))]
    exact s12 _ _ e⟩
  refine ⟨a, xs, s12 _ _ ha, x, dx, D, n, h, ps, rfl, by rw [hide_ne nxa]; exact hx2, n1, n16, h2, h10, ⟨⟨ts, .inl (SqL.of (by rw [hide_ne ne]; exact s12 _ _ hD)), pr⟩, W.nd, by have := W.few; omega, W.lt, W.rk⟩, fun H3 sb3 at_ x_ nb3 => ⟨rfl, g x _ H3 (fun b o e => ?_) nb3 (same_new nb3) ⟨at_, x_⟩⟩⟩
  have e1 := s0 b o e
  by_cases z : b = a
  · rw [z, ha] at e1
    rw [z, upd_same]
    exact e1
  · rw [upd_ne z]
    exact sb3 _ _ (ne_of_none e1 nx) (by rw [hide_ne z]; exact s12 _ _ e1)

/-! ### a house that does not hold what stands at b -/
def Hs0 (C b : Addr) (H : Hp) (x : Addr) (n h : Nat) (ps : List (Nat × Nat)) : Prop := ∃ H0 : Hp, H0 b = none ∧ Same H0 H ∧ HsOk C H0 x n h ps
theorem Hs0.get {b : Addr} {H : Hp} {x : Addr} {n h : Nat} {ps : List (Nat × Nat)} (a : Hs0 C b H x n h ps) : HsOk C H x n h ps := let ⟨_, _, s, r⟩ := a; r.same s
theorem Hs0.sb {b : Addr} {H H' : Hp} {x : Addr} {n h : Nat} {ps : List (Nat × Nat)} (a : Hs0 C b H x n h ps) (s : SB b H H') : Hs0 C b H' x n h ps := by
  obtain ⟨H0, n0, s0, r⟩ := a
  exact ⟨H0, n0, SB.past s0 n0 s, r⟩
/-! ### the checks, where the state is one -/
theorem stV_inj {S T : List Int} (e : stV S = stV T) : S = T := by
  have h : ∀ {S T : List Int}, stV S = stV T → S = T := by
    intro S
    induction S with
    | nil => intro T e; cases T with
      | nil => rfl
      | cons t T => cases e
    | cons z S ih => intro T e; cases T with
      | nil => cases e
      | cons t T =>
        unfold stV at e
        rw [List.map_cons, List.map_cons] at e
        injection e with e1 e2
        injection e1 with e1
        rw [e1, ih e2]
  exact h e
theorem st_calm {n h : Nat} {t : Addr} {S : List Int} {H : Hp} {E : XK} {sg : Addr → List Int → Prop} (ht : H t = some (.tup (stV S))) (ok : StOk n h S) (g : sg t S) : StX CS n h (.ref t) (stD S) H E sg :=
  ⟨fun t' S' e ht' _ => by
    injection e with e
    subst e
    rw [ht] at ht'
    injection ht' with ht'
    injection ht' with ht'
    rw [← stV_inj ht']
    exact g, fun z => by rw [st_stB ok] at z; cases z⟩
def spMirrorS (C : Addr) : Sp := fun vs H Q _ => ∃ (x t : Addr) (n h : Nat) (R : Rel) (S : List Int), vs = [.ref x, .ref t] ∧ HouseAt C H x n h R ∧ n ≤ 16 ∧ h ≤ 10 ∧ H t = some (.tup (stV S)) ∧ StOk n h S ∧ ∀ (p : Addr) (H' : Hp), Same H H' → H' p = some (.tup (stV (mirS h S))) → Q (.ref p) H'
theorem mirror_st (vs : List V) (H : Hp) (Q : VK) (E : XK) (g : spMirrorS C vs H Q E) : spMirrorX C CS vs H Q fun _ _ _ => False := by
  obtain ⟨x, t, n, h, R, S, e, ha, n16, h10, ht, ok, q⟩ := g
  exact ⟨x, n, h, R, _, _, e, ha, n16, st_lf2 ht (by rw [ok.1]; omega) (ok.small h10), st_calm ht ok q⟩
def spLitS (C : Addr) : Sp := fun vs H Q _ => ∃ (x t : Addr) (n h : Nat) (R : Rel) (S : List Int), vs = [.ref x, .ref t] ∧ HouseAt C H x n h R ∧ n ≤ 16 ∧ h ≤ 10 ∧ H t = some (.tup (stV S)) ∧ StOk n h S ∧ ∀ (p : Addr) (H' : Hp), Same H H' → H p = none → H' p = some (.lst (nL (litL n S))) → Q (.ref p) H'
theorem lit_st (vs : List V) (H : Hp) (Q : VK) (E : XK) (g : spLitS C vs H Q E) : spLitX C CS vs H Q fun _ _ _ => False := by
  obtain ⟨x, t, n, h, R, S, e, ha, n16, h10, ht, ok, q⟩ := g
  exact ⟨x, n, h, R, _, _, e, ha, n16, st_lf2 ht (by rw [ok.1]; omega) (ok.small h10), st_calm ht ok q⟩
def spNumberS (C : Addr) : Sp := fun vs H Q _ => ∃ (x t : Addr) (n h : Nat) (R : Rel) (S : List Int), vs = [.ref x, .ref t] ∧ HouseAt C H x n h R ∧ n ≤ 16 ∧ h ≤ 10 ∧ Ranked R ∧ H t = some (.tup (stV S)) ∧ StOk n h S ∧ ∀ (H' : Hp), Same H H' → Q (.int (numF h S 0 (ordN n R n))) H'
theorem number_st (vs : List V) (H : Hp) (Q : VK) (E : XK) (g : spNumberS C vs H Q E) : spNumberX C CS vs H Q fun _ _ _ => False := by
  obtain ⟨x, t, n, h, R, S, e, ha, n16, h10, hR, ht, ok, q⟩ := g
  exact ⟨x, n, h, R, _, _, e, ha, n16, h10, hR, st_lf2 ht (by rw [ok.1]; omega) (ok.small h10), st_calm ht ok q⟩
def spStateOfS (C : Addr) : Sp := fun vs H Q _ => ∃ (x : Addr) (n h : Nat) (R : Rel) (k : Int), vs = [.ref x, .int k] ∧ HouseAt C H x n h R ∧ 1 ≤ n ∧ n ≤ 16 ∧ 2 ≤ h ∧ h ≤ 10 ∧ Ranked R ∧ 0 ≤ k ∧ k < (h : Int) ^ n ∧ ∀ (t : Addr) (H' : Hp), Same H H' → H' t = some (.tup (stV (stN n h (ordN n R n) k))) → Q (.ref t) H'
theorem state_of_st (vs : List V) (H : Hp) (Q : VK) (E : XK) (g : spStateOfS C vs H Q E) : spStateOfX C CN vs H Q fun _ _ _ => False := by
  obtain ⟨x, n, h, R, k, e, ha, n1, n16, h2, h10, hR, k0, k1, q⟩ := g
  have ep : ((h ^ n : Nat) : Int) = (h : Int) ^ n := Int.natCast_pow h n
  refine ⟨x, n, h, R, _, e, ha, n1, n16, h2, h10, hR, .int k, fun j ej _ _ => by injection ej with ej; rw [← ej]; exact q, fun z => ?_⟩
  have z' : (decide (0 ≤ k) && decide (k ≤ ((h ^ n : Nat) : Int) - 1)) = false := z
  rw [decide_eq_true k0, decide_eq_true (by rw [ep]; omega)] at z'
  cases z'
/-! ### a state as a tuple or a list -/
def SqE (H : Hp) (c : Addr) (S : List Int) : Prop := H c = some (.tup (stV S)) ∨ H c = some (.lst (stV S))
theorem SqE.same {H H' : Hp} {c : Addr} {S : List Int} (a : SqE H c S) (s : Same H H') : SqE H' c S := a.imp (s _ _) (s _ _)
theorem SqE.ix {H : Hp} {c : Addr} {S : List Int} {k : Nat} {Q : VK} (a : SqE H c S) (hk : k < S.length) (q : Q (.int (at_ S k)) H) : rIxL K (.ref c) (.int (k : Int)) H Q ∨ rIxT K (.ref c) (.int (k : Int)) H Q := by
  rcases a with a | a
  · exact .inr ⟨c, _, _, _, rfl, rfl, SqT.of a, atI_nat (stV_get hk), q⟩
  · exact .inl ⟨c, _, _, _, rfl, rfl, SqL.of a, atI_nat (stV_get hk), q⟩
theorem SqE.len {H : Hp} {c : Addr} {S : List Int} (a : SqE H c S) : SqL K H c (stV S) ∨ SqT K H c (stV S) := a.elim (fun z => .inr (SqT.of z)) (fun z => .inl (SqL.of z))
abbrev s__law_same_state : Stmt := top 42
theorem sc__law_same_state : FnScope ["told", "due", "k"] ["told", "due"] (defScope s__law_same_state) := ⟨rfl, rfl, rfl, by decide +kernel, rfl, by decide +kernel, by decide +kernel⟩
-- slots of _law_same_state: 0 told, 1 due, 2 k
def spSameState : Sp := fun vs H Q _ => ∃ (a c : Addr) (S : List Int), vs = [.ref a, .ref c] ∧ H a = some (.tup (stV S)) ∧ SqE H c S ∧ S.length ≤ 16 ∧ Q (.bl true) H
theorem ok__law_same_state (T : Txt K mg C) {f : Addr} {fd : FuncData} (F : Fun K "_law_same_state" "_law_same_state" s__law_same_state f fd) (c__law_number : Cal P w K mg base "_law_number" 1 spNumber) : FnOk P w K mg base CX0 2 f fd ["told", "due"] spSameState := by
  refine F.ok sc__law_same_state (fun vs H Q E h => ?_) (fun cdv A outer s H vs Q E hr h => ?_)
  · obtain ⟨a, c, S, rfl, _⟩ := h; rfl
  · obtain ⟨a, c, S, rfl, ha, hc, l16, q⟩ := h
    refine ⟨_, (pss_cons (ps_if (PW.pt (pw_or (pt_not (pt_val (pe_callB (isi_ K) (by rfl) T.isinstance b_isinstance (pa_cons (pv 0) (pa_cons (pe_bltn (v := .ty "tuple") (by rfl) T.tuple b_tuple rfl) pa_nil))))) (pw_or1 (pt_cmpR op_ne (pe_callB (lenS_ K) (by rfl) T.len b_len (pa_cons (pv 0) pa_nil)) (pe_callB (lenS_ K) (by rfl) T.len b_len (pa_cons (pv 1) pa_nil)) (nomark _)))))
      (pss_one (ps_ret pe_bl)) pss_nil)
      (pss_cons (ps_for PassesOwn.never rfl (pi_range1 (by rfl) T.range (pa_cons (pe_callB (lenS_ K) (by rfl) T.len b_len (pa_cons (pv 1) pa_nil)) pa_nil)) (pg_name (i := 2) sc__law_same_state.nd rfl (by first | exact Or.inl rfl | exact Or.inr rfl))
      (pss_one (ps_if (pt_not (pt_val (pe_cal c__law_number (hr.mono (by decide)) (pa_cons (pe_ix (ixT_ K) (pv 0) (pv 2) (fun _ _ => rfl)) (pa_cons (pe_ix (IxR.or (ixL_ K) (ixT_ K)) (pv 1) (pv 2) (fun _ _ => rfl)) pa_nil)))))
      (pss_one (ps_ret pe_bl)) pss_nil)))
      (pss_one (ps_ret pe_bl)))), ?_⟩
    have lS : (stV S).length = S.length := List.length_map _
    refine ⟨_, rfl, _, _, _, _, true, rfl, .ty _, .base (.tup ha), kit_ty (by decide +kernel), true, rfl, iteF ?_⟩
    refine ⟨_, rfl, a, _, rfl, .inr (SqT.of ha), _, rfl, c, _, rfl, hc.len, rfl, _, rfl, ?_⟩
    refine ite2 (fun hn => ?_) (fun _ => ?_)
    · rw [decide_eq_true rfl] at hn
      cases hn
    refine ⟨_, rfl, c, _, rfl, hc.len, _, rfl, by rw [lS]; omega, by rw [lS]; omega, ?_⟩
    have en : (((stV S).length : Int)).toNat = S.length := by rw [lS]; omega
    rw [en]
    refine for_range (fun i σ H2 => H2 = H ∧ ∃ v, σ = [some (.ref a), some (.ref c), v]) ⟨rfl, _, rfl⟩ ?_ ?_
    · rintro i σ H2 hi ⟨rfl, v, rfl⟩
      have e0 : (0 : Int) + (i : Int) = (i : Int) := by omega
      rw [e0]
      refine ⟨_, rfl, _, rfl, a, _, _, _, rfl, rfl, SqT.of ha, atI_nat (stV_get hi), _, rfl, _, rfl, hc.ix hi ?_⟩
      exact ⟨_, rfl, true, rfl, iteF ⟨rfl, _, rfl⟩⟩
    · rintro σ H2 ⟨rfl, v, rfl⟩
      exact q
abbrev s__law_due_number : Stmt := top 43
theorem sc__law_due_number : FnScope ["due", "state", "hues", "number", "lamp"] ["due", "state", "hues"] (defScope s__law_due_number) := ⟨rfl, rfl, rfl, by decide +kernel, rfl, by decide +kernel, by decide +kernel⟩
-- slots of _law_due_number: 0 due, 1 state, 2 hues, 3 number, 4 lamp
def spDueNumber : Sp := fun vs H Q _ => ∃ (d c : Addr) (h : Nat) (ord : List Nat) (S : List Int), vs = [.ref d, .ref c, .int h] ∧ H d = some (.lst (nL ord)) ∧ SqE H c S ∧ (∀ l ∈ ord, l < S.length) ∧ h ≤ 10 ∧ Q (.int (numF h S 0 ord)) H
theorem ok__law_due_number (T : Txt K mg C) {f : Addr} {fd : FuncData} (F : Fun K "_law_due_number" "_law_due_number" s__law_due_number f fd) : FnOk P w K mg base CX0 1 f fd ["due", "state", "hues"] spDueNumber := by
  refine F.ok sc__law_due_number (fun vs H Q E h => ?_) (fun cdv A outer s H vs Q E hr h => ?_)
  · obtain ⟨d, c, h, ord, S, rfl, _⟩ := h; rfl
  · obtain ⟨d, c, h, ord, S, rfl, hd, hc, lt, h10, q⟩ := h
    refine ⟨_, (pss_cons (ps_set (i := 3) sc__law_due_number.nd rfl (by first | exact Or.inl rfl | exact Or.inr rfl) pe_int)
      (pss_cons (ps_for PassesOwn.never rfl (pil_ K (pv 0)) (pg_name (i := 4) sc__law_due_number.nd rfl (by first | exact Or.inl rfl | exact Or.inr rfl))
      (pss_one (ps_set (i := 3) sc__law_due_number.nd rfl (by first | exact Or.inl rfl | exact Or.inr rfl) (pe_op op_add (pe_op op_mul (pv 3) (pv 2)) (pe_ix (IxR.or (ixL_ K) (ixT_ K)) (pv 1) (pv 4) (fun _ _ => rfl))))))
      (pss_one (ps_ret (pv 3))))), ?_⟩
    refine ⟨_, rfl, d, rfl, ⟨_, SqL.of hd⟩, ?_⟩
    refine for_list (K := K) (a := d) (xs := nL ord) (fun i σ H3 => ∃ v4 : Option V, σ = [some (.ref d), some (.ref c), some (.int h), some (.int (numF h S 0 (ord.take i))), v4] ∧ H3 = H) ⟨_, rfl, rfl⟩ (fun i σ H3 _ ⟨_, _, e⟩ => by rw [e]; exact SqL.of hd) ?_ ?_
    · rintro i y σ H3 hy ⟨v4, rfl, rfl⟩
      obtain ⟨l, hl, rfl⟩ := nL_it2 hy
      refine ⟨_, rfl, _, rfl, _, _, rfl, rfl, .inr ⟨by omega, by omega⟩, _, rfl, _, rfl, hc.ix (lt l (List.mem_of_getElem? hl)) ⟨_, _, rfl, rfl, some (.int (l : Int)), ?_, rfl⟩⟩
      rw [List.take_add_one, hl, numF_app]
      rfl
    · rintro σ H3 ⟨v4, rfl, rfl⟩
      rw [nL_len, List.take_length]
      exact ⟨_, rfl, q⟩
abbrev s__law_due_state : Stmt := top 44
theorem sc__law_due_state : FnScope ["due", "number", "hues", "row", "lamp"] ["due", "number", "hues"] (defScope s__law_due_state) := ⟨rfl, rfl, rfl, by decide +kernel, rfl, by decide +kernel, by decide +kernel⟩
-- slots of _law_due_state: 0 due, 1 number, 2 hues, 3 row, 4 lamp
def spDueState : Sp := fun vs H Q _ => ∃ (d : Addr) (n h : Nat) (ord : List Nat) (k : Int), vs = [.ref d, .int k, .int h] ∧ H d = some (.lst (nL ord)) ∧ OrdL n ord ∧ n ≤ 16 ∧ 2 ≤ h ∧ h ≤ 10 ∧ ∀ (t : Addr) (H' : Hp), Same H H' → H' t = some (.tup (stV (stN n h ord k))) → Q (.ref t) H'
theorem ok__law_due_state (T : Txt K mg C) {f : Addr} {fd : FuncData} (F : Fun K "_law_due_state" "_law_due_state" s__law_due_state f fd) : FnOk P w K mg base CX0 1 f fd ["due", "number", "hues"] spDueState := by
  refine F.ok sc__law_due_state (fun vs H Q E h => ?_) (fun cdv A outer s H vs Q E hr h => ?_)
  · obtain ⟨d, n, h, ord, k, rfl, _⟩ := h; rfl
  · obtain ⟨d, n, h, ord, k, rfl, hd, O, n16, hh2, h10, q⟩ := h
    refine ⟨_, (pss_cons (ps_set (i := 3) sc__law_due_state.nd rfl (by first | exact Or.inl rfl | exact Or.inr rfl) (pe_op op_rep (pe_lst (pa_cons pe_int pa_nil)) (pe_callB (lenS_ K) (by rfl) T.len b_len (pa_cons (pv 0) pa_nil))))
      (pss_cons (ps_for PassesOwn.never rfl (pil_ K (revL_ K (pv 0))) (pg_name (i := 4) sc__law_due_state.nd rfl (by first | exact Or.inl rfl | exact Or.inr rfl))
      (pss_cons (ps_asg (pe_op op_mod (pe_callTy call_int1 (by rfl) T.int b_int (pa_cons (pv 1) pa_nil)) (pv 2)) (pg_sub (pv 3) (pv 4) set_list))
      (pss_one (ps_set (i := 1) sc__law_due_state.nd rfl (by first | exact Or.inl rfl | exact Or.inr rfl) (pe_op op_fdiv (pv 1) (pv 2))))))
      (pss_one (ps_ret (pe_callTy (tupOf_ K) (by rfl) T.tuple b_tuple (pa_cons (pv 3) pa_nil)))))), ?_⟩
    have en : ((nL ord).length : Int) = (n : Int) := by rw [nL_len, O.len]
    refine ⟨by show 1 ≤ sizeLine; decide, fun zz nzz => ?_⟩
    refine ⟨_, rfl, d, _, rfl, .inl (SqL.of (same_new nzz _ _ hd)), zz, _, _, rfl, rfl, upd_same, by rw [en]; omega, by rw [en]; omega, ?_, fun D hD => ?_⟩
    · rw [en, Int.toNat_natCast, sizeLine_eq]; show 1 * n ≤ _; omega
    rw [en, repI]
    have s2 : Same H (upd (upd H zz (.lst [.int 0])) D (.lst (stV (List.replicate n 0)))) := (same_new nzz).trans (same_new hD)
    have hd2 : (upd (upd H zz (.lst [.int 0])) D (.lst (stV (List.replicate n 0)))) D = some (.lst (stV (zs n))) := upd_same
    have hdz0 : H D = Option.none := (same_new nzz).free hD
    generalize upd (upd H zz (.lst [.int 0])) D (.lst (stV (List.replicate n 0))) = H2 at s2 hd2 ⊢
    refine ⟨_, rfl, d, _, rfl, SqL.of (s2 _ _ hd), fun a na => ?_⟩
    have er : (nL ord).reverse = nL ord.reverse := by unfold nL nI; rw [List.map_reverse, List.map_reverse]
    rw [er]
    have aD : a ≠ D := (ne_of_none hd2 na).symm
    have s3 : Same H2 (upd H2 a (.lst (nL ord.reverse))) := same_new na
    have hA : (upd H2 a (.lst (nL ord.reverse))) a = some (.lst (nL ord.reverse)) := upd_same
    generalize upd H2 a (.lst (nL ord.reverse)) = H3 at s3 hA ⊢
    refine ⟨a, rfl, ⟨_, SqL.of hA⟩, ?_⟩
    refine for_list (K := K) (a := a) (xs := nL ord.reverse) (fun i σ H4 => ∃ v4 : Option V, σ = [some (.ref d), some (.int (digF h (ord.reverse.take i) (zs n, k)).2), some (.int h), some (.ref D), v4] ∧ Same H H4 ∧ H4 a = some (.lst (nL ord.reverse)) ∧ H4 D = some (.lst (stV (digF h (ord.reverse.take i) (zs n, k)).1))) ⟨_, rfl, s2.trans s3, hA, s3 _ _ hd2⟩ (fun i σ H4 _ ⟨_, _, _, a4, _⟩ => SqL.of a4) ?_ ?_
    · rintro i y σ H4 hy ⟨v4, rfl, s4, a4, d4⟩
      obtain ⟨l, hl, rfl⟩ := nL_it2 hy
      have ln := O.lt l (List.mem_reverse.mp (List.mem_of_getElem? hl))
      have dl := digF_len h (ord.reverse.take i) (zs n, k)
      have dl2 : (digF h (ord.reverse.take i) (zs n, k)).1.length = n := by
        rw [dl]; show (List.replicate n (0 : Int)).length = n; rw [List.length_replicate]
      rw [digF_more hl]
      generalize digF h (ord.reverse.take i) (zs n, k) = p at d4 dl2 ⊢
      obtain ⟨p1, p2⟩ := p
      refine ⟨_, rfl, .inl ⟨_, rfl, _, rfl, _, _, rfl, rfl, (by show (0 : Int) < (h : Int); omega), _, rfl, _, rfl, set_at d4 (ixN_nat (by rw [List.length_map, dl2]; exact ln)) fun H6 s6 h6' => ?_⟩⟩
      have h6' : H6 D = some (.lst ((stV p1).set l (V.int (p2 % (h : Int))))) := h6'
      have sv : (stV p1).set l (V.int (p2 % (h : Int))) = stV (p1.set l (p2 % (h : Int))) := by unfold stV; rw [List.map_set]
      rw [sv] at h6'
      have s06 : Same H H6 := s6.to_same s4 hdz0
      exact ⟨_, rfl, _, rfl, _, _, rfl, rfl, ⟨(by show (0 : Int) < (h : Int); omega), (by show (h : Int) < 1073741824; omega)⟩, _, rfl, s06, s6 _ _ aD a4, h6'⟩
    · rintro σ H4 ⟨v4, rfl, s4, a4, d4⟩
      have e : ord.reverse.take (nL ord.reverse).length = ord.reverse := List.take_of_length_le (by rw [nL_len]; exact Nat.le_refl _)
      rw [e] at d4
      exact ⟨_, rfl, D, _, rfl, .inl ⟨SqL.of d4, fun p np => q p _ (s4.trans (same_new np)) upd_same⟩⟩
abbrev s__law_one_right : Stmt := top 45
theorem sc__law_one_right : FnScope ["house", "due", "hues", "state", "number"] ["house", "due", "hues", "state"] (defScope s__law_one_right) := ⟨rfl, rfl, rfl, by decide +kernel, rfl, by decide +kernel, by decide +kernel⟩
-- slots of _law_one_right: 0 house, 1 due, 2 hues, 3 state, 4 number
/-- a house and its order list as the law has it -/
structure Wd (C : Addr) (H : Hp) (x d : Addr) (n h : Nat) (ps : List (Nat × Nat)) : Prop where
  hs : HsOk C H x n h ps
  d : H d = some (.lst (nL (ordN n (relOf ps) n)))
  hR : Ranked (relOf ps)
  n1 : 1 ≤ n
  n16 : n ≤ 16
  h2 : 2 ≤ h
  h10 : h ≤ 10
theorem Wd.same {H H' : Hp} {x d : Addr} {n h : Nat} {ps : List (Nat × Nat)} (a : Wd C H x d n h ps) (s : Same H H') : Wd C H' x d n h ps := ⟨a.hs.same s, s _ _ a.d, a.hR, a.n1, a.n16, a.h2, a.h10⟩
theorem Wd.O {H : Hp} {x d : Addr} {n h : Nat} {ps : List (Nat × Nat)} (a : Wd C H x d n h ps) : OrdL n (ordN n (relOf ps) n) := ordL a.hR
def spOne (C : Addr) : Sp := fun vs H Q _ => ∃ (x d t : Addr) (n h : Nat) (ps : List (Nat × Nat)) (S : List Int), vs = [.ref x, .ref d, .int h, .ref t] ∧ Wd C H x d n h ps ∧ H t = some (.tup (stV S)) ∧ StOk n h S ∧ ∀ H', Same H H' → Q (.bl true) H'
theorem ok__law_one_right (T : Txt K mg C) {f : Addr} {fd : FuncData} (F : Fun K "_law_one_right" "_law_one_right" s__law_one_right f fd) (c__law_due_number : Cal P w K mg base "_law_due_number" 1 spDueNumber) (c_number_of : Cal P w K mg base "number_of" 5 (spNumberS C)) (c__law_number : Cal P w K mg base "_law_number" 1 spNumber) (c_is_state : Cal P w K mg base "is_state" 3 (spIsStateV C)) (c_state_of : Cal P w K mg base "state_of" 4 (spStateOfS C)) (c__law_same_state : Cal P w K mg base "_law_same_state" 2 spSameState) :
    FnOk P w K mg base CX0 6 f fd ["house", "due", "hues", "state"] (spOne C) := by
  refine F.ok sc__law_one_right (fun vs H Q E h => ?_) (fun cdv A outer s H vs Q E hr h => ?_)
  · obtain ⟨x, d, t, n, h, ps, S, rfl, _⟩ := h; rfl
  · obtain ⟨x, d, t, n, h, ps, S, rfl, W, ht, ok, q⟩ := h
    have O := W.O
    have rng := num_range O (Nat.le_of_succ_le W.h2) ok
    refine ⟨_, (pss_cons (ps_set (i := 4) sc__law_one_right.nd rfl (by first | exact Or.inl rfl | exact Or.inr rfl) (pe_cal c__law_due_number (hr.mono (by decide)) (pa_cons (pv 1) (pa_cons (pv 3) (pa_cons (pv 2) pa_nil)))))
      (pss_cons (ps_if (PW.pt (pw_or (pt_not (pt_val (pe_cal c__law_number (hr.mono (by decide)) (pa_cons (pe_cal c_number_of (hr.mono (by decide)) (pa_cons (pv 0) (pa_cons (pv 3) pa_nil))) (pa_cons (pv 4) pa_nil))))) (pw_or1 (pt_cmpR op_notB (pe_cal c_is_state (hr.mono (by decide)) (pa_cons (pv 0) (pa_cons (pv 3) pa_nil))) pe_bl (nomark _)))))
      (pss_one (ps_ret pe_bl)) pss_nil)
      (pss_one (ps_ret (pe_cal c__law_same_state (hr.mono (by decide)) (pa_cons (pe_cal c_state_of (hr.mono (by decide)) (pa_cons (pv 0) (pa_cons (pv 4) pa_nil))) (pa_cons (pv 3) pa_nil))))))), ?_⟩
    refine ⟨_, rfl, _, rfl, _, rfl, d, t, h, _, S, rfl, W.d, .inl ht, fun l hl => by rw [ok.1]; exact O.lt l hl, W.h10, ?_⟩
    refine ⟨_, rfl, _, rfl, x, t, n, h, _, S, rfl, W.hs.at_, W.n16, W.h10, W.hR, ht, ok, fun H1 s1 => ?_⟩
    refine ⟨_, rfl, _, rfl, true, rfl, iteF ?_⟩
    refine ⟨_, rfl, _, rfl, x, n, h, _, .ref t, stD S, rfl, W.hs.at_.same s1, W.n16, st_lf2 (s1 _ _ ht) (by rw [ok.1]; have := W.n16; omega) (ok.small W.h10), fun H2 s2 => ?_⟩
    refine ⟨_, true, rfl, rfl, _, rfl, ?_⟩
    rw [st_stB ok]
    refine iteF ?_
    have s02 := s1.trans s2
    refine ⟨_, rfl, _, rfl, x, n, h, _, _, rfl, W.hs.at_.same s02, W.n1, W.n16, W.h2, W.h10, W.hR, rng.1, rng.2, fun p H3 s3 hp => ?_⟩
    rw [stN_num O (Nat.le_of_succ_le W.h2) ok] at hp
    have s03 := s02.trans s3
    exact ⟨_, rfl, p, t, S, rfl, hp, .inl (s03 _ _ ht), by rw [ok.1]; exact W.n16, q H3 s03⟩
end
end Hue

end
section
set_option maxRecDepth 100000
set_option maxHeartbeats 4000000
namespace Hue
open PySem PySem.Spec PyProof.Rows L2
section
variable {P : Program} {w : World} {K : PySem.W.Frag} {mg : Str → Option Value} {base : Heap} {C CL CS CN : Addr}
/-! ### the two ends and the mirror -/
theorem at_rep {n l : Nat} {z : Int} (h : l < n) : at_ (List.replicate n z) l = z := by
  unfold at_
  rw [List.getD_eq_getElem?_getD, List.getElem?_replicate, if_pos h]
  rfl
theorem rep_ok {n h : Nat} {z : Int} (h0 : 0 ≤ z) (h1 : z < (h : Int)) : StOk n h (List.replicate n z) := ⟨List.length_replicate, fun y hy => by rw [List.eq_of_mem_replicate hy]; exact ⟨h0, h1⟩⟩
theorem num_dark {h n : Nat} : ∀ {ord : List Nat}, (∀ l ∈ ord, l < n) → numF h (List.replicate n 0) 0 ord = 0
  | [], _ => rfl
  | l :: ls, e => by
    rw [numF_cons, at_rep (e l List.mem_cons_self), Int.zero_mul]
    exact num_dark fun k hk => e k (List.mem_cons_of_mem _ hk)
theorem num_bright {h n : Nat} : ∀ {ord : List Nat} {x : Int}, (∀ l ∈ ord, l < n) → numF h (List.replicate n ((h : Int) - 1)) x ord = (x + 1) * (h : Int) ^ ord.length - 1
  | [], x, _ => by
    show x = (x + 1) * (h : Int) ^ 0 - 1
    rw [Int.pow_zero, Int.mul_one]; omega
  | l :: ls, x, e => by
    rw [numF_cons, at_rep (e l List.mem_cons_self), num_bright fun k hk => e k (List.mem_cons_of_mem _ hk), List.length_cons, Int.pow_succ]
    have c : (x + 1) * ((h : Int) ^ ls.length * (h : Int)) = ((x + 1) * (h : Int)) * (h : Int) ^ ls.length := by
      rw [Int.mul_comm ((h : Int) ^ ls.length) (h : Int), Int.mul_assoc]
    rw [c]
    have q : x * (h : Int) + ((h : Int) - 1) + 1 = (x + 1) * (h : Int) := by rw [Int.add_mul, Int.one_mul]; omega
    rw [q]
theorem mir_ok {n h : Nat} {S : List Int} (ok : StOk n h S) : StOk n h (mirS h S) := ⟨by unfold mirS; rw [List.length_map]; exact ok.1, fun z hz => by
  obtain ⟨y, hy, rfl⟩ := List.mem_map.mp hz
  have := ok.2 y hy
  omega⟩
theorem mir_mir (h : Nat) (S : List Int) : mirS h (mirS h S) = S := by
  unfold mirS
  rw [List.map_map]
  refine (List.map_congr_left fun z _ => ?_).trans (List.map_id S)
  show (h : Int) - 1 - ((h : Int) - 1 - z) = id z
  show _ = z
  omega
theorem mir_dark (h n : Nat) : mirS h (List.replicate n 0) = List.replicate n ((h : Int) - 1) := by
  unfold mirS
  rw [List.map_replicate, Int.sub_zero]
theorem at_mir {n h : Nat} {S : List Int} (l : S.length = n) {k : Nat} (hk : k < n) : at_ (mirS h S) k = (h : Int) - 1 - at_ S k := by
  unfold at_ mirS
  rw [List.getD_eq_getElem?_getD, List.getD_eq_getElem?_getD, List.getElem?_map, List.getElem?_eq_getElem (by omega)]
  rfl
theorem num_mir {n h : Nat} {S : List Int} (ok : StOk n h S) {ord : List Nat} (lt : ∀ l ∈ ord, l < n) : numF h (mirS h S) 0 ord = numF h (List.replicate n ((h : Int) - 1)) 0 ord - numF h S 0 ord := by
  have e := numF_sub (h := h) (S := S) (T := mirS h S) (B := List.replicate n ((h : Int) - 1)) (ord := ord) (x := 0) (y := 0) fun l hl => by
    rw [at_mir ok.1 (lt l hl), at_rep (lt l hl)]
  rw [Int.sub_self] at e
  exact e
theorem lit_dark (n : Nat) : litL n (List.replicate n 0) = [] := by
  unfold litL
  refine List.filter_eq_nil_iff.mpr fun k hk z => ?_
  have e := of_decide_eq_true z
  rw [at_rep (List.mem_range.mp hk)] at e
  omega
theorem lit_bright {n h : Nat} (h2 : 2 ≤ h) : litL n (List.replicate n ((h : Int) - 1)) = List.range n := by
  unfold litL
  refine List.filter_eq_self.mpr fun k hk => ?_
  rw [at_rep (List.mem_range.mp hk)]
  exact decide_eq_true (by omega)
theorem litL_len (n : Nat) (S : List Int) : (litL n S).length ≤ n := by unfold litL; exact filt_few' _ n
abbrev s__law_ends_right : Stmt := top 46
theorem sc__law_ends_right : FnScope ["house", "due", "hues", "state", "count", "dark", "bright", "most", "flipped", "hue", "turn", "lit", "lamp"] ["house", "due", "hues", "state"] (defScope s__law_ends_right) := ⟨rfl, rfl, rfl, by decide +kernel, rfl, by decide +kernel, by decide +kernel⟩
-- slots of _law_ends_right: 0 house, 1 due, 2 hues, 3 state, 4 count, 5 dark, 6 bright, 7 most, 8 flipped, 9 hue, 10 turn, 11 lit, 12 lamp
theorem ok__law_ends_right (T : Txt K mg C) {f : Addr} {fd : FuncData} (F : Fun K "_law_ends_right" "_law_ends_right" s__law_ends_right f fd) (c_dark_state : Cal P w K mg base "dark_state" 1 (spAll C fun _ => 0)) (c_bright_state : Cal P w K mg base "bright_state" 1 (spAll C fun h => (h : Int) - 1)) (c__law_due_number : Cal P w K mg base "_law_due_number" 1 spDueNumber) (c__law_same_state : Cal P w K mg base "_law_same_state" 2 spSameState)
    (c__law_number : Cal P w K mg base "_law_number" 1 spNumber) (c_number_of : Cal P w K mg base "number_of" 5 (spNumberS C)) (c_mirror : Cal P w K mg base "mirror" 5 (spMirrorS C)) (c_lit_lamps : Cal P w K mg base "lit_lamps" 5 (spLitS C)) (c__law_list : Cal P w K mg base "_law_list" 2 spList) : FnOk P w K mg base CX0 6 f fd ["house", "due", "hues", "state"] (spOne C) := by
  refine F.ok sc__law_ends_right (fun vs H Q E h => ?_) (fun cdv A outer s H vs Q E hr h => ?_)
  · obtain ⟨x, d, t, n, h, ps, S, rfl, _⟩ := h; rfl
  · obtain ⟨x, d, t, n, h, ps, S, rfl, W, ht, ok, q⟩ := h
    have O := W.O
    have n1 := W.n1
    have n16 := W.n16
    have h2 := W.h2
    have h10 := W.h10
    have h1 : 1 ≤ h := Nat.le_of_succ_le h2
    have okD : StOk n h (List.replicate n 0) := rep_ok (by omega) (by omega)
    have okB : StOk n h (List.replicate n ((h : Int) - 1)) := rep_ok (by omega) (by omega)
    have okM := mir_ok ok
    have lN : ∀ z : Int, (List.replicate n z).length = n := fun z => List.length_replicate
    have ltR : ∀ z : Int, ∀ l ∈ ordN n (relOf ps) n, l < (List.replicate n z).length := fun z l hl => by rw [lN]; exact O.lt l hl
    refine ⟨_, (pss_cons (ps_set (i := 4) sc__law_ends_right.nd rfl (by first | exact Or.inl rfl | exact Or.inr rfl) (pe_callB (lenS_ K) (by rfl) T.len b_len (pa_cons (pv 1) pa_nil)))
      (pss_cons (ps_set (i := 5) sc__law_ends_right.nd rfl (by first | exact Or.inl rfl | exact Or.inr rfl) (pe_cal c_dark_state (hr.mono (by decide)) (pa_cons (pv 0) pa_nil)))
      (pss_cons (ps_set (i := 6) sc__law_ends_right.nd rfl (by first | exact Or.inl rfl | exact Or.inr rfl) (pe_cal c_bright_state (hr.mono (by decide)) (pa_cons (pv 0) pa_nil)))
      (pss_cons (ps_set (i := 7) sc__law_ends_right.nd rfl (by first | exact Or.inl rfl | exact Or.inr rfl) (pe_cal c__law_due_number (hr.mono (by decide)) (pa_cons (pv 1) (pa_cons (pe_op op_rep (pe_lst (pa_cons (pe_op op_sub (pv 2) pe_int) pa_nil)) (pv 4)) (pa_cons (pv 2) pa_nil)))))
      (pss_cons (ps_if (PW.pt (pw_or (pt_not (pt_val (pe_cal c__law_same_state (hr.mono (by decide)) (pa_cons (pv 5) (pa_cons (pe_op op_rep (pe_lst (pa_cons pe_int pa_nil)) (pv 4)) pa_nil))))) (pw_or1 (pt_not (pt_val (pe_cal c__law_same_state (hr.mono (by decide)) (pa_cons (pv 6) (pa_cons (pe_op op_rep (pe_lst (pa_cons (pe_op op_sub (pv 2) pe_int) pa_nil)) (pv 4)) pa_nil))))))))
      (pss_one (ps_ret pe_bl)) pss_nil)
      (pss_cons (ps_if (PW.pt (pw_or (pt_not (pt_val (pe_cal c__law_number (hr.mono (by decide)) (pa_cons (pe_cal c_number_of (hr.mono (by decide)) (pa_cons (pv 0) (pa_cons (pv 5) pa_nil))) (pa_cons pe_int pa_nil))))) (pw_or1 (pt_not (pt_val (pe_cal c__law_number (hr.mono (by decide)) (pa_cons (pe_cal c_number_of (hr.mono (by decide)) (pa_cons (pv 0) (pa_cons (pv 6) pa_nil))) (pa_cons (pv 7) pa_nil))))))))
      (pss_one (ps_ret pe_bl)) pss_nil)
      (pss_cons (ps_set (i := 8) sc__law_ends_right.nd rfl (by first | exact Or.inl rfl | exact Or.inr rfl) (pe_cal c_mirror (hr.mono (by decide)) (pa_cons (pv 0) (pa_cons (pv 3) pa_nil))))
      (pss_cons (ps_if (pt_not (pt_val (pe_cal c__law_same_state (hr.mono (by decide)) (pa_cons (pv 8) (pa_cons (pe_lc (own := [("hue", 9)]) (g := gName 9) (tt := tYes) rfl sc__law_ends_right.nd (pit_ K (pv 3)) (blkOk_by (by kernel_rfl)) (fun _ _ _ _ _ => (pg_name (i := 9) sc__law_ends_right.nd rfl (by first | exact Or.inl rfl | exact Or.inr rfl))) (fun _ _ _ _ _ => pts_nil) (fun _ _ _ _ _ => (pe_op op_sub (pe_op op_sub (pv 2) pe_int) (pv 9)))) pa_nil)))))
      (pss_one (ps_ret pe_bl)) pss_nil)
      (pss_cons (ps_if (pt_not (pt_val (pe_cal c__law_same_state (hr.mono (by decide)) (pa_cons (pe_cal c_mirror (hr.mono (by decide)) (pa_cons (pv 0) (pa_cons (pv 8) pa_nil))) (pa_cons (pv 3) pa_nil)))))
      (pss_one (ps_ret pe_bl)) pss_nil)
      (pss_cons (ps_if (pt_not (pt_val (pe_cal c__law_number (hr.mono (by decide)) (pa_cons (pe_cal c_number_of (hr.mono (by decide)) (pa_cons (pv 0) (pa_cons (pv 8) pa_nil))) (pa_cons (pe_op op_sub (pv 7) (pe_cal c__law_due_number (hr.mono (by decide)) (pa_cons (pv 1) (pa_cons (pv 3) (pa_cons (pv 2) pa_nil))))) pa_nil)))))
      (pss_one (ps_ret pe_bl)) pss_nil)
      (pss_cons (ps_if (pt_not (pt_val (pe_cal c__law_same_state (hr.mono (by decide)) (pa_cons (pe_cal c_mirror (hr.mono (by decide)) (pa_cons (pv 0) (pa_cons (pv 5) pa_nil))) (pa_cons (pv 6) pa_nil)))))
      (pss_one (ps_ret pe_bl)) pss_nil)
      (pss_cons (ps_for PassesOwn.never rfl (pi_range1 (by rfl) T.range (pa_cons pe_int pa_nil)) (pg_name (i := 10) sc__law_ends_right.nd rfl (by first | exact Or.inl rfl | exact Or.inr rfl))
      (pss_cons (ps_set (i := 11) sc__law_ends_right.nd rfl (by first | exact Or.inl rfl | exact Or.inr rfl) (pe_cal c_lit_lamps (hr.mono (by decide)) (pa_cons (pv 0) (pa_cons (pv 3) pa_nil))))
      (pss_cons (ps_if (pt_not (pt_val (pe_cal c__law_list (hr.mono (by decide)) (pa_cons (pv 11) (pa_cons (pe_lc (own := [("lamp", 12)]) (g := gName 12) rfl sc__law_ends_right.nd (pi_range1 (by rfl) T.range (pa_cons (pv 4) pa_nil)) (blkOk_by (by kernel_rfl)) (fun _ _ _ _ _ => (pg_name (i := 12) sc__law_ends_right.nd rfl (by first | exact Or.inl rfl | exact Or.inr rfl))) (fun _ _ _ _ _ => (pts_one (pt_cmpR op_gt (pe_ix (ixT_ K) (pv 3) (pv 12) (fun _ _ => rfl)) pe_int (nomark _)))) (fun _ _ _ _ _ => (pv 12))) pa_nil)))))
      (pss_one (ps_ret pe_bl)) pss_nil)
      (pss_cons (ps_expr (pe_bm PySem.F.plainAttrs_list PySem.F.slot_list_append PySem.F.type_list_append mt_append (pv 11) (pa_cons pe_int pa_nil)))
      (pss_one (ps_expr (pe_bm0 PySem.F.plainAttrs_list PySem.F.slot_list_reverse PySem.F.type_list_reverse mt_reverse (pv 11))))))))
      (pss_one (ps_ret (pe_and (pe_cal c__law_list (hr.mono (by decide)) (pa_cons (pe_cal c_lit_lamps (hr.mono (by decide)) (pa_cons (pv 0) (pa_cons (pv 5) pa_nil))) (pa_cons (pe_lst pa_nil) pa_nil))) (pe_one (pe_cal c__law_list (hr.mono (by decide)) (pa_cons (pe_cal c_lit_lamps (hr.mono (by decide)) (pa_cons (pv 0) (pa_cons (pv 6) pa_nil))) (pa_cons (pe_listRg rfl (by rfl) T.list (prg_1 (by rfl) T.range (pv 4))) pa_nil))))))))))))))))))), ?_⟩
    refine ⟨_, rfl, d, _, rfl, .inl (SqL.of W.d), ?_⟩
    rw [show ((nL (ordN n (relOf ps) n)).length : Int) = (n : Int) by rw [nL_len, O.len]]
    refine ⟨_, rfl, x, n, h, _, rfl, W.hs.at_, n1, n16, h2, h10, fun dk H1 s1 hdk => ?_⟩
    refine ⟨_, rfl, x, n, h, _, rfl, W.hs.at_.same s1, n1, n16, h2, h10, fun br H2 s2 hbr => ?_⟩
    have s02 := s1.trans s2
    refine ⟨_, rfl, _, rfl, _, _, rfl, rfl, by show 1 ≤ sizeLine; decide, fun zz nzz => ⟨_, rfl, zz, _, _, rfl, rfl, upd_same, by omega, by omega, ?_, fun D hD => ?_⟩⟩
    · rw [Int.toNat_natCast, sizeLine_eq]; show 1 * n ≤ _; omega
    have s3 : Same H2 (upd (upd H2 zz (.lst [V.int ((h : Int) - 1)])) D (.lst (List.replicate ((n : Int)).toNat [V.int ((h : Int) - 1)]).flatten)) := (same_new nzz).trans (same_new hD)
    have ha1 : (upd (upd H2 zz (.lst [V.int ((h : Int) - 1)])) D (.lst (List.replicate ((n : Int)).toNat [V.int ((h : Int) - 1)]).flatten)) D = some (.lst (stV (List.replicate n ((h : Int) - 1)))) := by rw [upd_same, repI]
    generalize upd (upd H2 zz (.lst [V.int ((h : Int) - 1)])) D (.lst (List.replicate ((n : Int)).toNat [V.int ((h : Int) - 1)]).flatten) = H3 at s3 ha1 ⊢
    clear hD nzz
    obtain ⟨a1, ea1⟩ : ∃ a, a = D := ⟨_, rfl⟩
    subst ea1
    have s03 := s02.trans s3
    refine ⟨_, rfl, d, a1, h, _, _, rfl, s03 _ _ W.d, .inr ha1, ltR _, h10, ?_⟩
    refine ⟨_, rfl, by show 1 ≤ sizeLine; decide, fun zz nzz => ⟨_, rfl, zz, _, _, rfl, rfl, upd_same, by omega, by omega, ?_, fun D hD => ?_⟩⟩
    · rw [Int.toNat_natCast, sizeLine_eq]; show 1 * n ≤ _; omega
    have s4 : Same H3 (upd (upd H3 zz (.lst [V.int (0)])) D (.lst (List.replicate ((n : Int)).toNat [V.int (0)]).flatten)) := (same_new nzz).trans (same_new hD)
    have ha2 : (upd (upd H3 zz (.lst [V.int (0)])) D (.lst (List.replicate ((n : Int)).toNat [V.int (0)]).flatten)) D = some (.lst (stV (List.replicate n (0)))) := by rw [upd_same, repI]
    generalize upd (upd H3 zz (.lst [V.int (0)])) D (.lst (List.replicate ((n : Int)).toNat [V.int (0)]).flatten) = H4 at s4 ha2 ⊢
    clear hD nzz
    obtain ⟨a2, ea2⟩ : ∃ a, a = D := ⟨_, rfl⟩
    subst ea2
    have s24 := s3.trans s4
    refine ⟨dk, a2, _, rfl, (s2.trans s24) _ _ hdk, .inr ha2, by rw [lN]; exact n16, true, rfl, iteF ?_⟩
    refine ⟨_, rfl, _, rfl, _, _, rfl, rfl, by show 1 ≤ sizeLine; decide, fun zz nzz => ⟨_, rfl, zz, _, _, rfl, rfl, upd_same, by omega, by omega, ?_, fun D hD => ?_⟩⟩
    · rw [Int.toNat_natCast, sizeLine_eq]; show 1 * n ≤ _; omega
    have s5 : Same H4 (upd (upd H4 zz (.lst [V.int ((h : Int) - 1)])) D (.lst (List.replicate ((n : Int)).toNat [V.int ((h : Int) - 1)]).flatten)) := (same_new nzz).trans (same_new hD)
    have ha3 : (upd (upd H4 zz (.lst [V.int ((h : Int) - 1)])) D (.lst (List.replicate ((n : Int)).toNat [V.int ((h : Int) - 1)]).flatten)) D = some (.lst (stV (List.replicate n ((h : Int) - 1)))) := by rw [upd_same, repI]
    generalize upd (upd H4 zz (.lst [V.int ((h : Int) - 1)])) D (.lst (List.replicate ((n : Int)).toNat [V.int ((h : Int) - 1)]).flatten) = H5 at s5 ha3 ⊢
    clear hD nzz
    obtain ⟨a3, ea3⟩ : ∃ a, a = D := ⟨_, rfl⟩
    subst ea3
    have s25 := s24.trans s5
    have hdk5 := (s2.trans s25) _ _ hdk
    have hbr5 := s25 _ _ hbr
    refine ⟨br, a3, _, rfl, hbr5, .inr ha3, by rw [lN]; exact n16, true, rfl, iteF ?_⟩
    have s05 := s02.trans s25
    refine ⟨_, rfl, _, rfl, x, dk, n, h, _, _, rfl, W.hs.at_.same s05, n16, h10, W.hR, hdk5, okD, fun H6 s6 => ?_⟩
    rw [num_dark O.lt]
    refine ⟨_, rfl, true, rfl, iteF ?_⟩
    have s06 := s05.trans s6
    refine ⟨_, rfl, _, rfl, x, br, n, h, _, _, rfl, W.hs.at_.same s06, n16, h10, W.hR, s6 _ _ hbr5, okB, fun H7 s7 => ?_⟩
    refine ⟨_, rfl, _, rfl, true, rfl, iteF ?_⟩
    have s07 := s06.trans s7
    have s57 := s6.trans s7
    refine ⟨_, rfl, _, rfl, x, t, n, h, _, S, rfl, W.hs.at_.same s07, n16, h10, s07 _ _ ht, ok, fun fl H8 s8 hfl => ?_⟩
    have s08 := s07.trans s8
    have s58 := s57.trans s8
    refine ⟨_, rfl, _, rfl, t, rfl, ⟨_, SqT.of (s08 _ _ ht)⟩, fun D hD => ?_⟩
    refine lc_tup (xs := stV S) (fun i H3 => H3 D = some (.lst (stV (mirS h (S.take i)))) ∧ Same H8 H3) ⟨upd_same, same_new hD⟩ (fun i H3 _ ⟨_, s⟩ => SqT.of (s _ _ (s08 _ _ ht))) ?_ ?_
    · rintro i y H3 hy ⟨h3', s3⟩
      have lS : (stV S).length = n := by rw [List.length_map, ok.1]
      have il : i < n := by rw [← lS]; exact (List.getElem?_eq_some_iff.mp hy).1
      rw [stV_get (by rw [ok.1]; exact il)] at hy
      cases hy
      have si : S[i]? = some (at_ S i) := by
        unfold at_
        rw [List.getD_eq_getElem?_getD, List.getElem?_eq_getElem (by rw [ok.1]; exact il)]
        rfl
      refine ⟨rfl, yesT ⟨_, rfl, _, _, rfl, rfl, _, rfl, _, _, rfl, rfl, _, h3', ?_, ?_, same_upd s3 hD⟩⟩
      · show (stV (mirS h (S.take i))).length < _
        unfold mirS stV
        rw [List.length_map, List.length_map, List.length_take, sizeLine_eq]; omega
      · rw [upd_same, List.take_add_one, si]
        unfold mirS stV
        rw [List.map_append, List.map_append]
        rfl
    rintro H9 ⟨h9, s9⟩
    rw [show (stV S).length = S.length from List.length_map _, List.take_length] at h9
    refine ⟨fl, D, _, rfl, s9 _ _ hfl, .inr h9, by unfold mirS; rw [List.length_map, ok.1]; exact n16, true, rfl, iteF ?_⟩
    have s09 := s08.trans s9
    have s59 := s58.trans s9
    refine ⟨_, rfl, _, rfl, x, fl, n, h, _, _, rfl, W.hs.at_.same s09, n16, h10, s9 _ _ hfl, okM, fun p1 H10 s10 hp1 => ?_⟩
    rw [mir_mir] at hp1
    have s010 := s09.trans s10
    refine ⟨_, rfl, p1, t, S, rfl, hp1, .inl (s010 _ _ ht), by rw [ok.1]; exact n16, true, rfl, iteF ?_⟩
    refine ⟨_, rfl, _, rfl, x, fl, n, h, _, _, rfl, W.hs.at_.same s010, n16, h10, W.hR, s10 _ _ (s9 _ _ hfl), okM, fun H11 s11 => ?_⟩
    have s011 := s010.trans s11
    refine ⟨_, rfl, _, rfl, _, rfl, _, rfl, d, t, h, _, S, rfl, s011 _ _ W.d, .inl (s011 _ _ ht), fun l hl => by rw [ok.1]; exact O.lt l hl, h10, ?_⟩
    refine ⟨_, _, rfl, rfl, numF h (mirS h S) 0 (ordN n (relOf ps) n), ?_, true, rfl, iteF ?_⟩
    · show [V.int _, V.int (numF h (List.replicate n ((h : Int) - 1)) 0 (ordN n (relOf ps) n) - numF h S 0 (ordN n (relOf ps) n))] = _
      rw [num_mir ok O.lt]
    have s511 := (s59.trans s10).trans s11
    refine ⟨_, rfl, _, rfl, x, dk, n, h, _, _, rfl, W.hs.at_.same s011, n16, h10, s511 _ _ hdk5, okD, fun p2 H12 s12 hp2 => ?_⟩
    rw [mir_dark] at hp2
    have s012 := s011.trans s12
    have s512 := s511.trans s12
    refine ⟨_, rfl, p2, br, _, rfl, hp2, .inl (s512 _ _ hbr5), by rw [lN]; exact n16, true, rfl, iteF ?_⟩
    refine ⟨_, rfl, by decide, by decide, ?_⟩
    refine for_range (n := 2) (fun i σ G => ∃ v8 v9 v10 v11 : Option V, σ = [some (.ref x), some (.ref d), some (.int h), some (.ref t), some (.int (n : Nat)), some (.ref dk), some (.ref br), some (.int (numF h (List.replicate n ((h : Int) - 1)) 0 (ordN n (relOf ps) n))), some (.ref fl), v8, v9, v10, v11] ∧ Same H12 G) ⟨_, _, _, _, rfl, Same.refl _⟩ ?_ ?_
    · rintro i σ G _ ⟨v8, v9, v10, v11, rfl, sG⟩
      have s0G := s012.trans sG
      refine ⟨_, rfl, _, rfl, x, t, n, h, _, S, rfl, W.hs.at_.same s0G, n16, h10, s0G _ _ ht, ok, fun lz G1 t1 nlz hlz => ?_⟩
      have s0G1 := s0G.trans t1
      refine ⟨_, rfl, _, rfl, _, rfl, by omega, by omega, fun D2 hD2 => ?_⟩
      rw [Int.toNat_natCast]
      refine lc_range (fun i H3 => H3 D2 = some (.lst (nL (litL i S))) ∧ Same G1 H3) ⟨upd_same, same_new hD2⟩ ?_ ?_
      · rintro i H3 hi ⟨h3', s3⟩
        have e0 : (0 : Int) + (i : Int) = (i : Int) := by omega
        rw [e0]
        have few := litL_len i S
        refine ⟨rfl, _, rfl, _, rfl, t, _, _, _, rfl, rfl, SqT.of (s3 _ _ (s0G1 _ _ ht)), atI_nat (stV_get (by rw [ok.1]; exact hi)), _, _, rfl, rfl, _, rfl, ?_⟩
        have e : litL (i + 1) S = litL i S ++ (if decide (at_ S i > 0) = true then [i] else []) := filt_more' _ i
        refine ite2 (fun hy => ?_) (fun hn => ?_)
        · refine ⟨_, rfl, _, h3', by rw [nL_len, sizeLine_eq]; omega, ?_, same_upd s3 hD2⟩
          rw [upd_same, e, if_pos hy, nL_app]; rfl
        · refine ⟨?_, s3⟩
          rw [h3', e, if_neg hn, List.append_nil]
      rintro G2 ⟨h3', t2⟩
      have few := litL_len n S
      have hlz2 := t2 _ _ hlz
      refine ⟨lz, D2, _, rfl, hlz2, h3', by omega, true, rfl, iteF ?_⟩
      refine ⟨_, rfl, .inl ⟨rfl, _, SqL.of hlz2⟩, lz, _, _, rfl, rfl, hlz2, by rw [nL_len, sizeLine_eq]; omega, ?_⟩
      refine ⟨_, rfl, .inl ⟨rfl, _, SqL.of upd_same⟩, lz, _, rfl, rfl, upd_same, ?_⟩
      have fr : Same G (upd (upd G2 lz (.lst (nL (litL n S) ++ [V.int 0]))) lz (.lst (nL (litL n S) ++ [V.int 0]).reverse)) := same_upd (same_upd (t1.trans t2) nlz) nlz
      exact ⟨_, _, _, _, rfl, sG.trans fr⟩
    · rintro σ G ⟨v8, v9, v10, v11, rfl, sG⟩
      have s0G := s012.trans sG
      refine ⟨_, rfl, _, rfl, x, dk, n, h, _, _, rfl, W.hs.at_.same s0G, n16, h10, sG _ _ (s512 _ _ hdk5), okD, fun lz G1 t1 nlz hlz => ?_⟩
      rw [lit_dark] at hlz
      refine ⟨by decide, fun e ne => ?_⟩
      have t2 : Same G1 (upd G1 e (.lst [])) := same_new ne
      have he : (upd G1 e (.lst [])) e = some (.lst (nL [])) := upd_same
      generalize upd G1 e (.lst []) = G2 at t2 he ⊢
      refine ⟨lz, e, [], rfl, t2 _ _ hlz, he, by decide, true, rfl, iteT ?_⟩
      have s0G2 := (s0G.trans t1).trans t2
      refine ⟨_, rfl, _, rfl, x, br, n, h, _, _, rfl, W.hs.at_.same s0G2, n16, h10, ((sG.trans t1).trans t2) _ _ (s512 _ _ hbr5), okB, fun lz2 G3 t3 nlz2 hlz2 => ?_⟩
      rw [lit_bright h2] at hlz2
      refine ⟨_, rfl, _, rfl, RgOk.of_le (by decide) (by omega) (by decide) (by omega), fun l nl => ?_⟩
      rw [rg_nL]
      have t4 : Same G3 (upd G3 l (.lst (nL (List.range n)))) := same_new nl
      exact ⟨lz2, l, List.range n, rfl, t4 _ _ hlz2, upd_same, by rw [List.length_range]; omega, q _ ((s0G2.trans t3).trans t4)⟩
end
end Hue

end
section
set_option maxRecDepth 100000
set_option maxHeartbeats 4000000
namespace Hue
open PySem PySem.Spec PyProof.Rows L2
section
variable {P : Program} {w : World} {K : PySem.W.Frag} {mg : Str → Option Value} {base : Heap} {C CL CS CN : Addr}
theorem vi {a b : Int} (h : a = b) : [V.int a] = [V.int b] := by rw [h]
theorem most_eq {n h : Nat} {ord : List Nat} (O : OrdL n ord) : numF h (List.replicate n ((h : Int) - 1)) 0 ord = (h : Int) ^ n - 1 := by
  rw [num_bright O.lt, O.len, Int.zero_add, Int.one_mul]
abbrev s__law_near_right : Stmt := top 47
theorem sc__law_near_right : FnScope ["house", "due", "hues", "state", "number", "most", "other", "found"] ["house", "due", "hues", "state"] (defScope s__law_near_right) := ⟨rfl, rfl, rfl, by decide +kernel, rfl, by decide +kernel, by decide +kernel⟩
-- slots of _law_near_right: 0 house, 1 due, 2 hues, 3 state, 4 number, 5 most, 6 other, 7 found
theorem ok__law_near_right (T : Txt K mg C) {f : Addr} {fd : FuncData} (F : Fun K "_law_near_right" "_law_near_right" s__law_near_right f fd) (c__law_due_number : Cal P w K mg base "_law_due_number" 1 spDueNumber) (c__law_due_state : Cal P w K mg base "_law_due_state" 1 spDueState) (c_state_of : Cal P w K mg base "state_of" 4 (spStateOfS C)) (c__law_same_state : Cal P w K mg base "_law_same_state" 2 spSameState)
    (c_number_of : Cal P w K mg base "number_of" 5 (spNumberS C)) (c__law_number : Cal P w K mg base "_law_number" 1 spNumber) : FnOk P w K mg base CX0 6 f fd ["house", "due", "hues", "state"] (spOne C) := by
  refine F.ok sc__law_near_right (fun vs H Q E h => ?_) (fun cdv A outer s H vs Q E hr h => ?_)
  · obtain ⟨x, d, t, n, h, ps, S, rfl, _⟩ := h; rfl
  · obtain ⟨x, d, t, n, h, ps, S, rfl, W, ht, ok, q⟩ := h
    have O := W.O
    have n1 := W.n1
    have n16 := W.n16
    have h2 := W.h2
    have h10 := W.h10
    have h1 : 1 ≤ h := Nat.le_of_succ_le h2
    have lN : ∀ z : Int, (List.replicate n z).length = n := fun z => List.length_replicate
    have rng := num_range O h1 ok
    generalize hnum : numF h S 0 (ordN n (relOf ps) n) = num at rng
    refine ⟨_, (pss_cons (ps_set (i := 4) sc__law_near_right.nd rfl (by first | exact Or.inl rfl | exact Or.inr rfl) (pe_cal c__law_due_number (hr.mono (by decide)) (pa_cons (pv 1) (pa_cons (pv 3) (pa_cons (pv 2) pa_nil)))))
      (pss_cons (ps_set (i := 5) sc__law_near_right.nd rfl (by first | exact Or.inl rfl | exact Or.inr rfl) (pe_cal c__law_due_number (hr.mono (by decide)) (pa_cons (pv 1) (pa_cons (pe_op op_rep (pe_lst (pa_cons (pe_op op_sub (pv 2) pe_int) pa_nil)) (pe_callB (lenS_ K) (by rfl) T.len b_len (pa_cons (pv 1) pa_nil))) (pa_cons (pv 2) pa_nil)))))
      (pss_cons (ps_for PassesOwn.never rfl (pil_ K (pe_lst (pa_cons (pe_op op_sub (pv 4) pe_int) (pa_cons (pv 4) (pa_cons (pe_op op_add (pv 4) pe_int) pa_nil))))) (pg_name (i := 6) sc__law_near_right.nd rfl (by first | exact Or.inl rfl | exact Or.inr rfl))
      (pss_one (ps_if (pt_chain op_le op_le pe_int (pv 6) (pv 5))
      (pss_cons (ps_set (i := 7) sc__law_near_right.nd rfl (by first | exact Or.inl rfl | exact Or.inr rfl) (pe_cal c__law_due_state (hr.mono (by decide)) (pa_cons (pv 1) (pa_cons (pv 6) (pa_cons (pv 2) pa_nil)))))
      (pss_cons (ps_if (pt_not (pt_val (pe_cal c__law_same_state (hr.mono (by decide)) (pa_cons (pe_cal c_state_of (hr.mono (by decide)) (pa_cons (pv 0) (pa_cons (pv 6) pa_nil))) (pa_cons (pv 7) pa_nil)))))
      (pss_one (ps_ret pe_bl)) pss_nil)
      (pss_one (ps_if (pt_not (pt_val (pe_cal c__law_number (hr.mono (by decide)) (pa_cons (pe_cal c_number_of (hr.mono (by decide)) (pa_cons (pv 0) (pa_cons (pv 7) pa_nil))) (pa_cons (pv 6) pa_nil)))))
      (pss_one (ps_ret pe_bl)) pss_nil)))) pss_nil)))
      (pss_cons (ps_if (pt_cmpR op_gt (pv 5) pe_int (nomark _))
      (pss_one (ps_ret pe_bl)) pss_nil)
      (pss_cons (ps_for PassesOwn.never rfl (pi_range1 (by rfl) T.range (pa_cons (pe_op op_add (pv 5) pe_int) pa_nil)) (pg_name (i := 6) sc__law_near_right.nd rfl (by first | exact Or.inl rfl | exact Or.inr rfl))
      (pss_cons (ps_set (i := 7) sc__law_near_right.nd rfl (by first | exact Or.inl rfl | exact Or.inr rfl) (pe_cal c_state_of (hr.mono (by decide)) (pa_cons (pv 0) (pa_cons (pv 6) pa_nil))))
      (pss_cons (ps_if (pt_not (pt_val (pe_cal c__law_same_state (hr.mono (by decide)) (pa_cons (pv 7) (pa_cons (pe_cal c__law_due_state (hr.mono (by decide)) (pa_cons (pv 1) (pa_cons (pv 6) (pa_cons (pv 2) pa_nil)))) pa_nil)))))
      (pss_one (ps_ret pe_bl)) pss_nil)
      (pss_one (ps_if (pt_not (pt_val (pe_cal c__law_number (hr.mono (by decide)) (pa_cons (pe_cal c_number_of (hr.mono (by decide)) (pa_cons (pv 0) (pa_cons (pv 7) pa_nil))) (pa_cons (pv 6) pa_nil)))))
      (pss_one (ps_ret pe_bl)) pss_nil)))))
      (pss_one (ps_ret pe_bl))))))), ?_⟩
    refine ⟨_, rfl, _, rfl, _, rfl, d, t, h, _, S, rfl, W.d, .inl ht, fun l hl => by rw [ok.1]; exact O.lt l hl, h10, ?_⟩
    rw [hnum]
    refine ⟨_, rfl, _, rfl, _, _, rfl, rfl, by show 1 ≤ sizeLine; decide, fun zz nzz => ⟨_, rfl, d, _, rfl, .inl (SqL.of (same_new nzz _ _ W.d)), zz, _, _, rfl, rfl, upd_same, ?_, ?_, ?_, fun D hD => ?_⟩⟩
    · rw [nL_len, O.len]; omega
    · rw [nL_len, O.len]; omega
    · rw [nL_len, O.len, Int.toNat_natCast, sizeLine_eq]; show 1 * n ≤ _; omega
    rw [show ((nL (ordN n (relOf ps) n)).length : Int) = (n : Int) by rw [nL_len, O.len]]
    have s1 : Same H (upd (upd H zz (.lst [V.int ((h : Int) - 1)])) D (.lst (List.replicate ((n : Int)).toNat [V.int ((h : Int) - 1)]).flatten)) := (same_new nzz).trans (same_new hD)
    have ha1 : (upd (upd H zz (.lst [V.int ((h : Int) - 1)])) D (.lst (List.replicate ((n : Int)).toNat [V.int ((h : Int) - 1)]).flatten)) D = some (.lst (stV (List.replicate n ((h : Int) - 1)))) := by rw [upd_same, repI]
    generalize upd (upd H zz (.lst [V.int ((h : Int) - 1)])) D (.lst (List.replicate ((n : Int)).toNat [V.int ((h : Int) - 1)]).flatten) = H1 at s1 ha1 ⊢
    refine ⟨_, rfl, d, D, h, _, _, rfl, s1 _ _ W.d, .inr ha1, fun l hl => by rw [lN]; exact O.lt l hl, h10, ?_⟩
    rw [most_eq O]
    have mb : (h : Int) ^ n ≤ 10000000000000000 := by
      have pb := pow_bound h10 n16
      have e16 : (10 : Nat) ^ 16 = 10000000000000000 := by decide
      have ep : ((h ^ n : Nat) : Int) = (h : Int) ^ n := Int.natCast_pow h n
      omega
    have mp : 0 < (h : Int) ^ n := Int.pow_pos (by omega)
    generalize hm : (h : Int) ^ n = m at rng mb mp
    refine ⟨_, rfl, _, _, rfl, rfl, _, rfl, _, rfl, _, _, rfl, rfl, by show 3 ≤ sizeLine; decide, fun o no => ?_⟩
    have s2 : Same H1 (upd H1 o (.lst [.int (num - 1), .int num, .int (num + 1)])) := same_new no
    have ho : (upd H1 o (.lst [.int (num - 1), .int num, .int (num + 1)])) o = some (.lst [.int (num - 1), .int num, .int (num + 1)]) := upd_same
    generalize upd H1 o (.lst [.int (num - 1), .int num, .int (num + 1)]) = H2 at s2 ho ⊢
    have s02 := s1.trans s2
    refine ⟨o, rfl, ⟨_, SqL.of ho⟩, ?_⟩
    refine for_list (K := K) (a := o) (xs := [.int (num - 1), .int num, .int (num + 1)]) (fun i σ G => ∃ v6 v7 : Option V, σ = [some (.ref x), some (.ref d), some (.int h), some (.ref t), some (.int num), some (.int (m - 1)), v6, v7] ∧ Same H2 G) ⟨_, _, rfl, Same.refl _⟩ (fun i σ G _ ⟨_, _, _, s⟩ => SqL.of (s _ _ ho)) ?_ ?_
    · rintro i y σ G hy ⟨v6, v7, rfl, sG⟩
      obtain ⟨k, rfl⟩ : ∃ k, y = V.int k := by
        have := List.mem_of_getElem? hy
        simp only [List.mem_cons, List.not_mem_nil, or_false] at this
        rcases this with rfl | rfl | rfl <;> exact ⟨_, rfl⟩
      refine ⟨_, rfl, _, _, rfl, rfl, _, rfl, ?_⟩
      refine ite2 (fun k0 => ?_) (fun hq => ⟨false, rfl, iteF ⟨_, _, rfl, sG⟩⟩)
      have k0 : 0 ≤ k := of_decide_eq_true k0
      refine ⟨_, rfl, _, _, rfl, rfl, _, rfl, ?_⟩
      refine ite2 (fun k1 => ?_) (fun _ => ⟨_, _, rfl, sG⟩)
      have k1 : k < m := by have := of_decide_eq_true k1; omega
      have s0G := s02.trans sG
      refine ⟨_, rfl, _, rfl, _, rfl, d, n, h, _, k, rfl, s0G _ _ W.d, O, n16, h2, h10, fun fz G1 t1 hfz => ?_⟩
      have s0G1 := s0G.trans t1
      refine ⟨_, rfl, _, rfl, x, n, h, _, k, rfl, W.hs.at_.same s0G1, n1, n16, h2, h10, W.hR, k0, by rw [hm]; exact k1, fun p G2 t2 hp => ?_⟩
      have okN := stN_ok h1 (n := n) (ordN n (relOf ps) n) k
      refine ⟨_, rfl, p, fz, _, rfl, hp, .inl (t2 _ _ hfz), by rw [stN_len]; exact n16, true, rfl, iteF ?_⟩
      have s0G2 := s0G1.trans t2
      refine ⟨_, rfl, _, rfl, x, fz, n, h, _, _, rfl, W.hs.at_.same s0G2, n16, h10, W.hR, t2 _ _ hfz, okN, fun G3 t3 => ?_⟩
      rw [num_stN O h1 k0 (by rw [hm]; exact k1)]
      exact ⟨_, rfl, _, rfl, true, rfl, iteF ⟨_, _, rfl, ((sG.trans t1).trans t2).trans t3⟩⟩
    · rintro σ G ⟨v6, v7, rfl, sG⟩
      have s0G := s02.trans sG
      refine ⟨_, rfl, _, _, rfl, rfl, _, rfl, ?_⟩
      refine ite2 (fun _ => q G s0G) (fun nm => ?_)
      have m256 : m ≤ 256 := by
        rcases Int.lt_or_le 255 (m - 1) with z | z
        · exact absurd (decide_eq_true z) nm
        · omega
      refine ⟨_, rfl, _, _, rfl, rfl, m, vi (by omega), by omega, by omega, ?_⟩
      refine for_range (fun i σ G1 => ∃ v6 v7 : Option V, σ = [some (.ref x), some (.ref d), some (.int h), some (.ref t), some (.int num), some (.int (m - 1)), v6, v7] ∧ Same H G1) ⟨_, _, rfl, s0G⟩ ?_ ?_
      · rintro i σ G1 hi ⟨v6, v7, rfl, sG1⟩
        have e0 : (0 : Int) + (i : Int) = (i : Int) := by omega
        rw [e0]
        have k0 : (0 : Int) ≤ (i : Int) := by omega
        have k1 : (i : Int) < m := by omega
        refine ⟨_, rfl, _, rfl, x, n, h, _, (i : Int), rfl, W.hs.at_.same sG1, n1, n16, h2, h10, W.hR, k0, by rw [hm]; exact k1, fun p G2 t2 hp => ?_⟩
        have sG2 := sG1.trans t2
        have okN := stN_ok h1 (n := n) (ordN n (relOf ps) n) (i : Int)
        refine ⟨_, rfl, _, rfl, _, rfl, _, rfl, d, n, h, _, (i : Int), rfl, sG2 _ _ W.d, O, n16, h2, h10, fun fz G3 t3 hfz => ?_⟩
        refine ⟨p, fz, _, rfl, t3 _ _ hp, .inl hfz, by rw [stN_len]; exact n16, true, rfl, iteF ?_⟩
        have sG3 := sG2.trans t3
        refine ⟨_, rfl, _, rfl, x, p, n, h, _, _, rfl, W.hs.at_.same sG3, n16, h10, W.hR, t3 _ _ hp, okN, fun G4 t4 => ?_⟩
        rw [num_stN O h1 k0 (by rw [hm]; exact k1)]
        exact ⟨_, rfl, _, rfl, true, rfl, iteF ⟨_, _, rfl, sG3.trans t4⟩⟩
      · rintro σ G1 ⟨v6, v7, rfl, sG1⟩
        exact q G1 sG1
/-! ### moves lower the number -/
def movS (n h : Nat) (R : Rel) (S : List Int) (k : Nat) : List Int := (List.range n).map fun j => if j = k then at_ S k - 1 else if R k j = true then (at_ S j + (h : Int) - 1) % (h : Int) else at_ S j
theorem movS_len (n h : Nat) (R : Rel) (S : List Int) (k : Nat) : (movS n h R S k).length = n := by unfold movS; rw [List.length_map, List.length_range]
theorem at_movS {n h : Nat} {R : Rel} {S : List Int} {k j : Nat} (hj : j < n) : at_ (movS n h R S k) j = if j = k then at_ S k - 1 else if R k j = true then (at_ S j + (h : Int) - 1) % (h : Int) else at_ S j := by
  unfold at_ movS
  rw [List.getD_eq_getElem?_getD, List.getElem?_map, List.getElem?_range hj]
  rfl
theorem movS_ok {n h : Nat} {R : Rel} {S : List Int} {k : Nat} (h1 : 1 ≤ h) (ok : StOk n h S) (hk : k < n) (pos : at_ S k > 0) : StOk n h (movS n h R S k) := ⟨movS_len .., fun z hz => by
  unfold movS at hz
  obtain ⟨j, hj, rfl⟩ := List.mem_map.mp hz
  have a := ok.at hk
  have b := ok.all_ h1 j
  split
  · omega
  · split
    · exact ⟨Int.emod_nonneg _ (by omega), Int.emod_lt_of_pos _ (by omega)⟩
    · exact b⟩
theorem mov_lower {n h : Nat} {R : Rel} {S : List Int} {k : Nat} (h1 : 1 ≤ h) (hR : Ranked R) (ok : StOk n h S) (hk : k < n) (pos : at_ S k > 0) : numF h (movS n h R S k) 0 (ordN n R n) < numF h S 0 (ordN n R n) := by
  obtain ⟨_, o⟩ := ordN_ok hR n (Nat.le_refl n)
  have okM := movS_ok (R := R) h1 ok hk pos
  obtain ⟨q, hq, eq⟩ := List.getElem_of_mem (ord_all hR hk)
  have hq' : (ordN n R n)[q]? = some k := by rw [List.getElem?_eq_getElem hq, eq]
  have sp : ordN n R n = (ordN n R n).take q ++ k :: (ordN n R n).drop (q + 1) := by
    rw [← eq, ← List.drop_eq_getElem_cons hq, List.take_append_drop]
  have pre : ∀ l ∈ (ordN n R n).take q, at_ (movS n h R S k) l = at_ S l := fun l hl => by
    have ln := o.lt l (List.mem_of_mem_take hl)
    obtain ⟨p, hp, ep⟩ := List.getElem_of_mem hl
    rw [List.length_take] at hp
    rw [List.getElem_take] at ep
    have hp' : (ordN n R n)[p]? = some l := by rw [List.getElem?_eq_getElem (by omega), ep]
    have nk : l ≠ k := fun z => by
      rw [z] at hp'
      have := nodup_at o.nd hp' hq'
      omega
    have nr : R k l = false := by
      cases e : R k l with
      | false => rfl
      | true =>
        have m := o.up p l hp' k hk e
        obtain ⟨r, hr, er⟩ := List.getElem_of_mem m
        rw [List.length_take] at hr
        rw [List.getElem_take] at er
        have hr' : (ordN n R n)[r]? = some k := by rw [List.getElem?_eq_getElem (by omega), er]
        have := nodup_at o.nd hr' hq'
        omega
    rw [at_movS ln, if_neg nk, if_neg (by rw [nr]; exact Bool.false_ne_true)]
  rw [sp, numF_app, numF_app, numF_cons, numF_cons, numF_congr pre]
  refine numF_lt ?_ fun l hl => ⟨(ok.all_ h1 l).1, (okM.all_ h1 l).2⟩
  rw [at_movS hk, if_pos rfl]
  omega
theorem ints_dp' {H : Hp} : ∀ l : List Nat, DpAll K H (nL l) ((nI l).map .int)
  | [] => .nil
  | k :: l => .cons (.int _) (ints_dp' l)
theorem nLD_shaped (l : List Nat) : SeqAt.shaped (.list ((nI l).map .int)) = true := by
  have h1 := ints_deep (nI l)
  have h2 : PyData.depth (.list ((nI l).map .int)) ≤ 64 := by
    simp only [PyData.depth]
    omega
  show (PyData.canLay0 (.list ((nI l).map .int)) && decide (PyData.depth (.list ((nI l).map .int)) ≤ 64)) = true
  rw [decide_eq_true h2, Bool.and_true]
  simp only [PyData.canLay0]
  exact ints_lay (nI l)
theorem nLD_eqv (l : List Nat) : PyData.eqv (.list ((nI l).map .int)) (.list ((nI []).map .int)) = decide (l = []) := by
  simp only [PyData.eqv]
  cases l with
  | nil => simp [nI, PyData.eqvAll]
  | cons k l => simp [nI, PyData.eqvAll]
abbrev s__law_moves_right : Stmt := top 48
theorem sc__law_moves_right : FnScope ["box", "house", "due", "hues", "state", "under", "k", "lit", "lamp", "row", "w"] ["box", "house", "due", "hues", "state", "under"] (defScope s__law_moves_right) := ⟨rfl, rfl, rfl, by decide +kernel, rfl, by decide +kernel, by decide +kernel⟩
-- slots of _law_moves_right: 0 box, 1 house, 2 due, 3 hues, 4 state, 5 under, 6 k, 7 lit, 8 lamp, 9 row, 10 w
/-- the house, its order list and its table, as they stand without the box -/
def W0 (C b : Addr) (H : Hp) (x d U : Addr) (n h : Nat) (ps : List (Nat × Nat)) : Prop := ∃ H0 : Hp, H0 b = none ∧ Same H0 H ∧ Wd C H0 x d n h ps ∧ Tb H0 U n (relOf ps)
theorem W0.sb {b : Addr} {H H' : Hp} {x d U : Addr} {n h : Nat} {ps : List (Nat × Nat)} (a : W0 C b H x d U n h ps) (s : SB b H H') : W0 C b H' x d U n h ps := by
  obtain ⟨H0, n0, s0, r⟩ := a
  exact ⟨H0, n0, SB.past s0 n0 s, r⟩
theorem Tb.same {H H' : Hp} {D : Addr} {n : Nat} {U : Nat → Nat → Bool} (t : Tb H D n U) (s : Same H H') : Tb H' D n U := by
  obtain ⟨as, l, t⟩ := t
  exact ⟨as, l, t.same s⟩
theorem W0.get {b : Addr} {H : Hp} {x d U : Addr} {n h : Nat} {ps : List (Nat × Nat)} (a : W0 C b H x d U n h ps) : Wd C H x d n h ps ∧ Tb H U n (relOf ps) := by
  obtain ⟨H0, n0, s0, r1, r2⟩ := a
  exact ⟨r1.same s0, r2.same s0⟩
def spMoves (C : Addr) : Sp := fun vs H Q _ => ∃ (b ga la x d t U : Addr) (n h : Nat) (ps : List (Nat × Nat)) (S : List Int), vs = [.ref b, .ref x, .ref d, .int h, .ref t, .ref U] ∧ Bx H b ga la ∧ W0 C b H x d U n h ps ∧ H t = some (.tup (stV S)) ∧ StOk n h S ∧ ∀ H', SB b H H' → Bx H' b ga la → Q (.bl true) H'
theorem ok__law_moves_right (T : Txt K mg C) {f : Addr} {fd : FuncData} (F : Fun K "_law_moves_right" "_law_moves_right" s__law_moves_right f fd) (c__law_take : Cal P w K mg base "_law_take" 1 spTake) (c_number_of : Cal P w K mg base "number_of" 5 (spNumberS C)) (c__law_one_right : Cal P w K mg base "_law_one_right" 6 (spOne C)) : FnOk P w K mg base CX0 7 f fd ["box", "house", "due", "hues", "state", "under"] (spMoves C) := by
  refine F.ok sc__law_moves_right (fun vs H Q E h => ?_) (fun cdv A outer s H vs Q E hr h => ?_)
  · obtain ⟨b, ga, la, x, d, t, U, n, h, ps, S, rfl, _⟩ := h; rfl
  · obtain ⟨b, ga, la, x, d, t, U, n, h, ps, S, rfl, hb, w0, ht, ok, q⟩ := h
    refine ⟨_, (pss_cons (ps_for PassesOwn.never rfl (pi_range1 (by rfl) T.range (pa_cons pe_int pa_nil)) (pg_name (i := 6) sc__law_moves_right.nd rfl (by first | exact Or.inl rfl | exact Or.inr rfl))
      (pss_cons (ps_setLc (i := 7) (own := [("lamp", 8)]) (g := gName 8) rfl sc__law_moves_right.nd rfl rfl (sw_true rfl rfl rfl (by kernel_rfl)) (pi_range1 (by rfl) T.range (pa_cons (pe_callB (lenS_ K) (by rfl) T.len b_len (pa_cons (pv 2) pa_nil)) pa_nil)) (blkOk_by (by kernel_rfl)) (fun _ _ _ _ _ => (pg_name (i := 8) sc__law_moves_right.nd rfl (by first | exact Or.inl rfl | exact Or.inr rfl))) (fun _ _ _ _ _ => (pts_one (pt_cmpR op_gt (pe_ix (ixT_ K) (pv 4) (pv 8) (fun _ _ => rfl)) pe_int (nomark _)))) (fun _ _ _ _ _ => (pv 8)))
      (pss_cons (ps_if (pt_cmpR (hu_eqD K hr.units) (pv 7) (pe_lst pa_nil) (nomark _))
      (pss_one ps_break) pss_nil)
      (pss_cons (ps_set (i := 8) sc__law_moves_right.nd rfl (by first | exact Or.inl rfl | exact Or.inr rfl) (pe_ix (ixL_ K) (pv 7) (pe_cal c__law_take (hr.mono (by decide)) (pa_cons (pv 0) (pa_cons (pe_callB (lenS_ K) (by rfl) T.len b_len (pa_cons (pv 7) pa_nil)) pa_nil))) (fun _ _ => rfl)))
      (pss_cons (ps_set (i := 9) sc__law_moves_right.nd rfl (by first | exact Or.inl rfl | exact Or.inr rfl) (pe_callTy (lstOf_ K) (by rfl) T.list b_list (pa_cons (pv 4) pa_nil)))
      (pss_cons (ps_asg (pe_op op_sub (pe_ix (ixL_ K) (pv 9) (pv 8) (fun _ _ => rfl)) pe_int) (pg_sub (pv 9) (pv 8) set_list))
      (pss_cons (ps_for PassesOwn.never rfl (pi_range1 (by rfl) T.range (pa_cons (pe_callB (lenS_ K) (by rfl) T.len b_len (pa_cons (pv 2) pa_nil)) pa_nil)) (pg_name (i := 10) sc__law_moves_right.nd rfl (by first | exact Or.inl rfl | exact Or.inr rfl))
      (pss_one (ps_if (pt_val (pe_ix (ixL_ K) (pe_ix (ixL_ K) (pv 5) (pv 8) (fun _ _ => rfl)) (pv 10) (fun _ _ => rfl)))
      (pss_one (ps_asg (pe_op op_mod (pe_callTy call_int1 (by rfl) T.int b_int (pa_cons (pe_op op_sub (pe_op op_add (pe_ix (ixL_ K) (pv 9) (pv 10) (fun _ _ => rfl)) (pv 3)) pe_int) pa_nil)) (pv 3)) (pg_sub (pv 9) (pv 10) set_list))) pss_nil)))
      (pss_cons (ps_if (pt_cmpR op_ge (pe_cal c_number_of (hr.mono (by decide)) (pa_cons (pv 1) (pa_cons (pe_callTy (tupOf_ K) (by rfl) T.tuple b_tuple (pa_cons (pv 9) pa_nil)) pa_nil))) (pe_cal c_number_of (hr.mono (by decide)) (pa_cons (pv 1) (pa_cons (pv 4) pa_nil))) (nomark _))
      (pss_one (ps_ret pe_bl)) pss_nil)
      (pss_cons (ps_set (i := 4) sc__law_moves_right.nd rfl (by first | exact Or.inl rfl | exact Or.inr rfl) (pe_callTy (tupOf_ K) (by rfl) T.tuple b_tuple (pa_cons (pv 9) pa_nil)))
      (pss_one (ps_if (pt_not (pt_val (pe_cal c__law_one_right (hr.mono (by decide)) (pa_cons (pv 1) (pa_cons (pv 2) (pa_cons (pv 3) (pa_cons (pv 4) pa_nil)))))))
      (pss_one (ps_ret pe_bl)) pss_nil)))))))))))
      (pss_one (ps_ret pe_bl))), ?_⟩
    refine ⟨_, rfl, by decide, by decide, ?_⟩
    refine for_range (n := 6) (fun i σ G => ∃ (v6 v7 v8 v9 v10 : Option V) (t : Addr) (S : List Int), σ = [some (.ref b), some (.ref x), some (.ref d), some (.int h), some (.ref t), some (.ref U), v6, v7, v8, v9, v10] ∧ SB b H G ∧ Bx G b ga la ∧ W0 C b G x d U n h ps ∧ G t = some (.tup (stV S)) ∧ StOk n h S) ⟨_, _, _, _, _, t, S, rfl, SB.refl b H, hb, w0, ht, ok⟩ ?_ ?_
    · rintro i σ G _ ⟨v6, v7, v8, v9, v10, t, S, rfl, sG, bG, wG, ht, ok⟩
      obtain ⟨W, tb⟩ := wG.get
      have O := W.O
      have n1 := W.n1
      have n16 := W.n16
      have h2 := W.h2
      have h10 := W.h10
      have h1 : 1 ≤ h := Nat.le_of_succ_le h2
      have ed : ((nL (ordN n (relOf ps) n)).length : Int) = (n : Int) := by rw [nL_len, O.len]
      refine ⟨_, rfl, d, _, rfl, .inl (SqL.of W.d), ?_⟩
      rw [ed]
      refine ⟨_, rfl, by omega, by omega, fun D hD => ?_⟩
      rw [Int.toNat_natCast]
      refine lc_range (fun i H3 => H3 D = some (.lst (nL (litL i S))) ∧ Same G H3) ⟨upd_same, same_new hD⟩ ?_ ?_
      · rintro i H3 hi ⟨h3', s3⟩
        have e0 : (0 : Int) + (i : Int) = (i : Int) := by omega
        rw [e0]
        have few := litL_len i S
        refine ⟨rfl, _, rfl, _, rfl, t, _, _, _, rfl, rfl, SqT.of (s3 _ _ ht), atI_nat (stV_get (by rw [ok.1]; exact hi)), _, _, rfl, rfl, _, rfl, ?_⟩
        have e : litL (i + 1) S = litL i S ++ (if decide (at_ S i > 0) = true then [i] else []) := filt_more' _ i
        refine ite2 (fun hy => ?_) (fun hn => ?_)
        · refine ⟨_, rfl, _, h3', by rw [nL_len, sizeLine_eq]; omega, ?_, same_upd s3 hD⟩
          rw [upd_same, e, if_pos hy, nL_app]; rfl
        · refine ⟨?_, s3⟩
          rw [h3', e, if_neg hn, List.append_nil]
      rintro G1 ⟨hl, t1⟩
      refine ⟨_, rfl, by decide, fun e ne => ?_⟩
      have t2 : Same G1 (upd G1 e (.lst [])) := same_new ne
      have he : (upd G1 e (.lst [])) e = some (.lst (nL [])) := upd_same
      generalize upd G1 e (.lst []) = G2 at t2 he ⊢
      have hl2 := t2 _ _ hl
      have t02 := t1.trans t2
      have b2 := bG.same t02
      refine ⟨.list ((nI (litL n S)).map .int), .list ((nI []).map .int), .lst (SqL.of hl2) (ints_dp' _), .lst (SqL.of he) (ints_dp' []), nLD_shaped _, nLD_shaped _, _, rfl, ?_⟩
      rw [nLD_eqv]
      have sb2 := sG.trans (SB.of t02)
      refine ite2 (fun _ => ?_) (fun nem => ?_)
      · exact q G2 sb2 b2
      have lpos : 1 ≤ (litL n S).length := by
        cases e : litL n S with
        | nil => rw [e] at nem; exact absurd (decide_eq_true rfl) nem
        | cons a l => rw [List.length_cons]; omega
      have few := litL_len n S
      have Db := (bG.new hD).1
      refine ⟨_, rfl, _, rfl, _, rfl, D, _, rfl, .inl (SqL.of hl2), b, ga, la, (litL n S).length, by rw [nL_len], lpos, by omega, b2, fun dd G3 hdd t3 b3 => ?_⟩
      obtain ⟨k, hk⟩ : ∃ k, (litL n S)[dd]? = some k := ⟨_, List.getElem?_eq_getElem hdd⟩
      have hkm := List.mem_of_getElem? hk
      unfold litL at hkm
      obtain ⟨hk1, hk2⟩ := List.mem_filter.mp hkm
      have kn := List.mem_range.mp hk1
      have pos : at_ S k > 0 := of_decide_eq_true hk2
      refine ⟨D, _, _, _, rfl, rfl, SqL.of (t3 _ _ Db hl2), atI_nat (nL_get hk), ?_⟩
      have tb_ : t ≠ b := fun z => by
        obtain ⟨xs, hx⟩ := bG.at'
        rw [z, hx] at ht
        cases ht
      have ht3 := t3 _ _ tb_ (t02 _ _ ht)
      have w3 := (wG.sb (SB.of t02)).sb t3
      obtain ⟨W3, as, las, tb3⟩ := w3.get
      have sb3 := sb2.trans t3
      refine ⟨_, rfl, t, _, rfl, .inr (SqT.of ht3), fun A1 nA => ?_⟩
      have t4 : Same G3 (upd G3 A1 (.lst (stV S))) := same_new nA
      have hA : (upd G3 A1 (.lst (stV S))) A1 = some (.lst (stV S)) := upd_same
      have nA0 := nA
      generalize upd G3 A1 (.lst (stV S)) = G4 at t4 hA ⊢
      have kS : (stV S)[k]? = some (V.int (at_ S k)) := stV_get (by rw [ok.1]; exact kn)
      refine ⟨_, rfl, _, rfl, A1, _, _, _, rfl, rfl, SqL.of hA, atI_nat kS, _, _, rfl, rfl, _, rfl, _, rfl, set_at hA (ixN_nat (by rw [List.length_map, ok.1]; exact kn)) fun G5 t5 h5 => ?_⟩
      have h5 : G5 A1 = some (.lst ((stV S).set k (V.int (at_ S k - 1)))) := h5
      have sv : ∀ (L : List Int) (j : Nat) (z : Int), (stV L).set j (V.int z) = stV (L.set j z) := fun L j z => by unfold stV; rw [List.map_set]
      rw [sv] at h5
      have t35 : Same G3 G5 := t5.to_same t4 nA0
      refine ⟨_, rfl, d, _, rfl, .inl (SqL.of (t35 _ _ W3.d)), ?_⟩
      rw [ed]
      refine ⟨_, rfl, by omega, by omega, ?_⟩
      rw [Int.toNat_natCast]
      have irr : ∀ u, relOf ps u u = false := by
        obtain ⟨ρ, hρ⟩ := W.hR
        intro u
        cases z : relOf ps u u with
        | false => rfl
        | true => exact absurd (hρ u u z) (Nat.lt_irrefl _)
      refine for_range (fun i σ H6 => ∃ (v6 v10 : Option V) (L : List Int), σ = [some (.ref b), some (.ref x), some (.ref d), some (.int h), some (.ref t), some (.ref U), v6, some (.ref D), some (.int (k : Int)), some (.ref A1), v10] ∧ Same G3 H6 ∧ H6 A1 = some (.lst (stV L)) ∧ L.length = n ∧ ∀ j, j < n → at_ L j = if j = k then at_ S k - 1 else if j < i ∧ relOf ps k j = true then (at_ S j + (h : Int) - 1) % (h : Int) else at_ S j) ⟨some (.int ((0 : Int) + (i : Int))), v10, _, ?_, t35, h5, by rw [List.length_set]; exact ok.1, fun j hj => ?_⟩ ?_ ?_
      · rfl
      · rw [at_setI (by rw [ok.1]; exact kn)]
        by_cases e : k = j
        · rw [if_pos e, if_pos e.symm]
        · rw [if_neg e, if_neg (fun z => e z.symm), if_neg (fun z => Nat.not_lt_zero _ z.1)]
      · rintro j σ H6 hj ⟨v6, v10, L, rfl, t6, h6, lL, val⟩
        have e0 : (0 : Int) + (j : Int) = (j : Int) := by omega
        rw [e0]
        obtain ⟨r, hr1, hr2⟩ : ∃ r, as[k]? = some r ∧ (as.map V.ref)[k]? = some (V.ref r) := by
          have l : k < as.length := by rw [las]; exact kn
          exact ⟨as[k], List.getElem?_eq_getElem l, by rw [List.getElem?_map, List.getElem?_eq_getElem l]; rfl⟩
        refine ⟨_, rfl, _, rfl, U, _, _, _, rfl, rfl, SqL.of (t6 _ _ tb3.1), atI_nat hr2, _, rfl, r, _, _, _, rfl, rfl, SqL.of (t6 _ _ (tb3.2 _ _ hr1)), atI_nat (bF_get hj), _, rfl, ?_⟩
        refine ite2 (fun hy => ?_) (fun hn => ?_)
        · have jk : j ≠ k := fun z => by rw [z, irr k] at hy; cases hy
          have vj := val j hj
          rw [if_neg jk, if_neg (fun z => Nat.lt_irrefl _ z.1)] at vj
          have jL : (stV L)[j]? = some (V.int (at_ L j)) := stV_get (by rw [lL]; exact hj)
          refine ⟨_, rfl, _, rfl, A1, _, _, _, rfl, rfl, SqL.of h6, atI_nat jL, _, rfl, _, _, rfl, rfl, _, _, rfl, rfl, .inl ⟨_, rfl, _, rfl, _, _, rfl, rfl, (by show (0 : Int) < (h : Int); omega), _, rfl, _, rfl, set_at h6 (ixN_nat (by rw [List.length_map, lL]; exact hj)) fun H7 s7 h7 => ?_⟩⟩
          have h7 : H7 A1 = some (.lst ((stV L).set j (V.int ((at_ L j + (h : Int) - 1) % (h : Int))))) := h7
          rw [sv, vj] at h7
          refine ⟨_, _, _, rfl, s7.to_same t6 nA0, h7, by rw [List.length_set]; exact lL, fun m hm => ?_⟩
          rw [at_setI (by rw [lL]; exact hj)]
          by_cases e : j = m
          · rw [if_pos e, ← e, if_neg jk, if_pos ⟨Nat.lt_succ_self j, hy⟩]
          · rw [if_neg e, val m hm]
            have e2 : (m < j + 1 ∧ relOf ps k m = true) ↔ (m < j ∧ relOf ps k m = true) := ⟨fun z => ⟨by omega, z.2⟩, fun z => ⟨by omega, z.2⟩⟩
            simp only [e2]
        · refine ⟨_, _, L, rfl, t6, h6, lL, fun m hm => ?_⟩
          rw [val m hm]
          by_cases e : m = j
          · have nr : ¬ relOf ps k m = true := fun z => hn (by rw [← e]; exact z)
            rw [if_neg (fun z : m < j ∧ relOf ps k m = true => nr z.2), if_neg (fun z : m < j + 1 ∧ relOf ps k m = true => nr z.2)]
          · have e2 : (m < j + 1 ∧ relOf ps k m = true) ↔ (m < j ∧ relOf ps k m = true) := ⟨fun z => ⟨by omega, z.2⟩, fun z => ⟨by omega, z.2⟩⟩
            simp only [e2]
      · rintro σ H6 ⟨v6, v10, L, rfl, t6, h6, lL, val⟩
        have eL : L = movS n h (relOf ps) S k := by
          refine st_extI lL (movS_len ..) fun j hj => ?_
          rw [val j hj, at_movS hj]
          have e2 : (j < n ∧ relOf ps k j = true) ↔ relOf ps k j = true := ⟨fun z => z.2, fun z => ⟨hj, z⟩⟩
          simp only [e2]
        rw [eL] at h6
        have okM := movS_ok (R := relOf ps) h1 ok kn pos
        have low := mov_lower h1 W.hR ok kn pos
        have b6 := b3.same t6
        have ht6 := t6 _ _ ht3
        refine ⟨_, rfl, _, rfl, A1, _, rfl, .inl ⟨SqL.of h6, fun p np => ?_⟩⟩
        have t7 : Same H6 (upd H6 p (.tup (stV (movS n h (relOf ps) S k)))) := same_new np
        have hp : (upd H6 p (.tup (stV (movS n h (relOf ps) S k)))) p = some (.tup (stV (movS n h (relOf ps) S k))) := upd_same
        generalize upd H6 p (.tup (stV (movS n h (relOf ps) S k))) = H7 at t7 hp ⊢
        have t37 := t6.trans t7
        refine ⟨x, p, n, h, _, _, rfl, W3.hs.at_.same t37, n16, h10, W.hR, hp, okM, fun H8 t8 => ?_⟩
        have t38 := t37.trans t8
        refine ⟨_, rfl, _, rfl, x, t, n, h, _, S, rfl, W3.hs.at_.same t38, n16, h10, W.hR, t38 _ _ ht3, ok, fun H9 t9 => ⟨_, _, rfl, rfl, _, rfl, ifF ?_ ?_⟩⟩
        · exact decide_eq_false (by omega)
        have t39 := t38.trans t9
        have t69 := (t7.trans t8).trans t9
        refine ⟨_, rfl, A1, _, rfl, .inl ⟨SqL.of (t69 _ _ h6), fun p2 np2 => ?_⟩⟩
        have t10 : Same H9 (upd H9 p2 (.tup (stV (movS n h (relOf ps) S k)))) := same_new np2
        have hp2 : (upd H9 p2 (.tup (stV (movS n h (relOf ps) S k)))) p2 = some (.tup (stV (movS n h (relOf ps) S k))) := upd_same
        generalize upd H9 p2 (.tup (stV (movS n h (relOf ps) S k))) = H10 at t10 hp2 ⊢
        have t310 := t39.trans t10
        refine ⟨_, rfl, _, rfl, _, rfl, _, rfl, x, d, p2, n, h, ps, _, rfl, W3.same t310, hp2, okM, fun H11 t11 => ⟨true, rfl, iteF ?_⟩⟩
        have t311 := t310.trans t11
        exact ⟨_, _, _, _, _, p2, _, rfl, sb3.trans (SB.of t311), b3.same t311, w3.sb (SB.of t311), t11 _ _ hp2, okM⟩
    · rintro σ G ⟨v6, v7, v8, v9, v10, t, S, rfl, sG, bG, _⟩
      exact q G sG bG
end
end Hue

end
section
set_option maxRecDepth 100000
set_option maxHeartbeats 4000000
namespace Hue
open PySem PySem.Spec PyProof.Rows L2
section
variable {P : Program} {w : World} {K : PySem.W.Frag} {mg : Str → Option Value} {base : Heap} {C CL CS CN : Addr}
/-! ### odd numbers -/
theorem str_small : ∀ k : Nat, k < 1000 → PyData.leavesShort 40 (.str (toString (k : Int))) = true ∧ (toString (k : Int) : Str).cps.size ≤ 100 := by decide +kernel
theorem log_small : ∀ k : Nat, k < 1000 → ((k : Int)).natAbs.log2 < 1920 := by decide +kernel
theorem lf_str {k : Nat} (h : k < 1000) : Lf (.str (toString (k : Int))) (.str (toString (k : Int))) := .str _ (str_small k h).1 (str_small k h).2
theorem lf_int {i : Int} (h0 : -1000000000000000000 < i) (h1 : i < 1000000000000000000) : Lf (.int i) (.int i) := .int i (by
  have e : (10 : Nat) ^ 38 = 100000000000000000000000000000000000000 := by decide
  omega)
theorem out_of {i : Int} {m : Int} (h : i < 0 ∨ m < i) : inI (.int i) 0 m = false := by
  show (decide (0 ≤ i) && decide (i ≤ m)) = false
  rw [Bool.and_eq_false_iff, decide_eq_false_iff_not, decide_eq_false_iff_not]
  omega
theorem small_mod (r m : Nat) : ∃ k : Nat, ((r : Nat) : Int) % ((m : Nat) : Int) = (k : Int) ∧ k ≤ r := ⟨r % m, by rw [Int.natCast_emod], Nat.mod_le r m⟩
abbrev s__law_odd_number : Stmt := top 49
theorem sc__law_odd_number : FnScope ["box", "most", "way", "near"] ["box", "most", "way"] (defScope s__law_odd_number) := ⟨rfl, rfl, rfl, by decide +kernel, rfl, by decide +kernel, by decide +kernel⟩
-- slots of _law_odd_number: 0 box, 1 most, 2 way, 3 near
def spOddNumber : Sp := fun vs H Q _ => ∃ (b ga la : Addr) (m : Nat) (way : Int), vs = [.ref b, .int m, .int way] ∧ 1 ≤ m ∧ m < 100000000000000000 ∧ Bx H b ga la ∧ ∀ (v : V) (d : PyData) (H' : Hp), SB b H H' → Bx H' b ga la → Lf2 H' v d → inI v 0 (m : Int) = false → Q v H'
theorem ok__law_odd_number (T : Txt K mg C) {f : Addr} {fd : FuncData} (F : Fun K "_law_odd_number" "_law_odd_number" s__law_odd_number f fd) (c__law_take : Cal P w K mg base "_law_take" 1 spTake) : FnOk P w K mg base CX0 2 f fd ["box", "most", "way"] spOddNumber := by
  refine F.ok sc__law_odd_number (fun vs H Q E h => ?_) (fun cdv A outer s H vs Q E hr h => ?_)
  · obtain ⟨b, ga, la, m, way, rfl, _⟩ := h; rfl
  · obtain ⟨b, ga, la, m, way, rfl, m1, m17, hb, q⟩ := h
    refine ⟨_, (pss_cons (ps_set (i := 3) sc__law_odd_number.nd rfl (by first | exact Or.inl rfl | exact Or.inr rfl) (pe_cal c__law_take (hr.mono (by decide)) (pa_cons (pv 0) (pa_cons pe_int pa_nil))))
      (pss_cons (ps_if (pt_cmpR op_eq (pv 2) pe_int (nomark _))
      (pss_one (ps_ret (pe_un un_neg pe_int))) pss_nil)
      (pss_cons (ps_if (pt_cmpR op_eq (pv 2) pe_int (nomark _))
      (pss_one (ps_ret (pe_op op_add (pv 1) pe_int))) pss_nil)
      (pss_cons (ps_if (pt_cmpR op_eq (pv 2) pe_int (nomark _))
      (pss_one (ps_ret (pe_cmpR op_eq (pe_op op_mod (pv 3) pe_int) pe_int (nomark _)))) pss_nil)
      (pss_cons (ps_if (pt_cmpR op_eq (pv 2) pe_int (nomark _))
      (pss_one (ps_ret pe_non)) pss_nil)
      (pss_cons (ps_if (pt_cmpR op_eq (pv 2) pe_int (nomark _))
      (pss_one (ps_ret (pe_callTy call_str_int (by rfl) T.str b_str (pa_cons (pe_op op_mod (pv 3) (pe_op op_add (pv 1) pe_int)) pa_nil)))) pss_nil)
      (pss_cons (ps_if (pt_cmpR op_eq (pv 2) pe_int (nomark _))
      (pss_one (ps_ret (pe_tup (pa_cons (pe_op op_mod (pv 3) (pe_op op_add (pv 1) pe_int)) pa_nil)))) pss_nil)
      (pss_cons (ps_if (pt_cmpR op_eq (pv 2) pe_int (nomark _))
      (pss_one (ps_ret (pe_lst (pa_cons (pe_op op_mod (pv 3) (pe_op op_add (pv 1) pe_int)) pa_nil)))) pss_nil)
      (pss_cons (ps_if (pt_cmpR op_eq (pv 2) pe_int (nomark _))
      (pss_one (ps_ret (pe_op op_sub (pe_un un_neg pe_int) (pv 3)))) pss_nil)
      (pss_one (ps_ret (pe_op op_add (pe_op op_add (pv 1) pe_int) (pv 3))))))))))))), ?_⟩
    refine ⟨_, rfl, b, ga, la, 1000, rfl, by decide, by decide, hb, fun r H1 hr1 s1 b1 => ?_⟩
    have n0 : (0 : Int) < (m : Int) + 1 := by omega
    obtain ⟨k, ek, hk⟩ := small_mod r (m + 1)
    have ek : ((r : Nat) : Int) % ((m : Int) + 1) = (k : Int) := ek
    refine ⟨_, rfl, rfl, _, rfl, ite2 (fun _ => ⟨_, rfl, q _ _ H1 s1 b1 (.lf (lf_int (by decide) (by decide))) (out_of (.inl (by decide)))⟩) fun _ => ?_⟩
    refine ⟨_, rfl, rfl, _, rfl, ite2 (fun _ => ⟨_, rfl, _, _, rfl, rfl, q _ _ H1 s1 b1 (.lf (lf_int (by omega) (by omega))) (out_of (.inr (by omega)))⟩) fun _ => ?_⟩
    refine ⟨_, rfl, rfl, _, rfl, ite2 (fun _ => ⟨_, rfl, _, _, rfl, rfl, (by show (0 : Int) < 2; decide), rfl, q _ _ H1 s1 b1 (.lf (.bl _)) rfl⟩) fun _ => ?_⟩
    refine ⟨_, rfl, rfl, _, rfl, ite2 (fun _ => q _ _ H1 s1 b1 (.lf .non) rfl) fun _ => ?_⟩
    refine ⟨_, rfl, rfl, _, rfl, ite2 (fun _ => ⟨_, rfl, _, rfl, _, _, rfl, rfl, _, _, rfl, rfl, n0, ((r : Nat) : Int) % ((m : Int) + 1), rfl, ?_, ?_⟩) fun _ => ?_⟩
    · rw [ek]
      exact log_small k (by omega)
    · rw [ek]
      exact q _ _ H1 s1 b1 (.lf (lf_str (by omega))) rfl
    refine ⟨_, rfl, rfl, _, rfl, ite2 (fun _ => ⟨_, rfl, _, rfl, _, _, rfl, rfl, _, _, rfl, rfl, n0, by show 1 ≤ sizeLine; decide, fun t nt => ?_⟩) fun _ => ?_⟩
    · have z : (upd H1 t (.tup [.int (((r : Nat) : Int) % ((m : Int) + 1))])) t = some (.tup [.int (k : Int)]) := by rw [upd_same, ek]
      exact q _ _ _ (s1.trans (SB.of (same_new nt))) (b1.same (same_new nt)) (.tup z (.cons (.lf (lf_int (by omega) (by omega))) .nil) (by simp)) rfl
    refine ⟨_, rfl, rfl, _, rfl, ite2 (fun _ => ⟨_, rfl, _, rfl, _, _, rfl, rfl, _, _, rfl, rfl, n0, by show 1 ≤ sizeLine; decide, fun t nt => ?_⟩) fun _ => ?_⟩
    · have z : (upd H1 t (.lst [.int (((r : Nat) : Int) % ((m : Int) + 1))])) t = some (.lst [.int (k : Int)]) := by rw [upd_same, ek]
      exact q _ _ _ (s1.trans (SB.of (same_new nt))) (b1.same (same_new nt)) (.lst z (.cons (.lf (lf_int (by omega) (by omega))) .nil) (by simp)) rfl
    refine ⟨_, rfl, rfl, _, rfl, ite2 (fun _ => ⟨_, rfl, _, rfl, _, _, rfl, rfl, q _ _ H1 s1 b1 (.lf (lf_int (by omega) (by omega))) (out_of (.inl (by omega)))⟩) fun _ => ?_⟩
    exact ⟨_, rfl, _, _, rfl, rfl, _, rfl, _, _, rfl, rfl, q _ _ H1 s1 b1 (.lf (lf_int (by omega) (by omega))) (out_of (.inr (by omega)))⟩
/-! ### odd states -/
theorem catA_of {H : Hp} {a b : Addr} {xs ys : List V} (ha : H a = some (.tup xs)) (hb : H b = some (.tup ys)) (l : xs.length + ys.length ≤ 1000) {Q : VK} (q : ∀ (p : Addr) (H' : Hp), Same H H' → H' p = some (.tup (xs ++ ys)) → Q (.ref p) H') : rCatA K (.ref a) (.ref b) H Q := by
  refine ⟨a, b, xs, ys, rfl, rfl, SqT.of ha, SqT.of hb, by rw [sizeLine_eq]; omega, fun e => ?_, fun _ e => ?_, fun _ _ p np => ?_⟩
  · exact q b H (Same.refl H) (by rw [e, List.nil_append]; exact hb)
  · exact q a H (Same.refl H) (by rw [e, List.append_nil]; exact ha)
  · exact q p _ (same_new np) upd_same
theorem digit_str : ∀ k : Nat, k < 10 → ((toString (k : Int) : Str).cps.toList.all fun c => decide (c < 16 ^ 8)) = true ∧ (toString (k : Int) : Str).cps.toList.length ≤ 1 := by decide +kernel
theorem join_small : ∀ ys : List Str, (∀ y ∈ ys, (y.cps.toList.all fun c => decide (c < 16 ^ 8)) = true ∧ y.cps.toList.length ≤ 1) → ((TL.joinL [] (ys.map TL.tl)).all fun c => decide (c < 16 ^ 8)) = true ∧ (TL.joinL [] (ys.map TL.tl)).length ≤ ys.length
  | [], _ => ⟨rfl, Nat.le_refl _⟩
  | [y], h => by
    have z := h y List.mem_cons_self
    exact ⟨z.1, z.2⟩
  | y :: x :: ys, h => by
    have z := h y List.mem_cons_self
    have r := join_small (x :: ys) fun u hu => h u (List.mem_cons_of_mem _ hu)
    show ((TL.tl y ++ ([] ++ TL.joinL [] ((x :: ys).map TL.tl))).all _) = true ∧ (TL.tl y ++ ([] ++ TL.joinL [] ((x :: ys).map TL.tl))).length ≤ _
    rw [List.nil_append, List.all_append, List.length_append]
    refine ⟨by rw [r.1, Bool.and_true]; exact z.1, ?_⟩
    have l2 : (TL.tl y).length ≤ 1 := z.2
    have l3 := r.2
    rw [List.length_cons] at l3 ⊢
    rw [List.length_cons]
    omega
theorem lf_join {ys : List Str} (l : ys.length ≤ 16) (h : ∀ y ∈ ys, (y.cps.toList.all fun c => decide (c < 16 ^ 8)) = true ∧ y.cps.toList.length ≤ 1) : Lf (.str (Txt.join "" ys)) (.str (Txt.join "" ys)) := by
  have e : TL.tl (Txt.join "" ys) = TL.joinL [] (ys.map TL.tl) := by rw [TL.join_eq, TL.tl_join]; rfl
  obtain ⟨j1, j2⟩ := join_small ys h
  rw [← e] at j1 j2
  refine .str _ j1 ?_
  have z : (Txt.join "" ys).cps.size = (TL.tl (Txt.join "" ys)).length := (Array.length_toList).symm
  omega
def strS (S : List Int) : List Str := S.map fun z => toString z
theorem strS_ok {n h : Nat} {S : List Int} (ok : StOk n h S) (h10 : h ≤ 10) : ∀ y ∈ strS S, (y.cps.toList.all fun c => decide (c < 16 ^ 8)) = true ∧ y.cps.toList.length ≤ 1 := fun y hy => by
  obtain ⟨z, hz, rfl⟩ := List.mem_map.mp hy
  have b := ok.2 z hz
  obtain ⟨k, rfl⟩ : ∃ k : Nat, z = (k : Int) := ⟨z.toNat, by omega⟩
  exact digit_str k (by omega)
theorem stB_len {n h : Nat} {ds : List PyData} (l : ds.length ≠ n) : stB n h (.tuple ds) = false := by
  show (decide (ds.length = n) && ds.all (inD h)) = false
  rw [decide_eq_false l, Bool.false_and]
theorem stB_bad {n h : Nat} {as bs : List PyData} {d : PyData} (o : inD h d = false) : stB n h (.tuple (as ++ [d] ++ bs)) = false := by
  show (decide _ && (as ++ [d] ++ bs).all (inD h)) = false
  rw [List.all_append, List.all_append, List.all_cons, o, Bool.false_and, Bool.and_false, Bool.false_and, Bool.and_false]
theorem ints1 {n h : Nat} {S : List Int} (ok : StOk n h S) (h10 : h ≤ 10) {H : Hp} : ∀ {T : List Int}, (∀ z ∈ T, z ∈ S) → All2 (Lf1 H) (stV T) (T.map .int) := fun {T} hT => ints_all _ (fun i hi => .lf (.int i hi)) T fun z hz => ok.small h10 z (hT z hz)
theorem cut_take (S : List Int) (k : Nat) : cutV (stV S) none (some (k : Int)) = stV (S.take k) := cut_front (g := V.int) rfl k
theorem cut_drop (S : List Int) (k : Nat) (h : k ≤ S.length) : cutV (stV S) (some (k : Int)) none = stV (S.drop k) := by
  unfold cutV
  rw [HT.sIx_none, HT.sIx_nat, List.length_map, Nat.min_eq_left h]
  unfold stV
  rw [← List.map_drop, List.take_of_length_le (by rw [List.length_map, List.length_drop]; exact Nat.le_refl _)]
abbrev s__law_odd_state : Stmt := top 50
theorem sc__law_odd_state : FnScope ["box", "state", "hues", "way", "spot", "near", "hue"] ["box", "state", "hues", "way"] (defScope s__law_odd_state) := ⟨rfl, rfl, rfl, by decide +kernel, rfl, by decide +kernel, by decide +kernel⟩
-- slots of _law_odd_state: 0 box, 1 state, 2 hues, 3 way, 4 spot, 5 near, 6 hue
def spOddState : Sp := fun vs H Q _ => ∃ (b ga la t : Addr) (n h : Nat) (S : List Int) (way : Int), vs = [.ref b, .ref t, .int h, .int way] ∧ 1 ≤ n ∧ n ≤ 16 ∧ 2 ≤ h ∧ h ≤ 10 ∧ Bx H b ga la ∧ H t = some (.tup (stV S)) ∧ StOk n h S ∧ ∀ (v : V) (d : PyData) (H' : Hp), SB b H H' → Bx H' b ga la → Lf2 H' v d → stB n h d = false → Q v H'
theorem ok__law_odd_state (T : Txt K mg C) {f : Addr} {fd : FuncData} (F : Fun K "_law_odd_state" "_law_odd_state" s__law_odd_state f fd) (c__law_take : Cal P w K mg base "_law_take" 1 spTake) : FnOk P w K mg base CX0 2 f fd ["box", "state", "hues", "way"] spOddState := by
  refine F.ok sc__law_odd_state (fun vs H Q E h => ?_) (fun cdv A outer s H vs Q E hr h => ?_)
  · obtain ⟨b, ga, la, t, n, h, S, way, rfl, _⟩ := h; rfl
  · obtain ⟨b, ga, la, t, n, h, S, way, rfl, n1, n16, h2, h10, hb, ht, ok, q⟩ := h
    have lS : (stV S).length = n := by rw [List.length_map, ok.1]
    have tb_ : t ≠ b := fun z => by
      obtain ⟨xs, hx⟩ := hb.at'
      rw [z, hx] at ht
      cases ht
    refine ⟨_, (pss_cons (ps_set (i := 4) sc__law_odd_state.nd rfl (by first | exact Or.inl rfl | exact Or.inr rfl) (pe_cal c__law_take (hr.mono (by decide)) (pa_cons (pv 0) (pa_cons (pe_callB (lenS_ K) (by rfl) T.len b_len (pa_cons (pv 1) pa_nil)) pa_nil))))
      (pss_cons (ps_set (i := 5) sc__law_odd_state.nd rfl (by first | exact Or.inl rfl | exact Or.inr rfl) (pe_cal c__law_take (hr.mono (by decide)) (pa_cons (pv 0) (pa_cons pe_int pa_nil))))
      (pss_cons (ps_if (pt_cmpR op_eq (pv 3) pe_int (nomark _))
      (pss_one (ps_ret (pe_callTy (lstOf_ K) (by rfl) T.list b_list (pa_cons (pv 1) pa_nil)))) pss_nil)
      (pss_cons (ps_if (pt_cmpR op_eq (pv 3) pe_int (nomark _))
      (pss_one (ps_ret (pe_op (catA_ K) (pv 1) (pe_tup (pa_cons pe_int pa_nil))))) pss_nil)
      (pss_cons (ps_if (pt_cmpR op_eq (pv 3) pe_int (nomark _))
      (pss_one (ps_ret (pe_slice (slT_ K) (pv 1) po_none (po_some (pe_un un_neg pe_int))))) pss_nil)
      (pss_cons (ps_if (pt_cmpR op_eq (pv 3) pe_int (nomark _))
      (pss_one (ps_ret pe_non)) pss_nil)
      (pss_cons (ps_if (pt_cmpR op_eq (pv 3) pe_int (nomark _))
      (pss_one (ps_ret (pe_join pe_str (pe_lc (own := [("hue", 6)]) (g := gName 6) (tt := tYes) rfl sc__law_odd_state.nd (pit_ K (pv 1)) (blkOk_by (by kernel_rfl)) (fun _ _ _ _ _ => (pg_name (i := 6) sc__law_odd_state.nd rfl (by first | exact Or.inl rfl | exact Or.inr rfl))) (fun _ _ _ _ _ => pts_nil) (fun _ _ _ _ _ => (pe_callTy call_str_int (by rfl) T.str b_str (pa_cons (pv 6) pa_nil))))))) pss_nil)
      (pss_cons (ps_if (pt_cmpR op_eq (pv 3) pe_int (nomark _))
      (pss_one (ps_ret (pv 5))) pss_nil)
      (pss_cons (ps_if (pt_cmpR op_eq (pv 3) pe_int (nomark _))
      (pss_one (ps_ret (pe_tup (pa_cons (pv 1) pa_nil)))) pss_nil)
      (pss_cons (ps_set (i := 6) sc__law_odd_state.nd rfl (by first | exact Or.inl rfl | exact Or.inr rfl) (pv 2))
      (C8.pss_cut (ps_if (pt_cmpR op_eq (pv 3) pe_int (nomark _))
      (pss_one (ps_set (i := 6) sc__law_odd_state.nd rfl (by first | exact Or.inl rfl | exact Or.inr rfl) (pe_un un_neg pe_int))) (pss_one (ps_if (pt_cmpR op_eq (pv 3) pe_int (nomark _))
      (pss_one (ps_set (i := 6) sc__law_odd_state.nd rfl (by first | exact Or.inl rfl | exact Or.inr rfl) (pe_cmpR op_eq (pe_op op_mod (pv 5) pe_int) pe_int (nomark _)))) (pss_one (ps_if (pt_cmpR op_eq (pv 3) pe_int (nomark _))
      (pss_one (ps_set (i := 6) sc__law_odd_state.nd rfl (by first | exact Or.inl rfl | exact Or.inr rfl) pe_non)) (pss_one (ps_if (pt_cmpR op_eq (pv 3) pe_int (nomark _))
      (pss_one (ps_set (i := 6) sc__law_odd_state.nd rfl (by first | exact Or.inl rfl | exact Or.inr rfl) (pe_callTy call_str_int (by rfl) T.str b_str (pa_cons (pe_ix (ixT_ K) (pv 1) (pv 4) (fun _ _ => rfl)) pa_nil)))) (pss_one (ps_if (pt_cmpR op_eq (pv 3) pe_int (nomark _))
      (pss_one (ps_set (i := 6) sc__law_odd_state.nd rfl (by first | exact Or.inl rfl | exact Or.inr rfl) (pe_op op_add (pv 2) (pv 5)))) (pss_one (ps_if (pt_cmpR op_eq (pv 3) pe_int (nomark _))
      (pss_one (ps_set (i := 6) sc__law_odd_state.nd rfl (by first | exact Or.inl rfl | exact Or.inr rfl) (pe_tup (pa_cons (pe_ix (ixT_ K) (pv 1) (pv 4) (fun _ _ => rfl)) pa_nil)))) pss_nil)))))))))))
      (pss_one (ps_ret (pe_op (catA_ K) (pe_op (catA_ K) (pe_slice (slT_ K) (pv 1) po_none (po_some (pv 4))) (pe_tup (pa_cons (pv 6) pa_nil))) (pe_slice (slT_ K) (pv 1) (po_some (pe_op op_add (pv 4) pe_int)) po_none))))))))))))))), ?_⟩
    refine ⟨_, rfl, _, rfl, t, _, rfl, .inr (SqT.of ht), b, ga, la, n, by rw [lS], n1, by omega, hb, fun sp H1 hsp s1 b1 => ?_⟩
    refine ⟨_, rfl, b, ga, la, 40, rfl, by decide, by decide, b1, fun r H2 hr2 s2 b2 => ?_⟩
    have s02 := s1.trans s2
    have ht2 := s2 _ _ tb_ (s1 _ _ tb_ ht)
    have new : ∀ {H' : Hp} {v : V} {d : PyData}, Same H2 H' → Lf2 H' v d → stB n h d = false → Q v H' := fun {H' v d} s o e => q v d H' (s02.trans (SB.of s)) (b2.same s) o e
    have all1 : ∀ {H' : Hp} {T : List Int}, (∀ z ∈ T, z ∈ S) → All2 (Lf1 H') (stV T) (T.map .int) := fun hT => ints1 ok h10 hT
    refine ⟨_, rfl, rfl, _, rfl, ite2 (fun _ => ⟨_, rfl, t, _, rfl, .inr (SqT.of ht2), fun l nl => ?_⟩) fun _ => ?_⟩
    · exact new (same_new nl) (.lst (xs := stV S) upd_same (all1 fun z hz => hz) (by rw [lS]; omega)) rfl
    refine ⟨_, rfl, rfl, _, rfl, ite2 (fun _ => ⟨_, rfl, by show 1 ≤ sizeLine; decide, fun t1 nt1 => ?_⟩) fun _ => ?_⟩
    · refine catA_of (same_new nt1 _ _ ht2) (upd_same : _ = some (.tup [V.int 0])) (by rw [lS]; show n + 1 ≤ 1000; omega) fun p H' s' hp => ?_
      have a0 : All2 (Lf1 H') [V.int 0] [.int 0] := .cons (.lf (lf_int (by decide) (by decide))) .nil
      exact new ((same_new nt1).trans s') (.tup hp ((all1 fun z hz => hz).app a0) (by rw [List.length_append, lS]; show n + 1 ≤ 20; omega)) (stB_len (by rw [List.length_append, List.length_map, ok.1]; show n + 1 ≠ n; omega))
    refine ⟨_, rfl, rfl, _, rfl, ite2 (fun _ => ⟨_, rfl, _, rfl, _, rfl, t, _, rfl, SqT.of ht2, ?_, fun p np => ?_⟩) fun _ => ?_⟩
    · rw [lS]
      intro z
      have e := z.2
      unfold HT.sIx at e
      simp at e
      omega
    · have e : cutV (stV S) none (some (-1)) = stV (S.take (n - 1)) := by
        unfold cutV
        rw [HT.sIx_none, lS]
        have i : HT.sIx n n (some (-1)) = n - 1 := by
          unfold HT.sIx
          simp
          omega
        rw [i, List.drop_zero, Nat.sub_zero]
        unfold stV
        rw [List.map_take]
      rw [e]
      exact new (same_new np) (.tup upd_same (all1 fun z hz => List.mem_of_mem_take hz) (by rw [List.length_map, List.length_take]; omega)) (stB_len (by rw [List.length_map, List.length_take, ok.1]; omega))
    refine ⟨_, rfl, rfl, _, rfl, ite2 (fun _ => new (Same.refl H2) (.lf .non) rfl) fun _ => ?_⟩
    refine ⟨_, rfl, rfl, _, rfl, ite2 (fun _ => ⟨⟨_, rfl⟩, _, rfl, t, rfl, ⟨_, SqT.of ht2⟩, fun D hD => ?_⟩) fun _ => ?_⟩
    · refine lc_tup (xs := stV S) (fun i H3 => H3 D = some (.lst ((strS (S.take i)).map V.str)) ∧ Same H2 H3) ⟨upd_same, same_new hD⟩ (fun i H3 _ ⟨_, s⟩ => SqT.of (s _ _ ht2)) ?_ ?_
      · rintro i y H3 hy ⟨h3', s3⟩
        have il : i < n := by rw [← lS]; exact (List.getElem?_eq_some_iff.mp hy).1
        rw [stV_get (by rw [ok.1]; exact il)] at hy
        cases hy
        have si : S[i]? = some (at_ S i) := by
          unfold at_
          rw [List.getD_eq_getElem?_getD, List.getElem?_eq_getElem (by rw [ok.1]; exact il)]
          rfl
        have bi := ok.at il
        obtain ⟨k, ek⟩ : ∃ k : Nat, at_ S i = (k : Int) := ⟨(at_ S i).toNat, by omega⟩
        refine ⟨rfl, yesT ⟨_, rfl, at_ S i, rfl, ?_, _, h3', ?_, ?_, same_upd s3 hD⟩⟩
        · rw [ek]; exact log_small k (by omega)
        · unfold strS
          rw [List.length_map, List.length_map, List.length_take, sizeLine_eq]; omega
        · rw [upd_same, List.take_add_one, si]
          unfold strS
          rw [List.map_append, List.map_append]
          rfl
      · rintro H3 ⟨h3', s3⟩
        rw [show (stV S).length = S.length from List.length_map _, List.take_length] at h3'
        have lj : (strS S).length = n := by unfold strS; rw [List.length_map, ok.1]
        have okj := strS_ok ok h10
        refine ⟨"", D, strS S, rfl, rfl, .inl (SqL.of h3'), ?_, ?_⟩
        · have e : ∀ l : List Str, (∀ y ∈ l, y.cps.toList.length ≤ 1) → (l.map (·.length)).sum ≤ l.length := by
            intro l
            induction l with
            | nil => intro _; exact Nat.le_refl _
            | cons y l ih =>
              intro hl
              have a := hl y List.mem_cons_self
              have b := ih fun z hz => hl z (List.mem_cons_of_mem _ hz)
              have c : y.length = y.cps.toList.length := (Array.length_toList).symm
              rw [List.map_cons, List.sum_cons, List.length_cons]
              omega
          have e1 := e (strS S) fun y hy => (okj y hy).2
          show ((strS S).map (·.length)).sum + (strS S).length * 0 ≤ 16777216
          omega
        · exact new s3 (.lf (lf_join (by omega) okj)) rfl
    refine ⟨_, rfl, rfl, _, rfl, ite2 (fun _ => ⟨_, rfl, new (Same.refl H2) (.lf (lf_int (by omega) (by omega))) rfl⟩) fun _ => ?_⟩
    refine ⟨_, rfl, rfl, _, rfl, ite2 (fun _ => ⟨_, rfl, by show 1 ≤ sizeLine; decide, fun p np => ?_⟩) fun _ => ?_⟩
    · exact new (same_new np) (.tup upd_same (.cons (.tup (same_new np _ _ ht2) (ints_all _ (fun i hi => .int i hi) S (ok.small h10)) (by rw [lS]; omega)) .nil) (by simp)) (by
        show (decide (1 = n) && ([stD S].all (inD h))) = false
        rw [show ([stD S].all (inD h)) = false from rfl, Bool.and_false])
    -- one hue that is none
    refine ⟨_, rfl, ?_⟩
    have spn := ok.at hsp
    have kS : (stV S)[sp]? = some (V.int (at_ S sp)) := stV_get (by rw [ok.1]; exact hsp)
    obtain ⟨ks, eks⟩ : ∃ k : Nat, at_ S sp = (k : Int) := ⟨(at_ S sp).toNat, by omega⟩
    refine ⟨fun σ G => ∃ (v : V) (d : PyData), σ = [some (.ref b), some (.ref t), some (.int h), some (.int way), some (.int (sp : Nat)), some (.int (r : Nat)), some v] ∧ Same H2 G ∧ Lf1 G v d ∧ inD h d = false, ?_, ?_⟩
    · refine ⟨_, rfl, rfl, _, rfl, ite2 (fun _ => ⟨_, rfl, _, _, rfl, Same.refl H2, .lf (lf_int (by decide) (by decide)), by show (decide ((0 : Int) ≤ -1) && decide ((-1 : Int) ≤ (h : Int) - 1)) = false; rw [decide_eq_false (by decide : ¬ ((0 : Int) ≤ -1)), Bool.false_and]⟩) fun _ => ?_⟩
      refine ⟨_, rfl, rfl, _, rfl, ite2 (fun _ => ⟨_, rfl, _, _, rfl, rfl, (by show (0 : Int) < 2; decide), rfl, _, _, rfl, Same.refl H2, .lf (.bl _), rfl⟩) fun _ => ?_⟩
      refine ⟨_, rfl, rfl, _, rfl, ite2 (fun _ => ⟨_, _, rfl, Same.refl H2, .lf .non, rfl⟩) fun _ => ?_⟩
      refine ⟨_, rfl, rfl, _, rfl, ite2 (fun _ => ⟨_, rfl, _, rfl, t, _, _, _, rfl, rfl, SqT.of ht2, atI_nat kS, at_ S sp, rfl, ?_, ?_⟩) fun _ => ?_⟩
      · rw [eks]; exact log_small ks (by omega)
      · refine ⟨V.str (toString (at_ S sp)), .str (toString (at_ S sp)), rfl, Same.refl H2, ?_, rfl⟩
        rw [eks]
        exact .lf (lf_str (by omega))
      refine ⟨_, rfl, rfl, _, rfl, ite2 (fun _ => ⟨_, rfl, _, rfl, _, _, rfl, rfl, _, .int ((h : Int) + (r : Int)), rfl, Same.refl H2, .lf (lf_int (by omega) (by omega)), ?_⟩) fun _ => ?_⟩
      · show (decide ((0 : Int) ≤ (h : Int) + (r : Int)) && decide ((h : Int) + (r : Int) ≤ (h : Int) - 1)) = false
        rw [decide_eq_false (by omega : ¬ ((h : Int) + (r : Int) ≤ (h : Int) - 1)), Bool.and_false]
      refine ⟨_, rfl, rfl, _, rfl, ite2 (fun _ => ⟨_, rfl, _, rfl, t, _, _, _, rfl, rfl, SqT.of ht2, atI_nat kS, by show 1 ≤ sizeLine; decide, fun p np => ?_⟩) fun _ => ?_⟩
      · exact ⟨.ref p, .tuple [.int (at_ S sp)], rfl, same_new np, .tup upd_same (.cons (lf_int (by omega) (by omega)) .nil) (by simp), rfl⟩
      · refine ⟨.int (h : Nat), .int (h : Nat), rfl, Same.refl H2, .lf (lf_int (by omega) (by omega)), ?_⟩
        show (decide ((0 : Int) ≤ (h : Int)) && decide ((h : Int) ≤ (h : Int) - 1)) = false
        rw [decide_eq_false (by omega : ¬ ((h : Int) ≤ (h : Int) - 1)), Bool.and_false]
    rintro σ G ⟨v, d, rfl, sG, o1, bad⟩
    have htG := sG _ _ ht2
    refine ⟨_, rfl, _, rfl, _, rfl, t, _, rfl, SqT.of htG, ?_, fun p1 np1 => ?_⟩
    · rw [lS]
      intro z
      have e := z.2
      rw [HT.sIx_nat] at e
      omega
    rw [cut_take]
    have g1 : Same G (upd G p1 (.tup (stV (S.take sp)))) := same_new np1
    have hp1 : (upd G p1 (.tup (stV (S.take sp)))) p1 = some (.tup (stV (S.take sp))) := upd_same
    generalize upd G p1 (.tup (stV (S.take sp))) = G1 at g1 hp1 ⊢
    refine ⟨_, rfl, by show 1 ≤ sizeLine; decide, fun p2 np2 => ?_⟩
    have g2 : Same G1 (upd G1 p2 (.tup [v])) := same_new np2
    have hp2 : (upd G1 p2 (.tup [v])) p2 = some (.tup [v]) := upd_same
    generalize upd G1 p2 (.tup [v]) = G2 at g2 hp2 ⊢
    have lt1 : (stV (S.take sp)).length ≤ 16 := by rw [List.length_map, List.length_take]; omega
    refine catA_of (g2 _ _ hp1) hp2 (by show _ + 1 ≤ 1000; omega) fun p3 G3 g3 hp3 => ?_
    have g03 := (g1.trans g2).trans g3
    have htG3 := g03 _ _ htG
    have e1 : (sp : Int) + 1 = ((sp + 1 : Nat) : Int) := by omega
    refine ⟨_, rfl, _, rfl, _, _, rfl, rfl, _, rfl, t, _, rfl, SqT.of htG3, ?_, fun p4 np4 => ?_⟩
    · rw [lS]
      intro z
      have e := z.1
      rw [e1, HT.sIx_nat] at e
      omega
    rw [e1, cut_drop S (sp + 1) (by rw [ok.1]; omega)]
    have g4 : Same G3 (upd G3 p4 (.tup (stV (S.drop (sp + 1))))) := same_new np4
    have hp4 : (upd G3 p4 (.tup (stV (S.drop (sp + 1))))) p4 = some (.tup (stV (S.drop (sp + 1)))) := upd_same
    generalize upd G3 p4 (.tup (stV (S.drop (sp + 1)))) = G4 at g4 hp4 ⊢
    have lt2 : (stV (S.drop (sp + 1))).length ≤ 16 := by rw [List.length_map, List.length_drop, ok.1]; omega
    refine catA_of (g4 _ _ hp3) hp4 (by rw [List.length_append]; show _ + 1 + _ ≤ 1000; omega) fun p5 G5 g5 hp5 => ?_
    have gG := (g03.trans g4).trans g5
    refine new (sG.trans gG) (.tup hp5 (((all1 fun z hz => List.mem_of_mem_take hz).app (.cons (o1.same gG) .nil)).app (all1 fun z hz => List.mem_of_mem_drop hz)) ?_) (stB_bad bad)
    rw [List.length_append, List.length_append, List.length_map, List.length_map, List.length_take, List.length_drop, ok.1]
    show _ + 1 + _ ≤ 20
    omega
end
end Hue

end
section
set_option maxRecDepth 100000
set_option maxHeartbeats 8000000
namespace Hue
open PySem PySem.Spec PyProof.Rows L2
section
variable {P : Program} {w : World} {K : PySem.W.Frag} {mg : Str → Option Value} {base : Heap} {C CE CS CN C1 C2 C3 : Addr}
/-- a class of exceptions, beside three others -/
structure TxE (K : PySem.W.Frag) (mg : Str → Option Value) (nm f n1 n2 n3 : Str) (CR CE C1 C2 C3 : Addr) : Prop where
  gE : mg "HuefallError" = some (.ref CE)
  gL : mg nm = some (.ref CR)
  g1 : mg n1 = some (.ref C1)
  g2 : mg n2 = some (.ref C2)
  g3 : mg n3 = some (.ref C3)
  xc : XCls K CR
  xg : XGlob K
  ex : PySem.W.exmOne K (.ref CR) (.ref CE) = some true
  k1 : PySem.W.kitOne K (.ref CR) (.ref CR) = some true
  ka : PySem.W.kitAny K (.ref CR) [.ref C1, .ref C2, .ref C3] = some false
  nl : PySem.W.findIn K (.ref CR) f = some none
theorem b_repr : bootBuiltins ("repr" : Str) = some (.builtin "repr") := by decide +kernel
theorem _root_.L2.Room.u100 {k : Nat} {A : Around} (r : Room k A) : A.units + 100 < cLine := by have := r.un; omega
/-- no repr is under way, and there is room for one -/
structure RG (A : Around) : Prop where
  g : A.guards = some []
  u : A.units + 100 < cLine
theorem cr_reprS {X : Cx} {a : Addr} {pn : List (Addr × Obj)} (h : RG X.A) : CallR (X.suite a pn) (.builtin "repr") (rRepr X.K) := cr_repr (X := X.suite a pn) h.g h.u
theorem pe_calR {X : Cx} {e : Expr} {es : List Expr} {t : TA} {x : Str} {k : Nat} {sp : Sp} {p pos : Pos} (c : CalG X.prog X.w X.K X.mg X.base x k sp) (rg : RG X.A) (hr : Room k X.A) (ha : PA X (e :: es) t) (hg : Gl X x := by rfl) (hdb : (x == ("__debug__" : Str)) = false := by decide)
    (he : starEach (e :: es) X.env = (false, eval e X.env) :: starEach es X.env := by rfl) (hpl : (backTo pos (starEach es X.env)).any (·.1) = false := by rfl) :
    PE X (.Call (.Name x p) (e :: es) [] pos) (tCal sp t) := pe_calG c rg.g hr ha hg hdb he hpl
/-! ### what is no state is refused -/
theorem all_back {H : Hp} : ∀ {S : List Int} {ds : List PyData}, All2 (Lf1 H) (stV S) ds → ds = S.map .int
  | [], ds, a => by cases a; rfl
  | i :: S, ds, a => by
    cases a with
    | cons o r =>
      rw [all_back r]
      cases o with
      | lf l => cases l; rfl
theorem lf2_st {H : Hp} {t : Addr} {d : PyData} {n h : Nat} {S : List Int} (o : Lf2 H (.ref t) d) (ht : H t = some (.tup (stV S))) (ok : StOk n h S) : stB n h d = true := by
  cases o with
  | lf l => cases l
  | tup ht' a l =>
    rw [ht] at ht'
    injection ht' with ht'
    injection ht' with ht'
    subst ht'
    rw [all_back a]
    exact st_stB ok
  | lst ht' a l =>
    rw [ht] at ht'
    injection ht' with ht'
    cases ht'
theorem st_bad {H : Hp} {v : V} {d : PyData} {n h : Nat} {E : XK} {sg : Addr → List Int → Prop} (o : Lf2 H v d) (bad : stB n h d = false) (x : Odd1 CS "state" v H E) : StX CS n h v d H E sg :=
  ⟨fun t S e ht ok => (by
    subst e
    rw [lf2_st o ht ok] at bad
    cases bad), fun _ => x⟩
abbrev s__law_call : Stmt := top 51
theorem sc__law_call : FnScope ["house", "way", "odd"] ["house", "way", "odd"] (defScope s__law_call) := ⟨rfl, rfl, rfl, by decide +kernel, rfl, by decide +kernel, by decide +kernel⟩
-- slots of _law_call: 0 house, 1 way, 2 odd
def spCall (C CS : Addr) : Sp := fun vs H _ E => ∃ (x : Addr) (n h : Nat) (ps : List (Nat × Nat)) (way : Int) (v : V) (d : PyData), vs = [.ref x, .int way, v] ∧ HsOk C H x n h ps ∧ n ≤ 16 ∧ h ≤ 10 ∧ Ranked (relOf ps) ∧ Lf2 H v d ∧ stB n h d = false ∧ Odd1 CS "state" v H E
theorem ok__law_call (T : Txt K mg C) {f : Addr} {fd : FuncData} (F : Fun K "_law_call" "_law_call" s__law_call f fd) (x_number_of : CalX P w K mg base "number_of" 5 (spNumberX C CS)) (x_mirror : CalX P w K mg base "mirror" 5 (spMirrorX C CS)) (x_lit_lamps : CalX P w K mg base "lit_lamps" 5 (spLitX C CS)) : FnOk P w K mg base (L2.CX P w) 6 f fd ["house", "way", "odd"] (spCall C CS) := by
  refine F.okX sc__law_call (fun vs H Q E h => ?_) (fun cdv A outer s H vs Q E hr h => ?_)
  · obtain ⟨x, n, h, ps, way, v, d, rfl, _⟩ := h; rfl
  · obtain ⟨x, n, h, ps, way, v, d, rfl, hs, n16, h10, hR, od, bad, o⟩ := h
    refine ⟨_, (pss_cons (ps_if (pt_cmpR op_eq (pv 1) pe_int (nomark _))
      (pss_one (ps_ret (pe_calX x_number_of (takes_of rfl rfl rfl rfl) (hr.mono (by decide)) (pa_cons (pv 0) (pa_cons (pv 2) pa_nil))))) pss_nil)
      (pss_cons (ps_if (pt_cmpR op_eq (pv 1) pe_int (nomark _))
      (pss_one (ps_ret (pe_calX x_mirror (takes_of rfl rfl rfl rfl) (hr.mono (by decide)) (pa_cons (pv 0) (pa_cons (pv 2) pa_nil))))) pss_nil)
      (pss_one (ps_ret (pe_calX x_lit_lamps (takes_of rfl rfl rfl rfl) (hr.mono (by decide)) (pa_cons (pv 0) (pa_cons (pv 2) pa_nil))))))), ?_⟩
    refine ⟨_, rfl, rfl, _, rfl, ite2 (fun _ => ?_) fun _ => ?_⟩
    · exact ⟨_, rfl, _, rfl, x, n, h, _, v, d, rfl, hs.at_, n16, h10, hR, od, st_bad od bad o⟩
    refine ⟨_, rfl, rfl, _, rfl, ite2 (fun _ => ?_) fun _ => ?_⟩
    · exact ⟨_, rfl, _, rfl, x, n, h, _, v, d, rfl, hs.at_, n16, od, st_bad od bad o⟩
    exact ⟨_, rfl, _, rfl, x, n, h, _, v, d, rfl, hs.at_, n16, od, st_bad od bad o⟩
abbrev s__law_state_refused : Stmt := top 52
theorem sc__law_state_refused : FnScope ["house", "odd", "way", "refused", "raised"] ["house", "odd"] (defScope s__law_state_refused) := ⟨rfl, rfl, rfl, by decide +kernel, rfl, by decide +kernel, by decide +kernel⟩
-- slots of _law_state_refused: 0 house, 1 odd, 2 way, 3 refused, 4 raised
def spStateRefused (C : Addr) : Sp := fun vs H Q _ => ∃ (x : Addr) (n h : Nat) (ps : List (Nat × Nat)) (v : V) (d : PyData), vs = [.ref x, v] ∧ HsOk C H x n h ps ∧ n ≤ 16 ∧ h ≤ 10 ∧ Ranked (relOf ps) ∧ Lf2 H v d ∧ stB n h d = false ∧ ∀ H', Same H H' → Q (.bl true) H'
theorem ok__law_state_refused (T : Txt K mg C) (TE : TxE K mg "InvalidState" "state" "InvalidHouse" "InvalidLamp" "InvalidNumber" CS CE C1 C2 C3) {f : Addr} {fd : FuncData} (F : Fun K "_law_state_refused" "_law_state_refused" s__law_state_refused f fd) (c__law_call : CalX P w K mg base "_law_call" 6 (spCall C CS)) (c_is_state : Cal P w K mg base "is_state" 3 (spIsStateV C)) : GOk P w K mg base CX0 7 f fd ["house", "odd"] (spStateRefused C) := by
  refine F.okG sc__law_state_refused (fun vs H Q E h => ?_) (fun cdv A gA outer s H vs Q E hr h => ?_)
  · obtain ⟨x, n, h, ps, v, d, rfl, _⟩ := h; rfl
  · obtain ⟨x, n, h, ps, v, d, rfl, hs, n16, h10, hR, od, bad, q⟩ := h
    have rg : RG (A.deeper (envOfC "_law_state_refused" (defScope s__law_state_refused) s.heap.objs.size f cdv)) := ⟨gA, hr.u100⟩
    refine ⟨_, (pss_cons (ps_for PassesOwn.never rfl (pi_range1 (by rfl) T.range (pa_cons pe_int pa_nil)) (pg_name (i := 2) sc__law_state_refused.nd rfl (by first | exact Or.inl rfl | exact Or.inr rfl))
      (pss_cons (ps_set (i := 3) sc__law_state_refused.nd rfl (by first | exact Or.inl rfl | exact Or.inr rfl) pe_bl)
      (pss_cons (ps_try_as (i := 4) (Wout := fun _ _ _ _ => False) rfl rfl sc__law_state_refused.nd rfl rfl ⟨rfl, by decide, Or.inl TE.gE⟩ takes0
        (fun W pn xe tk _ => pss_one (ps_expr (pe_calW c__law_call tk (hr.mono (by decide)) (pa_cons (pv 0) (pa_cons (pv 2) (pa_cons (pv 1) pa_nil))))))
        (fun a oe cls d pn hz hf =>
          (pss_cons (ps_if (pt_not (pt_val (pe_callB (cr_isX TE.xc TE.xg hz hf) (by rfl) T.isinstance b_isinstance (pa_cons (pv 4) (pa_cons (pe_glob (v := .ref CS) (by rfl) TE.gL rfl) pa_nil))))) (pss_one (ps_ret pe_bl)) pss_nil)
          (pss_cons (ps_if (pt_val (pe_callB (cr_isX TE.xc TE.xg hz hf) (by rfl) T.isinstance b_isinstance (pa_cons (pv 4) (pa_cons (pe_tup (pa_cons (pe_glob (v := .ref C1) (by rfl) TE.g1 rfl) (pa_cons (pe_glob (v := .ref C2) (by rfl) TE.g2 rfl) (pa_cons (pe_glob (v := .ref C3) (by rfl) TE.g3 rfl) pa_nil)))) pa_nil)))) (pss_one (ps_ret pe_bl)) pss_nil)
          (pss_one (ps_set (i := 3) sc__law_state_refused.nd rfl (by first | exact Or.inl rfl | exact Or.inr rfl) (pe_cmpR op_eq (pe_callB (cr_reprS rg) (by rfl) T.repr b_repr (pa_cons (pe_xf TE.xc.xf TE.nl hz hf (pv 4)) pa_nil)) (pe_callB (cr_reprS rg) (by rfl) T.repr b_repr (pa_cons (pv 1) pa_nil)) (nomark _))))))))
      (pss_one (ps_if (pt_not (pt_val (pv 3)))
      (pss_one (ps_ret pe_bl)) pss_nil)))))
      (pss_one (ps_ret (pe_cmpR op_isB (pe_cal c_is_state (hr.mono (by decide)) (pa_cons (pv 0) (pa_cons (pv 1) pa_nil))) pe_bl (nomark _))))), ?_⟩
    refine ⟨_, rfl, by decide, by decide, ?_⟩
    refine for_range (n := 3) (fun i σ H2 => ∃ v2 v3 v4 : Option V, σ = [some (.ref x), some v, v2, v3, v4] ∧ Same H H2) ⟨_, _, _, rfl, Same.refl _⟩ ?_ ?_
    · rintro i σ H2 _ ⟨v2, v3, v4, rfl, s2⟩
      refine ⟨_, rfl, _, rfl, _, rfl, x, n, h, ps, _, v, d, rfl, hs.same s2, n16, h10, hR, od.same s2, bad, fun dd H3 nd s3 hd => ?_⟩
      refine ⟨true, TE.ex, fun _ a na => ?_, fun q => Bool.noConfusion q⟩
      refine ⟨_, rfl, rfl, ⟨dd, _, rfl, hd⟩, .inl ⟨CS, true, rfl, TE.k1, true, rfl, iteF ?_⟩⟩
      refine ⟨_, rfl, by show 3 ≤ sizeLine; decide, fun tp np => ?_⟩
      have s4 : Same H3 (upd H3 tp (.tup [.ref C1, .ref C2, .ref C3])) := same_new np
      refine ⟨rfl, ⟨dd, _, rfl, s4 _ _ hd⟩, .inr (.inr ⟨tp, [C1, C2, C3], false, rfl, upd_same, TE.ka, false, rfl, iteF ?_⟩)⟩
      have s24 := s2.trans (s3.trans s4)
      have od2 := od.same s24
      refine ⟨_, rfl, rfl, rfl, dd, _, v, rfl, s4 _ _ hd, rfl, ?_⟩
      dsimp only [tNil]
      refine od2.repr ?_
      refine ⟨_, rfl, ?_⟩
      dsimp only [tNil]
      refine od2.repr ⟨rfl, ?_⟩
      have e : decide (V.str d.shown = V.str d.shown) = true := decide_eq_true rfl
      rw [e]
      exact ⟨_, rfl, true, rfl, iteF ⟨_, _, _, rfl, s24⟩⟩
    · rintro σ H2 ⟨v2, v3, v4, rfl, s2⟩
      refine ⟨_, rfl, _, rfl, x, n, h, _, v, d, rfl, hs.at_.same s2, n16, od.same s2, fun H3 s3 => ?_⟩
      rw [bad]
      exact ⟨_, false, rfl, rfl, q H3 (s2.trans s3)⟩
abbrev s__law_number_refused : Stmt := top 53
theorem sc__law_number_refused : FnScope ["house", "odd", "raised"] ["house", "odd"] (defScope s__law_number_refused) := ⟨rfl, rfl, rfl, by decide +kernel, rfl, by decide +kernel, by decide +kernel⟩
-- slots of _law_number_refused: 0 house, 1 odd, 2 raised
def spNumberRefused (C : Addr) : Sp := fun vs H Q _ => ∃ (x : Addr) (n h : Nat) (ps : List (Nat × Nat)) (v : V) (d : PyData), vs = [.ref x, v] ∧ HsOk C H x n h ps ∧ 1 ≤ n ∧ n ≤ 16 ∧ 2 ≤ h ∧ h ≤ 10 ∧ Ranked (relOf ps) ∧ Lf2 H v d ∧ inI v 0 (((h ^ n : Nat) : Int) - 1) = false ∧ ∀ H', Same H H' → Q (.bl true) H'
theorem ok__law_number_refused (T : Txt K mg C) (TE : TxE K mg "InvalidNumber" "number" "InvalidHouse" "InvalidLamp" "InvalidState" CN CE C1 C2 C3) {f : Addr} {fd : FuncData} (F : Fun K "_law_number_refused" "_law_number_refused" s__law_number_refused f fd) (x_state_of : CalX P w K mg base "state_of" 4 (spStateOfX C CN)) : GOk P w K mg base CX0 6 f fd ["house", "odd"] (spNumberRefused C) := by
  refine F.okG sc__law_number_refused (fun vs H Q E h => ?_) (fun cdv A gA outer s H vs Q E hr h => ?_)
  · obtain ⟨x, n, h, ps, v, d, rfl, _⟩ := h; rfl
  · obtain ⟨x, n, h, ps, v, d, rfl, hs, n1, n16, h2, h10, hR, od, out, q⟩ := h
    have rg : RG (A.deeper (envOfC "_law_number_refused" (defScope s__law_number_refused) s.heap.objs.size f cdv)) := ⟨gA, hr.u100⟩
    refine ⟨_, (pss_cons (ps_try_as (i := 2) (Wout := fun _ _ _ _ => False) rfl rfl sc__law_number_refused.nd rfl rfl ⟨rfl, by decide, Or.inl TE.gE⟩ takes0
        (fun W pn xe tk _ => pss_one (ps_expr (pe_calW x_state_of tk (hr.mono (by decide)) (pa_cons (pv 0) (pa_cons (pv 1) pa_nil)))))
        (fun a oe cls d pn hz hf =>
          (pss_cons (ps_if (pt_not (pt_val (pe_callB (cr_isX TE.xc TE.xg hz hf) (by rfl) T.isinstance b_isinstance (pa_cons (pv 2) (pa_cons (pe_glob (v := .ref CN) (by rfl) TE.gL rfl) pa_nil))))) (pss_one (ps_ret pe_bl)) pss_nil)
          (pss_cons (ps_if (pt_val (pe_callB (cr_isX TE.xc TE.xg hz hf) (by rfl) T.isinstance b_isinstance (pa_cons (pv 2) (pa_cons (pe_tup (pa_cons (pe_glob (v := .ref C1) (by rfl) TE.g1 rfl) (pa_cons (pe_glob (v := .ref C2) (by rfl) TE.g2 rfl) (pa_cons (pe_glob (v := .ref C3) (by rfl) TE.g3 rfl) pa_nil)))) pa_nil)))) (pss_one (ps_ret pe_bl)) pss_nil)
          (pss_one (ps_ret (pe_cmpR op_eq (pe_callB (cr_reprS rg) (by rfl) T.repr b_repr (pa_cons (pe_xf TE.xc.xf TE.nl hz hf (pv 2)) pa_nil)) (pe_callB (cr_reprS rg) (by rfl) T.repr b_repr (pa_cons (pv 1) pa_nil)) (nomark _))))))))
      (pss_one (ps_ret pe_bl))), ?_⟩
    refine ⟨_, rfl, _, rfl, x, n, h, _, v, rfl, hs.at_, n1, n16, h2, h10, hR, od.kd, fun k e k0 k1 => ?_, fun _ dd H1 nd s1 hd => ?_⟩
    · exfalso
      rw [e] at out
      have z : (decide (0 ≤ k) && decide (k ≤ ((h ^ n : Nat) : Int) - 1)) = false := out
      rw [decide_eq_true k0, decide_eq_true (by omega)] at z
      cases z
    refine ⟨true, TE.ex, fun _ a na => ?_, fun q => Bool.noConfusion q⟩
    refine ⟨_, rfl, rfl, ⟨dd, _, rfl, hd⟩, .inl ⟨CN, true, rfl, TE.k1, true, rfl, iteF ?_⟩⟩
    refine ⟨_, rfl, by show 3 ≤ sizeLine; decide, fun tp np => ?_⟩
    have s2 : Same H1 (upd H1 tp (.tup [.ref C1, .ref C2, .ref C3])) := same_new np
    refine ⟨rfl, ⟨dd, _, rfl, s2 _ _ hd⟩, .inr (.inr ⟨tp, [C1, C2, C3], false, rfl, upd_same, TE.ka, false, rfl, iteF ?_⟩)⟩
    have od2 := od.same (s1.trans s2)
    refine ⟨_, rfl, rfl, rfl, dd, _, v, rfl, s2 _ _ hd, rfl, ?_⟩
    dsimp only [tNil]
    refine od2.repr ?_
    refine ⟨_, rfl, ?_⟩
    dsimp only [tNil]
    refine od2.repr ⟨rfl, ?_⟩
    have e : decide (V.str d.shown = V.str d.shown) = true := decide_eq_true rfl
    show Q (.bl (decide (V.str d.shown = V.str d.shown))) _
    rw [e]
    exact q _ (s1.trans s2)
theorem rank_of {line : List Nat} (nd : line.Nodup) : ∃ ρ : Nat → Nat, ∀ (i : Nat) k, line[i]? = some k → ρ k = i := by
  classical
  refine ⟨fun k => if h : ∃ i : Nat, line[i]? = some k then Classical.choose h else 0, fun i k hi => ?_⟩
  have h : ∃ i : Nat, line[i]? = some k := ⟨i, hi⟩
  show (if h : ∃ i : Nat, line[i]? = some k then Classical.choose h else 0) = i
  rw [dif_pos h]
  exact nodup_at nd (Classical.choose_spec h) hi
theorem ws_of {n : Nat} {line : List Nat} {ps : List (Nat × Nat)} (l : LineOk n line) (dn : Down line ps) (nd : ps.Nodup) (few : ps.length < 121) : WsOk n ps := by
  obtain ⟨ρ, hρ⟩ := rank_of l.2.1
  refine ⟨nd, by omega, ⟨ρ, fun r hr => ?_⟩, fun r hr => ?_⟩
  · obtain ⟨x, y, h1, h2, h3⟩ := dn r hr
    rw [hρ x _ h2, hρ y _ h3]; exact h1
  · obtain ⟨x, y, h1, h2, h3⟩ := dn r hr
    exact ⟨l.2.2 _ (List.mem_of_getElem? h2), l.2.2 _ (List.mem_of_getElem? h3)⟩
theorem makeR {H : Hp} {a D : Addr} {n h : Nat} {xs : List V} {ts : List Addr} {ps : List (Nat × Nat)} (ha : H a = some (.lst xs)) (hD : H D = some (.lst (ts.map V.ref))) (ne : D ≠ a) (hp : Pairs H ts ps) (n1 : 1 ≤ n) (n16 : n ≤ 16) (h2 : 2 ≤ h) (h10 : h ≤ 10) (W : WsOk n ps) {R : VK} {E : XK} {x dx : Addr} (nx : H x = none) (ndx : H dx = none) (nxd : dx ≠ x) (g : ∀ (H' H0 : Hp), Same H H' → H0 a = none → Same H0 H' → HsOk C H0 x n h ps → R .non H') :
    Off (spInit K C) (.ref x :: [.int (n : Nat), .int (h : Nat), .ref D]) (L2.upd (L2.upd H dx (.own x)) x (.ins C dx [])) R E := by
  have nxa : x ≠ a := (ne_of_none ha nx).symm
  have s12 : Same H (L2.upd (L2.upd H dx (.own x)) x (.ins C dx [])) := fun c o e => by
    rw [upd_ne (ne_of_none e nx), upd_ne (ne_of_none e ndx)]; exact e
  have hx2 : (L2.upd (L2.upd H dx (.own x)) x (.ins C dx [])) x = some (.ins C dx []) := upd_same
  generalize L2.upd (L2.upd H dx (.own x)) x (.ins C dx []) = H2 at s12 hx2 ⊢
  have pr : Pairs (hide H2 a) ts ps := ⟨hp.1, fun i t p e1 e2 => by
    have e := hp.2 i t p e1 e2
    rw [hide_ne (ne_of e ha (by intro z; cases z))]
    exact s12 _ _ e⟩
  refine ⟨a, xs, s12 _ _ ha, x, dx, D, n, h, ps, rfl, by rw [hide_ne nxa]; exact hx2, n1, n16, h2, h10, ⟨⟨ts, .inl (SqL.of (by rw [hide_ne ne]; exact s12 _ _ hD)), pr⟩, W.nd, by have := W.few; omega, W.lt, W.rk⟩, fun H3 sb3 at_ x_ nb3 => g _ H3 (fun b o e => ?_) nb3 (same_new nb3) ⟨at_, x_⟩⟩
  have e1 := e
  by_cases z : b = a
  · rw [z, ha] at e1
    rw [z, upd_same]
    exact e1
  · rw [upd_ne z]
    exact sb3 _ _ (ne_of_none e1 nx) (by rw [hide_ne z]; exact s12 _ _ e1)
/-- what is no box stands without it -/
theorem bx_ne {H : Hp} {b ga la a : Addr} {xs : List V} (B : Bx H b ga la) (ha : H a = some (.lst xs)) (no : ∀ i1 i2 i3, xs ≠ bx5 ga la i1 i2 i3) : a ≠ b := fun e => by
  obtain ⟨_, _, gs, ls, i1, i2, i3, hb, _⟩ := B
  rw [e, hb] at ha
  injection ha with ha
  injection ha with ha
  exact no _ _ _ ha.symm
theorem bx_no_ints (ga la : Addr) (l : List Nat) : ∀ i1 i2 i3, nL l ≠ bx5 ga la i1 i2 i3 := fun i1 i2 i3 e => by
  cases l with
  | nil => cases e
  | cons k l =>
    unfold nL nI bx5 at e
    rw [List.map_cons, List.map_cons] at e
    injection e with e1 _
    cases e1
theorem bx_no_bools (ga la : Addr) (n : Nat) (g : Nat → Bool) : ∀ i1 i2 i3, bF n g ≠ bx5 ga la i1 i2 i3 := fun i1 i2 i3 e => by
  have l := congrArg (fun z : List V => z[0]?) e
  have l2 : (bF n g)[0]? = some (V.ref ga) := l
  cases n with
  | zero => cases l2
  | succ n =>
    rw [bF_get (Nat.succ_pos n)] at l2
    injection l2 with l2
    cases l2
theorem bx_no_refs (ga la : Addr) (as : List Addr) : ∀ i1 i2 i3, as.map V.ref ≠ bx5 ga la i1 i2 i3 := fun i1 i2 i3 e => by
  have l := congrArg (fun z : List V => z[1]?) e
  have l2 : (as.map V.ref)[1]? = some (V.int i1) := l
  rw [List.getElem?_map] at l2
  obtain ⟨a, _, ea⟩ := Option.map_eq_some_iff.mp l2
  cases ea
theorem w0_of {H H0 : Hp} {b ga la x d U : Addr} {n h : Nat} {ps : List (Nat × Nat)} (B : Bx H b ga la) (n0 : H0 b = none) (s0 : Same H0 H) (hs : HsOk C H0 x n h ps) (hd : H d = some (.lst (nL (ordN n (relOf ps) n)))) (hR : Ranked (relOf ps)) (n1 : 1 ≤ n) (n16 : n ≤ 16) (h2 : 2 ≤ h) (h10 : h ≤ 10) (t : Tb H U n (relOf ps)) : W0 C b H x d U n h ps := by
  have sh : Same H0 (hide H b) := fun a o e => by
    have ne : a ≠ b := fun z => by rw [z, n0] at e; cases e
    rw [hide_ne ne]
    exact s0 _ _ e
  have hid : ∀ {a : Addr} {xs : List V}, H a = some (.lst xs) → (∀ i1 i2 i3, xs ≠ bx5 ga la i1 i2 i3) → hide H b a = some (.lst xs) := fun {a xs} ha no => by
    rw [hide_ne (bx_ne B ha no)]; exact ha
  obtain ⟨as, las, tb1, tb2⟩ := t
  refine ⟨hide H b, hide_same, fun a o e => (hide_some e).2, ⟨hs.same sh, hid hd (bx_no_ints ga la _), hR, n1, n16, h2, h10⟩, as, las, hid tb1 (bx_no_refs ga la _), fun i a e => hid (tb2 i a e) (bx_no_bools ga la _ _)⟩
/-- a house and its order list, as they stand without the box -/
def Wd0 (C b : Addr) (H : Hp) (x d : Addr) (n h : Nat) (ps : List (Nat × Nat)) : Prop := ∃ H0 : Hp, H0 b = none ∧ Same H0 H ∧ Wd C H0 x d n h ps
theorem Wd0.sb {b : Addr} {H H' : Hp} {x d : Addr} {n h : Nat} {ps : List (Nat × Nat)} (a : Wd0 C b H x d n h ps) (s : SB b H H') : Wd0 C b H' x d n h ps := by
  obtain ⟨H0, n0, s0, r⟩ := a
  exact ⟨H0, n0, SB.past s0 n0 s, r⟩
theorem Wd0.get {b : Addr} {H : Hp} {x d : Addr} {n h : Nat} {ps : List (Nat × Nat)} (a : Wd0 C b H x d n h ps) : Wd C H x d n h ps := let ⟨_, _, s, r⟩ := a; r.same s
theorem wd0_of {H H0 : Hp} {b ga la x d : Addr} {n h : Nat} {ps : List (Nat × Nat)} (B : Bx H b ga la) (n0 : H0 b = none) (s0 : Same H0 H) (hs : HsOk C H0 x n h ps) (hd : H d = some (.lst (nL (ordN n (relOf ps) n)))) (hR : Ranked (relOf ps)) (n1 : 1 ≤ n) (n16 : n ≤ 16) (h2 : 2 ≤ h) (h10 : h ≤ 10) : Wd0 C b H x d n h ps := by
  have sh : Same H0 (hide H b) := fun a o e => by
    have ne : a ≠ b := fun z => by rw [z, n0] at e; cases e
    rw [hide_ne ne]
    exact s0 _ _ e
  refine ⟨hide H b, hide_same, fun a o e => (hide_some e).2, ⟨hs.same sh, ?_, hR, n1, n16, h2, h10⟩⟩
  rw [hide_ne (bx_ne B hd (bx_no_ints ga la _))]
  exact hd
abbrev s_law : Stmt := top 54
theorem sc_law : FnScope ["script", "box", "count", "hues", "wires", "mate_wires", "state", "k", "due", "mate_due", "house", "mate", "most", "way"] ["script"] (defScope s_law) := ⟨rfl, rfl, rfl, by decide +kernel, rfl, by decide +kernel, by decide +kernel⟩
-- slots of law: 0 script, 1 box, 2 count, 3 hues, 4 wires, 5 mate_wires, 6 state, 7 k, 8 due, 9 mate_due, 10 house, 11 mate, 12 most, 13 way
def spLaw (K : PySem.W.Frag) : Sp := fun vs H Q _ => ∃ (a : Addr) (ns : List Int), vs = [.ref a] ∧ SqL K H a (ns.map V.int) ∧ ns.length ≤ 63 ∧ ∀ H', Q (.bl true) H'
theorem ok_law (T : Txt K mg C) {f : Addr} {fd : FuncData} (F : Fun K "law" "law" s_law f fd) (c__law_box : Cal P w K mg base "_law_box" 1 (spBox K)) (c__law_sizes : Cal P w K mg base "_law_sizes" 2 spSizes) (c__law_row : Cal P w K mg base "_law_row" 2 spRow) (c__law_wires : Cal P w K mg base "_law_wires" 2 spWires) (c__law_take : Cal P w K mg base "_law_take" 1 spTake)
    (c__law_due_order : Cal P w K mg base "_law_due_order" 1 spDueOrder) (c_House : NCal P w K mg base C "House" 5 (Off (spInit K C))) (c__law_due_number : Cal P w K mg base "_law_due_number" 1 spDueNumber) (c__law_one_right : Cal P w K mg base "_law_one_right" 6 (spOne C)) (c__law_ends_right : Cal P w K mg base "_law_ends_right" 6 (spOne C))
    (c__law_near_right : Cal P w K mg base "_law_near_right" 6 (spOne C)) (c__law_under : Cal P w K mg base "_law_under" 1 spUnder) (c__law_moves_right : Cal P w K mg base "_law_moves_right" 7 (spMoves C)) (c__law_odd_number : Cal P w K mg base "_law_odd_number" 2 spOddNumber) (c__law_number_refused : CalG P w K mg base "_law_number_refused" 6 (spNumberRefused C))
    (c__law_odd_state : Cal P w K mg base "_law_odd_state" 2 spOddState) (c__law_state_refused : CalG P w K mg base "_law_state_refused" 7 (spStateRefused C)) : GOk P w K mg base CX0 8 f fd ["script"] (spLaw K) := by
  refine F.okG sc_law (fun vs H Q E h => ?_) (fun cdv A gA outer s H vs Q E hr h => ?_)
  · obtain ⟨a, ns, rfl, _⟩ := h; rfl
  · obtain ⟨a, ns, rfl, ha, few, q⟩ := h
    have rg : RG (A.deeper (envOfC "law" (defScope s_law) s.heap.objs.size f cdv)) := ⟨gA, hr.u100⟩
    refine ⟨_, (pss_cons (ps_set (i := 1) sc_law.nd rfl (by first | exact Or.inl rfl | exact Or.inr rfl) (pe_cal c__law_box (hr.mono (by decide)) (pa_cons (pv 0) pa_nil)))
      (pss_cons (ps_asg (pe_cal c__law_sizes (hr.mono (by decide)) (pa_cons (pv 1) pa_nil)) (pg_tup (by rfl) (pgs_cons (pg_name (i := 2) sc_law.nd rfl (by first | exact Or.inl rfl | exact Or.inr rfl)) (pgs_cons (pg_name (i := 3) sc_law.nd rfl (by first | exact Or.inl rfl | exact Or.inr rfl)) pgs_nil))))
      (pss_cons (ps_set (i := 4) sc_law.nd rfl (by first | exact Or.inl rfl | exact Or.inr rfl) (pe_cal c__law_wires (hr.mono (by decide)) (pa_cons (pv 1) (pa_cons (pe_cal c__law_row (hr.mono (by decide)) (pa_cons (pv 1) (pa_cons (pv 2) pa_nil))) pa_nil))))
      (pss_cons (ps_set (i := 5) sc_law.nd rfl (by first | exact Or.inl rfl | exact Or.inr rfl) (pe_cal c__law_wires (hr.mono (by decide)) (pa_cons (pv 1) (pa_cons (pe_cal c__law_row (hr.mono (by decide)) (pa_cons (pv 1) (pa_cons (pv 2) pa_nil))) pa_nil))))
      (pss_cons (ps_set (i := 6) sc_law.nd rfl (by first | exact Or.inl rfl | exact Or.inr rfl) (pe_callTy (tupOf_ K) (by rfl) T.tuple b_tuple (pa_cons (pe_lc (own := [("k", 7)]) (g := gName 7) (tt := tYes) rfl sc_law.nd (pi_range1 (by rfl) T.range (pa_cons (pv 2) pa_nil)) (blkOk_by (by kernel_rfl)) (fun _ _ _ _ _ => (pg_name (i := 7) sc_law.nd rfl (by first | exact Or.inl rfl | exact Or.inr rfl))) (fun _ _ _ _ _ => pts_nil) (fun _ _ _ _ _ => (pe_cal c__law_take (hr.mono (by decide)) (pa_cons (pv 1) (pa_cons (pv 3) pa_nil))))) pa_nil)))
      (pss_cons (ps_set (i := 8) sc_law.nd rfl (by first | exact Or.inl rfl | exact Or.inr rfl) (pe_cal c__law_due_order (hr.mono (by decide)) (pa_cons (pv 2) (pa_cons (pv 4) pa_nil))))
      (pss_cons (ps_set (i := 9) sc_law.nd rfl (by first | exact Or.inl rfl | exact Or.inr rfl) (pe_cal c__law_due_order (hr.mono (by decide)) (pa_cons (pv 2) (pa_cons (pv 5) pa_nil))))
      (pss_cons (ps_set (i := 10) sc_law.nd rfl (by first | exact Or.inl rfl | exact Or.inr rfl) (pe_ncal c_House (hr.mono (by decide)) (pa_cons (pv 2) (pa_cons (pv 3) (pa_cons (pe_callTy (lstOf_ K) (by rfl) T.list b_list (pa_cons (pv 4) pa_nil)) pa_nil)))))
      (pss_cons (ps_set (i := 11) sc_law.nd rfl (by first | exact Or.inl rfl | exact Or.inr rfl) (pe_ncal c_House (hr.mono (by decide)) (pa_cons (pv 2) (pa_cons (pv 3) (pa_cons (pe_callTy (lstOf_ K) (by rfl) T.list b_list (pa_cons (pv 5) pa_nil)) pa_nil)))))
      (pss_cons (ps_set (i := 12) sc_law.nd rfl (by first | exact Or.inl rfl | exact Or.inr rfl) (pe_cal c__law_due_number (hr.mono (by decide)) (pa_cons (pv 8) (pa_cons (pe_op op_rep (pe_lst (pa_cons (pe_op op_sub (pv 3) pe_int) pa_nil)) (pv 2)) (pa_cons (pv 3) pa_nil)))))
      (pss_cons (ps_if (PW.pt (pw_or (pt_not (pt_val (pe_cal c__law_one_right (hr.mono (by decide)) (pa_cons (pv 10) (pa_cons (pv 8) (pa_cons (pv 3) (pa_cons (pv 6) pa_nil))))))) (pw_or1 (pt_not (pt_val (pe_cal c__law_one_right (hr.mono (by decide)) (pa_cons (pv 11) (pa_cons (pv 9) (pa_cons (pv 3) (pa_cons (pv 6) pa_nil))))))))))
      (pss_one (ps_ret pe_bl)) pss_nil)
      (pss_cons (ps_if (PW.pt (pw_or (pt_not (pt_val (pe_cal c__law_ends_right (hr.mono (by decide)) (pa_cons (pv 10) (pa_cons (pv 8) (pa_cons (pv 3) (pa_cons (pv 6) pa_nil))))))) (pw_or1 (pt_not (pt_val (pe_cal c__law_ends_right (hr.mono (by decide)) (pa_cons (pv 11) (pa_cons (pv 9) (pa_cons (pv 3) (pa_cons (pv 6) pa_nil))))))))))
      (pss_one (ps_ret pe_bl)) pss_nil)
      (pss_cons (ps_if (pt_not (pt_val (pe_cal c__law_near_right (hr.mono (by decide)) (pa_cons (pv 10) (pa_cons (pv 8) (pa_cons (pv 3) (pa_cons (pv 6) pa_nil)))))))
      (pss_one (ps_ret pe_bl)) pss_nil)
      (pss_cons (ps_if (pt_not (pt_val (pe_cal c__law_moves_right (hr.mono (by decide)) (pa_cons (pv 1) (pa_cons (pv 10) (pa_cons (pv 8) (pa_cons (pv 3) (pa_cons (pv 6) (pa_cons (pe_cal c__law_under (hr.mono (by decide)) (pa_cons (pv 2) (pa_cons (pv 4) pa_nil))) pa_nil)))))))))
      (pss_one (ps_ret pe_bl)) pss_nil)
      (pss_cons (ps_for PassesOwn.never rfl (pi_range1 (by rfl) T.range (pa_cons pe_int pa_nil)) (pg_name (i := 13) sc_law.nd rfl (by first | exact Or.inl rfl | exact Or.inr rfl))
      (pss_one (ps_if (pt_not (pt_val (pe_calR c__law_number_refused rg (hr.mono (by decide)) (pa_cons (pv 10) (pa_cons (pe_cal c__law_odd_number (hr.mono (by decide)) (pa_cons (pv 1) (pa_cons (pv 12) (pa_cons (pv 13) pa_nil)))) pa_nil)))))
      (pss_one (ps_ret pe_bl)) pss_nil)))
      (pss_cons (ps_for PassesOwn.never rfl (pi_range1 (by rfl) T.range (pa_cons pe_int pa_nil)) (pg_name (i := 13) sc_law.nd rfl (by first | exact Or.inl rfl | exact Or.inr rfl))
      (pss_one (ps_if (pt_not (pt_val (pe_calR c__law_state_refused rg (hr.mono (by decide)) (pa_cons (pv 10) (pa_cons (pe_cal c__law_odd_state (hr.mono (by decide)) (pa_cons (pv 1) (pa_cons (pv 6) (pa_cons (pv 3) (pa_cons (pv 13) pa_nil))))) pa_nil)))))
      (pss_one (ps_ret pe_bl)) pss_nil)))
      (pss_one (ps_ret (pe_and (pe_cal c__law_one_right (hr.mono (by decide)) (pa_cons (pv 11) (pa_cons (pv 9) (pa_cons (pv 3) (pa_cons (pv 6) pa_nil))))) (pe_one (pe_cal c__law_one_right (hr.mono (by decide)) (pa_cons (pv 10) (pa_cons (pv 8) (pa_cons (pv 3) (pa_cons (pv 6) pa_nil))))))))))))))))))))))))), ?_⟩
    refine ⟨_, rfl, a, ns, rfl, ha, few, fun H1 b ga la s1 nb nga nla b1 => ?_⟩
    refine ⟨_, rfl, b, ga, la, rfl, b1, fun n h t H2 n1 n16 h2 h10 s2 b2 ht => ?_⟩
    refine ⟨t, _, rfl, SqT.of ht, rfl, _, _, rfl, _, _, rfl, rfl, ?_⟩
    refine ⟨_, rfl, _, rfl, _, rfl, b, ga, la, n, rfl, n16, b2, fun line r1 H3 lok s3 b3 nr hr1 => ?_⟩
    have r1b := (b2.new nr).1
    refine ⟨b, ga, la, r1, n, line, rfl, n16, lok, b3, r1b, hr1, fun ts ps wz H4 dn nd fw s4 b4 nw hw hps => ?_⟩
    have W1 := ws_of lok dn nd fw
    have wzb := (b3.new nw).1
    clear hr1 dn nd fw lok
    refine ⟨_, rfl, _, rfl, _, rfl, b, ga, la, n, rfl, n16, b4, fun line2 r2 H5 lok s5 b5 nr2 hr2 => ?_⟩
    have r2b := (b4.new nr2).1
    refine ⟨b, ga, la, r2, n, line2, rfl, n16, lok, b5, r2b, hr2, fun ts2 ps2 mz H6 dn nd fw s6 b6 nm hm hps2 => ?_⟩
    have W2 := ws_of lok dn nd fw
    have mzb := (b5.new nm).1
    have hw6 := s6 _ _ wzb (s5 _ _ wzb hw)
    have hps6 : Pairs H6 ts ps := by
      obtain ⟨xs, hx⟩ := b4.at'
      obtain ⟨ys, hy⟩ := b5.at'
      exact (hps.sb hx s5).sb hy s6
    refine ⟨_, rfl, _, rfl, by omega, by omega, fun D hD => ?_⟩
    rw [Int.toNat_natCast]
    obtain ⟨Db, Dg, Dl⟩ := b6.new hD
    refine lc_range (n := n) (fun i H7 => ∃ S : List Int, H7 D = some (.lst (stV S)) ∧ StOk i h S ∧ Bx H7 b ga la ∧ SB b H6 H7) ⟨[], upd_same, ⟨rfl, fun z hz => by cases hz⟩, b6.upd Db Dg Dl, SB.of (same_new hD)⟩ ?_ ?_
    · rintro i H7 hi ⟨S, hS, ok, b7, s7⟩
      refine ⟨rfl, yesT ⟨_, rfl, _, rfl, b, ga, la, h, rfl, by omega, by omega, b7, fun r H8 hr8 s8 b8 => ?_⟩⟩
      have hS8 := s8 _ _ Db hS
      refine ⟨_, hS8, by rw [List.length_map, ok.1, sizeLine_eq]; omega, S ++ [(r : Int)], ?_, ⟨by rw [List.length_append, ok.1]; rfl, fun z hz => ?_⟩, b8.upd Db Dg Dl, fun c o nb e => ?_⟩
      · rw [upd_same]; unfold stV; rw [List.map_append]; rfl
      · rcases List.mem_append.mp hz with hz | hz
        · exact ok.2 z hz
        · rw [List.mem_singleton.mp hz]; omega
      · rw [upd_ne (ne_of_none e hD)]
        exact s8 _ _ nb (s7 _ _ nb e)
    rintro H7 ⟨S, hS, ok, b7, s7⟩
    have hw7 := s7 _ _ wzb hw6
    have hm7 := s7 _ _ mzb hm
    have hps7 : Pairs H7 ts ps := by
      obtain ⟨xs, hx⟩ := b6.at'
      exact hps6.sb hx s7
    have hps27 : Pairs H7 ts2 ps2 := by
      obtain ⟨xs, hx⟩ := b6.at'
      exact hps2.sb hx s7
    refine ⟨D, _, rfl, .inl ⟨SqL.of hS, fun p np => ?_⟩⟩
    have s8 : Same H7 (upd H7 p (.tup (stV S))) := same_new np
    have hp : (upd H7 p (.tup (stV S))) p = some (.tup (stV S)) := upd_same
    generalize upd H7 p (.tup (stV S)) = H8 at s8 hp ⊢
    have b8 := b7.same s8
    have R1 := W1.ranked
    have R2 := W2.ranked
    have f1 := W1.few
    have f2 := W2.few
    refine ⟨_, rfl, _, rfl, wz, n, ts, ps, rfl, n16, s8 _ _ hw7, hps7.same s8, f1, R1, W1.lt, fun d1 H9 s9 _ hd1 => ?_⟩
    have s79 := s8.trans s9
    refine ⟨_, rfl, _, rfl, mz, n, ts2, ps2, rfl, n16, s79 _ _ hm7, hps27.same s79, f2, R2, W2.lt, fun d2 H10 s10 _ hd2 => ?_⟩
    have s710 := s79.trans s10
    have hwA := s710 _ _ hw7
    have hmA := s710 _ _ hm7
    have hpsA := hps7.same s710
    have hps2A := hps27.same s710
    have hd1 := s10 _ _ hd1
    have hp := s10 _ _ (s9 _ _ hp)
    have bA := b7.same s710
    obtain ⟨xsA, hbA⟩ := bA.at'
    -- the first house
    refine ⟨_, rfl, _, rfl, _, rfl, wz, _, rfl, .inl (SqL.of hwA), fun l1 nl1 x dx nx ndx ne => ?_⟩
    have t1 : Same H10 (upd H10 l1 (.lst (ts.map V.ref))) := same_new nl1
    have hl1 : (upd H10 l1 (.lst (ts.map V.ref))) l1 = some (.lst (ts.map V.ref)) := upd_same
    have l1b := (bA.new nl1).1
    generalize upd H10 l1 (.lst (ts.map V.ref)) = G1 at t1 hl1 nx ndx ⊢
    refine makeR (t1 _ _ hbA) hl1 l1b (hpsA.same t1) n1 n16 h2 h10 W1 nx ndx ne fun G2 G01 t2 nG01 sG01 hs1 => ⟨rfl, ?_⟩
    have t02 := t1.trans t2
    have hm2 := t02 _ _ hmA
    have hps22 := hps2A.same t02
    have hb2 := t02 _ _ hbA
    have B2 := bA.same t02
    refine ⟨_, rfl, _, rfl, _, rfl, mz, _, rfl, .inl (SqL.of hm2), fun l2 nl2 y dy ny ndy ney => ?_⟩
    have t3 : Same G2 (upd G2 l2 (.lst (ts2.map V.ref))) := same_new nl2
    have hl2 : (upd G2 l2 (.lst (ts2.map V.ref))) l2 = some (.lst (ts2.map V.ref)) := upd_same
    have l2b := (B2.new nl2).1
    generalize upd G2 l2 (.lst (ts2.map V.ref)) = G3 at t3 hl2 ny ndy ⊢
    refine makeR (t3 _ _ hb2) hl2 l2b (hps22.same t3) n1 n16 h2 h10 W2 ny ndy ney fun G4 G02 t4 nG02 sG02 hs2 => ⟨rfl, ?_⟩
    have t24 := t3.trans t4
    have t04 := t02.trans t24
    have sG1 := sG01.trans t24
    have hd1 := t04 _ _ hd1
    have hd2 := t04 _ _ hd2
    have hp := t04 _ _ hp
    have hw := t04 _ _ hwA
    have hps := hpsA.same t04
    have B4 := bA.same t04
    have lO := (ordL (n := n) R1)
    have Wa : Wd C G4 x d1 n h ps := ⟨hs1.same sG1, hd1, R1, n1, n16, h2, h10⟩
    have Wb : Wd C G4 y d2 n h ps2 := ⟨hs2.same sG02, hd2, R2, n1, n16, h2, h10⟩
    clear hw6 hps6 hw7 hm7 hps7 hps27 hwA hmA hpsA hps2A hm2 hps22 hb2 hl1 hl2
    -- the highest number
    refine ⟨_, rfl, _, rfl, _, _, rfl, rfl, by show 1 ≤ sizeLine; decide, fun zz nzz => ⟨_, rfl, zz, _, _, rfl, rfl, upd_same, by omega, by omega, ?_, fun D2 hD2 => ?_⟩⟩
    · rw [Int.toNat_natCast, sizeLine_eq]; show 1 * n ≤ _; omega
    have t5 : Same G4 (upd (upd G4 zz (.lst [V.int ((h : Int) - 1)])) D2 (.lst (List.replicate ((n : Int)).toNat [V.int ((h : Int) - 1)]).flatten)) := (same_new nzz).trans (same_new hD2)
    have ha1 : (upd (upd G4 zz (.lst [V.int ((h : Int) - 1)])) D2 (.lst (List.replicate ((n : Int)).toNat [V.int ((h : Int) - 1)]).flatten)) D2 = some (.lst (stV (List.replicate n ((h : Int) - 1)))) := by rw [upd_same, repI]
    generalize upd (upd G4 zz (.lst [V.int ((h : Int) - 1)])) D2 (.lst (List.replicate ((n : Int)).toNat [V.int ((h : Int) - 1)]).flatten) = G5 at t5 ha1 ⊢
    clear hD2 nzz
    refine ⟨_, rfl, d1, D2, h, _, _, rfl, t5 _ _ hd1, .inr ha1, fun l hl => by rw [List.length_replicate]; exact lO.lt l hl, h10, ?_⟩
    rw [most_eq lO]
    have pb := pow_bound h10 n16
    have e16 : (10 : Nat) ^ 16 = 10000000000000000 := by decide
    have ep : ((h ^ n : Nat) : Int) = (h : Int) ^ n := Int.natCast_pow h n
    have pl : 2 ≤ h ^ n := Nat.le_trans h2 (Nat.le_self_pow (by omega) h)
    obtain ⟨m, em, m1, m17⟩ : ∃ m : Nat, (h : Int) ^ n - 1 = (m : Int) ∧ 1 ≤ m ∧ m < 100000000000000000 := ⟨h ^ n - 1, by omega, by omega, by omega⟩
    rw [em]
    have hp5 := t5 _ _ hp
    refine ⟨_, rfl, _, rfl, _, rfl, _, rfl, x, d1, p, n, h, ps, S, rfl, Wa.same t5, hp5, ok, fun G6 t6 => ⟨true, rfl, iteF ?_⟩⟩
    have t46 := t5.trans t6
    refine ⟨_, rfl, _, rfl, _, rfl, _, rfl, y, d2, p, n, h, ps2, S, rfl, Wb.same t46, t6 _ _ hp5, ok, fun G7 t7 => ⟨true, rfl, iteF ?_⟩⟩
    have t47 := t46.trans t7
    refine ⟨_, rfl, _, rfl, _, rfl, _, rfl, x, d1, p, n, h, ps, S, rfl, Wa.same t47, t47 _ _ hp, ok, fun G8 t8 => ⟨true, rfl, iteF ?_⟩⟩
    have t48 := t47.trans t8
    refine ⟨_, rfl, _, rfl, _, rfl, _, rfl, y, d2, p, n, h, ps2, S, rfl, Wb.same t48, t48 _ _ hp, ok, fun G9 t9 => ⟨true, rfl, iteF ?_⟩⟩
    have t49 := t48.trans t9
    refine ⟨_, rfl, _, rfl, _, rfl, _, rfl, x, d1, p, n, h, ps, S, rfl, Wa.same t49, t49 _ _ hp, ok, fun G10 t10 => ⟨true, rfl, iteF ?_⟩⟩
    have t410 := t49.trans t10
    refine ⟨_, rfl, _, rfl, _, rfl, _, rfl, _, rfl, _, rfl, _, rfl, wz, n, ts, ps, rfl, n16, t410 _ _ hw, hps.same t410, W1.lt, R1, fun U G11 t11 tb => ?_⟩
    have t411 := t410.trans t11
    have B11 := B4.same t411
    have pb_ : p ≠ b := fun z => by
      obtain ⟨xs, hx⟩ := B4.at'
      rw [z, hx] at hp
      cases hp
    have hA := wd0_of B11 nG01 (sG1.trans t411) hs1 (t411 _ _ hd1) R1 n1 n16 h2 h10
    have hB := wd0_of B11 nG02 (sG02.trans t411) hs2 (t411 _ _ hd2) R2 n1 n16 h2 h10
    refine ⟨b, ga, la, x, d1, p, U, n, h, ps, S, rfl, B11, w0_of B11 nG01 (sG1.trans t411) hs1 (t411 _ _ hd1) R1 n1 n16 h2 h10 tb, t411 _ _ hp, ok, fun G12 s12 b12 => ⟨true, rfl, iteF ?_⟩⟩
    have hp12 := s12 _ _ pb_ (t411 _ _ hp)
    have hA12 := hA.sb s12
    have hB12 := hB.sb s12
    refine ⟨_, rfl, by decide, by decide, ?_⟩
    refine for_range (n := 9) (fun i σ G => ∃ v7 v13 : Option V, σ = [some (.ref a), some (.ref b), some (.int (n : Nat)), some (.int (h : Nat)), some (.ref wz), some (.ref mz), some (.ref p), v7, some (.ref d1), some (.ref d2), some (.ref x), some (.ref y), some (.int (m : Nat)), v13] ∧ SB b G12 G ∧ Bx G b ga la)
      ⟨_, _, rfl, SB.refl b G12, b12⟩ ?_ ?_
    · rintro i σ G _ ⟨v7, v13, rfl, sG, bG⟩
      refine ⟨_, rfl, _, rfl, _, rfl, _, rfl, b, ga, la, m, _, rfl, m1, m17, bG, fun v d G' s' b' od out => ?_⟩
      have sG' := sG.trans s'
      refine ⟨x, n, h, ps, v, d, rfl, (hA12.sb sG').get.hs, n1, n16, h2, h10, R1, od, by rw [ep, em]; exact out, fun G'' t'' => ⟨true, rfl, iteF ?_⟩⟩
      exact ⟨_, _, rfl, sG'.trans (SB.of t''), b'.same t''⟩
    rintro σ G ⟨v7, v13, rfl, sG, bG⟩
    refine ⟨_, rfl, by decide, by decide, ?_⟩
    refine for_range (n := 14) (fun i σ G => ∃ v7 v13 : Option V, σ = [some (.ref a), some (.ref b), some (.int (n : Nat)), some (.int (h : Nat)), some (.ref wz), some (.ref mz), some (.ref p), v7, some (.ref d1), some (.ref d2), some (.ref x), some (.ref y), some (.int (m : Nat)), v13] ∧ SB b G12 G ∧ Bx G b ga la)
      ⟨_, _, rfl, sG, bG⟩ ?_ ?_
    · rintro i σ G _ ⟨v7, v13, rfl, sG, bG⟩
      refine ⟨_, rfl, _, rfl, _, rfl, _, rfl, _, rfl, b, ga, la, p, n, h, S, _, rfl, n1, n16, h2, h10, bG, sG _ _ pb_ hp12, ok, fun v d G' s' b' od bad => ?_⟩
      have sG' := sG.trans s'
      refine ⟨x, n, h, ps, v, d, rfl, (hA12.sb sG').get.hs, n16, h10, R1, od, bad, fun G'' t'' => ⟨true, rfl, iteF ?_⟩⟩
      exact ⟨_, _, rfl, sG'.trans (SB.of t''), b'.same t''⟩
    rintro σ G ⟨v7, v13, rfl, sG, bG⟩
    have hpG := sG _ _ pb_ hp12
    refine ⟨_, rfl, _, rfl, _, rfl, _, rfl, y, d2, p, n, h, ps2, S, rfl, (hB12.sb sG).get, hpG, ok, fun G' t' => ⟨true, rfl, ?_⟩⟩
    exact ⟨_, rfl, _, rfl, _, rfl, _, rfl, x, d1, p, n, h, ps, S, rfl, (hA12.sb sG).get.same t', t' _ _ hpG, ok, fun G'' t'' => q G''⟩
end
end Hue

end
section
set_option maxRecDepth 100000
set_option maxHeartbeats 4000000
namespace Hue
open PySem PySem.Spec PyProof.Rows L2
/-! ### the end: what the top has written, and the head -/
theorem binds_init {K : PySem.W.Frag} {T E : Addr} {ocT : Value} {odT : Option Addr} {itT : Value} {nT : Nat} {slT : Array (Option Value)} (lT : K.lookup T = some ⟨ocT, odT, .seq #[itT] nT, slT⟩) {kV dc pm cd ct : Value} {an : Option Addr} :
    Binds K (PySem.W.fnOf "__init__" "House.__init__" (defArgs s_House___init__) (defBody s_House___init__) (defScope s_House___init__) (.ref T) kV dc pm an cd ct) ["self", "count", "hues", "wires"] [] := fun s us X hl => by
  rw [List.append_nil] at hl ⊢
  match us, hl with
  | [a, b, c, d], _ =>
    refine BindsTo.of_looks fun M => ?_
    have e : ∃ k, bindArgs (PySem.W.fnOf "__init__" "House.__init__" (defArgs s_House___init__) (defBody s_House___init__) (defScope s_House___init__) (.ref T) kV dc pm an cd ct) ⟨[a, b, c, d], []⟩ = seqItems? (.ref T) >>= k ∧ k (some #[itT]) = pure ((["self", "count", "hues", "wires"] : List Str).zip [a, b, c, d]) := ⟨_, rfl, rfl⟩
    obtain ⟨k, e1, e2⟩ := e
    rw [e1]
    exact looks_items X lT rfl (.of_pure e2)
theorem binds_init0 {K : PySem.W.Frag} {T : Addr} {ocT : Value} {odT : Option Addr} {itT : Value} {nT : Nat} {slT : Array (Option Value)} (lT : K.lookup T = some ⟨ocT, odT, .seq #[itT] nT, slT⟩) {kV dc pm cd ct : Value} {an : Option Addr} :
    Binds K (PySem.W.fnOf "__init__" "House.__init__" (defArgs s_House___init__) (defBody s_House___init__) (defScope s_House___init__) (.ref T) kV dc pm an cd ct) ["self", "count", "hues", "wires"] [itT] := fun s us X hl => by
  have l3 : us.length = 3 := by
    rw [List.length_append] at hl
    exact Nat.succ.inj hl
  match us, l3 with
  | [a, b, c], _ =>
    refine BindsTo.of_looks fun M => ?_
    have e : ∃ k, bindArgs (PySem.W.fnOf "__init__" "House.__init__" (defArgs s_House___init__) (defBody s_House___init__) (defScope s_House___init__) (.ref T) kV dc pm an cd ct) ⟨[a, b, c], []⟩ = seqItems? (.ref T) >>= k ∧ k (some #[itT]) = pure ((["self", "count", "hues", "wires"] : List Str).zip [a, b, c, itT]) := ⟨_, rfl, rfl⟩
    obtain ⟨k, e1, e2⟩ := e
    rw [e1]
    exact looks_items X lT rfl (.of_pure e2)
theorem exm_of {K : PySem.W.Frag} {S E : Addr} {b : Bool} (h1 : PySem.W.subIn K (.ref E) (.type "BaseException") = some true) (h2 : PySem.W.isClsIn K E = true) (h3 : PySem.W.typeIn K (.ref E) = some (.type "type")) (h4 : PySem.W.subIn K (.ref S) (.ref E) = some b) : PySem.W.exmOne K (.ref S) (.ref E) = some b := by
  have e1 : (PySem.W.subIn K (.ref E) (.type "BaseException") == some true) = true := by rw [h1] <;> rfl
  have e2 : ((PySem.W.clsIn K E).isSome && PySem.W.typeIn K (.ref E) == some (.type "type")) = true := by
    have h2' : (PySem.W.clsIn K E).isSome = true := h2
    rw [h2', h3] <;> rfl
  show (if (PySem.W.subIn K (.ref E) (.type "BaseException") == some true) = true then (if ((PySem.W.clsIn K E).isSome && PySem.W.typeIn K (.ref E) == some (.type "type")) = true then PySem.W.subIn K (.ref S) (.ref E) else none) else none) = some b
  rw [if_pos e1, if_pos e2]
  exact h4
theorem kit_self {K : PySem.W.Frag} {S : Addr} : PySem.W.kitOne K (.ref S) (.ref S) = some true := by
  show (if ((Value.ref S) == (Value.ref S)) = true then some true else _) = some true
  rw [if_pos (beq_iff_eq.mpr rfl)]
theorem kit_no {K : PySem.W.Frag} {S E : Addr} (h2 : PySem.W.isClsIn K E = true) (h3 : PySem.W.typeIn K (.ref E) = some (.type "type")) (h4 : PySem.W.subIn K (.ref S) (.ref E) = some false) (h5 : PySem.W.subIn K (.ref S) (.ref S) = some true) : PySem.W.kitOne K (.ref S) (.ref E) = some false := by
  have ne : ¬ ((Value.ref S) == (Value.ref E)) = true := fun z => by
    have e := beq_iff_eq.mp z
    rw [← e, h5] at h4
    cases h4
  have e2 : ((PySem.W.clsIn K E).isSome && PySem.W.typeIn K (.ref E) == some (.type "type")) = true := by
    have h2' : (PySem.W.clsIn K E).isSome = true := h2
    rw [h2', h3] <;> rfl
  show (if ((Value.ref S) == (Value.ref E)) = true then some true else (if ((PySem.W.clsIn K E).isSome && PySem.W.typeIn K (.ref E) == some (.type "type")) = true then PySem.W.subIn K (.ref S) (.ref E) else none)) = some false
  rw [if_neg ne, if_pos e2]
  exact h4
theorem kit_no3 {K : PySem.W.Frag} {S A B D : Addr} (a : PySem.W.kitOne K (.ref S) (.ref A) = some false) (b : PySem.W.kitOne K (.ref S) (.ref B) = some false) (c : PySem.W.kitOne K (.ref S) (.ref D) = some false) : PySem.W.kitAny K (.ref S) [.ref A, .ref B, .ref D] = some false := by
  unfold PySem.W.kitAny
  rw [a]
  show PySem.W.kitAny K (.ref S) [.ref B, .ref D] = some false
  unfold PySem.W.kitAny
  rw [b]
  show PySem.W.kitAny K (.ref S) [.ref D] = some false
  unfold PySem.W.kitAny
  rw [c]
  rfl
theorem all_mk {l : PySem.W.OpenLaw} {w : World} {K : PySem.W.Frag} {h : Heap} {mg : Str → Option Value} {fa : Addr} (X : K.In h) (G : h.Ns mainGlobals mg) (hfa : mg "law" = some (.ref fa))
    {f0 : Addr} {od0 an0 : Option Addr} {sl0 : Array (Option Value)} {oc0 kV0 dc0 pm0 cd0 ct0 : Value}
    {f1 : Addr} {od1 an1 : Option Addr} {sl1 : Array (Option Value)} {oc1 kV1 dc1 pm1 cd1 ct1 : Value}
    {f2 : Addr} {od2 an2 : Option Addr} {sl2 : Array (Option Value)} {oc2 kV2 dc2 pm2 cd2 ct2 : Value}
    {f3 : Addr} {od3 an3 : Option Addr} {sl3 : Array (Option Value)} {oc3 kV3 dc3 pm3 cd3 ct3 : Value}
    {f4 : Addr} {od4 an4 : Option Addr} {sl4 : Array (Option Value)} {oc4 kV4 dc4 pm4 cd4 ct4 : Value}
    {f5 : Addr} {od5 an5 : Option Addr} {sl5 : Array (Option Value)} {oc5 kV5 dc5 pm5 cd5 ct5 : Value}
    {f6 : Addr} {od6 an6 : Option Addr} {sl6 : Array (Option Value)} {oc6 kV6 dc6 pm6 cd6 ct6 : Value}
    {f7 : Addr} {od7 an7 : Option Addr} {sl7 : Array (Option Value)} {oc7 kV7 dc7 pm7 cd7 ct7 : Value}
    {f8 : Addr} {od8 an8 : Option Addr} {sl8 : Array (Option Value)} {oc8 kV8 dc8 pm8 cd8 ct8 : Value}
    {f9 : Addr} {od9 an9 : Option Addr} {sl9 : Array (Option Value)} {oc9 kV9 dc9 pm9 cd9 ct9 : Value}
    {f10 : Addr} {od10 an10 : Option Addr} {sl10 : Array (Option Value)} {oc10 kV10 dc10 pm10 cd10 ct10 : Value}
    {f11 : Addr} {od11 an11 : Option Addr} {sl11 : Array (Option Value)} {oc11 kV11 dc11 pm11 cd11 ct11 : Value}
    {f12 : Addr} {od12 an12 : Option Addr} {sl12 : Array (Option Value)} {oc12 kV12 dc12 pm12 cd12 ct12 : Value}
    {f13 : Addr} {od13 an13 : Option Addr} {sl13 : Array (Option Value)} {oc13 kV13 dc13 pm13 cd13 ct13 : Value}
    {f14 : Addr} {od14 an14 : Option Addr} {sl14 : Array (Option Value)} {oc14 kV14 dc14 pm14 cd14 ct14 : Value}
    {f15 : Addr} {od15 an15 : Option Addr} {sl15 : Array (Option Value)} {oc15 kV15 dc15 pm15 cd15 ct15 : Value}
    {f16 : Addr} {od16 an16 : Option Addr} {sl16 : Array (Option Value)} {oc16 kV16 dc16 pm16 cd16 ct16 : Value}
    {f17 : Addr} {od17 an17 : Option Addr} {sl17 : Array (Option Value)} {oc17 kV17 dc17 pm17 cd17 ct17 : Value}
    {f18 : Addr} {od18 an18 : Option Addr} {sl18 : Array (Option Value)} {oc18 kV18 dc18 pm18 cd18 ct18 : Value}
    {f19 : Addr} {od19 an19 : Option Addr} {sl19 : Array (Option Value)} {oc19 kV19 dc19 pm19 cd19 ct19 : Value}
    {f20 : Addr} {od20 an20 : Option Addr} {sl20 : Array (Option Value)} {oc20 kV20 dc20 pm20 cd20 ct20 : Value}
    {f21 : Addr} {od21 an21 : Option Addr} {sl21 : Array (Option Value)} {oc21 kV21 dc21 pm21 cd21 ct21 : Value}
    {f22 : Addr} {od22 an22 : Option Addr} {sl22 : Array (Option Value)} {oc22 kV22 dc22 pm22 cd22 ct22 : Value}
    {f23 : Addr} {od23 an23 : Option Addr} {sl23 : Array (Option Value)} {oc23 kV23 dc23 pm23 cd23 ct23 : Value}
    {f24 : Addr} {od24 an24 : Option Addr} {sl24 : Array (Option Value)} {oc24 kV24 dc24 pm24 cd24 ct24 : Value}
    {f25 : Addr} {od25 an25 : Option Addr} {sl25 : Array (Option Value)} {oc25 kV25 dc25 pm25 cd25 ct25 : Value}
    {f26 : Addr} {od26 an26 : Option Addr} {sl26 : Array (Option Value)} {oc26 kV26 dc26 pm26 cd26 ct26 : Value}
    {f27 : Addr} {od27 an27 : Option Addr} {sl27 : Array (Option Value)} {oc27 kV27 dc27 pm27 cd27 ct27 : Value}
    {f28 : Addr} {od28 an28 : Option Addr} {sl28 : Array (Option Value)} {oc28 kV28 dc28 pm28 cd28 ct28 : Value}
    {f29 : Addr} {od29 an29 : Option Addr} {sl29 : Array (Option Value)} {oc29 kV29 dc29 pm29 cd29 ct29 : Value}
    {f30 : Addr} {od30 an30 : Option Addr} {sl30 : Array (Option Value)} {oc30 kV30 dc30 pm30 cd30 ct30 : Value}
    {f31 : Addr} {od31 an31 : Option Addr} {sl31 : Array (Option Value)} {oc31 kV31 dc31 pm31 cd31 ct31 : Value}
    {f32 : Addr} {od32 an32 : Option Addr} {sl32 : Array (Option Value)} {oc32 kV32 dc32 pm32 cd32 ct32 : Value}
    {f33 : Addr} {od33 an33 : Option Addr} {sl33 : Array (Option Value)} {oc33 kV33 dc33 pm33 cd33 ct33 : Value}
    {f34 : Addr} {od34 an34 : Option Addr} {sl34 : Array (Option Value)} {oc34 kV34 dc34 pm34 cd34 ct34 : Value}
    {f35 : Addr} {od35 an35 : Option Addr} {sl35 : Array (Option Value)} {oc35 kV35 dc35 pm35 cd35 ct35 : Value}
    {f36 : Addr} {od36 an36 : Option Addr} {sl36 : Array (Option Value)} {oc36 kV36 dc36 pm36 cd36 ct36 : Value}
    {f37 : Addr} {od37 an37 : Option Addr} {sl37 : Array (Option Value)} {oc37 kV37 dc37 pm37 cd37 ct37 : Value}
    {f38 : Addr} {od38 an38 : Option Addr} {sl38 : Array (Option Value)} {oc38 kV38 dc38 pm38 cd38 ct38 : Value}
    {f39 : Addr} {od39 an39 : Option Addr} {sl39 : Array (Option Value)} {oc39 kV39 dc39 pm39 cd39 ct39 : Value}
    {f40 : Addr} {od40 an40 : Option Addr} {sl40 : Array (Option Value)} {oc40 kV40 dc40 pm40 cd40 ct40 : Value}
    {fM0 : Addr} {odM0 anM0 : Option Addr} {slM0 : Array (Option Value)} {ocM0 kVM0 dcM0 pmM0 cdM0 ctM0 : Value}
    {C T0 E0 : Addr} {ocT ocE : Value} {odT odE : Option Addr} {nT nE : Nat} {slT slE : Array (Option Value)} {u1 u2 : Value}
    {fI : Addr} {odI anI : Option Addr} {slI : Array (Option Value)} {ocI kVI dcI pmI cdI ctI : Value}
    {CE CS CZ1 CZ2 CN : Addr}
    {NLS fXS : Addr} {nmLS qLS : Str} {bsLS : List Value} {snLS : List Str} {subLS : List Value} {abLS : Bool} {colLS : Option Bool} {ddLS : Option Addr} {m0LS m1LS m2LS m3LS m5LS : Option Value} {odXS anXS : Option Addr} {slXS : Array (Option Value)} {ocXS kVXS dcXS pmXS cdXS ctXS : Value}
    {NLN fXN : Addr} {nmLN qLN : Str} {bsLN : List Value} {snLN : List Str} {subLN : List Value} {abLN : Bool} {colLN : Option Bool} {ddLN : Option Addr} {m0LN m1LN m2LN m3LN m5LN : Option Value} {odXN anXN : Option Addr} {slXN : Array (Option Value)} {ocXN kVXN dcXN pmXN cdXN ctXN : Value}
    (aC : PySem.W.nsIn K mainGlobals "House" = some (some (.ref C)))
    (a0 : PySem.W.nsIn K mainGlobals "is_whole" = some (some (.ref f0))) (l0 : K.lookup f0 = some ⟨oc0, od0, .func (PySem.W.fnOf "is_whole" "is_whole" (defArgs s_is_whole) (defBody s_is_whole) (defScope s_is_whole) .none kV0 dc0 pm0 an0 cd0 ct0), sl0⟩) (c0 : PySem.W.codeIn K cd0 "is_whole" = true) (k0 : PySem.W.keepIn K (.ref f0) = true)
    (a1 : PySem.W.nsIn K mainGlobals "is_whole_in" = some (some (.ref f1))) (l1 : K.lookup f1 = some ⟨oc1, od1, .func (PySem.W.fnOf "is_whole_in" "is_whole_in" (defArgs s_is_whole_in) (defBody s_is_whole_in) (defScope s_is_whole_in) .none kV1 dc1 pm1 an1 cd1 ct1), sl1⟩) (c1 : PySem.W.codeIn K cd1 "is_whole_in" = true) (k1 : PySem.W.keepIn K (.ref f1) = true)
    (a2 : PySem.W.nsIn K mainGlobals "check_count" = some (some (.ref f2))) (l2 : K.lookup f2 = some ⟨oc2, od2, .func (PySem.W.fnOf "check_count" "check_count" (defArgs s_check_count) (defBody s_check_count) (defScope s_check_count) .none kV2 dc2 pm2 an2 cd2 ct2), sl2⟩) (c2 : PySem.W.codeIn K cd2 "check_count" = true) (k2 : PySem.W.keepIn K (.ref f2) = true)
    (a3 : PySem.W.nsIn K mainGlobals "check_hues" = some (some (.ref f3))) (l3 : K.lookup f3 = some ⟨oc3, od3, .func (PySem.W.fnOf "check_hues" "check_hues" (defArgs s_check_hues) (defBody s_check_hues) (defScope s_check_hues) .none kV3 dc3 pm3 an3 cd3 ct3), sl3⟩) (c3 : PySem.W.codeIn K cd3 "check_hues" = true) (k3 : PySem.W.keepIn K (.ref f3) = true)
    (a4 : PySem.W.nsIn K mainGlobals "is_wire" = some (some (.ref f4))) (l4 : K.lookup f4 = some ⟨oc4, od4, .func (PySem.W.fnOf "is_wire" "is_wire" (defArgs s_is_wire) (defBody s_is_wire) (defScope s_is_wire) .none kV4 dc4 pm4 an4 cd4 ct4), sl4⟩) (c4 : PySem.W.codeIn K cd4 "is_wire" = true) (k4 : PySem.W.keepIn K (.ref f4) = true)
    (a5 : PySem.W.nsIn K mainGlobals "with_wire" = some (some (.ref f5))) (l5 : K.lookup f5 = some ⟨oc5, od5, .func (PySem.W.fnOf "with_wire" "with_wire" (defArgs s_with_wire) (defBody s_with_wire) (defScope s_with_wire) .none kV5 dc5 pm5 an5 cd5 ct5), sl5⟩) (c5 : PySem.W.codeIn K cd5 "with_wire" = true) (k5 : PySem.W.keepIn K (.ref f5) = true)
    (a6 : PySem.W.nsIn K mainGlobals "lamps_beneath" = some (some (.ref f6))) (l6 : K.lookup f6 = some ⟨oc6, od6, .func (PySem.W.fnOf "lamps_beneath" "lamps_beneath" (defArgs s_lamps_beneath) (defBody s_lamps_beneath) (defScope s_lamps_beneath) .none kV6 dc6 pm6 an6 cd6 ct6), sl6⟩) (c6 : PySem.W.codeIn K cd6 "lamps_beneath" = true) (k6 : PySem.W.keepIn K (.ref f6) = true)
    (a7 : PySem.W.nsIn K mainGlobals "is_next" = some (some (.ref f7))) (l7 : K.lookup f7 = some ⟨oc7, od7, .func (PySem.W.fnOf "is_next" "is_next" (defArgs s_is_next) (defBody s_is_next) (defScope s_is_next) .none kV7 dc7 pm7 an7 cd7 ct7), sl7⟩) (c7 : PySem.W.codeIn K cd7 "is_next" = true) (k7 : PySem.W.keepIn K (.ref f7) = true)
    (a8 : PySem.W.nsIn K mainGlobals "order_list" = some (some (.ref f8))) (l8 : K.lookup f8 = some ⟨oc8, od8, .func (PySem.W.fnOf "order_list" "order_list" (defArgs s_order_list) (defBody s_order_list) (defScope s_order_list) .none kV8 dc8 pm8 an8 cd8 ct8), sl8⟩) (c8 : PySem.W.codeIn K cd8 "order_list" = true) (k8 : PySem.W.keepIn K (.ref f8) = true)
    (a9 : PySem.W.nsIn K mainGlobals "is_state" = some (some (.ref f9))) (l9 : K.lookup f9 = some ⟨oc9, od9, .func (PySem.W.fnOf "is_state" "is_state" (defArgs s_is_state) (defBody s_is_state) (defScope s_is_state) .none kV9 dc9 pm9 an9 cd9 ct9), sl9⟩) (c9 : PySem.W.codeIn K cd9 "is_state" = true) (k9 : PySem.W.keepIn K (.ref f9) = true)
    (a10 : PySem.W.nsIn K mainGlobals "check_state" = some (some (.ref f10))) (l10 : K.lookup f10 = some ⟨oc10, od10, .func (PySem.W.fnOf "check_state" "check_state" (defArgs s_check_state) (defBody s_check_state) (defScope s_check_state) .none kV10 dc10 pm10 an10 cd10 ct10), sl10⟩) (c10 : PySem.W.codeIn K cd10 "check_state" = true) (k10 : PySem.W.keepIn K (.ref f10) = true)
    (a11 : PySem.W.nsIn K mainGlobals "power" = some (some (.ref f11))) (l11 : K.lookup f11 = some ⟨oc11, od11, .func (PySem.W.fnOf "power" "power" (defArgs s_power) (defBody s_power) (defScope s_power) .none kV11 dc11 pm11 an11 cd11 ct11), sl11⟩) (c11 : PySem.W.codeIn K cd11 "power" = true) (k11 : PySem.W.keepIn K (.ref f11) = true)
    (a12 : PySem.W.nsIn K mainGlobals "state_count" = some (some (.ref f12))) (l12 : K.lookup f12 = some ⟨oc12, od12, .func (PySem.W.fnOf "state_count" "state_count" (defArgs s_state_count) (defBody s_state_count) (defScope s_state_count) .none kV12 dc12 pm12 an12 cd12 ct12), sl12⟩) (c12 : PySem.W.codeIn K cd12 "state_count" = true) (k12 : PySem.W.keepIn K (.ref f12) = true)
    (a13 : PySem.W.nsIn K mainGlobals "dark_state" = some (some (.ref f13))) (l13 : K.lookup f13 = some ⟨oc13, od13, .func (PySem.W.fnOf "dark_state" "dark_state" (defArgs s_dark_state) (defBody s_dark_state) (defScope s_dark_state) .none kV13 dc13 pm13 an13 cd13 ct13), sl13⟩) (c13 : PySem.W.codeIn K cd13 "dark_state" = true) (k13 : PySem.W.keepIn K (.ref f13) = true)
    (a14 : PySem.W.nsIn K mainGlobals "bright_state" = some (some (.ref f14))) (l14 : K.lookup f14 = some ⟨oc14, od14, .func (PySem.W.fnOf "bright_state" "bright_state" (defArgs s_bright_state) (defBody s_bright_state) (defScope s_bright_state) .none kV14 dc14 pm14 an14 cd14 ct14), sl14⟩) (c14 : PySem.W.codeIn K cd14 "bright_state" = true) (k14 : PySem.W.keepIn K (.ref f14) = true)
    (a15 : PySem.W.nsIn K mainGlobals "mirror" = some (some (.ref f15))) (l15 : K.lookup f15 = some ⟨oc15, od15, .func (PySem.W.fnOf "mirror" "mirror" (defArgs s_mirror) (defBody s_mirror) (defScope s_mirror) .none kV15 dc15 pm15 an15 cd15 ct15), sl15⟩) (c15 : PySem.W.codeIn K cd15 "mirror" = true) (k15 : PySem.W.keepIn K (.ref f15) = true)
    (a16 : PySem.W.nsIn K mainGlobals "lit_lamps" = some (some (.ref f16))) (l16 : K.lookup f16 = some ⟨oc16, od16, .func (PySem.W.fnOf "lit_lamps" "lit_lamps" (defArgs s_lit_lamps) (defBody s_lit_lamps) (defScope s_lit_lamps) .none kV16 dc16 pm16 an16 cd16 ct16), sl16⟩) (c16 : PySem.W.codeIn K cd16 "lit_lamps" = true) (k16 : PySem.W.keepIn K (.ref f16) = true)
    (a17 : PySem.W.nsIn K mainGlobals "number_of" = some (some (.ref f17))) (l17 : K.lookup f17 = some ⟨oc17, od17, .func (PySem.W.fnOf "number_of" "number_of" (defArgs s_number_of) (defBody s_number_of) (defScope s_number_of) .none kV17 dc17 pm17 an17 cd17 ct17), sl17⟩) (c17 : PySem.W.codeIn K cd17 "number_of" = true) (k17 : PySem.W.keepIn K (.ref f17) = true)
    (a18 : PySem.W.nsIn K mainGlobals "state_of" = some (some (.ref f18))) (l18 : K.lookup f18 = some ⟨oc18, od18, .func (PySem.W.fnOf "state_of" "state_of" (defArgs s_state_of) (defBody s_state_of) (defScope s_state_of) .none kV18 dc18 pm18 an18 cd18 ct18), sl18⟩) (c18 : PySem.W.codeIn K cd18 "state_of" = true) (k18 : PySem.W.keepIn K (.ref f18) = true)
    (a19 : PySem.W.nsIn K mainGlobals "_law_box" = some (some (.ref f19))) (l19 : K.lookup f19 = some ⟨oc19, od19, .func (PySem.W.fnOf "_law_box" "_law_box" (defArgs s__law_box) (defBody s__law_box) (defScope s__law_box) .none kV19 dc19 pm19 an19 cd19 ct19), sl19⟩) (c19 : PySem.W.codeIn K cd19 "_law_box" = true) (k19 : PySem.W.keepIn K (.ref f19) = true)
    (a20 : PySem.W.nsIn K mainGlobals "_law_take" = some (some (.ref f20))) (l20 : K.lookup f20 = some ⟨oc20, od20, .func (PySem.W.fnOf "_law_take" "_law_take" (defArgs s__law_take) (defBody s__law_take) (defScope s__law_take) .none kV20 dc20 pm20 an20 cd20 ct20), sl20⟩) (c20 : PySem.W.codeIn K cd20 "_law_take" = true) (k20 : PySem.W.keepIn K (.ref f20) = true)
    (a21 : PySem.W.nsIn K mainGlobals "_law_sizes" = some (some (.ref f21))) (l21 : K.lookup f21 = some ⟨oc21, od21, .func (PySem.W.fnOf "_law_sizes" "_law_sizes" (defArgs s__law_sizes) (defBody s__law_sizes) (defScope s__law_sizes) .none kV21 dc21 pm21 an21 cd21 ct21), sl21⟩) (c21 : PySem.W.codeIn K cd21 "_law_sizes" = true) (k21 : PySem.W.keepIn K (.ref f21) = true)
    (a22 : PySem.W.nsIn K mainGlobals "_law_row" = some (some (.ref f22))) (l22 : K.lookup f22 = some ⟨oc22, od22, .func (PySem.W.fnOf "_law_row" "_law_row" (defArgs s__law_row) (defBody s__law_row) (defScope s__law_row) .none kV22 dc22 pm22 an22 cd22 ct22), sl22⟩) (c22 : PySem.W.codeIn K cd22 "_law_row" = true) (k22 : PySem.W.keepIn K (.ref f22) = true)
    (a23 : PySem.W.nsIn K mainGlobals "_law_wires" = some (some (.ref f23))) (l23 : K.lookup f23 = some ⟨oc23, od23, .func (PySem.W.fnOf "_law_wires" "_law_wires" (defArgs s__law_wires) (defBody s__law_wires) (defScope s__law_wires) .none kV23 dc23 pm23 an23 cd23 ct23), sl23⟩) (c23 : PySem.W.codeIn K cd23 "_law_wires" = true) (k23 : PySem.W.keepIn K (.ref f23) = true)
    (a24 : PySem.W.nsIn K mainGlobals "_law_number" = some (some (.ref f24))) (l24 : K.lookup f24 = some ⟨oc24, od24, .func (PySem.W.fnOf "_law_number" "_law_number" (defArgs s__law_number) (defBody s__law_number) (defScope s__law_number) .none kV24 dc24 pm24 an24 cd24 ct24), sl24⟩) (c24 : PySem.W.codeIn K cd24 "_law_number" = true) (k24 : PySem.W.keepIn K (.ref f24) = true)
    (a25 : PySem.W.nsIn K mainGlobals "_law_list" = some (some (.ref f25))) (l25 : K.lookup f25 = some ⟨oc25, od25, .func (PySem.W.fnOf "_law_list" "_law_list" (defArgs s__law_list) (defBody s__law_list) (defScope s__law_list) .none kV25 dc25 pm25 an25 cd25 ct25), sl25⟩) (c25 : PySem.W.codeIn K cd25 "_law_list" = true) (k25 : PySem.W.keepIn K (.ref f25) = true)
    (a26 : PySem.W.nsIn K mainGlobals "_law_under" = some (some (.ref f26))) (l26 : K.lookup f26 = some ⟨oc26, od26, .func (PySem.W.fnOf "_law_under" "_law_under" (defArgs s__law_under) (defBody s__law_under) (defScope s__law_under) .none kV26 dc26 pm26 an26 cd26 ct26), sl26⟩) (c26 : PySem.W.codeIn K cd26 "_law_under" = true) (k26 : PySem.W.keepIn K (.ref f26) = true)
    (a27 : PySem.W.nsIn K mainGlobals "_law_due_order" = some (some (.ref f27))) (l27 : K.lookup f27 = some ⟨oc27, od27, .func (PySem.W.fnOf "_law_due_order" "_law_due_order" (defArgs s__law_due_order) (defBody s__law_due_order) (defScope s__law_due_order) .none kV27 dc27 pm27 an27 cd27 ct27), sl27⟩) (c27 : PySem.W.codeIn K cd27 "_law_due_order" = true) (k27 : PySem.W.keepIn K (.ref f27) = true)
    (a28 : PySem.W.nsIn K mainGlobals "_law_same_state" = some (some (.ref f28))) (l28 : K.lookup f28 = some ⟨oc28, od28, .func (PySem.W.fnOf "_law_same_state" "_law_same_state" (defArgs s__law_same_state) (defBody s__law_same_state) (defScope s__law_same_state) .none kV28 dc28 pm28 an28 cd28 ct28), sl28⟩) (c28 : PySem.W.codeIn K cd28 "_law_same_state" = true) (k28 : PySem.W.keepIn K (.ref f28) = true)
    (a29 : PySem.W.nsIn K mainGlobals "_law_due_number" = some (some (.ref f29))) (l29 : K.lookup f29 = some ⟨oc29, od29, .func (PySem.W.fnOf "_law_due_number" "_law_due_number" (defArgs s__law_due_number) (defBody s__law_due_number) (defScope s__law_due_number) .none kV29 dc29 pm29 an29 cd29 ct29), sl29⟩) (c29 : PySem.W.codeIn K cd29 "_law_due_number" = true) (k29 : PySem.W.keepIn K (.ref f29) = true)
    (a30 : PySem.W.nsIn K mainGlobals "_law_due_state" = some (some (.ref f30))) (l30 : K.lookup f30 = some ⟨oc30, od30, .func (PySem.W.fnOf "_law_due_state" "_law_due_state" (defArgs s__law_due_state) (defBody s__law_due_state) (defScope s__law_due_state) .none kV30 dc30 pm30 an30 cd30 ct30), sl30⟩) (c30 : PySem.W.codeIn K cd30 "_law_due_state" = true) (k30 : PySem.W.keepIn K (.ref f30) = true)
    (a31 : PySem.W.nsIn K mainGlobals "_law_one_right" = some (some (.ref f31))) (l31 : K.lookup f31 = some ⟨oc31, od31, .func (PySem.W.fnOf "_law_one_right" "_law_one_right" (defArgs s__law_one_right) (defBody s__law_one_right) (defScope s__law_one_right) .none kV31 dc31 pm31 an31 cd31 ct31), sl31⟩) (c31 : PySem.W.codeIn K cd31 "_law_one_right" = true) (k31 : PySem.W.keepIn K (.ref f31) = true)
    (a32 : PySem.W.nsIn K mainGlobals "_law_ends_right" = some (some (.ref f32))) (l32 : K.lookup f32 = some ⟨oc32, od32, .func (PySem.W.fnOf "_law_ends_right" "_law_ends_right" (defArgs s__law_ends_right) (defBody s__law_ends_right) (defScope s__law_ends_right) .none kV32 dc32 pm32 an32 cd32 ct32), sl32⟩) (c32 : PySem.W.codeIn K cd32 "_law_ends_right" = true) (k32 : PySem.W.keepIn K (.ref f32) = true)
    (a33 : PySem.W.nsIn K mainGlobals "_law_near_right" = some (some (.ref f33))) (l33 : K.lookup f33 = some ⟨oc33, od33, .func (PySem.W.fnOf "_law_near_right" "_law_near_right" (defArgs s__law_near_right) (defBody s__law_near_right) (defScope s__law_near_right) .none kV33 dc33 pm33 an33 cd33 ct33), sl33⟩) (c33 : PySem.W.codeIn K cd33 "_law_near_right" = true) (k33 : PySem.W.keepIn K (.ref f33) = true)
    (a34 : PySem.W.nsIn K mainGlobals "_law_moves_right" = some (some (.ref f34))) (l34 : K.lookup f34 = some ⟨oc34, od34, .func (PySem.W.fnOf "_law_moves_right" "_law_moves_right" (defArgs s__law_moves_right) (defBody s__law_moves_right) (defScope s__law_moves_right) .none kV34 dc34 pm34 an34 cd34 ct34), sl34⟩) (c34 : PySem.W.codeIn K cd34 "_law_moves_right" = true) (k34 : PySem.W.keepIn K (.ref f34) = true)
    (a35 : PySem.W.nsIn K mainGlobals "_law_odd_number" = some (some (.ref f35))) (l35 : K.lookup f35 = some ⟨oc35, od35, .func (PySem.W.fnOf "_law_odd_number" "_law_odd_number" (defArgs s__law_odd_number) (defBody s__law_odd_number) (defScope s__law_odd_number) .none kV35 dc35 pm35 an35 cd35 ct35), sl35⟩) (c35 : PySem.W.codeIn K cd35 "_law_odd_number" = true) (k35 : PySem.W.keepIn K (.ref f35) = true)
    (a36 : PySem.W.nsIn K mainGlobals "_law_odd_state" = some (some (.ref f36))) (l36 : K.lookup f36 = some ⟨oc36, od36, .func (PySem.W.fnOf "_law_odd_state" "_law_odd_state" (defArgs s__law_odd_state) (defBody s__law_odd_state) (defScope s__law_odd_state) .none kV36 dc36 pm36 an36 cd36 ct36), sl36⟩) (c36 : PySem.W.codeIn K cd36 "_law_odd_state" = true) (k36 : PySem.W.keepIn K (.ref f36) = true)
    (a37 : PySem.W.nsIn K mainGlobals "_law_call" = some (some (.ref f37))) (l37 : K.lookup f37 = some ⟨oc37, od37, .func (PySem.W.fnOf "_law_call" "_law_call" (defArgs s__law_call) (defBody s__law_call) (defScope s__law_call) .none kV37 dc37 pm37 an37 cd37 ct37), sl37⟩) (c37 : PySem.W.codeIn K cd37 "_law_call" = true) (k37 : PySem.W.keepIn K (.ref f37) = true)
    (a38 : PySem.W.nsIn K mainGlobals "_law_state_refused" = some (some (.ref f38))) (l38 : K.lookup f38 = some ⟨oc38, od38, .func (PySem.W.fnOf "_law_state_refused" "_law_state_refused" (defArgs s__law_state_refused) (defBody s__law_state_refused) (defScope s__law_state_refused) .none kV38 dc38 pm38 an38 cd38 ct38), sl38⟩) (c38 : PySem.W.codeIn K cd38 "_law_state_refused" = true) (k38 : PySem.W.keepIn K (.ref f38) = true)
    (a39 : PySem.W.nsIn K mainGlobals "_law_number_refused" = some (some (.ref f39))) (l39 : K.lookup f39 = some ⟨oc39, od39, .func (PySem.W.fnOf "_law_number_refused" "_law_number_refused" (defArgs s__law_number_refused) (defBody s__law_number_refused) (defScope s__law_number_refused) .none kV39 dc39 pm39 an39 cd39 ct39), sl39⟩) (c39 : PySem.W.codeIn K cd39 "_law_number_refused" = true) (k39 : PySem.W.keepIn K (.ref f39) = true)
    (a40 : PySem.W.nsIn K mainGlobals "law" = some (some (.ref f40))) (l40 : K.lookup f40 = some ⟨oc40, od40, .func (PySem.W.fnOf "law" "law" (defArgs s_law) (defBody s_law) (defScope s_law) .none kV40 dc40 pm40 an40 cd40 ct40), sl40⟩) (c40 : PySem.W.codeIn K cd40 "law" = true) (k40 : PySem.W.keepIn K (.ref f40) = true)
    (aM0 : PySem.W.findIn K (.ref C) "order" = some (some (.ref fM0))) (iM0 : PySem.W.isFn K (.ref fM0) = true) (lM0 : K.lookup fM0 = some ⟨ocM0, odM0, .func (PySem.W.fnOf "order" "House.order" (defArgs s_House_order) (defBody s_House_order) (defScope s_House_order) .none kVM0 dcM0 pmM0 anM0 cdM0 ctM0), slM0⟩) (cM0 : PySem.W.codeIn K cdM0 "House.order" = true) (kM0 : PySem.W.keepIn K (.ref fM0) = true)
    (aI : PySem.W.findIn K (.ref C) "__init__" = some (some (.ref fI))) (iI : PySem.W.isFn K (.ref fI) = true) (lI : K.lookup fI = some ⟨ocI, odI, .func (PySem.W.fnOf "__init__" "House.__init__" (defArgs s_House___init__) (defBody s_House___init__) (defScope s_House___init__) (.ref T0) kVI dcI pmI anI cdI ctI), slI⟩) (cI : PySem.W.codeIn K cdI "House.__init__" = true) (kI : PySem.W.keepIn K (.ref fI) = true)
    (lT : K.lookup T0 = some ⟨ocT, odT, .seq #[.ref E0] nT, slT⟩) (lE : K.lookup E0 = some ⟨ocE, odE, .seq #[] nE, slE⟩) (eE : ocE = .type "tuple")
    (pg : PySem.W.plainGet K C Str.empty = true) (hd : PySem.W.hasDictIn K C = true) (po : PySem.W.plainOver K C = true) (sa : PySem.W.findIn K (.ref C) "__setattr__" = some (some (.builtin "object.__setattr__"))) (mk : PySem.W.makesIn K C = true) (kc : PySem.W.keepIn K (.ref C) = true)
    (nCount : PySem.W.findIn K (.ref C) "count" = some none)
    (nHues : PySem.W.findIn K (.ref C) "hues" = some none)
    (nBen : PySem.W.findIn K (.ref C) "_beneath" = some none)
    (nWires : PySem.W.findIn K (.ref C) "wires" = some none)
    (nAbove : PySem.W.findIn K (.ref C) "_above" = some none)
    (nDirect : PySem.W.findIn K (.ref C) "_direct" = some none)
    (nOrder : PySem.W.findIn K (.ref C) "_order" = some none)
    (rd : PySem.W.readsIn K C (.type "type") = true) (ga : PySem.W.specialIn K (.ref C) "__getattribute__" = some (some (.builtin "type.__getattribute__"))) (v1 : PySem.W.findCls K (.ref C) (.type "type") "MOST_LAMPS" = some (.val u1)) (r1 : ∃ t, u1 = .int 16 t) (v2 : PySem.W.findCls K (.ref C) (.type "type") "MOST_HUES" = some (.val u2)) (r2 : ∃ t, u2 = .int 10 t)
    (b_len : PySem.W.nsIn K mainGlobals "len" = some none)
    (b_range : PySem.W.nsIn K mainGlobals "range" = some none)
    (b_isinstance : PySem.W.nsIn K mainGlobals "isinstance" = some none)
    (b_int : PySem.W.nsIn K mainGlobals "int" = some none)
    (b_bool : PySem.W.nsIn K mainGlobals "bool" = some none)
    (b_tuple : PySem.W.nsIn K mainGlobals "tuple" = some none)
    (b_list : PySem.W.nsIn K mainGlobals "list" = some none)
    (b_set : PySem.W.nsIn K mainGlobals "set" = some none)
    (b_enumerate : PySem.W.nsIn K mainGlobals "enumerate" = some none)
    (b_sorted : PySem.W.nsIn K mainGlobals "sorted" = some none)
    (b_min : PySem.W.nsIn K mainGlobals "min" = some none)
    (b_all : PySem.W.nsIn K mainGlobals "all" = some none)
    (b_abs : PySem.W.nsIn K mainGlobals "abs" = some none)
    (b_reversed : PySem.W.nsIn K mainGlobals "reversed" = some none)
    (b_max : PySem.W.nsIn K mainGlobals "max" = some none)
    (b_str : PySem.W.nsIn K mainGlobals "str" = some none)
    (b_repr : PySem.W.nsIn K mainGlobals "repr" = some none)
    (xaE : PySem.W.nsIn K mainGlobals "HuefallError" = some (some (.ref CE))) (xeE : PySem.W.subIn K (.ref CE) (.type "BaseException") = some true) (xiE : PySem.W.isClsIn K CE = true) (xtE : PySem.W.typeIn K (.ref CE) = some (.type "type")) (xa_CS : PySem.W.nsIn K mainGlobals "InvalidState" = some (some (.ref CS))) (xi_CS : PySem.W.isClsIn K CS = true) (xt_CS : PySem.W.typeIn K (.ref CS) = some (.type "type")) (xa_CZ1 : PySem.W.nsIn K mainGlobals "InvalidHouse" = some (some (.ref CZ1))) (xi_CZ1 : PySem.W.isClsIn K CZ1 = true) (xt_CZ1 : PySem.W.typeIn K (.ref CZ1) = some (.type "type")) (xa_CZ2 : PySem.W.nsIn K mainGlobals "InvalidLamp" = some (some (.ref CZ2))) (xi_CZ2 : PySem.W.isClsIn K CZ2 = true) (xt_CZ2 : PySem.W.typeIn K (.ref CZ2) = some (.type "type")) (xa_CN : PySem.W.nsIn K mainGlobals "InvalidNumber" = some (some (.ref CN))) (xi_CN : PySem.W.isClsIn K CN = true) (xt_CN : PySem.W.typeIn K (.ref CN) = some (.type "type")) (xlS : K.lookup CS = some (excClassObj nmLS qLS CS NLS bsLS [.ref CE, .type "ValueError", .type "Exception", .type "BaseException", .type "object"] true snLS subLS abLS colLS ddLS m0LS m1LS m2LS m3LS m5LS "ValueError.__new__")) (xsaS : PySem.W.findIn K (.ref CS) "__setattr__" = some (some (.builtin "object.__setattr__"))) (xgaS : PySem.W.findIn K (.ref CS) "__getattribute__" = some (some (.builtin "BaseException.__getattribute__"))) (xggS : PySem.W.findIn K (.ref CS) "__getattr__" = some none) (xcaS : PySem.W.findIn K (.ref CS) "__class__" = some (some (.builtin "object.__class__"))) (xnlS : PySem.W.findIn K (.ref CS) "state" = some none) (xinS : PySem.W.findIn K (.ref CS) "__init__" = some (some (.ref fXS))) (xtyS : PySem.W.typeIn K (.ref fXS) = some (.type "function")) (xlxS : K.lookup fXS = some ⟨ocXS, odXS, .func (PySem.W.fnOf "__init__" "InvalidState.__init__" (defArgs s_InvalidState___init__) (defBody s_InvalidState___init__) (defScope s_InvalidState___init__) .none kVXS dcXS pmXS anXS cdXS ctXS), slXS⟩) (xcxS : PySem.W.codeIn K cdXS "InvalidState.__init__" = true) (xkxS : PySem.W.keepIn K (.ref fXS) = true) (xkcS : PySem.W.keepIn K (.ref CS) = true) (xebS : PySem.W.subIn K (.ref CS) (.type "BaseException") = some true) (xhdS : PySem.W.hasDictIn K CS = true) (xmrS : PySem.W.mroIn K CS (.type "object") = some true) (xssS : PySem.W.subIn K (.ref CS) (.ref CS) = some true) (xseS : PySem.W.subIn K (.ref CS) (.ref CE) = some true) (xsS0 : PySem.W.subIn K (.ref CS) (.ref CZ1) = some false) (xsS1 : PySem.W.subIn K (.ref CS) (.ref CZ2) = some false) (xsS2 : PySem.W.subIn K (.ref CS) (.ref CN) = some false) (xlN : K.lookup CN = some (excClassObj nmLN qLN CN NLN bsLN [.ref CE, .type "ValueError", .type "Exception", .type "BaseException", .type "object"] true snLN subLN abLN colLN ddLN m0LN m1LN m2LN m3LN m5LN "ValueError.__new__")) (xsaN : PySem.W.findIn K (.ref CN) "__setattr__" = some (some (.builtin "object.__setattr__"))) (xgaN : PySem.W.findIn K (.ref CN) "__getattribute__" = some (some (.builtin "BaseException.__getattribute__"))) (xggN : PySem.W.findIn K (.ref CN) "__getattr__" = some none) (xcaN : PySem.W.findIn K (.ref CN) "__class__" = some (some (.builtin "object.__class__"))) (xnlN : PySem.W.findIn K (.ref CN) "number" = some none) (xinN : PySem.W.findIn K (.ref CN) "__init__" = some (some (.ref fXN))) (xtyN : PySem.W.typeIn K (.ref fXN) = some (.type "function")) (xlxN : K.lookup fXN = some ⟨ocXN, odXN, .func (PySem.W.fnOf "__init__" "InvalidNumber.__init__" (defArgs s_InvalidNumber___init__) (defBody s_InvalidNumber___init__) (defScope s_InvalidNumber___init__) .none kVXN dcXN pmXN anXN cdXN ctXN), slXN⟩) (xcxN : PySem.W.codeIn K cdXN "InvalidNumber.__init__" = true) (xkxN : PySem.W.keepIn K (.ref fXN) = true) (xkcN : PySem.W.keepIn K (.ref CN) = true) (xebN : PySem.W.subIn K (.ref CN) (.type "BaseException") = some true) (xhdN : PySem.W.hasDictIn K CN = true) (xmrN : PySem.W.mroIn K CN (.type "object") = some true) (xssN : PySem.W.subIn K (.ref CN) (.ref CN) = some true) (xseN : PySem.W.subIn K (.ref CN) (.ref CE) = some true) (xsN0 : PySem.W.subIn K (.ref CN) (.ref CZ1) = some false) (xsN1 : PySem.W.subIn K (.ref CN) (.ref CZ2) = some false) (xsN2 : PySem.W.subIn K (.ref CN) (.ref CS) = some false) (xgs : PySem.W.specialIn K (.builtin "object.__class__") "__get__" = some (some (.builtin "getset_descriptor.__get__"))) (xtk : PySem.W.takesIn K (.builtin "object.__class__") = some true)
    : ∃ fd : FuncData, (∀ (s : Shared) (v : Value), BindsTo s fd ⟨[v], []⟩ [("script", v)]) ∧ ∀ base : Heap, K.In base → base.Ns mainGlobals mg → GOk l.prog w K mg base CX0 8 fa fd ["script"] (spLaw K) := by
  have e := hfa.symm.trans (PySem.W.mg_of X G a40)
  cases e
  have T : Txt K mg C := { cl := ⟨pg, hd, po, sa⟩, nCount := nCount, nHues := nHues, nBen := nBen, nWires := nWires, nAbove := nAbove, nDirect := nDirect, nOrder := nOrder, mgC := PySem.W.mg_of X G aC, con := ⟨.type "type", ⟨rd, ga⟩, ⟨u1, v1, r1⟩, ⟨u2, v2, r2⟩⟩, len := PySem.W.mg_none_of X G b_len, range := PySem.W.mg_none_of X G b_range, isinstance := PySem.W.mg_none_of X G b_isinstance, int := PySem.W.mg_none_of X G b_int, bool := PySem.W.mg_none_of X G b_bool, tuple := PySem.W.mg_none_of X G b_tuple, list := PySem.W.mg_none_of X G b_list, set := PySem.W.mg_none_of X G b_set, enumerate := PySem.W.mg_none_of X G b_enumerate, sorted := PySem.W.mg_none_of X G b_sorted, min := PySem.W.mg_none_of X G b_min, all := PySem.W.mg_none_of X G b_all, abs := PySem.W.mg_none_of X G b_abs, reversed := PySem.W.mg_none_of X G b_reversed, max := PySem.W.mg_none_of X G b_max, str := PySem.W.mg_none_of X G b_str, repr := PySem.W.mg_none_of X G b_repr }
  refine ⟨PySem.W.fnOf "law" "law" (defArgs s_law) (defBody s_law) (defScope s_law) .none kV40 dc40 pm40 an40 cd40 ct40, fun s v => .of_eq rfl, fun base _ _ => ?_⟩
  have XCS : XCls K CS := ⟨⟨⟨_, _, _, _, _, _, _, _, _, _, _, _, _, _, _, xlS, by rfl⟩, xsaS, xebS, xt_CS, xkcS⟩, ⟨xgaS, xggS, xebS, xhdS⟩, xcaS, xmrS⟩
  have TES : TxE K mg "InvalidState" "state" "InvalidHouse" "InvalidLamp" "InvalidNumber" CS CE CZ1 CZ2 CN := ⟨PySem.W.mg_of X G xaE, PySem.W.mg_of X G xa_CS, PySem.W.mg_of X G xa_CZ1, PySem.W.mg_of X G xa_CZ2, PySem.W.mg_of X G xa_CN, XCS, ⟨xgs, xtk⟩, exm_of xeE xiE xtE xseS, kit_self, kit_no3 (kit_no xi_CZ1 xt_CZ1 xsS0 xssS) (kit_no xi_CZ2 xt_CZ2 xsS1 xssS) (kit_no xi_CN xt_CN xsS2 xssS), xnlS⟩
  have F_xS : Fun K "__init__" "InvalidState.__init__" s_InvalidState___init__ fXS _ := fun_mk (st := s_InvalidState___init__) xlxS xcxS xkxS
  have M_state : XMk l.prog w K mg base CS "InvalidState" "state" := ⟨⟨_, _, _, ok_InvalidState F_xS, F_xS.binds fun _ _ _ _ _ _ us hl => match us, hl with | [_, _], _ => rfl, xinS, xtyS⟩, PySem.W.mg_of X G xa_CS, XCS, xnlS⟩
  have XCN : XCls K CN := ⟨⟨⟨_, _, _, _, _, _, _, _, _, _, _, _, _, _, _, xlN, by rfl⟩, xsaN, xebN, xt_CN, xkcN⟩, ⟨xgaN, xggN, xebN, xhdN⟩, xcaN, xmrN⟩
  have TEN : TxE K mg "InvalidNumber" "number" "InvalidHouse" "InvalidLamp" "InvalidState" CN CE CZ1 CZ2 CS := ⟨PySem.W.mg_of X G xaE, PySem.W.mg_of X G xa_CN, PySem.W.mg_of X G xa_CZ1, PySem.W.mg_of X G xa_CZ2, PySem.W.mg_of X G xa_CS, XCN, ⟨xgs, xtk⟩, exm_of xeE xiE xtE xseN, kit_self, kit_no3 (kit_no xi_CZ1 xt_CZ1 xsN0 xssN) (kit_no xi_CZ2 xt_CZ2 xsN1 xssN) (kit_no xi_CS xt_CS xsN2 xssN), xnlN⟩
  have F_xN : Fun K "__init__" "InvalidNumber.__init__" s_InvalidNumber___init__ fXN _ := fun_mk (st := s_InvalidNumber___init__) xlxN xcxN xkxN
  have M_number : XMk l.prog w K mg base CN "InvalidNumber" "number" := ⟨⟨_, _, _, ok_InvalidNumber F_xN, F_xN.binds fun _ _ _ _ _ _ us hl => match us, hl with | [_, _], _ => rfl, xinN, xtyN⟩, PySem.W.mg_of X G xa_CN, XCN, xnlN⟩
  have F_is_whole := fun_mk (st := s_is_whole) l0 c0 k0
  have c_is_whole : Cal l.prog w K mg base "is_whole" 1 spWholeV := ⟨⟨_, _, _, ok_is_whole T F_is_whole, PySem.W.mg_of X G a0, k0, F_is_whole.binds fun _ _ _ _ _ _ us hl => match us, hl with | [_], _ => rfl⟩⟩
  have F_is_whole_in := fun_mk (st := s_is_whole_in) l1 c1 k1
  have c_is_whole_in : Cal l.prog w K mg base "is_whole_in" 2 spWholeInV := ⟨⟨_, _, _, ok_is_whole_in T F_is_whole_in c_is_whole, PySem.W.mg_of X G a1, k1, F_is_whole_in.binds fun _ _ _ _ _ _ us hl => match us, hl with | [_, _, _], _ => rfl⟩⟩
  have c_int : Cal l.prog w K mg base "is_whole_in" 2 spWholeIn := c_is_whole_in.imp whole_in_int
  have F_check_count := fun_mk (st := s_check_count) l2 c2 k2
  have c_check_count : Cal l.prog w K mg base "check_count" 3 spCheckCount := ⟨⟨_, _, _, ok_check_count T F_check_count c_int, PySem.W.mg_of X G a2, k2, F_check_count.binds fun _ _ _ _ _ _ us hl => match us, hl with | [_], _ => rfl⟩⟩
  have F_check_hues := fun_mk (st := s_check_hues) l3 c3 k3
  have c_check_hues : Cal l.prog w K mg base "check_hues" 3 spCheckHues := ⟨⟨_, _, _, ok_check_hues T F_check_hues c_int, PySem.W.mg_of X G a3, k3, F_check_hues.binds fun _ _ _ _ _ _ us hl => match us, hl with | [_], _ => rfl⟩⟩
  have F_is_wire := fun_mk (st := s_is_wire) l4 c4 k4
  have c_is_wire : Cal l.prog w K mg base "is_wire" 3 spIsWire := ⟨⟨_, _, _, ok_is_wire T F_is_wire c_int, PySem.W.mg_of X G a4, k4, F_is_wire.binds fun _ _ _ _ _ _ us hl => match us, hl with | [_, _], _ => rfl⟩⟩
  have F_with_wire := fun_mk (st := s_with_wire) l5 c5 k5
  have c_with_wire : Cal l.prog w K mg base "with_wire" 1 spWithWire := ⟨⟨_, _, _, ok_with_wire T F_with_wire, PySem.W.mg_of X G a5, k5, F_with_wire.binds fun _ _ _ _ _ _ us hl => match us, hl with | [_, _, _], _ => rfl⟩⟩
  have F_lamps_beneath := fun_mk (st := s_lamps_beneath) l6 c6 k6
  have c_lamps_beneath : Cal l.prog w K mg base "lamps_beneath" 4 (spLampsBeneath K) := ⟨⟨_, _, _, ok_lamps_beneath T F_lamps_beneath c_is_wire c_with_wire, PySem.W.mg_of X G a6, k6, F_lamps_beneath.binds fun _ _ _ _ _ _ us hl => match us, hl with | [_, _], _ => rfl⟩⟩
  have F_is_next := fun_mk (st := s_is_next) l7 c7 k7
  have c_is_next : Cal l.prog w K mg base "is_next" 1 spIsNext := ⟨⟨_, _, _, ok_is_next T F_is_next, PySem.W.mg_of X G a7, k7, F_is_next.binds fun _ _ _ _ _ _ us hl => match us, hl with | [_, _, _], _ => rfl⟩⟩
  have F_order_list := fun_mk (st := s_order_list) l8 c8 k8
  have c_order_list : Cal l.prog w K mg base "order_list" 2 spOrderList := ⟨⟨_, _, _, ok_order_list T F_order_list c_is_next, PySem.W.mg_of X G a8, k8, F_order_list.binds fun _ _ _ _ _ _ us hl => match us, hl with | [_], _ => rfl⟩⟩
  have F_is_state := fun_mk (st := s_is_state) l9 c9 k9
  have c_is_state : Cal l.prog w K mg base "is_state" 3 (spIsStateV C) := ⟨⟨_, _, _, ok_is_state T F_is_state c_is_whole_in, PySem.W.mg_of X G a9, k9, F_is_state.binds fun _ _ _ _ _ _ us hl => match us, hl with | [_, _], _ => rfl⟩⟩
  have F_check_state := fun_mk (st := s_check_state) l10 c10 k10
  have c_check_state : CalX l.prog w K mg base "check_state" 4 (spCheckStateX C CS) := ⟨⟨_, _, _, ok_check_state T M_state F_check_state c_is_state, PySem.W.mg_of X G a10, k10, F_check_state.binds fun _ _ _ _ _ _ us hl => match us, hl with | [_, _], _ => rfl⟩⟩
  have F_power := fun_mk (st := s_power) l11 c11 k11
  have c_power : Cal l.prog w K mg base "power" 1 spPower := ⟨⟨_, _, _, ok_power T F_power, PySem.W.mg_of X G a11, k11, F_power.binds fun _ _ _ _ _ _ us hl => match us, hl with | [_, _], _ => rfl⟩⟩
  have F_state_count := fun_mk (st := s_state_count) l12 c12 k12
  have c_state_count : Cal l.prog w K mg base "state_count" 2 (spStateCount C) := ⟨⟨_, _, _, ok_state_count T F_state_count c_power, PySem.W.mg_of X G a12, k12, F_state_count.binds fun _ _ _ _ _ _ us hl => match us, hl with | [_], _ => rfl⟩⟩
  have F_dark_state := fun_mk (st := s_dark_state) l13 c13 k13
  have c_dark_state : Cal l.prog w K mg base "dark_state" 1 (spAll C fun _ => 0) := ⟨⟨_, _, _, ok_dark_state T F_dark_state, PySem.W.mg_of X G a13, k13, F_dark_state.binds fun _ _ _ _ _ _ us hl => match us, hl with | [_], _ => rfl⟩⟩
  have F_bright_state := fun_mk (st := s_bright_state) l14 c14 k14
  have c_bright_state : Cal l.prog w K mg base "bright_state" 1 (spAll C fun h => (h : Int) - 1) := ⟨⟨_, _, _, ok_bright_state T F_bright_state, PySem.W.mg_of X G a14, k14, F_bright_state.binds fun _ _ _ _ _ _ us hl => match us, hl with | [_], _ => rfl⟩⟩
  have F_mirror := fun_mk (st := s_mirror) l15 c15 k15
  have x_mirror : CalX l.prog w K mg base "mirror" 5 (spMirrorX C CS) := ⟨⟨_, _, _, ok_mirror T F_mirror c_check_state, PySem.W.mg_of X G a15, k15, F_mirror.binds fun _ _ _ _ _ _ us hl => match us, hl with | [_, _], _ => rfl⟩⟩
  have c_mirror : Cal l.prog w K mg base "mirror" 5 (spMirrorS C) := x_mirror.calm fun vs H Q E h => mirror_st vs H Q E h
  have F_lit_lamps := fun_mk (st := s_lit_lamps) l16 c16 k16
  have x_lit_lamps : CalX l.prog w K mg base "lit_lamps" 5 (spLitX C CS) := ⟨⟨_, _, _, ok_lit_lamps T F_lit_lamps c_check_state, PySem.W.mg_of X G a16, k16, F_lit_lamps.binds fun _ _ _ _ _ _ us hl => match us, hl with | [_, _], _ => rfl⟩⟩
  have c_lit_lamps : Cal l.prog w K mg base "lit_lamps" 5 (spLitS C) := x_lit_lamps.calm fun vs H Q E h => lit_st vs H Q E h
  have F_order := fun_mk (st := s_House_order) lM0 cM0 kM0
  have M_order : MCal l.prog w K mg base C "order" 1 (spOrder C) := ⟨⟨_, _, _, ok_order T F_order, ⟨aM0, iM0, kM0⟩, F_order.binds fun _ _ _ _ _ _ us hl => match us, hl with | [_], _ => rfl⟩⟩
  have F_number_of := fun_mk (st := s_number_of) l17 c17 k17
  have x_number_of : CalX l.prog w K mg base "number_of" 5 (spNumberX C CS) := ⟨⟨_, _, _, ok_number_of T F_number_of c_check_state M_order, PySem.W.mg_of X G a17, k17, F_number_of.binds fun _ _ _ _ _ _ us hl => match us, hl with | [_, _], _ => rfl⟩⟩
  have c_number_of : Cal l.prog w K mg base "number_of" 5 (spNumberS C) := x_number_of.calm fun vs H Q E h => number_st vs H Q E h
  have F_state_of := fun_mk (st := s_state_of) l18 c18 k18
  have x_state_of : CalX l.prog w K mg base "state_of" 4 (spStateOfX C CN) := ⟨⟨_, _, _, ok_state_of T M_number F_state_of c_is_whole_in c_state_count M_order, PySem.W.mg_of X G a18, k18, F_state_of.binds fun _ _ _ _ _ _ us hl => match us, hl with | [_, _], _ => rfl⟩⟩
  have c_state_of : Cal l.prog w K mg base "state_of" 4 (spStateOfS C) := x_state_of.calm fun vs H Q E h => state_of_st vs H Q E h
  have F_init : FunV K "__init__" "House.__init__" s_House___init__ fI _ := ⟨⟨_, _, _, _, _, _, _, _, _, _, rfl, lI, cI⟩, kI⟩
  have i_ok := ok_init T F_init c_check_count c_check_hues c_lamps_beneath c_order_list
  have c_House : NCal l.prog w K mg base C "House" 5 (spInit K C) := ⟨⟨_, _, _, i_ok, ⟨mk, aI, iI, kc⟩, binds_init (E := 0) lT⟩, PySem.W.mg_of X G aC⟩
  have c_HouseO : NCal l.prog w K mg base C "House" 5 (Off (spInit K C)) := ⟨⟨_, _, _, i_ok.off, ⟨mk, aI, iI, kc⟩, binds_init (E := 0) lT⟩, PySem.W.mg_of X G aC⟩
  have F__law_box := fun_mk (st := s__law_box) l19 c19 k19
  have c__law_box : Cal l.prog w K mg base "_law_box" 1 (spBox K) := ⟨⟨_, _, _, ok__law_box T F__law_box, PySem.W.mg_of X G a19, k19, F__law_box.binds fun _ _ _ _ _ _ us hl => match us, hl with | [_], _ => rfl⟩⟩
  have F__law_take := fun_mk (st := s__law_take) l20 c20 k20
  have c__law_take : Cal l.prog w K mg base "_law_take" 1 spTake := ⟨⟨_, _, _, ok__law_take T F__law_take, PySem.W.mg_of X G a20, k20, F__law_take.binds fun _ _ _ _ _ _ us hl => match us, hl with | [_, _], _ => rfl⟩⟩
  have F__law_sizes := fun_mk (st := s__law_sizes) l21 c21 k21
  have c__law_sizes : Cal l.prog w K mg base "_law_sizes" 2 spSizes := ⟨⟨_, _, _, ok__law_sizes T F__law_sizes c__law_take, PySem.W.mg_of X G a21, k21, F__law_sizes.binds fun _ _ _ _ _ _ us hl => match us, hl with | [_], _ => rfl⟩⟩
  have F__law_row := fun_mk (st := s__law_row) l22 c22 k22
  have c__law_row : Cal l.prog w K mg base "_law_row" 2 spRow := ⟨⟨_, _, _, ok__law_row T F__law_row c__law_take, PySem.W.mg_of X G a22, k22, F__law_row.binds fun _ _ _ _ _ _ us hl => match us, hl with | [_, _], _ => rfl⟩⟩
  have F__law_wires := fun_mk (st := s__law_wires) l23 c23 k23
  have c__law_wires : Cal l.prog w K mg base "_law_wires" 2 spWires := ⟨⟨_, _, _, ok__law_wires T F__law_wires c__law_take, PySem.W.mg_of X G a23, k23, F__law_wires.binds fun _ _ _ _ _ _ us hl => match us, hl with | [_, _], _ => rfl⟩⟩
  have F__law_number := fun_mk (st := s__law_number) l24 c24 k24
  have c__law_number : Cal l.prog w K mg base "_law_number" 1 spNumber := ⟨⟨_, _, _, ok__law_number T F__law_number, PySem.W.mg_of X G a24, k24, F__law_number.binds fun _ _ _ _ _ _ us hl => match us, hl with | [_, _], _ => rfl⟩⟩
  have F__law_list := fun_mk (st := s__law_list) l25 c25 k25
  have c__law_list : Cal l.prog w K mg base "_law_list" 2 spList := ⟨⟨_, _, _, ok__law_list T F__law_list c__law_number, PySem.W.mg_of X G a25, k25, F__law_list.binds fun _ _ _ _ _ _ us hl => match us, hl with | [_, _], _ => rfl⟩⟩
  have F__law_under := fun_mk (st := s__law_under) l26 c26 k26
  have c__law_under : Cal l.prog w K mg base "_law_under" 1 spUnder := ⟨⟨_, _, _, ok__law_under T F__law_under, PySem.W.mg_of X G a26, k26, F__law_under.binds fun _ _ _ _ _ _ us hl => match us, hl with | [_, _], _ => rfl⟩⟩
  have F__law_due_order := fun_mk (st := s__law_due_order) l27 c27 k27
  have c__law_due_order : Cal l.prog w K mg base "_law_due_order" 1 spDueOrder := ⟨⟨_, _, _, ok__law_due_order T F__law_due_order, PySem.W.mg_of X G a27, k27, F__law_due_order.binds fun _ _ _ _ _ _ us hl => match us, hl with | [_, _], _ => rfl⟩⟩
  have F__law_same_state := fun_mk (st := s__law_same_state) l28 c28 k28
  have c__law_same_state : Cal l.prog w K mg base "_law_same_state" 2 spSameState := ⟨⟨_, _, _, ok__law_same_state T F__law_same_state c__law_number, PySem.W.mg_of X G a28, k28, F__law_same_state.binds fun _ _ _ _ _ _ us hl => match us, hl with | [_, _], _ => rfl⟩⟩
  have F__law_due_number := fun_mk (st := s__law_due_number) l29 c29 k29
  have c__law_due_number : Cal l.prog w K mg base "_law_due_number" 1 spDueNumber := ⟨⟨_, _, _, ok__law_due_number T F__law_due_number, PySem.W.mg_of X G a29, k29, F__law_due_number.binds fun _ _ _ _ _ _ us hl => match us, hl with | [_, _, _], _ => rfl⟩⟩
  have F__law_due_state := fun_mk (st := s__law_due_state) l30 c30 k30
  have c__law_due_state : Cal l.prog w K mg base "_law_due_state" 1 spDueState := ⟨⟨_, _, _, ok__law_due_state T F__law_due_state, PySem.W.mg_of X G a30, k30, F__law_due_state.binds fun _ _ _ _ _ _ us hl => match us, hl with | [_, _, _], _ => rfl⟩⟩
  have F__law_one_right := fun_mk (st := s__law_one_right) l31 c31 k31
  have c__law_one_right : Cal l.prog w K mg base "_law_one_right" 6 (spOne C) := ⟨⟨_, _, _, ok__law_one_right T F__law_one_right c__law_due_number c_number_of c__law_number c_is_state c_state_of c__law_same_state, PySem.W.mg_of X G a31, k31, F__law_one_right.binds fun _ _ _ _ _ _ us hl => match us, hl with | [_, _, _, _], _ => rfl⟩⟩
  have F__law_ends_right := fun_mk (st := s__law_ends_right) l32 c32 k32
  have c__law_ends_right : Cal l.prog w K mg base "_law_ends_right" 6 (spOne C) := ⟨⟨_, _, _, ok__law_ends_right T F__law_ends_right c_dark_state c_bright_state c__law_due_number c__law_same_state c__law_number c_number_of c_mirror c_lit_lamps c__law_list, PySem.W.mg_of X G a32, k32, F__law_ends_right.binds fun _ _ _ _ _ _ us hl => match us, hl with | [_, _, _, _], _ => rfl⟩⟩
  have F__law_near_right := fun_mk (st := s__law_near_right) l33 c33 k33
  have c__law_near_right : Cal l.prog w K mg base "_law_near_right" 6 (spOne C) := ⟨⟨_, _, _, ok__law_near_right T F__law_near_right c__law_due_number c__law_due_state c_state_of c__law_same_state c_number_of c__law_number, PySem.W.mg_of X G a33, k33, F__law_near_right.binds fun _ _ _ _ _ _ us hl => match us, hl with | [_, _, _, _], _ => rfl⟩⟩
  have F__law_moves_right := fun_mk (st := s__law_moves_right) l34 c34 k34
  have c__law_moves_right : Cal l.prog w K mg base "_law_moves_right" 7 (spMoves C) := ⟨⟨_, _, _, ok__law_moves_right T F__law_moves_right c__law_take c_number_of c__law_one_right, PySem.W.mg_of X G a34, k34, F__law_moves_right.binds fun _ _ _ _ _ _ us hl => match us, hl with | [_, _, _, _, _, _], _ => rfl⟩⟩
  have F__law_odd_number := fun_mk (st := s__law_odd_number) l35 c35 k35
  have c__law_odd_number : Cal l.prog w K mg base "_law_odd_number" 2 spOddNumber := ⟨⟨_, _, _, ok__law_odd_number T F__law_odd_number c__law_take, PySem.W.mg_of X G a35, k35, F__law_odd_number.binds fun _ _ _ _ _ _ us hl => match us, hl with | [_, _, _], _ => rfl⟩⟩
  have F__law_odd_state := fun_mk (st := s__law_odd_state) l36 c36 k36
  have c__law_odd_state : Cal l.prog w K mg base "_law_odd_state" 2 spOddState := ⟨⟨_, _, _, ok__law_odd_state T F__law_odd_state c__law_take, PySem.W.mg_of X G a36, k36, F__law_odd_state.binds fun _ _ _ _ _ _ us hl => match us, hl with | [_, _, _, _], _ => rfl⟩⟩
  have F__law_call := fun_mk (st := s__law_call) l37 c37 k37
  have c__law_call : CalX l.prog w K mg base "_law_call" 6 (spCall C CS) := ⟨⟨_, _, _, ok__law_call T F__law_call x_number_of x_mirror x_lit_lamps, PySem.W.mg_of X G a37, k37, F__law_call.binds fun _ _ _ _ _ _ us hl => match us, hl with | [_, _, _], _ => rfl⟩⟩
  have F__law_state_refused := fun_mk (st := s__law_state_refused) l38 c38 k38
  have c__law_state_refused : CalG l.prog w K mg base "_law_state_refused" 7 (spStateRefused C) := ⟨⟨_, _, _, ok__law_state_refused T TES F__law_state_refused c__law_call c_is_state, PySem.W.mg_of X G a38, k38, F__law_state_refused.binds fun _ _ _ _ _ _ us hl => match us, hl with | [_, _], _ => rfl⟩⟩
  have F__law_number_refused := fun_mk (st := s__law_number_refused) l39 c39 k39
  have c__law_number_refused : CalG l.prog w K mg base "_law_number_refused" 6 (spNumberRefused C) := ⟨⟨_, _, _, ok__law_number_refused T TEN F__law_number_refused x_state_of, PySem.W.mg_of X G a39, k39, F__law_number_refused.binds fun _ _ _ _ _ _ us hl => match us, hl with | [_, _], _ => rfl⟩⟩
  exact ok_law T (fun_mk (st := s_law) l40 c40 k40) c__law_box c__law_sizes c__law_row c__law_wires c__law_take c__law_due_order c_HouseO c__law_due_number c__law_one_right c__law_ends_right c__law_near_right c__law_under c__law_moves_right c__law_odd_number c__law_number_refused c__law_odd_state c__law_state_refused
theorem walk {l : PySem.W.OpenLaw} {q : Program} {loose : List Str} {XP : (Str → Option Value) → Heap → Prop} {YP : World → Heap → Prop} {d : DefRec} {K : Params → PySem.W.Frag} (hn : l.most = some 63) (hdf : d.params.defaults = [])
    (hY : ∀ (w : World) (h : Heap), YP w h → (K w.params).In h)
    (F : ∀ (w : World) (mg : Str → Option Value) (fa : Addr) (h : Heap), (K w.params).In h → h.Ns mainGlobals mg → mg d.name = some (.ref fa) →
      ∃ fd : FuncData, (∀ (s : Shared) (u : Value), BindsTo s fd ⟨[u], []⟩ [("script", u)]) ∧ ∀ base : Heap, (K w.params).In base → base.Ns mainGlobals mg → GOk l.prog w (K w.params) mg base CX0 8 fa fd ["script"] (spLaw (K w.params))) :
    PySem.W.WalkO q loose XP YP l.row.toRowW d [] (fun f vs => PySem.call f vs) :=
  L2.walk_ofG (n := 63) (k := 8) (x := "script") (sp := fun w => spLaw (K w.params)) hn (by decide) hdf ⟨rfl, by decide, by decide⟩ hY F (fun _ _ a ns hl _ hS => ⟨a, ns, rfl, hS, hl, fun _ => rfl⟩)
end Hue

end
section


open PySem PySem.W PyProof.Rows in
set_option maxRecDepth 100000 in
set_option maxHeartbeats 0 in
theorem PySem.Challenge.cw_huefall_k06_whole_state_numbers_holds : PySem.Challenge.rw_huefall_k06_whole_state_numbers.Holds := by
  w_on; o_law; k_head; (case hw => w_witness2)
  k_fill
  refine Hue.walk (l := PySem.Challenge.rw_huefall_k06_whole_state_numbers) rfl rfl (fun w h Y => PySem.W.kIn_of Y) ?F
  case F =>
    intro w mg fa h KX G hmg
    refine' Hue.all_mk KX G hmg ?aC ?a0 ?l0 ?c0 ?k0 ?a1 ?l1 ?c1 ?k1 ?a2 ?l2 ?c2 ?k2 ?a3 ?l3 ?c3 ?k3 ?a4 ?l4 ?c4 ?k4 ?a5 ?l5 ?c5 ?k5 ?a6 ?l6 ?c6 ?k6 ?a7 ?l7 ?c7 ?k7 ?a8 ?l8 ?c8 ?k8 ?a9 ?l9 ?c9 ?k9 ?a10 ?l10 ?c10 ?k10 ?a11 ?l11 ?c11 ?k11 ?a12 ?l12 ?c12 ?k12 ?a13 ?l13 ?c13 ?k13 ?a14 ?l14 ?c14 ?k14 ?a15 ?l15 ?c15 ?k15 ?a16 ?l16 ?c16 ?k16 ?a17 ?l17 ?c17 ?k17 ?a18 ?l18 ?c18 ?k18 ?a19 ?l19 ?c19 ?k19 ?a20 ?l20 ?c20 ?k20 ?a21 ?l21 ?c21 ?k21 ?a22 ?l22 ?c22 ?k22 ?a23 ?l23 ?c23 ?k23 ?a24 ?l24 ?c24 ?k24 ?a25 ?l25 ?c25 ?k25 ?a26 ?l26 ?c26 ?k26 ?a27 ?l27 ?c27 ?k27 ?a28 ?l28 ?c28 ?k28 ?a29 ?l29 ?c29 ?k29 ?a30 ?l30 ?c30 ?k30 ?a31 ?l31 ?c31 ?k31 ?a32 ?l32 ?c32 ?k32 ?a33 ?l33 ?c33 ?k33 ?a34 ?l34 ?c34 ?k34 ?a35 ?l35 ?c35 ?k35 ?a36 ?l36 ?c36 ?k36 ?a37 ?l37 ?c37 ?k37 ?a38 ?l38 ?c38 ?k38 ?a39 ?l39 ?c39 ?k39 ?a40 ?l40 ?c40 ?k40 ?aM0 ?iM0 ?lM0 ?cM0 ?kM0 ?aI ?iI ?lI ?cI ?kI ?lT ?lE ?eE ?pg ?hd ?po ?sa ?mk ?kc ?nCount ?nHues ?nBen ?nWires ?nAbove ?nDirect ?nOrder ?rd ?ga ?v1 ?r1 ?v2 ?r2 ?b_len ?b_range ?b_isinstance ?b_int ?b_bool ?b_tuple ?b_list ?b_set ?b_enumerate ?b_sorted ?b_min ?b_all ?b_abs ?b_reversed ?b_max ?b_str ?b_repr ?xaE ?xeE ?xiE ?xtE ?xa_CS ?xi_CS ?xt_CS ?xa_CZ1 ?xi_CZ1 ?xt_CZ1 ?xa_CZ2 ?xi_CZ2 ?xt_CZ2 ?xa_CN ?xi_CN ?xt_CN ?xlS ?xsaS ?xgaS ?xggS ?xcaS ?xnlS ?xinS ?xtyS ?xlxS ?xcxS ?xkxS ?xkcS ?xebS ?xhdS ?xmrS ?xssS ?xseS ?xsS0 ?xsS1 ?xsS2 ?xlN ?xsaN ?xgaN ?xggN ?xcaN ?xnlN ?xinN ?xtyN ?xlxN ?xcxN ?xkxN ?xkcN ?xebN ?xhdN ?xmrN ?xssN ?xseN ?xsN0 ?xsN1 ?xsN2 ?xgs ?xtk
    (case aC => k_is)
    (case a0 => k_is)
    (case l0 => k_is)
    (case c0 => k_is)
    (case k0 => k_is)
    (case a1 => k_is)
    (case l1 => k_is)
    (case c1 => k_is)
    (case k1 => k_is)
    (case a2 => k_is)
    (case l2 => k_is)
    (case c2 => k_is)
    (case k2 => k_is)
    (case a3 => k_is)
    (case l3 => k_is)
    (case c3 => k_is)
    (case k3 => k_is)
    (case a4 => k_is)
    (case l4 => k_is)
    (case c4 => k_is)
    (case k4 => k_is)
    (case a5 => k_is)
    (case l5 => k_is)
    (case c5 => k_is)
    (case k5 => k_is)
    (case a6 => k_is)
    (case l6 => k_is)
    (case c6 => k_is)
    (case k6 => k_is)
    (case a7 => k_is)
    (case l7 => k_is)
    (case c7 => k_is)
    (case k7 => k_is)
    (case a8 => k_is)
    (case l8 => k_is)
    (case c8 => k_is)
    (case k8 => k_is)
    (case a9 => k_is)
    (case l9 => k_is)
    (case c9 => k_is)
    (case k9 => k_is)
    (case a10 => k_is)
    (case l10 => k_is)
    (case c10 => k_is)
    (case k10 => k_is)
    (case a11 => k_is)
    (case l11 => k_is)
    (case c11 => k_is)
    (case k11 => k_is)
    (case a12 => k_is)
    (case l12 => k_is)
    (case c12 => k_is)
    (case k12 => k_is)
    (case a13 => k_is)
    (case l13 => k_is)
    (case c13 => k_is)
    (case k13 => k_is)
    (case a14 => k_is)
    (case l14 => k_is)
    (case c14 => k_is)
    (case k14 => k_is)
    (case a15 => k_is)
    (case l15 => k_is)
    (case c15 => k_is)
    (case k15 => k_is)
    (case a16 => k_is)
    (case l16 => k_is)
    (case c16 => k_is)
    (case k16 => k_is)
    (case a17 => k_is)
    (case l17 => k_is)
    (case c17 => k_is)
    (case k17 => k_is)
    (case a18 => k_is)
    (case l18 => k_is)
    (case c18 => k_is)
    (case k18 => k_is)
    (case a19 => k_is)
    (case l19 => k_is)
    (case c19 => k_is)
    (case k19 => k_is)
    (case a20 => k_is)
    (case l20 => k_is)
    (case c20 => k_is)
    (case k20 => k_is)
    (case a21 => k_is)
    (case l21 => k_is)
    (case c21 => k_is)
    (case k21 => k_is)
    (case a22 => k_is)
    (case l22 => k_is)
    (case c22 => k_is)
    (case k22 => k_is)
    (case a23 => k_is)
    (case l23 => k_is)
    (case c23 => k_is)
    (case k23 => k_is)
    (case a24 => k_is)
    (case l24 => k_is)
    (case c24 => k_is)
    (case k24 => k_is)
    (case a25 => k_is)
    (case l25 => k_is)
    (case c25 => k_is)
    (case k25 => k_is)
    (case a26 => k_is)
    (case l26 => k_is)
    (case c26 => k_is)
    (case k26 => k_is)
    (case a27 => k_is)
    (case l27 => k_is)
    (case c27 => k_is)
    (case k27 => k_is)
    (case a28 => k_is)
    (case l28 => k_is)
    (case c28 => k_is)
    (case k28 => k_is)
    (case a29 => k_is)
    (case l29 => k_is)
    (case c29 => k_is)
    (case k29 => k_is)
    (case a30 => k_is)
    (case l30 => k_is)
    (case c30 => k_is)
    (case k30 => k_is)
    (case a31 => k_is)
    (case l31 => k_is)
    (case c31 => k_is)
    (case k31 => k_is)
    (case a32 => k_is)
    (case l32 => k_is)
    (case c32 => k_is)
    (case k32 => k_is)
    (case a33 => k_is)
    (case l33 => k_is)
    (case c33 => k_is)
    (case k33 => k_is)
    (case a34 => k_is)
    (case l34 => k_is)
    (case c34 => k_is)
    (case k34 => k_is)
    (case a35 => k_is)
    (case l35 => k_is)
    (case c35 => k_is)
    (case k35 => k_is)
    (case a36 => k_is)
    (case l36 => k_is)
    (case c36 => k_is)
    (case k36 => k_is)
    (case a37 => k_is)
    (case l37 => k_is)
    (case c37 => k_is)
    (case k37 => k_is)
    (case a38 => k_is)
    (case l38 => k_is)
    (case c38 => k_is)
    (case k38 => k_is)
    (case a39 => k_is)
    (case l39 => k_is)
    (case c39 => k_is)
    (case k39 => k_is)
    (case a40 => k_is)
    (case l40 => k_is)
    (case c40 => k_is)
    (case k40 => k_is)
    (case aM0 => k_is)
    (case iM0 => k_is)
    (case lM0 => k_is)
    (case cM0 => k_is)
    (case kM0 => k_is)
    (case aI => k_is)
    (case iI => k_is)
    (case lI => k_is)
    (case cI => k_is)
    (case kI => k_is)
    (case lT => k_is)
    (case lE => k_is)
    (case eE => rfl)
    (case pg => k_is)
    (case hd => k_is)
    (case po => k_is)
    (case sa => k_is)
    (case mk => k_is)
    (case kc => k_is)
    (case nCount => k_is)
    (case nHues => k_is)
    (case nBen => k_is)
    (case nWires => k_is)
    (case nAbove => k_is)
    (case nDirect => k_is)
    (case nOrder => k_is)
    (case rd => k_is)
    (case ga => k_is)
    (case v1 => k_is)
    (case r1 => exact ⟨_, rfl⟩)
    (case v2 => k_is)
    (case r2 => exact ⟨_, rfl⟩)
    (case b_len => k_is)
    (case b_range => k_is)
    (case b_isinstance => k_is)
    (case b_int => k_is)
    (case b_bool => k_is)
    (case b_tuple => k_is)
    (case b_list => k_is)
    (case b_set => k_is)
    (case b_enumerate => k_is)
    (case b_sorted => k_is)
    (case b_min => k_is)
    (case b_all => k_is)
    (case b_abs => k_is)
    (case b_reversed => k_is)
    (case b_max => k_is)
    (case b_str => k_is)
    (case b_repr => k_is)
    (case xaE => first | k_is | rfl)
    (case xeE => first | k_is | rfl)
    (case xiE => first | k_is | rfl)
    (case xtE => first | k_is | rfl)
    (case xa_CS => first | k_is | rfl)
    (case xi_CS => first | k_is | rfl)
    (case xt_CS => first | k_is | rfl)
    (case xa_CZ1 => first | k_is | rfl)
    (case xi_CZ1 => first | k_is | rfl)
    (case xt_CZ1 => first | k_is | rfl)
    (case xa_CZ2 => first | k_is | rfl)
    (case xi_CZ2 => first | k_is | rfl)
    (case xt_CZ2 => first | k_is | rfl)
    (case xa_CN => first | k_is | rfl)
    (case xi_CN => first | k_is | rfl)
    (case xt_CN => first | k_is | rfl)
    (case xlS => first | k_is | rfl)
    (case xsaS => first | k_is | rfl)
    (case xgaS => first | k_is | rfl)
    (case xggS => first | k_is | rfl)
    (case xcaS => first | k_is | rfl)
    (case xnlS => first | k_is | rfl)
    (case xinS => first | k_is | rfl)
    (case xtyS => first | k_is | rfl)
    (case xlxS => first | k_is | rfl)
    (case xcxS => first | k_is | rfl)
    (case xkxS => first | k_is | rfl)
    (case xkcS => first | k_is | rfl)
    (case xebS => first | k_is | rfl)
    (case xhdS => first | k_is | rfl)
    (case xmrS => first | k_is | rfl)
    (case xssS => first | k_is | rfl)
    (case xseS => first | k_is | rfl)
    (case xsS0 => first | k_is | rfl)
    (case xsS1 => first | k_is | rfl)
    (case xsS2 => first | k_is | rfl)
    (case xlN => first | k_is | rfl)
    (case xsaN => first | k_is | rfl)
    (case xgaN => first | k_is | rfl)
    (case xggN => first | k_is | rfl)
    (case xcaN => first | k_is | rfl)
    (case xnlN => first | k_is | rfl)
    (case xinN => first | k_is | rfl)
    (case xtyN => first | k_is | rfl)
    (case xlxN => first | k_is | rfl)
    (case xcxN => first | k_is | rfl)
    (case xkxN => first | k_is | rfl)
    (case xkcN => first | k_is | rfl)
    (case xebN => first | k_is | rfl)
    (case xhdN => first | k_is | rfl)
    (case xmrN => first | k_is | rfl)
    (case xssN => first | k_is | rfl)
    (case xseN => first | k_is | rfl)
    (case xsN0 => first | k_is | rfl)
    (case xsN1 => first | k_is | rfl)
    (case xsN2 => first | k_is | rfl)
    (case xgs => first | k_is | rfl)
    (case xtk => first | k_is | rfl)

end
